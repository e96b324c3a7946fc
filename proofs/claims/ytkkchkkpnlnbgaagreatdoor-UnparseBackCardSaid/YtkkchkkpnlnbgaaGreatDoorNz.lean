/- The parser: pipeline, andOr, anyList, script. No premises. -/
import Derived.Test.YtkkchkkpnlnbgaaGreatDoorNy
import Derived.Test.YtkkchkkpnlnbgaaGreatDoorNk
import Derived.Test.YtkkchkkpnlnbgaaGreatDoorNn
set_option maxRecDepth 100000
set_option maxHeartbeats 3200000
namespace Go.Proofs.YtkkchkkpnlnbgaaGreatDoor
open Go.RowKit Go.Maps
open Lx (Tok nl)
namespace Pz
section
variable {W:World} {X:Nat→Prop} {g:Nat} {C:Ctx} {σ:Sx.St} {n:Nat} {a:Sx.M Nat}
theorem pipeline_v (hL:Lev g C n a) (h:PMem W X g C σ) (hX:XL X W) (hF:Fit σ) (hn:σ.r.length<n):Calls Tryz.prog 100 #[.pointer (some ⟨g,0,none⟩)] W (StR X W g C (Sx.pipeline a n σ) natV):=by
 have HL:=Lib.hid hL
 have HN:=Lib.hid hn
 have HFT0:=Lib.hid hF
 have HXL0:=Lib.hid hX
 have HM0:=Lib.hid h
 have HC:=Lib.hid h.ctx
 have HFR0:=Lib.hid (Fr.refl X W)
 have HW0:=Lib.hid (Sx.Wk.refl hF.good)
 have hf0:=fld0
 have hf1:=fld1
 have hf3:=fld3
 have HXB:=Lib.hid hX
 clear hL hn hF hX h
 go_enter Tryz.func100,Tryz.ntmps100
 go_wp2_with (first
   |(go_at_call 64;(with_reducible refine(line_v HM0.out HFT0.out.ne).mono ?_);rintro e w1 ⟨rfl,hl⟩;have HW1:=Lib.hid (HW0.out);have HFT1:=Lib.hid (HFT0.out);have HM1:=Lib.hid (HM0.out.later hl);have HFR1:=Lib.hid (HFR0.out.thenLater hl);have HXL1:=Lib.hid (HXL0.out.mono hl.size);clear hl;unfold lnv)
   |(refine wpList_allocO 3 rfl rfl 37 rfl _ _ info_node ?_;intro w8 hb hl hz;have HB8:=Lib.hid (hb);have HL8:=Lib.hid (hl);clear hb hl hz)
   |(refine wpList_storeO rfl 37 (.tmp 3) (.tmp 6) rfl w1.heap.size _ (ncs ({ kind:=2,left:=(Sx.hd σ).left }:Sx.Node) v0 (lnv C.N (Sx.hd σ).left)).toArray rfl rfl HB8.out size_node rfl (ncs_all (Nest.v0 W _ rfl rfl rfl) rfl) ?_;intro w9 hb hg hz;have HP2:=Lib.hid (PLoc.made (W0:=W) (X:=X) (HM1.out.sub (Y:=plus X (blks v0)) (fun b hb=>hb.resolve_right (by simp[blks_v0])) (CtxX.more HC.out _)) HC.out HFR1.out (Nest.v0 _ _ rfl rfl rfl) (by simp[blks_v0]) HL8.out hg hb);have HW2:=Lib.hid (HW1.out);have HFT2:=Lib.hid (HFT1.out);clear hb hg hz HB8 HL8)
   |(go_at_call 57;(with_reducible refine(passed_v ⟨#[33]⟩ [33] rfl (HP2.out.mem) HFT2.out.ne).mono ?_);intro e w3 hh;refine StR.cases hh (fun nn kk hx he hf=>by subst he;exact absurd hx (passed_ne _ _ _)) (fun f σ3 hx he hm hf=>?_);subst he;clear hh;have HX3:=Lib.hid (hx);have HW3:=Lib.hid (HW2.out.trans (Sx.passed_wk (by decide) HFT2.out.good hx) (k:=1) (by omega));have HP3:=Lib.hid (HP2.out.call hm hf);have HFT3:=Lib.hid (HFT0.out.wk HW3.out (by omega));clear hx hm hf;have HPF:=Lib.hid (HP3.out.set HXB.out 2 (.bool f) (n':=({ kind:=2,flag:=f,left:=(Sx.hd σ).left }:Sx.Node)) (ln':=lnv C.N (Sx.hd σ).left) rfl rfl rfl rfl);obtain⟨q2,z2⟩:=HP3.out.cell 2;simp only[ncs,List.getElem?_cons_succ,List.getElem?_cons_zero] at q2))
 have hpd:=HPF.out.later (Later.drew _)
 have hcl:=command_v HL.out hpd.mem (hpd.xl HXB.out) HFT3.out (by have h8:=HW3.out.le;have h9:=HN.out;omega)
 refine apK "syntax.go:219" 3 121 3 10 HPF.out HXB.out HC.out (entO Tryz.func121 rfl rfl) rfl rfl (by kernel_rfl) rfl rfl (by simp) (Sx.command a n σ3) hcl (fun nn kk w' hm0 hf9 a9 hd9=>?_) ?_
 ·refine bodyPost_panic (P:=Tryz.prog) (fn:=Tryz.f100) hd9 ?_
  rw[show Sx.pipeline a n σ=.error (nn,kk) by simp only[Sx.pipeline,Sx.bnd,HX3.out,hm0]]
  exact⟨rfl,hf9⟩
 intro k0 σz0 hk0 a9 wz0 vz0 hp0 hd hsz hfree
 have HK0:=Lib.hid hk0
 have HPZ0:=Lib.hid hp0
 have HWZ0:=Lib.hid (HW3.out.trans (Sx.command_un HL.out.un n HFT3.out.good hk0) (k:=8) (by omega))
 clear hk0 hcl hpd hp0 q2 z2
 obtain⟨u10,hu10⟩:∃ u,u=a9.tmps.getD 10 undef:=⟨_,rfl⟩
 obtain⟨u11,hu11⟩:∃ u,u=a9.tmps.getD 11 undef:=⟨_,rfl⟩
 obtain⟨u12,hu12⟩:∃ u,u=a9.tmps.getD 12 undef:=⟨_,rfl⟩
 obtain⟨u13,hu13⟩:∃ u,u=a9.tmps.getD 13 undef:=⟨_,rfl⟩
 obtain⟨u14,hu14⟩:∃ u,u=a9.tmps.getD 14 undef:=⟨_,rfl⟩
 obtain⟨u15,hu15⟩:∃ u,u=a9.tmps.getD 15 undef:=⟨_,rfl⟩
 obtain⟨u16,hu16⟩:∃ u,u=a9.tmps.getD 16 undef:=⟨_,rfl⟩
 have hal:AllAt a9 0 [.pointer (some ⟨g,0,none⟩),_,_,.pointer (some ⟨w1.heap.size,0,none⟩),_,_,_,_,_,_,u10,u11,u12,u13,u14,u15,u16,_,_,_,_,_,_,_,_,_,_,_,_,_,_,_,_,_,_,_,_,_,_,_,_,_,_,_]:=⟨hfree 0 rfl,hfree 1 rfl,hfree 2 rfl,hfree 3 rfl,hfree 4 rfl,hfree 5 rfl,hfree 6 rfl,hfree 7 rfl,hfree 8 rfl,hfree 9 rfl,hu10.symm,hu11.symm,hu12.symm,hu13.symm,hu14.symm,hu15.symm,hu16.symm,hfree 17 rfl,hfree 18 rfl,hfree 19 rfl,hfree 20 rfl,hfree 21 rfl,hfree 22 rfl,hfree 23 rfl,hfree 24 rfl,hfree 25 rfl,hfree 26 rfl,hfree 27 rfl,hfree 28 rfl,hfree 29 rfl,hfree 30 rfl,hfree 31 rfl,hfree 32 rfl,hfree 33 rfl,hfree 34 rfl,hfree 35 rfl,hfree 36 rfl,hfree 37 rfl,hfree 38 rfl,hfree 39 rfl,hfree 40 rfl,hfree 41 rfl,hfree 42 rfl,hfree 43 rfl,trivial⟩
 have hlit:=fun h=>act_lit hd h hal
 rw[hlit hsz]
 clear hlit hal hd hsz hfree hu10 hu11 hu12 hu13 hu14 hu15 hu16
 go_wp2
 go_loopw [] (fun wr=>∃ (σr:Sx.St) (ks ls:List Nat) (v:Vals) (m:Nat),Sx.pipeF a n n [k0] σz0=Sx.pipeF a n m ks σr∧σr.r.length<m∧Sx.Wk 8 σ σr ls∧ks.length+σr.r.length≤5001∧0<ks.length∧PLoc W X g C w1.heap.size (lnv C.N (Sx.hd σ).left) ({ kind:=2,flag:=f,kids:=ks,left:=(Sx.hd σ).left }:Sx.Node) v σr wr) (fun wr=>C.TS.length-atP g wr)
 case atStart=>exact⟨σz0,[k0],_,vz0,n,rfl,by have h1:=HWZ0.out.len (by omega);have h2:=HN.out;omega,HWZ0.out,by have:=HPZ0.out.mem.few;simp;omega,by simp,HPZ0.out⟩
 case round=>
  obtain⟨σr,ks,ls,v,m,hq,hm,hw,hfw,hks,hp⟩:=hrel
  have HQ:=Lib.hid hq
  have HMM:=Lib.hid hm
  have HWR:=Lib.hid hw
  have HFW:=Lib.hid hfw
  have HKS:=Lib.hid hks
  have HPR:=Lib.hid hp
  have HFTR:=Lib.hid (HFT0.out.wk HWR.out (by omega))
  clear hq hm hw hfw hks hp
  have hpv:=passed_v ⟨#[124]⟩ [124] rfl HPR.out.mem HFTR.out.ne
  by_cases hb:Sx.isT [124] σr=true
  ·
   have hps:Sx.passed [124] σr=.ok (true,Sx.go σr):=by unfold Sx.passed;rw[if_pos hb]
   rw[hps] at hpv
   have HPV:=Lib.hid hpv
   have HPS:=Lib.hid hps
   have HWG:=Lib.hid (Sx.Wk.go HFTR.out.good (.inl (Sx.isT_text hb (by decide))))
   have HFG:=Lib.hid (HFTR.out.wk HWG.out (by omega))
   have HWL:=Lib.hid (HWG.out.trans (Sx.Wk.dl HWG.out.gd) (k:=9) (by omega))
   have HFL:=Lib.hid (HFTR.out.wk HWL.out (by omega))
   clear hpv hps hb
   go_wp2_with (first
    |(go_at_call 57;(with_reducible refine HPV.out.mono ?_);rintro e w5 ⟨rfl,hm,hf⟩;have HP5:=Lib.hid (HPR.out.call hm hf);clear hm hf)
    |(go_at_call 58;(with_reducible refine(lines_v HP5.out.mem HFG.out.good).mono ?_);rintro e w6 ⟨rfl,hm,hf⟩;have HP6:=Lib.hid (HP5.out.call hm hf);clear hm hf))
   have hpd:=HP6.out.later (Later.drew _)
   have hcl:=command_v HL.out hpd.mem (hpd.xl HXB.out) HFL.out (by have h7:=HWL.out.le;have h8:=HWR.out.le;have h9:=HN.out;omega)
   refine apK "syntax.go:222" 3 121 3 21 HP6.out HXB.out HC.out (entO Tryz.func121 rfl rfl) rfl rfl (by kernel_rfl) rfl rfl (by have:=HFW.out;simp only;omega) (Sx.command a n (Sx.dl (Sx.go σr))) hcl (fun nn kk w' hm0 hf9 a9 hd9=>?_) ?_
   ·refine bodyPost_panic (P:=Tryz.prog) (fn:=Tryz.f100) hd9 ?_
    have he:Sx.pipeF a n n [k0] σz0=.error (nn,kk):=by rw[HQ.out];obtain⟨m2,rfl⟩:∃ m2,m=m2+1:=⟨m-1,by have:=HMM.out;omega⟩;simp only[Sx.pipeF,Sx.bnd,HPS.out,if_true,Sx.lines,hm0]
    rw[show Sx.pipeline a n σ=.error (nn,kk) by simp only[Sx.pipeline,Sx.bnd,HX3.out,HK0.out,he]]
    exact⟨rfl,hf9⟩
   intro k σz hk a9 wz vz hp9 hd hsz hfree
   have HK:=Lib.hid hk
   have HPZ:=Lib.hid hp9
   have HU:=Lib.hid (HWL.out.trans (Sx.command_un HL.out.un n HFL.out.good hk) (k:=16) (by omega))
   clear hk hcl hpd hp9
   obtain⟨u21,hu21⟩:∃ u,u=a9.tmps.getD 21 undef:=⟨_,rfl⟩
   obtain⟨u22,hu22⟩:∃ u,u=a9.tmps.getD 22 undef:=⟨_,rfl⟩
   obtain⟨u23,hu23⟩:∃ u,u=a9.tmps.getD 23 undef:=⟨_,rfl⟩
   obtain⟨u24,hu24⟩:∃ u,u=a9.tmps.getD 24 undef:=⟨_,rfl⟩
   obtain⟨u25,hu25⟩:∃ u,u=a9.tmps.getD 25 undef:=⟨_,rfl⟩
   obtain⟨u26,hu26⟩:∃ u,u=a9.tmps.getD 26 undef:=⟨_,rfl⟩
   obtain⟨u27,hu27⟩:∃ u,u=a9.tmps.getD 27 undef:=⟨_,rfl⟩
   have hal:AllAt a9 0 [.pointer (some ⟨g,0,none⟩),_,_,.pointer (some ⟨w1.heap.size,0,none⟩),_,_,_,_,_,_,_,_,_,_,_,_,_,_,_,_,_,u21,u22,u23,u24,u25,u26,u27,_,_,_,_,_,_,_,_,_,_,_,_,_,_,_,_]:=⟨hfree 0 rfl,hfree 1 rfl,hfree 2 rfl,hfree 3 rfl,hfree 4 rfl,hfree 5 rfl,hfree 6 rfl,hfree 7 rfl,hfree 8 rfl,hfree 9 rfl,hfree 10 rfl,hfree 11 rfl,hfree 12 rfl,hfree 13 rfl,hfree 14 rfl,hfree 15 rfl,hfree 16 rfl,hfree 17 rfl,hfree 18 rfl,hfree 19 rfl,hfree 20 rfl,hu21.symm,hu22.symm,hu23.symm,hu24.symm,hu25.symm,hu26.symm,hu27.symm,hfree 28 rfl,hfree 29 rfl,hfree 30 rfl,hfree 31 rfl,hfree 32 rfl,hfree 33 rfl,hfree 34 rfl,hfree 35 rfl,hfree 36 rfl,hfree 37 rfl,hfree 38 rfl,hfree 39 rfl,hfree 40 rfl,hfree 41 rfl,hfree 42 rfl,hfree 43 rfl,trivial⟩
   have hlit:=fun h=>act_lit hd h hal
   rw[hlit hsz]
   clear hlit hal hd hsz hfree hu21 hu22 hu23 hu24 hu25 hu26 hu27
   go_wp2
   go_roundw
   case rel=>
    obtain⟨m2,hm2⟩:∃ m2,m=m2+1:=⟨m-1,by have:=HMM.out;omega⟩
    have h2:=HU.out.len (by omega)
    refine⟨σz,ks++[k],_,vz,m2,?_,by have:=HMM.out;omega,HWR.out.trans HU.out (by omega),by have:=HFW.out;simp;omega,by simp,HPZ.out⟩
    rw[HQ.out,hm2]
    simp only[Sx.pipeF,Sx.bnd,HPS.out,if_true,Sx.lines,HK.out]
   case measure=>
    rw[HPZ.out.mem.left,HPR.out.mem.left]
    exact HU.out.len (by omega)
  ·
   have hps:Sx.passed [124] σr=.ok (false,σr):=by unfold Sx.passed;rw[if_neg hb]
   rw[hps] at hpv
   have HPV:=Lib.hid hpv
   have HPE:=Lib.hid (show Sx.pipeF a n n [k0] σz0=.ok (ks,σr) by rw[HQ.out];obtain⟨m2,rfl⟩:∃ m2,m=m2+1:=⟨m-1,by have:=HMM.out;omega⟩;simp only[Sx.pipeF,Sx.bnd,hps,Bool.false_eq_true,if_false,Sx.ret])
   clear hpv hps hb
   by_cases h1:f=false∧ks.length=1
   ·obtain⟨rfl,h1⟩:=h1
    obtain⟨k1,rfl⟩:∃ k1,ks=[k1]:=List.length_eq_one_iff.1 h1
    clear h1
    go_wp2_with (first
     |(go_at_call 57;(with_reducible refine HPV.out.mono ?_);rintro e w5 ⟨rfl,hm,hf⟩;have hp5:=HPR.out.call hm hf;clear hm hf;obtain⟨q2,z2⟩:=hp5.cell 2;obtain⟨q6,z6⟩:=hp5.cell 6;have hk:=hp5.nest.k;obtain⟨h2,⟨_,h2'⟩ | ⟨gk,cap,cur,hvk,h3,h4,h5,h6,h7,h8⟩⟩:=hk;exact absurd h2' (by simp);have qk:=(show w5.ownsRow 0 3 1 v.k 1 [iv k1] from hp5.nest.k).cells (g:=gk) (by rw[hvk];rfl) 0 (iv k1) rfl;rw[add_lit0] at qk;unfold iv at qk;simp only[ncs,List.getElem?_cons_succ,List.getElem?_cons_zero,List.length_cons,List.length_nil] at q2 q6 hvk;rw[hvk] at q6;have HP5:=Lib.hid hp5;clear hp5 hvk h2 h3 h4 h5 h6 h7 h8))
    go_ret
    rw[show Sx.pipeline a n σ=.ok (k1,σr) by simp only[Sx.pipeline,Sx.bnd,HX3.out,HK0.out,HPE.out,List.length_cons,List.length_nil,and_self,if_true,Sx.ret,List.headD_cons]]
    exact⟨rfl,HP5.out.mem.less HC.out,HP5.out.fr⟩
   ·have HNE:=Lib.hid h1
    have HAD:∀ w,PLoc W X g C w1.heap.size (lnv C.N (Sx.hd σ).left) ({ kind:=2,flag:=f,kids:=ks,left:=(Sx.hd σ).left }:Sx.Node) v σr w→Calls Tryz.prog 67 #[.pointer (some ⟨g,0,none⟩),.agg (ncs ({ kind:=2,flag:=f,kids:=ks,left:=(Sx.hd σ).left }:Sx.Node) v (lnv C.N (Sx.hd σ).left)).toArray] w _:=fun w hp=>add_v ({ kind:=2,flag:=f,kids:=ks,left:=(Sx.hd σ).left }:Sx.Node) v _ rfl (hp.addable HC.out) HC.out (HXB.out.mono hp.fr.size) hp.nest (fun b hb=>hp.notX HXB.out b (List.mem_cons_of_mem _ hb)) HFTR.out.nodes
    have HADD:=Lib.hid HAD
    clear HAD
    obtain⟨A,c9,hvk,hc9⟩:=own_any HPR.out.nest.k
    have HVK:=Lib.hid hvk
    have hkl:(ks.length:Int)≤6000:=by have:=HFW.out;omega
    have HB:(f=true∧True)∨(f=false∧((ks.length:Int)==1)=false):=by
     cases f with
     | true=>exact .inl ⟨rfl,trivial⟩
     | false=>exact .inr ⟨rfl,by simp;intro e;exact h1 ⟨rfl,by omega⟩⟩
    clear h1 hvk hc9
    have HEQ:=Lib.hid (show Sx.pipeline a n σ=Sx.add ({ kind:=2,flag:=f,kids:=ks,left:=(Sx.hd σ).left }:Sx.Node) σr by simp only[Sx.pipeline,Sx.bnd,HX3.out,HK0.out,HPE.out,if_neg HNE.out])
    rcases HB with⟨rfl,-⟩ | ⟨rfl,hk1⟩
    all_goals
     go_wp2_with (first
      |(go_at_call 57;(with_reducible refine HPV.out.mono ?_);rintro e w5 ⟨rfl,hm,hf⟩;have HP5:=Lib.hid (HPR.out.call hm hf);clear hm hf;obtain⟨q2,z2⟩:=HP5.out.cell 2;obtain⟨q6,z6⟩:=HP5.out.cell 6;simp only[ncs,List.getElem?_cons_succ,List.getElem?_cons_zero,HVK.out] at q2 q6)
      |(refine wpList_loadO rfl 37 (.tmp 3) rfl w1.heap.size _ _ rfl HP5.out.box Tryz.underlying37 rfl size_node ?_)
      |(go_at_call 67;(with_reducible refine(HADD.out _ HP5.out).mono ?_);rintro e wz ⟨rfl,hmz,hfz⟩))
     go_ret
     rw[HEQ.out]
     exact⟨rfl,hmz,HP5.out.fr.trans hfz⟩
theorem andOr_v (hL:Lev g C n a) (h:PMem W X g C σ) (hX:XL X W) (hF:Fit σ) (hn:σ.r.length<n):Calls Tryz.prog 66 #[.pointer (some ⟨g,0,none⟩)] W (StR X W g C (Sx.andOr a n σ) natV):=by
 have HL:=Lib.hid hL
 have HN:=Lib.hid hn
 have HFT0:=Lib.hid hF
 have HXL0:=Lib.hid hX
 have HM0:=Lib.hid h
 have HC:=Lib.hid h.ctx
 have HFR0:=Lib.hid (Fr.refl X W)
 have HW0:=Lib.hid (Sx.Wk.refl hF.good)
 have hf0:=fld0
 have hf1:=fld1
 have hf3:=fld3
 have HXB:=Lib.hid hX
 clear hL hn hF hX h
 go_enter Tryz.func66,Tryz.ntmps66
 go_wp2_with (first
   |(go_at_call 64;(with_reducible refine(line_v HM0.out HFT0.out.ne).mono ?_);rintro e w1 ⟨rfl,hl⟩;have HW1:=Lib.hid (HW0.out);have HFT1:=Lib.hid (HFT0.out);have HM1:=Lib.hid (HM0.out.later hl);have HFR1:=Lib.hid (HFR0.out.thenLater hl);have HXL1:=Lib.hid (HXL0.out.mono hl.size);clear hl;unfold lnv)
   |(go_at_call 100;(with_reducible refine(pipeline_v HL.out HM1.out HXL1.out HFT1.out (by have h9:=HN.out;omega)).mono ?_);intro e w2 hh;refine StR.cases hh (fun nn kk hx he hf=>by subst he;refine bodyPost_panic (P:=Tryz.prog) (fn:=Tryz.f66) rfl ?_;rw[show Sx.andOr a n σ=.error (nn,kk) by simp only[Sx.andOr,Sx.bnd,hx]];exact⟨rfl,HFR1.out.trans hf⟩) (fun i0 σ2 hx he hm hf=>?_);subst he;clear hh;have HX2:=Lib.hid (hx);have HW2:=Lib.hid (HW1.out.trans (Sx.pipeline_un HL.out.un n HFT1.out.good hx) (k:=7) (by omega));have HM2:=Lib.hid (hm);have HFR2:=Lib.hid (HFR1.out.trans hf);have HXL2:=Lib.hid (HXL1.out.mono hf.size);have HFT2:=Lib.hid (HFT0.out.wk HW2.out (by omega));clear hx hm hf;unfold natV))
 go_loopw [4,5,6] (fun iv _ _ wr=>∃ (σr:Sx.St) (i m:Nat),iv=.int .i64 (i:Int)∧Sx.aoF a n (Sx.hd σ).left n i0 σ2=Sx.aoF a n (Sx.hd σ).left m i σr∧σr.r.length<m∧Sx.Wk 7 σ σr [i]∧PMem wr X g C σr∧Fr X W wr) (fun _ _ _ wr=>C.TS.length-atP g wr)
 case atStart=>exact⟨σ2,i0,n,rfl,rfl,by have h1:=HW2.out.len (by omega);have h2:=HN.out;omega,by have:=HW2.out;simpa using this,HM2.out,HFR2.out⟩
 case round=>
  obtain⟨σr,i,m,rfl,hq,hm,hw,hp,hfr⟩:=hrel
  have HQ:=Lib.hid hq
  have HMM:=Lib.hid hm
  have HWR:=Lib.hid hw
  have HPR:=Lib.hid hp
  have HFRR:=Lib.hid hfr
  have HFTR:=Lib.hid (HFT0.out.wk HWR.out (by omega))
  clear hq hm hw hp hfr
  have HI1:=Lib.hid (is_v ⟨#[38,38]⟩ [38,38] rfl HPR.out HFTR.out.ne)
  have HI2:=Lib.hid (fun w (hl:Later wr w)=>is_v ⟨#[124,124]⟩ [124,124] rfl (HPR.out.later hl) HFTR.out.ne)
  by_cases hb:Sx.isT [38,38] σr=true∨Sx.isT [124,124] σr=true
  ·
   have HB:=Lib.hid hb
   have HGO:=Lib.hid (Sx.Wk.go HFTR.out.good (.inl (by rcases hb with e | e;exact Sx.isT_text e (by decide);exact Sx.isT_text e (by decide))))
   have HFG:=Lib.hid (HFTR.out.wk HGO.out (by omega))
   have HWL:=Lib.hid (HGO.out.trans (Sx.Wk.dl HGO.out.gd) (k:=9) (by omega))
   have HFL:=Lib.hid (HFTR.out.wk HWL.out (by omega))
   have HT:=Lib.hid (show tcs C.N (Sx.hd σr)=#[.int .i64 ((Sx.hd σr).kind:Int),.string (mkS (Sx.hd σr).text),.string (mkS (Sx.hd σr).body),.int .i64 ((1+C.N-(Sx.hd σr).left:Nat):Int)] from rfl)
   have hor:((mkS (Sx.hd σr).text).toList==[124,124])=Sx.isT [124,124] σr:=txt_eq _ _
   obtain⟨b1,hb1⟩:∃ b1,b1=Sx.isT [38,38] σr:=⟨_,rfl⟩
   obtain⟨b2,hb2⟩:∃ b2,b2=Sx.isT [124,124] σr:=⟨_,rfl⟩
   have HK2:=Lib.hid (show (if Sx.isT [124,124] σr=true then 4 else 3)=(if b2=true then 4 else 3) by rw[hb2])
   have hbb:b1=true∨b2=true:=by rw[hb1,hb2];exact hb
   rw[←hb1] at HI1
   rw[←hb2] at HI2 hor
   clear hb hb1 hb2
   have HOR:=Lib.hid hor
   clear hor
   have hcs:(b1=true∧b2=true)∨(b1=true∧b2=false)∨(b1=false∧b2=true):=by cases b1 <;> cases b2 <;> simp at hbb⊢
   clear hbb
   rcases hcs with⟨rfl,rfl⟩ | ⟨rfl,rfl⟩ | ⟨rfl,rfl⟩
   ·have hor:=HOR.out
    go_wp2_with (first
     |(go_at_call 62;first | ((with_reducible refine HI1.out.mono ?_);rintro e w5 ⟨rfl,hl⟩;have HL5:=Lib.hid hl;have HP5:=Lib.hid (HPR.out.later hl);have HF5:=Lib.hid (HFRR.out.thenLater hl);clear hl) | ((with_reducible refine(HI2.out _ HL5.out).mono ?_);rintro e w55 ⟨rfl,hl⟩;have HP55:=Lib.hid (HP5.out.later hl);have HF55:=Lib.hid (HF5.out.thenLater hl);clear hl))
     |(go_at_call 54;(first | ((with_reducible refine(next_v HP55.out HFTR.out.ne).mono ?_);rintro e w6 ⟨rfl,hm,hf⟩;have HP6:=Lib.hid hm;have HF6:=Lib.hid (HF55.out.trans hf)) | ((with_reducible refine(next_v HP5.out HFTR.out.ne).mono ?_);rintro e w6 ⟨rfl,hm,hf⟩;have HP6:=Lib.hid hm;have HF6:=Lib.hid (HF5.out.trans hf)));clear hm hf;rw[HT.out])
     |(go_at_call 58;(with_reducible refine(lines_v HP6.out HFG.out.good).mono ?_);rintro e w7 ⟨rfl,hm,hf⟩;have HP7:=Lib.hid hm;have HF7:=Lib.hid (HF6.out.trans hf);clear hm hf)
     |(go_at_call 100;(with_reducible refine(pipeline_v HL.out HP7.out (HXB.out.mono HF7.out.size) HFL.out (by have h7:=HWL.out.le;have h8:=HWR.out.le;have h9:=HN.out;omega)).mono ?_);intro e w8 hh;refine StR.cases hh (fun nn kk hx he hf=>by subst he;refine bodyPost_panic (P:=Tryz.prog) (fn:=Tryz.f66) rfl ?_;rw[show Sx.andOr a n σ=.error (nn,kk) by simp only[Sx.andOr,Sx.bnd,HX2.out];rw[HQ.out];obtain⟨m2,rfl⟩:∃ m2,m=m2+1:=⟨m-1,by have:=HMM.out;omega⟩;simp only[Sx.aoF,if_pos HB.out,Sx.bnd,Sx.lines,hx]];exact⟨rfl,HF7.out.trans hf⟩) (fun j σ8 hx he hm hf=>?_);subst he;clear hh;have HX8:=Lib.hid hx;have HU8:=Lib.hid (HWL.out.trans (Sx.pipeline_un HL.out.un n HFL.out.good hx) (k:=15) (by omega));have HP8:=Lib.hid hm;have HF8:=Lib.hid (HF7.out.trans hf);clear hx hm hf;unfold natV)
     |(go_at_call 67;(refine(add_v (C:=C) (g:=g) (X:=X) (σ:=σ8) ({ kind:=4,kids:=[i,j],left:=(Sx.hd σ).left }:Sx.Node) ⟨nilV,nilV,.slice (some ⟨w8.heap.size,0,none⟩) 2 2⟩ _ rfl ((HP8.out.more [w8.heap.size] (by simp)).later (Later.alloc _ _)) HC.out ((HXB.out.mono HF8.out.size).mono (Later.alloc _ _).size) ⟨World.ownsRow_nil _ _ _ _,World.ownsRow_nil _ _ _ _,own_lit w8 3 [iv i,iv j] (by simp)⟩ (fun b hb hx=>by have h1:b=w8.heap.size:=(by simpa [blks,nilV,Value.ownBlock] using hb);have h2:=HXB.out b hx;have h3:=HF8.out.size;omega) ((HFTR.out.wk HU8.out (by omega)).nodes)).mono ?_);rintro e w9 ⟨rfl,hm,hf⟩;have HP9:=Lib.hid hm;have HF9:=Lib.hid ((HF8.out.thenLater (Later.alloc _ _)).trans hf);clear hm hf))
    go_roundw
    case rel=>
     obtain⟨m2,hm2⟩:∃ m2,m=m2+1:=⟨m-1,by have:=HMM.out;omega⟩
     have h2:=HU8.out.len (by omega)
     have hwa:Sx.Wk 7 σ _ [σ8.ns.length]:=Sx.Wk.add (n:={ kind:=4,kids:=[i,j],left:=(Sx.hd σ).left }) (HWR.out.trans HU8.out (k:=21) (by omega)) (by simp[Sx.shapeB]) rfl (by omega)
     refine⟨_,σ8.ns.length,m2,rfl,?_,by show σ8.r.length<m2;have:=HMM.out;omega,hwa,HP9.out,HF9.out⟩
     rw[HQ.out,hm2]
     simp only[Sx.aoF,if_pos HB.out,Sx.bnd,Sx.lines,HX8.out,Sx.add,HK2.out,if_true]
    case measure=>
     rw[HP9.out.left,HPR.out.left]
     exact HU8.out.len (by omega)
   ·have hor:=HOR.out
    go_wp2_with (first
     |(go_at_call 62;first | ((with_reducible refine HI1.out.mono ?_);rintro e w5 ⟨rfl,hl⟩;have HL5:=Lib.hid hl;have HP5:=Lib.hid (HPR.out.later hl);have HF5:=Lib.hid (HFRR.out.thenLater hl);clear hl) | ((with_reducible refine(HI2.out _ HL5.out).mono ?_);rintro e w55 ⟨rfl,hl⟩;have HP55:=Lib.hid (HP5.out.later hl);have HF55:=Lib.hid (HF5.out.thenLater hl);clear hl))
     |(go_at_call 54;(first | ((with_reducible refine(next_v HP55.out HFTR.out.ne).mono ?_);rintro e w6 ⟨rfl,hm,hf⟩;have HP6:=Lib.hid hm;have HF6:=Lib.hid (HF55.out.trans hf)) | ((with_reducible refine(next_v HP5.out HFTR.out.ne).mono ?_);rintro e w6 ⟨rfl,hm,hf⟩;have HP6:=Lib.hid hm;have HF6:=Lib.hid (HF5.out.trans hf)));clear hm hf;rw[HT.out])
     |(go_at_call 58;(with_reducible refine(lines_v HP6.out HFG.out.good).mono ?_);rintro e w7 ⟨rfl,hm,hf⟩;have HP7:=Lib.hid hm;have HF7:=Lib.hid (HF6.out.trans hf);clear hm hf)
     |(go_at_call 100;(with_reducible refine(pipeline_v HL.out HP7.out (HXB.out.mono HF7.out.size) HFL.out (by have h7:=HWL.out.le;have h8:=HWR.out.le;have h9:=HN.out;omega)).mono ?_);intro e w8 hh;refine StR.cases hh (fun nn kk hx he hf=>by subst he;refine bodyPost_panic (P:=Tryz.prog) (fn:=Tryz.f66) rfl ?_;rw[show Sx.andOr a n σ=.error (nn,kk) by simp only[Sx.andOr,Sx.bnd,HX2.out];rw[HQ.out];obtain⟨m2,rfl⟩:∃ m2,m=m2+1:=⟨m-1,by have:=HMM.out;omega⟩;simp only[Sx.aoF,if_pos HB.out,Sx.bnd,Sx.lines,hx]];exact⟨rfl,HF7.out.trans hf⟩) (fun j σ8 hx he hm hf=>?_);subst he;clear hh;have HX8:=Lib.hid hx;have HU8:=Lib.hid (HWL.out.trans (Sx.pipeline_un HL.out.un n HFL.out.good hx) (k:=15) (by omega));have HP8:=Lib.hid hm;have HF8:=Lib.hid (HF7.out.trans hf);clear hx hm hf;unfold natV)
     |(go_at_call 67;(refine(add_v (C:=C) (g:=g) (X:=X) (σ:=σ8) ({ kind:=3,kids:=[i,j],left:=(Sx.hd σ).left }:Sx.Node) ⟨nilV,nilV,.slice (some ⟨w8.heap.size,0,none⟩) 2 2⟩ _ rfl ((HP8.out.more [w8.heap.size] (by simp)).later (Later.alloc _ _)) HC.out ((HXB.out.mono HF8.out.size).mono (Later.alloc _ _).size) ⟨World.ownsRow_nil _ _ _ _,World.ownsRow_nil _ _ _ _,own_lit w8 3 [iv i,iv j] (by simp)⟩ (fun b hb hx=>by have h1:b=w8.heap.size:=(by simpa [blks,nilV,Value.ownBlock] using hb);have h2:=HXB.out b hx;have h3:=HF8.out.size;omega) ((HFTR.out.wk HU8.out (by omega)).nodes)).mono ?_);rintro e w9 ⟨rfl,hm,hf⟩;have HP9:=Lib.hid hm;have HF9:=Lib.hid ((HF8.out.thenLater (Later.alloc _ _)).trans hf);clear hm hf))
    go_roundw
    case rel=>
     obtain⟨m2,hm2⟩:∃ m2,m=m2+1:=⟨m-1,by have:=HMM.out;omega⟩
     have h2:=HU8.out.len (by omega)
     have hwa:Sx.Wk 7 σ _ [σ8.ns.length]:=Sx.Wk.add (n:={ kind:=3,kids:=[i,j],left:=(Sx.hd σ).left }) (HWR.out.trans HU8.out (k:=21) (by omega)) (by simp[Sx.shapeB]) rfl (by omega)
     refine⟨_,σ8.ns.length,m2,rfl,?_,by show σ8.r.length<m2;have:=HMM.out;omega,hwa,HP9.out,HF9.out⟩
     rw[HQ.out,hm2]
     simp only[Sx.aoF,if_pos HB.out,Sx.bnd,Sx.lines,HX8.out,Sx.add,HK2.out,Bool.false_eq_true,if_false]
    case measure=>
     rw[HP9.out.left,HPR.out.left]
     exact HU8.out.len (by omega)
   ·have hor:=HOR.out
    go_wp2_with (first
     |(go_at_call 62;first | ((with_reducible refine HI1.out.mono ?_);rintro e w5 ⟨rfl,hl⟩;have HL5:=Lib.hid hl;have HP5:=Lib.hid (HPR.out.later hl);have HF5:=Lib.hid (HFRR.out.thenLater hl);clear hl) | ((with_reducible refine(HI2.out _ HL5.out).mono ?_);rintro e w55 ⟨rfl,hl⟩;have HP55:=Lib.hid (HP5.out.later hl);have HF55:=Lib.hid (HF5.out.thenLater hl);clear hl))
     |(go_at_call 54;(first | ((with_reducible refine(next_v HP55.out HFTR.out.ne).mono ?_);rintro e w6 ⟨rfl,hm,hf⟩;have HP6:=Lib.hid hm;have HF6:=Lib.hid (HF55.out.trans hf)) | ((with_reducible refine(next_v HP5.out HFTR.out.ne).mono ?_);rintro e w6 ⟨rfl,hm,hf⟩;have HP6:=Lib.hid hm;have HF6:=Lib.hid (HF5.out.trans hf)));clear hm hf;rw[HT.out])
     |(go_at_call 58;(with_reducible refine(lines_v HP6.out HFG.out.good).mono ?_);rintro e w7 ⟨rfl,hm,hf⟩;have HP7:=Lib.hid hm;have HF7:=Lib.hid (HF6.out.trans hf);clear hm hf)
     |(go_at_call 100;(with_reducible refine(pipeline_v HL.out HP7.out (HXB.out.mono HF7.out.size) HFL.out (by have h7:=HWL.out.le;have h8:=HWR.out.le;have h9:=HN.out;omega)).mono ?_);intro e w8 hh;refine StR.cases hh (fun nn kk hx he hf=>by subst he;refine bodyPost_panic (P:=Tryz.prog) (fn:=Tryz.f66) rfl ?_;rw[show Sx.andOr a n σ=.error (nn,kk) by simp only[Sx.andOr,Sx.bnd,HX2.out];rw[HQ.out];obtain⟨m2,rfl⟩:∃ m2,m=m2+1:=⟨m-1,by have:=HMM.out;omega⟩;simp only[Sx.aoF,if_pos HB.out,Sx.bnd,Sx.lines,hx]];exact⟨rfl,HF7.out.trans hf⟩) (fun j σ8 hx he hm hf=>?_);subst he;clear hh;have HX8:=Lib.hid hx;have HU8:=Lib.hid (HWL.out.trans (Sx.pipeline_un HL.out.un n HFL.out.good hx) (k:=15) (by omega));have HP8:=Lib.hid hm;have HF8:=Lib.hid (HF7.out.trans hf);clear hx hm hf;unfold natV)
     |(go_at_call 67;(refine(add_v (C:=C) (g:=g) (X:=X) (σ:=σ8) ({ kind:=4,kids:=[i,j],left:=(Sx.hd σ).left }:Sx.Node) ⟨nilV,nilV,.slice (some ⟨w8.heap.size,0,none⟩) 2 2⟩ _ rfl ((HP8.out.more [w8.heap.size] (by simp)).later (Later.alloc _ _)) HC.out ((HXB.out.mono HF8.out.size).mono (Later.alloc _ _).size) ⟨World.ownsRow_nil _ _ _ _,World.ownsRow_nil _ _ _ _,own_lit w8 3 [iv i,iv j] (by simp)⟩ (fun b hb hx=>by have h1:b=w8.heap.size:=(by simpa [blks,nilV,Value.ownBlock] using hb);have h2:=HXB.out b hx;have h3:=HF8.out.size;omega) ((HFTR.out.wk HU8.out (by omega)).nodes)).mono ?_);rintro e w9 ⟨rfl,hm,hf⟩;have HP9:=Lib.hid hm;have HF9:=Lib.hid ((HF8.out.thenLater (Later.alloc _ _)).trans hf);clear hm hf))
    go_roundw
    case rel=>
     obtain⟨m2,hm2⟩:∃ m2,m=m2+1:=⟨m-1,by have:=HMM.out;omega⟩
     have h2:=HU8.out.len (by omega)
     have hwa:Sx.Wk 7 σ _ [σ8.ns.length]:=Sx.Wk.add (n:={ kind:=4,kids:=[i,j],left:=(Sx.hd σ).left }) (HWR.out.trans HU8.out (k:=21) (by omega)) (by simp[Sx.shapeB]) rfl (by omega)
     refine⟨_,σ8.ns.length,m2,rfl,?_,by show σ8.r.length<m2;have:=HMM.out;omega,hwa,HP9.out,HF9.out⟩
     rw[HQ.out,hm2]
     simp only[Sx.aoF,if_pos HB.out,Sx.bnd,Sx.lines,HX8.out,Sx.add,HK2.out,if_true]
    case measure=>
     rw[HP9.out.left,HPR.out.left]
     exact HU8.out.len (by omega)
  ·
   have HE:=Lib.hid (show Sx.aoF a n (Sx.hd σ).left n i0 σ2=.ok (i,σr) by rw[HQ.out];obtain⟨m2,rfl⟩:∃ m2,m=m2+1:=⟨m-1,by have:=HMM.out;omega⟩;simp only[Sx.aoF,if_neg hb])
   rw[show Sx.isT [38,38] σr=false by simpa using fun e=>hb (.inl e)] at HI1
   rw[show Sx.isT [124,124] σr=false by simpa using fun e=>hb (.inr e)] at HI2
   clear hb
   go_wp2_with (first
    |(go_at_call 62;first | ((with_reducible refine HI1.out.mono ?_);rintro e w5 ⟨rfl,hl⟩;have HL5:=Lib.hid hl;have HP5:=Lib.hid (HPR.out.later hl);have HF5:=Lib.hid (HFRR.out.thenLater hl);clear hl) | ((with_reducible refine(HI2.out _ HL5.out).mono ?_);rintro e w55 ⟨rfl,hl⟩;have HP55:=Lib.hid (HP5.out.later hl);have HF55:=Lib.hid (HF5.out.thenLater hl);clear hl)))
   go_ret
   rw[show Sx.andOr a n σ=.ok (i,σr) by simp only[Sx.andOr,Sx.bnd,HX2.out,HE.out]]
   exact⟨rfl,HP55.out,HF55.out⟩
theorem anyList_v (hL:Lev g C n a) (h:PMem W X g C σ) (hX:XL X W) (hF:Fit σ) (hn:σ.r.length<n):Calls Tryz.prog 28 #[.pointer (some ⟨g,0,none⟩)] W (StR X W g C (Sx.anyL a n σ) natV):=by
 have HL:=Lib.hid hL
 have HN:=Lib.hid hn
 have HFT0:=Lib.hid hF
 have HXL0:=Lib.hid hX
 have HM0:=Lib.hid h
 have HC:=Lib.hid h.ctx
 have HFR0:=Lib.hid (Fr.refl X W)
 have HW0:=Lib.hid (Sx.Wk.refl hF.good)
 have hf0:=fld0
 have hf1:=fld1
 have hf3:=fld3
 have HXB:=Lib.hid hX
 clear hL hn hF hX h
 go_enter Tryz.func28,Tryz.ntmps28
 go_wp2_with (first
   |(go_at_call 58;(with_reducible refine(lines_v HM0.out HFT0.out.good).mono ?_);rintro e w1 ⟨rfl,hm,hf⟩;have HW1:=Lib.hid (HW0.out.trans (Sx.Wk.dl HFT0.out.good) (k:=1) (by omega));have HM1:=Lib.hid (hm);have HFR1:=Lib.hid (HFR0.out.trans hf);have HXL1:=Lib.hid (HXL0.out.mono hf.size);have HFT1:=Lib.hid (HFT0.out.wk HW1.out (by omega));clear hm hf)
   |(go_at_call 64;(with_reducible refine(line_v HM1.out HFT1.out.ne).mono ?_);rintro e w2 ⟨rfl,hl⟩;have HW2:=Lib.hid (HW1.out);have HFT2:=Lib.hid (HFT1.out);have HM2:=Lib.hid (HM1.out.later hl);have HFR2:=Lib.hid (HFR1.out.thenLater hl);have HXL2:=Lib.hid (HXL1.out.mono hl.size);clear hl;unfold lnv)
   |(refine wpList_allocO 3 rfl rfl 37 rfl _ _ info_node ?_;intro w8 hb hl hz;have HB8:=Lib.hid (hb);have HL8:=Lib.hid (hl);clear hb hl hz)
   |(refine wpList_storeO rfl 37 (.tmp 3) (.tmp 8) rfl w2.heap.size _ (ncs ({ kind:=5,left:=(Sx.hd (Sx.dl σ)).left }:Sx.Node) v0 (lnv C.N (Sx.hd (Sx.dl σ)).left)).toArray rfl rfl HB8.out size_node rfl (ncs_all (Nest.v0 W _ rfl rfl rfl) rfl) ?_;intro w9 hb hg hz;have HP3:=Lib.hid (PLoc.made (W0:=W) (X:=X) (HM2.out.sub (Y:=plus X (blks v0)) (fun b hb=>hb.resolve_right (by simp[blks_v0])) (CtxX.more HC.out _)) HC.out HFR2.out (Nest.v0 _ _ rfl rfl rfl) (by simp[blks_v0]) HL8.out hg hb);have HW3:=Lib.hid (HW2.out);have HFT3:=Lib.hid (HFT2.out);clear hb hg hz HB8 HL8))
 rw[show ∀ (a:Act) v,Act.put a none v=a from fun _ _=>rfl]
 simp only[Act.put,List.setIfInBounds_toArray,List.set_cons_succ,List.set_cons_zero]
 go_loopw [] (fun wr=>∃ (σr:Sx.St) (ks ls:List Nat) (v:Vals) (m:Nat),Sx.listF a n n [] (Sx.dl σ)=Sx.listF a n m ks σr∧σr.r.length<m∧Sx.Wk 1 σ σr ls∧ks.length+σr.r.length≤5000∧PLoc W X g C w2.heap.size (lnv C.N (Sx.hd (Sx.dl σ)).left) ({ kind:=5,kids:=ks,left:=(Sx.hd (Sx.dl σ)).left }:Sx.Node) v σr wr) (fun wr=>C.TS.length-atP g wr)
 case atStart=>exact⟨Sx.dl σ,[],_,v0,n,rfl,by have h1:=HW3.out.le;have h2:=HN.out;omega,HW3.out,by have:=HP3.out.mem.few;simp at this⊢;omega,HP3.out⟩
 case round=>
  clear HP3
  obtain⟨σr,ks,ls,v,m,hq,hm,hw,hfw,hp⟩:=hrel
  have HQ:=Lib.hid hq
  have HMM:=Lib.hid hm
  have HWR:=Lib.hid hw
  have HFW:=Lib.hid hfw
  have HPR:=Lib.hid hp
  have HFTR:=Lib.hid (HFT0.out.wk HWR.out (by omega))
  clear hq hm hw hfw hp
  go_wp2_with (first
   |(go_at_call 65;(with_reducible refine(atAndOr_v HPR.out.mem HFTR.out.ne).mono ?_);rintro e w5 ⟨rfl,hl⟩;have HP5:=Lib.hid (HPR.out.later hl);clear hl;cases hq:Sx.atAndOr σr <;> (have HAT:=Lib.hid hq;clear hq))
   |(refine wpList_loadO rfl 37 (.tmp 3) rfl w2.heap.size _ _ rfl HP5.out.box Tryz.underlying37 rfl size_node ?_)
   |(go_at_call 67;(refine(add_v ({ kind:=5,kids:=ks,left:=(Sx.hd (Sx.dl σ)).left }:Sx.Node) _ _ rfl (HP5.out.addable HC.out) HC.out (HXB.out.mono HP5.out.fr.size) HP5.out.nest (fun b hb=>HP5.out.notX HXB.out b (List.mem_cons_of_mem _ hb)) HFTR.out.nodes).mono ?_);rintro e wz ⟨rfl,hmz,hfz⟩))
  ·
   have HE:=Lib.hid (show Sx.listF a n n [] (Sx.dl σ)=.ok (ks,σr) by rw[HQ.out];obtain⟨m2,rfl⟩:∃ m2,m=m2+1:=⟨m-1,by have:=HMM.out;omega⟩;simp only[Sx.listF,HAT.out,Bool.false_eq_true,if_false])
   go_ret
   rw[show Sx.anyL a n σ=Sx.add ({ kind:=5,kids:=ks,left:=(Sx.hd (Sx.dl σ)).left }:Sx.Node) σr by simp only[Sx.anyL,Sx.bnd,Sx.lines,HE.out]]
   exact⟨rfl,hmz,HP5.out.fr.trans hfz⟩
  ·
   have hpd:=HP5.out.later (Later.drew _)
   have hcl:=andOr_v HL.out hpd.mem (hpd.xl HXB.out) HFTR.out (by have h8:=HWR.out.le;have h9:=HN.out;omega)
   refine apK "syntax.go:191" 3 66 3 11 HP5.out HXB.out HC.out (entO Tryz.func66 rfl rfl) rfl rfl (by kernel_rfl) rfl rfl (by have:=HFW.out;simp only;omega) (Sx.andOr a n σr) hcl (fun nn kk w' hm0 hf9 a9 hd9=>?_) ?_
   ·refine bodyPost_panic (P:=Tryz.prog) (fn:=Tryz.f28) hd9 ?_
    have he:Sx.listF a n n [] (Sx.dl σ)=.error (nn,kk):=by rw[HQ.out];obtain⟨m2,rfl⟩:∃ m2,m=m2+1:=⟨m-1,by have:=HMM.out;omega⟩;simp only[Sx.listF,Sx.bnd,HAT.out,if_true,hm0]
    rw[show Sx.anyL a n σ=.error (nn,kk) by simp only[Sx.anyL,Sx.bnd,Sx.lines,he]]
    exact⟨rfl,hf9⟩
   intro k σz hk a9 wz vz hp9 hd hsz hfree
   have HK:=Lib.hid hk
   have HPZ:=Lib.hid hp9
   have HU:=Lib.hid (Sx.andOr_un HL.out.un n HFTR.out.good hk)
   have HWZ:=Lib.hid (HWR.out.trans HU.out (k:=7) (by omega))
   have HFTZ:=Lib.hid (HFT0.out.wk HWZ.out (by omega))
   clear hk hcl hpd hp9
   obtain⟨u11,hu11⟩:∃ u,u=a9.tmps.getD 11 undef:=⟨_,rfl⟩
   obtain⟨u12,hu12⟩:∃ u,u=a9.tmps.getD 12 undef:=⟨_,rfl⟩
   obtain⟨u13,hu13⟩:∃ u,u=a9.tmps.getD 13 undef:=⟨_,rfl⟩
   obtain⟨u14,hu14⟩:∃ u,u=a9.tmps.getD 14 undef:=⟨_,rfl⟩
   obtain⟨u15,hu15⟩:∃ u,u=a9.tmps.getD 15 undef:=⟨_,rfl⟩
   obtain⟨u16,hu16⟩:∃ u,u=a9.tmps.getD 16 undef:=⟨_,rfl⟩
   obtain⟨u17,hu17⟩:∃ u,u=a9.tmps.getD 17 undef:=⟨_,rfl⟩
   have hal:AllAt a9 0 [.pointer (some ⟨g,0,none⟩),_,_,.pointer (some ⟨w2.heap.size,0,none⟩),_,_,_,_,_,_,_,u11,u12,u13,u14,u15,u16,u17,_,_,_,_,_,_]:=⟨hfree 0 rfl,hfree 1 rfl,hfree 2 rfl,hfree 3 rfl,hfree 4 rfl,hfree 5 rfl,hfree 6 rfl,hfree 7 rfl,hfree 8 rfl,hfree 9 rfl,hfree 10 rfl,hu11.symm,hu12.symm,hu13.symm,hu14.symm,hu15.symm,hu16.symm,hu17.symm,hfree 18 rfl,hfree 19 rfl,hfree 20 rfl,hfree 21 rfl,hfree 22 rfl,hfree 23 rfl,trivial⟩
   have hlit:=fun h=>act_lit hd h hal
   rw[hlit hsz]
   clear hlit hal hd hsz hfree hu11 hu12 hu13 hu14 hu15 hu16 hu17
   go_wp2_with (first
    |(go_at_call 60;(with_reducible refine(parted_v HPZ.out.mem HFTZ.out.good).mono ?_);intro e w6 hh;refine StR.cases hh (fun nn kk hx he hf=>by subst he;exact absurd hx (parted_ne _ _)) (fun b σ6 hx he hm hf=>?_);subst he;clear hh;have HX6:=Lib.hid hx;have HU6:=Lib.hid (Sx.parted_un HFTZ.out.good hx).1;have HP6:=Lib.hid (HPZ.out.call hm hf);clear hx hm hf;have HFT6:=Lib.hid (HFTZ.out.wk HU6.out (by omega));cases b)
    |(refine wpList_loadO rfl 37 (.tmp 3) rfl w2.heap.size _ _ rfl HP6.out.box Tryz.underlying37 rfl size_node ?_)
    |(go_at_call 67;(refine(add_v ({ kind:=5,kids:=ks++[k],left:=(Sx.hd (Sx.dl σ)).left }:Sx.Node) _ _ rfl (HP6.out.addable HC.out) HC.out (HXB.out.mono HP6.out.fr.size) HP6.out.nest (fun b hb=>HP6.out.notX HXB.out b (List.mem_cons_of_mem _ hb)) HFT6.out.nodes).mono ?_);rintro e wz ⟨rfl,hmz,hfz⟩))
   ·
    have HE:=Lib.hid (show Sx.listF a n n [] (Sx.dl σ)=.ok (ks++[k],σ6) by rw[HQ.out];obtain⟨m2,rfl⟩:∃ m2,m=m2+1:=⟨m-1,by have:=HMM.out;omega⟩;simp only[Sx.listF,Sx.bnd,HAT.out,if_true,HK.out,HX6.out,Bool.false_eq_true,if_false,Sx.ret])
    go_ret
    rw[show Sx.anyL a n σ=Sx.add ({ kind:=5,kids:=ks++[k],left:=(Sx.hd (Sx.dl σ)).left }:Sx.Node) σ6 by simp only[Sx.anyL,Sx.bnd,Sx.lines,HE.out]]
    exact⟨rfl,hmz,HP6.out.fr.trans hfz⟩
   ·go_roundw
    case rel=>
     obtain⟨m2,hm2⟩:∃ m2,m=m2+1:=⟨m-1,by have:=HMM.out;omega⟩
     have h1:=HU.out.len (by omega)
     have h2:=HU6.out.le
     refine⟨σ6,ks++[k],_,vz,m2,?_,by have:=HMM.out;omega,HWZ.out.trans HU6.out (by omega),by have:=HFW.out;simp;omega,HP6.out⟩
     rw[HQ.out,hm2]
     simp only[Sx.listF,Sx.bnd,HAT.out,if_true,HK.out,HX6.out]
    case measure=>
     rw[HP6.out.mem.left,HPR.out.mem.left]
     have h1:=HU.out.len (by omega)
     have h2:=HU6.out.le
     omega
theorem lev (g:Nat) (C:Ctx) (n:Nat):Lev g C (n+1) (Sx.anyF n):=by
 induction n with
 | zero=>exact⟨Sx.anyF_un 0,fun W X σ _ _ _ hn=>by omega⟩
 | succ n ih=>exact⟨Sx.anyF_un (n+1),fun W X σ h hX hF hn=>anyList_v ih h hX hF (by omega)⟩
theorem script_v (h:PMem W X g C σ) (hX:XL X W) (hF:Fit σ) (hn:σ.r.length<n):Calls Tryz.prog 14 #[.pointer (some ⟨g,0,none⟩)] W (StR X W g C (Sx.script n σ) fun _=>.tuple #[]):=by
 have HC:=Lib.hid ((lev g C n).calls W X σ h hX hF (by omega))
 have HUN:=Lib.hid (Sx.anyF_un n)
 have HG:=Lib.hid hF.good
 have hf0:=fld0
 clear h hX hF hn
 cases hx:Sx.anyF n σ with
 | error er=>
  obtain⟨nn,kk⟩:=er
  rw[hx] at HC
  rw[show Sx.script n σ=.error (nn,kk) from Sx.bnd_error hx]
  clear hx
  go_enter Tryz.func14,Tryz.ntmps14
  go_wp2_with (first
   |(go_at_call 28;(with_reducible refine HC.out.mono ?_);rintro e w1 ⟨rfl,hf⟩))
  exact bodyPost_panic rfl ⟨rfl,hf⟩
 | ok x=>
  obtain⟨i,σ1⟩:=x
  rw[hx] at HC
  have HNE:=Lib.hid (Sx.good_ne (HUN.out _ _ _ HG.out hx).gd)
  by_cases hk:(Sx.hd σ1).kind=4
  ·rw[show Sx.script n σ=.ok ((),σ1) from(Sx.bnd_ok hx).trans (if_pos hk)]
   have HK:=Lib.hid (show ((Sx.hd σ1).kind:Int)=4 by omega)
   clear hx hk
   go_enter Tryz.func14,Tryz.ntmps14
   go_wp2_with (first
    |(go_at_call 28;(with_reducible refine HC.out.mono ?_);rintro e w1 ⟨rfl,hm,hf⟩;have HM1:=Lib.hid hm;have HF1:=Lib.hid hf;clear hm hf;unfold natV)
    |(go_at_call 29;(with_reducible refine(peek_v HM1.out HNE.out).mono ?_);rintro e w2 ⟨rfl,hl⟩;unfold tcs;rw[HK.out]))
   go_end0
   exact⟨rfl,HM1.out.later hl,HF1.out.thenLater hl⟩
  ·rw[show Sx.script n σ=.error (20,(Sx.hd σ1).left) from(Sx.bnd_ok hx).trans (if_neg hk)]
   have hk9:(((Sx.hd σ1).kind:Int) != 4)=true:=by simp;omega
   clear hx hk
   go_enter Tryz.func14,Tryz.ntmps14
   go_wp2_with (first
    |(go_at_call 28;(with_reducible refine HC.out.mono ?_);rintro e w1 ⟨rfl,hm,hf⟩;have HM1:=Lib.hid hm;have HF1:=Lib.hid hf;clear hm hf;unfold natV)
    |(go_at_call 29;(with_reducible refine(peek_v HM1.out HNE.out).mono ?_);rintro e w2 ⟨rfl,hl⟩;have HL2:=Lib.hid hl;clear hl;unfold tcs)
    |(go_at_call 30;(with_reducible refine(refuse_v (HM1.out.later HL2.out) HNE.out).mono ?_);rintro e w3 ⟨rfl,hl3⟩))
   exact bodyPost_panic rfl ⟨rfl,HF1.out.thenLater (HL2.out.trans hl3)⟩
end
end Pz
end Go.Proofs.YtkkchkkpnlnbgaaGreatDoor
namespace Go.Proofs.YtkkchkkpnlnbgaaGreatDoor
namespace Lx
theorem sq_sum {l t r:L} (h:sq l=some (t,r)):t.length+r.length≤l.length:=by
 induction l generalizing t r with
 | nil=>cases h
 | cons c l ih=>
  unfold sq at h
  split at h
  ·cases h;simp;omega
  ·cases e:sq l with
   | none=>rw[e] at h;cases h
   | some p=>rw[e] at h;cases h;have:=ih e;simp only[List.length_cons];omega
theorem ar_sum {o:Nat} {l t r:L} (h:ar o l=some (t,r)):t.length+r.length≤l.length:=by
 induction l generalizing o t r with
 | nil=>cases h
 | cons c l ih=>
  unfold ar at h
  split at h
  ·cases o with
   | zero=>
    cases l with
    | nil=>cases h
    | cons b q=>simp only at h;split at h <;> cases h;simp only[List.length_cons,List.length_nil];omega
   | succ o=>
    simp only at h
    cases e:ar o l with
    | none=>rw[e] at h;cases h
    | some p=>rw[e] at h;cases h;have:=ih e;simp only[List.length_cons];omega
  ·cases e:ar (if c=40 then o+1 else o) l with
   | none=>rw[e] at h;cases h
   | some p=>rw[e] at h;cases h;have:=ih e;simp only[List.length_cons];omega
def Sum (p:L→R):Prop:=∀ l t r,p l=.ok (t,r)→t.length+r.length≤l.length
theorem upF_sum {p:L→R} (hp:Sum p) (z:UInt8) (q:Bool) (n:Nat):Sum (upF p z q n):=by
 induction n with
 | zero=>exact fun l t r h=>by cases h
 | succ n ih=>
  intro l t r h
  rw[upF] at h
  split at h
  ·rename_i e
   cases h
   cases l with
   | nil=>cases e
   | cons c l=>simp;omega
  ·split at h
   ·rename_i e
    obtain⟨v,h1,h2⟩:=pre_inv h
    have:=ih _ _ _ h1
    cases l with
    | nil=>cases e.2
    | cons c l=>rw[h2];simp only[List.length_append,List.length_cons,List.length_nil,List.tail_cons] at this⊢;omega
   ·cases e:p l with
    | error e'=>rw[e] at h;cases h
    | ok x=>
     obtain⟨t1,r1⟩:=x
     rw[e] at h
     obtain⟨v,h1,h2⟩:=pre_inv h
     have h3:=ih _ _ _ h1
     have h4:=hp _ _ _ e
     rw[h2,List.length_append];omega
theorem dolF_sum {b:L→R} (hb:Sum b) (deep:Bool) (l t r:L) (h:dolF b deep l=.ok (t,r)):t.length+r.length≤l.length+1:=by
 unfold dolF at h
 cases l with
 | nil=>cases h;simp
 | cons x q=>
  simp only at h
  split at h
  ·split at h
   ·cases h
   ·obtain⟨v,h1,h2⟩:=pre_inv h
    have:=hb _ _ _ h1
    rw[h2];simp only[List.length_append,List.length_cons,List.length_nil];omega
  ·split at h
   ·cases q with
    | nil=>cases h
    | cons y q'=>
     simp only at h
     split at h
     ·cases e:ar 0 q' with
      | none=>rw[e] at h;cases h
      | some x=>rw[e] at h;cases h;have:=ar_sum e;simp only[List.length_cons];omega
     ·cases h
   ·split at h
    ·cases h
    ·cases h;simp only[List.length_cons,List.length_nil];omega
theorem oneF_sum {dq br:L→R} (h1:Sum dq) (h2:Sum br) (deep:Bool):Sum (oneF dq br deep):=by
 intro l t r h
 unfold oneF at h
 cases l with
 | nil=>cases h
 | cons c l=>
  simp only at h
  split at h
  ·cases l with
   | nil=>cases h
   | cons b q=>cases h;split <;> simp only[List.length_cons,List.length_nil] <;> omega
  ·split at h
   ·cases e:sq l with
    | none=>rw[e] at h;cases h
    | some x=>rw[e] at h;cases h;have:=sq_sum e;simp only[List.length_cons];omega
   ·split at h
    ·obtain⟨v,h3,h4⟩:=pre_inv h
     have:=h1 _ _ _ h3
     rw[h4];simp only[List.length_append,List.length_cons,List.length_nil];omega
    ·split at h
     ·have:=dolF_sum h2 deep l t r h
      rw[List.length_cons];omega
     ·split at h
      ·cases h
      ·cases h;simp only[List.length_cons,List.length_nil];omega
theorem partF_sum (n d:Nat):Sum (partF n d):=by
 induction n generalizing d with
 | zero=>exact fun l t r h=>by cases h
 | succ n ih=>exact oneF_sum (upF_sum (ih d) _ _ _) (upF_sum (ih (d+1)) _ _ _) _
theorem part_sum (d:Nat):Sum (part d):=fun l=>partF_sum (l.length+1) d l
theorem wordF_sum (n:Nat):Sum (wordF n):=by
 induction n with
 | zero=>exact fun l t r h=>by cases h
 | succ n ih=>
  intro l t r h
  rw[wordF] at h
  split at h
  ·cases h;simp
  ·cases e:part 0 l with
   | error e'=>rw[e] at h;cases h
   | ok x=>
    obtain⟨t1,r1⟩:=x
    rw[e] at h
    obtain⟨v,h1,h2⟩:=pre_inv h
    have h3:=ih _ _ _ h1
    have h4:=part_sum 0 _ _ _ e
    rw[h2,List.length_append];omega
theorem word_sum:Sum word:=fun l=>wordF_sum (l.length+1) l
def Small (S:L) (l:L) (out:List Tok):Prop:=out.length+l.length≤S.length∧∀ t∈out,t.text.length≤S.length+2
theorem signs_two {t:L} (h:t∈signs):t.length≤2:=by
 have:∀ t∈signs,t.length≤2:=by decide
 exact this t h
theorem lay_texts {n:Nat} {out:List Tok} (h:∀ t∈out,t.text.length≤n) (k:Nat) (b:L):∀ t∈lay k b out,t.text.length≤n:=by
 intro t ht
 obtain⟨i,hi⟩:=List.getElem?_of_mem ht
 rw[lay_at] at hi
 cases e:out[i]? with
 | none=>rw[e] at hi;cases hi
 | some u=>
  rw[e] at hi
  simp only[Option.map_some,Option.some.injEq] at hi
  have h1:=h u (List.mem_of_getElem? e)
  split at hi
  ·subst hi;exact h1
  ·subst hi;exact h1
theorem bodies_small {n:Nat} {ks:List Nat} {out o:List Tok} {l r:L} (h:∀ t∈out,t.text.length≤n) (e:bodies ks out l=some (o,r)):o.length=out.length∧∀ t∈o,t.text.length≤n:=by
 induction ks generalizing out l with
 | nil=>cases e;exact⟨rfl,h⟩
 | cons k ks ih=>
  unfold bodies at e
  cases e1:doc (bare ((out[k]?.map Tok.text).getD [])) l with
  | none=>rw[e1] at e;cases e
  | some x=>rw[e1] at e;obtain⟨h1,h2⟩:=ih (lay_texts h k x.1) e;exact⟨by rw[h1];unfold lay;simp,h2⟩
theorem small_step {S l l':L} {out out':List Tok} {here here':List Nat} (h:Small S l out) (e:step l out here=.more l' out' here'):Small S l' out':=by
 obtain⟨hr,ht⟩:=h
 have rest:∀ l',l'.length≤l.length→Small S l' out:=fun l' hl=>⟨by omega,ht⟩
 have snoc:∀ u l',l'.length<l.length→u.text.length≤S.length+2→Small S l' (out++[u]):=fun u l' hl hu=>⟨by rw[List.length_append,List.length_singleton];omega,fun t hm=>by
  rcases List.mem_append.1 hm with hm | hm
  ·exact ht t hm
  ·simp only[List.mem_singleton] at hm;subst hm;exact hu⟩
 unfold step at e
 cases l with
 | nil=>simp only at e;split at e <;> cases e
 | cons c r=>
  simp only at e
  split at e
  ·cases e;exact rest _ (by simp)
  ·rename_i hbl
   split at e
   ·cases e;exact rest _ (by simp;omega)
   ·rename_i hj
    split at e
    ·cases e;exact rest _ (by have:=skip_le r;rw[List.length_cons];omega)
    ·rename_i h35
     split at e
     ·cases e1:bodies here (out++[⟨3,[],[],nl (c::r)⟩]) r with
      | none=>rw[e1] at e;cases e
      | some x=>
       rw[e1] at e
       cases e
       obtain⟨o,r'⟩:=x
       have hs:=snoc ⟨3,[],[],nl (c::r)⟩ r (by simp) (by simp)
       obtain⟨h1,h2⟩:=bodies_small hs.2 e1
       have h3:=bodies_le _ e1
       exact⟨by have:=hs.1;simp only at this⊢;omega,h2⟩
     ·rename_i h10
      cases e1:sign (c::r) with
      | some x=>
       obtain⟨t,r'⟩:=x
       rw[e1] at e
       cases e
       exact snoc _ _ (sign_lt e1) (by have:=signs_two (sign_in e1);simp only;omega)
      | none=>
       rw[e1] at e
       simp only at e
       split at e
       ·cases e
       ·rename_i h38
        cases e2:word (c::r) with
        | error x=>rw[e2] at e;cases e
        | ok x=>
         obtain⟨t,r'⟩:=x
         rw[e2] at e
         simp only at e
         have he:=sign_none e1 hbl h10 h38
         have h1:=word_lt e2 he
         have h2:=word_sum _ _ _ e2
         split at e
         ·cases e;exact snoc _ _ h1 (by simp only;omega)
         ·cases e;exact snoc _ _ h1 (by simp only;omega)
theorem all_small {s:L} {o:List Tok} (h:all s=.ok o):o.length≤s.length+1∧∀ t∈o,t.text.length≤s.length+2:=by
 obtain⟨h1,h2⟩:=run_ind (fun l out _=>Small s l out) (fun l out here l' out' here' h e=>small_step h e) s [] [] ⟨by simp,nofun⟩
 obtain⟨l',o',hh,⟨h3,h5⟩,h4⟩:=h2 o h
 unfold step at h4
 cases l' with
 | nil=>
  simp only at h4
  split at h4
  ·have:=Step.done.inj h4
   subst this
   refine⟨by rw[List.length_append,List.length_singleton];simp at h3;omega,fun t ht=>?_⟩
   rcases List.mem_append.1 ht with ht | ht
   ·exact h5 t ht
   ·simp only[List.mem_singleton] at ht;subst ht;simp
  ·cases h4
 | cons c r=>
  exfalso
  simp only at h4
  split at h4
  ·cases h4
  ·split at h4
   ·cases h4
   ·split at h4
    ·cases h4
    ·split at h4
     ·cases e1:bodies hh (o'++[⟨3,[],[],nl (c::r)⟩]) r with
      | none=>rw[e1] at h4;cases h4
      | some x=>rw[e1] at h4;cases h4
     ·cases e1:sign (c::r) with
      | some x=>rw[e1] at h4;cases h4
      | none=>
       rw[e1] at h4
       simp only at h4
       split at h4
       ·cases h4
       ·cases e2:word (c::r) with
        | error x=>rw[e2] at h4;cases h4
        | ok x=>rw[e2] at h4;simp only at h4;split at h4 <;> cases h4
end Lx
end Go.Proofs.YtkkchkkpnlnbgaaGreatDoor
namespace Go.Proofs.YtkkchkkpnlnbgaaGreatDoor
namespace Lx
def Pre (l:L) (out:List Tok):Prop:=
 (∀ (i:Nat) (t:Tok),out[i]?=some t→t.kind≠4∧(t.kind=5→∀ u,out[i+1]?=some u→Sx.isArrow u.text=true)) ∧
 (∀ t:Tok,out[out.length-1]?=some t→t.kind=5→(l.head?=some 60∨l.head?=some 62))
theorem Pre.rest {l l':L} {out:List Tok} (h:Pre l out) (hl:¬ (l.head?=some 60∨l.head?=some 62)):Pre l' out:=⟨h.1,fun t ht hk=>absurd (h.2 t ht hk) hl⟩
theorem Pre.snoc {l l':L} {out:List Tok} (h:Pre l out) (u:Tok) (h4:u.kind≠4) (ha:(l.head?=some 60∨l.head?=some 62)→Sx.isArrow u.text=true) (hl:u.kind=5→(l'.head?=some 60∨l'.head?=some 62)):Pre l' (out++[u]):=by
 refine⟨fun i t ht=>?_,fun t ht hk=>?_⟩
 ·by_cases hi:i<out.length
  ·rw[List.getElem?_append_left hi] at ht
   refine⟨(h.1 i t ht).1,fun hk v hv=>?_⟩
   by_cases hi2:i+1<out.length
   ·rw[List.getElem?_append_left hi2] at hv
    exact(h.1 i t ht).2 hk v hv
   ·have hie:i=out.length-1:=by omega
    rw[List.getElem?_append_right (by omega),show i+1-out.length=0 by omega] at hv
    simp only[List.getElem?_cons_zero,Option.some.injEq] at hv
    subst hv
    exact ha (h.2 t (by rw[←hie];exact ht) hk)
  ·rw[List.getElem?_append_right (by omega)] at ht
   by_cases hi0:i-out.length=0
   ·rw[hi0] at ht
    simp only[List.getElem?_cons_zero,Option.some.injEq] at ht
    subst ht
    refine⟨h4,fun _ v hv=>?_⟩
    rw[List.getElem?_append_right (by omega),show i+1-out.length=1 by omega] at hv
    cases hv
   ·have:([u]:List Tok)[i-out.length]?=none:=List.getElem?_eq_none (by simp;omega)
    rw[this] at ht
    cases ht
 ·rw[List.length_append,List.length_singleton,Nat.add_sub_cancel,List.getElem?_append_right (Nat.le_refl _),Nat.sub_self] at ht
  simp only[List.getElem?_cons_zero,Option.some.injEq] at ht
  subst ht
  exact hl hk
def kt (t:Tok):Nat×L:=(t.kind,t.text)
theorem lay_kt (k:Nat) (b:L) (out:List Tok) (i:Nat):(lay k b out)[i]?.map kt=out[i]?.map kt:=by
 rw[lay_at]
 cases out[i]? with
 | none=>rfl
 | some u=>simp only[Option.map_some];split <;> rfl
theorem bodies_kt {ks:List Nat} {out o:List Tok} {l r:L} (e:bodies ks out l=some (o,r)):o.length=out.length∧∀ i:Nat,o[i]?.map kt=out[i]?.map kt:=by
 induction ks generalizing out l with
 | nil=>cases e;exact⟨rfl,fun _=>rfl⟩
 | cons k ks ih=>
  unfold bodies at e
  cases e1:doc (bare ((out[k]?.map Tok.text).getD [])) l with
  | none=>rw[e1] at e;cases e
  | some x=>rw[e1] at e;obtain⟨h1,h2⟩:=ih e;exact⟨by rw[h1];unfold lay;simp,fun i=>(h2 i).trans (lay_kt k x.1 out i)⟩
theorem Pre.same {l:L} {out o:List Tok} (h:Pre l out) (hl:o.length=out.length) (hk:∀ i:Nat,o[i]?.map kt=out[i]?.map kt):Pre l o:=by
 have key:∀ (i:Nat) (t:Tok),o[i]?=some t→∃ u,out[i]?=some u∧u.kind=t.kind∧u.text=t.text:=fun i t ht=>by
  have:=hk i
  rw[ht] at this
  cases e:out[i]? with
  | none=>rw[e] at this;cases this
  | some u=>rw[e] at this;simp only[Option.map_some,kt,Option.some.injEq,Prod.mk.injEq] at this;exact⟨u,rfl,this.1.symm,this.2.symm⟩
 refine⟨fun i t ht=>?_,fun t ht hk5=>?_⟩
 ·obtain⟨u,hu,e1,e2⟩:=key i t ht
  refine⟨by rw[←e1];exact(h.1 i u hu).1,fun hk5 v hv=>?_⟩
  obtain⟨v',hv',e3,e4⟩:=key (i+1) v hv
  rw[←e4]
  exact(h.1 i u hu).2 (e1.trans hk5) v' hv'
 ·rw[hl] at ht
  obtain⟨u,hu,e1,_⟩:=key _ t ht
  exact h.2 u hu (e1.trans hk5)
theorem sign60 (r:L):sign (60::r)=if r.head?=some 60 then some ([60,60],r.tail) else some ([60],r):=by simp[sign]
theorem sign62 (r:L):sign (62::r)=if r.head?=some 62 then some ([62,62],r.tail) else some ([62],r):=by simp[sign]
theorem sign_arrow {c:UInt8} {r t r':L} (h:sign (c::r)=some (t,r')) (hc:c=60∨c=62):Sx.isArrow t=true:=by
 rcases hc with rfl | rfl
 ·rw[sign60] at h
  split at h <;> (cases h;rfl)
 ·rw[sign62] at h
  split at h <;> (cases h;rfl)
theorem pre_step {l l':L} {out out':List Tok} {here here':List Nat} (h:Pre l out) (e:step l out here=.more l' out' here'):Pre l' out':=by
 unfold step at e
 cases l with
 | nil=>simp only at e;split at e <;> cases e
 | cons c r=>
  have hh:((c::r:L).head?=some 60∨(c::r:L).head?=some 62)↔(c=60∨c=62):=by simp
  simp only at e
  split at e
  ·rename_i h1;cases e;exact h.rest (by rw[hh];rcases h1 with rfl | rfl <;> decide)
  ·rename_i hbl
   split at e
   ·rename_i h1;cases e;exact h.rest (by rw[hh,h1.1];decide)
   ·split at e
    ·rename_i h1;cases e;exact h.rest (by rw[hh,h1];decide)
    ·split at e
     ·rename_i h10
      cases e1:bodies here (out++[⟨3,[],[],nl (c::r)⟩]) r with
      | none=>rw[e1] at e;cases e
      | some x=>
       rw[e1] at e
       cases e
       obtain⟨o,r'⟩:=x
       obtain⟨h1,h2⟩:=bodies_kt e1
       exact(h.snoc ⟨3,[],[],nl (c::r)⟩ (by simp) (fun hc=>by rw[hh,h10] at hc;exact absurd hc (by decide)) (by simp)).same h1 h2
     ·rename_i h10
      cases e1:sign (c::r) with
      | some x=>
       obtain⟨t,r'⟩:=x
       rw[e1] at e
       cases e
       exact h.snoc _ (by simp) (fun hc=>sign_arrow e1 (hh.1 hc)) (by simp)
      | none=>
       rw[e1] at e
       simp only at e
       have hno:¬ (c=60∨c=62):=by
        rintro(h9 | h9)
        ·rw[h9,sign60] at e1
         split at e1 <;> cases e1
        ·rw[h9,sign62] at e1
         split at e1 <;> cases e1
       split at e
       ·cases e
       ·cases e2:word (c::r) with
        | error x=>rw[e2] at e;cases e
        | ok x=>
         obtain⟨t,r'⟩:=x
         rw[e2] at e
         simp only at e
         split at e
         ·rename_i hio
          cases e
          refine h.snoc _ (by simp) (fun hc=>absurd (hh.1 hc) hno) fun _=>?_
          unfold io at hio
          simp only[Bool.and_eq_true,Bool.or_eq_true,beq_iff_eq] at hio
          exact hio.2
         ·cases e;exact h.snoc _ (by simp) (fun hc=>absurd (hh.1 hc) hno) (by simp)
theorem good_end {out:List Tok} (h1:∀ (i:Nat) (t:Tok),out[i]?=some t→t.kind≠4∧(t.kind=5→∀ u,out[i+1]?=some u→Sx.isArrow u.text=true)) (h2:∀ t:Tok,out[out.length-1]?=some t→t.kind≠5) (k:Nat):Sx.good (out++[⟨4,[],[],k⟩])=true:=by
 induction out with
 | nil=>rfl
 | cons t out ih=>
  have h3:Sx.good (out++[⟨4,[],[],k⟩])=true:=ih (fun i u hu=>h1 (i+1) u (by simpa using hu)) fun u hu=>by
   refine h2 u ?_
   cases out with
   | nil=>simp at hu
   | cons v out=>simpa using hu
  have h4:=h1 0 t rfl
  cases out with
  | nil=>
   have h5:=h2 t rfl
   simp only[List.cons_append,List.nil_append,Sx.good,Bool.and_eq_true,Bool.or_eq_true,bne_iff_ne,ne_eq]
   exact⟨⟨h4.1,.inl h5⟩,rfl,rfl⟩
  | cons v out=>
   rw[List.cons_append,List.cons_append] at *
   simp only[Sx.good,Bool.and_eq_true,Bool.or_eq_true,bne_iff_ne,ne_eq]
   refine⟨⟨h4.1,?_⟩,h3⟩
   by_cases h5:t.kind=5
   ·exact .inr (h4.2 h5 v rfl)
   ·exact .inl h5
theorem all_good {s:L} {o:List Tok} (h:all s=.ok o):Sx.good o=true:=by
 obtain⟨_,h2⟩:=run_ind (fun l out _=>Pre l out) (fun l out here l' out' here' h e=>pre_step h e) s [] [] ⟨by simp,by simp⟩
 obtain⟨l',o',hh,h3,h4⟩:=h2 o h
 unfold step at h4
 cases l' with
 | nil=>
  simp only at h4
  split at h4
  ·have:=Step.done.inj h4
   subst this
   exact good_end h3.1 (fun t ht hk=>by have:=h3.2 t ht hk;simp at this) 0
  ·cases h4
 | cons c r=>
  simp only at h4
  repeat' (split at h4)
  all_goals first | cases h4
end Lx
end Go.Proofs.YtkkchkkpnlnbgaaGreatDoor
namespace Go.Proofs.YtkkchkkpnlnbgaaGreatDoor
namespace Sx
def Few (N:Nat) (ns:List Node):Prop:=∀ n∈ns,n.kind=1→n.words.length+n.redirs.length≤N
def Pr {α:Type} (N:Nat) (m:M α):Prop:=∀ s a s',Few N s.ns→m s=.ok (a,s')→Few N s'.ns
end Sx
end Go.Proofs.YtkkchkkpnlnbgaaGreatDoor
