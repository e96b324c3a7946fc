/- The parser: function, simple, command. No premises. -/
import Derived.Test.YtkkchkkpnlnbgaaGreatDoorNx
set_option maxRecDepth 100000
set_option maxHeartbeats 3200000
namespace Go.Proofs.YtkkchkkpnlnbgaaGreatDoor
open Go.RowKit Go.Maps
open Lx (Tok nl)
namespace Sx
def funcB (a:M Nat) (n:Nat):M Nat:=fun s=>bnd (need [40]) (fun _=>bnd (need [41]) fun _=>bnd lines fun _=>bnd (compound a n) fun k s2=>add { kind:=13,text:=(hd s).text,kids:=[k],left:=(hd s).left } { s2 with d:=s2.d-1 }) (go { s with d:=s.d+1 })
theorem func_at (a:M Nat) (n:Nat) (s:St):func a n s=if s.d=40 then .error (21,(hd s).left) else funcB a n s:=rfl
end Sx
namespace Pz
section
variable {W:World} {X:Nat→Prop} {g:Nat} {C:Ctx} {σ:Sx.St} {n:Nat} {a:Sx.M Nat}
theorem function_v (hL:Lev g C n a) (h:PMem W X g C σ) (hX:XL X W) (hF:Fit σ) (hn:σ.r.length<n) (ht:(Sx.hd σ).text≠[]):Calls Tryz.prog 129 #[.pointer (some ⟨g,0,none⟩)] W (StR X W g C (Sx.func a n σ) natV):=by
 rw[Sx.func_at]
 have HL:=Lib.hid hL
 have HN:=Lib.hid (show ({ σ with d:=σ.d+1 }:Sx.St).r.length<n from hn)
 have HMM:=Lib.hid h
 have HC:=Lib.hid h.ctx
 have HXB:=Lib.hid hX
 have HT:=Lib.hid (show (Sx.hd ({ σ with d:=σ.d+1 }:Sx.St)).text≠[] from ht)
 have hf1:=fld1
 have hf3:=fld3
 by_cases hd4:σ.d=40
 ·rw[if_pos hd4]
  have HNE:=Lib.hid hF.ne
  have HD:=Lib.hid hd4
  clear hd4 hL h hX hF hn ht
  go_enter Tryz.func129,Tryz.ntmps129
  go_wp2_with (first
   |(go_at_call 135;(with_reducible refine(enter_bad HMM.out HNE.out HD.out).mono ?_);rintro e wz ⟨rfl,hlz⟩))
  exact bodyPost_panic rfl ⟨rfl,Fr.later hlz⟩
 ·rw[if_neg hd4]
  have HD:=Lib.hid (show σ.d<40 by have:=hF.d;omega)
  have HFT0:=Lib.hid (show Fit ({ σ with d:=σ.d+1 }:Sx.St) from⟨hF.good,hF.pot,by have:=hF.d;show σ.d+1≤40;omega⟩)
  have HW0:=Lib.hid (Sx.Wk.refl (s:=({ σ with d:=σ.d+1 }:Sx.St)) hF.good)
  clear hd4 hL h hX hF hn ht
  go_enter Tryz.func129,Tryz.ntmps129
  go_wp2_with (first
   |(go_at_call 135;(with_reducible refine(enter_v HMM.out HD.out).mono ?_);rintro e w1 ⟨rfl,hm,hf⟩;have HM1:=Lib.hid (hm);have HFR1:=Lib.hid (hf);have HXL1:=Lib.hid (HXB.out.mono hf.size);have HW1:=Lib.hid (HW0.out);have HFT1:=Lib.hid (HFT0.out);clear hm hf)
   |(go_at_call 64;(with_reducible refine(line_v HM1.out HFT1.out.ne).mono ?_);rintro e w2 ⟨rfl,hl⟩;have HW2:=Lib.hid (HW1.out);have HFT2:=Lib.hid (HFT1.out);have HM2:=Lib.hid (HM1.out.later hl);have HFR2:=Lib.hid (HFR1.out.thenLater hl);have HXL2:=Lib.hid (HXL1.out.mono hl.size);clear hl;unfold lnv)
   |(go_at_call 54;(with_reducible refine(next_v HM2.out HFT2.out.ne).mono ?_);rintro e w3 ⟨rfl,hm,hf⟩;have HW3:=Lib.hid (HW2.out.trans (Sx.Wk.go HFT2.out.good (.inl HT.out)) (k:=9) (by omega));have HM3:=Lib.hid (hm);have HFR3:=Lib.hid (HFR2.out.trans hf);have HXL3:=Lib.hid (HXL2.out.mono hf.size);have HFT3:=Lib.hid (HFT0.out.wk HW3.out (by omega));clear hm hf;unfold tcs)
   |(refine wpList_allocO 3 rfl rfl 37 rfl _ _ info_node ?_;intro w8 hb hl hz;have HB8:=Lib.hid (hb);have HL8:=Lib.hid (hl);clear hb hl hz)
   |(refine wpList_storeO rfl 37 (.tmp 3) (.tmp 11) rfl w3.heap.size _ (ncs ({ kind:=13,text:=(Sx.hd σ).text,left:=(Sx.hd σ).left }:Sx.Node) v0 (lnv C.N (Sx.hd σ).left)).toArray rfl rfl HB8.out size_node rfl (ncs_all (Nest.v0 W _ rfl rfl rfl) rfl) ?_;intro w9 hb hg hz;have HP4:=Lib.hid (PLoc.made (W0:=W) (X:=X) (HM3.out.sub (Y:=plus X (blks v0)) (fun b hb=>hb.resolve_right (by simp[blks_v0])) (CtxX.more HC.out _)) HC.out HFR3.out (Nest.v0 _ _ rfl rfl rfl) (by simp[blks_v0]) HL8.out hg hb);have HW4:=Lib.hid (HW3.out);have HFT4:=Lib.hid (HFT3.out);clear hb hg hz HB8 HL8)
   |(go_at_call 51;(with_reducible refine(need_v ⟨#[40]⟩ [40] rfl (HP4.out.mem) HFT4.out.ne).mono ?_);intro e w5 hh;refine StR.cases hh (fun nn kk hx he hf=>by subst he;refine bodyPost_panic (P:=Tryz.prog) (fn:=Tryz.f129) rfl ?_;rw[show Sx.funcB a n σ=.error (nn,kk) by simp only[Sx.funcB,Sx.bnd,hx]];exact⟨rfl,HP4.out.fr.trans hf.less⟩) (fun x4 σ5 hx he hm hf=>?_);subst he;clear hh;have HX5:=Lib.hid (hx);have HW5:=Lib.hid (HW4.out.trans ((Sx.need_un (by decide) HFT4.out.good hx).2.2) (k:=17) (by omega));have HP5:=Lib.hid (HP4.out.call hm hf);have HFT5:=Lib.hid (HFT0.out.wk HW5.out (by omega));clear hx hm hf)
   |(go_at_call 51;(with_reducible refine(need_v ⟨#[41]⟩ [41] rfl (HP5.out.mem) HFT5.out.ne).mono ?_);intro e w6 hh;refine StR.cases hh (fun nn kk hx he hf=>by subst he;refine bodyPost_panic (P:=Tryz.prog) (fn:=Tryz.f129) rfl ?_;rw[show Sx.funcB a n σ=.error (nn,kk) by simp only[Sx.funcB,Sx.bnd,HX5.out,hx]];exact⟨rfl,HP5.out.fr.trans hf.less⟩) (fun x5 σ6 hx he hm hf=>?_);subst he;clear hh;have HX6:=Lib.hid (hx);have HW6:=Lib.hid (HW5.out.trans ((Sx.need_un (by decide) HFT5.out.good hx).2.2) (k:=25) (by omega));have HP6:=Lib.hid (HP5.out.call hm hf);have HFT6:=Lib.hid (HFT0.out.wk HW6.out (by omega));clear hx hm hf)
   |(go_at_call 58;(with_reducible refine(lines_v (HP6.out.mem) HFT6.out.good).mono ?_);rintro e w7 ⟨rfl,hm,hf⟩;have HW7:=Lib.hid (HW6.out.trans (Sx.Wk.dl HFT6.out.good) (k:=25) (by omega));have HP7:=Lib.hid (HP6.out.call hm hf);have HFT7:=Lib.hid (HFT0.out.wk HW7.out (by omega));clear hm hf)
   |(go_at_call 131;(with_reducible refine(compound_v HL.out (HP7.out.mem) (HP7.out.xl HXB.out) HFT7.out (by have h8:(Sx.dl σ6).r.length≤σ.r.length:=HW7.out.le;have h9:σ.r.length<n:=HN.out;omega)).mono ?_);intro e w8 hh;refine StR.cases hh (fun nn kk hx he hf=>by subst he;refine bodyPost_panic (P:=Tryz.prog) (fn:=Tryz.f129) rfl ?_;rw[show Sx.funcB a n σ=.error (nn,kk) by simp only[Sx.funcB,Sx.bnd,Sx.lines,HX5.out,HX6.out,hx]];exact⟨rfl,HP7.out.fr.trans hf.less⟩) (fun k σ8 hx he hm hf=>?_);subst he;clear hh;have HX8:=Lib.hid (hx);have HW8:=Lib.hid (HW7.out.trans (Sx.compound_un HL.out.un n HFT7.out.good hx) (k:=33) (by omega));have HP8:=Lib.hid (HP7.out.call hm hf);have HFT8:=Lib.hid (HFT0.out.wk HW8.out (by omega));clear hx hm hf;unfold natV;have HPL:=Lib.hid ((PLoc.growK HP8.out HXB.out HC.out k (Later.refl w8) (v':=.slice (some ⟨w8.heap.size,0,none⟩) 1 1) (w':=w8.alloc (.cells #[.int .i64 (k:Int)] 3)) (own_lit w8 3 [iv k] (by simp)) (grown_of_later (Later.alloc _ _) _) (.inr rfl)).1);obtain⟨q6,z6⟩:=(HP8.out.later (Later.alloc w8 (.cells #[.int .i64 (k:Int)] 3))).cell 6;simp only[ncs,List.getElem?_cons_succ,List.getElem?_cons_zero,v0,nilV] at q6)
   |(go_at_call 136;(with_reducible refine(leave_v (σ:=σ8) HPL.out.mem (by have h8:σ8.d=σ.d+1:=HW8.out.d;omega) (by have h8:σ8.d=σ.d+1:=HW8.out.d;have h9:=HD.out;omega)).mono ?_);rintro e w7 ⟨rfl,hm,hf⟩;have HPV:=Lib.hid (HPL.out.call hm hf);clear hm hf q6 z6)
   |(refine wpList_loadO rfl 37 (.tmp 3) rfl w3.heap.size _ _ rfl HPV.out.box Tryz.underlying37 rfl size_node ?_)
   |(go_at_call 67;(refine(add_v ({ kind:=13,text:=(Sx.hd σ).text,kids:=[k],left:=(Sx.hd σ).left }:Sx.Node) _ _ rfl (HPV.out.addable HC.out) HC.out (HXB.out.mono HPV.out.fr.size) HPV.out.nest (fun b hb=>HPV.out.notX HXB.out b (List.mem_cons_of_mem _ hb)) HFT8.out.nodes).mono ?_);rintro e wz ⟨rfl,hmz,hfz⟩))
  go_ret
  rw[show Sx.funcB a n σ=Sx.add ({ kind:=13,text:=(Sx.hd σ).text,kids:=[k],left:=(Sx.hd σ).left }:Sx.Node) ({ σ8 with d:=σ8.d-1 }:Sx.St) by simp only[Sx.funcB,Sx.bnd,Sx.lines,HX5.out,HX6.out,HX8.out]]
  exact⟨rfl,hmz,HPV.out.fr.trans hfz⟩
theorem simple_v (h:PMem W X g C σ) (hX:XL X W) (hF:Fit σ) (hn:σ.r.length<n):Calls Tryz.prog 130 #[.pointer (some ⟨g,0,none⟩)] W (StR X W g C (Sx.simple n σ) natV):=by
 have HN:=Lib.hid hn
 have HFT0:=Lib.hid hF
 have HXL0:=Lib.hid hX
 have HM0:=Lib.hid h
 have HC:=Lib.hid h.ctx
 have HFR0:=Lib.hid (Fr.refl X W)
 have HW0:=Lib.hid (Sx.Wk.refl hF.good)
 have HXB:=Lib.hid hX
 have hf0:=fld0
 clear hn hF hX h
 go_enter Tryz.func130,Tryz.ntmps130
 go_wp2_with (first
   |(go_at_call 64;(with_reducible refine(line_v HM0.out HFT0.out.ne).mono ?_);rintro e w1 ⟨rfl,hl⟩;have HW1:=Lib.hid (HW0.out);have HFT1:=Lib.hid (HFT0.out);have HM1:=Lib.hid (HM0.out.later hl);have HFR1:=Lib.hid (HFR0.out.thenLater hl);have HXL1:=Lib.hid (HXL0.out.mono hl.size);clear hl;unfold lnv)
   |(refine wpList_allocO 3 rfl rfl 37 rfl _ _ info_node ?_;intro w8 hb hl hz;have HB8:=Lib.hid (hb);have HL8:=Lib.hid (hl);clear hb hl hz)
   |(refine wpList_storeO rfl 37 (.tmp 3) (.tmp 6) rfl w1.heap.size _ (ncs ({ kind:=1,left:=(Sx.hd σ).left }:Sx.Node) v0 (lnv C.N (Sx.hd σ).left)).toArray rfl rfl HB8.out size_node rfl (ncs_all (Nest.v0 W _ rfl rfl rfl) rfl) ?_;intro w9 hb hg hz;have HP2:=Lib.hid (PLoc.made (W0:=W) (X:=X) (HM1.out.sub (Y:=plus X (blks v0)) (fun b hb=>hb.resolve_right (by simp[blks_v0])) (CtxX.more HC.out _)) HC.out HFR1.out (Nest.v0 _ _ rfl rfl rfl) (by simp[blks_v0]) HL8.out hg hb);have HW2:=Lib.hid (HW1.out);have HFT2:=Lib.hid (HFT1.out);clear hb hg hz HB8 HL8))
 rw[show ∀ (a:Act) v,Act.put a none v=a from fun _ _=>rfl]
 simp only[Act.put,List.setIfInBounds_toArray,List.set_cons_succ,List.set_cons_zero]
 go_loopw [] (fun wr=>∃ (σr:Sx.St) (ws:List Lx.L) (rs:List Sx.Arw) (v:Vals) (m:Nat),Sx.simF n [] [] σ=Sx.simF m ws rs σr∧σr.r.length<m∧Sx.Wk 1 σ σr []∧ws.length+rs.length+σr.r.length≤5000∧(∀ w∈ws,w.length≤5000)∧PLoc W X g C w1.heap.size (lnv C.N (Sx.hd σ).left) ({ kind:=1,words:=ws,redirs:=rs,left:=(Sx.hd σ).left }:Sx.Node) v σr wr) (fun wr=>C.TS.length-atP g wr)
 case atStart=>exact⟨σ,[],[],v0,n,rfl,HN.out,HW0.out,by have:=HP2.out.mem.few;simp;omega,by simp,HP2.out⟩
 case round=>
  clear HP2
  obtain⟨σr,ws,rs,v,m,hq,hm,hw,hfw,hsw,hp⟩:=hrel
  have HQ:=Lib.hid hq
  have HMM:=Lib.hid hm
  have HWR:=Lib.hid hw
  have HFW:=Lib.hid hfw
  have HSW:=Lib.hid hsw
  have HPR:=Lib.hid hp
  have HFTR:=Lib.hid (HFT0.out.wk HWR.out (by omega))
  clear hq hm hw hfw hsw hp
  have HPK:=Lib.hid (peek_v HPR.out.mem HFTR.out.ne)
  have HSM:=Lib.hid (small_v HPR.out.mem _ (hd_mem HFTR.out.ne))
  by_cases hk:(Sx.hd σr).kind=1
  ·have HK:=Lib.hid (show ((Sx.hd σr).kind:Int)=1 by omega)
   have HKN:=Lib.hid hk
   have HGO:=Lib.hid (Sx.Wk.go HFTR.out.good (.inr (by rw[hk];decide)))
   clear hk
   go_wp2_with (first
    |(go_at_call 29;(with_reducible refine HPK.out.mono ?_);rintro e w5 ⟨rfl,hl⟩;have HP5:=Lib.hid (HPR.out.later hl);clear hl;unfold tcs;rw[HK.out]))
   have hpd:=HP5.out.later (Later.drew _)
   have hcl:=next_v hpd.mem HFTR.out.ne
   refine apW "syntax.go:279" 63 54 3 19 HP5.out HXB.out HC.out (entO Tryz.func54 rfl rfl) rfl rfl (by kernel_rfl) rfl rfl (by have:=HFW.out;simp only;omega) (.ok (Sx.hd σr,Sx.go σr)) hcl (fun nn kk w' hm0 hf9 a9 hd9=>by cases hm0) ?_
   intro y σz hk a9 wz vz hp9 hd hsz hfree
   cases hk
   have HPZ:=Lib.hid hp9
   clear hcl hpd hp9
   obtain⟨u19,hu19⟩:∃ u,u=a9.tmps.getD 19 undef:=⟨_,rfl⟩
   obtain⟨u20,hu20⟩:∃ u,u=a9.tmps.getD 20 undef:=⟨_,rfl⟩
   obtain⟨u21,hu21⟩:∃ u,u=a9.tmps.getD 21 undef:=⟨_,rfl⟩
   obtain⟨u22,hu22⟩:∃ u,u=a9.tmps.getD 22 undef:=⟨_,rfl⟩
   obtain⟨u23,hu23⟩:∃ u,u=a9.tmps.getD 23 undef:=⟨_,rfl⟩
   obtain⟨u24,hu24⟩:∃ u,u=a9.tmps.getD 24 undef:=⟨_,rfl⟩
   obtain⟨u25,hu25⟩:∃ u,u=a9.tmps.getD 25 undef:=⟨_,rfl⟩
   obtain⟨u26,hu26⟩:∃ u,u=a9.tmps.getD 26 undef:=⟨_,rfl⟩
   have hal:AllAt a9 0 [.pointer (some ⟨g,0,none⟩),_,_,.pointer (some ⟨w1.heap.size,0,none⟩),_,_,_,_,_,_,_,_,_,_,_,_,_,_,_,u19,u20,u21,u22,u23,u24,u25,u26,_,_,_,_,_,_,_,_,_,_]:=⟨hfree 0 rfl,hfree 1 rfl,hfree 2 rfl,hfree 3 rfl,hfree 4 rfl,hfree 5 rfl,hfree 6 rfl,hfree 7 rfl,hfree 8 rfl,hfree 9 rfl,hfree 10 rfl,hfree 11 rfl,hfree 12 rfl,hfree 13 rfl,hfree 14 rfl,hfree 15 rfl,hfree 16 rfl,hfree 17 rfl,hfree 18 rfl,hu19.symm,hu20.symm,hu21.symm,hu22.symm,hu23.symm,hu24.symm,hu25.symm,hu26.symm,hfree 27 rfl,hfree 28 rfl,hfree 29 rfl,hfree 30 rfl,hfree 31 rfl,hfree 32 rfl,hfree 33 rfl,hfree 34 rfl,hfree 35 rfl,hfree 36 rfl,trivial⟩
   have hlit:=fun h=>act_lit hd h hal
   rw[hlit hsz]
   clear hlit hal hd hsz hfree hu19 hu20 hu21 hu22 hu23 hu24 hu25 hu26
   go_wp2
   go_roundw
   case rel=>
    obtain⟨m2,hm2⟩:∃ m2,m=m2+1:=⟨m-1,by have:=HMM.out;omega⟩
    have h2:=HGO.out.len (by omega)
    refine⟨Sx.go σr,ws++[(Sx.hd σr).text],rs,vz,m2,?_,by have:=HMM.out;omega,by have:=(HWR.out.trans HGO.out (k:=9) (by omega)).weak (k':=1) (by omega);rwa[List.append_nil] at this,by have:=HFW.out;simp;omega,?_,HPZ.out⟩
    ·rw[HQ.out,hm2]
     simp only[Sx.simF,if_pos HKN.out]
    ·intro w hw
     rcases List.mem_append.1 hw with hw | hw
     ·exact HSW.out w hw
     ·simp only[List.mem_singleton] at hw
      rw[hw]
      exact HSM.out
   case measure=>
    rw[HPZ.out.mem.left,HPR.out.mem.left]
    exact HGO.out.len (by omega)
  ·have HKN:=Lib.hid hk
   have hk9:(((Sx.hd σr).kind:Int)==1)=false:=by simp;omega
   clear hk
   obtain⟨A,c9,hvw,hc9⟩:=own_any HPR.out.nest.w
   have HVW:=Lib.hid hvw
   clear hvw
   go_wp2_with (first
    |(go_at_call 29;(with_reducible refine HPK.out.mono ?_);rintro e w5 ⟨rfl,hl⟩;have HP5:=Lib.hid (HPR.out.later hl);clear hl;unfold tcs)
    |(go_at_call 120;(with_reducible refine(atRedir_v HP5.out.mem HFTR.out.ne).mono ?_);rintro e w6 ⟨rfl,hl⟩;have HP6:=Lib.hid (HP5.out.later hl);clear hl;obtain⟨q3,z3⟩:=HP6.out.cell 3;simp only[ncs,List.getElem?_cons_succ,List.getElem?_cons_zero,HVW.out] at q3;cases hq:Sx.atRedir σr <;> (have HAR:=Lib.hid hq;clear hq))
    |(go_at_call 138;(with_reducible refine(setsOf_v ws HSW.out A ws.length c9 rfl (by have:=HFW.out;omega) _ (by rw[←HVW.out];exact HP6.out.nest.w)).mono ?_);rintro e w7 ⟨rfl,hl⟩;have HP7:=Lib.hid (HP6.out.later hl);have HPS:=Lib.hid ((HP6.out.later hl).set HXB.out 4 (.int .i64 (Sx.sets ws:Int)) (n':=({ kind:=1,words:=ws,sets:=Sx.sets ws,redirs:=rs,left:=(Sx.hd σ).left }:Sx.Node)) (ln':=lnv C.N (Sx.hd σ).left) rfl rfl rfl rfl);clear hl;obtain⟨q4,z4⟩:=HP7.out.cell 4;simp only[ncs,List.getElem?_cons_succ,List.getElem?_cons_zero] at q4)
    |(refine wpList_loadO rfl 37 (.tmp 3) rfl w1.heap.size _ _ rfl HPS.out.box Tryz.underlying37 rfl size_node ?_)
    |(go_at_call 67;(refine(add_v ({ kind:=1,words:=ws,sets:=Sx.sets ws,redirs:=rs,left:=(Sx.hd σ).left }:Sx.Node) _ _ rfl (HPS.out.addable HC.out) HC.out (HXB.out.mono HPS.out.fr.size) HPS.out.nest (fun b hb=>HPS.out.notX HXB.out b (List.mem_cons_of_mem _ hb)) HFTR.out.nodes).mono ?_);rintro e wz ⟨rfl,hmz,hfz⟩))
   ·
    go_ret
    have he:Sx.simF n [] [] σ=.ok ((ws,rs),σr):=by rw[HQ.out];obtain⟨m2,rfl⟩:∃ m2,m=m2+1:=⟨m-1,by have:=HMM.out;omega⟩;simp only[Sx.simF,if_neg HKN.out,HAR.out,Bool.false_eq_true,if_false]
    rw[show Sx.simple n σ=Sx.add ({ kind:=1,words:=ws,sets:=Sx.sets ws,redirs:=rs,left:=(Sx.hd σ).left }:Sx.Node) σr by simp only[Sx.simple,Sx.bnd,he]]
    exact⟨rfl,hmz,HPS.out.fr.trans hfz⟩
   ·
    clear q3 z3
    have hpd:=HP6.out.later (Later.drew _)
    have hcl:=redir_v hpd.mem HFTR.out.good HAR.out
    refine apR "syntax.go:281" 79 137 3 30 HP6.out HXB.out HC.out (entO Tryz.func137 rfl rfl) rfl rfl (by kernel_rfl) rfl rfl (by have:=HFW.out;simp only;omega) (Sx.redir σr) hcl (fun nn kk w' hm0 hf9 a9 hd9=>?_) ?_
    ·refine bodyPost_panic (P:=Tryz.prog) (fn:=Tryz.f130) hd9 ?_
     have he:Sx.simF n [] [] σ=.error (nn,kk):=by rw[HQ.out];obtain⟨m2,rfl⟩:∃ m2,m=m2+1:=⟨m-1,by have:=HMM.out;omega⟩;simp only[Sx.simF,if_neg HKN.out,HAR.out,if_true];exact Sx.bnd_error hm0
     rw[show Sx.simple n σ=.error (nn,kk) by simp only[Sx.simple,Sx.bnd,he]]
     exact⟨rfl,hf9⟩
    intro y σz hk a9 wz vz hp9 hd hsz hfree
    have HK:=Lib.hid hk
    have HPZ:=Lib.hid hp9
    have HU:=Lib.hid (Sx.redir_un HFTR.out.good HAR.out hk)
    clear hk hcl hpd hp9
    obtain⟨u30,hu30⟩:∃ u,u=a9.tmps.getD 30 undef:=⟨_,rfl⟩
    obtain⟨u31,hu31⟩:∃ u,u=a9.tmps.getD 31 undef:=⟨_,rfl⟩
    obtain⟨u32,hu32⟩:∃ u,u=a9.tmps.getD 32 undef:=⟨_,rfl⟩
    obtain⟨u33,hu33⟩:∃ u,u=a9.tmps.getD 33 undef:=⟨_,rfl⟩
    obtain⟨u34,hu34⟩:∃ u,u=a9.tmps.getD 34 undef:=⟨_,rfl⟩
    obtain⟨u35,hu35⟩:∃ u,u=a9.tmps.getD 35 undef:=⟨_,rfl⟩
    obtain⟨u36,hu36⟩:∃ u,u=a9.tmps.getD 36 undef:=⟨_,rfl⟩
    have hal:AllAt a9 0 [.pointer (some ⟨g,0,none⟩),_,_,.pointer (some ⟨w1.heap.size,0,none⟩),_,_,_,_,_,_,_,_,_,_,_,_,_,_,_,_,_,_,_,_,_,_,_,_,_,_,u30,u31,u32,u33,u34,u35,u36]:=⟨hfree 0 rfl,hfree 1 rfl,hfree 2 rfl,hfree 3 rfl,hfree 4 rfl,hfree 5 rfl,hfree 6 rfl,hfree 7 rfl,hfree 8 rfl,hfree 9 rfl,hfree 10 rfl,hfree 11 rfl,hfree 12 rfl,hfree 13 rfl,hfree 14 rfl,hfree 15 rfl,hfree 16 rfl,hfree 17 rfl,hfree 18 rfl,hfree 19 rfl,hfree 20 rfl,hfree 21 rfl,hfree 22 rfl,hfree 23 rfl,hfree 24 rfl,hfree 25 rfl,hfree 26 rfl,hfree 27 rfl,hfree 28 rfl,hfree 29 rfl,hu30.symm,hu31.symm,hu32.symm,hu33.symm,hu34.symm,hu35.symm,hu36.symm,trivial⟩
    have hlit:=fun h=>act_lit hd h hal
    rw[hlit hsz]
    clear hlit hal hd hsz hfree hu30 hu31 hu32 hu33 hu34 hu35 hu36
    go_wp2
    go_roundw
    case rel=>
     obtain⟨m2,hm2⟩:∃ m2,m=m2+1:=⟨m-1,by have:=HMM.out;omega⟩
     have h2:=HU.out.len (by omega)
     refine⟨σz,ws,rs++[y],vz,m2,?_,by have:=HMM.out;omega,by have:=(HWR.out.trans HU.out (k:=9) (by omega)).weak (k':=1) (by omega);rwa[List.append_nil] at this,by have:=HFW.out;simp;omega,HSW.out,HPZ.out⟩
     rw[HQ.out,hm2]
     simp only[Sx.simF,if_neg HKN.out,HAR.out,if_true]
     exact Sx.bnd_ok HK.out
    case measure=>
     rw[HPZ.out.mem.left,HPR.out.mem.left]
     exact HU.out.len (by omega)
theorem command_v (hL:Lev g C n a) (h:PMem W X g C σ) (hX:XL X W) (hF:Fit σ) (hn:σ.r.length<n):Calls Tryz.prog 121 #[.pointer (some ⟨g,0,none⟩)] W (StR X W g C (Sx.command a n σ) natV):=by
 have HL:=Lib.hid hL
 have HN:=Lib.hid hn
 have HF:=Lib.hid hF
 have HX:=Lib.hid hX
 have HM:=Lib.hid h
 have HAF:=Lib.hid (atFunc_v h hF.good)
 have HAS:=Lib.hid (fun w (hl:Later W w)=>atSimple_v (h.later hl) hF.ne)
 clear hL hn hF hX h
 unfold Sx.command
 by_cases h1:Sx.atFunc σ=true
 ·rw[if_pos h1]
  rw[h1] at HAF
  have HT:=Lib.hid (show (Sx.hd σ).text≠[] from fun e=>by unfold Sx.atFunc at h1;rw[e,Sx.nameB_nil] at h1;cases h1)
  clear h1
  go_enter Tryz.func121,Tryz.ntmps121
  go_wp2_with (first
   |(go_at_call 128;(with_reducible refine HAF.out.mono ?_);rintro e w1 ⟨rfl,hl1⟩;have HFR2:=Lib.hid (Fr.later (X:=X) hl1);have HM2:=Lib.hid (HM.out.later hl1);clear hl1)
   |(go_at_call 129;(with_reducible refine(function_v HL.out HM2.out (HX.out.mono HFR2.out.size) HF.out HN.out HT.out).mono ?_);intro e w3 hh;refine StR.cases hh (fun nn kk hx he hf=>by subst he;refine bodyPost_panic (P:=Tryz.prog) (fn:=Tryz.f121) rfl ?_;rw[hx];exact⟨rfl,HFR2.out.trans hf⟩) (fun i σ3 hx he hm hf=>?_);subst he;clear hh;have HM3:=Lib.hid (hm);have HF3:=Lib.hid (HFR2.out.trans hf);have HX3:=Lib.hid (hx);clear hm hf hx))
  go_ret
  rw[HX3.out]
  exact⟨rfl,HM3.out,HF3.out⟩
 ·rw[if_neg h1]
  have h1':Sx.atFunc σ=false:=by simpa using h1
  rw[h1'] at HAF
  clear h1 h1'
  by_cases h2:Sx.atSimple σ=true
  ·rw[if_pos h2]
   have HAT:=Lib.hid h2
   clear h2
   go_enter Tryz.func121,Tryz.ntmps121
   go_wp2_with (first
    |(go_at_call 128;(with_reducible refine HAF.out.mono ?_);rintro e w1 ⟨rfl,hl1⟩;have HL1:=Lib.hid hl1;clear hl1)
    |(go_at_call 98;(with_reducible refine(HAS.out _ HL1.out).mono ?_);rintro e w2 ⟨rfl,hl2⟩;rw[HAT.out];have HFR2:=Lib.hid (Fr.later (X:=X) (HL1.out.trans hl2));have HM2:=Lib.hid (HM.out.later (HL1.out.trans hl2));clear hl2)
    |(go_at_call 130;(with_reducible refine(simple_v HM2.out (HX.out.mono HFR2.out.size) HF.out HN.out).mono ?_);intro e w3 hh;refine StR.cases hh (fun nn kk hx he hf=>by subst he;refine bodyPost_panic (P:=Tryz.prog) (fn:=Tryz.f121) rfl ?_;rw[hx];exact⟨rfl,HFR2.out.trans hf⟩) (fun i σ3 hx he hm hf=>?_);subst he;clear hh;have HM3:=Lib.hid (hm);have HF3:=Lib.hid (HFR2.out.trans hf);have HX3:=Lib.hid (hx);clear hm hf hx))
   go_ret
   rw[HX3.out]
   exact⟨rfl,HM3.out,HF3.out⟩
  ·rw[if_neg h2]
   have HAT:=Lib.hid (show Sx.atSimple σ=false by simpa using h2)
   clear h2
   go_enter Tryz.func121,Tryz.ntmps121
   go_wp2_with (first
    |(go_at_call 128;(with_reducible refine HAF.out.mono ?_);rintro e w1 ⟨rfl,hl1⟩;have HL1:=Lib.hid hl1;clear hl1)
    |(go_at_call 98;(with_reducible refine(HAS.out _ HL1.out).mono ?_);rintro e w2 ⟨rfl,hl2⟩;rw[HAT.out];have HFR2:=Lib.hid (Fr.later (X:=X) (HL1.out.trans hl2));have HM2:=Lib.hid (HM.out.later (HL1.out.trans hl2));clear hl2)
    |(go_at_call 131;(with_reducible refine(compound_v HL.out HM2.out (HX.out.mono HFR2.out.size) HF.out HN.out).mono ?_);intro e w3 hh;refine StR.cases hh (fun nn kk hx he hf=>by subst he;refine bodyPost_panic (P:=Tryz.prog) (fn:=Tryz.f121) rfl ?_;rw[hx];exact⟨rfl,HFR2.out.trans hf⟩) (fun i σ3 hx he hm hf=>?_);subst he;clear hh;have HM3:=Lib.hid (hm);have HF3:=Lib.hid (HFR2.out.trans hf);have HX3:=Lib.hid (hx);clear hm hf hx))
   go_ret
   rw[HX3.out]
   exact⟨rfl,HM3.out,HF3.out⟩
end
end Pz
end Go.Proofs.YtkkchkkpnlnbgaaGreatDoor
