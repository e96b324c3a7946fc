/- The parser's small methods: line, is, fail, refuse, next. No premises. -/
import Derived.Test.YtkkchkkpnlnbgaaGreatDoorNo
set_option maxRecDepth 100000
set_option maxHeartbeats 1600000
namespace Go.Proofs.YtkkchkkpnlnbgaaGreatDoor
open Go.RowKit Go.Maps
open Lx (Tok nl)
namespace Pz
section
variable {W:World} {X:Nat→Prop} {g:Nat} {C:Ctx} {σ:Sx.St}
theorem line_v (h:PMem W X g C σ) (hne:σ.r≠[]):Calls Tryz.prog 64 #[.pointer (some ⟨g,0,none⟩)] W fun e W'=>e=.returned (lnv C.N (Sx.hd σ).left)∧Later W W':=by
 have HP:=Lib.hid (peek_v h hne)
 clear h hne
 have hf3:=fld3
 go_enter Tryz.func64,Tryz.ntmps64
 go_wp2_with (first
  |(go_at_call 29;(with_reducible refine HP.out.mono ?_);rintro e w1 ⟨rfl,hl1⟩;unfold tcs))
 go_ret
 exact⟨rfl,hl1⟩
theorem is_v (t:ByteArray) (T:Lx.L) (hT:t=mkS T) (h:PMem W X g C σ) (hne:σ.r≠[]):Calls Tryz.prog 62 #[.pointer (some ⟨g,0,none⟩),.string t] W fun e W'=>e=.returned (.bool (Sx.isT T σ))∧Later W W':=by
 have HP:=Lib.hid (peek_v h hne)
 have HE:=Lib.hid (show ((mkS (Sx.hd σ).text).toList==t.toList)=Sx.isT T σ by rw[hT,text_eq];rfl)
 clear h hne hT
 have hf1:=fld1
 go_enter Tryz.func62,Tryz.ntmps62
 go_wp2_with (first
  |(go_at_call 29;(with_reducible refine HP.out.mono ?_);rintro e w1 ⟨rfl,hl1⟩;unfold tcs))
 go_ret
 refine⟨?_,hl1⟩
 rw[←HE.out]
 rfl
end
def pflt (e:Int) (l:Value):List PanicEntry:=[{ v:=.iface 43 (.agg #[.int .i64 e,l]),recovered:=false }]
section
variable {W:World} {X:Nat→Prop} {g:Nat} {C:Ctx} {σ:Sx.St}
theorem fail_v (k:Int) (h:PMem W X g C σ) (hne:σ.r≠[]):Calls Tryz.prog 68 #[.pointer (some ⟨g,0,none⟩),.int .i64 k] W fun e W'=>e=.panicked (pflt k (lnv C.N (Sx.hd σ).left))∧Later W W':=by
 have HP:=Lib.hid (line_v h hne)
 clear h hne
 go_enter Tryz.func68,Tryz.ntmps68
 go_wp2_with (first
  |(go_at_call 64;(with_reducible refine HP.out.mono ?_);rintro e w1 ⟨rfl,hl1⟩;unfold lnv))
 exact bodyPost_panic rfl ⟨rfl,hl1⟩
theorem refuse_v (h:PMem W X g C σ) (hne:σ.r≠[]):Calls Tryz.prog 30 #[.pointer (some ⟨g,0,none⟩)] W fun e W'=>e=.panicked (pflt 20 (lnv C.N (Sx.hd σ).left))∧Later W W':=by
 have HP:=Lib.hid (fail_v 20 h hne)
 clear h hne
 go_enter Tryz.func30,Tryz.ntmps30
 go_wp2_with (first
  |(go_at_call 68;(with_reducible refine HP.out.mono ?_);rintro e w1 ⟨rfl,hl1⟩))
 exact bodyPost_panic rfl ⟨rfl,hl1⟩
theorem next_v (h:PMem W X g C σ) (hne:σ.r≠[]):Calls Tryz.prog 54 #[.pointer (some ⟨g,0,none⟩)] W fun e W'=>e=.returned (.agg (tcs C.N (Sx.hd σ)))∧PMem W' X g C (Sx.go σ)∧Fr X W W':=by
 have HP:=Lib.hid (show ∀ w,Later W w→Calls Tryz.prog 29 #[.pointer (some ⟨g,0,none⟩)] w _ from fun w hl=>peek_v (h.later hl) hne)
 have HLO:=Lib.hid h.low
 have HCX:=Lib.hid h.ctx
 replace h:=h.more [W.heap.size] (by simp)
 obtain⟨p,vn,nd,h⟩:=h
 have hlen:=h.len
 have hp:p<C.TS.length:=by
  have:0<σ.r.length:=List.length_pos_iff.2 hne
  omega
 have hbig:=h.big
 have HGX:=Lib.hid (show ¬ X g from fun e=>h.gX (.inl e))
 have HGL:=Lib.hid h.lt
 have HF:=Lib.hid (show ∀ w,Later W w→w.cell? ⟨g,1,none⟩=some (.int .i64 (p:Int))∧w.frozen? ⟨g,1,none⟩=false from fun w hw=>⟨((h.later hw).facts).1.2.1,((h.later hw).facts).2 1⟩)
 have HS:=Lib.hid (show ∀ w,Later W w→PMem (w.setCell ⟨g,1,none⟩ (.int .i64 ((p:Int)+1))) (plus X [W.heap.size]) g C (Sx.go σ) from fun w hw=>by
  refine((h.later hw).set 1 _ (σ':=Sx.go σ) (p':=p+1) (by show (PC C p σ.d vn).setIfInBounds 1 _=PC C (p+1) σ.d vn;rw[show ((p:Int)+1)=((p+1:Nat):Int) from by omega];rfl) ?_ ?_ rfl).mem
  ·show σ.r.tail=_
   rw[h.rest,List.tail_drop]
  ·show _+σ.r.tail.length=_
   rw[List.length_tail]
   omega)
 have HZ:=Lib.hid (show (tcs C.N (Sx.hd σ)).size=4 from rfl)
 obtain⟨TK,hTK⟩:∃ TK,TK=tcs C.N (Sx.hd σ):=⟨_,rfl⟩
 have HO:=Lib.hid (show TK.all (·.oneCell')=true by rw[hTK];exact tcs_one _ _)
 rw[←hTK] at HP HZ⊢
 have hp2:(p:Int)≤5000:=by omega
 clear h hTK hlen hbig hp hne
 go_enter Tryz.func54,Tryz.ntmps54
 go_wp2_with (first
  |(refine wpList_allocO 2 rfl rfl 63 rfl _ _ info_tok2 ?_;intro w1 hb1 hl1 hz1;have HB1:=Lib.hid hb1;have HL1:=Lib.hid hl1;have HZ1:=Lib.hid hz1;clear hb1 hl1 hz1)
  |(go_at_call 29;(with_reducible refine(HP.out _ HL1.out).mono ?_);rintro e w2 ⟨rfl,hl2⟩;have HB2:=Lib.hid (later_cells hl2 HB1.out);have HL2:=Lib.hid (HL1.out.trans hl2);have HZ2:=Lib.hid (show W.heap.size<w2.heap.size by have:=hl2.size;have:=HZ1.out;omega);clear hl2)
  |(refine wpList_allocO 3 rfl rfl 63 rfl _ _ info_tok2 ?_;intro w3 hb3 hl3 hz3;have HB3:=Lib.hid hb3;have HC3:=Lib.hid (later_cells hl3 HB2.out);have HL3:=Lib.hid (HL2.out.trans hl3);have HZ3:=Lib.hid hz3;clear hb3 hl3 hz3)
  |(refine wpList_storeO rfl 63 (.tmp 3) (.tmp 5) rfl w2.heap.size _ TK rfl rfl HB3.out (by rw[HZ.out];exact size_tok) HZ.out.symm HO.out ?_;intro w4 hb4 hg4 hz4;have HB4:=Lib.hid hb4;have HC4:=Lib.hid (grown_cells hg4 HC3.out (by have:=HZ2.out;omega));have HL4:=Lib.hid (later_of_new HL3.out hg4 (by have:=HZ2.out;omega));obtain⟨c1,z1⟩:=HF.out w4 HL4.out;have HM4:=Lib.hid (HS.out w4 HL4.out);have HX4:=Lib.hid (show Fr X W (w4.setCell ⟨g,1,none⟩ (.int .i64 ((p:Int)+1))) from(Fr.later HL4.out).trans (Fr.grown (set_only w4 g 1 _) (by rintro x ⟨⟩;exact HGX.out)));have HB5:=Lib.hid (show (w4.setCell ⟨g,1,none⟩ (.int .i64 ((p:Int)+1))).heap[w2.heap.size]?=some (.cells TK 63 (0,0)) from grown_cells (set_only w4 g 1 _) hb4 (by have:=HGL.out;have:=HZ2.out;omega));have HC5:=Lib.hid (show (w4.setCell ⟨g,1,none⟩ (.int .i64 ((p:Int)+1))).heap[W.heap.size]?=_ from grown_cells (set_only w4 g 1 _) HC4.out (by have:=HGL.out;omega));clear hb4 hg4 hz4)
  |(refine wpList_loadO rfl 63 (.tmp 3) rfl w2.heap.size TK _ rfl HB5.out Tryz.underlying63 rfl (by rw[HZ.out];exact size_tok) ?_)
  |(refine wpList_storeO rfl 63 (.tmp 2) (.tmp 13) rfl W.heap.size _ TK rfl rfl HC5.out (by rw[HZ.out];exact size_tok) HZ.out.symm HO.out ?_;intro w6 hb6 hg6 hz6;clear HB4 HC4 HB5 HC5))
 refine bodyPost_ret (results_tok rfl _ _ W.heap.size TK (0,0) rfl hb6 HZ.out) rfl ?_
 refine⟨rfl,?_,?_⟩
 ·exact(HM4.out.other hg6 (.inr (by simp)) (fun e=>by have:=HLO.out.1 _ e;omega) (fun e=>by have:=HLO.out.2;omega)).less HCX.out
 ·exact⟨hg6.os.trans HX4.out.os,hg6.tape.trans HX4.out.tape,hg6.output.trans HX4.out.output,Nat.le_trans HX4.out.size hg6.size,fun b hb hx=>(hg6.block b (Nat.lt_of_lt_of_le hb HX4.out.size) (fun e=>by injection e with e;omega)).trans (HX4.out.block b hb hx)⟩
end
end Pz
end Go.Proofs.YtkkchkkpnlnbgaaGreatDoor
namespace Go.Proofs.YtkkchkkpnlnbgaaGreatDoor
open Go.RowKit Go.Maps
open Lx (Tok nl)
theorem Fr.new {X:Nat→Prop} {a b c:World} {x:Nat} (h:Fr X a b) (hg:b.grownBy c (some x)) (hx:a.heap.size≤x):Fr X a c:=
 ⟨hg.os.trans h.os,hg.tape.trans h.tape,hg.output.trans h.output,Nat.le_trans h.size hg.size,fun i hi hxi=>(hg.block i (Nat.lt_of_lt_of_le hi h.size) (fun e=>by injection e with e;omega)).trans (h.block i hi hxi)⟩
theorem Fr.thenLater {X:Nat→Prop} {a b c:World} (h:Fr X a b) (hl:Later b c):Fr X a c:=h.trans (Fr.later hl)
def StR {α:Type} (X:Nat→Prop) (W:World) (g:Nat) (C:Ctx) (x:Except Sx.Er (α×Sx.St)) (val:α→Value) (e:Ending) (W':World):Prop:=
 match x with
 | .ok (a,σ')=>e=.returned (val a)∧PMem W' X g C σ'∧Fr X W W'
 | .error (n,k)=>e=.panicked (Pz.pflt n (lnv C.N k))∧Fr X W W'
def atP (g:Nat) (w:World):Nat:=match w.cell? ⟨g,1,none⟩ with | some (.int _ p)=>p.toNat | _=>0
theorem PMem.left {W:World} {X:Nat→Prop} {g:Nat} {C:Ctx} {σ:Sx.St} (h:PMem W X g C σ):C.TS.length-atP g W=σ.r.length:=by
 obtain⟨p,vn,nd,h⟩:=h
 have h1:=h.facts.1.2.1
 have h2:=h.len
 unfold atP
 rw[h1]
 simp only[Int.toNat_natCast]
 omega
namespace Pz
section
variable {W:World} {X:Nat→Prop} {g:Nat} {C:Ctx} {σ:Sx.St}
theorem passed_v (t:ByteArray) (T:Lx.L) (hT:t=mkS T) (h:PMem W X g C σ) (hne:σ.r≠[]):Calls Tryz.prog 57 #[.pointer (some ⟨g,0,none⟩),.string t] W (StR X W g C (Sx.passed T σ) .bool):=by
 have HI:=Lib.hid (is_v t T hT h hne)
 have HM:=Lib.hid h
 have HNE:=Lib.hid hne
 clear h hne hT
 unfold Sx.passed
 by_cases ht:Sx.isT T σ=true
 ·rw[if_pos ht]
  rw[ht] at HI
  clear ht
  go_enter Tryz.func57,Tryz.ntmps57
  go_wp2_with (first
   |(go_at_call 62;(with_reducible refine HI.out.mono ?_);rintro e w1 ⟨rfl,hl1⟩;have HL1:=Lib.hid hl1;clear hl1)
   |(go_at_call 54;(with_reducible refine(next_v (HM.out.later HL1.out) HNE.out).mono ?_);rintro e w2 ⟨rfl,hm2,hf2⟩;have HM2:=Lib.hid hm2;have HF2:=Lib.hid ((Fr.later HL1.out).trans hf2);clear hm2 hf2))
  go_ret
  exact⟨rfl,HM2.out,HF2.out⟩
 ·have ht0:Sx.isT T σ=false:=by simpa using ht
  rw[if_neg ht]
  rw[ht0] at HI
  clear ht ht0
  go_enter Tryz.func57,Tryz.ntmps57
  go_wp2_with (first
   |(go_at_call 62;(with_reducible refine HI.out.mono ?_);rintro e w1 ⟨rfl,hl1⟩;have HL1:=Lib.hid hl1;clear hl1))
  go_ret
  exact⟨rfl,HM.out.later HL1.out,Fr.later HL1.out⟩
theorem need_v (t:ByteArray) (T:Lx.L) (hT:t=mkS T) (h:PMem W X g C σ) (hne:σ.r≠[]):Calls Tryz.prog 51 #[.pointer (some ⟨g,0,none⟩),.string t] W (StR X W g C (Sx.need T σ) fun _=>.tuple #[]):=by
 have HP:=Lib.hid (passed_v t T hT h hne)
 have HNE:=Lib.hid hne
 clear h hne hT
 unfold Sx.need
 unfold Sx.passed at HP
 by_cases ht:Sx.isT T σ=true
 ·rw[if_pos ht] at HP⊢
  clear ht
  go_enter Tryz.func51,Tryz.ntmps51
  go_wp2_with (first
   |(go_at_call 57;(with_reducible refine HP.out.mono ?_);rintro e w1 ⟨rfl,hm1,hf1⟩;have HM1:=Lib.hid hm1;have HF1:=Lib.hid hf1;clear hm1 hf1))
  go_end0
  exact⟨rfl,HM1.out,HF1.out⟩
 ·rw[if_neg ht] at HP⊢
  clear ht
  go_enter Tryz.func51,Tryz.ntmps51
  go_wp2_with (first
   |(go_at_call 57;(with_reducible refine HP.out.mono ?_);rintro e w1 ⟨rfl,hm1,hf1⟩;have HM1:=Lib.hid hm1;have HF1:=Lib.hid hf1;clear hm1 hf1)
   |(go_at_call 30;(with_reducible refine(refuse_v HM1.out HNE.out).mono ?_);rintro e w2 ⟨rfl,hl2⟩))
  exact bodyPost_panic rfl ⟨rfl,HF1.out.thenLater hl2⟩
theorem lines_v (h:PMem W X g C σ) (hg:Sx.good σ.r=true):Calls Tryz.prog 58 #[.pointer (some ⟨g,0,none⟩)] W (StR X W g C (Sx.lines σ) fun _=>.tuple #[]):=by
 have HM:=Lib.hid h
 have HG:=Lib.hid hg
 have hf0:=fld0
 clear h hg
 go_enter Tryz.func58,Tryz.ntmps58
 go_wp2
 go_loopw [] (fun wr=>∃ σ':Sx.St,Sx.dl σ=Sx.dl σ'∧Sx.good σ'.r=true∧PMem wr X g C σ'∧Fr X W wr) (fun wr=>C.TS.length-atP g wr)
 case atStart=>exact⟨σ,rfl,HG.out,HM.out,Fr.refl _ _⟩
 case round=>
  obtain⟨σ',he,hg',hm',hf'⟩:=hrel
  have HE:=Lib.hid he
  have HG':=Lib.hid hg'
  have HM':=Lib.hid hm'
  have HF':=Lib.hid hf'
  clear he hg' hm' hf'
  obtain⟨t,r,hr⟩:∃ t r,σ'.r=t::r:=by cases e:σ'.r with
   | nil=>exact absurd e (Sx.good_ne HG'.out)
   | cons t r=>exact⟨t,r,rfl⟩
  have hhd:=Sx.hd_cons hr
  have HP:=Lib.hid (peek_v HM'.out (Sx.good_ne HG'.out))
  rw[hhd] at HP
  by_cases hk:t.kind=3
  ·have HD:=Lib.hid (show Sx.dl σ'=Sx.dl (Sx.go σ') by simp only[Sx.dl,Sx.go,hr,Sx.dropL,if_pos hk,List.tail_cons])
   have HGO:=Lib.hid (Sx.Wk.go HG'.out (.inr (by rw[hhd,hk];decide)))
   have hk3:(t.kind:Int)=3:=by omega
   have HK:=Lib.hid hk3
   clear hk hk3 hhd hr
   go_wp2_with (first
    |(go_at_call 29;(with_reducible refine HP.out.mono ?_);rintro e w1 ⟨rfl,hl1⟩;have HL1:=Lib.hid hl1;clear hl1;unfold tcs;rw[HK.out])
    |(go_at_call 54;(with_reducible refine(next_v (HM'.out.later HL1.out) (Sx.good_ne HG'.out)).mono ?_);rintro e w2 ⟨rfl,hm2,hf2⟩;have HM2:=Lib.hid hm2;have HF2:=Lib.hid ((HF'.out.thenLater HL1.out).trans hf2);clear hm2 hf2))
   go_roundw
   case rel=>exact⟨_,by rw[HE.out,HD.out],HGO.out.gd,HM2.out,HF2.out⟩
   case measure=>
    rw[HM2.out.left,HM'.out.left]
    exact HGO.out.len (by omega)
  ·have HD:=Lib.hid (show Sx.dl σ'=σ' by simp only[Sx.dl,hr,Sx.dropL,if_neg hk];cases σ';simp only at hr;rw[hr])
   have HK:=Lib.hid (show ((t.kind:Int)==3)=false by simp;omega)
   have hk9:=HK.out
   clear hk hhd hr
   go_wp2_with (first
    |(go_at_call 29;(with_reducible refine HP.out.mono ?_);rintro e w1 ⟨rfl,hl1⟩;have HL1:=Lib.hid hl1;clear hl1;unfold tcs))
   go_end0
   refine⟨rfl,?_,HF'.out.thenLater HL1.out⟩
   rw[HE.out,HD.out]
   exact HM'.out.later HL1.out
end
end Pz
end Go.Proofs.YtkkchkkpnlnbgaaGreatDoor
namespace Go.Proofs.YtkkchkkpnlnbgaaGreatDoor
open Go.RowKit Go.Maps
open Lx (Tok nl)
namespace Pz
theorem txt_eq (t:Lx.L) (b:List UInt8):((mkS t).toList==b)=(t==b):=by rw[toList_mkS]
theorem isReserved_v (t:Lx.L) (W:World):Calls Tryz.prog 119 #[.string (mkS t)] W fun e W'=>e=.returned (.bool (Sx.isRes t))∧W'=W:=by
 obtain⟨v,hv⟩:∃ v,v=Sx.isRes t:=⟨_,rfl⟩
 rw[←hv]
 unfold Sx.isRes at hv
 have e1:=txt_eq t [33]
 have e2:=txt_eq t [123]
 have e3:=txt_eq t [125]
 have e4:((mkS t).toList==[99,97,115,101])=(t==Sx.kCASE):=txt_eq t _
 have e5:((mkS t).toList==[100,111])=(t==Sx.kDO):=txt_eq t _
 have e6:((mkS t).toList==[100,111,110,101])=(t==Sx.kDONE):=txt_eq t _
 have e7:((mkS t).toList==[101,108,105,102])=(t==Sx.kELIF):=txt_eq t _
 have e8:((mkS t).toList==[101,108,115,101])=(t==Sx.kELSE):=txt_eq t _
 have e9:((mkS t).toList==[101,115,97,99])=(t==Sx.kESAC):=txt_eq t _
 have e10:((mkS t).toList==[102,105])=(t==Sx.kFI):=txt_eq t _
 have e11:((mkS t).toList==[102,111,114])=(t==Sx.kFOR):=txt_eq t _
 have e12:((mkS t).toList==[105,102])=(t==Sx.kIF):=txt_eq t _
 have e13:((mkS t).toList==[116,104,101,110])=(t==Sx.kTHEN):=txt_eq t _
 have e14:((mkS t).toList==[117,110,116,105,108])=(t==Sx.kUNTIL):=txt_eq t _
 have e15:((mkS t).toList==[119,104,105,108,101])=(t==Sx.kWHILE):=txt_eq t _
 generalize (t==[33])=b1 at *
 generalize (t==[123])=b2 at *
 generalize (t==[125])=b3 at *
 generalize (t==Sx.kCASE)=b4 at *
 generalize (t==Sx.kDO)=b5 at *
 generalize (t==Sx.kDONE)=b6 at *
 generalize (t==Sx.kELIF)=b7 at *
 generalize (t==Sx.kELSE)=b8 at *
 generalize (t==Sx.kESAC)=b9 at *
 generalize (t==Sx.kFI)=b10 at *
 generalize (t==Sx.kFOR)=b11 at *
 generalize (t==Sx.kIF)=b12 at *
 generalize (t==Sx.kTHEN)=b13 at *
 generalize (t==Sx.kUNTIL)=b14 at *
 generalize (t==Sx.kWHILE)=b15 at *
 have HV:=Lib.hid hv
 clear hv
 go_enter Tryz.func119,Tryz.ntmps119
 go_wp2
 all_goals (go_ret;refine⟨?_,rfl⟩)
 all_goals (have hv:=HV.out;clear HV e1 e2 e3 e4 e5 e6 e7 e8 e9 e10 e11 e12 e13 e14 e15)
 all_goals (first | (subst_vars;rfl) | simp_all)
section
variable {W:World} {X:Nat→Prop} {g:Nat} {C:Ctx} {σ:Sx.St}
theorem parted_v (h:PMem W X g C σ) (hg:Sx.good σ.r=true):Calls Tryz.prog 60 #[.pointer (some ⟨g,0,none⟩)] W (StR X W g C (Sx.parted σ) .bool):=by
 have hne:=Sx.good_ne hg
 have HI:=Lib.hid (is_v ⟨#[59]⟩ [59] rfl h hne)
 have HM:=Lib.hid h
 have HG:=Lib.hid hg
 have HNE:=Lib.hid hne
 have HP:=Lib.hid (fun w (hl:Later W w)=>peek_v (h.later hl) hne)
 have hf0:=fld0
 clear h hg hne
 have key:(Sx.isT [59] σ=true∨(Sx.hd σ).kind=3)→Sx.Wk 9 σ (Sx.go σ) []:=fun e=>Sx.Wk.go HG.out (by
  rcases e with e | e
  ·exact .inl (Sx.isT_text e (by decide))
  ·exact .inr (by rw[e];decide))
 have HKEY:=Lib.hid key
 clear key
 unfold Sx.parted
 by_cases h1:Sx.isT [59] σ=true
 ·rw[if_pos (.inl h1)]
  have HW:=Lib.hid (HKEY.out (.inl h1))
  rw[h1] at HI
  clear h1
  go_enter Tryz.func60,Tryz.ntmps60
  go_wp2_with (first
   |(go_at_call 62;(with_reducible refine HI.out.mono ?_);rintro e w1 ⟨rfl,hl1⟩;have HL1:=Lib.hid hl1;clear hl1)
   |(go_at_call 54;(with_reducible refine(next_v (HM.out.later HL1.out) HNE.out).mono ?_);rintro e w2 ⟨rfl,hm2,hf2⟩;have HM2:=Lib.hid hm2;have HF2:=Lib.hid ((Fr.later HL1.out).trans hf2);clear hm2 hf2)
   |(go_at_call 58;(with_reducible refine(lines_v HM2.out HW.out.gd).mono ?_);rintro e w3 ⟨rfl,hm3,hf3⟩;have HM3:=Lib.hid hm3;have HF3:=Lib.hid (HF2.out.trans hf3);clear hm3 hf3))
  go_ret
  exact⟨rfl,HM3.out,HF3.out⟩
 ·have h2:Sx.isT [59] σ=false:=by simpa using h1
  rw[h2] at HI
  by_cases h3:(Sx.hd σ).kind=3
  ·rw[if_pos (.inr h3)]
   have HW:=Lib.hid (HKEY.out (.inr h3))
   have HK:=Lib.hid (show ((Sx.hd σ).kind:Int)=3 by omega)
   clear h1 h2 h3
   go_enter Tryz.func60,Tryz.ntmps60
   go_wp2_with (first
    |(go_at_call 62;(with_reducible refine HI.out.mono ?_);rintro e w1 ⟨rfl,hl1⟩;have HL1:=Lib.hid hl1;clear hl1)
    |(go_at_call 29;(with_reducible refine(HP.out _ HL1.out).mono ?_);rintro e w9 ⟨rfl,hl9⟩;have HL9:=Lib.hid (HL1.out.trans hl9);clear hl9;unfold tcs;rw[HK.out])
    |(go_at_call 54;(with_reducible refine(next_v (HM.out.later HL9.out) HNE.out).mono ?_);rintro e w2 ⟨rfl,hm2,hf2⟩;have HM2:=Lib.hid hm2;have HF2:=Lib.hid ((Fr.later HL9.out).trans hf2);clear hm2 hf2)
    |(go_at_call 58;(with_reducible refine(lines_v HM2.out HW.out.gd).mono ?_);rintro e w3 ⟨rfl,hm3,hf3⟩;have HM3:=Lib.hid hm3;have HF3:=Lib.hid (HF2.out.trans hf3);clear hm3 hf3))
   go_ret
   exact⟨rfl,HM3.out,HF3.out⟩
  ·rw[if_neg (by rintro(e | e);exact h1 e;exact h3 e)]
   have hk9:(((Sx.hd σ).kind:Int) != 3)=true:=by simp;omega
   clear h1 h2 h3
   go_enter Tryz.func60,Tryz.ntmps60
   go_wp2_with (first
    |(go_at_call 62;(with_reducible refine HI.out.mono ?_);rintro e w1 ⟨rfl,hl1⟩;have HL1:=Lib.hid hl1;clear hl1)
    |(go_at_call 29;(with_reducible refine(HP.out _ HL1.out).mono ?_);rintro e w9 ⟨rfl,hl9⟩;have HL9:=Lib.hid (HL1.out.trans hl9);clear hl9;unfold tcs))
   go_ret
   exact⟨rfl,HM.out.later HL9.out,Fr.later HL9.out⟩
theorem name_v' (h:PMem W X g C σ) (hne:σ.r≠[]):Calls Tryz.prog 56 #[.pointer (some ⟨g,0,none⟩)] W (StR X W g C (Sx.name σ) sv):=by
 have hsm:(Sx.hd σ).text.length≤5000:=by
  obtain⟨p,vn,nd,h⟩:=h
  cases hr:σ.r with
  | nil=>exact absurd hr hne
  | cons t r=>
   rw[Sx.hd_cons hr]
   have h1:=h.sml t (by
    have h2:t∈σ.r:=by rw[hr];simp
    rw[h.rest] at h2
    exact List.mem_of_mem_drop h2)
   omega
 have HP:=Lib.hid (peek_v h hne)
 have HN:=Lib.hid (name_v (Sx.hd σ).text hsm)
 have HM:=Lib.hid h
 have HNE:=Lib.hid hne
 have hf1:=fld1
 clear h hne hsm
 unfold Sx.name
 by_cases hb:nameB (Sx.hd σ).text=true
 ·rw[if_pos hb]
  rw[hb] at HN
  clear hb
  go_enter Tryz.func56,Tryz.ntmps56
  go_wp2_with (first
   |(go_at_call 29;(with_reducible refine HP.out.mono ?_);rintro e w1 ⟨rfl,hl1⟩;have HL1:=Lib.hid hl1;clear hl1;unfold tcs)
   |(go_at_call 97;(with_reducible refine(HN.out _).mono ?_);rintro e w2 ⟨rfl,hl2⟩;have HL2:=Lib.hid (HL1.out.trans hl2);clear hl2)
   |(go_at_call 54;(with_reducible refine(next_v (HM.out.later HL2.out) HNE.out).mono ?_);rintro e w3 ⟨rfl,hm3,hf3⟩;have HM3:=Lib.hid hm3;have HF3:=Lib.hid ((Fr.later HL2.out).trans hf3);clear hm3 hf3;unfold tcs))
  go_ret
  exact⟨rfl,HM3.out,HF3.out⟩
 ·rw[if_neg hb]
  have hb2:nameB (Sx.hd σ).text=false:=by simpa using hb
  rw[hb2] at HN
  clear hb hb2
  go_enter Tryz.func56,Tryz.ntmps56
  go_wp2_with (first
   |(go_at_call 29;(with_reducible refine HP.out.mono ?_);rintro e w1 ⟨rfl,hl1⟩;have HL1:=Lib.hid hl1;clear hl1;unfold tcs)
   |(go_at_call 97;(with_reducible refine(HN.out _).mono ?_);rintro e w2 ⟨rfl,hl2⟩;have HL2:=Lib.hid (HL1.out.trans hl2);clear hl2)
   |(go_at_call 30;(with_reducible refine(refuse_v (HM.out.later HL2.out) HNE.out).mono ?_);rintro e w3 ⟨rfl,hl3⟩;have HL3:=Lib.hid (HL2.out.trans hl3);clear hl3))
  exact bodyPost_panic rfl ⟨rfl,Fr.later HL3.out⟩
theorem word_v (h:PMem W X g C σ) (hne:σ.r≠[]):Calls Tryz.prog 61 #[.pointer (some ⟨g,0,none⟩)] W (StR X W g C (Sx.word σ) fun t=>.agg (tcs C.N t)):=by
 have HLO:=Lib.hid h.low
 have HCX:=Lib.hid h.ctx
 have HM:=Lib.hid (h.more [W.heap.size] (by simp))
 have HNE:=Lib.hid hne
 have HP:=Lib.hid (fun w (hl:Later W w)=>peek_v (h.later hl) hne)
 have HZ:=Lib.hid (show (tcs C.N (Sx.hd σ)).size=4 from rfl)
 have HO:=Lib.hid (tcs_one C.N (Sx.hd σ))
 have hf0:=fld0
 clear h hne
 unfold Sx.word
 by_cases hk:(Sx.hd σ).kind=1
 ·rw[if_pos hk]
  have HK:=Lib.hid (show ((Sx.hd σ).kind:Int)=1 by omega)
  clear hk
  go_enter Tryz.func61,Tryz.ntmps61
  go_wp2_with (first
   |(refine wpList_allocO 2 rfl rfl 63 rfl _ _ info_tok2 ?_;intro w1 hb1 hl1 hz1;have HB1:=Lib.hid hb1;have HL1:=Lib.hid hl1;have HZ1:=Lib.hid hz1;clear hb1 hl1 hz1)
   |(go_at_call 29;(with_reducible refine(HP.out _ HL1.out).mono ?_);rintro e w2 ⟨rfl,hl2⟩;have HB2:=Lib.hid (later_cells hl2 HB1.out);have HL2:=Lib.hid (HL1.out.trans hl2);clear hl2;unfold tcs;rw[HK.out])
   |(go_at_call 54;(with_reducible refine(next_v (HM.out.later HL2.out) HNE.out).mono ?_);rintro e w3 ⟨rfl,hm3,hf3⟩;have HM3:=Lib.hid hm3;have HB3:=Lib.hid (hf3.cells HB2.out (.inr (by simp)));have HF3:=Lib.hid ((Fr.later HL2.out).trans hf3.less);clear hm3 hf3)
   |(refine wpList_storeO rfl 63 (.tmp 2) (.tmp 10) rfl W.heap.size _ (tcs C.N (Sx.hd σ)) rfl rfl HB3.out (by rw[HZ.out];exact size_tok) HZ.out.symm HO.out ?_;intro w6 hb6 hg6 hz6;clear HB1 HB2 HB3))
  refine bodyPost_ret (results_tok rfl _ _ W.heap.size (tcs C.N (Sx.hd σ)) (0,0) rfl hb6 HZ.out) rfl ?_
  refine⟨rfl,?_,HF3.out.new hg6 (Nat.le_refl _)⟩
  exact(HM3.out.other hg6 (.inr (by simp)) (fun e=>by have:=HLO.out.1 _ e;omega) (fun e=>by have:=HLO.out.2;omega)).less HCX.out
 ·rw[if_neg hk]
  have hk9:(((Sx.hd σ).kind:Int) != 1)=true:=by simp;omega
  clear hk
  go_enter Tryz.func61,Tryz.ntmps61
  go_wp2_with (first
   |(refine wpList_allocO 2 rfl rfl 63 rfl _ _ info_tok2 ?_;intro w1 hb1 hl1 hz1;have HB1:=Lib.hid hb1;have HL1:=Lib.hid hl1;have HZ1:=Lib.hid hz1;clear hb1 hl1 hz1)
   |(go_at_call 29;(with_reducible refine(HP.out _ HL1.out).mono ?_);rintro e w2 ⟨rfl,hl2⟩;have HL2:=Lib.hid (HL1.out.trans hl2);clear hl2;unfold tcs)
   |(go_at_call 30;(with_reducible refine(refuse_v (HM.out.later HL2.out) HNE.out).mono ?_);rintro e w3 ⟨rfl,hl3⟩;have HL3:=Lib.hid (HL2.out.trans hl3);clear hl3))
  exact bodyPost_panic rfl ⟨rfl,Fr.later HL3.out⟩
theorem enter_bad (h:PMem W X g C σ) (hne:σ.r≠[]) (hd:σ.d=40):Calls Tryz.prog 135 #[.pointer (some ⟨g,0,none⟩)] W fun e W'=>e=.panicked (pflt 21 (lnv C.N (Sx.hd σ).left))∧Later W W':=by
 have HF:=Lib.hid (fail_v 21 h hne)
 obtain⟨p,vn,nd,h⟩:=h
 have c2:=h.facts.1.2.2.1
 rw[hd] at c2
 clear h hne
 go_enter Tryz.func135,Tryz.ntmps135
 go_wp2_with (first
  |(go_at_call 68;(with_reducible refine HF.out.mono ?_);rintro e w3 ⟨rfl,hl3⟩;have HL3:=Lib.hid hl3;clear hl3))
 exact bodyPost_panic rfl ⟨rfl,HL3.out⟩
theorem enter_v (h:PMem W X g C σ) (hd:σ.d<40):Calls Tryz.prog 135 #[.pointer (some ⟨g,0,none⟩)] W fun e W'=>e=.returned (.tuple #[])∧PMem W' X g C { σ with d:=σ.d+1 }∧Fr X W W':=by
 obtain⟨p,vn,nd,h⟩:=h
 obtain⟨⟨_,_,c2,_⟩,hz⟩:=h.facts
 have z2:=hz 2
 have HS:=Lib.hid (show PMem (W.setCell ⟨g,2,none⟩ (.int .i64 ((σ.d:Int)+1))) X g C { σ with d:=σ.d+1 } from(h.set 2 _ (σ':={ σ with d:=σ.d+1 }) (p':=p) (by show (PC C p σ.d vn).setIfInBounds 2 _=PC C p (σ.d+1) vn;rw[show ((σ.d:Int)+1)=((σ.d+1:Nat):Int) from by omega];rfl) h.rest h.len rfl).mem)
 have HX:=Lib.hid (show Fr X W (W.setCell ⟨g,2,none⟩ (.int .i64 ((σ.d:Int)+1))) from Fr.grown (set_only W g 2 _) (by rintro x ⟨⟩;exact h.gX))
 obtain⟨d,hdd⟩:∃ d,d=σ.d:=⟨_,rfl⟩
 rw[←hdd] at c2 hd HS HX⊢
 have hd1:((d:Int)==40)=false:=by simp;omega
 have hd2:(d:Int)≤100:=by omega
 clear h hz hdd hd
 go_enter Tryz.func135,Tryz.ntmps135
 go_wp2
 go_end0
 exact⟨rfl,HS.out,HX.out⟩
theorem leave_v (h:PMem W X g C σ) (hd:0<σ.d) (hd4:σ.d≤41):Calls Tryz.prog 136 #[.pointer (some ⟨g,0,none⟩)] W fun e W'=>e=.returned (.tuple #[])∧PMem W' X g C { σ with d:=σ.d-1 }∧Fr X W W':=by
 obtain⟨p,vn,nd,h⟩:=h
 obtain⟨⟨_,_,c2,_⟩,hz⟩:=h.facts
 have z2:=hz 2
 have HS:=Lib.hid (show PMem (W.setCell ⟨g,2,none⟩ (.int .i64 ((σ.d:Int)-1))) X g C { σ with d:=σ.d-1 } from(h.set 2 _ (σ':={ σ with d:=σ.d-1 }) (p':=p) (by show (PC C p σ.d vn).setIfInBounds 2 _=PC C p (σ.d-1) vn;rw[show ((σ.d:Int)-1)=((σ.d-1:Nat):Int) from by omega];rfl) h.rest h.len rfl).mem)
 have HX:=Lib.hid (show Fr X W (W.setCell ⟨g,2,none⟩ (.int .i64 ((σ.d:Int)-1))) from Fr.grown (set_only W g 2 _) (by rintro x ⟨⟩;exact h.gX))
 obtain⟨d,hdd⟩:∃ d,d=σ.d:=⟨_,rfl⟩
 rw[←hdd] at c2 hd hd4 HS HX⊢
 have hd2:(d:Int)≤100:=by omega
 have hd3:(0:Int)<(d:Int):=by omega
 clear h hz hdd hd hd4
 go_enter Tryz.func136,Tryz.ntmps136
 go_wp2
 go_end0
 exact⟨rfl,HS.out,HX.out⟩
end
end Pz
end Go.Proofs.YtkkchkkpnlnbgaaGreatDoor
