/- The parser: list, body, group, sub. No premises. -/
import Derived.Test.YtkkchkkpnlnbgaaGreatDoorNt
set_option maxRecDepth 100000
set_option maxHeartbeats 1600000
namespace Go.Proofs.YtkkchkkpnlnbgaaGreatDoor
open Go.RowKit Go.Maps
open Lx (Tok nl)
theorem node_lit {W w5 w7:World} {X:Nat→Prop} {g:Nat} {C:Ctx} {σ':Sx.St} (nd:Sx.Node) (l:List Nat) (hk:nd.kids=l) (hw:nd.words=[]) (hr:nd.redirs=[]) (hl:l.length≤5000) (hm:PMem w5 (plus X [W.heap.size]) g C σ') (hc:CtxX X C) (hf:Fr X W w5) (hlo:(∀ b,C.vt.ownBlock=some b→b<W.heap.size)∧C.ms<W.heap.size) (hlt:W.heap.size<w5.heap.size)
  (hg:(w5.alloc (.cells (l.map iv).toArray 3)).grownBy w7 (some W.heap.size)) :
  Nest w7 nd ⟨nilV,nilV,.slice (some ⟨w5.heap.size,0,none⟩) l.length l.length⟩∧(∀ b∈blks ⟨nilV,nilV,.slice (some ⟨w5.heap.size,0,none⟩) l.length l.length⟩,W.heap.size≤b)∧PMem w7 (plus X (blks ⟨nilV,nilV,.slice (some ⟨w5.heap.size,0,none⟩) l.length l.length⟩)) g C σ'∧Fr X W w7:=by
 have hla:Later w5 (w5.alloc (.cells (l.map iv).toArray 3)):=Later.alloc _ _
 have hbl:blks ⟨nilV,nilV,.slice (some ⟨w5.heap.size,0,none⟩) l.length l.length⟩=[w5.heap.size]:=rfl
 rw[hbl]
 refine⟨⟨by rw[hw];exact World.ownsRow_nil _ _ _ _,by rw[hr];exact World.ownsRow_nil _ _ _ _,?_⟩,by simp;omega,?_,?_⟩
 ·have h1:=own_lit w5 3 (l.map iv) (by simpa using hl)
  rw[List.length_map] at h1
  rw[hk]
  refine h1.kept hg (.inr ?_)
  intro e
  injection e with e
  simp only at e
  omega
 ·refine(((hm.more [w5.heap.size] (by simp)).later hla).other hg (.inl (.inr (by simp))) (fun e=>by have:=hlo.1 _ e;omega) (fun e=>by have:=hlo.2;omega)).sub (fun b hb=>?_) (hc.more _)
  rcases hb with hb | hb
  ·exact .inl (.inl hb)
  ·exact .inr hb
 ·exact(hf.thenLater hla).new hg (Nat.le_refl _)
namespace Pz
section
variable {W:World} {X:Nat→Prop} {g:Nat} {C:Ctx} {σ:Sx.St} {n:Nat} {a:Sx.M Nat}
theorem list_v (hL:Lev g C n a) (h:PMem W X g C σ) (hX:XL X W) (hF:Fit σ) (hn:σ.r.length+1<n):Calls Tryz.prog 52 #[.pointer (some ⟨g,0,none⟩)] W (StR X W g C (Sx.lst a σ) natV):=by
 have HW1:=Lib.hid (Sx.Wk.dl hF.good)
 have HF1:=Lib.hid (hF.wk HW1.out (by omega))
 have HLN:=Lib.hid (lines_v h hF.good)
 have HL:=Lib.hid hL
 have HX:=Lib.hid hX
 have HN:=Lib.hid (show (Sx.dl σ).r.length+1<n by have:=HW1.out.le;omega)
 clear h hX hF hn hL
 cases hat:Sx.atAndOr (Sx.dl σ)
 ·have HE:=Lib.hid (show Sx.lst a σ=.error (20,(Sx.hd (Sx.dl σ)).left) by simp only[Sx.lst,Sx.bnd,Sx.lines,hat,Bool.false_eq_true,if_false])
  have HAT:=Lib.hid hat
  clear hat
  rw[HE.out]
  go_enter Tryz.func52,Tryz.ntmps52
  go_wp2_with (first
   |(go_at_call 58;(with_reducible refine HLN.out.mono ?_);rintro e w1 ⟨rfl,hm1,hf1⟩;have HM1:=Lib.hid hm1;have HFR1:=Lib.hid hf1;clear hm1 hf1)
   |(go_at_call 65;(with_reducible refine(atAndOr_v HM1.out HF1.out.ne).mono ?_);rintro e w2 ⟨rfl,hl2⟩;rw[HAT.out];have HM2:=Lib.hid (HM1.out.later hl2);have HFR2:=Lib.hid (HFR1.out.thenLater hl2);clear hl2)
   |(go_at_call 30;(with_reducible refine(refuse_v HM2.out HF1.out.ne).mono ?_);rintro e w3 ⟨rfl,hl3⟩))
  exact bodyPost_panic rfl ⟨rfl,HFR2.out.thenLater hl3⟩
 ·have HE:=Lib.hid (show Sx.lst a σ=a (Sx.dl σ) by simp only[Sx.lst,Sx.bnd,Sx.lines,hat,if_true])
  have HAT:=Lib.hid hat
  clear hat
  rw[HE.out]
  go_enter Tryz.func52,Tryz.ntmps52
  go_wp2_with (first
   |(go_at_call 58;(with_reducible refine HLN.out.mono ?_);rintro e w1 ⟨rfl,hm1,hf1⟩;have HM1:=Lib.hid hm1;have HFR1:=Lib.hid hf1;clear hm1 hf1)
   |(go_at_call 65;(with_reducible refine(atAndOr_v HM1.out HF1.out.ne).mono ?_);rintro e w2 ⟨rfl,hl2⟩;rw[HAT.out];have HM2:=Lib.hid (HM1.out.later hl2);have HFR2:=Lib.hid (HFR1.out.thenLater hl2);clear hl2)
   |(go_at_call 28;(with_reducible refine(HL.out.calls _ X (Sx.dl σ) HM2.out (HX.out.mono HFR2.out.size) HF1.out HN.out).mono ?_);intro e w3 hh;refine StR.cases hh (fun nn kk hx he hf=>by subst he;refine bodyPost_panic (P:=Tryz.prog) (fn:=Tryz.f52) rfl ?_;rw[hx];exact⟨rfl,HFR2.out.trans hf⟩) (fun i σ3 hx he hm hf=>?_);subst he;clear hh;have HM3:=Lib.hid (hm);have HF3:=Lib.hid (HFR2.out.trans hf);have HX3:=Lib.hid (hx);clear hm hf hx))
  go_ret
  rw[HX3.out]
  exact⟨rfl,HM3.out,HF3.out⟩
theorem body_v (hL:Lev g C n a) (h:PMem W X g C σ) (hX:XL X W) (hF:Fit σ) (hn:σ.r.length+1<n):Calls Tryz.prog 55 #[.pointer (some ⟨g,0,none⟩)] W (StR X W g C (Sx.body a σ) natV):=by
 have HL:=Lib.hid hL
 have HN:=Lib.hid hn
 have HFT0:=Lib.hid hF
 have HXL0:=Lib.hid hX
 have HM0:=Lib.hid h
 have HC:=Lib.hid h.ctx
 have HFR0:=Lib.hid (Fr.refl X W)
 have HW0:=Lib.hid (Sx.Wk.refl hF.good)
 have hf0:=fld0
 have hf1:=fld1
 have hf3:=fld3
 clear hL hn hF hX h
 go_enter Tryz.func55,Tryz.ntmps55
 go_wp2_with (first
   |(go_at_call 51;(with_reducible refine(need_v ⟨#[100,111]⟩ Sx.kDO rfl HM0.out HFT0.out.ne).mono ?_);intro e w1 hh;refine StR.cases hh (fun nn kk hx he hf=>by subst he;refine bodyPost_panic (P:=Tryz.prog) (fn:=Tryz.f55) rfl ?_;rw[show Sx.body a σ=.error (nn,kk) by simp only[Sx.body,Sx.bnd,hx]];exact⟨rfl,HFR0.out.trans hf⟩) (fun x0 σ1 hx he hm hf=>?_);subst he;clear hh;have HX1:=Lib.hid (hx);have HW1:=Lib.hid (HW0.out.trans ((Sx.need_un (by decide) HFT0.out.good hx).2.2) (k:=9) (by omega));have HM1:=Lib.hid (hm);have HFR1:=Lib.hid (HFR0.out.trans hf);have HXL1:=Lib.hid (HXL0.out.mono hf.size);have HFT1:=Lib.hid (HFT0.out.wk HW1.out (by omega));clear hx hm hf)
   |(go_at_call 52;(with_reducible refine(list_v HL.out HM1.out HXL1.out HFT1.out (by have h8:=HW1.out.le;have h9:=HN.out;omega)).mono ?_);intro e w2 hh;refine StR.cases hh (fun nn kk hx he hf=>by subst he;refine bodyPost_panic (P:=Tryz.prog) (fn:=Tryz.f55) rfl ?_;rw[show Sx.body a σ=.error (nn,kk) by simp only[Sx.body,Sx.bnd,HX1.out,hx]];exact⟨rfl,HFR1.out.trans hf⟩) (fun i σ2 hx he hm hf=>?_);subst he;clear hh;have HX2:=Lib.hid (hx);have HW2:=Lib.hid (HW1.out.trans (Sx.lst_un HL.out.un HFT1.out.good hx) (k:=8) (by omega));have HM2:=Lib.hid (hm);have HFR2:=Lib.hid (HFR1.out.trans hf);have HXL2:=Lib.hid (HXL1.out.mono hf.size);have HFT2:=Lib.hid (HFT0.out.wk HW2.out (by omega));clear hx hm hf;unfold natV)
   |(go_at_call 51;(with_reducible refine(need_v ⟨#[100,111,110,101]⟩ Sx.kDONE rfl HM2.out HFT2.out.ne).mono ?_);intro e w3 hh;refine StR.cases hh (fun nn kk hx he hf=>by subst he;refine bodyPost_panic (P:=Tryz.prog) (fn:=Tryz.f55) rfl ?_;rw[show Sx.body a σ=.error (nn,kk) by simp only[Sx.body,Sx.bnd,HX1.out,HX2.out,hx]];exact⟨rfl,HFR2.out.trans hf⟩) (fun x2 σ3 hx he hm hf=>?_);subst he;clear hh;have HX3:=Lib.hid (hx);have HW3:=Lib.hid (HW2.out.trans ((Sx.need_un (by decide) HFT2.out.good hx).2.2) (k:=16) (by omega));have HM3:=Lib.hid (hm);have HFR3:=Lib.hid (HFR2.out.trans hf);have HXL3:=Lib.hid (HXL2.out.mono hf.size);have HFT3:=Lib.hid (HFT0.out.wk HW3.out (by omega));clear hx hm hf))
 go_ret
 rw[show Sx.body a σ=.ok (i,σ3) by simp only[Sx.body,Sx.bnd,Sx.ret,HX1.out,HX2.out,HX3.out]]
 exact⟨rfl,HM3.out,HFR3.out⟩
theorem group_v (hL:Lev g C n a) (h:PMem W X g C σ) (hX:XL X W) (hF:Fit σ) (hn:σ.r.length<n):Calls Tryz.prog 22 #[.pointer (some ⟨g,0,none⟩)] W (NodeR X W g C (Sx.group a σ) anyLn):=by
 have HL:=Lib.hid hL
 have HN:=Lib.hid hn
 have HFT0:=Lib.hid hF
 have HXL0:=Lib.hid hX
 have HM0:=Lib.hid h
 have HC:=Lib.hid h.ctx
 have HFR0:=Lib.hid (Fr.refl X W)
 have HW0:=Lib.hid (Sx.Wk.refl hF.good)
 have hf0:=fld0
 have hf1:=fld1
 have hf3:=fld3
 have HLO:=Lib.hid h.low
 have HZ:=Lib.hid (h.more [W.heap.size] (by simp))
 clear hL hn hF hX h
 go_enter Tryz.func22,Tryz.ntmps22
 go_wp2_with (first
   |(refine wpList_allocO 2 rfl rfl 37 rfl _ _ info_node ?_;intro w0 hb hl hz;have HB1:=Lib.hid (hb);have HM1:=Lib.hid (HZ.out.later hl);have HFR1:=Lib.hid (Fr.later (X:=X) hl);have HXL1:=Lib.hid (XL.plus (l:=[W.heap.size]) (HXL0.out.mono hl.size) (by simp;omega));have HFT1:=Lib.hid (HFT0.out);have HW1:=Lib.hid (HW0.out);clear hb hl hz HM0 HFR0 HXL0)
   |(go_at_call 51;(with_reducible refine(need_v ⟨#[123]⟩ [123] rfl HM1.out HFT1.out.ne).mono ?_);intro e w2 hh;refine StR.cases hh (fun nn kk hx he hf=>by subst he;refine bodyPost_panic (P:=Tryz.prog) (fn:=Tryz.f22) rfl ?_;rw[show Sx.group a σ=.error (nn,kk) by simp only[Sx.group,Sx.bnd,hx]];exact⟨rfl,HFR1.out.trans hf.less⟩) (fun x1 σ2 hx he hm hf=>?_);subst he;clear hh;have HX2:=Lib.hid (hx);have HW2:=Lib.hid (HW1.out.trans ((Sx.need_un (by decide) HFT1.out.good hx).2.2) (k:=9) (by omega));have HM2:=Lib.hid (hm);have HFR2:=Lib.hid (HFR1.out.trans hf.less);have HB2:=Lib.hid (hf.cells HB1.out (.inr (by simp)));have HXL2:=Lib.hid (HXL1.out.mono hf.size);have HFT2:=Lib.hid (HFT0.out.wk HW2.out (by omega));clear hx hm hf)
   |(go_at_call 52;(with_reducible refine(list_v HL.out HM2.out HXL2.out HFT2.out (by have h8:=HW2.out.len (by omega);have h9:=HN.out;omega)).mono ?_);intro e w3 hh;refine StR.cases hh (fun nn kk hx he hf=>by subst he;refine bodyPost_panic (P:=Tryz.prog) (fn:=Tryz.f22) rfl ?_;rw[show Sx.group a σ=.error (nn,kk) by simp only[Sx.group,Sx.bnd,HX2.out,hx]];exact⟨rfl,HFR2.out.trans hf.less⟩) (fun i σ3 hx he hm hf=>?_);subst he;clear hh;have HX3:=Lib.hid (hx);have HW3:=Lib.hid (HW2.out.trans (Sx.lst_un HL.out.un HFT2.out.good hx) (k:=8) (by omega));have HM3:=Lib.hid (hm);have HFR3:=Lib.hid (HFR2.out.trans hf.less);have HB3:=Lib.hid (hf.cells HB2.out (.inr (by simp)));have HXL3:=Lib.hid (HXL2.out.mono hf.size);have HFT3:=Lib.hid (HFT0.out.wk HW3.out (by omega));clear hx hm hf;unfold natV)
   |(go_at_call 51;(with_reducible refine(need_v ⟨#[125]⟩ [125] rfl HM3.out HFT3.out.ne).mono ?_);intro e w4 hh;refine StR.cases hh (fun nn kk hx he hf=>by subst he;refine bodyPost_panic (P:=Tryz.prog) (fn:=Tryz.f22) rfl ?_;rw[show Sx.group a σ=.error (nn,kk) by simp only[Sx.group,Sx.bnd,HX2.out,HX3.out,hx]];exact⟨rfl,HFR3.out.trans hf.less⟩) (fun x3 σ4 hx he hm hf=>?_);subst he;clear hh;have HX4:=Lib.hid (hx);have HW4:=Lib.hid (HW3.out.trans ((Sx.need_un (by decide) HFT3.out.good hx).2.2) (k:=16) (by omega));have HM4:=Lib.hid (hm);have HFR4:=Lib.hid (HFR3.out.trans hf.less);have HB4:=Lib.hid (hf.cells HB3.out (.inr (by simp)));have HXL4:=Lib.hid (HXL3.out.mono hf.size);have HFT4:=Lib.hid (HFT0.out.wk HW4.out (by omega));clear hx hm hf)
   |(refine wpList_storeO rfl 37 (.tmp 2) (.tmp 12) rfl W.heap.size _ _ rfl rfl (later_cells (Later.alloc _ _) HB4.out) size_node rfl (by simp[Value.oneCell']) ?_;intro w9 hb9 hg9 hz9))
 have hlt:W.heap.size<w4.heap.size:=lt_of_block HB4.out
 obtain⟨q1,q2,q3,q4⟩:=node_lit ({ kind:=11,kids:=[i] }:Sx.Node) [i] rfl rfl rfl (by simp) HM4.out HC.out HFR4.out HLO.out hlt hg9
 refine bodyPost_ret (results_node rfl _ _ W.heap.size _ (0,0) rfl hb9 rfl) rfl ?_
 rw[show Sx.group a σ=.ok ({ kind:=11,kids:=[i] },σ4) by simp only[Sx.group,Sx.bnd,Sx.ret,HX2.out,HX3.out,HX4.out]]
 exact⟨_,.int .i64 0,rfl,⟨0,rfl⟩,q1,q2,q3,q4⟩
theorem sub_v (hL:Lev g C n a) (h:PMem W X g C σ) (hX:XL X W) (hF:Fit σ) (hn:σ.r.length<n):Calls Tryz.prog 23 #[.pointer (some ⟨g,0,none⟩)] W (NodeR X W g C (Sx.sub a σ) anyLn):=by
 have HL:=Lib.hid hL
 have HN:=Lib.hid hn
 have HFT0:=Lib.hid hF
 have HXL0:=Lib.hid hX
 have HM0:=Lib.hid h
 have HC:=Lib.hid h.ctx
 have HFR0:=Lib.hid (Fr.refl X W)
 have HW0:=Lib.hid (Sx.Wk.refl hF.good)
 have hf0:=fld0
 have hf1:=fld1
 have hf3:=fld3
 have HLO:=Lib.hid h.low
 have HZ:=Lib.hid (h.more [W.heap.size] (by simp))
 clear hL hn hF hX h
 go_enter Tryz.func23,Tryz.ntmps23
 go_wp2_with (first
   |(refine wpList_allocO 2 rfl rfl 37 rfl _ _ info_node ?_;intro w0 hb hl hz;have HB1:=Lib.hid (hb);have HM1:=Lib.hid (HZ.out.later hl);have HFR1:=Lib.hid (Fr.later (X:=X) hl);have HXL1:=Lib.hid (XL.plus (l:=[W.heap.size]) (HXL0.out.mono hl.size) (by simp;omega));have HFT1:=Lib.hid (HFT0.out);have HW1:=Lib.hid (HW0.out);clear hb hl hz HM0 HFR0 HXL0)
   |(go_at_call 51;(with_reducible refine(need_v ⟨#[40]⟩ [40] rfl HM1.out HFT1.out.ne).mono ?_);intro e w2 hh;refine StR.cases hh (fun nn kk hx he hf=>by subst he;refine bodyPost_panic (P:=Tryz.prog) (fn:=Tryz.f23) rfl ?_;rw[show Sx.sub a σ=.error (nn,kk) by simp only[Sx.sub,Sx.bnd,hx]];exact⟨rfl,HFR1.out.trans hf.less⟩) (fun x1 σ2 hx he hm hf=>?_);subst he;clear hh;have HX2:=Lib.hid (hx);have HW2:=Lib.hid (HW1.out.trans ((Sx.need_un (by decide) HFT1.out.good hx).2.2) (k:=9) (by omega));have HM2:=Lib.hid (hm);have HFR2:=Lib.hid (HFR1.out.trans hf.less);have HB2:=Lib.hid (hf.cells HB1.out (.inr (by simp)));have HXL2:=Lib.hid (HXL1.out.mono hf.size);have HFT2:=Lib.hid (HFT0.out.wk HW2.out (by omega));clear hx hm hf)
   |(go_at_call 52;(with_reducible refine(list_v HL.out HM2.out HXL2.out HFT2.out (by have h8:=HW2.out.len (by omega);have h9:=HN.out;omega)).mono ?_);intro e w3 hh;refine StR.cases hh (fun nn kk hx he hf=>by subst he;refine bodyPost_panic (P:=Tryz.prog) (fn:=Tryz.f23) rfl ?_;rw[show Sx.sub a σ=.error (nn,kk) by simp only[Sx.sub,Sx.bnd,HX2.out,hx]];exact⟨rfl,HFR2.out.trans hf.less⟩) (fun i σ3 hx he hm hf=>?_);subst he;clear hh;have HX3:=Lib.hid (hx);have HW3:=Lib.hid (HW2.out.trans (Sx.lst_un HL.out.un HFT2.out.good hx) (k:=8) (by omega));have HM3:=Lib.hid (hm);have HFR3:=Lib.hid (HFR2.out.trans hf.less);have HB3:=Lib.hid (hf.cells HB2.out (.inr (by simp)));have HXL3:=Lib.hid (HXL2.out.mono hf.size);have HFT3:=Lib.hid (HFT0.out.wk HW3.out (by omega));clear hx hm hf;unfold natV)
   |(go_at_call 51;(with_reducible refine(need_v ⟨#[41]⟩ [41] rfl HM3.out HFT3.out.ne).mono ?_);intro e w4 hh;refine StR.cases hh (fun nn kk hx he hf=>by subst he;refine bodyPost_panic (P:=Tryz.prog) (fn:=Tryz.f23) rfl ?_;rw[show Sx.sub a σ=.error (nn,kk) by simp only[Sx.sub,Sx.bnd,HX2.out,HX3.out,hx]];exact⟨rfl,HFR3.out.trans hf.less⟩) (fun x3 σ4 hx he hm hf=>?_);subst he;clear hh;have HX4:=Lib.hid (hx);have HW4:=Lib.hid (HW3.out.trans ((Sx.need_un (by decide) HFT3.out.good hx).2.2) (k:=16) (by omega));have HM4:=Lib.hid (hm);have HFR4:=Lib.hid (HFR3.out.trans hf.less);have HB4:=Lib.hid (hf.cells HB3.out (.inr (by simp)));have HXL4:=Lib.hid (HXL3.out.mono hf.size);have HFT4:=Lib.hid (HFT0.out.wk HW4.out (by omega));clear hx hm hf)
   |(refine wpList_storeO rfl 37 (.tmp 2) (.tmp 12) rfl W.heap.size _ _ rfl rfl (later_cells (Later.alloc _ _) HB4.out) size_node rfl (by simp[Value.oneCell']) ?_;intro w9 hb9 hg9 hz9))
 have hlt:W.heap.size<w4.heap.size:=lt_of_block HB4.out
 obtain⟨q1,q2,q3,q4⟩:=node_lit ({ kind:=12,kids:=[i] }:Sx.Node) [i] rfl rfl rfl (by simp) HM4.out HC.out HFR4.out HLO.out hlt hg9
 refine bodyPost_ret (results_node rfl _ _ W.heap.size _ (0,0) rfl hb9 rfl) rfl ?_
 rw[show Sx.sub a σ=.ok ({ kind:=12,kids:=[i] },σ4) by simp only[Sx.sub,Sx.bnd,Sx.ret,HX2.out,HX3.out,HX4.out]]
 exact⟨_,.int .i64 0,rfl,⟨0,rfl⟩,q1,q2,q3,q4⟩
end
end Pz
end Go.Proofs.YtkkchkkpnlnbgaaGreatDoor
namespace Go.Proofs.YtkkchkkpnlnbgaaGreatDoor
open Go.RowKit Go.Maps
open Lx (Tok nl)
theorem PLoc.result {W w1 w w9:World} {X:Nat→Prop} {g:Nat} {C:Ctx} {h:Nat} {ln:Value} {n:Sx.Node} {v:Vals} {σ:Sx.St} (hp:PLoc w1 (plus X [W.heap.size]) g C h ln n v σ w) (hc:CtxX X C) (hlo:(∀ b,C.vt.ownBlock=some b→b<W.heap.size)∧C.ms<W.heap.size) (h1:Later W w1) (hz:W.heap.size<w1.heap.size) (hg:w.grownBy w9 (some W.heap.size)) :
  Nest w9 n v∧(∀ b∈blks v,W.heap.size≤b)∧PMem w9 (plus X (blks v)) g C σ∧Fr X W w9:=by
 have hnew:∀ b∈h::blks v,W.heap.size<b:=fun b hb=>by have:=hp.new b hb;omega
 refine⟨hp.nest.grown hg fun b hb e=>?_,fun b hb=>Nat.le_of_lt (hnew b (List.mem_cons_of_mem _ hb)),?_,?_⟩
 ·injection e with e
  have:=hnew b (List.mem_cons_of_mem _ hb)
  omega
 ·refine(hp.mem.other hg (.inl (.inr (by simp))) (fun e=>by have:=hlo.1 _ e;omega) (fun e=>by have:=hlo.2;omega)).sub (fun b hb=>?_) (hc.more _)
  rcases hb with hb | hb
  ·exact .inl (.inl hb)
  ·exact .inr (List.mem_cons_of_mem _ hb)
 ·exact((Fr.later h1).trans hp.fr.less).new hg (Nat.le_refl _)
theorem ncs_all {W:World} {n:Sx.Node} {v:Vals} (h:Nest W n v) {l:Value} (hl:l.oneCell'=true):(ncs n v l).toArray.all (·.oneCell')=true:=by
 obtain⟨_,_,e1,_⟩:=own_any h.w
 obtain⟨_,_,e2,_⟩:=own_any h.r
 obtain⟨_,_,e3,_⟩:=own_any h.k
 refine Array.all_eq_true_iff_forall_mem.2 fun u hu=>?_
 unfold ncs at hu
 rw[e1,e2,e3] at hu
 simp only[List.mem_toArray,List.mem_cons,List.not_mem_nil,or_false] at hu
 rcases hu with rfl | rfl | rfl | rfl | rfl | rfl | rfl | rfl
 all_goals first | rfl | exact hl
end Go.Proofs.YtkkchkkpnlnbgaaGreatDoor
