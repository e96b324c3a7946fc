/- The parser: choice, each. No premises. -/
import Derived.Test.YtkkchkkpnlnbgaaGreatDoorNv
set_option maxRecDepth 100000
set_option maxHeartbeats 3200000
namespace Go.Proofs.YtkkchkkpnlnbgaaGreatDoor
open Go.RowKit Go.Maps
open Lx (Tok nl)
theorem PLoc.setW {W0 w:World} {X:Nat→Prop} {g:Nat} {C:Ctx} {h:Nat} {ln:Value} {n:Sx.Node} {v:Vals} {σ:Sx.St} {sl:Value} {ws:List Lx.L} (hp:PLoc W0 X g C h ln n v σ w) (hX:XL X W0) (hc:CtxX X C) (hm:PMem w (plus (plus X (h::blks v)) sl.ownBlock.toList) g C σ) (ho:w.ownsRow 0 9 1 sl ws.length (ws.map sv)) (hnew:∀ b,sl.ownBlock=some b→W0.heap.size≤b) :
  PLoc W0 X g C h ln { n with words:=ws } { v with w:=sl } σ (w.setCell ⟨h,3,none⟩ sl):=by
 have hs:=set_only w h 3 sl
 have hne:∀ {size m:Nat} {e:TypeId} {u:Value} {xs:List Value},w.ownsRow 0 e size u m xs→e≠37→(w.setCell ⟨h,3,none⟩ sl).ownsRow 0 e size u m xs:=by
  intro size m e u xs hr h2
  refine hr.kept hs ?_
  cases eu:u.ownBlock with
  | none=>exact .inl rfl
  | some b=>
   refine .inr fun e3=>?_
   injection e3 with e3
   obtain⟨cs,hb⟩:=own_type hr eu
   rw[e3,hp.box] at hb
   injection hb with hb
   injection hb with _ hb _
   exact h2 hb.symm
 refine⟨(hm.otherT hs (.inl (.inr (by simp))) hp.box (by decide)).sub (fun b hb=>?_) (hc.more _),?_,⟨hne ho (by decide),hne hp.nest.r (by decide),hne hp.nest.k (by decide)⟩,fun b hb=>?_,hp.fr.trans (Fr.grown hs (by rintro x ⟨⟩;exact hp.notX hX h (by simp)))⟩
 ·rcases hb with hb | hb
  ·exact .inl (.inl hb)
  ·rcases List.mem_cons.1 hb with rfl | hb
   ·exact .inl (.inr (by simp))
   ·rcases mem_blks.1 hb with e | e | e
    ·exact .inr (by simp at e;simp[e])
    ·exact .inl (.inr (List.mem_cons_of_mem _ (mem_blks.2 (.inr (.inl e)))))
    ·exact .inl (.inr (List.mem_cons_of_mem _ (mem_blks.2 (.inr (.inr e)))))
 ·rw[set_row hp.box]
  simp[ncs]
 ·rcases List.mem_cons.1 hb with rfl | hb
  ·exact hp.new b (by simp)
  ·rcases mem_blks.1 hb with e | e | e
   ·exact hnew b e
   ·exact hp.new b (List.mem_cons_of_mem _ (mem_blks.2 (.inr (.inl e))))
   ·exact hp.new b (List.mem_cons_of_mem _ (mem_blks.2 (.inr (.inr e))))
theorem PLoc.forWords {W0 w w':World} {X:Nat→Prop} {g:Nat} {C:Ctx} {h:Nat} {ln:Value} {n:Sx.Node} {v:Vals} {σ σ':Sx.St} {sl:Value} {ws:List Lx.L} (hp:PLoc W0 X g C h ln n v σ w) (hX:XL X W0) (hc:CtxX X C) (hm:PMem w' (plus (plus X (h::blks v)) sl.ownBlock.toList) g C σ') (hf:Fr (plus X (h::blks v)) w w') (ho:w'.ownsRow 0 9 1 sl ws.length (ws.map sv)) (hnew:∀ b,sl.ownBlock=some b→w.heap.size≤b) :
  PLoc W0 X g C h ln n v σ' w'∧PLoc W0 X g C h ln { n with flag:=false,words:=ws } { v with w:=sl } σ' ((w'.setCell ⟨h,2,none⟩ (.bool false)).setCell ⟨h,3,none⟩ sl):=by
 have h1:=hp.call (hm.less (hc.more _)) hf
 refine⟨h1,?_⟩
 have h2:=h1.set hX 2 (.bool false) (n':={ n with flag:=false }) (ln':=ln) rfl rfl rfl rfl
 refine h2.setW hX hc (hm.otherT (set_only w' h 2 _) (.inl (.inr (by simp))) h1.box (by decide)) (ho.kept (set_only w' h 2 _) ?_) fun b e=>Nat.le_trans hp.fr.size (hnew b e)
 cases eu:sl.ownBlock with
 | none=>exact .inl rfl
 | some b=>
  refine .inr fun e3=>?_
  injection e3 with e3
  obtain⟨cs,hb⟩:=own_type ho eu
  rw[e3,h1.box] at hb
  injection hb with hb
  injection hb with _ hb _
  revert hb
  decide
namespace Pz
section
variable {W:World} {X:Nat→Prop} {g:Nat} {C:Ctx} {σ:Sx.St} {n:Nat} {a:Sx.M Nat}
theorem choice_v (hL:Lev g C n a) (h:PMem W X g C σ) (hX:XL X W) (hF:Fit σ) (hn:σ.r.length<n) (ht:(Sx.hd σ).text≠[]):Calls Tryz.prog 24 #[.pointer (some ⟨g,0,none⟩)] W (NodeR X W g C (Sx.choice a n σ) anyLn):=by
 have HL:=Lib.hid hL
 have HN:=Lib.hid hn
 have HFT0:=Lib.hid hF
 have HXL0:=Lib.hid hX
 have HM0:=Lib.hid h
 have HC:=Lib.hid h.ctx
 have HFR0:=Lib.hid (Fr.refl X W)
 have HW0:=Lib.hid (Sx.Wk.refl hF.good)
 have hf0:=fld0
 have hf1:=fld1
 have hf3:=fld3
 have HLO:=Lib.hid h.low
 have HZ:=Lib.hid (h.more [W.heap.size] (by simp))
 have HT:=Lib.hid ht
 clear hL hn hF hX h ht
 go_enter Tryz.func24,Tryz.ntmps24
 go_wp2_with (first
   |(refine wpList_allocO 2 rfl rfl 37 rfl _ _ info_node ?_;intro w0 hb hl hz;have HB1:=Lib.hid (hb);have HM1:=Lib.hid (HZ.out.later hl);have HFR1:=Lib.hid (Fr.later (X:=X) hl);have HXL1:=Lib.hid (XL.plus (l:=[W.heap.size]) (HXL0.out.mono hl.size) (by simp;omega));have HFT1:=Lib.hid (HFT0.out);have HW1:=Lib.hid (HW0.out);have HG1:=Lib.hid (Fr.refl (plus X [W.heap.size]) w0);have HL01:=Lib.hid (hl);have HZ0:=Lib.hid (show W.heap.size<w0.heap.size by omega);have HXB:=Lib.hid (XL.plus (l:=[W.heap.size]) (HXL0.out.mono hl.size) (by simp;omega));clear hb hl hz HM0 HFR0 HXL0)
   |(go_at_call 53;(with_reducible refine(branch_v HL.out n HM1.out HXL1.out HFT1.out HN.out HN.out HT.out).mono ?_);intro e w2 hh;refine NodeR.cases hh (fun nn kk hx he hf=>by subst he;refine bodyPost_panic (P:=Tryz.prog) (fn:=Tryz.f24) rfl ?_;rw[show Sx.choice a n σ=.error (nn,kk) by simp only[Sx.choice,Sx.bnd,hx]];exact⟨rfl,HFR1.out.trans hf.less⟩) (fun nd σ2 v2 l2 hx he hlv hnst hnew hm hf=>?_);subst he;clear hh;subst hlv;have HX2:=Lib.hid (hx);have HW2:=Lib.hid (HW1.out.trans (Sx.branchF_un HL.out.un n HFT1.out.good HT.out hx).1 (k:=10) (by omega));have HFT2:=Lib.hid (HFT0.out.wk HW2.out (by omega));have HNM:=Lib.hid (hm);have HNN:=Lib.hid (hnst);have HNW:=Lib.hid (hnew);have HNF:=Lib.hid (hf);have HAL:=Lib.hid (ncs_all hnst (l:=lnv C.N nd.left) rfl);clear hx hm hnst hnew hf)
   |(refine wpList_allocO 3 rfl rfl 37 rfl _ _ info_node ?_;intro w8 hb hl hz;have HB8:=Lib.hid (hb);have HL8:=Lib.hid (hl);clear hb hl hz)
   |(refine wpList_storeO rfl 37 (.tmp 3) (.tmp 5) rfl w2.heap.size _ (ncs nd v2 (lnv C.N nd.left)).toArray rfl rfl HB8.out size_node rfl HAL.out ?_;intro w9 hb hg hz;have HP3:=Lib.hid (PLoc.made (W0:=w0) (X:=plus X [W.heap.size]) HNM.out (HC.out.more _) HNF.out HNN.out HNW.out HL8.out hg hb);have HW3:=Lib.hid (HW2.out);have HFT3:=Lib.hid (HFT2.out);clear hb hg hz HB8 HL8)
   |(go_at_call 51;(with_reducible refine(need_v ⟨#[102,105]⟩ Sx.kFI rfl (HP3.out.mem) HFT3.out.ne).mono ?_);intro e w4 hh;refine StR.cases hh (fun nn kk hx he hf=>by subst he;refine bodyPost_panic (P:=Tryz.prog) (fn:=Tryz.f24) rfl ?_;rw[show Sx.choice a n σ=.error (nn,kk) by simp only[Sx.choice,Sx.bnd,HX2.out,hx]];exact⟨rfl,HFR1.out.trans (HP3.out.fr.trans hf.less).less⟩) (fun x3 σ4 hx he hm hf=>?_);subst he;clear hh;have HX4:=Lib.hid (hx);have HW4:=Lib.hid (HW3.out.trans ((Sx.need_un (by decide) HFT3.out.good hx).2.2) (k:=18) (by omega));have HP4:=Lib.hid (HP3.out.call hm hf);have HFT4:=Lib.hid (HFT0.out.wk HW4.out (by omega));clear hx hm hf)
   |(refine wpList_loadO rfl 37 (.tmp 3) rfl w2.heap.size _ _ rfl HP4.out.box Tryz.underlying37 rfl size_node ?_)
   |(refine wpList_storeO rfl 37 (.tmp 2) (.tmp 8) rfl W.heap.size _ _ rfl rfl (HP4.out.fr.cells HB1.out (.inr (by simp))) size_node rfl (ncs_all HP4.out.nest rfl) ?_;intro w9 hb9 hg9 hz9))
 obtain⟨q1,q2,q3,q4⟩:=PLoc.result HP4.out HC.out HLO.out HL01.out HZ0.out hg9
 refine bodyPost_ret (results_node rfl _ _ W.heap.size _ (0,0) rfl hb9 rfl) rfl ?_
 rw[show Sx.choice a n σ=.ok (nd,σ4) by simp only[Sx.choice,Sx.bnd,Sx.ret,HX2.out,HX4.out]]
 exact⟨_,_,rfl,⟨_,rfl⟩,q1,q2,q3,q4⟩
theorem each_v (hL:Lev g C n a) (h:PMem W X g C σ) (hX:XL X W) (hF:Fit σ) (hn:σ.r.length<n):Calls Tryz.prog 26 #[.pointer (some ⟨g,0,none⟩)] W (NodeR X W g C (Sx.each a σ) anyLn):=by
 have HL:=Lib.hid hL
 have HN:=Lib.hid hn
 have HFT0:=Lib.hid hF
 have HXL0:=Lib.hid hX
 have HM0:=Lib.hid h
 have HC:=Lib.hid h.ctx
 have HFR0:=Lib.hid (Fr.refl X W)
 have HW0:=Lib.hid (Sx.Wk.refl hF.good)
 have hf0:=fld0
 have hf1:=fld1
 have hf3:=fld3
 have HLO:=Lib.hid h.low
 have HZ:=Lib.hid (h.more [W.heap.size] (by simp))
 clear hL hn hF hX h
 go_enter Tryz.func26,Tryz.ntmps26
 go_wp2_with (first
   |(refine wpList_allocO 2 rfl rfl 37 rfl _ _ info_node ?_;intro w0 hb hl hz;have HB1:=Lib.hid (hb);have HM1:=Lib.hid (HZ.out.later hl);have HFR1:=Lib.hid (Fr.later (X:=X) hl);have HXL1:=Lib.hid (XL.plus (l:=[W.heap.size]) (HXL0.out.mono hl.size) (by simp;omega));have HFT1:=Lib.hid (HFT0.out);have HW1:=Lib.hid (HW0.out);have HG1:=Lib.hid (Fr.refl (plus X [W.heap.size]) w0);have HL01:=Lib.hid (hl);have HZ0:=Lib.hid (show W.heap.size<w0.heap.size by omega);have HXB:=Lib.hid (XL.plus (l:=[W.heap.size]) (HXL0.out.mono hl.size) (by simp;omega));clear hb hl hz HM0 HFR0 HXL0)
   |(go_at_call 51;(with_reducible refine(need_v ⟨#[102,111,114]⟩ Sx.kFOR rfl HM1.out HFT1.out.ne).mono ?_);intro e w2 hh;refine StR.cases hh (fun nn kk hx he hf=>by subst he;refine bodyPost_panic (P:=Tryz.prog) (fn:=Tryz.f26) rfl ?_;rw[show Sx.each a σ=.error (nn,kk) by simp only[Sx.each,Sx.each2,Sx.bnd,Sx.words,hx]];exact⟨rfl,HFR1.out.trans hf.less⟩) (fun x1 σ2 hx he hm hf=>?_);subst he;clear hh;have HX2:=Lib.hid (hx);have HW2:=Lib.hid (HW1.out.trans ((Sx.need_un (by decide) HFT1.out.good hx).2.2) (k:=9) (by omega));have HM2:=Lib.hid (hm);have HFR2:=Lib.hid (HFR1.out.trans hf.less);have HB2:=Lib.hid (hf.cells HB1.out (.inr (by simp)));have HG2:=Lib.hid (HG1.out.trans hf);have HXL2:=Lib.hid (HXL1.out.mono hf.size);have HFT2:=Lib.hid (HFT0.out.wk HW2.out (by omega));clear hx hm hf)
   |(go_at_call 56;(with_reducible refine(name_v' HM2.out HFT2.out.ne).mono ?_);intro e w3 hh;refine StR.cases hh (fun nn kk hx he hf=>by subst he;refine bodyPost_panic (P:=Tryz.prog) (fn:=Tryz.f26) rfl ?_;rw[show Sx.each a σ=.error (nn,kk) by simp only[Sx.each,Sx.each2,Sx.bnd,Sx.words,HX2.out,hx]];exact⟨rfl,HFR2.out.trans hf.less⟩) (fun t σ3 hx he hm hf=>?_);subst he;clear hh;have HX3:=Lib.hid (hx);have HW3:=Lib.hid (HW2.out.trans ((Sx.name_un HFT2.out.good hx).2.2) (k:=17) (by omega));have HM3:=Lib.hid (hm);have HFR3:=Lib.hid (HFR2.out.trans hf.less);have HB3:=Lib.hid (hf.cells HB2.out (.inr (by simp)));have HG3:=Lib.hid (HG2.out.trans hf);have HXL3:=Lib.hid (HXL2.out.mono hf.size);have HFT3:=Lib.hid (HFT0.out.wk HW3.out (by omega));clear hx hm hf;unfold sv)
   |(refine wpList_allocO 3 rfl rfl 37 rfl _ _ info_node ?_;intro w8 hb hl hz;have HB8:=Lib.hid (hb);have HL8:=Lib.hid (hl);clear hb hl hz)
   |(refine wpList_storeO rfl 37 (.tmp 3) (.tmp 8) rfl w3.heap.size _ (ncs ({ kind:=8,text:=t,flag:=true }:Sx.Node) v0 (.int .i64 0)).toArray rfl rfl HB8.out size_node rfl (ncs_all (Nest.v0 W _ rfl rfl rfl) rfl) ?_;intro w9 hb hg hz;have HP4:=Lib.hid (PLoc.made (W0:=w0) (X:=(plus X [W.heap.size])) (HM3.out.sub (Y:=plus (plus X [W.heap.size]) (blks v0)) (fun b hb=>hb.resolve_right (by simp[blks_v0])) (CtxX.more (HC.out.more _) _)) (HC.out.more _) HG3.out (Nest.v0 _ _ rfl rfl rfl) (by simp[blks_v0]) HL8.out hg hb);have HW4:=Lib.hid (HW3.out);have HFT4:=Lib.hid (HFT3.out);clear hb hg hz HB8 HL8)
   |(go_at_call 57;(with_reducible refine(passed_v ⟨#[59]⟩ [59] rfl (HP4.out.mem) HFT4.out.ne).mono ?_);intro e w5 hh;refine StR.cases hh (fun nn kk hx he hf=>by subst he;exact absurd hx (passed_ne _ _ _)) (fun b σ5 hx he hm hf=>?_);subst he;clear hh;have HX5:=Lib.hid (hx);have HW5:=Lib.hid (HW4.out.trans (Sx.passed_wk (by decide) HFT4.out.good hx) (k:=17) (by omega));have HP5:=Lib.hid (HP4.out.call hm hf);have HFT5:=Lib.hid (HFT0.out.wk HW5.out (by omega));clear hx hm hf;cases b)
   |(go_at_call 58;(with_reducible refine(lines_v (HP5.out.mem) HFT5.out.good).mono ?_);rintro e w6 ⟨rfl,hm,hf⟩;have HW6:=Lib.hid (HW5.out.trans (Sx.Wk.dl HFT5.out.good) (k:=17) (by omega));have HP6:=Lib.hid (HP5.out.call hm hf);have HFT6:=Lib.hid (HFT0.out.wk HW6.out (by omega));clear hm hf)
   |(go_at_call 57;(with_reducible refine(passed_v ⟨#[105,110]⟩ Sx.kIN rfl (HP6.out.mem) HFT6.out.ne).mono ?_);intro e w7B hh;refine StR.cases hh (fun nn kk hx he hf=>by subst he;exact absurd hx (passed_ne _ _ _)) (fun c σ7B hx he hm hf=>?_);subst he;clear hh;have HX7B:=Lib.hid (hx);have HW7B:=Lib.hid (HW6.out.trans (Sx.passed_wk (by decide) HFT6.out.good hx) (k:=17) (by omega));have HP7B:=Lib.hid (HP6.out.call hm hf);have HFT7B:=Lib.hid (HFT0.out.wk HW7B.out (by omega));clear hx hm hf;cases c)
   |(go_at_call 55;(with_reducible refine(body_v HL.out (HP6.out.mem) (HP6.out.xl HXB.out) HFT6.out (by have h8:=HW6.out.len (by omega);have h9:=HN.out;omega)).mono ?_);intro e w7A hh;refine StR.cases hh (fun nn kk hx he hf=>by subst he;refine bodyPost_panic (P:=Tryz.prog) (fn:=Tryz.f26) rfl ?_;rw[show Sx.each a σ=.error (nn,kk) by simp only[Sx.each,Sx.each2,Sx.bnd,Sx.words,Sx.lines,HX2.out,HX3.out,HX5.out,if_true,Bool.false_eq_true,if_false,hx]];exact⟨rfl,HFR1.out.trans (HP6.out.fr.trans hf.less).less⟩) (fun k σ7A hx he hm hf=>?_);subst he;clear hh;have HX7A:=Lib.hid (hx);have HW7A:=Lib.hid (HW6.out.trans (Sx.body_un HL.out.un HFT6.out.good hx) (k:=26) (by omega));have HP7A:=Lib.hid (HP6.out.call hm hf);have HFT7A:=Lib.hid (HFT0.out.wk HW7A.out (by omega));clear hx hm hf;unfold natV;have HPAL:=Lib.hid ((PLoc.growK HP7A.out HXB.out (HC.out.more _) k (Later.refl w7A) (v':=.slice (some ⟨w7A.heap.size,0,none⟩) 1 1) (w':=w7A.alloc (.cells #[.int .i64 (k:Int)] 3)) (own_lit w7A 3 [iv k] (by simp)) (grown_of_later (Later.alloc _ _) _) (.inr rfl)).1);obtain⟨q6,z6⟩:=(HP7A.out.later (Later.alloc w7A (.cells #[.int .i64 (k:Int)] 3))).cell 6;simp only[ncs,List.getElem?_cons_succ,List.getElem?_cons_zero,v0,nilV] at q6)
   |(refine wpList_loadO rfl 37 (.tmp 3) rfl w3.heap.size _ _ rfl HPAL.out.box Tryz.underlying37 rfl size_node ?_)
   |(refine wpList_storeO rfl 37 (.tmp 2) (.tmp 31) rfl W.heap.size _ _ rfl rfl (HPAL.out.fr.cells HB1.out (.inr (by simp))) size_node rfl (ncs_all HPAL.out.nest rfl) ?_;intro w9 hb9 hg9 hz9)
   |(go_at_call 58;(with_reducible refine(lines_v (HP7B.out.mem) HFT7B.out.good).mono ?_);rintro e w8D ⟨rfl,hm,hf⟩;have HW8D:=Lib.hid (HW7B.out.trans (Sx.Wk.dl HFT7B.out.good) (k:=17) (by omega));have HP8D:=Lib.hid (HP7B.out.call hm hf);have HFT8D:=Lib.hid (HFT0.out.wk HW8D.out (by omega));clear hm hf)
   |(go_at_call 55;(with_reducible refine(body_v HL.out (HP8D.out.mem) (HP8D.out.xl HXB.out) HFT8D.out (by have h8:=HW8D.out.len (by omega);have h9:=HN.out;omega)).mono ?_);intro e w9D hh;refine StR.cases hh (fun nn kk hx he hf=>by subst he;refine bodyPost_panic (P:=Tryz.prog) (fn:=Tryz.f26) rfl ?_;rw[show Sx.each a σ=.error (nn,kk) by simp only[Sx.each,Sx.each2,Sx.bnd,Sx.words,Sx.lines,HX2.out,HX3.out,HX5.out,HX7B.out,if_true,Bool.false_eq_true,if_false,hx]];exact⟨rfl,HFR1.out.trans (HP8D.out.fr.trans hf.less).less⟩) (fun k σ9D hx he hm hf=>?_);subst he;clear hh;have HX9D:=Lib.hid (hx);have HW9D:=Lib.hid (HW8D.out.trans (Sx.body_un HL.out.un HFT8D.out.good hx) (k:=26) (by omega));have HP9D:=Lib.hid (HP8D.out.call hm hf);have HFT9D:=Lib.hid (HFT0.out.wk HW9D.out (by omega));clear hx hm hf;unfold natV;have HPDL:=Lib.hid ((PLoc.growK HP9D.out HXB.out (HC.out.more _) k (Later.refl w9D) (v':=.slice (some ⟨w9D.heap.size,0,none⟩) 1 1) (w':=w9D.alloc (.cells #[.int .i64 (k:Int)] 3)) (own_lit w9D 3 [iv k] (by simp)) (grown_of_later (Later.alloc _ _) _) (.inr rfl)).1);obtain⟨q6,z6⟩:=(HP9D.out.later (Later.alloc w9D (.cells #[.int .i64 (k:Int)] 3))).cell 6;simp only[ncs,List.getElem?_cons_succ,List.getElem?_cons_zero,v0,nilV] at q6)
   |(refine wpList_loadO rfl 37 (.tmp 3) rfl w3.heap.size _ _ rfl HPDL.out.box Tryz.underlying37 rfl size_node ?_)
   |(refine wpList_storeO rfl 37 (.tmp 2) (.tmp 31) rfl W.heap.size _ _ rfl rfl (HPDL.out.fr.cells HB1.out (.inr (by simp))) size_node rfl (ncs_all HPDL.out.nest rfl) ?_;intro w9 hb9 hg9 hz9)
   |(go_at_call 59;(with_reducible refine(words_v HP7B.out.mem (HP7B.out.xl HXB.out) HFT7B.out.good).mono ?_);rintro e w8E ⟨A,m,c9,rfl,ho,hnew,hm,hf,hlw⟩;have HPw:=Lib.hid ((PLoc.forWords HP7B.out HXB.out (HC.out.more _) hm hf ho hnew).1);have HP8E:=Lib.hid ((PLoc.forWords HP7B.out HXB.out (HC.out.more _) hm hf ho hnew).2);have HW8E:=Lib.hid (HW7B.out.trans (Sx.words_un HFT7B.out.good (show Sx.words σ7B=.ok ((Sx.wordsL σ7B.r).1,({ σ7B with r:=(Sx.wordsL σ7B.r).2 }:Sx.St)) from rfl)) (k:=17) (by omega));have HFT8E:=Lib.hid (HFT0.out.wk HW8E.out (by omega));obtain⟨q2,z2⟩:=HPw.out.cell 2;obtain⟨q3,z3⟩:=(HPw.out.set HXB.out 2 (.bool false) (n':={ kind:=8,text:=t,flag:=false }) (ln':=.int .i64 0) rfl rfl rfl rfl).cell 3;simp only[ncs,List.getElem?_cons_succ,List.getElem?_cons_zero,v0,nilV] at q2 q3;clear ho hnew hm hf hlw)
   |(go_at_call 60;(with_reducible refine(parted_v (HP8E.out.mem) HFT8E.out.good).mono ?_);intro e w9E hh;refine StR.cases hh (fun nn kk hx he hf=>by subst he;exact absurd hx (parted_ne _ _)) (fun p σ9E hx he hm hf=>?_);subst he;clear hh;have HX9E:=Lib.hid (hx);have HW9E:=Lib.hid (HW8E.out.trans ((Sx.parted_un HFT8E.out.good hx).1) (k:=17) (by omega));have HP9E:=Lib.hid (HP8E.out.call hm hf);have HFT9E:=Lib.hid (HFT0.out.wk HW9E.out (by omega));clear hx hm hf;cases p <;> clear q2 z2 q3 z3)
   |(go_at_call 58;(with_reducible refine(lines_v (HP9E.out.mem) HFT9E.out.good).mono ?_);rintro e w10E ⟨rfl,hm,hf⟩;have HW10E:=Lib.hid (HW9E.out.trans (Sx.Wk.dl HFT9E.out.good) (k:=17) (by omega));have HP10E:=Lib.hid (HP9E.out.call hm hf);have HFT10E:=Lib.hid (HFT0.out.wk HW10E.out (by omega));clear hm hf)
   |(go_at_call 55;(with_reducible refine(body_v HL.out (HP10E.out.mem) (HP10E.out.xl HXB.out) HFT10E.out (by have h8:=HW10E.out.len (by omega);have h9:=HN.out;omega)).mono ?_);intro e w11G hh;refine StR.cases hh (fun nn kk hx he hf=>by subst he;refine bodyPost_panic (P:=Tryz.prog) (fn:=Tryz.f26) rfl ?_;rw[show Sx.each a σ=.error (nn,kk) by simp only[Sx.each,Sx.each2,Sx.bnd,Sx.words,Sx.lines,HX2.out,HX3.out,HX5.out,HX7B.out,HX9E.out,if_true,Bool.false_eq_true,if_false,hx]];exact⟨rfl,HFR1.out.trans (HP10E.out.fr.trans hf.less).less⟩) (fun k σ11G hx he hm hf=>?_);subst he;clear hh;have HX11G:=Lib.hid (hx);have HW11G:=Lib.hid (HW10E.out.trans (Sx.body_un HL.out.un HFT10E.out.good hx) (k:=26) (by omega));have HP11G:=Lib.hid (HP10E.out.call hm hf);have HFT11G:=Lib.hid (HFT0.out.wk HW11G.out (by omega));clear hx hm hf;unfold natV;have HPGL:=Lib.hid ((PLoc.growK HP11G.out HXB.out (HC.out.more _) k (Later.refl w11G) (v':=.slice (some ⟨w11G.heap.size,0,none⟩) 1 1) (w':=w11G.alloc (.cells #[.int .i64 (k:Int)] 3)) (own_lit w11G 3 [iv k] (by simp)) (grown_of_later (Later.alloc _ _) _) (.inr rfl)).1);obtain⟨q6,z6⟩:=(HP11G.out.later (Later.alloc w11G (.cells #[.int .i64 (k:Int)] 3))).cell 6;simp only[ncs,List.getElem?_cons_succ,List.getElem?_cons_zero,v0,nilV] at q6)
   |(refine wpList_loadO rfl 37 (.tmp 3) rfl w3.heap.size _ _ rfl HPGL.out.box Tryz.underlying37 rfl size_node ?_)
   |(refine wpList_storeO rfl 37 (.tmp 2) (.tmp 31) rfl W.heap.size _ _ rfl rfl (HPGL.out.fr.cells HB1.out (.inr (by simp))) size_node rfl (ncs_all HPGL.out.nest rfl) ?_;intro w9 hb9 hg9 hz9)
   |(go_at_call 30;(with_reducible refine(refuse_v HP9E.out.mem HFT9E.out.ne).mono ?_);rintro e wz ⟨rfl,hlz⟩;refine bodyPost_panic (P:=Tryz.prog) (fn:=Tryz.f26) rfl ?_;rw[show Sx.each a σ=.error (20,(Sx.hd σ9E).left) by simp only[Sx.each,Sx.each2,Sx.bnd,Sx.words,Sx.lines,Sx.fail,HX2.out,HX3.out,HX5.out,HX7B.out,HX9E.out,if_true,Bool.false_eq_true,if_false]];exact⟨rfl,HFR1.out.trans (HP9E.out.fr.thenLater hlz).less⟩))
 ·
  obtain⟨q1,q2,q3,q4⟩:=PLoc.result HPDL.out HC.out HLO.out HL01.out HZ0.out hg9
  refine bodyPost_ret (results_node rfl _ _ W.heap.size _ (0,0) rfl hb9 rfl) rfl ?_
  rw[show Sx.each a σ=.ok (({ kind:=8,text:=t,flag:=true,words:=[],kids:=[k] }:Sx.Node),σ9D) by simp only[Sx.each,Sx.each2,Sx.bnd,Sx.words,Sx.lines,Sx.ret,HX2.out,HX3.out,HX5.out,HX7B.out,HX9D.out,if_true,Bool.false_eq_true,if_false]]
  exact⟨_,_,rfl,⟨_,rfl⟩,q1,q2,q3,q4⟩
 ·
  obtain⟨q1,q2,q3,q4⟩:=PLoc.result HPGL.out HC.out HLO.out HL01.out HZ0.out hg9
  refine bodyPost_ret (results_node rfl _ _ W.heap.size _ (0,0) rfl hb9 rfl) rfl ?_
  rw[show Sx.each a σ=.ok (({ kind:=8,text:=t,flag:=false,words:=(Sx.wordsL σ7B.r).1,kids:=[k] }:Sx.Node),σ11G) by simp only[Sx.each,Sx.each2,Sx.bnd,Sx.words,Sx.lines,Sx.ret,HX2.out,HX3.out,HX5.out,HX7B.out,HX9E.out,HX11G.out,if_true,Bool.false_eq_true,if_false]]
  exact⟨_,_,rfl,⟨_,rfl⟩,q1,q2,q3,q4⟩
 ·
  obtain⟨q1,q2,q3,q4⟩:=PLoc.result HPAL.out HC.out HLO.out HL01.out HZ0.out hg9
  refine bodyPost_ret (results_node rfl _ _ W.heap.size _ (0,0) rfl hb9 rfl) rfl ?_
  rw[show Sx.each a σ=.ok (({ kind:=8,text:=t,flag:=true,words:=[],kids:=[k] }:Sx.Node),σ7A) by simp only[Sx.each,Sx.each2,Sx.bnd,Sx.words,Sx.lines,Sx.ret,HX2.out,HX3.out,HX5.out,HX7A.out,if_true,Bool.false_eq_true,if_false]]
  exact⟨_,_,rfl,⟨_,rfl⟩,q1,q2,q3,q4⟩
end
end Pz
end Go.Proofs.YtkkchkkpnlnbgaaGreatDoor
namespace Go.Proofs.YtkkchkkpnlnbgaaGreatDoor
open Go.RowKit Go.Maps
open Lx (Tok nl)
namespace Pz
section
variable {W:World} {X:Nat→Prop} {g:Nat} {C:Ctx} {σ:Sx.St} {n:Nat} {a:Sx.M Nat}
theorem item_v (hL:Lev g C n a) (h:PMem W X g C σ) (hX:XL X W) (hF:Fit σ) (hn:σ.r.length<n):Calls Tryz.prog 63 #[.pointer (some ⟨g,0,none⟩)] W (StR X W g C (Sx.item a n σ) natV):=by
 have HL:=Lib.hid hL
 have HN:=Lib.hid hn
 have HFT0:=Lib.hid hF
 have HXL0:=Lib.hid hX
 have HM0:=Lib.hid h
 have HC:=Lib.hid h.ctx
 have HFR0:=Lib.hid (Fr.refl X W)
 have HW0:=Lib.hid (Sx.Wk.refl hF.good)
 have hf0:=fld0
 have hf1:=fld1
 have hf3:=fld3
 have HXB:=Lib.hid hX
 clear hL hn hF hX h
 go_enter Tryz.func63,Tryz.ntmps63
 go_wp2_with (first
   |(go_at_call 64;(with_reducible refine(line_v HM0.out HFT0.out.ne).mono ?_);rintro e w1 ⟨rfl,hl⟩;have HW1:=Lib.hid (HW0.out);have HFT1:=Lib.hid (HFT0.out);have HM1:=Lib.hid (HM0.out.later hl);have HFR1:=Lib.hid (HFR0.out.thenLater hl);have HXL1:=Lib.hid (HXL0.out.mono hl.size);clear hl;unfold lnv)
   |(refine wpList_allocO 3 rfl rfl 37 rfl _ _ info_node ?_;intro w8 hb hl hz;have HB8:=Lib.hid (hb);have HL8:=Lib.hid (hl);clear hb hl hz)
   |(refine wpList_storeO rfl 37 (.tmp 3) (.tmp 6) rfl w1.heap.size _ (ncs ({ kind:=10,left:=(Sx.hd σ).left }:Sx.Node) v0 (lnv C.N (Sx.hd σ).left)).toArray rfl rfl HB8.out size_node rfl (ncs_all (Nest.v0 W _ rfl rfl rfl) rfl) ?_;intro w9 hb hg hz;have HP2:=Lib.hid (PLoc.made (W0:=W) (X:=X) (HM1.out.sub (Y:=plus X (blks v0)) (fun b hb=>hb.resolve_right (by simp[blks_v0])) (CtxX.more HC.out _)) HC.out HFR1.out (Nest.v0 _ _ rfl rfl rfl) (by simp[blks_v0]) HL8.out hg hb);have HW2:=Lib.hid (HW1.out);have HFT2:=Lib.hid (HFT1.out);clear hb hg hz HB8 HL8)
   |(go_at_call 57;(with_reducible refine(passed_v ⟨#[40]⟩ [40] rfl (HP2.out.mem) HFT2.out.ne).mono ?_);intro e w3 hh;refine StR.cases hh (fun nn kk hx he hf=>by subst he;exact absurd hx (passed_ne _ _ _)) (fun b0 σ3 hx he hm hf=>?_);subst he;clear hh;have HX3:=Lib.hid (hx);have HW3:=Lib.hid (HW2.out.trans (Sx.passed_wk (by decide) HFT2.out.good hx) (k:=1) (by omega));have HP3:=Lib.hid (HP2.out.call hm hf);have HFT3:=Lib.hid (HFT0.out.wk HW3.out (by omega));clear hx hm hf)
   |(go_at_call 61;(with_reducible refine(word_v (HP3.out.mem) HFT3.out.ne).mono ?_);intro e w4 hh;refine StR.cases hh (fun nn kk hx he hf=>by subst he;refine bodyPost_panic (P:=Tryz.prog) (fn:=Tryz.f63) rfl ?_;rw[show Sx.item a n σ=.error (nn,kk) by simp only[Sx.item,Sx.bnd,HX3.out,hx]];exact⟨rfl,HP3.out.fr.trans hf.less⟩) (fun x σ4 hx he hm hf=>?_);subst he;clear hh;have HX4:=Lib.hid (hx);have HW4:=Lib.hid (HW3.out.trans ((Sx.word_un HFT3.out.good hx).2.2.2) (k:=9) (by omega));have HP4:=Lib.hid (HP3.out.call hm hf);have HFT4:=Lib.hid (HFT0.out.wk HW4.out (by omega));clear hx hm hf;unfold tcs;have HPL:=Lib.hid ((PLoc.growW HP4.out HXB.out HC.out x.text (Later.refl w4) (v':=.slice (some ⟨w4.heap.size,0,none⟩) 1 1) (w':=w4.alloc (.cells #[.string (mkS x.text)] 9)) (own_lit w4 9 [sv x.text] (by simp)) (grown_of_later (Later.alloc _ _) _) (.inr rfl)).1);obtain⟨q3,z3⟩:=(HP4.out.later (Later.alloc w4 (.cells #[.string (mkS x.text)] 9))).cell 3;simp only[ncs,List.getElem?_cons_succ,List.getElem?_cons_zero,v0,nilV] at q3))
 go_loopw [] (fun wr=>∃ (σr:Sx.St) (ws:List Lx.L) (v:Vals) (m:Nat),Sx.altF n [x.text] σ4=Sx.altF m ws σr∧σr.r.length<m∧Sx.Wk 9 σ σr []∧ws.length+σr.r.length≤5001∧PLoc W X g C w1.heap.size (lnv C.N (Sx.hd σ).left) ({ kind:=10,words:=ws,left:=(Sx.hd σ).left }:Sx.Node) v σr wr) (fun wr=>C.TS.length-atP g wr)
 case atStart=>exact⟨_,_,_,n,rfl,by have h1:=HW4.out.len (by omega);have h2:=HN.out;omega,HW4.out.weak (by omega),by have:=HPL.out.mem.few;simp;omega,HPL.out⟩
 case round=>
  clear HPL q3 z3
  obtain⟨σr,ws,v,m,hq,hm,hw,hfw,hp⟩:=hrel
  have HQ:=Lib.hid hq
  have HMM:=Lib.hid hm
  have HWR:=Lib.hid hw
  have HFW:=Lib.hid hfw
  have HPR:=Lib.hid hp
  have HFTR:=Lib.hid (HFT0.out.wk HWR.out (by omega))
  clear hq hm hw hfw hp
  go_wp2_with (first
   |(go_at_call 57;(with_reducible refine(passed_v ⟨#[124]⟩ [124] rfl (HPR.out.mem) HFTR.out.ne).mono ?_);intro e w5R hh;refine StR.cases hh (fun nn kk hx he hf=>by subst he;exact absurd hx (passed_ne _ _ _)) (fun b σ5R hx he hm hf=>?_);subst he;clear hh;have HX5R:=Lib.hid (hx);have HW5R:=Lib.hid (HWR.out.trans (Sx.passed_wk (by decide) HFTR.out.good hx) (k:=9) (by omega));have HP5R:=Lib.hid (HPR.out.call hm hf);have HFT5R:=Lib.hid (HFT0.out.wk HW5R.out (by omega));clear hx hm hf;cases b))
  ·
   have HALT:=Lib.hid (show Sx.altF n [x.text] σ4=.ok (ws,σ5R) by rw[HQ.out];obtain⟨m2,rfl⟩:∃ m2,m=m2+1:=⟨m-1,by have:=HMM.out;omega⟩;simp only[Sx.altF,Sx.bnd,HX5R.out,Bool.false_eq_true,if_false,Sx.ret])
   go_wp2_with (first
   |(go_at_call 51;(with_reducible refine(need_v ⟨#[41]⟩ [41] rfl (HP5R.out.mem) HFT5R.out.ne).mono ?_);intro e w6R hh;refine StR.cases hh (fun nn kk hx he hf=>by subst he;refine bodyPost_panic (P:=Tryz.prog) (fn:=Tryz.f63) rfl ?_;rw[show Sx.item a n σ=.error (nn,kk) by simp only[Sx.item,Sx.bnd,HX3.out,HX4.out,HALT.out,hx]];exact⟨rfl,HP5R.out.fr.trans hf.less⟩) (fun x5 σ6R hx he hm hf=>?_);subst he;clear hh;have HX6R:=Lib.hid (hx);have HW6R:=Lib.hid (HW5R.out.trans ((Sx.need_un (by decide) HFT5R.out.good hx).2.2) (k:=17) (by omega));have HP6R:=Lib.hid (HP5R.out.call hm hf);have HFT6R:=Lib.hid (HFT0.out.wk HW6R.out (by omega));clear hx hm hf)
   |(go_at_call 28;(with_reducible refine(HL.out.calls _ _ _ (HP6R.out.mem) (HP6R.out.xl HXB.out) HFT6R.out (by have h8:=HW6R.out.len (by omega);have h9:=HN.out;omega)).mono ?_);intro e w7R hh;refine StR.cases hh (fun nn kk hx he hf=>by subst he;refine bodyPost_panic (P:=Tryz.prog) (fn:=Tryz.f63) rfl ?_;rw[show Sx.item a n σ=.error (nn,kk) by simp only[Sx.item,Sx.bnd,HX3.out,HX4.out,HALT.out,HX6R.out,hx]];exact⟨rfl,HP6R.out.fr.trans hf.less⟩) (fun k σ7R hx he hm hf=>?_);subst he;clear hh;have HX7R:=Lib.hid (hx);have HW7R:=Lib.hid (HW6R.out.trans (HL.out.un _ _ _ HFT6R.out.good hx) (k:=16) (by omega));have HP7R:=Lib.hid (HP6R.out.call hm hf);have HFT7R:=Lib.hid (HFT0.out.wk HW7R.out (by omega));clear hx hm hf;unfold natV;have HPK:=Lib.hid ((PLoc.growK HP7R.out HXB.out HC.out k (Later.refl w7R) (v':=.slice (some ⟨w7R.heap.size,0,none⟩) 1 1) (w':=w7R.alloc (.cells #[.int .i64 (k:Int)] 3)) (own_lit w7R 3 [iv k] (by simp)) (grown_of_later (Later.alloc _ _) _) (.inr rfl)).1);obtain⟨q6,z6⟩:=(HP7R.out.later (Later.alloc w7R (.cells #[.int .i64 (k:Int)] 3))).cell 6;simp only[ncs,List.getElem?_cons_succ,List.getElem?_cons_zero] at q6)
   |(refine wpList_loadO rfl 37 (.tmp 3) rfl w1.heap.size _ _ rfl HPK.out.box Tryz.underlying37 rfl size_node ?_)
   |(go_at_call 67;(refine(add_v ({ kind:=10,words:=ws,kids:=[k],left:=(Sx.hd σ).left }:Sx.Node) _ _ rfl (HPK.out.addable HC.out) HC.out (HXB.out.mono HPK.out.fr.size) HPK.out.nest (fun b hb=>HPK.out.notX HXB.out b (List.mem_cons_of_mem _ hb)) HFT7R.out.nodes).mono ?_);rintro e wz ⟨rfl,hmz,hfz⟩))
   go_ret
   rw[show Sx.item a n σ=Sx.add ({ kind:=10,words:=ws,kids:=[k],left:=(Sx.hd σ).left }:Sx.Node) σ7R by simp only[Sx.item,Sx.bnd,HX3.out,HX4.out,HALT.out,HX6R.out,HX7R.out]]
   exact⟨rfl,hmz,HPK.out.fr.trans hfz⟩
  ·
   have hpd:=HP5R.out.later (Later.drew _)
   have hcl:=word_v hpd.mem HFT5R.out.ne
   refine apW "syntax.go:483" 63 61 3 16 HP5R.out HXB.out HC.out (entO Tryz.func61 rfl rfl) rfl rfl (by kernel_rfl) rfl rfl (by have:=HFW.out;simp only;omega) (Sx.word σ5R) hcl (fun nn kk w' hm0 hf9 a9 hd9=>?_) ?_
   ·refine bodyPost_panic (P:=Tryz.prog) (fn:=Tryz.f63) hd9 ?_
    have he:Sx.altF n [x.text] σ4=.error (nn,kk):=by rw[HQ.out];obtain⟨m2,rfl⟩:∃ m2,m=m2+1:=⟨m-1,by have:=HMM.out;omega⟩;simp only[Sx.altF,Sx.bnd,HX5R.out,if_true,hm0]
    rw[show Sx.item a n σ=.error (nn,kk) by simp only[Sx.item,Sx.bnd,HX3.out,HX4.out,he]]
    exact⟨rfl,hf9⟩
   intro y σz hk a9 wz vz hp9 hd hsz hfree
   have HK:=Lib.hid hk
   have HPZ:=Lib.hid hp9
   have HWZ:=Lib.hid (HW5R.out.trans (Sx.word_un HFT5R.out.good hk).2.2.2 (k:=17) (by omega))
   clear hk hcl hpd hp9
   obtain⟨u16,hu16⟩:∃ u,u=a9.tmps.getD 16 undef:=⟨_,rfl⟩
   obtain⟨u17,hu17⟩:∃ u,u=a9.tmps.getD 17 undef:=⟨_,rfl⟩
   obtain⟨u18,hu18⟩:∃ u,u=a9.tmps.getD 18 undef:=⟨_,rfl⟩
   obtain⟨u19,hu19⟩:∃ u,u=a9.tmps.getD 19 undef:=⟨_,rfl⟩
   obtain⟨u20,hu20⟩:∃ u,u=a9.tmps.getD 20 undef:=⟨_,rfl⟩
   obtain⟨u21,hu21⟩:∃ u,u=a9.tmps.getD 21 undef:=⟨_,rfl⟩
   obtain⟨u22,hu22⟩:∃ u,u=a9.tmps.getD 22 undef:=⟨_,rfl⟩
   obtain⟨u23,hu23⟩:∃ u,u=a9.tmps.getD 23 undef:=⟨_,rfl⟩
   have hal:AllAt a9 0 [.pointer (some ⟨g,0,none⟩),_,_,.pointer (some ⟨w1.heap.size,0,none⟩),_,_,_,_,_,_,_,_,_,_,_,_,u16,u17,u18,u19,u20,u21,u22,u23,_,_,_,_,_,_,_,_,_]:=⟨hfree 0 rfl,hfree 1 rfl,hfree 2 rfl,hfree 3 rfl,hfree 4 rfl,hfree 5 rfl,hfree 6 rfl,hfree 7 rfl,hfree 8 rfl,hfree 9 rfl,hfree 10 rfl,hfree 11 rfl,hfree 12 rfl,hfree 13 rfl,hfree 14 rfl,hfree 15 rfl,hu16.symm,hu17.symm,hu18.symm,hu19.symm,hu20.symm,hu21.symm,hu22.symm,hu23.symm,hfree 24 rfl,hfree 25 rfl,hfree 26 rfl,hfree 27 rfl,hfree 28 rfl,hfree 29 rfl,hfree 30 rfl,hfree 31 rfl,hfree 32 rfl,trivial⟩
   have hlit:=fun h=>act_lit hd h hal
   rw[hlit hsz]
   clear hlit hal hd hsz hfree hu16 hu17 hu18 hu19 hu20 hu21 hu22 hu23
   go_wp2
   go_roundw
   case rel=>
    obtain⟨m2,hm2⟩:∃ m2,m=m2+1:=⟨m-1,by have:=HMM.out;omega⟩
    have h1:=HW5R.out.le
    have h2:σz.r.length<σr.r.length:=by
     have h3:=(Sx.word_un HFT5R.out.good HK.out).2.2.2.len (by omega)
     have h4:=(Sx.passed_wk (by decide) HFTR.out.good HX5R.out).le
     omega
    refine⟨σz,ws++[y.text],vz,m2,?_,by have:=HMM.out;omega,HWZ.out.weak (by omega),by have:=HFW.out;simp;omega,HPZ.out⟩
    ·rw[HQ.out,hm2]
     simp only[Sx.altF,Sx.bnd,HX5R.out,if_true,HK.out]
   case measure=>
    rw[HPZ.out.mem.left,HPR.out.mem.left]
    have h3:=(Sx.word_un HFT5R.out.good HK.out).2.2.2.len (by omega)
    have h4:=(Sx.passed_wk (by decide) HFTR.out.good HX5R.out).le
    omega
theorem match_v (hL:Lev g C n a) (h:PMem W X g C σ) (hX:XL X W) (hF:Fit σ) (hn:σ.r.length<n):Calls Tryz.prog 27 #[.pointer (some ⟨g,0,none⟩)] W (NodeR X W g C (Sx.mtch a n σ) anyLn):=by
 have HL:=Lib.hid hL
 have HN:=Lib.hid hn
 have HFT0:=Lib.hid hF
 have HXL0:=Lib.hid hX
 have HM0:=Lib.hid h
 have HC:=Lib.hid h.ctx
 have HFR0:=Lib.hid (Fr.refl X W)
 have HW0:=Lib.hid (Sx.Wk.refl hF.good)
 have hf0:=fld0
 have hf1:=fld1
 have hf3:=fld3
 have HLO:=Lib.hid h.low
 have HZ:=Lib.hid (h.more [W.heap.size] (by simp))
 clear hL hn hF hX h
 go_enter Tryz.func27,Tryz.ntmps27
 go_wp2_with (first
   |(refine wpList_allocO 2 rfl rfl 37 rfl _ _ info_node ?_;intro w0 hb hl hz;have HB1:=Lib.hid (hb);have HM1:=Lib.hid (HZ.out.later hl);have HFR1:=Lib.hid (Fr.later (X:=X) hl);have HXL1:=Lib.hid (XL.plus (l:=[W.heap.size]) (HXL0.out.mono hl.size) (by simp;omega));have HFT1:=Lib.hid (HFT0.out);have HW1:=Lib.hid (HW0.out);have HG1:=Lib.hid (Fr.refl (plus X [W.heap.size]) w0);have HL01:=Lib.hid (hl);have HZ0:=Lib.hid (show W.heap.size<w0.heap.size by omega);have HXB:=Lib.hid (XL.plus (l:=[W.heap.size]) (HXL0.out.mono hl.size) (by simp;omega));clear hb hl hz HM0 HFR0 HXL0)
   |(go_at_call 51;(with_reducible refine(need_v ⟨#[99,97,115,101]⟩ Sx.kCASE rfl HM1.out HFT1.out.ne).mono ?_);intro e w2 hh;refine StR.cases hh (fun nn kk hx he hf=>by subst he;refine bodyPost_panic (P:=Tryz.prog) (fn:=Tryz.f27) rfl ?_;rw[show Sx.mtch a n σ=.error (nn,kk) by simp only[Sx.mtch,Sx.bnd,hx]];exact⟨rfl,HFR1.out.trans hf.less⟩) (fun x1 σ2 hx he hm hf=>?_);subst he;clear hh;have HX2:=Lib.hid (hx);have HW2:=Lib.hid (HW1.out.trans ((Sx.need_un (by decide) HFT1.out.good hx).2.2) (k:=9) (by omega));have HM2:=Lib.hid (hm);have HFR2:=Lib.hid (HFR1.out.trans hf.less);have HB2:=Lib.hid (hf.cells HB1.out (.inr (by simp)));have HG2:=Lib.hid (HG1.out.trans hf);have HXL2:=Lib.hid (HXL1.out.mono hf.size);have HFT2:=Lib.hid (HFT0.out.wk HW2.out (by omega));clear hx hm hf)
   |(go_at_call 61;(with_reducible refine(word_v HM2.out HFT2.out.ne).mono ?_);intro e w3 hh;refine StR.cases hh (fun nn kk hx he hf=>by subst he;refine bodyPost_panic (P:=Tryz.prog) (fn:=Tryz.f27) rfl ?_;rw[show Sx.mtch a n σ=.error (nn,kk) by simp only[Sx.mtch,Sx.bnd,HX2.out,hx]];exact⟨rfl,HFR2.out.trans hf.less⟩) (fun x σ3 hx he hm hf=>?_);subst he;clear hh;have HX3:=Lib.hid (hx);have HW3:=Lib.hid (HW2.out.trans ((Sx.word_un HFT2.out.good hx).2.2.2) (k:=17) (by omega));have HM3:=Lib.hid (hm);have HFR3:=Lib.hid (HFR2.out.trans hf.less);have HB3:=Lib.hid (hf.cells HB2.out (.inr (by simp)));have HG3:=Lib.hid (HG2.out.trans hf);have HXL3:=Lib.hid (HXL2.out.mono hf.size);have HFT3:=Lib.hid (HFT0.out.wk HW3.out (by omega));clear hx hm hf;unfold tcs)
   |(refine wpList_allocO 3 rfl rfl 37 rfl _ _ info_node ?_;intro w8 hb hl hz;have HB8:=Lib.hid (hb);have HL8:=Lib.hid (hl);clear hb hl hz)
   |(refine wpList_storeO rfl 37 (.tmp 3) (.tmp 9) rfl w3.heap.size _ (ncs ({ kind:=9,text:=x.text }:Sx.Node) v0 (.int .i64 0)).toArray rfl rfl HB8.out size_node rfl (ncs_all (Nest.v0 W _ rfl rfl rfl) rfl) ?_;intro w9 hb hg hz;have HP4:=Lib.hid (PLoc.made (W0:=w0) (X:=(plus X [W.heap.size])) (HM3.out.sub (Y:=plus (plus X [W.heap.size]) (blks v0)) (fun b hb=>hb.resolve_right (by simp[blks_v0])) (CtxX.more (HC.out.more _) _)) (HC.out.more _) HG3.out (Nest.v0 _ _ rfl rfl rfl) (by simp[blks_v0]) HL8.out hg hb);have HW4:=Lib.hid (HW3.out);have HFT4:=Lib.hid (HFT3.out);clear hb hg hz HB8 HL8)
   |(go_at_call 58;(with_reducible refine(lines_v (HP4.out.mem) HFT4.out.good).mono ?_);rintro e w5 ⟨rfl,hm,hf⟩;have HW5:=Lib.hid (HW4.out.trans (Sx.Wk.dl HFT4.out.good) (k:=17) (by omega));have HP5:=Lib.hid (HP4.out.call hm hf);have HFT5:=Lib.hid (HFT0.out.wk HW5.out (by omega));clear hm hf)
   |(go_at_call 51;(with_reducible refine(need_v ⟨#[105,110]⟩ Sx.kIN rfl (HP5.out.mem) HFT5.out.ne).mono ?_);intro e w6 hh;refine StR.cases hh (fun nn kk hx he hf=>by subst he;refine bodyPost_panic (P:=Tryz.prog) (fn:=Tryz.f27) rfl ?_;rw[show Sx.mtch a n σ=.error (nn,kk) by simp only[Sx.mtch,Sx.bnd,Sx.lines,HX2.out,HX3.out,hx]];exact⟨rfl,HFR1.out.trans (HP5.out.fr.trans hf.less).less⟩) (fun x5 σ6 hx he hm hf=>?_);subst he;clear hh;have HX6:=Lib.hid (hx);have HW6:=Lib.hid (HW5.out.trans ((Sx.need_un (by decide) HFT5.out.good hx).2.2) (k:=25) (by omega));have HP6:=Lib.hid (HP5.out.call hm hf);have HFT6:=Lib.hid (HFT0.out.wk HW6.out (by omega));clear hx hm hf)
   |(go_at_call 58;(with_reducible refine(lines_v (HP6.out.mem) HFT6.out.good).mono ?_);rintro e w7 ⟨rfl,hm,hf⟩;have HW7:=Lib.hid (HW6.out.trans (Sx.Wk.dl HFT6.out.good) (k:=25) (by omega));have HP7:=Lib.hid (HP6.out.call hm hf);have HFT7:=Lib.hid (HFT0.out.wk HW7.out (by omega));clear hm hf))
 go_loopw [] (fun wr=>∃ (σr:Sx.St) (ks ls:List Nat) (v:Vals) (m:Nat),Sx.itemsF a n n [] (Sx.dl σ6)=Sx.itemsF a n m ks σr∧σr.r.length<m∧Sx.Wk 9 σ σr ls∧ks.length+σr.r.length≤5000∧PLoc w0 (plus X [W.heap.size]) g C w3.heap.size (.int .i64 0) ({ kind:=9,text:=x.text,kids:=ks }:Sx.Node) v σr wr) (fun wr=>C.TS.length-atP g wr)
 case atStart=>exact⟨_,[],_,_,n,rfl,by have h1:=HW7.out.len (by omega);have h2:=HN.out;omega,HW7.out.weak (by omega),by have:=HP7.out.mem.few;simp;omega,HP7.out⟩
 case round=>
  obtain⟨σr,ks,ls,v,m,hq,hm,hw,hfw,hp⟩:=hrel
  have HQ:=Lib.hid hq
  have HMM:=Lib.hid hm
  have HWR:=Lib.hid hw
  have HFW:=Lib.hid hfw
  have HPR:=Lib.hid hp
  have HFTR:=Lib.hid (HFT0.out.wk HWR.out (by omega))
  clear hq hm hw hfw hp
  go_wp2_with (first
   |(go_at_call 62;(with_reducible refine(is_v ⟨#[101,115,97,99]⟩ Sx.kESAC rfl (HPR.out.mem) HFTR.out.ne).mono ?_);rintro e w8R ⟨rfl,hl⟩;have HP8R:=Lib.hid (HPR.out.later hl);have HW8R:=Lib.hid (HWR.out);have HFT8R:=Lib.hid (HFTR.out);clear hl;cases hq:Sx.isT Sx.kESAC σr <;> (have HES:=Lib.hid hq;clear hq)))
  ·
   have hpd:=HP8R.out.later (Later.drew _)
   have hcl:=item_v HL.out hpd.mem (hpd.xl HXB.out) HFT8R.out (by have h8:=HWR.out.len (by omega);have h9:=HN.out;omega)
   refine apK "syntax.go:467" 3 63 3 19 HP8R.out HXB.out (HC.out.more _) (entO Tryz.func63 rfl rfl) rfl rfl (by kernel_rfl) rfl rfl (by have:=HFW.out;simp only;omega) (Sx.item a n σr) hcl (fun nn kk w' hm0 hf9 a9 hd9=>?_) ?_
   ·refine bodyPost_panic (P:=Tryz.prog) (fn:=Tryz.f27) hd9 ?_
    have he:Sx.itemsF a n n [] (Sx.dl σ6)=.error (nn,kk):=by rw[HQ.out];obtain⟨m2,rfl⟩:∃ m2,m=m2+1:=⟨m-1,by have:=HMM.out;omega⟩;simp only[Sx.itemsF,Sx.bnd,HES.out,hm0,Bool.false_eq_true,if_false]
    rw[show Sx.mtch a n σ=.error (nn,kk) by simp only[Sx.mtch,Sx.bnd,Sx.lines,HX2.out,HX3.out,HX6.out,he]]
    exact⟨rfl,HFR1.out.trans hf9.less⟩
   intro k σz hk a9 wz vz hp9 hd hsz hfree
   have HK:=Lib.hid hk
   have HPZ:=Lib.hid hp9
   have HUN:=Lib.hid (Sx.item_un HL.out.un n HFTR.out.good hk)
   have HWZ:=Lib.hid (HWR.out.trans HUN.out (k:=9) (by omega))
   have HFTZ:=Lib.hid (HFT0.out.wk HWZ.out (by omega))
   clear hk hcl hpd hp9
   obtain⟨u19,hu19⟩:∃ u,u=a9.tmps.getD 19 undef:=⟨_,rfl⟩
   obtain⟨u20,hu20⟩:∃ u,u=a9.tmps.getD 20 undef:=⟨_,rfl⟩
   obtain⟨u21,hu21⟩:∃ u,u=a9.tmps.getD 21 undef:=⟨_,rfl⟩
   obtain⟨u22,hu22⟩:∃ u,u=a9.tmps.getD 22 undef:=⟨_,rfl⟩
   obtain⟨u23,hu23⟩:∃ u,u=a9.tmps.getD 23 undef:=⟨_,rfl⟩
   obtain⟨u24,hu24⟩:∃ u,u=a9.tmps.getD 24 undef:=⟨_,rfl⟩
   obtain⟨u25,hu25⟩:∃ u,u=a9.tmps.getD 25 undef:=⟨_,rfl⟩
   have hal:AllAt a9 0 [.pointer (some ⟨g,0,none⟩),_,.pointer (some ⟨W.heap.size,0,none⟩),.pointer (some ⟨w3.heap.size,0,none⟩),_,_,_,_,_,_,_,_,_,_,_,_,_,_,_,u19,u20,u21,u22,u23,u24,u25,_,_,_,_,_,_,_,_]:=⟨hfree 0 rfl,hfree 1 rfl,hfree 2 rfl,hfree 3 rfl,hfree 4 rfl,hfree 5 rfl,hfree 6 rfl,hfree 7 rfl,hfree 8 rfl,hfree 9 rfl,hfree 10 rfl,hfree 11 rfl,hfree 12 rfl,hfree 13 rfl,hfree 14 rfl,hfree 15 rfl,hfree 16 rfl,hfree 17 rfl,hfree 18 rfl,hu19.symm,hu20.symm,hu21.symm,hu22.symm,hu23.symm,hu24.symm,hu25.symm,hfree 26 rfl,hfree 27 rfl,hfree 28 rfl,hfree 29 rfl,hfree 30 rfl,hfree 31 rfl,hfree 32 rfl,hfree 33 rfl,trivial⟩
   have hlit:=fun h=>act_lit hd h hal
   rw[hlit hsz]
   clear hlit hal hd hsz hfree hu19 hu20 hu21 hu22 hu23 hu24 hu25
   go_wp2_with (first
   |(go_at_call 57;(with_reducible refine(passed_v ⟨#[59,59]⟩ [59,59] rfl (HPZ.out.mem) HFTZ.out.ne).mono ?_);intro e w9S hh;refine StR.cases hh (fun nn kk hx he hf=>by subst he;exact absurd hx (passed_ne _ _ _)) (fun b σ9S hx he hm hf=>?_);subst he;clear hh;have HX9S:=Lib.hid (hx);have HW9S:=Lib.hid (HWZ.out.trans (Sx.passed_wk (by decide) HFTZ.out.good hx) (k:=9) (by omega));have HP9S:=Lib.hid (HPZ.out.call hm hf);have HFT9S:=Lib.hid (HFT0.out.wk HW9S.out (by omega));clear hx hm hf;cases b)
   |(go_at_call 58;(with_reducible refine(lines_v (HP9S.out.mem) HFT9S.out.good).mono ?_);rintro e w10S ⟨rfl,hm,hf⟩;have HW10S:=Lib.hid (HW9S.out.trans (Sx.Wk.dl HFT9S.out.good) (k:=9) (by omega));have HP10S:=Lib.hid (HP9S.out.call hm hf);have HFT10S:=Lib.hid (HFT0.out.wk HW10S.out (by omega));clear hm hf))
   ·
    have HALT:=Lib.hid (show Sx.itemsF a n n [] (Sx.dl σ6)=.ok (ks++[k],σ9S) by rw[HQ.out];obtain⟨m2,rfl⟩:∃ m2,m=m2+1:=⟨m-1,by have:=HMM.out;omega⟩;simp only[Sx.itemsF,Sx.bnd,HES.out,HK.out,HX9S.out,Bool.false_eq_true,if_false,Sx.ret])
    go_wp2_with (first
   |(go_at_call 51;(with_reducible refine(need_v ⟨#[101,115,97,99]⟩ Sx.kESAC rfl (HP9S.out.mem) HFT9S.out.ne).mono ?_);intro e w10Y hh;refine StR.cases hh (fun nn kk hx he hf=>by subst he;refine bodyPost_panic (P:=Tryz.prog) (fn:=Tryz.f27) rfl ?_;rw[show Sx.mtch a n σ=.error (nn,kk) by simp only[Sx.mtch,Sx.bnd,Sx.lines,HX2.out,HX3.out,HX6.out,HALT.out,hx]];exact⟨rfl,HFR1.out.trans (HP9S.out.fr.trans hf.less).less⟩) (fun x9 σ10Y hx he hm hf=>?_);subst he;clear hh;have HX10Y:=Lib.hid (hx);have HW10Y:=Lib.hid (HW9S.out.trans ((Sx.need_un (by decide) HFT9S.out.good hx).2.2) (k:=17) (by omega));have HP10Y:=Lib.hid (HP9S.out.call hm hf);have HFT10Y:=Lib.hid (HFT0.out.wk HW10Y.out (by omega));clear hx hm hf)
   |(refine wpList_loadO rfl 37 (.tmp 3) rfl w3.heap.size _ _ rfl HP10Y.out.box Tryz.underlying37 rfl size_node ?_)
   |(refine wpList_storeO rfl 37 (.tmp 2) (.tmp 33) rfl W.heap.size _ _ rfl rfl (HP10Y.out.fr.cells HB1.out (.inr (by simp))) size_node rfl (ncs_all HP10Y.out.nest rfl) ?_;intro w9 hb9 hg9 hz9))
    obtain⟨q1,q2,q3,q4⟩:=PLoc.result HP10Y.out HC.out HLO.out HL01.out HZ0.out hg9
    refine bodyPost_ret (results_node rfl _ _ W.heap.size _ (0,0) rfl hb9 rfl) rfl ?_
    rw[show Sx.mtch a n σ=.ok (({ kind:=9,text:=x.text,kids:=ks++[k] }:Sx.Node),σ10Y) by simp only[Sx.mtch,Sx.bnd,Sx.lines,Sx.ret,HX2.out,HX3.out,HX6.out,HALT.out,HX10Y.out]]
    exact⟨_,_,rfl,⟨_,rfl⟩,q1,q2,q3,q4⟩
   ·go_wp2
    go_roundw
    case rel=>
     obtain⟨m2,hm2⟩:∃ m2,m=m2+1:=⟨m-1,by have:=HMM.out;omega⟩
     have h1:=HUN.out.len (by omega)
     have h2:=(Sx.passed_wk (by decide) HFTZ.out.good HX9S.out).le
     have h3:(Sx.dl σ9S).r.length≤σ9S.r.length:=(Sx.Wk.dl HFT9S.out.good).le
     refine⟨_,ks++[k],_,vz,m2,?_,by have:=HMM.out;omega,HW10S.out.weak (by omega),by have:=HFW.out;simp;omega,HP10S.out⟩
     rw[HQ.out,hm2]
     simp only[Sx.itemsF,Sx.bnd,HES.out,HK.out,HX9S.out,Bool.false_eq_true,if_false,if_true,Sx.lines]
    case measure=>
     rw[HP10S.out.mem.left,HPR.out.mem.left]
     have h1:=HUN.out.len (by omega)
     have h2:=(Sx.passed_wk (by decide) HFTZ.out.good HX9S.out).le
     have h3:(Sx.dl σ9S).r.length≤σ9S.r.length:=(Sx.Wk.dl HFT9S.out.good).le
     omega
  ·
   have HALT:=Lib.hid (show Sx.itemsF a n n [] (Sx.dl σ6)=.ok (ks,σr) by rw[HQ.out];obtain⟨m2,rfl⟩:∃ m2,m=m2+1:=⟨m-1,by have:=HMM.out;omega⟩;simp only[Sx.itemsF,HES.out,if_true])
   go_wp2_with (first
   |(go_at_call 51;(with_reducible refine(need_v ⟨#[101,115,97,99]⟩ Sx.kESAC rfl (HP8R.out.mem) HFT8R.out.ne).mono ?_);intro e w9X hh;refine StR.cases hh (fun nn kk hx he hf=>by subst he;refine bodyPost_panic (P:=Tryz.prog) (fn:=Tryz.f27) rfl ?_;rw[show Sx.mtch a n σ=.error (nn,kk) by simp only[Sx.mtch,Sx.bnd,Sx.lines,HX2.out,HX3.out,HX6.out,HALT.out,hx]];exact⟨rfl,HFR1.out.trans (HP8R.out.fr.trans hf.less).less⟩) (fun x8 σ9X hx he hm hf=>?_);subst he;clear hh;have HX9X:=Lib.hid (hx);have HW9X:=Lib.hid (HW8R.out.trans ((Sx.need_un (by decide) HFT8R.out.good hx).2.2) (k:=17) (by omega));have HP9X:=Lib.hid (HP8R.out.call hm hf);have HFT9X:=Lib.hid (HFT0.out.wk HW9X.out (by omega));clear hx hm hf)
   |(refine wpList_loadO rfl 37 (.tmp 3) rfl w3.heap.size _ _ rfl HP9X.out.box Tryz.underlying37 rfl size_node ?_)
   |(refine wpList_storeO rfl 37 (.tmp 2) (.tmp 33) rfl W.heap.size _ _ rfl rfl (HP9X.out.fr.cells HB1.out (.inr (by simp))) size_node rfl (ncs_all HP9X.out.nest rfl) ?_;intro w9 hb9 hg9 hz9))
   obtain⟨q1,q2,q3,q4⟩:=PLoc.result HP9X.out HC.out HLO.out HL01.out HZ0.out hg9
   refine bodyPost_ret (results_node rfl _ _ W.heap.size _ (0,0) rfl hb9 rfl) rfl ?_
   rw[show Sx.mtch a n σ=.ok (({ kind:=9,text:=x.text,kids:=ks }:Sx.Node),σ9X) by simp only[Sx.mtch,Sx.bnd,Sx.lines,Sx.ret,HX2.out,HX3.out,HX6.out,HALT.out,HX9X.out]]
   exact⟨_,_,rfl,⟨_,rfl⟩,q1,q2,q3,q4⟩
end
end Pz
end Go.Proofs.YtkkchkkpnlnbgaaGreatDoor
