import Derived.Test.YtipdgmjplnibeaaGreatDoorVo
set_option maxRecDepth 100000
set_option maxHeartbeats 12800000
namespace Go.Proofs.YtipdgmjplnibeaaGreatDoor
open Go.RowKit Go.Maps
set_option maxRecDepth 100000
namespace Ey
open Jo (ft fm rows own_ge)
open En (E RdE Vd Rises FrE)
theorem Fa.pv {w:World} {bx g k:Nat} {t o:Ey.B} {q:Bool} {vw va aa:Value} {st:Int} {fl:ByteArray} (h:Fa w bx g k t o q vw va aa st fl):(Instr.loadAt 105 (.pointer (some ⟨bx,0,none⟩))).run Tryz.prog w=.ok (.agg #[.int .i64 (k:Int),.string (mkS t),.string (mkS o),.bool q,vw]) w:=
 part_load (p:=.mk k t o q []) h.b0 h.b1 h.b2 h.b3 h.b4
theorem trimmed_no {g:Nat} (k:Nat) (t o:B) (q:Bool) (Aw:Option Addr) (nw cw:Nat) (v:B) (h:Pm.trims o=false) (W:World):Calls Tryz.prog 111 #[.pointer (some ⟨g,0,none⟩),.string (mkS v),.agg #[.int .i64 (k:Int),.string (mkS t),.string (mkS o),.bool q,.slice Aw nw cw]] W fun e W'=>e=.returned (.string (mkS v))∧Later W W':=by
 have HL:=Lib.hid (fun o=>Later.alloc W o)
 have HT:=Lib.hid (show ∀ W,Calls Tryz.prog 143 #[.string (mkS o)] W fun e W'=>e=.returned (.bool false)∧W'=W from fun W=>by have:=Pm.Trims_v o W;rw[h] at this;exact this)
 clear h
 go_enter Tryz.func111,Tryz.ntmps111
 go_wp2_with (go_at_call 143;(with_reducible refine(HT.out _).mono ?_);rintro e w2 ⟨rfl,rfl⟩)
 go_ret
 exact⟨rfl,HL.out _⟩
theorem param_value {W:World} {X:Nat→Prop} {g m:Nat} {e:E} {Aw:Option Addr} {cw:Nat} (k:Nat) (t o:B) (q:Bool) (l:List P) (h:Wt W X g m e) (ht:t.length≤100000) (hp:parted (.mk k t o q l)=false) (hs:(En.get Ar.nameB e t).2=true) (hol:o≠[108,101,110]) (hk:Pm.does o (En.get Ar.nameB e t).1 (En.get Ar.nameB e t).2=1) (htr:Pm.trims o=false) (hsz:(En.get Ar.nameB e t).1.length≤100000):Calls Tryz.prog 76 #[.pointer (some ⟨g,0,none⟩),.agg #[.int .i64 (k:Int),.string (mkS t),.string (mkS o),.bool q,.slice Aw l.length cw]] W (RowR W X g m (ptR (En.get Ar.nameB e t).1 (lt q) e)):=by
 obtain⟨va,aa,hc⟩:=h.cells
 obtain⟨VAL,hVAL⟩:∃ v,v=(En.get Ar.nameB e t).1:=⟨_,rfl⟩
 obtain⟨SET,hSET⟩:∃ v,v=(En.get Ar.nameB e t).2:=⟨_,rfl⟩
 obtain⟨W1,hW1⟩:∃ W1,W1=(W.alloc (.cells #[.int .i64 (k:Int),.string (mkS t),.string (mkS o),.bool q,.slice Aw l.length cw] 105)).alloc (.cells #[.string ⟨#[]⟩,.string ⟨#[]⟩] 37):=⟨_,rfl⟩
 have hl:Later W W1:=by rw[hW1];exact(Later.alloc _ _).trans (Later.alloc _ _)
 obtain⟨st,hst⟩:∃ st:Int,st=e.status:=⟨_,rfl⟩
 obtain⟨fl,hfl⟩:∃ fl,fl=mkS e.flags:=⟨_,rfl⟩
 have HPF:=Lib.hid (show ∀ w,Later W1 w→Fa w W.heap.size g k t o q (.slice Aw l.length cw) va aa st fl from fun w hw=>by
  have hb:W1.heap[W.heap.size]?=some (.cells #[.int .i64 (k:Int),.string (mkS t),.string (mkS o),.bool q,.slice Aw l.length cw] 105 (0,0)):=by rw[hW1];exact later_cells (Later.alloc _ _) (heap_alloc_new _ _)
  have hr:W1.heap[W.heap.size+1]?=some (.cells #[.string ⟨#[]⟩,.string ⟨#[]⟩] 37 (0,0)):=by
   have:=heap_alloc_new (W.alloc (.cells #[.int .i64 (k:Int),.string (mkS t),.string (mkS o),.bool q,.slice Aw l.length cw] 105)) (.cells #[.string ⟨#[]⟩,.string ⟨#[]⟩] 37)
   rw[World.size_alloc] at this
   rw[hW1]
   exact this
  have hb2:=later_cells hw hb
  obtain⟨⟨c0,c1,c2,c3,_⟩,_⟩:=hc w (hl.trans hw)
  exact⟨(cell_row hb2 0).1,(cell_row hb2 1).1,(cell_row hb2 2).1,(cell_row hb2 3).1,(cell_row hb2 4).1,later_cells hw hr,c0,c1,by rw[hst];exact c2,by rw[hfl];exact c3⟩)
 have HG:=Lib.hid (show ∀ w,Later W1 w→Calls Tryz.prog 16 #[.agg #[va,aa,.int .i64 st,.string fl],.string (mkS t)] w fun x W''=>x=.returned (.tuple #[.string (mkS VAL),.bool SET])∧Later w W'' from fun w hw=>by rw[hst,hfl,hVAL,hSET];exact get_w (hc w (hl.trans hw)).2 (h.vd.later (hl.trans hw)) h.sm t ht)
 have HPA:=Lib.hid (show ∀ w,Calls Tryz.prog 106 #[.agg #[.int .i64 (k:Int),.string (mkS t),.string (mkS o),.bool q,.slice Aw l.length cw]] w fun e W'=>e=.returned (.bool false)∧Later w W' from fun w=>by have:=parted_v (.mk k t o q l) (.slice Aw l.length cw) w;rw[hp] at this;exact this)
 have HRB:=Lib.hid (show ∀ W,Calls Tryz.prog 46 #[.int .i64 23,.string (mkS t)] W fun e W'=>e=.panicked (flt 23 t)∧W'=W from fun W=>refuse_bad 23 (by decide) t W)
 have HEN:=Lib.hid (entO (c:=_) Tryz.func16 rfl rfl)
 have HLW:=Lib.hid hl
 have HH:=Lib.hid h
 have HRR:=Lib.hid (fun r:Rw=>show rv r=.agg #[.string (mkS (ft r)),.string (mkS (fm r))] from rfl)
 have eL:=Pm.is o [108,101,110] false (decide_eq_false hol)
 have HDO:=Lib.hid (show ∀ w,Calls Tryz.prog 110 #[.string (mkS o),.string (mkS VAL),.bool SET] w fun e w'=>e=.returned (.int .i64 1)∧Later w w' from fun w=>by have:=Pm.does_v o VAL SET w;rw[hVAL,hSET] at this⊢;rw[hk] at this;exact this)
 obtain⟨cq,hcq⟩:∃ cq:Int,cq=((lt q).toNat:Int):=⟨_,rfl⟩
 have HLT:=Lib.hid (show ∀ w,Calls Tryz.prog 105 #[.agg #[.int .i64 (k:Int),.string (mkS t),.string (mkS o),.bool q,.slice Aw l.length cw]] w fun e w'=>e=.returned (.int .u8 cq)∧Later w w' from fun w=>by rw[hcq];exact letter_v (.mk k t o q l) (.slice Aw l.length cw) w)
 have HTR:=Lib.hid (fun W=>trimmed_no (g:=g) k t o q Aw l.length cw VAL htr W)
 have HPUT:=Lib.hid (show ∀ W,Calls Tryz.prog 102 #[.string (mkS VAL),.int .u8 cq] W fun e W'=>e=.returned (rv (pt VAL (lt q)))∧Later W W' from fun W=>by rw[hcq];exact put_v VAL (lt q) (by rw[hVAL];exact hsz) W)
 have HPOK:=Lib.hid (show ptR (En.get Ar.nameB e t).1 (lt q) e=.ok (pt VAL (lt q)) e by rw[hVAL];exact ptR_ok hsz)
 rw[hs] at hSET
 subst hSET
 have HW1:=Lib.hid hW1
 clear h hc hl hst hfl hVAL ht hp hs hW1 hk hol hcq htr hsz
 go_enter Tryz.func76,Tryz.ntmps76
 go_wp2_with (go_at_call 106;(with_reducible refine(HPA.out _).mono ?_);rintro e w1 ⟨rfl,hl1⟩;rw[←HW1.out] at hl1;(have HL1:=Lib.hid hl1);clear hl1;(have hf:=HPF.out w1 HL1.out);have b0:=hf.b0;have b1:=hf.b1;have b2:=hf.b2;have b3:=hf.b3;have b4:=hf.b4;have r0:=hf.r0;have r1:=hf.r1;have z:=hf.z;have c0:=hf.c0;have c1:=hf.c1;have c2:=hf.c2;have c3:=hf.c3;clear hf)
 obtain⟨C0,hC0⟩:∃ C0:Nat→Value→World→Prop,C0=fun j u w=>(j=0∧w=w1.drew)∨(j=1∧Later w1.drew w):=⟨_,rfl⟩
 have HA:=Lib.hid (show ∀ j u w,C0 j u w→j≤0→w=w1.drew from fun j u w hc hj=>by
  rw[hC0] at hc
  rcases hc with⟨_,e⟩ | ⟨e,_⟩
  ·exact e
  ·omega)
 have HLJ:=Lib.hid (show ∀ j u w,C0 j u w→Later W1 w from fun j u w hc=>by
  rw[hC0] at hc
  rcases hc with⟨_,rfl⟩ | ⟨_,h⟩
  ·exact HL1.out.trans (Later.drew _)
  ·exact(HL1.out.trans (Later.drew _)).trans h)
 have H0:=Lib.hid (show C0 0 undef w1.drew by rw[hC0];exact .inl ⟨rfl,rfl⟩)
 have H1:=Lib.hid (show ∀ u w,Later w1.drew w→C0 1 u w from fun u w h=>by rw[hC0];exact .inr ⟨rfl,h⟩)
 have HEV:=Lib.hid (show ∀ j u w,C0 j u w→(Instr.loadAt 28 (.pointer (some ⟨g,0,none⟩))).run Tryz.prog w=.ok (.agg #[va,aa,.int .i64 st,.string fl]) w from fun j u w hc=>(HPF.out w (HLJ.out j u w hc)).ev)
 have HTT:=Lib.hid (show ∀ j u w,C0 j u w→w.cell? ⟨W.heap.size,1,none⟩=some (.string (mkS t)) from fun j u w hc=>(HPF.out w (HLJ.out j u w hc)).b1)
 have HGET:=Lib.hid (HG.out w1.drew (HL1.out.trans (Later.drew _)))
 clear hC0
 refine wp_region_seq (by kernel_rfl) [6] (C0) [some (.pointer (some ⟨g,0,none⟩)),some (.pointer (some ⟨g,0,none⟩)),some (.pointer (some ⟨g,0,none⟩)),some (.agg #[va,aa,.int .i64 st,.string fl]),some (.pointer (some ⟨W.heap.size,1,none⟩)),some (.string (mkS t)),some (.tuple #[.string (mkS VAL),.bool true]),some (.tuple #[.string (mkS VAL),.bool true]),some (.string (mkS VAL)),some (.bool true),some (.string (mkS VAL)),some (.bool true)] (by decide) (by decide) (by kernel_rfl) (by kernel_rfl) (H0.out) ?_ ?_
 ·refine⟨?_,?_,?_,?_,?_,?_,?_,?_,?_,?_,?_,?_,trivial⟩
  ·
   refine OwesS.q rfl fun a w j u hC hb hs=>⟨rfl,?_⟩
   have e0:a.tmps.getD 0 undef=.pointer (some ⟨g,0,none⟩):=hs.free 0 rfl
   refine ValWp.pure (v:=.pointer (some ⟨g,0,none⟩)) (fun K' hK'=>?_) ⟨rfl,rfl⟩
   simp only[ValWp,execOp,Act.eval,e0]
   go_simp
   all_goals exact hK'
  ·
   refine OwesS.q rfl fun a w j u hC hb hs=>⟨rfl,?_⟩
   have e14:a.tmps.getD 14 undef=.pointer (some ⟨g,0,none⟩):=hs.dep 0 _ rfl rfl
   refine ValWp.pure (v:=.pointer (some ⟨g,0,none⟩)) (fun K' hK'=>?_) ⟨rfl,rfl⟩
   simp only[ValWp,execOp,Act.eval,e14]
   go_simp
   all_goals exact hK'
  ·
   refine OwesS.q rfl fun a w j u hC hb hs=>⟨rfl,?_⟩
   have e15:a.tmps.getD 15 undef=.pointer (some ⟨g,0,none⟩):=hs.dep 1 _ rfl rfl
   refine ValWp.pure (v:=.pointer (some ⟨g,0,none⟩)) (fun K' hK'=>?_) ⟨rfl,rfl⟩
   simp only[ValWp,execOp,Act.eval,e15]
   go_simp
   all_goals exact hK'
  ·
   refine OwesS.q rfl fun a w j u hC hb hs=>⟨rfl,?_⟩
   have e16:a.tmps.getD 16 undef=.pointer (some ⟨g,0,none⟩):=hs.dep 2 _ rfl rfl
   exact ValWp.loadR rfl e16 (HEV.out j u w hC) ⟨rfl,rfl⟩
  ·
   refine OwesS.q rfl fun a w j u hC hb hs=>⟨rfl,?_⟩
   have e3:a.tmps.getD 3 undef=.pointer (some ⟨W.heap.size,0,none⟩):=hs.free 3 rfl
   refine ValWp.pure (v:=.pointer (some ⟨W.heap.size,1,none⟩)) (fun K' hK'=>?_) ⟨rfl,rfl⟩
   simp only[ValWp,execOp,Act.eval,e3]
   go_simp
   all_goals exact hK'
  ·
   refine OwesS.q rfl fun a w j u hC hb hs=>⟨rfl,?_⟩
   have e18:a.tmps.getD 18 undef=.pointer (some ⟨W.heap.size,1,none⟩):=hs.dep 4 _ rfl rfl
   have q0:=HTT.out j u w hC
   refine ValWp.pure (v:=.string (mkS t)) (fun K' hK'=>?_) ⟨rfl,rfl⟩
   simp only[ValWp,execOp,Act.eval,e18]
   go_simp
   all_goals exact hK'
  ·
   refine OwesS.w rfl fun a w u hC hl hs=>⟨rfl,fun K hK=>?_⟩
   have e17:a.tmps.getD 17 undef=.agg #[va,aa,.int .i64 st,.string fl]:=hs.dep 3 _ rfl rfl
   have e19:a.tmps.getD 19 undef=.string (mkS t):=hs.dep 5 _ rfl rfl
   have hw:=HA.out 0 u w hC (Nat.le_refl _)
   subst hw
   refine wp_call2 16 17 19 _ _ _ rfl e17 e19 HEN.out (HGET.out.mono ?_)
   rintro e9 w9 ⟨rfl,hl9⟩
   exact .inl ⟨_,rfl,hK _ _ rfl (H1.out _ w9 hl9)⟩
  ·
   refine OwesS.q rfl fun a w j u hC hb hs=>⟨rfl,?_⟩
   have e20:a.tmps.getD 20 undef=.tuple #[.string (mkS VAL),.bool true]:=hs.dep 6 _ rfl rfl
   refine ValWp.pure (v:=.tuple #[.string (mkS VAL),.bool true]) (fun K' hK'=>?_) ⟨rfl,rfl⟩
   simp only[ValWp,execOp,Act.eval,e20]
   go_simp
   all_goals exact hK'
  ·
   refine OwesS.q rfl fun a w j u hC hb hs=>⟨rfl,?_⟩
   have e13:a.tmps.getD 13 undef=.tuple #[.string (mkS VAL),.bool true]:=hs.dep 7 _ rfl rfl
   refine ValWp.pure (v:=.string (mkS VAL)) (fun K' hK'=>?_) ⟨rfl,rfl⟩
   simp only[ValWp,execOp,Act.eval,e13]
   go_simp
   all_goals exact hK'
  ·
   refine OwesS.q rfl fun a w j u hC hb hs=>⟨rfl,?_⟩
   have e13:a.tmps.getD 13 undef=.tuple #[.string (mkS VAL),.bool true]:=hs.dep 7 _ rfl rfl
   refine ValWp.pure (v:=.bool true) (fun K' hK'=>?_) ⟨rfl,rfl⟩
   simp only[ValWp,execOp,Act.eval,e13]
   go_simp
   all_goals exact hK'
  ·
   refine OwesS.q rfl fun a w j u hC hb hs=>⟨rfl,?_⟩
   have e21:a.tmps.getD 21 undef=.string (mkS VAL):=hs.dep 8 _ rfl rfl
   refine ValWp.pure (v:=.string (mkS VAL)) (fun K' hK'=>?_) ⟨rfl,rfl⟩
   simp only[ValWp,execOp,Act.eval,e21]
   go_simp
   all_goals exact hK'
  ·
   refine OwesS.q rfl fun a w j u hC hb hs=>⟨rfl,?_⟩
   have e22:a.tmps.getD 22 undef=.bool true:=hs.dep 9 _ rfl rfl
   refine ValWp.pure (v:=.bool true) (fun K' hK'=>?_) ⟨rfl,rfl⟩
   simp only[ValWp,execOp,Act.eval,e22]
   go_simp
   all_goals exact hK'
 ·intro a w u hC hl hd hsz hfree hs
  obtain⟨u13,hu13⟩:∃ u,u=a.tmps.getD 13 undef:=⟨_,rfl⟩
  obtain⟨u14,hu14⟩:∃ u,u=a.tmps.getD 14 undef:=⟨_,rfl⟩
  obtain⟨u15,hu15⟩:∃ u,u=a.tmps.getD 15 undef:=⟨_,rfl⟩
  obtain⟨u16,hu16⟩:∃ u,u=a.tmps.getD 16 undef:=⟨_,rfl⟩
  obtain⟨u17,hu17⟩:∃ u,u=a.tmps.getD 17 undef:=⟨_,rfl⟩
  obtain⟨u18,hu18⟩:∃ u,u=a.tmps.getD 18 undef:=⟨_,rfl⟩
  obtain⟨u19,hu19⟩:∃ u,u=a.tmps.getD 19 undef:=⟨_,rfl⟩
  obtain⟨u20,hu20⟩:∃ u,u=a.tmps.getD 20 undef:=⟨_,rfl⟩
  obtain⟨u21,hu21⟩:∃ u,u=a.tmps.getD 21 undef:=⟨_,rfl⟩
  obtain⟨u22,hu22⟩:∃ u,u=a.tmps.getD 22 undef:=⟨_,rfl⟩
  have hal:AllAt a 0 [_,_,_,_,_,.string (mkS VAL),.bool true,_,_,_,_,_,_,u13,u14,u15,u16,u17,u18,u19,u20,u21,u22,_,_,_,_,_,_,_,_,_,_,_,_,_,_,_,_,_,_,_,_,_,_,_,_,_,_,_,_,_,_,_,_,_,_,_,_,_,_,_,_,_,_,_,_,_,_,_,_,_,_,_,_,_,_,_,_,_,_,_]:=⟨hfree 0 rfl,hfree 1 rfl,hfree 2 rfl,hfree 3 rfl,hfree 4 rfl,hs 10 _ rfl,hs 11 _ rfl,hfree 7 rfl,hfree 8 rfl,hfree 9 rfl,hfree 10 rfl,hfree 11 rfl,hfree 12 rfl,hu13.symm,hu14.symm,hu15.symm,hu16.symm,hu17.symm,hu18.symm,hu19.symm,hu20.symm,hu21.symm,hu22.symm,hfree 23 rfl,hfree 24 rfl,hfree 25 rfl,hfree 26 rfl,hfree 27 rfl,hfree 28 rfl,hfree 29 rfl,hfree 30 rfl,hfree 31 rfl,hfree 32 rfl,hfree 33 rfl,hfree 34 rfl,hfree 35 rfl,hfree 36 rfl,hfree 37 rfl,hfree 38 rfl,hfree 39 rfl,hfree 40 rfl,hfree 41 rfl,hfree 42 rfl,hfree 43 rfl,hfree 44 rfl,hfree 45 rfl,hfree 46 rfl,hfree 47 rfl,hfree 48 rfl,hfree 49 rfl,hfree 50 rfl,hfree 51 rfl,hfree 52 rfl,hfree 53 rfl,hfree 54 rfl,hfree 55 rfl,hfree 56 rfl,hfree 57 rfl,hfree 58 rfl,hfree 59 rfl,hfree 60 rfl,hfree 61 rfl,hfree 62 rfl,hfree 63 rfl,hfree 64 rfl,hfree 65 rfl,hfree 66 rfl,hfree 67 rfl,hfree 68 rfl,hfree 69 rfl,hfree 70 rfl,hfree 71 rfl,hfree 72 rfl,hfree 73 rfl,hfree 74 rfl,hfree 75 rfl,hfree 76 rfl,hfree 77 rfl,hfree 78 rfl,hfree 79 rfl,hfree 80 rfl,hfree 81 rfl,trivial⟩
  have hlit:=fun h=>act_lit hd h hal
  rw[hlit hsz]
  simp only[Array.getD_eq_getD_getElem?,List.getElem?_toArray,List.getElem?_cons_zero,List.getElem?_cons_succ,Option.getD_some]
  clear hlit hal hd hsz hfree hs hu13 hu14 hu15 hu16 hu17 hu18 hu19 hu20 hu21 hu22
  have HL3:=Lib.hid (HLJ.out _ _ _ hC)
  clear hC hl
  (have hf:=HPF.out w HL3.out)
  have b0:=hf.b0
  have b1:=hf.b1
  have b2:=hf.b2
  have b3:=hf.b3
  have b4:=hf.b4
  have r0:=hf.r0
  have r1:=hf.r1
  have z:=hf.z
  have c0:=hf.c0
  have c1:=hf.c1
  have c2:=hf.c2
  have c3:=hf.c3
  clear hf
  go_wp2_with (first
   |(go_at_call 110;(with_reducible refine(HDO.out _).mono ?_);rintro e w6 ⟨rfl,hl6⟩;(have HL6:=Lib.hid (HL3.out.trans hl6));clear hl6;(have hf:=HPF.out w6 HL6.out);have b0:=hf.b0;have b1:=hf.b1;have b2:=hf.b2;have b3:=hf.b3;have b4:=hf.b4;have r0:=hf.r0;have r1:=hf.r1;have z:=hf.z;have c0:=hf.c0;have c1:=hf.c1;have c2:=hf.c2;have c3:=hf.c3;clear hf))
  obtain⟨RR,hRR⟩:∃ RR,RR=pt VAL (lt q):=⟨_,rfl⟩
  have HRQ:=Lib.hid hRR
  rw[←hRR,HRR.out] at HPUT
  obtain⟨C,hC9⟩:∃ C:List Bool→World→Prop,C=fun bits w=>bits.length=4∧((bits[3]?=some false∧Later W1 w)∨(bits[3]?=some true∧∃ wx,Later W1 wx∧w=(wx.setCell ⟨W.heap.size+1,0,none⟩ (.string (mkS (ft RR)))).setCell ⟨W.heap.size+1,1,none⟩ (.string (mkS (fm RR))))):=⟨_,rfl⟩
  have HCB:=Lib.hid (show ∀ bits w,C bits w→bits[3]?=some false→Later W1 w from fun bits w hc hb=>by
   rw[hC9] at hc
   rcases hc.2 with⟨_,h⟩ | ⟨h,_⟩
   ·exact h
   ·rw[hb] at h;cases h)
  have HC0:=Lib.hid (show C [false,false,false,false] (w6).drew by rw[hC9];exact⟨rfl,.inl ⟨rfl,HL6.out.trans (Later.drew _)⟩⟩)
  have HST:=Lib.hid (show ∀ bits w w9 k,k<3→C bits w→bits[3]?=some false→Later w w9→C (bits.set k true) w9 from fun bits w w9 k hk hc hb hl=>by
   have h1:=HCB.out bits w hc hb
   rw[hC9] at hc⊢
   exact⟨by rw[List.length_set];exact hc.1,.inl ⟨by rw[List.getElem?_set_ne (by omega)];exact hb,h1.trans hl⟩⟩)
  have HLS:=Lib.hid (show ∀ bits w,C bits w→bits[3]?=some false→C (bits.set 3 true) ((w.setCell ⟨W.heap.size+1,0,none⟩ (.string (mkS (ft RR)))).setCell ⟨W.heap.size+1,1,none⟩ (.string (mkS (fm RR)))) from fun bits w hc hb=>by
   have h1:=HCB.out bits w hc hb
   rw[hC9] at hc⊢
   exact⟨by rw[List.length_set];exact hc.1,.inr ⟨by rw[List.getElem?_set_self (by rw[hc.1];decide)],w,h1,rfl⟩⟩)
  have HFI:=Lib.hid (show ∀ w,C [true,true,true,true] w→∃ wx,Later W1 wx∧w=(wx.setCell ⟨W.heap.size+1,0,none⟩ (.string (mkS (ft RR)))).setCell ⟨W.heap.size+1,1,none⟩ (.string (mkS (fm RR))) from fun w hc=>by
   rw[hC9] at hc
   rcases hc.2 with⟨h,_⟩ | ⟨_,h⟩
   ·cases h
   ·exact h)
  clear hC9 hRR
  refine wp_region_bits (by kernel_rfl) [3,5,6,7] (C) [some (.pointer (some ⟨g,0,none⟩)),some (.string (mkS VAL)),some (.agg #[.int .i64 (k:Int),.string (mkS t),.string (mkS o),.bool q,.slice Aw l.length cw]),some (.string (mkS VAL)),some (.agg #[.int .i64 (k:Int),.string (mkS t),.string (mkS o),.bool q,.slice Aw l.length cw]),some (.int .u8 cq),some (.agg #[.string (mkS (ft RR)),.string (mkS (fm RR))]),none] (by decide) (by decide) (by kernel_rfl) (HC0.out) ?_ ?_
  ·refine⟨?_,?_,?_,?_,?_,?_,?_,?_,trivial⟩
   ·
    refine OwesB.q rfl fun a w bits hC hd hu hs=>⟨rfl,?_⟩
    have e0:a.tmps.getD 0 undef=.pointer (some ⟨g,0,none⟩):=hs.free 0 rfl
    refine ValWp.pure (v:=.pointer (some ⟨g,0,none⟩)) (fun K' hK'=>?_) ⟨rfl,rfl⟩
    simp only[ValWp,execOp,Act.eval,e0]
    go_simp
    all_goals exact hK'
   ·
    refine OwesB.q rfl fun a w bits hC hd hu hs=>⟨rfl,?_⟩
    have e5:a.tmps.getD 5 undef=.string (mkS VAL):=hs.free 5 rfl
    refine ValWp.pure (v:=.string (mkS VAL)) (fun K' hK'=>?_) ⟨rfl,rfl⟩
    simp only[ValWp,execOp,Act.eval,e5]
    go_simp
    all_goals exact hK'
   ·
    refine OwesB.q rfl fun a w bits hC hd hu hs=>⟨rfl,?_⟩
    have e3:a.tmps.getD 3 undef=.pointer (some ⟨W.heap.size,0,none⟩):=hs.free 3 rfl
    have hb3:=hu 3 7 rfl (.inr rfl)
    have hlw:=HCB.out bits w hC hb3
    exact ValWp.loadR rfl e3 (HPF.out w hlw).pv ⟨rfl,rfl⟩
   ·
    refine fun a w bits hC hd hu hs=>⟨rfl,fun K hK=>?_⟩
    have e54:a.tmps.getD 54 undef=.pointer (some ⟨g,0,none⟩):=hs.dep 0 _ rfl rfl
    have e55:a.tmps.getD 55 undef=.string (mkS VAL):=hs.dep 1 _ rfl rfl
    have e56:a.tmps.getD 56 undef=.agg #[.int .i64 (k:Int),.string (mkS t),.string (mkS o),.bool q,.slice Aw l.length cw]:=hs.dep 2 _ rfl rfl
    have hb3:=hu 3 7 rfl (.inr rfl)
    have hlw:=HCB.out bits w hC hb3
    refine wp_callN 111 _ _ #[.pointer (some ⟨g,0,none⟩),.string (mkS VAL),.agg #[.int .i64 (k:Int),.string (mkS t),.string (mkS o),.bool q,.slice Aw l.length cw]] rfl rfl (by simp only[List.map_toArray,List.map_cons,List.map_nil,Act.eval,e54,e55,e56]) (entO Tryz.func111 rfl rfl) ((HTR.out w).mono ?_)
    rintro e9 w9 ⟨rfl,hl9⟩
    exact⟨_,rfl,hK _ _ rfl (HST.out bits w w9 0 (by decide) hC hb3 hl9)⟩
   ·
    refine OwesB.q rfl fun a w bits hC hd hu hs=>⟨rfl,?_⟩
    have e3:a.tmps.getD 3 undef=.pointer (some ⟨W.heap.size,0,none⟩):=hs.free 3 rfl
    have hb3:=hu 3 7 rfl (.inr rfl)
    have hlw:=HCB.out bits w hC hb3
    exact ValWp.loadR rfl e3 (HPF.out w hlw).pv ⟨rfl,rfl⟩
   ·
    refine fun a w bits hC hd hu hs=>⟨rfl,fun K hK=>?_⟩
    have e58:a.tmps.getD 58 undef=.agg #[.int .i64 (k:Int),.string (mkS t),.string (mkS o),.bool q,.slice Aw l.length cw]:=hs.dep 4 _ rfl rfl
    have hb3:=hu 3 7 rfl (.inr rfl)
    have hlw:=HCB.out bits w hC hb3
    refine wp_callN 105 _ _ #[.agg #[.int .i64 (k:Int),.string (mkS t),.string (mkS o),.bool q,.slice Aw l.length cw]] rfl rfl (by simp only[List.map_toArray,List.map_cons,List.map_nil,Act.eval,e58]) (entO Tryz.func105 rfl rfl) ((HLT.out w).mono ?_)
    rintro e9 w9 ⟨rfl,hl9⟩
    exact⟨_,rfl,hK _ _ rfl (HST.out bits w w9 1 (by decide) hC hb3 hl9)⟩
   ·
    refine fun a w bits hC hd hu hs=>⟨rfl,fun K hK=>?_⟩
    have e57:a.tmps.getD 57 undef=.string (mkS VAL):=hs.dep 3 _ rfl rfl
    have e59:a.tmps.getD 59 undef=.int .u8 cq:=hs.dep 5 _ rfl rfl
    have hb3:=hu 3 7 rfl (.inr rfl)
    have hlw:=HCB.out bits w hC hb3
    refine wp_callN 102 _ _ #[.string (mkS VAL),.int .u8 cq] rfl rfl (by simp only[List.map_toArray,List.map_cons,List.map_nil,Act.eval,e57,e59]) (entO Tryz.func102 rfl rfl) ((HPUT.out w).mono ?_)
    rintro e9 w9 ⟨rfl,hl9⟩
    exact⟨_,rfl,hK _ _ rfl (HST.out bits w w9 2 (by decide) hC hb3 hl9)⟩
   ·
    refine fun a w bits hC hd hu hs=>⟨rfl,fun K hK=>?_⟩
    have e4:a.tmps.getD 4 undef=.pointer (some ⟨W.heap.size+1,0,none⟩):=hs.free 4 rfl
    have e60:a.tmps.getD 60 undef=.agg #[.string (mkS (ft RR)),.string (mkS (fm RR))]:=hs.dep 6 _ rfl rfl
    have hb3:=hu 3 7 rfl (.inl rfl)
    have hlw:=HCB.out bits w hC hb3
    have hf:=HPF.out w hlw
    have q0:=hf.r0
    have q1:=hf.r1
    have z:=hf.z
    refine wp_of_val ?_
    refine ValWp.pure (v:=undef) (w':=(w.setCell ⟨W.heap.size+1,0,none⟩ (.string (mkS (ft RR)))).setCell ⟨W.heap.size+1,1,none⟩ (.string (mkS (fm RR)))) (fun K' hK'=>?_) (hK _ _ trivial (HLS.out bits w hC hb3))
    simp only[ValWp,execOp,Act.eval,e4,e60]
    go_simp
    all_goals exact hK'
  ·intro a w hC hd hsz hfree hs
   obtain⟨z0,u1,u2,z3,z4,u5,u6,u7,u8,u9,u10,u11,u12,u13,u14,u15,u16,u17,u18,u19,u20,u21,u22,u23,u24,u25,u26,u27,u28,u29,u30,u31,u32,u33,u34,u35,u36,u37,u38,u39,u40,u41,u42,u43,u44,u45,u46,u47,u48,u49,u50,u51,u52,u53,u54,u55,u56,u57,u58,u59,u60,u61,u62,u63,u64,u65,u66,u67,u68,u69,u70,u71,u72,u73,u74,u75,u76,u77,u78,u79,u80,u81,hal⟩:=lets a 82 0
   obtain rfl:=hal.on (v:=.pointer (some ⟨g,0,none⟩)) 0 (hfree 0 rfl) rfl
   obtain rfl:=hal.on (v:=.pointer (some ⟨W.heap.size,0,none⟩)) 3 (hfree 3 rfl) rfl
   obtain rfl:=hal.on (v:=.pointer (some ⟨W.heap.size+1,0,none⟩)) 4 (hfree 4 rfl) rfl
   have hlit:=fun h=>act_lit hd h hal
   rw[hlit hsz]
   clear hlit hal hd hsz hfree hs
   obtain⟨wx,hlx,hwx⟩:=HFI.out w hC
   subst hwx
   have HLX:=Lib.hid hlx
   clear hC hlx
   go_wp2
   refine end_row rfl rfl (HPF.out _ HLX.out).rb rfl rfl fun w9 h9=>?_
   rw[HRQ.out,HPOK.out]
   exact⟨rfl,HH.out.ends' (HLW.out.trans HLX.out) (by omega) (HPF.out _ HLX.out).rb h9⟩
theorem asg_sm {row:E→List P→Res} {e:E} {p:P} (hS:RowSm row):∀ r e3,asgR row e p=.ok r e3→r.length≤100000:=fun r e3 h=>by
 unfold asgR at h
 cases hr:row e p.w with
 | ok r' e'=>
  rw[hr] at h
  simp only[Res.then] at h
  split at h
  ·injection h with h1 _;subst h1;exact hS _ _ _ _ hr
  ·cases h
 | bad n t=>rw[hr] at h;cases h
 | big=>rw[hr] at h;cases h
theorem param_asg_n {W:World} {X:Nat→Prop} {g m:Nat} {e:E} {Aw:Option Addr} {cw:Nat} (k:Nat) (t o:B) (q:Bool) (l:List P) (h:Wt W X g m e) (ht:t.length≤100000) (ho:o.length≤100000) (ha:∀ x∈o,x.toNat<128) (hp:parted (.mk k t o q l)=false) (hs:(En.get Ar.nameB e t).2=false) (hn:need (.mk k t o q l)=false) (hol:o≠[108,101,110]) (hk:Pm.does o (En.get Ar.nameB e t).1 (En.get Ar.nameB e t).2=3) {row:E→List P→Res} (hR:RowOk row) (hS:RowSm row) (hv:PsAt W (Nb g) (.slice Aw l.length cw) l) (hnm:Ar.nameB t=true) (hb:asgR row e (.mk k t o q l)≠.big):Calls Tryz.prog 76 #[.pointer (some ⟨g,0,none⟩),.agg #[.int .i64 (k:Int),.string (mkS t),.string (mkS o),.bool q,.slice Aw l.length cw]] W (RowR W X g m ((asgR row e (.mk k t o q l)).then fun r e3=>ptR (flat r) (lt q) e3)):=by
 obtain⟨va,aa,hc⟩:=h.cells
 obtain⟨VAL,hVAL⟩:∃ v,v=(En.get Ar.nameB e t).1:=⟨_,rfl⟩
 obtain⟨SET,hSET⟩:∃ v,v=(En.get Ar.nameB e t).2:=⟨_,rfl⟩
 obtain⟨W1,hW1⟩:∃ W1,W1=(W.alloc (.cells #[.int .i64 (k:Int),.string (mkS t),.string (mkS o),.bool q,.slice Aw l.length cw] 105)).alloc (.cells #[.string ⟨#[]⟩,.string ⟨#[]⟩] 37):=⟨_,rfl⟩
 have hl:Later W W1:=by rw[hW1];exact(Later.alloc _ _).trans (Later.alloc _ _)
 obtain⟨st,hst⟩:∃ st:Int,st=e.status:=⟨_,rfl⟩
 obtain⟨fl,hfl⟩:∃ fl,fl=mkS e.flags:=⟨_,rfl⟩
 have HPF:=Lib.hid (show ∀ w,Later W1 w→Fa w W.heap.size g k t o q (.slice Aw l.length cw) va aa st fl from fun w hw=>by
  have hb:W1.heap[W.heap.size]?=some (.cells #[.int .i64 (k:Int),.string (mkS t),.string (mkS o),.bool q,.slice Aw l.length cw] 105 (0,0)):=by rw[hW1];exact later_cells (Later.alloc _ _) (heap_alloc_new _ _)
  have hr:W1.heap[W.heap.size+1]?=some (.cells #[.string ⟨#[]⟩,.string ⟨#[]⟩] 37 (0,0)):=by
   have:=heap_alloc_new (W.alloc (.cells #[.int .i64 (k:Int),.string (mkS t),.string (mkS o),.bool q,.slice Aw l.length cw] 105)) (.cells #[.string ⟨#[]⟩,.string ⟨#[]⟩] 37)
   rw[World.size_alloc] at this
   rw[hW1]
   exact this
  have hb2:=later_cells hw hb
  obtain⟨⟨c0,c1,c2,c3,_⟩,_⟩:=hc w (hl.trans hw)
  exact⟨(cell_row hb2 0).1,(cell_row hb2 1).1,(cell_row hb2 2).1,(cell_row hb2 3).1,(cell_row hb2 4).1,later_cells hw hr,c0,c1,by rw[hst];exact c2,by rw[hfl];exact c3⟩)
 have HG:=Lib.hid (show ∀ w,Later W1 w→Calls Tryz.prog 16 #[.agg #[va,aa,.int .i64 st,.string fl],.string (mkS t)] w fun x W''=>x=.returned (.tuple #[.string (mkS VAL),.bool SET])∧Later w W'' from fun w hw=>by rw[hst,hfl,hVAL,hSET];exact get_w (hc w (hl.trans hw)).2 (h.vd.later (hl.trans hw)) h.sm t ht)
 have HPA:=Lib.hid (show ∀ w,Calls Tryz.prog 106 #[.agg #[.int .i64 (k:Int),.string (mkS t),.string (mkS o),.bool q,.slice Aw l.length cw]] w fun e W'=>e=.returned (.bool false)∧Later w W' from fun w=>by have:=parted_v (.mk k t o q l) (.slice Aw l.length cw) w;rw[hp] at this;exact this)
 have HND:=Lib.hid (show ∀ w,Calls Tryz.prog 108 #[.agg #[.int .i64 (k:Int),.string (mkS t),.string (mkS o),.bool q,.slice Aw l.length cw]] w fun e W'=>e=.returned (.bool false)∧Later w W' from fun w=>by have:=needed_v (.mk k t o q l) (.slice Aw l.length cw) ho ha w;rw[hn] at this;exact this)
 have HRB:=Lib.hid (show ∀ W,Calls Tryz.prog 46 #[.int .i64 23,.string (mkS t)] W fun e W'=>e=.panicked (flt 23 t)∧W'=W from fun W=>refuse_bad 23 (by decide) t W)
 have HEN:=Lib.hid (entO (c:=_) Tryz.func16 rfl rfl)
 have HLW:=Lib.hid hl
 have HH:=Lib.hid h
 have HRR:=Lib.hid (fun r:Rw=>show rv r=.agg #[.string (mkS (ft r)),.string (mkS (fm r))] from rfl)
 have eL:=Pm.is o [108,101,110] false (decide_eq_false hol)
 have HDO:=Lib.hid (show ∀ w,Calls Tryz.prog 110 #[.string (mkS o),.string (mkS VAL),.bool SET] w fun e w'=>e=.returned (.int .i64 3)∧Later w w' from fun w=>by have:=Pm.does_v o VAL SET w;rw[hVAL,hSET] at this⊢;rw[hk] at this;exact this)
 obtain⟨cq,hcq⟩:∃ cq:Int,cq=((lt q).toNat:Int):=⟨_,rfl⟩
 have HCQ:=Lib.hid hcq
 have HLT:=Lib.hid (show ∀ w,Calls Tryz.prog 105 #[.agg #[.int .i64 (k:Int),.string (mkS t),.string (mkS o),.bool q,.slice Aw l.length cw]] w fun e w'=>e=.returned (.int .u8 cq)∧Later w w' from fun w=>by rw[hcq];exact letter_v (.mk k t o q l) (.slice Aw l.length cw) w)
 have HAS:=Lib.hid (show ∀ w,Later W1 w→Calls Tryz.prog 113 #[.pointer (some ⟨g,0,none⟩),.agg #[.int .i64 (k:Int),.string (mkS t),.string (mkS o),.bool q,.slice Aw l.length cw]] w (TxtR w (Wi X W W1) g m (asgR row e (.mk k t o q l)) flat) from fun w hw=>assigned_v hR hS w (Wi X W W1) g m e (.slice Aw l.length cw) (.mk k t o q l) ((h.wide hl).later hw) (ps_grown hv (later_some (hl.trans hw))) hnm ht hb)
 have HGL:=Lib.hid h.lt
 have HBG:=Lib.hid hb
 have HASM:=Lib.hid (asg_sm (p:=.mk k t o q l) (e:=e) hS)
 have hw1:W.heap.size+1<W1.heap.size:=by rw[hW1,World.size_alloc,World.size_alloc];omega
 have HW1S:=Lib.hid hw1
 obtain⟨res,hres⟩:∃ res,res=asgR row e (.mk k t o q l):=⟨_,rfl⟩
 rw[←hres] at HAS HBG HASM⊢
 have HPB:=Lib.hid (show W1.heap[W.heap.size]?=some (.cells #[.int .i64 (k:Int),.string (mkS t),.string (mkS o),.bool q,.slice Aw l.length cw] 105 (0,0)) by rw[hW1];exact later_cells (Later.alloc _ _) (heap_alloc_new _ _))
 rw[hs] at hSET
 subst hSET
 have HW1:=Lib.hid hW1
 clear h hc hl hst hfl hVAL ht hp hs hW1 hn ho ha hk hol hres hv hb hnm hcq hw1
 cases res with
 | big=>exact absurd rfl HBG.out
 | bad en et=>
  go_enter Tryz.func76,Tryz.ntmps76
  go_wp2_with (go_at_call 106;(with_reducible refine(HPA.out _).mono ?_);rintro e w1 ⟨rfl,hl1⟩;rw[←HW1.out] at hl1;(have HL1:=Lib.hid hl1);clear hl1;(have hf:=HPF.out w1 HL1.out);have b0:=hf.b0;have b1:=hf.b1;have b2:=hf.b2;have b3:=hf.b3;have b4:=hf.b4;have r0:=hf.r0;have r1:=hf.r1;have z:=hf.z;have c0:=hf.c0;have c1:=hf.c1;have c2:=hf.c2;have c3:=hf.c3;clear hf)
  obtain⟨C0,hC0⟩:∃ C0:Nat→Value→World→Prop,C0=fun j u w=>(j=0∧w=w1.drew)∨(j=1∧Later w1.drew w):=⟨_,rfl⟩
  have HA:=Lib.hid (show ∀ j u w,C0 j u w→j≤0→w=w1.drew from fun j u w hc hj=>by
   rw[hC0] at hc
   rcases hc with⟨_,e⟩ | ⟨e,_⟩
   ·exact e
   ·omega)
  have HLJ:=Lib.hid (show ∀ j u w,C0 j u w→Later W1 w from fun j u w hc=>by
   rw[hC0] at hc
   rcases hc with⟨_,rfl⟩ | ⟨_,h⟩
   ·exact HL1.out.trans (Later.drew _)
   ·exact(HL1.out.trans (Later.drew _)).trans h)
  have H0:=Lib.hid (show C0 0 undef w1.drew by rw[hC0];exact .inl ⟨rfl,rfl⟩)
  have H1:=Lib.hid (show ∀ u w,Later w1.drew w→C0 1 u w from fun u w h=>by rw[hC0];exact .inr ⟨rfl,h⟩)
  have HEV:=Lib.hid (show ∀ j u w,C0 j u w→(Instr.loadAt 28 (.pointer (some ⟨g,0,none⟩))).run Tryz.prog w=.ok (.agg #[va,aa,.int .i64 st,.string fl]) w from fun j u w hc=>(HPF.out w (HLJ.out j u w hc)).ev)
  have HTT:=Lib.hid (show ∀ j u w,C0 j u w→w.cell? ⟨W.heap.size,1,none⟩=some (.string (mkS t)) from fun j u w hc=>(HPF.out w (HLJ.out j u w hc)).b1)
  have HGET:=Lib.hid (HG.out w1.drew (HL1.out.trans (Later.drew _)))
  clear hC0
  refine wp_region_seq (by kernel_rfl) [6] (C0) [some (.pointer (some ⟨g,0,none⟩)),some (.pointer (some ⟨g,0,none⟩)),some (.pointer (some ⟨g,0,none⟩)),some (.agg #[va,aa,.int .i64 st,.string fl]),some (.pointer (some ⟨W.heap.size,1,none⟩)),some (.string (mkS t)),some (.tuple #[.string (mkS VAL),.bool false]),some (.tuple #[.string (mkS VAL),.bool false]),some (.string (mkS VAL)),some (.bool false),some (.string (mkS VAL)),some (.bool false)] (by decide) (by decide) (by kernel_rfl) (by kernel_rfl) (H0.out) ?_ ?_
  ·refine⟨?_,?_,?_,?_,?_,?_,?_,?_,?_,?_,?_,?_,trivial⟩
   ·
    refine OwesS.q rfl fun a w j u hC hb hs=>⟨rfl,?_⟩
    have e0:a.tmps.getD 0 undef=.pointer (some ⟨g,0,none⟩):=hs.free 0 rfl
    refine ValWp.pure (v:=.pointer (some ⟨g,0,none⟩)) (fun K' hK'=>?_) ⟨rfl,rfl⟩
    simp only[ValWp,execOp,Act.eval,e0]
    go_simp
    all_goals exact hK'
   ·
    refine OwesS.q rfl fun a w j u hC hb hs=>⟨rfl,?_⟩
    have e14:a.tmps.getD 14 undef=.pointer (some ⟨g,0,none⟩):=hs.dep 0 _ rfl rfl
    refine ValWp.pure (v:=.pointer (some ⟨g,0,none⟩)) (fun K' hK'=>?_) ⟨rfl,rfl⟩
    simp only[ValWp,execOp,Act.eval,e14]
    go_simp
    all_goals exact hK'
   ·
    refine OwesS.q rfl fun a w j u hC hb hs=>⟨rfl,?_⟩
    have e15:a.tmps.getD 15 undef=.pointer (some ⟨g,0,none⟩):=hs.dep 1 _ rfl rfl
    refine ValWp.pure (v:=.pointer (some ⟨g,0,none⟩)) (fun K' hK'=>?_) ⟨rfl,rfl⟩
    simp only[ValWp,execOp,Act.eval,e15]
    go_simp
    all_goals exact hK'
   ·
    refine OwesS.q rfl fun a w j u hC hb hs=>⟨rfl,?_⟩
    have e16:a.tmps.getD 16 undef=.pointer (some ⟨g,0,none⟩):=hs.dep 2 _ rfl rfl
    exact ValWp.loadR rfl e16 (HEV.out j u w hC) ⟨rfl,rfl⟩
   ·
    refine OwesS.q rfl fun a w j u hC hb hs=>⟨rfl,?_⟩
    have e3:a.tmps.getD 3 undef=.pointer (some ⟨W.heap.size,0,none⟩):=hs.free 3 rfl
    refine ValWp.pure (v:=.pointer (some ⟨W.heap.size,1,none⟩)) (fun K' hK'=>?_) ⟨rfl,rfl⟩
    simp only[ValWp,execOp,Act.eval,e3]
    go_simp
    all_goals exact hK'
   ·
    refine OwesS.q rfl fun a w j u hC hb hs=>⟨rfl,?_⟩
    have e18:a.tmps.getD 18 undef=.pointer (some ⟨W.heap.size,1,none⟩):=hs.dep 4 _ rfl rfl
    have q0:=HTT.out j u w hC
    refine ValWp.pure (v:=.string (mkS t)) (fun K' hK'=>?_) ⟨rfl,rfl⟩
    simp only[ValWp,execOp,Act.eval,e18]
    go_simp
    all_goals exact hK'
   ·
    refine OwesS.w rfl fun a w u hC hl hs=>⟨rfl,fun K hK=>?_⟩
    have e17:a.tmps.getD 17 undef=.agg #[va,aa,.int .i64 st,.string fl]:=hs.dep 3 _ rfl rfl
    have e19:a.tmps.getD 19 undef=.string (mkS t):=hs.dep 5 _ rfl rfl
    have hw:=HA.out 0 u w hC (Nat.le_refl _)
    subst hw
    refine wp_call2 16 17 19 _ _ _ rfl e17 e19 HEN.out (HGET.out.mono ?_)
    rintro e9 w9 ⟨rfl,hl9⟩
    exact .inl ⟨_,rfl,hK _ _ rfl (H1.out _ w9 hl9)⟩
   ·
    refine OwesS.q rfl fun a w j u hC hb hs=>⟨rfl,?_⟩
    have e20:a.tmps.getD 20 undef=.tuple #[.string (mkS VAL),.bool false]:=hs.dep 6 _ rfl rfl
    refine ValWp.pure (v:=.tuple #[.string (mkS VAL),.bool false]) (fun K' hK'=>?_) ⟨rfl,rfl⟩
    simp only[ValWp,execOp,Act.eval,e20]
    go_simp
    all_goals exact hK'
   ·
    refine OwesS.q rfl fun a w j u hC hb hs=>⟨rfl,?_⟩
    have e13:a.tmps.getD 13 undef=.tuple #[.string (mkS VAL),.bool false]:=hs.dep 7 _ rfl rfl
    refine ValWp.pure (v:=.string (mkS VAL)) (fun K' hK'=>?_) ⟨rfl,rfl⟩
    simp only[ValWp,execOp,Act.eval,e13]
    go_simp
    all_goals exact hK'
   ·
    refine OwesS.q rfl fun a w j u hC hb hs=>⟨rfl,?_⟩
    have e13:a.tmps.getD 13 undef=.tuple #[.string (mkS VAL),.bool false]:=hs.dep 7 _ rfl rfl
    refine ValWp.pure (v:=.bool false) (fun K' hK'=>?_) ⟨rfl,rfl⟩
    simp only[ValWp,execOp,Act.eval,e13]
    go_simp
    all_goals exact hK'
   ·
    refine OwesS.q rfl fun a w j u hC hb hs=>⟨rfl,?_⟩
    have e21:a.tmps.getD 21 undef=.string (mkS VAL):=hs.dep 8 _ rfl rfl
    refine ValWp.pure (v:=.string (mkS VAL)) (fun K' hK'=>?_) ⟨rfl,rfl⟩
    simp only[ValWp,execOp,Act.eval,e21]
    go_simp
    all_goals exact hK'
   ·
    refine OwesS.q rfl fun a w j u hC hb hs=>⟨rfl,?_⟩
    have e22:a.tmps.getD 22 undef=.bool false:=hs.dep 9 _ rfl rfl
    refine ValWp.pure (v:=.bool false) (fun K' hK'=>?_) ⟨rfl,rfl⟩
    simp only[ValWp,execOp,Act.eval,e22]
    go_simp
    all_goals exact hK'
  ·intro a w u hC hl hd hsz hfree hs
   obtain⟨u13,hu13⟩:∃ u,u=a.tmps.getD 13 undef:=⟨_,rfl⟩
   obtain⟨u14,hu14⟩:∃ u,u=a.tmps.getD 14 undef:=⟨_,rfl⟩
   obtain⟨u15,hu15⟩:∃ u,u=a.tmps.getD 15 undef:=⟨_,rfl⟩
   obtain⟨u16,hu16⟩:∃ u,u=a.tmps.getD 16 undef:=⟨_,rfl⟩
   obtain⟨u17,hu17⟩:∃ u,u=a.tmps.getD 17 undef:=⟨_,rfl⟩
   obtain⟨u18,hu18⟩:∃ u,u=a.tmps.getD 18 undef:=⟨_,rfl⟩
   obtain⟨u19,hu19⟩:∃ u,u=a.tmps.getD 19 undef:=⟨_,rfl⟩
   obtain⟨u20,hu20⟩:∃ u,u=a.tmps.getD 20 undef:=⟨_,rfl⟩
   obtain⟨u21,hu21⟩:∃ u,u=a.tmps.getD 21 undef:=⟨_,rfl⟩
   obtain⟨u22,hu22⟩:∃ u,u=a.tmps.getD 22 undef:=⟨_,rfl⟩
   have hal:AllAt a 0 [_,_,_,_,_,.string (mkS VAL),.bool false,_,_,_,_,_,_,u13,u14,u15,u16,u17,u18,u19,u20,u21,u22,_,_,_,_,_,_,_,_,_,_,_,_,_,_,_,_,_,_,_,_,_,_,_,_,_,_,_,_,_,_,_,_,_,_,_,_,_,_,_,_,_,_,_,_,_,_,_,_,_,_,_,_,_,_,_,_,_,_,_]:=⟨hfree 0 rfl,hfree 1 rfl,hfree 2 rfl,hfree 3 rfl,hfree 4 rfl,hs 10 _ rfl,hs 11 _ rfl,hfree 7 rfl,hfree 8 rfl,hfree 9 rfl,hfree 10 rfl,hfree 11 rfl,hfree 12 rfl,hu13.symm,hu14.symm,hu15.symm,hu16.symm,hu17.symm,hu18.symm,hu19.symm,hu20.symm,hu21.symm,hu22.symm,hfree 23 rfl,hfree 24 rfl,hfree 25 rfl,hfree 26 rfl,hfree 27 rfl,hfree 28 rfl,hfree 29 rfl,hfree 30 rfl,hfree 31 rfl,hfree 32 rfl,hfree 33 rfl,hfree 34 rfl,hfree 35 rfl,hfree 36 rfl,hfree 37 rfl,hfree 38 rfl,hfree 39 rfl,hfree 40 rfl,hfree 41 rfl,hfree 42 rfl,hfree 43 rfl,hfree 44 rfl,hfree 45 rfl,hfree 46 rfl,hfree 47 rfl,hfree 48 rfl,hfree 49 rfl,hfree 50 rfl,hfree 51 rfl,hfree 52 rfl,hfree 53 rfl,hfree 54 rfl,hfree 55 rfl,hfree 56 rfl,hfree 57 rfl,hfree 58 rfl,hfree 59 rfl,hfree 60 rfl,hfree 61 rfl,hfree 62 rfl,hfree 63 rfl,hfree 64 rfl,hfree 65 rfl,hfree 66 rfl,hfree 67 rfl,hfree 68 rfl,hfree 69 rfl,hfree 70 rfl,hfree 71 rfl,hfree 72 rfl,hfree 73 rfl,hfree 74 rfl,hfree 75 rfl,hfree 76 rfl,hfree 77 rfl,hfree 78 rfl,hfree 79 rfl,hfree 80 rfl,hfree 81 rfl,trivial⟩
   have hlit:=fun h=>act_lit hd h hal
   rw[hlit hsz]
   simp only[Array.getD_eq_getD_getElem?,List.getElem?_toArray,List.getElem?_cons_zero,List.getElem?_cons_succ,Option.getD_some]
   clear hlit hal hd hsz hfree hs hu13 hu14 hu15 hu16 hu17 hu18 hu19 hu20 hu21 hu22
   have HL3:=Lib.hid (HLJ.out _ _ _ hC)
   clear hC hl
   (have hf:=HPF.out w HL3.out)
   have b0:=hf.b0
   have b1:=hf.b1
   have b2:=hf.b2
   have b3:=hf.b3
   have b4:=hf.b4
   have r0:=hf.r0
   have r1:=hf.r1
   have z:=hf.z
   have c0:=hf.c0
   have c1:=hf.c1
   have c2:=hf.c2
   have c3:=hf.c3
   clear hf
   go_wp2_with (first
    |(go_at_call 108;(with_reducible refine(HND.out _).mono ?_);rintro e w4 ⟨rfl,hl4⟩;(have HL4:=Lib.hid (HL3.out.trans hl4));clear hl4;(have hf:=HPF.out w4 HL4.out);have b0:=hf.b0;have b1:=hf.b1;have b2:=hf.b2;have b3:=hf.b3;have b4:=hf.b4;have r0:=hf.r0;have r1:=hf.r1;have z:=hf.z;have c0:=hf.c0;have c1:=hf.c1;have c2:=hf.c2;have c3:=hf.c3;clear hf)
    |(go_at_call 110;(with_reducible refine(HDO.out _).mono ?_);rintro e w6 ⟨rfl,hl6⟩;(have HL6:=Lib.hid (HL4.out.trans hl6));clear hl6;(have hf:=HPF.out w6 HL6.out);have b0:=hf.b0;have b1:=hf.b1;have b2:=hf.b2;have b3:=hf.b3;have b4:=hf.b4;have r0:=hf.r0;have r1:=hf.r1;have z:=hf.z;have c0:=hf.c0;have c1:=hf.c1;have c2:=hf.c2;have c3:=hf.c3;clear hf))
   have HPG:=Lib.hid (show ∀ w,W1.grownBy w (some g)→(Instr.loadAt 105 (.pointer (some ⟨W.heap.size,0,none⟩))).run Tryz.prog w=.ok (.agg #[.int .i64 (k:Int),.string (mkS t),.string (mkS o),.bool q,.slice Aw l.length cw]) w∧w.heap[W.heap.size+1]?=some (.cells #[.string ⟨#[]⟩,.string ⟨#[]⟩] 37 (0,0)) from fun w hg=>by
    have hgl:=HGL.out
    refine⟨part_box (p:=.mk k t o q l) (grown_cells hg HPB.out (by omega)),grown_cells hg (HPF.out W1 (Later.refl _)).rb (by omega)⟩)
   have HPUT:=Lib.hid (show ∀ W,Calls Tryz.prog 102 #[.string (mkS []),.int .u8 cq] W fun e W'=>e=.returned (rv (pt ([]) (lt q)))∧Later W W' from fun W=>by rw[HCQ.out];exact put_v ([]) (lt q) (by decide) W)
   obtain⟨RR,hRR⟩:∃ RR,RR=pt [] (lt q):=⟨_,rfl⟩
   have HRQ:=Lib.hid hRR
   rw[←hRR,HRR.out] at HPUT
   obtain⟨C,hC9⟩:∃ C:List Bool→World→Prop,C=fun bits w=>bits.length=4∧((bits[3]?=some false∧W1.grownBy w (some g)∧(bits[0]?=some false→Later W1 w)∧(bits[0]?=some true→False))∨(bits[3]?=some true∧∃ wx,False∧W1.grownBy wx (some g)∧w=(wx.setCell ⟨W.heap.size+1,0,none⟩ (.string (mkS (ft RR)))).setCell ⟨W.heap.size+1,1,none⟩ (.string (mkS (fm RR))))):=⟨_,rfl⟩
   have HGR:=Lib.hid (show ∀ bits w,C bits w→bits[3]?=some false→W1.grownBy w (some g) from fun bits w hc hb=>by
    rw[hC9] at hc
    rcases hc.2 with⟨_,h,_⟩ | ⟨h,_⟩
    ·exact h
    ·rw[hb] at h;cases h)
   have HCB:=Lib.hid (show ∀ bits w,C bits w→bits[3]?=some false→bits[0]?=some false→Later W1 w from fun bits w hc hb h0=>by
    rw[hC9] at hc
    rcases hc.2 with⟨_,_,h,_⟩ | ⟨h,_⟩
    ·exact h h0
    ·rw[hb] at h;cases h)
   have HC0:=Lib.hid (show C [false,false,false,false] w6.drew by rw[hC9];exact⟨rfl,.inl ⟨rfl,later_some (HL6.out.trans (Later.drew _)),fun _=>HL6.out.trans (Later.drew _),fun h=>by cases h⟩⟩)
   have HST:=Lib.hid (show ∀ bits w w9 k,k<3→0<k→C bits w→bits[3]?=some false→Later w w9→C (bits.set k true) w9 from fun bits w w9 k hk hk0 hc hb hl=>by
    rw[hC9] at hc⊢
    refine⟨by rw[List.length_set];exact hc.1,.inl ?_⟩
    rcases hc.2 with⟨_,h1,h2,h3⟩ | ⟨h,_⟩
    ·refine⟨by rw[List.getElem?_set_ne (by omega)];exact hb,grown_trans h1 (later_some hl),fun h=>(h2 ?_).trans hl,fun h=>False.elim (h3 (by rw[List.getElem?_set_ne (by omega)] at h;exact h))⟩
     rw[List.getElem?_set_ne (by omega)] at h;exact h
    ·rw[hb] at h;cases h)
   have HLS:=Lib.hid (show ∀ bits w,C bits w→bits[3]?=some false→bits[0]?=some true→C (bits.set 3 true) ((w.setCell ⟨W.heap.size+1,0,none⟩ (.string (mkS (ft RR)))).setCell ⟨W.heap.size+1,1,none⟩ (.string (mkS (fm RR)))) from fun bits w hc hb h0=>by
    have h1:=HGR.out bits w hc hb
    rw[hC9] at hc⊢
    refine⟨by rw[List.length_set];exact hc.1,.inr ⟨by rw[List.getElem?_set_self (by rw[hc.1];decide)],w,?_,h1,rfl⟩⟩
    rcases hc.2 with⟨_,_,_,h3⟩ | ⟨h,_⟩
    ·exact h3 h0
    ·rw[hb] at h;cases h)
   have HNO:=Lib.hid (show ∀ w,C [true,true,true,true] w→False from fun w hc=>by
    rw[hC9] at hc
    rcases hc.2 with⟨h,_⟩ | ⟨_,_,h,_⟩
    ·cases h
    ·exact h)
   clear hC9 hRR
   refine wp_region_bits (by kernel_rfl) [2,4,5,6] (C) [some (.pointer (some ⟨g,0,none⟩)),some (.agg #[.int .i64 (k:Int),.string (mkS t),.string (mkS o),.bool q,.slice Aw l.length cw]),some (.string (mkS [])),some (.agg #[.int .i64 (k:Int),.string (mkS t),.string (mkS o),.bool q,.slice Aw l.length cw]),some (.int .u8 cq),some (.agg #[.string (mkS (ft RR)),.string (mkS (fm RR))]),none] (by decide) (by decide) (by kernel_rfl) (HC0.out) ?_ ?_
   ·refine⟨?_,?_,?_,?_,?_,?_,?_,trivial⟩
    ·
     refine OwesB.q rfl fun a w bits hC hd hu hs=>⟨rfl,?_⟩
     have e0:a.tmps.getD 0 undef=.pointer (some ⟨g,0,none⟩):=hs.free 0 rfl
     refine ValWp.pure (v:=.pointer (some ⟨g,0,none⟩)) (fun K' hK'=>?_) ⟨rfl,rfl⟩
     simp only[ValWp,execOp,Act.eval,e0]
     go_simp
     all_goals exact hK'
    ·
     refine OwesB.q rfl fun a w bits hC hd hu hs=>⟨rfl,?_⟩
     have e3:a.tmps.getD 3 undef=.pointer (some ⟨W.heap.size,0,none⟩):=hs.free 3 rfl
     have hb3:=hu 3 6 rfl (.inr rfl)
     exact ValWp.loadR rfl e3 (HPG.out w (HGR.out bits w hC hb3)).1 ⟨rfl,rfl⟩
    ·
     refine fun a w bits hC hd hu hs=>⟨rfl,fun K hK=>?_⟩
     have e68:a.tmps.getD 68 undef=.pointer (some ⟨g,0,none⟩):=hs.dep 0 _ rfl rfl
     have e69:a.tmps.getD 69 undef=.agg #[.int .i64 (k:Int),.string (mkS t),.string (mkS o),.bool q,.slice Aw l.length cw]:=hs.dep 1 _ rfl rfl
     have hb3:=hu 3 6 rfl (.inr rfl)
     have hb0:=hu 0 2 rfl (.inl rfl)
     have hlw:=HCB.out bits w hC hb3 hb0
     refine wp_call2 113 68 69 _ _ _ rfl e68 e69 (entO Tryz.func113 rfl rfl) ((HAS.out w hlw).mono ?_)
     rintro e9 w9 ⟨rfl,hg9⟩
     exact .inr ⟨_,rfl,(⟨hs.defers,rfl,grown_trans (later_some (HLW.out.trans hlw)) hg9⟩:bodyPost Tryz.prog _ (RowR W X g m (.bad en et)) (Exit.panic (flt en et)) a w9)⟩
    ·
     refine OwesB.q rfl fun a w bits hC hd hu hs=>⟨rfl,?_⟩
     have e3:a.tmps.getD 3 undef=.pointer (some ⟨W.heap.size,0,none⟩):=hs.free 3 rfl
     have hb3:=hu 3 6 rfl (.inr rfl)
     exact ValWp.loadR rfl e3 (HPG.out w (HGR.out bits w hC hb3)).1 ⟨rfl,rfl⟩
    ·
     refine fun a w bits hC hd hu hs=>⟨rfl,fun K hK=>?_⟩
     have e71:a.tmps.getD 71 undef=.agg #[.int .i64 (k:Int),.string (mkS t),.string (mkS o),.bool q,.slice Aw l.length cw]:=hs.dep 3 _ rfl rfl
     have hb3:=hu 3 6 rfl (.inr rfl)
     refine wp_callN 105 _ _ #[.agg #[.int .i64 (k:Int),.string (mkS t),.string (mkS o),.bool q,.slice Aw l.length cw]] rfl rfl (by simp only[List.map_toArray,List.map_cons,List.map_nil,Act.eval,e71]) (entO Tryz.func105 rfl rfl) ((HLT.out w).mono ?_)
     rintro e9 w9 ⟨rfl,hl9⟩
     exact⟨_,rfl,hK _ _ rfl (HST.out bits w w9 1 (by decide) (by decide) hC hb3 hl9)⟩
    ·
     refine fun a w bits hC hd hu hs=>⟨rfl,fun K hK=>?_⟩
     have e70:a.tmps.getD 70 undef=.string (mkS []):=hs.dep 2 _ rfl rfl
     have e72:a.tmps.getD 72 undef=.int .u8 cq:=hs.dep 4 _ rfl rfl
     have hb3:=hu 3 6 rfl (.inr rfl)
     refine wp_callN 102 _ _ #[.string (mkS []),.int .u8 cq] rfl rfl (by simp only[List.map_toArray,List.map_cons,List.map_nil,Act.eval,e70,e72]) (entO Tryz.func102 rfl rfl) ((HPUT.out w).mono ?_)
     rintro e9 w9 ⟨rfl,hl9⟩
     exact⟨_,rfl,hK _ _ rfl (HST.out bits w w9 2 (by decide) (by decide) hC hb3 hl9)⟩
    ·
     refine fun a w bits hC hd hu hs=>⟨rfl,fun K hK=>?_⟩
     have e4:a.tmps.getD 4 undef=.pointer (some ⟨W.heap.size+1,0,none⟩):=hs.free 4 rfl
     have e73:a.tmps.getD 73 undef=.agg #[.string (mkS (ft RR)),.string (mkS (fm RR))]:=hs.dep 5 _ rfl rfl
     have hb3:=hu 3 6 rfl (.inl rfl)
     have hr:=(HPG.out w (HGR.out bits w hC hb3)).2
     have q0:=(cell_row hr 0).1
     have q1:=(cell_row hr 1).1
     have z:=fun i=>(cell_row hr i).2
     refine wp_of_val ?_
     refine ValWp.pure (v:=undef) (w':=(w.setCell ⟨W.heap.size+1,0,none⟩ (.string (mkS (ft RR)))).setCell ⟨W.heap.size+1,1,none⟩ (.string (mkS (fm RR)))) (fun K' hK'=>?_) (hK _ _ trivial (HLS.out bits w hC hb3 (hd 0 2 rfl rfl)))
     simp only[ValWp,execOp,Act.eval,e4,e73]
     go_simp
     all_goals exact hK'
   ·intro a w hC hd hsz hfree hs
    exact(HNO.out _ hC).elim
 | ok r2 e3=>
  go_enter Tryz.func76,Tryz.ntmps76
  go_wp2_with (go_at_call 106;(with_reducible refine(HPA.out _).mono ?_);rintro e w1 ⟨rfl,hl1⟩;rw[←HW1.out] at hl1;(have HL1:=Lib.hid hl1);clear hl1;(have hf:=HPF.out w1 HL1.out);have b0:=hf.b0;have b1:=hf.b1;have b2:=hf.b2;have b3:=hf.b3;have b4:=hf.b4;have r0:=hf.r0;have r1:=hf.r1;have z:=hf.z;have c0:=hf.c0;have c1:=hf.c1;have c2:=hf.c2;have c3:=hf.c3;clear hf)
  obtain⟨C0,hC0⟩:∃ C0:Nat→Value→World→Prop,C0=fun j u w=>(j=0∧w=w1.drew)∨(j=1∧Later w1.drew w):=⟨_,rfl⟩
  have HA:=Lib.hid (show ∀ j u w,C0 j u w→j≤0→w=w1.drew from fun j u w hc hj=>by
   rw[hC0] at hc
   rcases hc with⟨_,e⟩ | ⟨e,_⟩
   ·exact e
   ·omega)
  have HLJ:=Lib.hid (show ∀ j u w,C0 j u w→Later W1 w from fun j u w hc=>by
   rw[hC0] at hc
   rcases hc with⟨_,rfl⟩ | ⟨_,h⟩
   ·exact HL1.out.trans (Later.drew _)
   ·exact(HL1.out.trans (Later.drew _)).trans h)
  have H0:=Lib.hid (show C0 0 undef w1.drew by rw[hC0];exact .inl ⟨rfl,rfl⟩)
  have H1:=Lib.hid (show ∀ u w,Later w1.drew w→C0 1 u w from fun u w h=>by rw[hC0];exact .inr ⟨rfl,h⟩)
  have HEV:=Lib.hid (show ∀ j u w,C0 j u w→(Instr.loadAt 28 (.pointer (some ⟨g,0,none⟩))).run Tryz.prog w=.ok (.agg #[va,aa,.int .i64 st,.string fl]) w from fun j u w hc=>(HPF.out w (HLJ.out j u w hc)).ev)
  have HTT:=Lib.hid (show ∀ j u w,C0 j u w→w.cell? ⟨W.heap.size,1,none⟩=some (.string (mkS t)) from fun j u w hc=>(HPF.out w (HLJ.out j u w hc)).b1)
  have HGET:=Lib.hid (HG.out w1.drew (HL1.out.trans (Later.drew _)))
  clear hC0
  refine wp_region_seq (by kernel_rfl) [6] (C0) [some (.pointer (some ⟨g,0,none⟩)),some (.pointer (some ⟨g,0,none⟩)),some (.pointer (some ⟨g,0,none⟩)),some (.agg #[va,aa,.int .i64 st,.string fl]),some (.pointer (some ⟨W.heap.size,1,none⟩)),some (.string (mkS t)),some (.tuple #[.string (mkS VAL),.bool false]),some (.tuple #[.string (mkS VAL),.bool false]),some (.string (mkS VAL)),some (.bool false),some (.string (mkS VAL)),some (.bool false)] (by decide) (by decide) (by kernel_rfl) (by kernel_rfl) (H0.out) ?_ ?_
  ·refine⟨?_,?_,?_,?_,?_,?_,?_,?_,?_,?_,?_,?_,trivial⟩
   ·
    refine OwesS.q rfl fun a w j u hC hb hs=>⟨rfl,?_⟩
    have e0:a.tmps.getD 0 undef=.pointer (some ⟨g,0,none⟩):=hs.free 0 rfl
    refine ValWp.pure (v:=.pointer (some ⟨g,0,none⟩)) (fun K' hK'=>?_) ⟨rfl,rfl⟩
    simp only[ValWp,execOp,Act.eval,e0]
    go_simp
    all_goals exact hK'
   ·
    refine OwesS.q rfl fun a w j u hC hb hs=>⟨rfl,?_⟩
    have e14:a.tmps.getD 14 undef=.pointer (some ⟨g,0,none⟩):=hs.dep 0 _ rfl rfl
    refine ValWp.pure (v:=.pointer (some ⟨g,0,none⟩)) (fun K' hK'=>?_) ⟨rfl,rfl⟩
    simp only[ValWp,execOp,Act.eval,e14]
    go_simp
    all_goals exact hK'
   ·
    refine OwesS.q rfl fun a w j u hC hb hs=>⟨rfl,?_⟩
    have e15:a.tmps.getD 15 undef=.pointer (some ⟨g,0,none⟩):=hs.dep 1 _ rfl rfl
    refine ValWp.pure (v:=.pointer (some ⟨g,0,none⟩)) (fun K' hK'=>?_) ⟨rfl,rfl⟩
    simp only[ValWp,execOp,Act.eval,e15]
    go_simp
    all_goals exact hK'
   ·
    refine OwesS.q rfl fun a w j u hC hb hs=>⟨rfl,?_⟩
    have e16:a.tmps.getD 16 undef=.pointer (some ⟨g,0,none⟩):=hs.dep 2 _ rfl rfl
    exact ValWp.loadR rfl e16 (HEV.out j u w hC) ⟨rfl,rfl⟩
   ·
    refine OwesS.q rfl fun a w j u hC hb hs=>⟨rfl,?_⟩
    have e3:a.tmps.getD 3 undef=.pointer (some ⟨W.heap.size,0,none⟩):=hs.free 3 rfl
    refine ValWp.pure (v:=.pointer (some ⟨W.heap.size,1,none⟩)) (fun K' hK'=>?_) ⟨rfl,rfl⟩
    simp only[ValWp,execOp,Act.eval,e3]
    go_simp
    all_goals exact hK'
   ·
    refine OwesS.q rfl fun a w j u hC hb hs=>⟨rfl,?_⟩
    have e18:a.tmps.getD 18 undef=.pointer (some ⟨W.heap.size,1,none⟩):=hs.dep 4 _ rfl rfl
    have q0:=HTT.out j u w hC
    refine ValWp.pure (v:=.string (mkS t)) (fun K' hK'=>?_) ⟨rfl,rfl⟩
    simp only[ValWp,execOp,Act.eval,e18]
    go_simp
    all_goals exact hK'
   ·
    refine OwesS.w rfl fun a w u hC hl hs=>⟨rfl,fun K hK=>?_⟩
    have e17:a.tmps.getD 17 undef=.agg #[va,aa,.int .i64 st,.string fl]:=hs.dep 3 _ rfl rfl
    have e19:a.tmps.getD 19 undef=.string (mkS t):=hs.dep 5 _ rfl rfl
    have hw:=HA.out 0 u w hC (Nat.le_refl _)
    subst hw
    refine wp_call2 16 17 19 _ _ _ rfl e17 e19 HEN.out (HGET.out.mono ?_)
    rintro e9 w9 ⟨rfl,hl9⟩
    exact .inl ⟨_,rfl,hK _ _ rfl (H1.out _ w9 hl9)⟩
   ·
    refine OwesS.q rfl fun a w j u hC hb hs=>⟨rfl,?_⟩
    have e20:a.tmps.getD 20 undef=.tuple #[.string (mkS VAL),.bool false]:=hs.dep 6 _ rfl rfl
    refine ValWp.pure (v:=.tuple #[.string (mkS VAL),.bool false]) (fun K' hK'=>?_) ⟨rfl,rfl⟩
    simp only[ValWp,execOp,Act.eval,e20]
    go_simp
    all_goals exact hK'
   ·
    refine OwesS.q rfl fun a w j u hC hb hs=>⟨rfl,?_⟩
    have e13:a.tmps.getD 13 undef=.tuple #[.string (mkS VAL),.bool false]:=hs.dep 7 _ rfl rfl
    refine ValWp.pure (v:=.string (mkS VAL)) (fun K' hK'=>?_) ⟨rfl,rfl⟩
    simp only[ValWp,execOp,Act.eval,e13]
    go_simp
    all_goals exact hK'
   ·
    refine OwesS.q rfl fun a w j u hC hb hs=>⟨rfl,?_⟩
    have e13:a.tmps.getD 13 undef=.tuple #[.string (mkS VAL),.bool false]:=hs.dep 7 _ rfl rfl
    refine ValWp.pure (v:=.bool false) (fun K' hK'=>?_) ⟨rfl,rfl⟩
    simp only[ValWp,execOp,Act.eval,e13]
    go_simp
    all_goals exact hK'
   ·
    refine OwesS.q rfl fun a w j u hC hb hs=>⟨rfl,?_⟩
    have e21:a.tmps.getD 21 undef=.string (mkS VAL):=hs.dep 8 _ rfl rfl
    refine ValWp.pure (v:=.string (mkS VAL)) (fun K' hK'=>?_) ⟨rfl,rfl⟩
    simp only[ValWp,execOp,Act.eval,e21]
    go_simp
    all_goals exact hK'
   ·
    refine OwesS.q rfl fun a w j u hC hb hs=>⟨rfl,?_⟩
    have e22:a.tmps.getD 22 undef=.bool false:=hs.dep 9 _ rfl rfl
    refine ValWp.pure (v:=.bool false) (fun K' hK'=>?_) ⟨rfl,rfl⟩
    simp only[ValWp,execOp,Act.eval,e22]
    go_simp
    all_goals exact hK'
  ·intro a w u hC hl hd hsz hfree hs
   obtain⟨u13,hu13⟩:∃ u,u=a.tmps.getD 13 undef:=⟨_,rfl⟩
   obtain⟨u14,hu14⟩:∃ u,u=a.tmps.getD 14 undef:=⟨_,rfl⟩
   obtain⟨u15,hu15⟩:∃ u,u=a.tmps.getD 15 undef:=⟨_,rfl⟩
   obtain⟨u16,hu16⟩:∃ u,u=a.tmps.getD 16 undef:=⟨_,rfl⟩
   obtain⟨u17,hu17⟩:∃ u,u=a.tmps.getD 17 undef:=⟨_,rfl⟩
   obtain⟨u18,hu18⟩:∃ u,u=a.tmps.getD 18 undef:=⟨_,rfl⟩
   obtain⟨u19,hu19⟩:∃ u,u=a.tmps.getD 19 undef:=⟨_,rfl⟩
   obtain⟨u20,hu20⟩:∃ u,u=a.tmps.getD 20 undef:=⟨_,rfl⟩
   obtain⟨u21,hu21⟩:∃ u,u=a.tmps.getD 21 undef:=⟨_,rfl⟩
   obtain⟨u22,hu22⟩:∃ u,u=a.tmps.getD 22 undef:=⟨_,rfl⟩
   have hal:AllAt a 0 [_,_,_,_,_,.string (mkS VAL),.bool false,_,_,_,_,_,_,u13,u14,u15,u16,u17,u18,u19,u20,u21,u22,_,_,_,_,_,_,_,_,_,_,_,_,_,_,_,_,_,_,_,_,_,_,_,_,_,_,_,_,_,_,_,_,_,_,_,_,_,_,_,_,_,_,_,_,_,_,_,_,_,_,_,_,_,_,_,_,_,_,_]:=⟨hfree 0 rfl,hfree 1 rfl,hfree 2 rfl,hfree 3 rfl,hfree 4 rfl,hs 10 _ rfl,hs 11 _ rfl,hfree 7 rfl,hfree 8 rfl,hfree 9 rfl,hfree 10 rfl,hfree 11 rfl,hfree 12 rfl,hu13.symm,hu14.symm,hu15.symm,hu16.symm,hu17.symm,hu18.symm,hu19.symm,hu20.symm,hu21.symm,hu22.symm,hfree 23 rfl,hfree 24 rfl,hfree 25 rfl,hfree 26 rfl,hfree 27 rfl,hfree 28 rfl,hfree 29 rfl,hfree 30 rfl,hfree 31 rfl,hfree 32 rfl,hfree 33 rfl,hfree 34 rfl,hfree 35 rfl,hfree 36 rfl,hfree 37 rfl,hfree 38 rfl,hfree 39 rfl,hfree 40 rfl,hfree 41 rfl,hfree 42 rfl,hfree 43 rfl,hfree 44 rfl,hfree 45 rfl,hfree 46 rfl,hfree 47 rfl,hfree 48 rfl,hfree 49 rfl,hfree 50 rfl,hfree 51 rfl,hfree 52 rfl,hfree 53 rfl,hfree 54 rfl,hfree 55 rfl,hfree 56 rfl,hfree 57 rfl,hfree 58 rfl,hfree 59 rfl,hfree 60 rfl,hfree 61 rfl,hfree 62 rfl,hfree 63 rfl,hfree 64 rfl,hfree 65 rfl,hfree 66 rfl,hfree 67 rfl,hfree 68 rfl,hfree 69 rfl,hfree 70 rfl,hfree 71 rfl,hfree 72 rfl,hfree 73 rfl,hfree 74 rfl,hfree 75 rfl,hfree 76 rfl,hfree 77 rfl,hfree 78 rfl,hfree 79 rfl,hfree 80 rfl,hfree 81 rfl,trivial⟩
   have hlit:=fun h=>act_lit hd h hal
   rw[hlit hsz]
   simp only[Array.getD_eq_getD_getElem?,List.getElem?_toArray,List.getElem?_cons_zero,List.getElem?_cons_succ,Option.getD_some]
   clear hlit hal hd hsz hfree hs hu13 hu14 hu15 hu16 hu17 hu18 hu19 hu20 hu21 hu22
   have HL3:=Lib.hid (HLJ.out _ _ _ hC)
   clear hC hl
   (have hf:=HPF.out w HL3.out)
   have b0:=hf.b0
   have b1:=hf.b1
   have b2:=hf.b2
   have b3:=hf.b3
   have b4:=hf.b4
   have r0:=hf.r0
   have r1:=hf.r1
   have z:=hf.z
   have c0:=hf.c0
   have c1:=hf.c1
   have c2:=hf.c2
   have c3:=hf.c3
   clear hf
   go_wp2_with (first
    |(go_at_call 108;(with_reducible refine(HND.out _).mono ?_);rintro e w4 ⟨rfl,hl4⟩;(have HL4:=Lib.hid (HL3.out.trans hl4));clear hl4;(have hf:=HPF.out w4 HL4.out);have b0:=hf.b0;have b1:=hf.b1;have b2:=hf.b2;have b3:=hf.b3;have b4:=hf.b4;have r0:=hf.r0;have r1:=hf.r1;have z:=hf.z;have c0:=hf.c0;have c1:=hf.c1;have c2:=hf.c2;have c3:=hf.c3;clear hf)
    |(go_at_call 110;(with_reducible refine(HDO.out _).mono ?_);rintro e w6 ⟨rfl,hl6⟩;(have HL6:=Lib.hid (HL4.out.trans hl6));clear hl6;(have hf:=HPF.out w6 HL6.out);have b0:=hf.b0;have b1:=hf.b1;have b2:=hf.b2;have b3:=hf.b3;have b4:=hf.b4;have r0:=hf.r0;have r1:=hf.r1;have z:=hf.z;have c0:=hf.c0;have c1:=hf.c1;have c2:=hf.c2;have c3:=hf.c3;clear hf))
   have HPG:=Lib.hid (show ∀ w,W1.grownBy w (some g)→(Instr.loadAt 105 (.pointer (some ⟨W.heap.size,0,none⟩))).run Tryz.prog w=.ok (.agg #[.int .i64 (k:Int),.string (mkS t),.string (mkS o),.bool q,.slice Aw l.length cw]) w∧w.heap[W.heap.size+1]?=some (.cells #[.string ⟨#[]⟩,.string ⟨#[]⟩] 37 (0,0)) from fun w hg=>by
    have hgl:=HGL.out
    refine⟨part_box (p:=.mk k t o q l) (grown_cells hg HPB.out (by omega)),grown_cells hg (HPF.out W1 (Later.refl _)).rb (by omega)⟩)
   have HPOK:=Lib.hid (ptR_ok (c:=lt q) (e:=e3) (Nat.le_trans (flat_len r2) (HASM.out r2 e3 rfl)))
   have HPUT:=Lib.hid (show ∀ W,Calls Tryz.prog 102 #[.string (mkS (flat r2)),.int .u8 cq] W fun e W'=>e=.returned (rv (pt (flat r2) (lt q)))∧Later W W' from fun W=>by rw[HCQ.out];exact put_v (flat r2) (lt q) (Nat.le_trans (flat_len r2) (HASM.out r2 e3 rfl)) W)
   obtain⟨RR,hRR⟩:∃ RR,RR=pt (flat r2) (lt q):=⟨_,rfl⟩
   have HRQ:=Lib.hid hRR
   rw[←hRR,HRR.out] at HPUT
   obtain⟨C,hC9⟩:∃ C:List Bool→World→Prop,C=fun bits w=>bits.length=4∧((bits[3]?=some false∧W1.grownBy w (some g)∧(bits[0]?=some false→Later W1 w)∧(bits[0]?=some true→Wt w (Wi X W W1) g m e3))∨(bits[3]?=some true∧∃ wx,Wt wx (Wi X W W1) g m e3∧W1.grownBy wx (some g)∧w=(wx.setCell ⟨W.heap.size+1,0,none⟩ (.string (mkS (ft RR)))).setCell ⟨W.heap.size+1,1,none⟩ (.string (mkS (fm RR))))):=⟨_,rfl⟩
   have HGR:=Lib.hid (show ∀ bits w,C bits w→bits[3]?=some false→W1.grownBy w (some g) from fun bits w hc hb=>by
    rw[hC9] at hc
    rcases hc.2 with⟨_,h,_⟩ | ⟨h,_⟩
    ·exact h
    ·rw[hb] at h;cases h)
   have HCB:=Lib.hid (show ∀ bits w,C bits w→bits[3]?=some false→bits[0]?=some false→Later W1 w from fun bits w hc hb h0=>by
    rw[hC9] at hc
    rcases hc.2 with⟨_,_,h,_⟩ | ⟨h,_⟩
    ·exact h h0
    ·rw[hb] at h;cases h)
   have HC0:=Lib.hid (show C [false,false,false,false] w6.drew by rw[hC9];exact⟨rfl,.inl ⟨rfl,later_some (HL6.out.trans (Later.drew _)),fun _=>HL6.out.trans (Later.drew _),fun h=>by cases h⟩⟩)
   have HST:=Lib.hid (show ∀ bits w w9 k,k<3→0<k→C bits w→bits[3]?=some false→Later w w9→C (bits.set k true) w9 from fun bits w w9 k hk hk0 hc hb hl=>by
    rw[hC9] at hc⊢
    refine⟨by rw[List.length_set];exact hc.1,.inl ?_⟩
    rcases hc.2 with⟨_,h1,h2,h3⟩ | ⟨h,_⟩
    ·refine⟨by rw[List.getElem?_set_ne (by omega)];exact hb,grown_trans h1 (later_some hl),fun h=>(h2 ?_).trans hl,fun h=>(h3 (by rw[List.getElem?_set_ne (by omega)] at h;exact h)).later hl⟩
     rw[List.getElem?_set_ne (by omega)] at h;exact h
    ·rw[hb] at h;cases h)
   have HLS:=Lib.hid (show ∀ bits w,C bits w→bits[3]?=some false→bits[0]?=some true→C (bits.set 3 true) ((w.setCell ⟨W.heap.size+1,0,none⟩ (.string (mkS (ft RR)))).setCell ⟨W.heap.size+1,1,none⟩ (.string (mkS (fm RR)))) from fun bits w hc hb h0=>by
    have h1:=HGR.out bits w hc hb
    rw[hC9] at hc⊢
    refine⟨by rw[List.length_set];exact hc.1,.inr ⟨by rw[List.getElem?_set_self (by rw[hc.1];decide)],w,?_,h1,rfl⟩⟩
    rcases hc.2 with⟨_,_,_,h3⟩ | ⟨h,_⟩
    ·exact h3 h0
    ·rw[hb] at h;cases h)
   have HSA:=Lib.hid (show ∀ bits w w9,C bits w→bits[3]?=some false→Wt w9 (Wi X W W1) g m e3→W1.grownBy w9 (some g)→C (bits.set 0 true) w9 from fun bits w w9 hc hb hw hg=>by
    rw[hC9] at hc⊢
    exact⟨by rw[List.length_set];exact hc.1,.inl ⟨by rw[List.getElem?_set_ne (by decide)];exact hb,hg,fun h=>(by rw[List.getElem?_set_self (by rw[hc.1];decide)] at h;cases h),fun _=>hw⟩⟩)
   have HFI:=Lib.hid (show ∀ w,C [true,true,true,true] w→∃ wx,Wt wx (Wi X W W1) g m e3∧W1.grownBy wx (some g)∧w=(wx.setCell ⟨W.heap.size+1,0,none⟩ (.string (mkS (ft RR)))).setCell ⟨W.heap.size+1,1,none⟩ (.string (mkS (fm RR))) from fun w hc=>by
    rw[hC9] at hc
    rcases hc.2 with⟨h,_⟩ | ⟨_,h⟩
    ·cases h
    ·exact h)
   clear hC9 hRR
   refine wp_region_bits (by kernel_rfl) [2,4,5,6] (C) [some (.pointer (some ⟨g,0,none⟩)),some (.agg #[.int .i64 (k:Int),.string (mkS t),.string (mkS o),.bool q,.slice Aw l.length cw]),some (.string (mkS (flat r2))),some (.agg #[.int .i64 (k:Int),.string (mkS t),.string (mkS o),.bool q,.slice Aw l.length cw]),some (.int .u8 cq),some (.agg #[.string (mkS (ft RR)),.string (mkS (fm RR))]),none] (by decide) (by decide) (by kernel_rfl) (HC0.out) ?_ ?_
   ·refine⟨?_,?_,?_,?_,?_,?_,?_,trivial⟩
    ·
     refine OwesB.q rfl fun a w bits hC hd hu hs=>⟨rfl,?_⟩
     have e0:a.tmps.getD 0 undef=.pointer (some ⟨g,0,none⟩):=hs.free 0 rfl
     refine ValWp.pure (v:=.pointer (some ⟨g,0,none⟩)) (fun K' hK'=>?_) ⟨rfl,rfl⟩
     simp only[ValWp,execOp,Act.eval,e0]
     go_simp
     all_goals exact hK'
    ·
     refine OwesB.q rfl fun a w bits hC hd hu hs=>⟨rfl,?_⟩
     have e3:a.tmps.getD 3 undef=.pointer (some ⟨W.heap.size,0,none⟩):=hs.free 3 rfl
     have hb3:=hu 3 6 rfl (.inr rfl)
     exact ValWp.loadR rfl e3 (HPG.out w (HGR.out bits w hC hb3)).1 ⟨rfl,rfl⟩
    ·
     refine fun a w bits hC hd hu hs=>⟨rfl,fun K hK=>?_⟩
     have e68:a.tmps.getD 68 undef=.pointer (some ⟨g,0,none⟩):=hs.dep 0 _ rfl rfl
     have e69:a.tmps.getD 69 undef=.agg #[.int .i64 (k:Int),.string (mkS t),.string (mkS o),.bool q,.slice Aw l.length cw]:=hs.dep 1 _ rfl rfl
     have hb3:=hu 3 6 rfl (.inr rfl)
     have hb0:=hu 0 2 rfl (.inl rfl)
     have hlw:=HCB.out bits w hC hb3 hb0
     refine wp_call2 113 68 69 _ _ _ rfl e68 e69 (entO Tryz.func113 rfl rfl) ((HAS.out w hlw).mono ?_)
     rintro e9 w9 ⟨rfl,hw9,hg9⟩
     exact .inl ⟨_,rfl,hK _ _ rfl (HSA.out bits w w9 hC hb3 hw9 (grown_trans (later_some hlw) hg9))⟩
    ·
     refine OwesB.q rfl fun a w bits hC hd hu hs=>⟨rfl,?_⟩
     have e3:a.tmps.getD 3 undef=.pointer (some ⟨W.heap.size,0,none⟩):=hs.free 3 rfl
     have hb3:=hu 3 6 rfl (.inr rfl)
     exact ValWp.loadR rfl e3 (HPG.out w (HGR.out bits w hC hb3)).1 ⟨rfl,rfl⟩
    ·
     refine fun a w bits hC hd hu hs=>⟨rfl,fun K hK=>?_⟩
     have e71:a.tmps.getD 71 undef=.agg #[.int .i64 (k:Int),.string (mkS t),.string (mkS o),.bool q,.slice Aw l.length cw]:=hs.dep 3 _ rfl rfl
     have hb3:=hu 3 6 rfl (.inr rfl)
     refine wp_callN 105 _ _ #[.agg #[.int .i64 (k:Int),.string (mkS t),.string (mkS o),.bool q,.slice Aw l.length cw]] rfl rfl (by simp only[List.map_toArray,List.map_cons,List.map_nil,Act.eval,e71]) (entO Tryz.func105 rfl rfl) ((HLT.out w).mono ?_)
     rintro e9 w9 ⟨rfl,hl9⟩
     exact⟨_,rfl,hK _ _ rfl (HST.out bits w w9 1 (by decide) (by decide) hC hb3 hl9)⟩
    ·
     refine fun a w bits hC hd hu hs=>⟨rfl,fun K hK=>?_⟩
     have e70:a.tmps.getD 70 undef=.string (mkS (flat r2)):=hs.dep 2 _ rfl rfl
     have e72:a.tmps.getD 72 undef=.int .u8 cq:=hs.dep 4 _ rfl rfl
     have hb3:=hu 3 6 rfl (.inr rfl)
     refine wp_callN 102 _ _ #[.string (mkS (flat r2)),.int .u8 cq] rfl rfl (by simp only[List.map_toArray,List.map_cons,List.map_nil,Act.eval,e70,e72]) (entO Tryz.func102 rfl rfl) ((HPUT.out w).mono ?_)
     rintro e9 w9 ⟨rfl,hl9⟩
     exact⟨_,rfl,hK _ _ rfl (HST.out bits w w9 2 (by decide) (by decide) hC hb3 hl9)⟩
    ·
     refine fun a w bits hC hd hu hs=>⟨rfl,fun K hK=>?_⟩
     have e4:a.tmps.getD 4 undef=.pointer (some ⟨W.heap.size+1,0,none⟩):=hs.free 4 rfl
     have e73:a.tmps.getD 73 undef=.agg #[.string (mkS (ft RR)),.string (mkS (fm RR))]:=hs.dep 5 _ rfl rfl
     have hb3:=hu 3 6 rfl (.inl rfl)
     have hr:=(HPG.out w (HGR.out bits w hC hb3)).2
     have q0:=(cell_row hr 0).1
     have q1:=(cell_row hr 1).1
     have z:=fun i=>(cell_row hr i).2
     refine wp_of_val ?_
     refine ValWp.pure (v:=undef) (w':=(w.setCell ⟨W.heap.size+1,0,none⟩ (.string (mkS (ft RR)))).setCell ⟨W.heap.size+1,1,none⟩ (.string (mkS (fm RR)))) (fun K' hK'=>?_) (hK _ _ trivial (HLS.out bits w hC hb3 (hd 0 2 rfl rfl)))
     simp only[ValWp,execOp,Act.eval,e4,e73]
     go_simp
     all_goals exact hK'
   ·intro a w hC hd hsz hfree hs
    obtain⟨z0,u1,u2,z3,z4,u5,u6,u7,u8,u9,u10,u11,u12,u13,u14,u15,u16,u17,u18,u19,u20,u21,u22,u23,u24,u25,u26,u27,u28,u29,u30,u31,u32,u33,u34,u35,u36,u37,u38,u39,u40,u41,u42,u43,u44,u45,u46,u47,u48,u49,u50,u51,u52,u53,u54,u55,u56,u57,u58,u59,u60,u61,u62,u63,u64,u65,u66,u67,u68,u69,u70,u71,u72,u73,u74,u75,u76,u77,u78,u79,u80,u81,hal⟩:=lets a 82 0
    obtain rfl:=hal.on (v:=.pointer (some ⟨g,0,none⟩)) 0 (hfree 0 rfl) rfl
    obtain rfl:=hal.on (v:=.pointer (some ⟨W.heap.size,0,none⟩)) 3 (hfree 3 rfl) rfl
    obtain rfl:=hal.on (v:=.pointer (some ⟨W.heap.size+1,0,none⟩)) 4 (hfree 4 rfl) rfl
    have hlit:=fun h=>act_lit hd h hal
    rw[hlit hsz]
    clear hlit hal hd hsz hfree hs
    obtain⟨wx,hwx1,hwx2,hwx⟩:=HFI.out w hC
    subst hwx
    have HWX:=Lib.hid hwx1
    have HGX:=Lib.hid hwx2
    clear hC hwx1 hwx2
    go_wp2
    refine end_row rfl rfl (HPG.out _ HGX.out).2 rfl rfl fun w9 h9=>?_
    show RowR W X g m (ptR (flat r2) (lt q) e3) _ _
    rw[HRQ.out,HPOK.out]
    exact⟨rfl,HH.out.ends HLW.out HWX.out HGX.out (by omega) HW1S.out (HPG.out _ HGX.out).2 h9⟩
end Ey
end Go.Proofs.YtipdgmjplnibeaaGreatDoor
