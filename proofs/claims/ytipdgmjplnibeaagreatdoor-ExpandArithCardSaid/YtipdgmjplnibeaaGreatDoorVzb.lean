import Derived.Test.YtipdgmjplnibeaaGreatDoorVp
import Derived.Test.YtipdgmjplnibeaaGreatDoorG41
set_option maxRecDepth 100000
set_option maxHeartbeats 12800000
namespace Go.Proofs.YtipdgmjplnibeaaGreatDoor
open Go.RowKit Go.Maps
set_option maxRecDepth 100000
namespace Ey
open Jo (ft fm rows own_ge)
open En (E RdE RdP Vd Rises FrE)
theorem arith_in (e:E) (t:B):-9223372036854775808≤arithN e t∧arithN e t≤9223372036854775807:=by
 unfold arithN
 split
 ·unfold wrap64;omega
 ·split <;> omega
theorem format_v {w:World} (n:Int) (h:-9223372036854775808≤n∧n≤9223372036854775807) (hd:Vd w):Calls Tryz.prog 104 #[.int .i64 n,.int .i64 10] w fun e w'=>e=.returned (.string (mkS (Lib.itoa n)))∧Later w w':=by
 refine(Tryz.strconv_FormatInt_10 n h.1 h.2 w hd.tb).mono ?_
 rintro e w' ⟨rfl,j,os,rfl⟩
 exact⟨rfl,En.later_grow w j os⟩
theorem arith_v {W:World} {X:Nat→Prop} {g m:Nat} {e:E} (h:Wt W X g m e) (p:P) (vw:Value) (hc2:p.t=sumT∨p.t=gtT) (h2:has2 e=true) (hsz:(Lib.itoa (arithN e p.t)).length≤100000):Calls Tryz.prog 75 #[.pointer (some ⟨g,0,none⟩),pv p vw] W fun x W'=>x=.returned (rv (pt (Lib.itoa (arithN e p.t)) (lt p.q)))∧Later W W':=by
 obtain⟨k,t,o,q,l⟩:=p
 replace hc2:t=sumT∨t=gtT:=hc2
 replace hsz:(Lib.itoa (arithN e t)).length≤100000:=hsz
 show Calls Tryz.prog 75 #[.pointer (some ⟨g,0,none⟩),.agg #[.int .i64 (k:Int),.string (mkS t),.string (mkS o),.bool q,vw]] W fun x W'=>x=.returned (rv (pt (Lib.itoa (arithN e t)) (lt q)))∧Later W W'
 obtain⟨va,aa,hc⟩:=h.cells
 obtain⟨W1,hW1⟩:∃ W1,W1=(W.alloc (.cells #[.int .i64 (k:Int),.string (mkS t),.string (mkS o),.bool q,vw] 105)).alloc (.cells #[.string ⟨#[]⟩,.string ⟨#[]⟩] 37):=⟨_,rfl⟩
 have hl:Later W W1:=by rw[hW1];exact(Later.alloc _ _).trans (Later.alloc _ _)
 obtain⟨st,hst⟩:∃ st:Int,st=e.status:=⟨_,rfl⟩
 obtain⟨fl,hfl⟩:∃ fl,fl=mkS e.flags:=⟨_,rfl⟩
 have HPF:=Lib.hid (show ∀ w,Later W1 w→Fa w W.heap.size g k t o q vw va aa st fl from fun w hw=>by
  have hb:W1.heap[W.heap.size]?=some (.cells #[.int .i64 (k:Int),.string (mkS t),.string (mkS o),.bool q,vw] 105 (0,0)):=by rw[hW1];exact later_cells (Later.alloc _ _) (heap_alloc_new _ _)
  have hr:W1.heap[W.heap.size+1]?=some (.cells #[.string ⟨#[]⟩,.string ⟨#[]⟩] 37 (0,0)):=by
   have:=heap_alloc_new (W.alloc (.cells #[.int .i64 (k:Int),.string (mkS t),.string (mkS o),.bool q,vw] 105)) (.cells #[.string ⟨#[]⟩,.string ⟨#[]⟩] 37)
   rw[World.size_alloc] at this
   rw[hW1]
   exact this
  have hb2:=later_cells hw hb
  obtain⟨⟨c0,c1,c2,c3,_⟩,_⟩:=hc w (hl.trans hw)
  exact⟨(cell_row hb2 0).1,(cell_row hb2 1).1,(cell_row hb2 2).1,(cell_row hb2 3).1,(cell_row hb2 4).1,later_cells hw hr,c0,c1,by rw[hst];exact c2,by rw[hfl];exact c3⟩)
 obtain⟨N,hN⟩:∃ N,N=arithN e t:=⟨_,rfl⟩
 obtain⟨VAL,hVAL⟩:∃ VAL,VAL=Lib.itoa N:=⟨_,rfl⟩
 rw[←hN,←hVAL] at hsz⊢
 have HEVL:=Lib.hid (show ∀ w,Later W1 w→Calls Tryz.prog 103 #[.string (mkS t),va] w fun r w'=>r=.returned (.tuple #[.int .i64 N,.int .i64 0])∧Later w w' from fun w hw=>by
  rw[hN]
  obtain⟨v0,A,n,c,e1,h1,_⟩:=(hc w (hl.trans hw)).2
  injection e1 with e1
  have e2:va=v0:=by
   have:=congrArg (fun a=>a[0]?) e1
   simpa using this
  subst e2
  obtain⟨_,_,hx⟩:=has_at h2
  refine eval_two (tb0_of (h.ta.kept (grown_of_later (hl.trans hw) _))) (vars0_of h1 (fun p hp=>⟨(hx p hp).1,by have:=(hx p hp).2;omega⟩) (fun p hp=>(hx p hp).2) (by have:=(sm_facts h.sm).1;omega)) hc2 h2)
 have HFM:=Lib.hid (show ∀ w,Later W1 w→Calls Tryz.prog 104 #[.int .i64 N,.int .i64 10] w fun e w'=>e=.returned (.string (mkS VAL))∧Later w w' from fun w hw=>by
  have:=format_v (w:=w) N (by rw[hN];exact arith_in e t) (h.vd.later (hl.trans hw))
  rw[←hVAL] at this
  exact this)
 obtain⟨cq,hcq⟩:∃ cq:Int,cq=((lt q).toNat:Int):=⟨_,rfl⟩
 have HLT:=Lib.hid (show ∀ w,Calls Tryz.prog 105 #[.agg #[.int .i64 (k:Int),.string (mkS t),.string (mkS o),.bool q,vw]] w fun e w'=>e=.returned (.int .u8 cq)∧Later w w' from fun w=>by rw[hcq];exact letter_v (.mk k t o q l) vw w)
 have HPUT:=Lib.hid (show ∀ W,Calls Tryz.prog 102 #[.string (mkS VAL),.int .u8 cq] W fun e W'=>e=.returned (rv (pt VAL (lt q)))∧Later W W' from fun W=>by rw[hcq];exact put_v VAL (lt q) hsz W)
 have HRF:=Lib.hid (fun W=>refuse_ok t W)
 have HEN:=Lib.hid (entO (c:=_) Tryz.func103 rfl rfl)
 have HLW:=Lib.hid hl
 have HRR:=Lib.hid (fun r:Rw=>show rv r=.agg #[.string (mkS (ft r)),.string (mkS (fm r))] from rfl)
 obtain⟨C0,hC0⟩:∃ C0:Nat→Value→World→Prop,C0=fun j u w=>(j=0∧w=W1.drew)∨(j=1∧Later W1.drew w):=⟨_,rfl⟩
 have HA:=Lib.hid (show ∀ j u w,C0 j u w→j≤0→w=W1.drew from fun j u w hc hj=>by
  rw[hC0] at hc
  rcases hc with⟨_,e⟩ | ⟨e,_⟩
  ·exact e
  ·omega)
 have HLJ:=Lib.hid (show ∀ j u w,C0 j u w→Later W1 w from fun j u w hc=>by
  rw[hC0] at hc
  rcases hc with⟨_,rfl⟩ | ⟨_,h⟩
  ·exact Later.drew _
  ·exact(Later.drew _).trans h)
 have H0:=Lib.hid (show C0 0 undef W1.drew by rw[hC0];exact .inl ⟨rfl,rfl⟩)
 have H1:=Lib.hid (show ∀ u w,Later W1.drew w→C0 1 u w from fun u w h=>by rw[hC0];exact .inr ⟨rfl,h⟩)
 have HTT:=Lib.hid (show ∀ j u w,C0 j u w→w.cell? ⟨W.heap.size,1,none⟩=some (.string (mkS t)) from fun j u w hc=>(HPF.out w (HLJ.out j u w hc)).b1)
 have HVA:=Lib.hid (show ∀ j u w,C0 j u w→w.cell? ⟨g,0,none⟩=some va from fun j u w hc=>(HPF.out w (HLJ.out j u w hc)).c0)
 have HEVD:=Lib.hid (HEVL.out W1.drew (Later.drew _))
 clear hC0 hst hfl hN hVAL hsz hcq hc hl h hc2 h2
 go_enter Tryz.func75,Tryz.ntmps75
 go_wp2_with fail
 rw[←hW1]
 refine wp_region_seq (by kernel_rfl) [7] (C0) [some (.pointer (some ⟨W.heap.size,1,none⟩)),some (.string (mkS t)),some (.pointer (some ⟨g,0,none⟩)),some (.pointer (some ⟨g,0,none⟩)),some (.pointer (some ⟨g,0,none⟩)),some (.pointer (some ⟨g,0,none⟩)),some (va),some (.tuple #[.int .i64 N,.int .i64 0]),some (.tuple #[.int .i64 N,.int .i64 0]),some (.int .i64 N),some (.int .i64 0),some (.int .i64 N),some (.int .i64 0)] (by decide) (by decide) (by kernel_rfl) (by kernel_rfl) (H0.out) ?_ ?_
 ·refine⟨?_,?_,?_,?_,?_,?_,?_,?_,?_,?_,?_,?_,?_,trivial⟩
  ·
   refine OwesS.q rfl fun a w j u hC hb hs=>⟨rfl,?_⟩
   have e3:a.tmps.getD 3 undef=.pointer (some ⟨W.heap.size,0,none⟩):=hs.free 3 rfl
   refine ValWp.pure (v:=.pointer (some ⟨W.heap.size,1,none⟩)) (fun K' hK'=>?_) ⟨rfl,rfl⟩
   simp only[ValWp,execOp,Act.eval,e3]
   go_simp
   all_goals exact hK'
  ·
   refine OwesS.q rfl fun a w j u hC hb hs=>⟨rfl,?_⟩
   have e8:a.tmps.getD 8 undef=.pointer (some ⟨W.heap.size,1,none⟩):=hs.dep 0 _ rfl rfl
   have q0:=HTT.out j u w hC
   refine ValWp.pure (v:=.string (mkS t)) (fun K' hK'=>?_) ⟨rfl,rfl⟩
   simp only[ValWp,execOp,Act.eval,e8]
   go_simp
   all_goals exact hK'
  ·
   refine OwesS.q rfl fun a w j u hC hb hs=>⟨rfl,?_⟩
   have e0:a.tmps.getD 0 undef=.pointer (some ⟨g,0,none⟩):=hs.free 0 rfl
   refine ValWp.pure (v:=.pointer (some ⟨g,0,none⟩)) (fun K' hK'=>?_) ⟨rfl,rfl⟩
   simp only[ValWp,execOp,Act.eval,e0]
   go_simp
   all_goals exact hK'
  ·
   refine OwesS.q rfl fun a w j u hC hb hs=>⟨rfl,?_⟩
   have e10:a.tmps.getD 10 undef=.pointer (some ⟨g,0,none⟩):=hs.dep 2 _ rfl rfl
   refine ValWp.pure (v:=.pointer (some ⟨g,0,none⟩)) (fun K' hK'=>?_) ⟨rfl,rfl⟩
   simp only[ValWp,execOp,Act.eval,e10]
   go_simp
   all_goals exact hK'
  ·
   refine OwesS.q rfl fun a w j u hC hb hs=>⟨rfl,?_⟩
   have e11:a.tmps.getD 11 undef=.pointer (some ⟨g,0,none⟩):=hs.dep 3 _ rfl rfl
   refine ValWp.pure (v:=.pointer (some ⟨g,0,none⟩)) (fun K' hK'=>?_) ⟨rfl,rfl⟩
   simp only[ValWp,execOp,Act.eval,e11]
   go_simp
   all_goals exact hK'
  ·
   refine OwesS.q rfl fun a w j u hC hb hs=>⟨rfl,?_⟩
   have e12:a.tmps.getD 12 undef=.pointer (some ⟨g,0,none⟩):=hs.dep 4 _ rfl rfl
   refine ValWp.pure (v:=.pointer (some ⟨g,0,none⟩)) (fun K' hK'=>?_) ⟨rfl,rfl⟩
   simp only[ValWp,execOp,Act.eval,e12]
   go_simp
   all_goals exact hK'
  ·
   refine OwesS.q rfl fun a w j u hC hb hs=>⟨rfl,?_⟩
   have e13:a.tmps.getD 13 undef=.pointer (some ⟨g,0,none⟩):=hs.dep 5 _ rfl rfl
   have q0:=HVA.out j u w hC
   refine ValWp.pure (v:=va) (fun K' hK'=>?_) ⟨rfl,rfl⟩
   simp only[ValWp,execOp,Act.eval,e13]
   go_simp
   all_goals exact hK'
  ·
   refine OwesS.w rfl fun a w u hC hl hs=>⟨rfl,fun K hK=>?_⟩
   have e9:a.tmps.getD 9 undef=.string (mkS t):=hs.dep 1 _ rfl rfl
   have e14:a.tmps.getD 14 undef=va:=hs.dep 6 _ rfl rfl
   have hw:=HA.out 0 u w hC (Nat.le_refl _)
   subst hw
   refine wp_call2 103 9 14 _ _ _ rfl e9 e14 HEN.out (HEVD.out.mono ?_)
   rintro e9 w9 ⟨rfl,hl9⟩
   exact .inl ⟨_,rfl,hK _ _ rfl (H1.out _ w9 hl9)⟩
  ·
   refine OwesS.q rfl fun a w j u hC hb hs=>⟨rfl,?_⟩
   have e15:a.tmps.getD 15 undef=.tuple #[.int .i64 N,.int .i64 0]:=hs.dep 7 _ rfl rfl
   refine ValWp.pure (v:=.tuple #[.int .i64 N,.int .i64 0]) (fun K' hK'=>?_) ⟨rfl,rfl⟩
   simp only[ValWp,execOp,Act.eval,e15]
   go_simp
   all_goals exact hK'
  ·
   refine OwesS.q rfl fun a w j u hC hb hs=>⟨rfl,?_⟩
   have e7:a.tmps.getD 7 undef=.tuple #[.int .i64 N,.int .i64 0]:=hs.dep 8 _ rfl rfl
   refine ValWp.pure (v:=.int .i64 N) (fun K' hK'=>?_) ⟨rfl,rfl⟩
   simp only[ValWp,execOp,Act.eval,e7]
   go_simp
   all_goals exact hK'
  ·
   refine OwesS.q rfl fun a w j u hC hb hs=>⟨rfl,?_⟩
   have e7:a.tmps.getD 7 undef=.tuple #[.int .i64 N,.int .i64 0]:=hs.dep 8 _ rfl rfl
   refine ValWp.pure (v:=.int .i64 0) (fun K' hK'=>?_) ⟨rfl,rfl⟩
   simp only[ValWp,execOp,Act.eval,e7]
   go_simp
   all_goals exact hK'
  ·
   refine OwesS.q rfl fun a w j u hC hb hs=>⟨rfl,?_⟩
   have e16:a.tmps.getD 16 undef=.int .i64 N:=hs.dep 9 _ rfl rfl
   refine ValWp.pure (v:=.int .i64 N) (fun K' hK'=>?_) ⟨rfl,rfl⟩
   simp only[ValWp,execOp,Act.eval,e16]
   go_simp
   all_goals exact hK'
  ·
   refine OwesS.q rfl fun a w j u hC hb hs=>⟨rfl,?_⟩
   have e17:a.tmps.getD 17 undef=.int .i64 0:=hs.dep 10 _ rfl rfl
   refine ValWp.pure (v:=.int .i64 0) (fun K' hK'=>?_) ⟨rfl,rfl⟩
   simp only[ValWp,execOp,Act.eval,e17]
   go_simp
   all_goals exact hK'
 ·intro a w u hC hl hd hsz hfree hs
  obtain⟨u7,hu7⟩:∃ u,u=a.tmps.getD 7 undef:=⟨_,rfl⟩
  obtain⟨u8,hu8⟩:∃ u,u=a.tmps.getD 8 undef:=⟨_,rfl⟩
  obtain⟨u9,hu9⟩:∃ u,u=a.tmps.getD 9 undef:=⟨_,rfl⟩
  obtain⟨u10,hu10⟩:∃ u,u=a.tmps.getD 10 undef:=⟨_,rfl⟩
  obtain⟨u11,hu11⟩:∃ u,u=a.tmps.getD 11 undef:=⟨_,rfl⟩
  obtain⟨u12,hu12⟩:∃ u,u=a.tmps.getD 12 undef:=⟨_,rfl⟩
  obtain⟨u13,hu13⟩:∃ u,u=a.tmps.getD 13 undef:=⟨_,rfl⟩
  obtain⟨u14,hu14⟩:∃ u,u=a.tmps.getD 14 undef:=⟨_,rfl⟩
  obtain⟨u15,hu15⟩:∃ u,u=a.tmps.getD 15 undef:=⟨_,rfl⟩
  obtain⟨u16,hu16⟩:∃ u,u=a.tmps.getD 16 undef:=⟨_,rfl⟩
  obtain⟨u17,hu17⟩:∃ u,u=a.tmps.getD 17 undef:=⟨_,rfl⟩
  have hal:AllAt a 0 [_,_,_,_,_,.int .i64 N,.int .i64 0,u7,u8,u9,u10,u11,u12,u13,u14,u15,u16,u17,_,_,_,_,_,_,_,_,_]:=⟨hfree 0 rfl,hfree 1 rfl,hfree 2 rfl,hfree 3 rfl,hfree 4 rfl,hs 11 _ rfl,hs 12 _ rfl,hu7.symm,hu8.symm,hu9.symm,hu10.symm,hu11.symm,hu12.symm,hu13.symm,hu14.symm,hu15.symm,hu16.symm,hu17.symm,hfree 18 rfl,hfree 19 rfl,hfree 20 rfl,hfree 21 rfl,hfree 22 rfl,hfree 23 rfl,hfree 24 rfl,hfree 25 rfl,hfree 26 rfl,trivial⟩
  have hlit:=fun h=>act_lit hd h hal
  rw[hlit hsz]
  simp only[Array.getD_eq_getD_getElem?,List.getElem?_toArray,List.getElem?_cons_zero,List.getElem?_cons_succ,Option.getD_some]
  clear hlit hal hd hsz hfree hs hu7 hu8 hu9 hu10 hu11 hu12 hu13 hu14 hu15 hu16 hu17
  have HL3:=Lib.hid (HLJ.out _ _ _ hC)
  have b1:=(HPF.out w HL3.out).b1
  clear hC
  go_wp2_with (go_at_call 46;(with_reducible refine(HRF.out _).mono ?_);rintro e w7 ⟨rfl,rfl⟩)
  obtain⟨RR,hRR⟩:∃ RR,RR=pt VAL (lt q):=⟨_,rfl⟩
  have HRQ:=Lib.hid hRR
  rw[←hRR,HRR.out] at HPUT
  obtain⟨C,hC9⟩:∃ C:List Bool→World→Prop,C=fun bits w=>bits.length=4∧((bits[3]?=some false∧Later W1 w)∨(bits[3]?=some true∧∃ wx,Later W1 wx∧w=(wx.setCell ⟨W.heap.size+1,0,none⟩ (.string (mkS (ft RR)))).setCell ⟨W.heap.size+1,1,none⟩ (.string (mkS (fm RR))))):=⟨_,rfl⟩
  have HCB:=Lib.hid (show ∀ bits w,C bits w→bits[3]?=some false→Later W1 w from fun bits w hc hb=>by
   rw[hC9] at hc
   rcases hc.2 with⟨_,h⟩ | ⟨h,_⟩
   ·exact h
   ·rw[hb] at h;cases h)
  have HC0:=Lib.hid (show C [false,false,false,false] (w7).drew by rw[hC9];exact⟨rfl,.inl ⟨rfl,HL3.out.trans (Later.drew _)⟩⟩)
  have HST:=Lib.hid (show ∀ bits w w9 k,k<3→C bits w→bits[3]?=some false→Later w w9→C (bits.set k true) w9 from fun bits w w9 k hk hc hb hl=>by
   have h1:=HCB.out bits w hc hb
   rw[hC9] at hc⊢
   exact⟨by rw[List.length_set];exact hc.1,.inl ⟨by rw[List.getElem?_set_ne (by omega)];exact hb,h1.trans hl⟩⟩)
  have HLS:=Lib.hid (show ∀ bits w,C bits w→bits[3]?=some false→C (bits.set 3 true) ((w.setCell ⟨W.heap.size+1,0,none⟩ (.string (mkS (ft RR)))).setCell ⟨W.heap.size+1,1,none⟩ (.string (mkS (fm RR)))) from fun bits w hc hb=>by
   have h1:=HCB.out bits w hc hb
   rw[hC9] at hc⊢
   exact⟨by rw[List.length_set];exact hc.1,.inr ⟨by rw[List.getElem?_set_self (by rw[hc.1];decide)],w,h1,rfl⟩⟩)
  have HFI:=Lib.hid (show ∀ w,C [true,true,true,true] w→∃ wx,Later W1 wx∧w=(wx.setCell ⟨W.heap.size+1,0,none⟩ (.string (mkS (ft RR)))).setCell ⟨W.heap.size+1,1,none⟩ (.string (mkS (fm RR))) from fun w hc=>by
   rw[hC9] at hc
   rcases hc.2 with⟨h,_⟩ | ⟨_,h⟩
   ·cases h
   ·exact h)
  clear hC9 hRR
  refine wp_region_bits (by kernel_rfl) [1,3,4,5] (C) [some (.int .i64 N),some (.string (mkS VAL)),some (.agg #[.int .i64 (k:Int),.string (mkS t),.string (mkS o),.bool q,vw]),some (.int .u8 cq),some (.agg #[.string (mkS (ft RR)),.string (mkS (fm RR))]),none] (by decide) (by decide) (by kernel_rfl) (HC0.out) ?_ ?_
  ·refine⟨?_,?_,?_,?_,?_,?_,trivial⟩
   ·
    refine OwesB.q rfl fun a w bits hC hd hu hs=>⟨rfl,?_⟩
    have e5:a.tmps.getD 5 undef=.int .i64 N:=hs.free 5 rfl
    refine ValWp.pure (v:=.int .i64 N) (fun K' hK'=>?_) ⟨rfl,rfl⟩
    simp only[ValWp,execOp,Act.eval,e5]
    go_simp
    all_goals exact hK'
   ·
    refine fun a w bits hC hd hu hs=>⟨rfl,fun K hK=>?_⟩
    have e22:a.tmps.getD 22 undef=.int .i64 N:=hs.dep 0 _ rfl rfl
    have hb3:=hu 3 5 rfl (.inr rfl)
    have hlw:=HCB.out bits w hC hb3
    refine wp_callN 104 _ _ #[.int .i64 N,.int .i64 10] rfl rfl (by simp only[List.map_toArray,List.map_cons,List.map_nil,Act.eval,e22]) (entO Tryz.func104 rfl rfl) ((HFM.out w hlw).mono ?_)
    rintro e9 w9 ⟨rfl,hl9⟩
    exact⟨_,rfl,hK _ _ rfl (HST.out bits w w9 0 (by decide) hC hb3 hl9)⟩
   ·
    refine OwesB.q rfl fun a w bits hC hd hu hs=>⟨rfl,?_⟩
    have e3:a.tmps.getD 3 undef=.pointer (some ⟨W.heap.size,0,none⟩):=hs.free 3 rfl
    have hb3:=hu 3 5 rfl (.inr rfl)
    have hlw:=HCB.out bits w hC hb3
    exact ValWp.loadR rfl e3 (HPF.out w hlw).pv ⟨rfl,rfl⟩
   ·
    refine fun a w bits hC hd hu hs=>⟨rfl,fun K hK=>?_⟩
    have e24:a.tmps.getD 24 undef=.agg #[.int .i64 (k:Int),.string (mkS t),.string (mkS o),.bool q,vw]:=hs.dep 2 _ rfl rfl
    have hb3:=hu 3 5 rfl (.inr rfl)
    have hlw:=HCB.out bits w hC hb3
    refine wp_callN 105 _ _ #[.agg #[.int .i64 (k:Int),.string (mkS t),.string (mkS o),.bool q,vw]] rfl rfl (by simp only[List.map_toArray,List.map_cons,List.map_nil,Act.eval,e24]) (entO Tryz.func105 rfl rfl) ((HLT.out w).mono ?_)
    rintro e9 w9 ⟨rfl,hl9⟩
    exact⟨_,rfl,hK _ _ rfl (HST.out bits w w9 1 (by decide) hC hb3 hl9)⟩
   ·
    refine fun a w bits hC hd hu hs=>⟨rfl,fun K hK=>?_⟩
    have e23:a.tmps.getD 23 undef=.string (mkS VAL):=hs.dep 1 _ rfl rfl
    have e25:a.tmps.getD 25 undef=.int .u8 cq:=hs.dep 3 _ rfl rfl
    have hb3:=hu 3 5 rfl (.inr rfl)
    have hlw:=HCB.out bits w hC hb3
    refine wp_callN 102 _ _ #[.string (mkS VAL),.int .u8 cq] rfl rfl (by simp only[List.map_toArray,List.map_cons,List.map_nil,Act.eval,e23,e25]) (entO Tryz.func102 rfl rfl) ((HPUT.out w).mono ?_)
    rintro e9 w9 ⟨rfl,hl9⟩
    exact⟨_,rfl,hK _ _ rfl (HST.out bits w w9 2 (by decide) hC hb3 hl9)⟩
   ·
    refine fun a w bits hC hd hu hs=>⟨rfl,fun K hK=>?_⟩
    have e4:a.tmps.getD 4 undef=.pointer (some ⟨W.heap.size+1,0,none⟩):=hs.free 4 rfl
    have e26:a.tmps.getD 26 undef=.agg #[.string (mkS (ft RR)),.string (mkS (fm RR))]:=hs.dep 4 _ rfl rfl
    have hb3:=hu 3 5 rfl (.inl rfl)
    have hlw:=HCB.out bits w hC hb3
    have hf:=HPF.out w hlw
    have q0:=hf.r0
    have q1:=hf.r1
    have z:=hf.z
    refine wp_of_val ?_
    refine ValWp.pure (v:=undef) (w':=(w.setCell ⟨W.heap.size+1,0,none⟩ (.string (mkS (ft RR)))).setCell ⟨W.heap.size+1,1,none⟩ (.string (mkS (fm RR)))) (fun K' hK'=>?_) (hK _ _ trivial (HLS.out bits w hC hb3))
    simp only[ValWp,execOp,Act.eval,e4,e26]
    go_simp
    all_goals exact hK'
  ·intro a w hC hd hsz hfree hs
   obtain⟨z0,u1,u2,z3,z4,u5,u6,u7,u8,u9,u10,u11,u12,u13,u14,u15,u16,u17,u18,u19,u20,u21,u22,u23,u24,u25,u26,hal⟩:=lets a 27 0
   obtain rfl:=hal.on (v:=.pointer (some ⟨g,0,none⟩)) 0 (hfree 0 rfl) rfl
   obtain rfl:=hal.on (v:=.pointer (some ⟨W.heap.size,0,none⟩)) 3 (hfree 3 rfl) rfl
   obtain rfl:=hal.on (v:=.pointer (some ⟨W.heap.size+1,0,none⟩)) 4 (hfree 4 rfl) rfl
   have hlit:=fun h=>act_lit hd h hal
   rw[hlit hsz]
   clear hlit hal hd hsz hfree hs
   obtain⟨wx,hlx,hwx⟩:=HFI.out w hC
   subst hwx
   have HLX:=Lib.hid hlx
   clear hC hlx
   go_wp2
   refine end_row rfl rfl (HPF.out _ HLX.out).rb rfl rfl fun w9 h9=>?_
   rw[HRQ.out]
   exact⟨rfl,later_of_new (HLW.out.trans HLX.out) h9 (by omega)⟩
end Ey
end Go.Proofs.YtipdgmjplnibeaaGreatDoor
