import Derived.Test.YtipdgmjplnibeaaGreatDoorVt
set_option maxRecDepth 100000
set_option maxHeartbeats 12800000
namespace Go.Proofs.YtipdgmjplnibeaaGreatDoor
open Go.RowKit Go.Maps
set_option maxRecDepth 100000
namespace Ey
open Jo (ft fm rows own_ge)
open En (E RdE RdP Vd Rises FrE)
def TlR (W:World) (e:E) (res:Res) (ok:Rw→E→Value→World→Prop) (bad:Value→Prop) (x:Ending) (W':World):Prop:=match res with
 | .ok r e2=>(∃ u v,x=.returned (.tuple #[u,v,.agg #[.int .i64 0,.string ⟨#[]⟩]])∧ok r e2 u W'∧RdE W' v e2∧Sm e2=true∧Rises e2.vars)∧Later W W'
 | .bad n t=>(∃ u v,x=.returned (.tuple #[u,v,.agg #[.int .i64 (n:Int),.string (mkS t)]])∧bad u∧RdE W' v e)∧Later W W'
 | .big=>True
theorem wp_call1 {P:Program} {o:Oper} {a:Act} {w:World} {K:Act→World→Prop} {Q:Exit→Act→World→Prop} (f:FuncId) (i:Tmp) (ats:Array TypeId) (v1:Value) (hop:o.op=.call { callee:=.value (.func f),args:=#[.tmp i],argTypes:=ats }) (hi:a.tmps.getD i undef=v1) (hent:∀ args w,(callFunc f args).run P w=.ok (.enter f args) w)
  (h:Calls P f #[v1] w fun e w'=>∃ r,e=.returned r∧K (a.put o.dst r) w'):Oper.wp P o a w K Q:=by
 have e1:execOp a.eval o=callFunc f #[v1]:=by
  unfold execOp
  simp[hop,resolve,Deferred.ofValue,invoke,Act.eval,hi]
 unfold Oper.wp
 rw[e1,hent]
 refine h.mono fun e w' hh=>?_
 obtain⟨r,rfl,hk⟩:=hh
 exact hk
theorem flt_load {w:World} {g o:Nat} {a b:Value} (c0:w.cell? ⟨g,o,none⟩=some a) (c1:w.cell? ⟨g,o+1,none⟩=some b):(Instr.loadAt 33 (.pointer (some ⟨g,o,none⟩))).run Tryz.prog w=.ok (.agg #[a,b]) w:=by
 refine run_loadAt_mid (P:=Tryz.prog) w g o 33 [a,b] _ (fun j v hv=>?_) Tryz.underlying33 rfl (by kernel_rfl)
 have hj:j<2:=(List.getElem?_eq_some_iff.1 hv).1
 match j,hj with
 | 0,_=>cases hv;exact c0
 | 1,_=>cases hv;exact c1
theorem rv_nil:rv []=.agg #[.string ⟨#[]⟩,.string ⟨#[]⟩]:=rfl
theorem one_of (va:Value) (raw:B) (W:World) (r:Rw) (hr:r.length≤100000) (n:Int) (t:ByteArray) (e2:E) (hva:∃ Av nv cv A na c st fl,va=.agg #[.slice Av nv cv,.slice A na c,.int .i64 st,.string fl]) (hx:∀ w,Later W w→Calls Tryz.prog 21 #[va,.string (mkS raw),.func (.func 22) #[] #[]] w fun x W'=>(∃ v,x=.returned (.tuple #[rv r,v,.agg #[.int .i64 n,.string t]])∧FrE w.heap.size W' v e2)∧Later w W') :
  Calls Tryz.prog 15 #[va,.string (mkS raw)] W fun x W'=>(∃ v,x=.returned (.tuple #[.string (mkS (flat r)),v,.agg #[.int .i64 n,.string t]])∧FrE W.heap.size W' v e2)∧Later W W':=by
 obtain⟨Av,nv,cv,A,na,c,st,fl,rfl⟩:=hva
 have HX:=Lib.hid hx
 have HSO:=Lib.hid (fun W=>solid_v r hr W)
 have HRR:=Lib.hid (fun r:Rw=>show rv r=.agg #[.string (mkS (ft r)),.string (mkS (fm r))] from rfl)
 have hfd:=field_row
 obtain⟨W3,hW3⟩:∃ W3,W3=((W.alloc (.cells #[.slice Av nv cv,.slice A na c,.int .i64 st,.string fl] 28)).alloc (.cells #[.slice none 0 0,.slice none 0 0,.int .i64 0,.string ⟨#[]⟩] 28)).alloc (.cells #[.int .i64 0,.string ⟨#[]⟩] 33):=⟨_,rfl⟩
 have HW3:=Lib.hid hW3
 have HL3:=Lib.hid (show Later W W3 by rw[hW3];exact((Later.alloc _ _).trans (Later.alloc _ _)).trans (Later.alloc _ _))
 clear hx hr hW3
 go_enter Tryz.func15,Tryz.ntmps15
 go_wp2_with (go_at_call 21;rw[←HW3.out];(with_reducible refine(HX.out _ HL3.out).mono ?_);rintro e9 w4 ⟨⟨v4,rfl,hrd4⟩,hl4⟩;obtain⟨va4,A4,n4,c4,rfl,hp4,_⟩:=hrd4.rd;obtain⟨Av4,cv4,rfl,_⟩:=hp4.le;rw[HRR.out];have HRD4:=Lib.hid hrd4;have HL4:=Lib.hid hl4;clear hrd4 hl4 hp4)
 obtain⟨st2,hst2⟩:∃ st2:Int,st2=e2.status:=⟨_,rfl⟩
 obtain⟨fl2,hfl2⟩:∃ fl2,fl2=mkS e2.flags:=⟨_,rfl⟩
 have HS2:=Lib.hid (And.intro hst2 hfl2)
 rw[←hst2,←hfl2]
 obtain⟨w5,hw5⟩:∃ w5,w5=((w4.alloc (.cells #[.string (mkS (ft r)),.string (mkS (fm r))] 37)).alloc (.cells #[.slice Av4 e2.vars.length cv4,.slice A4 n4 c4,.int .i64 st2,.string fl2] 28)).alloc (.cells #[.int .i64 n,.string t] 33):=⟨_,rfl⟩
 have hl5:Later w4 w5:=by rw[hw5];exact((Later.alloc _ _).trans (Later.alloc _ _)).trans (Later.alloc _ _)
 have hb7:w5.heap[w4.heap.size]?=some (.cells #[.string (mkS (ft r)),.string (mkS (fm r))] 37 (0,0)):=by rw[hw5];exact later_cells (Later.alloc _ _) (later_cells (Later.alloc _ _) (heap_alloc_new _ _))
 have hb8:w5.heap[w4.heap.size+1]?=some (.cells #[.slice Av4 e2.vars.length cv4,.slice A4 n4 c4,.int .i64 st2,.string fl2] 28 (0,0)):=by
  have:=heap_alloc_new (w4.alloc (.cells #[.string (mkS (ft r)),.string (mkS (fm r))] 37)) (.cells #[.slice Av4 e2.vars.length cv4,.slice A4 n4 c4,.int .i64 st2,.string fl2] 28)
  rw[World.size_alloc] at this
  rw[hw5]
  exact later_cells (Later.alloc _ _) this
 have hb9:w5.heap[w4.heap.size+1+1]?=some (.cells #[.int .i64 n,.string t] 33 (0,0)):=by
  have:=heap_alloc_new ((w4.alloc (.cells #[.string (mkS (ft r)),.string (mkS (fm r))] 37)).alloc (.cells #[.slice Av4 e2.vars.length cv4,.slice A4 n4 c4,.int .i64 st2,.string fl2] 28)) (.cells #[.int .i64 n,.string t] 33)
  rw[World.size_alloc,World.size_alloc] at this
  rw[hw5]
  exact this
 rw[←hw5]
 have hV3:W3.heap[W.heap.size+1]?=some (.cells #[.slice none 0 0,.slice none 0 0,.int .i64 0,.string ⟨#[]⟩] 28 (0,0)):=by
  have:=heap_alloc_new (W.alloc (.cells #[.slice Av nv cv,.slice A na c,.int .i64 st,.string fl] 28)) (.cells #[.slice none 0 0,.slice none 0 0,.int .i64 0,.string ⟨#[]⟩] 28)
  rw[World.size_alloc] at this
  rw[HW3.out]
  exact later_cells (Later.alloc _ _) this
 have hF3:W3.heap[W.heap.size+1+1]?=some (.cells #[.int .i64 0,.string ⟨#[]⟩] 33 (0,0)):=by
  have:=heap_alloc_new ((W.alloc (.cells #[.slice Av nv cv,.slice A na c,.int .i64 st,.string fl] 28)).alloc (.cells #[.slice none 0 0,.slice none 0 0,.int .i64 0,.string ⟨#[]⟩] 28)) (.cells #[.int .i64 0,.string ⟨#[]⟩] 33)
  rw[World.size_alloc,World.size_alloc] at this
  rw[HW3.out]
  exact this
 have hV5:=later_cells (HL4.out.trans hl5) hV3
 have hF5:=later_cells (HL4.out.trans hl5) hF3
 have hvl:=lt_of_block (later_cells HL4.out hF3)
 have HL5:=Lib.hid hl5
 have HVL:=Lib.hid hvl
 obtain⟨SV4,hSV4⟩:∃ f:World→World,f=fun w=>(((w.setCell ⟨W.heap.size+1,0,none⟩ (.slice Av4 e2.vars.length cv4)).setCell ⟨W.heap.size+1,1,none⟩ (.slice A4 n4 c4)).setCell ⟨W.heap.size+1,2,none⟩ (.int .i64 st2)).setCell ⟨W.heap.size+1,3,none⟩ (.string fl2):=⟨_,rfl⟩
 have hgv:∀ w:World,w.grownBy (SV4 w) (some (W.heap.size+1)):=fun w=>by rw[hSV4];exact only_trans (only_trans (only_trans (set_only _ _ _ _) (set_only _ _ _ _)) (set_only _ _ _ _)) (set_only _ _ _ _)
 obtain⟨C0,hC0⟩:∃ C0:Nat→Value→World→Prop,C0=fun j u w=>(j=0∧Later w5 w)∨(j=1∧Later w5 w)∨(j=2∧∃ wx,Later w5 wx∧w=SV4 wx)∨(j=3∧∃ wx,Later w5 wx∧w=((SV4 wx).setCell ⟨W.heap.size+1+1,0,none⟩ (.int .i64 n)).setCell ⟨W.heap.size+1+1,1,none⟩ (.string t)):=⟨_,rfl⟩
 have HJL:=Lib.hid (show ∀ j u w,C0 j u w→j≤1→Later w5 w from fun j u w hc hj=>by
  rw[hC0] at hc
  rcases hc with⟨_,h⟩ | ⟨_,h⟩ | ⟨e,_⟩ | ⟨e,_⟩
  ·exact h
  ·exact h
  ·omega
  ·omega)
 have HJ0:=Lib.hid (show ∀ u w,C0 0 u w→Later w5 w from fun u w hc=>HJL.out 0 u w hc (by omega))
 have HLR:=Lib.hid (show ∀ j u w,C0 j u w→j≤0→(Instr.loadAt 37 (.pointer (some ⟨w4.heap.size,0,none⟩))).run Tryz.prog w=.ok (.agg #[.string (mkS (ft r)),.string (mkS (fm r))]) w from fun j u w hc hj=>by
  have hb:=later_cells (HJL.out j u w hc (by omega)) hb7
  exact Jo.row_load (cell_row hb 0).1 (cell_row hb 1).1)
 have HLE:=Lib.hid (show ∀ j u w,C0 j u w→j≤1→(Instr.loadAt 28 (.pointer (some ⟨w4.heap.size+1,0,none⟩))).run Tryz.prog w=.ok (.agg #[.slice Av4 e2.vars.length cv4,.slice A4 n4 c4,.int .i64 st2,.string fl2]) w from fun j u w hc hj=>by
  have hb:=later_cells (HJL.out j u w hc hj) hb8
  exact env_load (cell_row hb 0).1 (cell_row hb 1).1 (cell_row hb 2).1 (cell_row hb 3).1)
 have HLF:=Lib.hid (show ∀ j u w,C0 j u w→j≤2→(Instr.loadAt 33 (.pointer (some ⟨w4.heap.size+1+1,0,none⟩))).run Tryz.prog w=.ok (.agg #[.int .i64 n,.string t]) w from fun j u w hc hj=>by
  have hb:w.heap[w4.heap.size+1+1]?=some (.cells #[.int .i64 n,.string t] 33 (0,0)):=by
   rw[hC0] at hc
   rcases hc with⟨_,h⟩ | ⟨_,h⟩ | ⟨_,wx,h,rfl⟩ | ⟨e,_⟩
   ·exact later_cells h hb9
   ·exact later_cells h hb9
   ·exact grown_cells (hgv wx) (later_cells h hb9) (by omega)
   ·omega
  exact flt_load (cell_row hb 0).1 (cell_row hb 1).1)
 have H0:=Lib.hid (show C0 0 undef w5.drew by rw[hC0];exact .inl ⟨rfl,Later.drew _⟩)
 have H1:=Lib.hid (show ∀ u w,Later w5 w→C0 1 u w from fun u w h=>by rw[hC0];exact .inr (.inl ⟨rfl,h⟩))
 have H2:=Lib.hid (show ∀ u w,C0 1 u w→w.cell? ⟨W.heap.size+1,0,none⟩=some (.slice none 0 0)∧w.cell? ⟨W.heap.size+1,1,none⟩=some (.slice none 0 0)∧w.cell? ⟨W.heap.size+1,2,none⟩=some (.int .i64 0)∧w.cell? ⟨W.heap.size+1,3,none⟩=some (.string ⟨#[]⟩)∧(∀ i,w.frozen? ⟨W.heap.size+1,i,none⟩=false)∧C0 2 undef ((((w.setCell ⟨W.heap.size+1,0,none⟩ (.slice Av4 e2.vars.length cv4)).setCell ⟨W.heap.size+1,1,none⟩ (.slice A4 n4 c4)).setCell ⟨W.heap.size+1,2,none⟩ (.int .i64 st2)).setCell ⟨W.heap.size+1,3,none⟩ (.string fl2)) from fun u w hc=>by
  have hw:=HJL.out 1 u w hc (by omega)
  have hb:=later_cells hw hV5
  refine⟨(cell_row hb 0).1,(cell_row hb 1).1,(cell_row hb 2).1,(cell_row hb 3).1,fun i=>(cell_row hb i).2,?_⟩
  rw[hC0]
  exact .inr (.inr (.inl ⟨rfl,w,hw,by rw[hSV4]⟩)))
 have H3:=Lib.hid (show ∀ u w,C0 2 u w→w.cell? ⟨W.heap.size+1+1,0,none⟩=some (.int .i64 0)∧w.cell? ⟨W.heap.size+1+1,1,none⟩=some (.string ⟨#[]⟩)∧(∀ i,w.frozen? ⟨W.heap.size+1+1,i,none⟩=false)∧C0 3 undef ((w.setCell ⟨W.heap.size+1+1,0,none⟩ (.int .i64 n)).setCell ⟨W.heap.size+1+1,1,none⟩ (.string t)) from fun u w hc=>by
  have hc2:=hc
  rw[hC0] at hc2
  rcases hc2 with⟨e,_⟩ | ⟨e,_⟩ | ⟨_,wx,h,rfl⟩ | ⟨e,_⟩
  ·cases e
  ·cases e
  ·have hb:=grown_cells (hgv wx) (later_cells h hF5) (by omega)
   refine⟨(cell_row hb 0).1,(cell_row hb 1).1,fun i=>(cell_row hb i).2,?_⟩
   rw[hC0]
   exact .inr (.inr (.inr ⟨rfl,wx,h,rfl⟩))
  ·cases e)
 have HFI:=Lib.hid (show ∀ u w,C0 3 u w→w4.heap.size≤w.heap.size∧w.heap[W.heap.size+1]?=some (.cells #[.slice Av4 e2.vars.length cv4,.slice A4 n4 c4,.int .i64 st2,.string fl2] 28 (0,0))∧w.heap[W.heap.size+1+1]?=some (.cells #[.int .i64 n,.string t] 33 (0,0))∧Later W w∧∀ k,k<w4.heap.size→W3.heap.size≤k→w.heap[k]?=w4.heap[k]? from fun u w hc=>by
  rw[hC0] at hc
  rcases hc with⟨e,_⟩ | ⟨e,_⟩ | ⟨e,_⟩ | ⟨_,wx,h,rfl⟩
  ·cases e
  ·cases e
  ·cases e
  ·have hg1:=hgv wx
   have hg2:=only_trans (set_only (SV4 wx) (W.heap.size+1+1) 0 (.int .i64 n)) (set_only _ (W.heap.size+1+1) 1 (.string t))
   have hv1:(SV4 wx).heap[W.heap.size+1]?=some (.cells #[.slice Av4 e2.vars.length cv4,.slice A4 n4 c4,.int .i64 st2,.string fl2] 28 (0,0)):=by rw[hSV4];exact set_row (set_row (set_row (set_row (later_cells h hV5) 0 _) 1 _) 2 _) 3 _
   have hw3:=lt_of_block hF3
   have hsz3:W3.heap.size=W.heap.size+3:=by rw[HW3.out];simp only[World.size_alloc]
   have h45:=hl5.trans h
   refine⟨Nat.le_trans h45.size (Nat.le_trans hg1.size hg2.size),grown_cells hg2 hv1 (by omega),set_row (set_row (grown_cells hg1 (later_cells h hF5) (by omega)) 0 _) 1 _,later_of_new (later_of_new ((HL3.out.trans HL4.out).trans h45) hg1 (by omega)) hg2 (by omega),fun k hk hk3=>?_⟩
   exact(hg2.block k (Nat.lt_of_lt_of_le hk (Nat.le_trans h45.size hg1.size)) (fun e=>by have:=Option.some.inj e;omega)).trans ((hg1.block k (Nat.lt_of_lt_of_le hk h45.size) (fun e=>by have:=Option.some.inj e;omega)).trans (h45.block k hk)))
 clear hC0 hst2 hfl2 hw5 hl5 hb7 hb8 hb9 hV3 hF3 hV5 hF5 hvl hSV4 hgv
 refine wp_region_seq (by kernel_rfl) [1,6,7] (C0) [some (.agg #[.string (mkS (ft r)),.string (mkS (fm r))]),some (.agg #[.string (mkS (ft (solid r))),.string (mkS (fm (solid r)))]),some (.string (mkS (ft (solid r)))),some (.agg #[.slice Av4 e2.vars.length cv4,.slice A4 n4 c4,.int .i64 st2,.string fl2]),some (.agg #[.int .i64 n,.string t]),some (.string (mkS (ft (solid r)))),none,none] (by decide) (by decide) (by kernel_rfl) (by kernel_rfl) (H0.out) ?_ ?_
 ·refine⟨?_,?_,?_,?_,?_,?_,?_,?_,trivial⟩
  ·
   refine OwesS.q rfl fun a w j u hC hb hs=>⟨rfl,?_⟩
   have e7:a.tmps.getD 7 undef=.pointer (some ⟨w4.heap.size,0,none⟩):=hs.free 7 rfl
   have hj:=hb 0 1 rfl rfl
   exact ValWp.loadR rfl e7 (HLR.out j u w hC hj) ⟨rfl,rfl⟩
  ·
   refine OwesS.w rfl fun a w u hC hl hs=>⟨rfl,fun K hK=>?_⟩
   have e17:a.tmps.getD 17 undef=.agg #[.string (mkS (ft r)),.string (mkS (fm r))]:=hs.dep 0 _ rfl rfl
   have hw:=HJ0.out u w hC
   refine wp_call1 33 17 _ _ rfl e17 (entO Tryz.func33 rfl rfl) ((HSO.out w).mono ?_)
   rintro e9 w9 ⟨rfl,hl9⟩
   rw[HRR.out]
   exact⟨_,rfl,hK _ _ rfl (H1.out _ w9 (hw.trans hl9))⟩
  ·
   refine OwesS.q rfl fun a w j u hC hb hs=>⟨rfl,?_⟩
   have e18:a.tmps.getD 18 undef=.agg #[.string (mkS (ft (solid r))),.string (mkS (fm (solid r)))]:=hs.dep 1 _ rfl rfl
   refine ValWp.pure (v:=.string (mkS (ft (solid r)))) (fun K' hK'=>?_) ⟨rfl,rfl⟩
   have hfd:=field_row
   simp only[ValWp,execOp,Act.eval,e18]
   go_simp
   all_goals exact hK'
  ·
   refine OwesS.q rfl fun a w j u hC hb hs=>⟨rfl,?_⟩
   have e8:a.tmps.getD 8 undef=.pointer (some ⟨w4.heap.size+1,0,none⟩):=hs.free 8 rfl
   have hj:=hb 1 6 rfl rfl
   exact ValWp.loadR rfl e8 (HLE.out j u w hC hj) ⟨rfl,rfl⟩
  ·
   refine OwesS.q rfl fun a w j u hC hb hs=>⟨rfl,?_⟩
   have e9:a.tmps.getD 9 undef=.pointer (some ⟨w4.heap.size+1+1,0,none⟩):=hs.free 9 rfl
   have hj:=hb 2 7 rfl rfl
   exact ValWp.loadR rfl e9 (HLF.out j u w hC hj) ⟨rfl,rfl⟩
  ·
   refine OwesS.q rfl fun a w j u hC hb hs=>⟨rfl,?_⟩
   have e19:a.tmps.getD 19 undef=.string (mkS (ft (solid r))):=hs.dep 2 _ rfl rfl
   refine ValWp.pure (v:=.string (mkS (ft (solid r)))) (fun K' hK'=>?_) ⟨rfl,rfl⟩
   simp only[ValWp,execOp,Act.eval,e19]
   go_simp
   all_goals exact hK'
  ·
   refine OwesS.w rfl fun a w u hC hl hs=>⟨rfl,fun K hK=>?_⟩
   have e5:a.tmps.getD 5 undef=.pointer (some ⟨W.heap.size+1,0,none⟩):=hs.free 5 rfl
   have e20:a.tmps.getD 20 undef=.agg #[.slice Av4 e2.vars.length cv4,.slice A4 n4 c4,.int .i64 st2,.string fl2]:=hs.dep 3 _ rfl rfl
   have hw:=H2.out u w hC
   obtain⟨q0,q1,q2,q3,z,h1⟩:=hw
   refine wp_of_val ?_
   refine ValWp.pure (v:=undef) (w':=(((w.setCell ⟨W.heap.size+1,0,none⟩ (.slice Av4 e2.vars.length cv4)).setCell ⟨W.heap.size+1,1,none⟩ (.slice A4 n4 c4)).setCell ⟨W.heap.size+1,2,none⟩ (.int .i64 st2)).setCell ⟨W.heap.size+1,3,none⟩ (.string fl2)) (fun K' hK'=>?_) (hK _ _ trivial h1)
   simp only[ValWp,execOp,Act.eval,e5,e20]
   go_simp
   all_goals exact hK'
  ·
   refine OwesS.w rfl fun a w u hC hl hs=>⟨rfl,fun K hK=>?_⟩
   have e6:a.tmps.getD 6 undef=.pointer (some ⟨W.heap.size+1+1,0,none⟩):=hs.free 6 rfl
   have e21:a.tmps.getD 21 undef=.agg #[.int .i64 n,.string t]:=hs.dep 4 _ rfl rfl
   have hw:=H3.out u w hC
   obtain⟨q0,q1,z,h1⟩:=hw
   refine wp_of_val ?_
   refine ValWp.pure (v:=undef) (w':=(w.setCell ⟨W.heap.size+1+1,0,none⟩ (.int .i64 n)).setCell ⟨W.heap.size+1+1,1,none⟩ (.string t)) (fun K' hK'=>?_) (hK _ _ trivial h1)
   simp only[ValWp,execOp,Act.eval,e6,e21]
   go_simp
   all_goals exact hK'
 ·intro a w u hC hl hd hsz hfree hs
  obtain⟨u17,hu17⟩:∃ u,u=a.tmps.getD 17 undef:=⟨_,rfl⟩
  obtain⟨u18,hu18⟩:∃ u,u=a.tmps.getD 18 undef:=⟨_,rfl⟩
  obtain⟨u19,hu19⟩:∃ u,u=a.tmps.getD 19 undef:=⟨_,rfl⟩
  obtain⟨u20,hu20⟩:∃ u,u=a.tmps.getD 20 undef:=⟨_,rfl⟩
  obtain⟨u21,hu21⟩:∃ u,u=a.tmps.getD 21 undef:=⟨_,rfl⟩
  have hal:AllAt a 0 [_,_,_,_,.string (mkS (ft (solid r))),_,_,_,_,_,_,_,_,_,_,_,_,u17,u18,u19,u20,u21]:=⟨hfree 0 rfl,hfree 1 rfl,hfree 2 rfl,hfree 3 rfl,hs 5 _ rfl,hfree 5 rfl,hfree 6 rfl,hfree 7 rfl,hfree 8 rfl,hfree 9 rfl,hfree 10 rfl,hfree 11 rfl,hfree 12 rfl,hfree 13 rfl,hfree 14 rfl,hfree 15 rfl,hfree 16 rfl,hu17.symm,hu18.symm,hu19.symm,hu20.symm,hu21.symm,trivial⟩
  have hlit:=fun h=>act_lit hd h hal
  rw[hlit hsz]
  simp only[Array.getD_eq_getD_getElem?,List.getElem?_toArray,List.getElem?_cons_zero,List.getElem?_cons_succ,Option.getD_some]
  clear hlit hal hd hsz hfree hs hu17 hu18 hu19 hu20 hu21
  obtain⟨hsz,hV,hF,hlw,hkeep⟩:=HFI.out u w hC
  have HZ:=Lib.hid (And.intro hsz (And.intro hlw hkeep))
  have c0:=(cell_row hV 0).1
  have c1:=(cell_row hV 1).1
  have c2:=(cell_row hV 2).1
  have c3:=(cell_row hV 3).1
  have f0:=(cell_row hF 0).1
  have f1:=(cell_row hF 1).1
  clear hC hl hsz hlw hkeep hV hF
  go_wp2
  obtain⟨q1,q2⟩:=HS2.out
  obtain⟨hsz,hlw,hkeep⟩:=HZ.out
  have hs3:W3.heap.size=W.heap.size+3:=by rw[HW3.out];simp only[World.size_alloc]
  refine bodyPost_ret (v:=.tuple #[.string (mkS (flat r)),.agg #[.slice Av4 e2.vars.length cv4,.slice A4 n4 c4,.int .i64 st2,.string fl2],.agg #[.int .i64 n,.string t]]) ?_ rfl ⟨⟨_,rfl,fun w' z1 z2=>?_⟩,hlw⟩
  ·simp[results,Tryz.results15,go_sem,c0,c1,c2,c3,f0,f1]
   rfl
  ·rw[q1,q2]
   exact HRD4.out w' (Nat.le_trans hsz z1) fun k hk hk2=>(z2 k (by omega) (Nat.lt_of_lt_of_le hk2 hsz)).trans (hkeep k hk2 hk)
end Ey
end Go.Proofs.YtipdgmjplnibeaaGreatDoor
namespace Go.Proofs.YtipdgmjplnibeaaGreatDoor
open Go.RowKit Go.Maps
set_option maxRecDepth 100000
namespace Ey
open Jo (ft fm rows own_ge)
open En (E RdE RdP Vd Rises FrE)
theorem zip_row (r:Rw):(ft r).zip (fm r)=r:=by
 unfold ft fm
 induction r with
 | nil=>rfl
 | cons a r ih=>simp only[List.map_cons,List.zip_cons_cons,ih]
def Rf (a b c d:Value) (base:Nat) (out:List Rw):Nat→Value→World→Prop
 | 0,v,_=>v=a
 | 1,v,_=>v=b
 | 2,v,_=>v=c
 | 3,v,w=>w.ownsRow base 37 2 v out.length (rows out)
 | 4,v,_=>v=b
 | 5,v,_=>v=d
 | 6,v,w=>w.ownsRow base 37 2 v out.length (rows out)
 | _,_,_=>True
theorem rf_mono {a b c d:Value} {base x y:Nat} {out:List Rw} (hx:x<base) (hy:y<base) (i:Nat) (v:Value) (w w':World) (hg:w.grownBy w' none∨w.grownBy w' (some x)∨w.grownBy w' (some y)) (h:Rf a b c d base out i v w):Rf a b c d base out i v w':=by
 have key:w.ownsRow base 37 2 v out.length (rows out)→w'.ownsRow base 37 2 v out.length (rows out):=fun h=>by
  rcases hg with hg | hg | hg
  ·exact h.kept hg (by cases v.ownBlock <;> simp)
  ·exact h.kept hg (.inr fun e=>by have:=(own_ge h e).1;omega)
  ·exact h.kept hg (.inr fun e=>by have:=(own_ge h e).1;omega)
 match i with
 | 0 | 1 | 2 | 4 | 5=>exact h
 | 3=>exact key h
 | 6=>exact key h
 | n+7=>trivial
theorem fields_of (va:Value) (raw:B) (W:World) (r:Rw) (hr:r.length≤100000) (n:Int) (t:ByteArray) (e2:E) (hva:∃ Av nv cv A na c st fl,va=.agg #[.slice Av nv cv,.slice A na c,.int .i64 st,.string fl]) (hx:∀ w,Later W w→Calls Tryz.prog 21 #[va,.string (mkS raw),.func (.func 22) #[] #[]] w fun x W'=>(∃ v,x=.returned (.tuple #[rv r,v,.agg #[.int .i64 n,.string t]])∧FrE w.heap.size W' v e2)∧Later w W') :
  Calls Tryz.prog 12 #[va,.string (mkS raw)] W fun x W'=>(∃ u v,x=.returned (.tuple #[u,v,.agg #[.int .i64 n,.string t]])∧W'.ownsRow W.heap.size 37 2 u (Jo.split (En.ifs e2.vars) r).length (rows (Jo.split (En.ifs e2.vars) r))∧FrE W.heap.size W' v e2)∧Later W W':=by
 obtain⟨Av,nv,cv,A,na,c,st,fl,rfl⟩:=hva
 have HX:=Lib.hid hx
 have HSP:=Lib.hid (show ∀ w,Calls Tryz.prog 23 #[.agg #[.string (mkS (ft r)),.string (mkS (fm r))],.string (mkS (En.ifs e2.vars))] w fun e w'=>∃ v,e=.returned v∧Later w w'∧w'.ownsRow w.heap.size 37 2 v (Jo.split (En.ifs e2.vars) r).length (rows (Jo.split (En.ifs e2.vars) r)) from fun w=>by
  have:=Jo.split_v (ft r) (fm r) (En.ifs e2.vars) w (by unfold ft;rw[List.length_map];omega) (by rw[zip_row];omega)
  rw[zip_row] at this
  exact this)
 have HRR:=Lib.hid (fun r:Rw=>show rv r=.agg #[.string (mkS (ft r)),.string (mkS (fm r))] from rfl)
 have hfd:=field_row
 obtain⟨W3,hW3⟩:∃ W3,W3=((W.alloc (.cells #[.slice Av nv cv,.slice A na c,.int .i64 st,.string fl] 28)).alloc (.cells #[.slice none 0 0,.slice none 0 0,.int .i64 0,.string ⟨#[]⟩] 28)).alloc (.cells #[.int .i64 0,.string ⟨#[]⟩] 33):=⟨_,rfl⟩
 have HW3:=Lib.hid hW3
 have HL3:=Lib.hid (show Later W W3 by rw[hW3];exact((Later.alloc _ _).trans (Later.alloc _ _)).trans (Later.alloc _ _))
 clear hx hr hW3
 go_enter Tryz.func12,Tryz.ntmps12
 go_wp2_with (go_at_call 21;rw[←HW3.out];(with_reducible refine(HX.out _ HL3.out).mono ?_);rintro e9 w4 ⟨⟨v4,rfl,hrd4⟩,hl4⟩;obtain⟨va4,A4,n4,c4,rfl,hp4,_⟩:=hrd4.rd;obtain⟨Av4,cv4,rfl,_⟩:=hp4.le;rw[HRR.out];have HRD4:=Lib.hid hrd4;have HL4:=Lib.hid hl4;clear hrd4 hl4 hp4)
 obtain⟨st2,hst2⟩:∃ st2:Int,st2=e2.status:=⟨_,rfl⟩
 obtain⟨fl2,hfl2⟩:∃ fl2,fl2=mkS e2.flags:=⟨_,rfl⟩
 have HS2:=Lib.hid (And.intro hst2 hfl2)
 rw[←hst2,←hfl2]
 obtain⟨w5,hw5⟩:∃ w5,w5=((w4.alloc (.cells #[.string (mkS (ft r)),.string (mkS (fm r))] 37)).alloc (.cells #[.slice Av4 e2.vars.length cv4,.slice A4 n4 c4,.int .i64 st2,.string fl2] 28)).alloc (.cells #[.int .i64 n,.string t] 33):=⟨_,rfl⟩
 have hl5:Later w4 w5:=by rw[hw5];exact((Later.alloc _ _).trans (Later.alloc _ _)).trans (Later.alloc _ _)
 have hb7:w5.heap[w4.heap.size]?=some (.cells #[.string (mkS (ft r)),.string (mkS (fm r))] 37 (0,0)):=by rw[hw5];exact later_cells (Later.alloc _ _) (later_cells (Later.alloc _ _) (heap_alloc_new _ _))
 have hb8:w5.heap[w4.heap.size+1]?=some (.cells #[.slice Av4 e2.vars.length cv4,.slice A4 n4 c4,.int .i64 st2,.string fl2] 28 (0,0)):=by
  have:=heap_alloc_new (w4.alloc (.cells #[.string (mkS (ft r)),.string (mkS (fm r))] 37)) (.cells #[.slice Av4 e2.vars.length cv4,.slice A4 n4 c4,.int .i64 st2,.string fl2] 28)
  rw[World.size_alloc] at this
  rw[hw5]
  exact later_cells (Later.alloc _ _) this
 have hb9:w5.heap[w4.heap.size+1+1]?=some (.cells #[.int .i64 n,.string t] 33 (0,0)):=by
  have:=heap_alloc_new ((w4.alloc (.cells #[.string (mkS (ft r)),.string (mkS (fm r))] 37)).alloc (.cells #[.slice Av4 e2.vars.length cv4,.slice A4 n4 c4,.int .i64 st2,.string fl2] 28)) (.cells #[.int .i64 n,.string t] 33)
  rw[World.size_alloc,World.size_alloc] at this
  rw[hw5]
  exact this
 rw[←hw5]
 have hV3:W3.heap[W.heap.size+1]?=some (.cells #[.slice none 0 0,.slice none 0 0,.int .i64 0,.string ⟨#[]⟩] 28 (0,0)):=by
  have:=heap_alloc_new (W.alloc (.cells #[.slice Av nv cv,.slice A na c,.int .i64 st,.string fl] 28)) (.cells #[.slice none 0 0,.slice none 0 0,.int .i64 0,.string ⟨#[]⟩] 28)
  rw[World.size_alloc] at this
  rw[HW3.out]
  exact later_cells (Later.alloc _ _) this
 have hF3:W3.heap[W.heap.size+1+1]?=some (.cells #[.int .i64 0,.string ⟨#[]⟩] 33 (0,0)):=by
  have:=heap_alloc_new ((W.alloc (.cells #[.slice Av nv cv,.slice A na c,.int .i64 st,.string fl] 28)).alloc (.cells #[.slice none 0 0,.slice none 0 0,.int .i64 0,.string ⟨#[]⟩] 28)) (.cells #[.int .i64 0,.string ⟨#[]⟩] 33)
  rw[World.size_alloc,World.size_alloc] at this
  rw[HW3.out]
  exact this
 have hV5:=later_cells (HL4.out.trans hl5) hV3
 have hF5:=later_cells (HL4.out.trans hl5) hF3
 have hvl:=lt_of_block (later_cells HL4.out hF3)
 have HL5:=Lib.hid hl5
 have HVL:=Lib.hid hvl
 obtain⟨SV4,hSV4⟩:∃ f:World→World,f=fun w=>(((w.setCell ⟨W.heap.size+1,0,none⟩ (.slice Av4 e2.vars.length cv4)).setCell ⟨W.heap.size+1,1,none⟩ (.slice A4 n4 c4)).setCell ⟨W.heap.size+1,2,none⟩ (.int .i64 st2)).setCell ⟨W.heap.size+1,3,none⟩ (.string fl2):=⟨_,rfl⟩
 have hgv:∀ w:World,w.grownBy (SV4 w) (some (W.heap.size+1)):=fun w=>by rw[hSV4];exact only_trans (only_trans (only_trans (set_only _ _ _ _) (set_only _ _ _ _)) (set_only _ _ _ _)) (set_only _ _ _ _)
 obtain⟨ifs,hifs⟩:∃ x,x=En.ifs e2.vars:=⟨_,rfl⟩
 obtain⟨out,hout⟩:∃ x,x=Jo.split (En.ifs e2.vars) r:=⟨_,rfl⟩
 have HOU:=Lib.hid hout
 rw[←hout,←hifs] at HSP
 have HIF:=Lib.hid (show ∀ w,Later w5 w→Calls Tryz.prog 24 #[.agg #[.slice Av4 e2.vars.length cv4,.slice A4 n4 c4,.int .i64 st2,.string fl2]] w fun x W'=>x=.returned (.string (mkS ifs))∧Later w W' from fun w hw=>by
  rw[hifs,hst2,hfl2]
  exact En.ifs_v _ e2 w (HRD4.out.rd.later (hl5.trans hw)))
 obtain⟨C0,hC0⟩:∃ C0:List Bool→World→Prop,C0=fun bits w=>bits.length=4∧((bits[2]?=some false∧bits[3]?=some false∧Later w5 w)∨(bits[2]?=some true∧bits[3]?=some false∧∃ wx,Later w5 wx∧w=SV4 wx)∨(bits[2]?=some true∧bits[3]?=some true∧∃ wx,Later w5 wx∧w=((SV4 wx).setCell ⟨W.heap.size+1+1,0,none⟩ (.int .i64 n)).setCell ⟨W.heap.size+1+1,1,none⟩ (.string t))):=⟨_,rfl⟩
 have HJL:=Lib.hid (show ∀ bits w,C0 bits w→bits[2]?=some false→Later w5 w from fun bits w hc h2=>by
  rw[hC0] at hc
  rcases hc.2 with⟨_,_,h⟩ | ⟨e,_⟩ | ⟨e,_⟩
  ·exact h
  ·rw[h2] at e;cases e
  ·rw[h2] at e;cases e)
 have HLR:=Lib.hid (show ∀ w,Later w5 w→(Instr.loadAt 37 (.pointer (some ⟨w4.heap.size,0,none⟩))).run Tryz.prog w=.ok (.agg #[.string (mkS (ft r)),.string (mkS (fm r))]) w from fun w hw=>by
  have hb:=later_cells hw hb7
  exact Jo.row_load (cell_row hb 0).1 (cell_row hb 1).1)
 have HLE:=Lib.hid (show ∀ w,Later w5 w→(Instr.loadAt 28 (.pointer (some ⟨w4.heap.size+1,0,none⟩))).run Tryz.prog w=.ok (.agg #[.slice Av4 e2.vars.length cv4,.slice A4 n4 c4,.int .i64 st2,.string fl2]) w from fun w hw=>by
  have hb:=later_cells hw hb8
  exact env_load (cell_row hb 0).1 (cell_row hb 1).1 (cell_row hb 2).1 (cell_row hb 3).1)
 have HLF:=Lib.hid (show ∀ bits w,C0 bits w→bits[3]?=some false→(Instr.loadAt 33 (.pointer (some ⟨w4.heap.size+1+1,0,none⟩))).run Tryz.prog w=.ok (.agg #[.int .i64 n,.string t]) w from fun bits w hc h3=>by
  have hb:w.heap[w4.heap.size+1+1]?=some (.cells #[.int .i64 n,.string t] 33 (0,0)):=by
   rw[hC0] at hc
   rcases hc.2 with⟨_,_,h⟩ | ⟨_,_,wx,h,rfl⟩ | ⟨_,e,_⟩
   ·exact later_cells h hb9
   ·exact grown_cells (hgv wx) (later_cells h hb9) (by omega)
   ·rw[h3] at e;cases e
  exact flt_load (cell_row hb 0).1 (cell_row hb 1).1)
 have H0:=Lib.hid (show C0 [false,false,false,false] w5.drew by rw[hC0];exact⟨rfl,.inl ⟨rfl,rfl,Later.drew _⟩⟩)
 have H1:=Lib.hid (show ∀ bits w w9 k,k<2→C0 bits w→bits[2]?=some false→Later w w9→C0 (bits.set k true) w9 from fun bits w w9 k hk hc h2 hl=>by
  have hw:=HJL.out bits w hc h2
  rw[hC0] at hc⊢
  refine⟨by rw[List.length_set];exact hc.1,.inl ⟨by rw[List.getElem?_set_ne (by omega)];exact h2,?_,hw.trans hl⟩⟩
  rw[List.getElem?_set_ne (by omega)]
  rcases hc.2 with⟨_,h,_⟩ | ⟨e,_⟩ | ⟨e,_⟩
  ·exact h
  ·rw[h2] at e;cases e
  ·rw[h2] at e;cases e)
 have H2:=Lib.hid (show ∀ bits w,C0 bits w→bits[2]?=some false→w.cell? ⟨W.heap.size+1,0,none⟩=some (.slice none 0 0)∧w.cell? ⟨W.heap.size+1,1,none⟩=some (.slice none 0 0)∧w.cell? ⟨W.heap.size+1,2,none⟩=some (.int .i64 0)∧w.cell? ⟨W.heap.size+1,3,none⟩=some (.string ⟨#[]⟩)∧(∀ i,w.frozen? ⟨W.heap.size+1,i,none⟩=false)∧C0 (bits.set 2 true) ((((w.setCell ⟨W.heap.size+1,0,none⟩ (.slice Av4 e2.vars.length cv4)).setCell ⟨W.heap.size+1,1,none⟩ (.slice A4 n4 c4)).setCell ⟨W.heap.size+1,2,none⟩ (.int .i64 st2)).setCell ⟨W.heap.size+1,3,none⟩ (.string fl2)) from fun bits w hc h2=>by
  have hw:=HJL.out bits w hc h2
  have hb:=later_cells hw hV5
  refine⟨(cell_row hb 0).1,(cell_row hb 1).1,(cell_row hb 2).1,(cell_row hb 3).1,fun i=>(cell_row hb i).2,?_⟩
  rw[hC0] at hc⊢
  refine⟨by rw[List.length_set];exact hc.1,.inr (.inl ⟨by rw[List.getElem?_set_self (by rw[hc.1];decide)],?_,w,hw,by rw[hSV4]⟩)⟩
  rw[List.getElem?_set_ne (by omega)]
  rcases hc.2 with⟨_,h,_⟩ | ⟨e,_⟩ | ⟨e,_⟩
  ·exact h
  ·rw[h2] at e;cases e
  ·rw[h2] at e;cases e)
 have H3:=Lib.hid (show ∀ bits w,C0 bits w→bits[2]?=some true→bits[3]?=some false→w.cell? ⟨W.heap.size+1+1,0,none⟩=some (.int .i64 0)∧w.cell? ⟨W.heap.size+1+1,1,none⟩=some (.string ⟨#[]⟩)∧(∀ i,w.frozen? ⟨W.heap.size+1+1,i,none⟩=false)∧C0 (bits.set 3 true) ((w.setCell ⟨W.heap.size+1+1,0,none⟩ (.int .i64 n)).setCell ⟨W.heap.size+1+1,1,none⟩ (.string t)) from fun bits w hc h2 h3=>by
  rw[hC0] at hc⊢
  rcases hc.2 with⟨e,_⟩ | ⟨_,_,wx,h,rfl⟩ | ⟨_,e,_⟩
  ·rw[h2] at e;cases e
  ·have hb:=grown_cells (hgv wx) (later_cells h hF5) (by omega)
   refine⟨(cell_row hb 0).1,(cell_row hb 1).1,fun i=>(cell_row hb i).2,by rw[List.length_set];exact hc.1,.inr (.inr ⟨by rw[List.getElem?_set_ne (by omega)];exact h2,by rw[List.getElem?_set_self (by rw[hc.1];decide)],wx,h,rfl⟩)⟩
  ·rw[h3] at e;cases e)
 have HFI:=Lib.hid (show ∀ w,C0 [true,true,true,true] w→w4.heap.size≤w.heap.size∧w.heap[W.heap.size+1]?=some (.cells #[.slice Av4 e2.vars.length cv4,.slice A4 n4 c4,.int .i64 st2,.string fl2] 28 (0,0))∧w.heap[W.heap.size+1+1]?=some (.cells #[.int .i64 n,.string t] 33 (0,0))∧Later W w∧∀ k,k<w4.heap.size→W3.heap.size≤k→w.heap[k]?=w4.heap[k]? from fun w hc=>by
  rw[hC0] at hc
  rcases hc.2 with⟨e,_⟩ | ⟨_,e,_⟩ | ⟨_,_,wx,h,rfl⟩
  ·cases e
  ·cases e
  ·have hg1:=hgv wx
   have hg2:=only_trans (set_only (SV4 wx) (W.heap.size+1+1) 0 (.int .i64 n)) (set_only _ (W.heap.size+1+1) 1 (.string t))
   have hv1:(SV4 wx).heap[W.heap.size+1]?=some (.cells #[.slice Av4 e2.vars.length cv4,.slice A4 n4 c4,.int .i64 st2,.string fl2] 28 (0,0)):=by rw[hSV4];exact set_row (set_row (set_row (set_row (later_cells h hV5) 0 _) 1 _) 2 _) 3 _
   have hw3:=lt_of_block hF3
   have hsz3:W3.heap.size=W.heap.size+3:=by rw[HW3.out];simp only[World.size_alloc]
   have h45:=hl5.trans h
   refine⟨Nat.le_trans h45.size (Nat.le_trans hg1.size hg2.size),grown_cells hg2 hv1 (by omega),set_row (set_row (grown_cells hg1 (later_cells h hF5) (by omega)) 0 _) 1 _,later_of_new (later_of_new ((HL3.out.trans HL4.out).trans h45) hg1 (by omega)) hg2 (by omega),fun k hk hk3=>?_⟩
   exact(hg2.block k (Nat.lt_of_lt_of_le hk (Nat.le_trans h45.size hg1.size)) (fun e=>by have:=Option.some.inj e;omega)).trans ((hg1.block k (Nat.lt_of_lt_of_le hk h45.size) (fun e=>by have:=Option.some.inj e;omega)).trans (h45.block k hk)))
 have HB5:=Lib.hid (show W.heap.size+1+1<w5.heap.size by have:=HL5.out.size;omega)
 clear hC0 hst2 hfl2 hw5 hl5 hb7 hb8 hb9 hV3 hF3 hV5 hF5 hvl hSV4 hgv hout hifs
 refine wp_region_bitsG (by kernel_rfl) [2,3,7,8] C0 (fun w w'=>w.grownBy w' none∨w.grownBy w' (some (W.heap.size+1))∨w.grownBy w' (some (W.heap.size+1+1))) (Rf (.agg #[.string (mkS (ft r)),.string (mkS (fm r))]) (.agg #[.slice Av4 e2.vars.length cv4,.slice A4 n4 c4,.int .i64 st2,.string fl2]) (.string (mkS ifs)) (.agg #[.int .i64 n,.string t]) w5.heap.size out) (fun i v w w' hg h=>rf_mono (by have:=HB5.out;omega) (by have:=HB5.out;omega) i v w w' hg h) (by decide) (by decide) (by kernel_rfl) H0.out ?_ ?_
 ·refine⟨?_,?_,?_,?_,?_,?_,?_,?_,?_,trivial⟩
  ·refine OwesG.q (fun w=>.inl (grown_of_later (Later.refl w) _)) rfl fun a w bits hC hu hs=>⟨rfl,?_⟩
   have e7:a.tmps.getD 7 undef=.pointer (some ⟨w4.heap.size,0,none⟩):=hs.free 7 rfl
   exact ValWp.loadR rfl e7 (HLR.out w (HJL.out bits w hC (hu 2 7 rfl (.inr rfl)))) ⟨rfl,rfl⟩
  ·refine OwesG.q (fun w=>.inl (grown_of_later (Later.refl w) _)) rfl fun a w bits hC hu hs=>⟨rfl,?_⟩
   have e8:a.tmps.getD 8 undef=.pointer (some ⟨w4.heap.size+1,0,none⟩):=hs.free 8 rfl
   exact ValWp.loadR rfl e8 (HLE.out w (HJL.out bits w hC (hu 2 7 rfl (.inr rfl)))) ⟨rfl,rfl⟩
  ·refine fun a w bits hC hd hu hs=>⟨rfl,fun K hK=>?_⟩
   have e18:a.tmps.getD 18 undef=.agg #[.slice Av4 e2.vars.length cv4,.slice A4 n4 c4,.int .i64 st2,.string fl2]:=hs.dep 1 _ rfl rfl
   have hb:=hu 2 7 rfl (.inr rfl)
   refine wp_call1 24 18 _ _ rfl e18 (entO Tryz.func24 rfl rfl) ((HIF.out w (HJL.out bits w hC hb)).mono ?_)
   rintro e9 w9 ⟨rfl,hl9⟩
   exact⟨_,rfl,hK _ _ rfl (H1.out bits w w9 0 (by decide) hC hb hl9) (.inl (grown_of_later hl9 _))⟩
  ·refine fun a w bits hC hd hu hs=>⟨rfl,fun K hK=>?_⟩
   have e17:a.tmps.getD 17 undef=.agg #[.string (mkS (ft r)),.string (mkS (fm r))]:=hs.dep 0 _ rfl rfl
   have e19:a.tmps.getD 19 undef=.string (mkS ifs):=hs.dep 2 _ rfl rfl
   have hb:=hu 2 7 rfl (.inr rfl)
   have hw:=HJL.out bits w hC hb
   refine wp_callN 23 _ _ #[.agg #[.string (mkS (ft r)),.string (mkS (fm r))],.string (mkS ifs)] rfl rfl (by simp only[List.map_toArray,List.map_cons,List.map_nil,Act.eval,e17,e19]) (entO Tryz.func23 rfl rfl) ((HSP.out w).mono ?_)
   rintro e9 w9 ⟨v9,rfl,hl9,ho9⟩
   exact⟨_,rfl,hK _ _ (show w9.ownsRow w5.heap.size 37 2 v9 out.length (rows out) from own_mono ho9 hw.size) (H1.out bits w w9 1 (by decide) hC hb hl9) (.inl (grown_of_later hl9 _))⟩
  ·refine OwesG.q (fun w=>.inl (grown_of_later (Later.refl w) _)) rfl fun a w bits hC hu hs=>⟨rfl,?_⟩
   have e8:a.tmps.getD 8 undef=.pointer (some ⟨w4.heap.size+1,0,none⟩):=hs.free 8 rfl
   exact ValWp.loadR rfl e8 (HLE.out w (HJL.out bits w hC (hu 2 7 rfl (.inr rfl)))) ⟨rfl,rfl⟩
  ·refine OwesG.q (fun w=>.inl (grown_of_later (Later.refl w) _)) rfl fun a w bits hC hu hs=>⟨rfl,?_⟩
   have e9:a.tmps.getD 9 undef=.pointer (some ⟨w4.heap.size+1+1,0,none⟩):=hs.free 9 rfl
   exact ValWp.loadR rfl e9 (HLF.out bits w hC (hu 3 8 rfl (.inr rfl))) ⟨rfl,rfl⟩
  ·refine OwesG.q (fun w=>.inl (grown_of_later (Later.refl w) _)) rfl fun a w bits hC hu hs=>⟨rfl,?_⟩
   have h20:w.ownsRow w5.heap.size 37 2 (a.tmps.getD 20 undef) out.length (rows out):=hs.dep 3 _ rfl rfl
   obtain⟨A9,c9,e20,_⟩:=own_any h20
   rw[e20] at h20
   refine ValWp.pure (v:=.slice A9 out.length c9) (fun K' hK'=>?_) ⟨h20,rfl⟩
   clear hC hu h20
   simp only[ValWp,execOp,Act.eval,e20]
   go_simp
   all_goals exact hK'
  ·refine fun a w bits hC hd hu hs=>⟨rfl,fun K hK=>?_⟩
   have e5:a.tmps.getD 5 undef=.pointer (some ⟨W.heap.size+1,0,none⟩):=hs.free 5 rfl
   have e21:a.tmps.getD 21 undef=.agg #[.slice Av4 e2.vars.length cv4,.slice A4 n4 c4,.int .i64 st2,.string fl2]:=hs.dep 4 _ rfl rfl
   obtain⟨q0,q1,q2,q3,z,h1⟩:=H2.out bits w hC (hu 2 7 rfl (.inl rfl))
   refine wp_of_val ?_
   refine ValWp.pure (v:=undef) (w':=(((w.setCell ⟨W.heap.size+1,0,none⟩ (.slice Av4 e2.vars.length cv4)).setCell ⟨W.heap.size+1,1,none⟩ (.slice A4 n4 c4)).setCell ⟨W.heap.size+1,2,none⟩ (.int .i64 st2)).setCell ⟨W.heap.size+1,3,none⟩ (.string fl2)) (fun K' hK'=>?_) (hK _ _ trivial h1 (.inr (.inl (only_trans (only_trans (only_trans (set_only _ _ _ _) (set_only _ _ _ _)) (set_only _ _ _ _)) (set_only _ _ _ _)))))
   clear hC hu hd h1
   simp only[ValWp,execOp,Act.eval,e5,e21]
   go_simp
   all_goals exact hK'
  ·refine fun a w bits hC hd hu hs=>⟨rfl,fun K hK=>?_⟩
   have e6:a.tmps.getD 6 undef=.pointer (some ⟨W.heap.size+1+1,0,none⟩):=hs.free 6 rfl
   have e22:a.tmps.getD 22 undef=.agg #[.int .i64 n,.string t]:=hs.dep 5 _ rfl rfl
   obtain⟨q0,q1,z,h1⟩:=H3.out bits w hC (hd 2 7 rfl rfl) (hu 3 8 rfl (.inl rfl))
   refine wp_of_val ?_
   refine ValWp.pure (v:=undef) (w':=(w.setCell ⟨W.heap.size+1+1,0,none⟩ (.int .i64 n)).setCell ⟨W.heap.size+1+1,1,none⟩ (.string t)) (fun K' hK'=>?_) (hK _ _ trivial h1 (.inr (.inr (only_trans (set_only _ _ _ _) (set_only _ _ _ _)))))
   clear hC hu hd h1
   simp only[ValWp,execOp,Act.eval,e6,e22]
   go_simp
   all_goals exact hK'
 ·intro a w hC hd hsz hfree hs
  have h4:w.ownsRow w5.heap.size 37 2 (a.tmps.getD 4 undef) out.length (rows out):=hs 6 _ rfl
  obtain⟨A9,c9,e4,_⟩:=own_any h4
  rw[e4] at h4
  have HO4:=Lib.hid h4
  obtain⟨u17,hu17⟩:∃ u,u=a.tmps.getD 17 undef:=⟨_,rfl⟩
  obtain⟨u18,hu18⟩:∃ u,u=a.tmps.getD 18 undef:=⟨_,rfl⟩
  obtain⟨u19,hu19⟩:∃ u,u=a.tmps.getD 19 undef:=⟨_,rfl⟩
  obtain⟨u20,hu20⟩:∃ u,u=a.tmps.getD 20 undef:=⟨_,rfl⟩
  obtain⟨u21,hu21⟩:∃ u,u=a.tmps.getD 21 undef:=⟨_,rfl⟩
  obtain⟨u22,hu22⟩:∃ u,u=a.tmps.getD 22 undef:=⟨_,rfl⟩
  have hal:AllAt a 0 [_,_,_,_,.slice A9 out.length c9,_,_,_,_,_,_,_,_,_,_,_,_,u17,u18,u19,u20,u21,u22]:=⟨hfree 0 rfl,hfree 1 rfl,hfree 2 rfl,hfree 3 rfl,e4,hfree 5 rfl,hfree 6 rfl,hfree 7 rfl,hfree 8 rfl,hfree 9 rfl,hfree 10 rfl,hfree 11 rfl,hfree 12 rfl,hfree 13 rfl,hfree 14 rfl,hfree 15 rfl,hfree 16 rfl,hu17.symm,hu18.symm,hu19.symm,hu20.symm,hu21.symm,hu22.symm,trivial⟩
  have hlit:=fun h=>act_lit hd h hal
  rw[hlit hsz]
  simp only[Array.getD_eq_getD_getElem?,List.getElem?_toArray,List.getElem?_cons_zero,List.getElem?_cons_succ,Option.getD_some]
  clear hlit hal hd hsz hfree hs e4 h4 hu17 hu18 hu19 hu20 hu21 hu22
  obtain⟨hsz,hV,hF,hlw,hkeep⟩:=HFI.out w hC
  have HZ:=Lib.hid (And.intro hsz (And.intro hlw hkeep))
  have c0:=(cell_row hV 0).1
  have c1:=(cell_row hV 1).1
  have c2:=(cell_row hV 2).1
  have c3:=(cell_row hV 3).1
  have f0:=(cell_row hF 0).1
  have f1:=(cell_row hF 1).1
  clear hC hsz hlw hkeep hV hF
  go_wp2
  obtain⟨q1,q2⟩:=HS2.out
  obtain⟨hsz,hlw,hkeep⟩:=HZ.out
  have hs3:W3.heap.size=W.heap.size+3:=by rw[HW3.out];simp only[World.size_alloc]
  refine bodyPost_ret (v:=.tuple #[.slice A9 out.length c9,.agg #[.slice Av4 e2.vars.length cv4,.slice A4 n4 c4,.int .i64 st2,.string fl2],.agg #[.int .i64 n,.string t]]) ?_ rfl ⟨⟨_,_,rfl,?_,fun w' z1 z2=>?_⟩,hlw⟩
  ·simp[results,Tryz.results12,go_sem,c0,c1,c2,c3,f0,f1]
  ·have:=HO4.out
   rw[HOU.out] at this⊢
   exact own_mono this (by have:=HL5.out.size;have:=HL4.out.size;have:=HL3.out.size;omega)
  ·rw[q1,q2]
   exact HRD4.out w' (Nat.le_trans hsz z1) fun k hk hk2=>(z2 k (by omega) (Nat.lt_of_lt_of_le hk2 hsz)).trans (hkeep k hk2 hk)
end Ey
end Go.Proofs.YtipdgmjplnibeaaGreatDoor
