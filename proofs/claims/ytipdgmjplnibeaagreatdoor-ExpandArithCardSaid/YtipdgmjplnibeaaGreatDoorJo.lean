import Derived.BigRegion
import Derived.Test.YtipdgmjplnibeaaGreatDoorG16
import Derived.Test.YtipdgmjplnibeaaGreatDoorG02
set_option maxRecDepth 100000
set_option maxHeartbeats 3200000
namespace Go.Proofs.YtipdgmjplnibeaaGreatDoor
open Go.RowKit Go.Maps
namespace Jo
open Bu
structure Rdr (W:World) (g:Nat) (v:Value) (z:List C2) (bg af:Bool):Prop where
 box:W.heap[g]?=some (.cells #[v,.bool bg,.bool af] 141 (0,0))
 own:W.ownsRow 0 146 2 v z.length (cs z)
theorem ne_type {w:World} {base size n:Nat} {e t:TypeId} {v:Value} {xs:List Value} {b:Nat} {c:Array Value} (h:w.ownsRow base e size v n xs) (hb:w.heap[b]?=some (.cells c t (0,0))) (he:e≠t):v.ownBlock≠some b:=fun e1=>by
 obtain⟨cs,hc⟩:=own_type h e1
 rw[hb] at hc
 injection hc with hc
 injection hc with _ hc _
 exact he hc.symm
theorem Rdr.ne {W:World} {g:Nat} {v:Value} {z:List C2} {bg af:Bool} (h:Rdr W g v z bg af):v.ownBlock≠some g:=ne_type h.own h.box (by decide)
theorem Rdr.keep {X:Nat→Prop} {W W':World} {g:Nat} {v:Value} {z:List C2} {bg af:Bool} (h:Rdr W g v z bg af) (hf:Fr X W W') (hg:X g) (hv:∀ i,v.ownBlock=some i→X i):Rdr W' g v z bg af:=⟨hf.cells h.box hg,hf.row h.own hv⟩
def Over (W:World) (g:Nat) (v r:Value) (z:List C2) (bg af:Bool) (e:Ending) (W':World):Prop:=e=.returned r∧∃ v',Rdr W' g v' z bg af∧Fr (But g v) W W'∧Moved W v v'
theorem info_cell:(Tryz.prog.info? 146).map (fun i=>(i.zero,i.size,i.bytes))=some (some (.agg #[.int .u8 0,.int .u8 0]),2,2):=by kernel_rfl
theorem but_set {W:World} {g:Nat} {v:Value} (i:Nat) (u:Value):Fr (But g v) W (W.setCell ⟨g,i,none⟩ u):=Fr.grown (set_only _ _ _ _) fun x e=>by injection e with e;subst e;exact fun hx=>hx.1 rfl
theorem Rdr.set {W:World} {g:Nat} {v:Value} {z:List C2} {bg af:Bool} (h:Rdr W g v z bg af) {i:Nat} {u:Value} {bg' af':Bool} (hc:(#[v,.bool bg,.bool af]:Array Value).setIfInBounds i u=#[v,.bool bg',.bool af']):Rdr (W.setCell ⟨g,i,none⟩ u) g v z bg' af':=
 ⟨by rw[set_row h.box,hc],h.own.kept (set_only _ _ _ _) (.inr h.ne)⟩
theorem over0 {W:World} {g:Nat} {v:Value} {z:List C2} {bg af:Bool} (h:Rdr W g v z bg af) (p:C2) (hz:z.length≤1000000):Calls Tryz.prog 89 #[.pointer (some ⟨g,0,none⟩),.agg #[.int .u8 (p.1.toNat:Int),.int .u8 (p.2.toNat:Int)],.int .i64 0] W (Over W g v (.bool false) (z++[p]) true false):=by
 have hgl:=lt_of_block h.box
 obtain⟨w1,hw1⟩:∃ w1,w1=W.alloc (.cells #[.int .u8 (p.1.toNat:Int),.int .u8 (p.2.toNat:Int)] 146):=⟨_,rfl⟩
 have hl1:Later W w1:=by rw[hw1];exact Later.alloc _ _
 have hbx:w1.heap[W.heap.size]?=some (.cells #[.int .u8 (p.1.toNat:Int),.int .u8 (p.2.toNat:Int)] 146 (0,0)):=by rw[hw1];exact heap_alloc_new _ _
 have hR1:Rdr w1.drew g v z bg af:=(h.keep (X:=fun _=>True) (Fr.later hl1) trivial (fun _ _=>trivial)).keep (X:=fun _=>True) (Fr.later (Later.drew w1)) trivial (fun _ _=>trivial)
 obtain⟨o,ho⟩:∃ o:Obj,o=.cells #[.int .u8 (p.1.toNat:Int),.int .u8 (p.2.toNat:Int)] 146:=⟨_,rfl⟩
 have hR2:Rdr (w1.drew.alloc o) g v z bg af:=hR1.keep (X:=fun _=>True) (Fr.later (Later.alloc _ _)) trivial (fun _ _=>trivial)
 have hnew:=heap_alloc_new w1.drew o
 obtain⟨i0,hi,hz0,hz1,hz2⟩:=info_parts info_cell
 obtain⟨v',w2,hrun,hown2,hg2,_,hmv⟩:=run_append_own_at (P:=Tryz.prog) (w1.drew.alloc o) 0 139 139 146 i0 _ 2 2 Tryz.underlying139 hi hz0 hz1 hz2 rfl (by omega) v z.length (cs z) hR2.own ⟨w1.drew.heap.size,0,none⟩ 1 1 [bv p.1,bv p.2] rfl
  (fun j u hj=>by
   rw[add_lit0,cell_of_row _ _ j _ _ (0,0) (by rw[ho] at hnew⊢;exact hnew)]
   match j,hj with
   | 0,hj=>exact hj
   | 1,hj=>exact hj) (by intro u hu;simp at hu;rcases hu with rfl | rfl <;> rfl) (by unfold maxLen;omega) (by omega) (Nat.zero_le _)
 obtain⟨A,k0,hv,_⟩:=own_any h.own
 obtain⟨A9,k9,hv9,_⟩:=own_any hown2
 have hb2:w2.heap[g]?=some (.cells #[v,.bool bg,.bool af] 141 (0,0)):=(hg2.block g (lt_of_block hR2.box) (fun e=>hR2.ne e.symm)).trans hR2.box
 obtain⟨d0,dz⟩:=cell_row hb2 0
 obtain⟨C0,hC0⟩:∃ C0:Nat→Value→World→Prop,C0=fun j _ w9=>(j=0∧w9=w1.drew)∨(j=1∧w9=w1.drew.alloc o)∨(j=2∧w9=w2)∨(j=3∧w9=w2.setCell ⟨g,0,none⟩ v'):=⟨_,rfl⟩
 have H0:=Lib.hid (show C0 0 undef w1.drew by rw[hC0];exact .inl ⟨rfl,rfl⟩)
 have H1:=Lib.hid (show C0 1 (.slice (some ⟨w1.drew.heap.size,0,none⟩) 1 1) (w1.drew.alloc o) by rw[hC0];exact .inr (.inl ⟨rfl,rfl⟩))
 have H2:=Lib.hid (show C0 2 v' w2 by rw[hC0];exact .inr (.inr (.inl ⟨rfl,rfl⟩)))
 have H3:=Lib.hid (show C0 3 undef (w2.setCell ⟨g,0,none⟩ v') by rw[hC0];exact .inr (.inr (.inr ⟨rfl,rfl⟩)))
 have HC3:=Lib.hid (show ∀ (j:Nat) (u:Value) (w:World),C0 j u w→j≤1→w.cell? ⟨g,0,none⟩=some (.slice A z.length k0) from fun j u w hc hj=>by
  rw[hC0] at hc
  rw[←hv]
  rcases hc with⟨_,rfl⟩ | ⟨_,rfl⟩ | ⟨e,_⟩ | ⟨e,_⟩
  ·exact(cell_row hR1.box 0).1
  ·exact(cell_row hR2.box 0).1
  ·omega
  ·omega)
 have HB:=Lib.hid (show ∀ (j:Nat) (u:Value) (w:World),C0 j u w→j≤0→(Instr.loadAt 146 (.pointer (some ⟨W.heap.size,0,none⟩))).run Tryz.prog w=.ok (.agg #[.int .u8 (p.1.toNat:Int),.int .u8 (p.2.toNat:Int)]) w from fun j u w hc hj=>by
  rw[hC0] at hc
  rcases hc with⟨_,rfl⟩ | ⟨e,_⟩ | ⟨e,_⟩ | ⟨e,_⟩
  ·exact cell_load (p:=p) (cell_row (show w1.drew.heap[W.heap.size]?=_ from hbx) 0).1 (cell_row (show w1.drew.heap[W.heap.size]?=_ from hbx) 1).1
  all_goals omega)
 have HA:=Lib.hid (show ∀ (u:Value) (w:World),C0 0 u w→w=w1.drew from fun u w hc=>by
  rw[hC0] at hc
  rcases hc with⟨_,e⟩ | ⟨e,_⟩ | ⟨e,_⟩ | ⟨e,_⟩
  ·exact e
  all_goals cases e)
 have HA1:=Lib.hid (show ∀ (u:Value) (w:World),C0 1 u w→w=w1.drew.alloc o from fun u w hc=>by
  rw[hC0] at hc
  rcases hc with⟨e,_⟩ | ⟨_,e⟩ | ⟨e,_⟩ | ⟨e,_⟩
  ·cases e
  ·exact e
  all_goals cases e)
 have HU:=Lib.hid (show ∀ (u:Value) (w:World),C0 2 u w→w=w2∧w2.cell? ⟨g,0,none⟩=some v∧w2.frozen? ⟨g,0,none⟩=false from fun u w hc=>by
  rw[hC0] at hc
  rcases hc with⟨e,_⟩ | ⟨e,_⟩ | ⟨_,e⟩ | ⟨e,_⟩
  ·cases e
  ·cases e
  ·exact⟨e,d0,dz⟩
  ·cases e)
 have HE:=Lib.hid (show ∀ (u:Value) (w:World),C0 3 u w→Rdr w g v' (z++[p]) bg af∧Fr (But g v) W w from fun u w hc=>by
  rw[hC0] at hc
  rcases hc with⟨e,_⟩ | ⟨e,_⟩ | ⟨e,_⟩ | ⟨_,rfl⟩
  ·cases e
  ·cases e
  ·cases e
  ·have hne:v'.ownBlock≠some g:=ne_type hown2 hb2 (by decide)
   refine⟨⟨set_row hb2 0 v',?_⟩,?_⟩
   ·have:=hown2.kept (set_only w2 g 0 v') (.inr hne)
    rw[cs_app,List.length_append]
    exact this
   ·refine((((Fr.later hl1).trans (Fr.later (Later.drew w1))).trans (Fr.later (Later.alloc w1.drew o))).trans (Fr.grown hg2 fun x e hx=>hx.2 e)).trans (but_set 0 v'))
 have HM:=Lib.hid (show Moved W v v' by
  rcases hmv with e | e
  ·exact .inl e
  ·refine .inr ⟨_,e,?_⟩
   have h1:=hl1.size
   have h2:=(Later.alloc w1.drew o).size
   exact Nat.le_trans h1 h2)
 have HAP:=Lib.hid hrun
 have HF1:=Lib.hid (show w1.cell? ⟨g,1,none⟩=some (.bool bg) from(cell_row hR1.box 1).1)
 clear hC0 hmv hb2 hnew hR1 hR2 hrun hown2 hg2 hbx hl1
 subst hv
 subst hv9
 subst ho
 have hf1:(W.alloc (.cells #[.int .u8 (p.1.toNat:Int),.int .u8 (p.2.toNat:Int)] 146)).cell? ⟨g,1,none⟩=some (.bool bg):=by rw[←hw1];exact HF1.out
 go_enter Tryz.func89,Tryz.ntmps89
 go_wp2
 rw[←hw1]
 have HW1:=Lib.hid hw1
 clear hf1 hw1
 refine wp_region_seq (by kernel_rfl) [6,7,10] (C0) [some (.pointer (some ⟨g,0,none⟩)),some (.pointer (some ⟨g,0,none⟩)),some (.pointer (some ⟨g,0,none⟩)),some (.pointer (some ⟨g,0,none⟩)),some (.slice A z.length k0),some (.agg #[.int .u8 (p.1.toNat:Int),.int .u8 (p.2.toNat:Int)]),some (.slice (some ⟨w1.drew.heap.size,0,none⟩) 1 1),some (.slice A9 (z.length+1) k9),some (.pointer (some ⟨g,0,none⟩)),some (.pointer (some ⟨g,0,none⟩)),none] (by decide) (by decide) (by kernel_rfl) (by kernel_rfl) (H0.out) ?_ ?_
 ·refine⟨?_,?_,?_,?_,?_,?_,?_,?_,?_,?_,?_,trivial⟩
  ·
   refine OwesS.q rfl fun a w j u hC hb hs=>⟨rfl,?_⟩
   have e0:a.tmps.getD 0 undef=.pointer (some ⟨g,0,none⟩):=hs.free 0 rfl
   refine ValWp.pure (v:=.pointer (some ⟨g,0,none⟩)) (fun K' hK'=>?_) ⟨rfl,rfl⟩
   simp only[ValWp,execOp,Act.eval,e0]
   go_simp
   all_goals exact hK'
  ·
   refine OwesS.q rfl fun a w j u hC hb hs=>⟨rfl,?_⟩
   have e0:a.tmps.getD 0 undef=.pointer (some ⟨g,0,none⟩):=hs.free 0 rfl
   refine ValWp.pure (v:=.pointer (some ⟨g,0,none⟩)) (fun K' hK'=>?_) ⟨rfl,rfl⟩
   simp only[ValWp,execOp,Act.eval,e0]
   go_simp
   all_goals exact hK'
  ·
   refine OwesS.q rfl fun a w j u hC hb hs=>⟨rfl,?_⟩
   have e19:a.tmps.getD 19 undef=.pointer (some ⟨g,0,none⟩):=hs.dep 1 _ rfl rfl
   refine ValWp.pure (v:=.pointer (some ⟨g,0,none⟩)) (fun K' hK'=>?_) ⟨rfl,rfl⟩
   simp only[ValWp,execOp,Act.eval,e19]
   go_simp
   all_goals exact hK'
  ·
   refine OwesS.q rfl fun a w j u hC hb hs=>⟨rfl,?_⟩
   have e20:a.tmps.getD 20 undef=.pointer (some ⟨g,0,none⟩):=hs.dep 2 _ rfl rfl
   refine ValWp.pure (v:=.pointer (some ⟨g,0,none⟩)) (fun K' hK'=>?_) ⟨rfl,rfl⟩
   simp only[ValWp,execOp,Act.eval,e20]
   go_simp
   all_goals exact hK'
  ·
   refine OwesS.q rfl fun a w j u hC hb hs=>⟨rfl,?_⟩
   have e21:a.tmps.getD 21 undef=.pointer (some ⟨g,0,none⟩):=hs.dep 3 _ rfl rfl
   have hj:=hb 1 7 rfl rfl
   have q0:=HC3.out j u w hC hj
   refine ValWp.pure (v:=.slice A z.length k0) (fun K' hK'=>?_) ⟨rfl,rfl⟩
   simp only[ValWp,execOp,Act.eval,e21]
   go_simp
   all_goals exact hK'
  ·
   refine OwesS.q rfl fun a w j u hC hb hs=>⟨rfl,?_⟩
   have e4:a.tmps.getD 4 undef=.pointer (some ⟨W.heap.size,0,none⟩):=hs.free 4 rfl
   have hj:=hb 0 6 rfl rfl
   exact ValWp.loadR rfl e4 (HB.out j u w hC hj) ⟨rfl,rfl⟩
  ·
   refine OwesS.w rfl fun a w u hC hl hs=>⟨rfl,fun K hK=>?_⟩
   have e23:a.tmps.getD 23 undef=.agg #[.int .u8 (p.1.toNat:Int),.int .u8 (p.2.toNat:Int)]:=hs.dep 5 _ rfl rfl
   have hw:=HA.out u w hC
   subst hw
   refine wp_of_val ?_
   refine ValWp.pure (v:=.slice (some ⟨w1.drew.heap.size,0,none⟩) 1 1) (w':=w1.drew.alloc (.cells #[.int .u8 (p.1.toNat:Int),.int .u8 (p.2.toNat:Int)] 146)) (fun K' hK'=>?_) (hK _ _ rfl H1.out)
   simp only[ValWp,execOp,Act.eval,List.map_toArray,List.map_cons,List.map_nil,e23]
   go_simp
   all_goals exact hK'
  ·
   refine OwesS.w rfl fun a w u hC hl hs=>⟨rfl,fun K hK=>?_⟩
   have e22:a.tmps.getD 22 undef=.slice A z.length k0:=hs.dep 4 _ rfl rfl
   have e24:a.tmps.getD 24 undef=.slice (some ⟨w1.drew.heap.size,0,none⟩) 1 1:=hs.dep 6 _ rfl rfl
   have hw:=HA1.out u w hC
   subst hw
   exact owes_append HAP.out rfl e22 e24 (hK _ _ rfl H2.out)
  ·
   refine OwesS.q rfl fun a w j u hC hb hs=>⟨rfl,?_⟩
   have e18:a.tmps.getD 18 undef=.pointer (some ⟨g,0,none⟩):=hs.dep 0 _ rfl rfl
   refine ValWp.pure (v:=.pointer (some ⟨g,0,none⟩)) (fun K' hK'=>?_) ⟨rfl,rfl⟩
   simp only[ValWp,execOp,Act.eval,e18]
   go_simp
   all_goals exact hK'
  ·
   refine OwesS.q rfl fun a w j u hC hb hs=>⟨rfl,?_⟩
   have e26:a.tmps.getD 26 undef=.pointer (some ⟨g,0,none⟩):=hs.dep 8 _ rfl rfl
   refine ValWp.pure (v:=.pointer (some ⟨g,0,none⟩)) (fun K' hK'=>?_) ⟨rfl,rfl⟩
   simp only[ValWp,execOp,Act.eval,e26]
   go_simp
   all_goals exact hK'
  ·
   refine OwesS.w rfl fun a w u hC hl hs=>⟨rfl,fun K hK=>?_⟩
   have e27:a.tmps.getD 27 undef=.pointer (some ⟨g,0,none⟩):=hs.dep 9 _ rfl rfl
   have e25:a.tmps.getD 25 undef=.slice A9 (z.length+1) k9:=hs.dep 7 _ rfl rfl
   obtain⟨hw,q4,qz⟩:=HU.out u w hC
   have hw:=hw.symm
   subst hw
   refine wp_of_val ?_
   refine ValWp.pure (v:=undef) (w':=w2.setCell ⟨g,0,none⟩ (.slice A9 (z.length+1) k9)) (fun K' hK'=>?_) (hK _ _ trivial H3.out)
   simp only[ValWp,execOp,Act.eval,e27,e25]
   go_simp
   all_goals exact hK'
 ·intro a w u hC hl hd hsz hfree hs
  obtain⟨z0,z1,z2,u3,z4,u5,z6,z7,u8,u9,u10,u11,z12,u13,u14,u15,u16,u17,u18,u19,u20,u21,u22,u23,u24,u25,u26,u27,u28,u29,u30,u31,u32,u33,u34,u35,u36,u37,u38,u39,u40,u41,u42,u43,u44,u45,u46,u47,u48,u49,u50,u51,u52,u53,u54,u55,u56,u57,u58,u59,u60,u61,u62,u63,u64,u65,u66,u67,u68,u69,u70,hal⟩:=lets a 71 0
  obtain rfl:=hal.on (v:=.pointer (some ⟨g,0,none⟩)) 0 (hfree 0 rfl) rfl
  obtain rfl:=hal.on (v:=.agg #[.int .u8 (p.1.toNat:Int),.int .u8 (p.2.toNat:Int)]) 1 (hfree 1 rfl) rfl
  obtain rfl:=hal.on (v:=.int .i64 0) 2 (hfree 2 rfl) rfl
  obtain rfl:=hal.on (v:=.pointer (some ⟨W.heap.size,0,none⟩)) 4 (hfree 4 rfl) rfl
  obtain rfl:=hal.on (v:=.bool false) 6 (hfree 6 rfl) rfl
  obtain rfl:=hal.on (v:=.bool bg) 7 (hfree 7 rfl) rfl
  obtain rfl:=hal.on (v:=.int .i64 0) 12 (hfree 12 rfl) rfl
  have hlit:=fun h=>act_lit hd h hal
  rw[hlit hsz]
  clear hlit hal hd hsz hfree hs
  obtain⟨hR,hF⟩:=HE.out u w hC
  obtain⟨c1,z1⟩:=cell_row hR.box 1
  obtain⟨c2,z2⟩:=cell_row hR.box 2
  have c1':w.cell? ⟨g,1,none⟩=some (.bool bg):=c1
  have c2':w.cell? ⟨g,2,none⟩=some (.bool af):=c2
  have HR:=Lib.hid hR
  have HF:=Lib.hid hF
  clear hC hl hR hF c1 c2
  go_wp2
  go_ret
  have hr1:=HR.out.set (i:=1) (u:=.bool true) (bg':=true) (af':=af) rfl
  have hr2:=hr1.set (i:=2) (u:=.bool false) (bg':=true) (af':=false) rfl
  exact⟨rfl,_,hr2,(HF.out.trans (but_set 1 _)).trans (but_set 2 _),HM.out⟩
theorem over1 {W:World} {g:Nat} {v:Value} {z:List C2} {bg af:Bool} (h:Rdr W g v z bg af) (p:C2):Calls Tryz.prog 89 #[.pointer (some ⟨g,0,none⟩),.agg #[.int .u8 (p.1.toNat:Int),.int .u8 (p.2.toNat:Int)],.int .i64 1] W (Over W g v (.bool false) z true false):=by
 have hl1:=Later.alloc W (.cells #[.int .u8 (p.1.toNat:Int),.int .u8 (p.2.toNat:Int)] 146)
 have hR:=h.keep (X:=fun _=>True) (Fr.later hl1) trivial (fun _ _=>trivial)
 obtain⟨c1,z1⟩:=cell_row hR.box 1
 obtain⟨c2,z2⟩:=cell_row hR.box 2
 have c1':(W.alloc (.cells #[.int .u8 (p.1.toNat:Int),.int .u8 (p.2.toNat:Int)] 146)).cell? ⟨g,1,none⟩=some (.bool bg):=c1
 have c2':(W.alloc (.cells #[.int .u8 (p.1.toNat:Int),.int .u8 (p.2.toNat:Int)] 146)).cell? ⟨g,2,none⟩=some (.bool af):=c2
 have HR:=Lib.hid hR
 have HL:=Lib.hid hl1
 clear hl1 hR c1 c2 h
 go_enter Tryz.func89,Tryz.ntmps89
 go_wp2
 go_ret
 have hr1:=HR.out.set (i:=1) (u:=.bool true) (bg':=true) (af':=af) rfl
 have hr2:=hr1.set (i:=2) (u:=.bool false) (bg':=true) (af':=false) rfl
 exact⟨rfl,_,hr2,((Fr.later HL.out).trans (but_set 1 _)).trans (but_set 2 _),.inl rfl⟩
theorem over2 {W:World} {g:Nat} {v:Value} {z:List C2} {bg af:Bool} (h:Rdr W g v z bg af) (p:C2):Calls Tryz.prog 89 #[.pointer (some ⟨g,0,none⟩),.agg #[.int .u8 (p.1.toNat:Int),.int .u8 (p.2.toNat:Int)],.int .i64 2] W (Over W g v (.bool bg) z bg false):=by
 have hl1:=Later.alloc W (.cells #[.int .u8 (p.1.toNat:Int),.int .u8 (p.2.toNat:Int)] 146)
 have hR:=h.keep (X:=fun _=>True) (Fr.later hl1) trivial (fun _ _=>trivial)
 obtain⟨c1,z1⟩:=cell_row hR.box 1
 obtain⟨c2,z2⟩:=cell_row hR.box 2
 have c1':(W.alloc (.cells #[.int .u8 (p.1.toNat:Int),.int .u8 (p.2.toNat:Int)] 146)).cell? ⟨g,1,none⟩=some (.bool bg):=c1
 have c2':(W.alloc (.cells #[.int .u8 (p.1.toNat:Int),.int .u8 (p.2.toNat:Int)] 146)).cell? ⟨g,2,none⟩=some (.bool af):=c2
 have HR:=Lib.hid hR
 have HL:=Lib.hid hl1
 clear hl1 hR c1 c2 h
 go_enter Tryz.func89,Tryz.ntmps89
 go_wp2
 go_ret
 have hr2:=HR.out.set (i:=2) (u:=.bool false) (bg':=bg) (af':=false) rfl
 exact⟨rfl,_,hr2,(Fr.later HL.out).trans (but_set 2 _),.inl rfl⟩
theorem over3t {W:World} {g:Nat} {v:Value} {z:List C2} {af:Bool} (h:Rdr W g v z true af) (p:C2):Calls Tryz.prog 89 #[.pointer (some ⟨g,0,none⟩),.agg #[.int .u8 (p.1.toNat:Int),.int .u8 (p.2.toNat:Int)],.int .i64 3] W (Over W g v (.bool true) z true true):=by
 have hl1:=Later.alloc W (.cells #[.int .u8 (p.1.toNat:Int),.int .u8 (p.2.toNat:Int)] 146)
 have hR:=h.keep (X:=fun _=>True) (Fr.later hl1) trivial (fun _ _=>trivial)
 obtain⟨c1,z1⟩:=cell_row hR.box 1
 obtain⟨c2,z2⟩:=cell_row hR.box 2
 have c1':(W.alloc (.cells #[.int .u8 (p.1.toNat:Int),.int .u8 (p.2.toNat:Int)] 146)).cell? ⟨g,1,none⟩=some (.bool true):=c1
 have c2':(W.alloc (.cells #[.int .u8 (p.1.toNat:Int),.int .u8 (p.2.toNat:Int)] 146)).cell? ⟨g,2,none⟩=some (.bool af):=c2
 have HR:=Lib.hid hR
 have HL:=Lib.hid hl1
 clear hl1 hR c1 c2 h
 go_enter Tryz.func89,Tryz.ntmps89
 go_wp2
 go_ret
 have hr2:=HR.out.set (i:=2) (u:=.bool true) (bg':=true) (af':=true) rfl
 exact⟨rfl,_,hr2,(Fr.later HL.out).trans (but_set 2 _),.inl rfl⟩
theorem over3f {W:World} {g:Nat} {v:Value} {z:List C2} {af:Bool} (h:Rdr W g v z false af) (p:C2):Calls Tryz.prog 89 #[.pointer (some ⟨g,0,none⟩),.agg #[.int .u8 (p.1.toNat:Int),.int .u8 (p.2.toNat:Int)],.int .i64 3] W (Over W g v (.bool false) z false af):=by
 have hl1:=Later.alloc W (.cells #[.int .u8 (p.1.toNat:Int),.int .u8 (p.2.toNat:Int)] 146)
 have hR:=h.keep (X:=fun _=>True) (Fr.later hl1) trivial (fun _ _=>trivial)
 obtain⟨c1,z1⟩:=cell_row hR.box 1
 obtain⟨c2,z2⟩:=cell_row hR.box 2
 have c1':(W.alloc (.cells #[.int .u8 (p.1.toNat:Int),.int .u8 (p.2.toNat:Int)] 146)).cell? ⟨g,1,none⟩=some (.bool false):=c1
 have c2':(W.alloc (.cells #[.int .u8 (p.1.toNat:Int),.int .u8 (p.2.toNat:Int)] 146)).cell? ⟨g,2,none⟩=some (.bool af):=c2
 have HR:=Lib.hid hR
 have HL:=Lib.hid hl1
 clear hl1 hR c1 c2 h
 go_enter Tryz.func89,Tryz.ntmps89
 go_wp2
 go_ret
 have hr2:=HR.out.set (i:=2) (u:=.bool af) (bg':=false) (af':=af) rfl
 exact⟨rfl,_,hr2,(Fr.later HL.out).trans (but_set 2 _),.inl rfl⟩
theorem over4t {W:World} {g:Nat} {v:Value} {z:List C2} {af:Bool} (h:Rdr W g v z true af) (p:C2):Calls Tryz.prog 89 #[.pointer (some ⟨g,0,none⟩),.agg #[.int .u8 (p.1.toNat:Int),.int .u8 (p.2.toNat:Int)],.int .i64 4] W (Over W g v (.bool true) z true false):=by
 have hl1:=Later.alloc W (.cells #[.int .u8 (p.1.toNat:Int),.int .u8 (p.2.toNat:Int)] 146)
 have hR:=h.keep (X:=fun _=>True) (Fr.later hl1) trivial (fun _ _=>trivial)
 obtain⟨c1,z1⟩:=cell_row hR.box 1
 obtain⟨c2,z2⟩:=cell_row hR.box 2
 have c1':(W.alloc (.cells #[.int .u8 (p.1.toNat:Int),.int .u8 (p.2.toNat:Int)] 146)).cell? ⟨g,1,none⟩=some (.bool true):=c1
 have c2':(W.alloc (.cells #[.int .u8 (p.1.toNat:Int),.int .u8 (p.2.toNat:Int)] 146)).cell? ⟨g,2,none⟩=some (.bool af):=c2
 have HR:=Lib.hid hR
 have HL:=Lib.hid hl1
 clear hl1 hR c1 c2 h
 go_enter Tryz.func89,Tryz.ntmps89
 go_wp2
 go_ret
 have hr2:=HR.out.set (i:=2) (u:=.bool false) (bg':=true) (af':=false) rfl
 exact⟨rfl,_,hr2,(Fr.later HL.out).trans (but_set 2 _),.inl rfl⟩
theorem over4ff {W:World} {g:Nat} {v:Value} {z:List C2} (h:Rdr W g v z false false) (p:C2):Calls Tryz.prog 89 #[.pointer (some ⟨g,0,none⟩),.agg #[.int .u8 (p.1.toNat:Int),.int .u8 (p.2.toNat:Int)],.int .i64 4] W (Over W g v (.bool true) z false false):=by
 have hl1:=Later.alloc W (.cells #[.int .u8 (p.1.toNat:Int),.int .u8 (p.2.toNat:Int)] 146)
 have hR:=h.keep (X:=fun _=>True) (Fr.later hl1) trivial (fun _ _=>trivial)
 obtain⟨c1,z1⟩:=cell_row hR.box 1
 obtain⟨c2,z2⟩:=cell_row hR.box 2
 have c1':(W.alloc (.cells #[.int .u8 (p.1.toNat:Int),.int .u8 (p.2.toNat:Int)] 146)).cell? ⟨g,1,none⟩=some (.bool false):=c1
 have c2':(W.alloc (.cells #[.int .u8 (p.1.toNat:Int),.int .u8 (p.2.toNat:Int)] 146)).cell? ⟨g,2,none⟩=some (.bool false):=c2
 have HR:=Lib.hid hR
 have HL:=Lib.hid hl1
 clear hl1 hR c1 c2 h
 go_enter Tryz.func89,Tryz.ntmps89
 go_wp2
 go_ret
 have hr2:=HR.out.set (i:=2) (u:=.bool false) (bg':=false) (af':=false) rfl
 exact⟨rfl,_,hr2,(Fr.later HL.out).trans (but_set 2 _),.inl rfl⟩
theorem over4ft {W:World} {g:Nat} {v:Value} {z:List C2} (h:Rdr W g v z false true) (p:C2):Calls Tryz.prog 89 #[.pointer (some ⟨g,0,none⟩),.agg #[.int .u8 (p.1.toNat:Int),.int .u8 (p.2.toNat:Int)],.int .i64 4] W (Over W g v (.bool false) z false false):=by
 have hl1:=Later.alloc W (.cells #[.int .u8 (p.1.toNat:Int),.int .u8 (p.2.toNat:Int)] 146)
 have hR:=h.keep (X:=fun _=>True) (Fr.later hl1) trivial (fun _ _=>trivial)
 obtain⟨c1,z1⟩:=cell_row hR.box 1
 obtain⟨c2,z2⟩:=cell_row hR.box 2
 have c1':(W.alloc (.cells #[.int .u8 (p.1.toNat:Int),.int .u8 (p.2.toNat:Int)] 146)).cell? ⟨g,1,none⟩=some (.bool false):=c1
 have c2':(W.alloc (.cells #[.int .u8 (p.1.toNat:Int),.int .u8 (p.2.toNat:Int)] 146)).cell? ⟨g,2,none⟩=some (.bool true):=c2
 have HR:=Lib.hid hR
 have HL:=Lib.hid hl1
 clear hl1 hR c1 c2 h
 go_enter Tryz.func89,Tryz.ntmps89
 go_wp2
 go_ret
 have hr2:=HR.out.set (i:=2) (u:=.bool false) (bg':=false) (af':=false) rfl
 exact⟨rfl,_,hr2,(Fr.later HL.out).trans (but_set 2 _),.inl rfl⟩
end Jo
end Go.Proofs.YtipdgmjplnibeaaGreatDoor
