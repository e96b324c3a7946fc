import Derived.Test.YtipdgmjplnibeaaGreatDoorJo
import Derived.RangeFuncNested
import Derived.RangeFuncBound
import Derived.Shelf.Abstract
import Derived.Shelf.RegionOpen
import Derived.TacticsInMore
import Derived.LoopIn
import Derived.LoopNIn
import Derived.OwnWalkIn
import Derived.Test.YtipdgmjplnibeaaGreatDoorG15
import Derived.RangeFuncBox
set_option maxRecDepth 100000
set_option maxHeartbeats 3200000
namespace Go.Proofs.YtipdgmjplnibeaaGreatDoor
open Go.RowKit Go.Maps
namespace Jo
open Bu
theorem own_cut {w:World} {base size n:Nat} {e:TypeId} {g cap:Nat} {xs:List Value} (h:w.ownsRow base e size (.slice (some ⟨g,0,none⟩) n cap) n xs):w.ownsRow base e size (.slice (some ⟨g,0,none⟩) 0 cap) 0 []:=by
 rcases h.2 with⟨e1,_⟩ | ⟨g',cap',cur,e1,hb,hh,hnc,hcm,hcs,_⟩
 ·cases e1
 ·injection e1 with e1 _ e2
  injection e1 with e1
  injection e1 with e1
  subst e1 e2
  exact⟨by simp,.inr ⟨g,cap,cur,rfl,hb,hh,Nat.zero_le _,hcm,hcs,by simp⟩⟩
theorem take_v {W:World} {g:Nat} {v:Value} {z:List C2} {bg af:Bool} (h:Rdr W g v z bg af) (hz:z.length≤1000000):Calls Tryz.prog 91 #[.pointer (some ⟨g,0,none⟩)] W (Over W g v (.agg #[.string (mkS (ft z)),.string (mkS (fm z))]) [] false af):=by
 have hgl:=lt_of_block h.box
 rcases h.own.2 with⟨rfl,_⟩ | ⟨g',cap,cur,rfl,_⟩
 ·obtain⟨o,ho⟩:∃ o:Obj,o=.cells #[.string ⟨#[]⟩,.string ⟨#[]⟩] 37:=⟨_,rfl⟩
  have hl1:=Later.alloc W o
  have hR1:Rdr (W.alloc o) g (.slice none 0 0) z bg af:=h.keep (X:=fun _=>True) (Fr.later hl1) trivial (fun _ _=>trivial)
  have HN:=Lib.hid (heap_alloc_new W o)
  have HC:=Lib.hid (row_v _ z (W.alloc o) (RdC.of_own hR1.own) hz)
  have hs1:(W.alloc o).heap.size=W.heap.size+1:=World.size_alloc ..
  have c0:(W.alloc o).cell? ⟨g,0,none⟩=some (.slice none 0 0):=(cell_row hR1.box 0).1
  rw[ho] at HC HN c0 hs1
  have HL1:=Lib.hid hl1
  have HR1:=Lib.hid hR1
  rw[ho] at HL1 HR1
  clear hl1 hR1 ho
  go_enter Tryz.func91,Tryz.ntmps91
  go_wp2_with (go_at_call 95;(with_reducible refine HC.out.mono ?_);rintro e w1 ⟨rfl,hl2⟩;(have hl3:=Later.alloc w1 (.cells #[.string (mkS (ft z)),.string (mkS (fm z))] 37));(have hR2:=(HR1.out.keep (X:=fun _=>True) (Fr.later hl2) trivial (fun _ _=>trivial)).keep (X:=fun _=>True) (Fr.later hl3) trivial (fun _ _=>trivial));(have d0:(w1.alloc (.cells #[.string (mkS (ft z)),.string (mkS (fm z))] 37)).cell? ⟨g,0,none⟩=some (.slice none 0 0):=(cell_row hR2.box 0).1);(have d1:(w1.alloc (.cells #[.string (mkS (ft z)),.string (mkS (fm z))] 37)).cell? ⟨g,1,none⟩=some (.bool bg):=(cell_row hR2.box 1).1);(have dz:=fun i=>(cell_row hR2.box i).2);(have hN2:=later_cells hl3 (later_cells hl2 HN.out));(have r0:(w1.alloc (.cells #[.string (mkS (ft z)),.string (mkS (fm z))] 37)).cell? ⟨W.heap.size,0,none⟩=some (.string ⟨#[]⟩):=(cell_row hN2 0).1);(have r1:(w1.alloc (.cells #[.string (mkS (ft z)),.string (mkS (fm z))] 37)).cell? ⟨W.heap.size,1,none⟩=some (.string ⟨#[]⟩):=(cell_row hN2 1).1);(have rz:=fun i=>(cell_row hN2 i).2);(have hne:W.heap.size≠w1.heap.size:=by have:=lt_of_block HN.out;have:=hl2.size;omega);(have hng:g≠w1.heap.size:=by have:=hl2.size;omega);(have HR2:=Lib.hid hR2);(have HL2:=Lib.hid ((HL1.out.trans hl2).trans hl3));(have HN2:=Lib.hid hN2);(have hs2:=hl2.size);clear hl2 hl3 hR2 hN2 c0)
  have hne2:=HR2.out.ne
  have hgN:W.heap.size≠g:=by omega
  have hr1:Rdr ((w1.alloc (.cells #[.string (mkS (ft z)),.string (mkS (fm z))] 37)).setCell ⟨g,0,none⟩ (.slice none 0 0)) g (.slice none 0 0) [] bg af:=⟨set_row HR2.out.box 0 _,(World.ownsRow_nil _ _ _ 2).kept (set_only _ _ _ _) (.inl rfl)⟩
  have hr2:=hr1.set (i:=1) (u:=.bool false) (bg':=false) (af':=af) rfl
  have hN3:=grown_cells (set_only _ g 1 (.bool false)) (grown_cells (set_only _ g 0 (.slice none 0 0)) HN2.out hgN) hgN
  have h1:=set_row hN3 0 (.string (mkS (ft z)))
  have h2:=set_row h1 1 (.string (mkS (fm z)))
  refine bodyPost_ret (results_row rfl _ _ W.heap.size _ (0,0) rfl h2 rfl) rfl ?_
  have hnN:(.slice none 0 0:Value).ownBlock≠some W.heap.size:=ne_type hr2.own hN3 (by decide)
  have e1:=set_only (((w1.alloc (.cells #[.string (mkS (ft z)),.string (mkS (fm z))] 37)).setCell ⟨g,0,none⟩ (.slice none 0 0)).setCell ⟨g,1,none⟩ (.bool false)) W.heap.size 0 (.string (mkS (ft z)))
  have e2:=set_only ((((w1.alloc (.cells #[.string (mkS (ft z)),.string (mkS (fm z))] 37)).setCell ⟨g,0,none⟩ (.slice none 0 0)).setCell ⟨g,1,none⟩ (.bool false)).setCell ⟨W.heap.size,0,none⟩ (.string (mkS (ft z)))) W.heap.size 1 (.string (mkS (fm z)))
  refine⟨rfl,(.slice none 0 0),?_,?_,.inl rfl⟩
  ·refine(hr2.keep (X:=fun k=>k≠W.heap.size) (Fr.grown e1 fun x e hx=>by injection e with e;exact hx e.symm) (fun e=>hgN e.symm) fun i e e9=>hnN (by rw[e,e9])).keep (X:=fun k=>k≠W.heap.size) (Fr.grown e2 fun x e hx=>by injection e with e;exact hx e.symm) (fun e=>hgN e.symm) fun i e e9=>hnN (by rw[e,e9])
  ·exact((((Fr.later HL2.out).trans (but_set 0 _)).trans (but_set 1 _)).new e1 (Nat.le_refl _)).new e2 (Nat.le_refl _)
 ·obtain⟨o,ho⟩:∃ o:Obj,o=.cells #[.string ⟨#[]⟩,.string ⟨#[]⟩] 37:=⟨_,rfl⟩
  have hl1:=Later.alloc W o
  have hR1:Rdr (W.alloc o) g (.slice (some ⟨g',0,none⟩) z.length cap) z bg af:=h.keep (X:=fun _=>True) (Fr.later hl1) trivial (fun _ _=>trivial)
  have HN:=Lib.hid (heap_alloc_new W o)
  have HC:=Lib.hid (row_v _ z (W.alloc o) (RdC.of_own hR1.own) hz)
  have hs1:(W.alloc o).heap.size=W.heap.size+1:=World.size_alloc ..
  have c0:(W.alloc o).cell? ⟨g,0,none⟩=some (.slice (some ⟨g',0,none⟩) z.length cap):=(cell_row hR1.box 0).1
  rw[ho] at HC HN c0 hs1
  have HL1:=Lib.hid hl1
  have HR1:=Lib.hid hR1
  rw[ho] at HL1 HR1
  clear hl1 hR1 ho
  go_enter Tryz.func91,Tryz.ntmps91
  go_wp2_with (go_at_call 95;(with_reducible refine HC.out.mono ?_);rintro e w1 ⟨rfl,hl2⟩;(have hl3:=Later.alloc w1 (.cells #[.string (mkS (ft z)),.string (mkS (fm z))] 37));(have hR2:=(HR1.out.keep (X:=fun _=>True) (Fr.later hl2) trivial (fun _ _=>trivial)).keep (X:=fun _=>True) (Fr.later hl3) trivial (fun _ _=>trivial));(have d0:(w1.alloc (.cells #[.string (mkS (ft z)),.string (mkS (fm z))] 37)).cell? ⟨g,0,none⟩=some (.slice (some ⟨g',0,none⟩) z.length cap):=(cell_row hR2.box 0).1);(have d1:(w1.alloc (.cells #[.string (mkS (ft z)),.string (mkS (fm z))] 37)).cell? ⟨g,1,none⟩=some (.bool bg):=(cell_row hR2.box 1).1);(have dz:=fun i=>(cell_row hR2.box i).2);(have hN2:=later_cells hl3 (later_cells hl2 HN.out));(have r0:(w1.alloc (.cells #[.string (mkS (ft z)),.string (mkS (fm z))] 37)).cell? ⟨W.heap.size,0,none⟩=some (.string ⟨#[]⟩):=(cell_row hN2 0).1);(have r1:(w1.alloc (.cells #[.string (mkS (ft z)),.string (mkS (fm z))] 37)).cell? ⟨W.heap.size,1,none⟩=some (.string ⟨#[]⟩):=(cell_row hN2 1).1);(have rz:=fun i=>(cell_row hN2 i).2);(have hne:W.heap.size≠w1.heap.size:=by have:=lt_of_block HN.out;have:=hl2.size;omega);(have hng:g≠w1.heap.size:=by have:=hl2.size;omega);(have HR2:=Lib.hid hR2);(have HL2:=Lib.hid ((HL1.out.trans hl2).trans hl3));(have HN2:=Lib.hid hN2);(have hs2:=hl2.size);clear hl2 hl3 hR2 hN2 c0)
  have hne2:=HR2.out.ne
  have hgN:W.heap.size≠g:=by omega
  have hr1:Rdr ((w1.alloc (.cells #[.string (mkS (ft z)),.string (mkS (fm z))] 37)).setCell ⟨g,0,none⟩ (.slice (some ⟨g',0,none⟩) 0 cap)) g (.slice (some ⟨g',0,none⟩) 0 cap) [] bg af:=⟨set_row HR2.out.box 0 _,(own_cut HR2.out.own).kept (set_only _ _ _ _) (.inr hne2)⟩
  have hr2:=hr1.set (i:=1) (u:=.bool false) (bg':=false) (af':=af) rfl
  have hN3:=grown_cells (set_only _ g 1 (.bool false)) (grown_cells (set_only _ g 0 (.slice (some ⟨g',0,none⟩) 0 cap)) HN2.out hgN) hgN
  have h1:=set_row hN3 0 (.string (mkS (ft z)))
  have h2:=set_row h1 1 (.string (mkS (fm z)))
  refine bodyPost_ret (results_row rfl _ _ W.heap.size _ (0,0) rfl h2 rfl) rfl ?_
  have hnN:(.slice (some ⟨g',0,none⟩) 0 cap:Value).ownBlock≠some W.heap.size:=ne_type hr2.own hN3 (by decide)
  have e1:=set_only (((w1.alloc (.cells #[.string (mkS (ft z)),.string (mkS (fm z))] 37)).setCell ⟨g,0,none⟩ (.slice (some ⟨g',0,none⟩) 0 cap)).setCell ⟨g,1,none⟩ (.bool false)) W.heap.size 0 (.string (mkS (ft z)))
  have e2:=set_only ((((w1.alloc (.cells #[.string (mkS (ft z)),.string (mkS (fm z))] 37)).setCell ⟨g,0,none⟩ (.slice (some ⟨g',0,none⟩) 0 cap)).setCell ⟨g,1,none⟩ (.bool false)).setCell ⟨W.heap.size,0,none⟩ (.string (mkS (ft z)))) W.heap.size 1 (.string (mkS (fm z)))
  refine⟨rfl,(.slice (some ⟨g',0,none⟩) 0 cap),?_,?_,.inl rfl⟩
  ·refine(hr2.keep (X:=fun k=>k≠W.heap.size) (Fr.grown e1 fun x e hx=>by injection e with e;exact hx e.symm) (fun e=>hgN e.symm) fun i e e9=>hnN (by rw[e,e9])).keep (X:=fun k=>k≠W.heap.size) (Fr.grown e2 fun x e hx=>by injection e with e;exact hx e.symm) (fun e=>hgN e.symm) fun i e e9=>hnN (by rw[e,e9])
  ·exact((((Fr.later HL2.out).trans (but_set 0 _)).trans (but_set 1 _)).new e1 (Nat.le_refl _)).new e2 (Nat.le_refl _)
end Jo
end Go.Proofs.YtipdgmjplnibeaaGreatDoor
namespace Go.Proofs.YtipdgmjplnibeaaGreatDoor
open Go.RowKit Go.Maps Go.Shelf
attribute [local go_sem] Oper.semAt_some
namespace Jo
abbrev RBox (W:World) (b:Nat) (t m:L):Prop:=W.heap[b]?=some (.cells #[.string (mkS t),.string (mkS m)] 37 (0,0))
theorem cells_v (t m:L) (w:World):Calls Tryz.prog 88 #[.agg #[.string (mkS t),.string (mkS m)]] w fun e w'=>e=.returned (.func (.func 119) #[] #[.pointer (some ⟨w.heap.size,0,none⟩)])∧w'=w.alloc (.cells #[.string (mkS t),.string (mkS m)] 37):=by
 go_enter Tryz.func88,Tryz.ntmps88
 go_wp2
 go_ret
 exact⟨rfl,rfl⟩
theorem mkS_get (t:L) (i:Nat) (h:i<(mkS t).size) (h2:i<t.length):(mkS t)[i]'h=t[i]:=by
 show t.toArray[i]=t[i]
 simp
theorem cells_it (l b:Nat) (t m:L) (ht:t.length≤9223372036854775807) (J:Nat→World→Prop) (hbox:∀ i W,J i W→RBox W b t m) (hJd:∀ i W,J i W→J i W.drew)
  (hY:∀ (i:Nat) (hi:i<(t.zip m).length) (W:World),J i W→YieldAt Fence.wide 3 Tryz.prog l #[cl (t.zip m)[i]] W fun e W'=>e=.returned (.bool true)∧J (i+1) W') (W:World) (h0:J 0 W) :
  CallsIn Fence.wide 4 Tryz.prog 119 (#[.func (.yield l) #[] #[]]++#[.pointer (some ⟨b,0,none⟩)]) W fun e W2=>(∃ v,e=.returned v)∧J (t.zip m).length W2:=by
 refine callsIn_of_wp Tryz.func119 rfl trivial ?_ rfl
 simp only[Tryz.ntmps119,List.size_toArray,List.length_cons,List.length_nil,Nat.reduceAdd,Nat.reduceSub,Array.replicate_succ,Array.replicate_zero,List.push_toArray,List.append_toArray,List.nil_append,List.cons_append]
 obtain⟨n,hn⟩:∃ n,n=(t.zip m).length:=⟨_,rfl⟩
 have hnm:n=min t.length m.length:=by rw[hn,List.length_zip]
 have HMIN:=Lib.hid (show min (t.length:Int) (m.length:Int)=(n:Int) by omega)
 have hst:((mkS t).size:Int)=(t.length:Int):=by rw[mkS_size]
 have hsm:((mkS m).size:Int)=(m.length:Int):=by rw[mkS_size]
 have hb0:=hbox 0 W h0
 have d0:W.cell? ⟨b,0,none⟩=some (.string (mkS t)):=(cell_row hb0 0).1
 have d1:W.cell? ⟨b,1,none⟩=some (.string (mkS m)):=(cell_row hb0 1).1
 have HBX:=Lib.hid hbox
 have HJD:=Lib.hid hJd
 have HYY:=Lib.hid hY
 have HN:=Lib.hid hn
 clear hbox hJd hY hn hb0
 gi_wp2
 rw[HMIN.out]
 gi_loopw [11] (fun s11 wr=>∃ i:Nat,s11=.int .i64 (i:Int)∧i≤n∧J i wr) (fun s11 _=>n-(intOf s11).toNat)
 case atStart=>exact⟨0,rfl,Nat.zero_le _,h0⟩
 case round=>
  obtain⟨i,rfl,hi,hj⟩:=hrel
  have HJ0:=Lib.hid hj
  clear hj
  have hi0:(0:Int)≤(i:Int):=by omega
  by_cases hlt:i<n
  ·have hi1:(i:Int)<(n:Int):=by omega
   have HTI:=Lib.hid (show i<t.length by omega)
   have HMI:=Lib.hid (show i<m.length by omega)
   have hit:i<(mkS t).size:=by rw[mkS_size];omega
   have him:i<(mkS m).size:=by rw[mkS_size];omega
   have hzi:i<(t.zip m).length:=by rw[←HN.out];exact hlt
   have hcl:cl (t.zip m)[i]=.agg #[.int .u8 (((mkS t)[i]'hit).toNat:Int),.int .u8 (((mkS m)[i]'him).toNat:Int)]:=by
    simp only[cl,bv,List.getElem_zip]
    rw[mkS_get t i hit (by omega),mkS_get m i him (by omega)]
   have hy:=HYY.out i hzi
   rw[hcl] at hy
   have HY:=Lib.hid hy
   obtain⟨C0,hC0⟩:∃ C0:List Bool→World→Prop,C0=fun bits w=>(bits=[false]∧J i w)∨(bits=[true]∧J (i+1) w):=⟨_,rfl⟩
   have H0:=Lib.hid (show C0 [false] wr.drew by rw[hC0];exact .inl ⟨rfl,HJD.out _ _ HJ0.out⟩)
   have H1:=Lib.hid (show ∀ w,J (i+1) w→C0 [true] w from fun w h=>by rw[hC0];exact .inr ⟨rfl,h⟩)
   have HB:=Lib.hid (show ∀ (bits:List Bool) (w:World),C0 bits w→w.cell? ⟨b,0,none⟩=some (.string (mkS t))∧w.cell? ⟨b,1,none⟩=some (.string (mkS m)) from fun bits w h=>by
    rw[hC0] at h
    rcases h with⟨_,h⟩ | ⟨_,h⟩ <;> (have:=HBX.out _ _ h;exact⟨(cell_row this 0).1,(cell_row this 1).1⟩))
   have HJ:=Lib.hid (show ∀ (bits:List Bool) (w:World),C0 bits w→bits[0]?=some false→bits=[false]∧J i w from fun bits w h hb=>by
    rw[hC0] at h
    rcases h with⟨e,h⟩ | ⟨e,_⟩
    ·exact⟨e,h⟩
    ·rw[e] at hb;cases hb)
   have HE:=Lib.hid (show ∀ w,C0 [true] w→J (i+1) w from fun w h=>by
    rw[hC0] at h
    rcases h with⟨e,_⟩ | ⟨_,h⟩
    ·cases e
    ·exact h)
   clear hC0 hcl hy hzi
   gi_wp2
   refine wpIn_region_bits (Free.wide) (by kernel_rfl) [10] (C0) [some (.func (.yield l) #[] #[]),some (.pointer (some ⟨b,0,none⟩)),some (.string (mkS t)),some (.int .i64 (i:Int)),some (.int .u8 (((mkS t)[i]'hit).toNat:Int)),some (.pointer (some ⟨b,1,none⟩)),some (.string (mkS m)),some (.int .i64 (i:Int)),some (.int .u8 (((mkS m)[i]'him).toNat:Int)),some (.agg #[.int .u8 (((mkS t)[i]'hit).toNat:Int),.int .u8 (((mkS m)[i]'him).toNat:Int)]),some (.bool true),some (.bool false)] (by decide) (by decide) (by kernel_rfl) (H0.out) ?_ ?_
   ·refine⟨?_,?_,?_,?_,?_,?_,?_,?_,?_,?_,?_,?_,trivial⟩
    ·
     refine OwesI.q (Free.wide) rfl (fun c h=>by cases h) fun a w bits hC hd hu hs=>?_
     refine⟨rfl,?_⟩
     have e0:a.tmps.getD 0 undef=.func (.yield l) #[] #[]:=hs.free 0 rfl
     refine ValWp.pure (v:=.func (.yield l) #[] #[]) (fun K' hK'=>?_) ⟨rfl,rfl⟩
     simp only[ValWp,execOp,Act.eval,e0]
     go_simp
     all_goals exact hK'
    ·
     refine OwesI.q (Free.wide) rfl (fun c h=>by cases h) fun a w bits hC hd hu hs=>?_
     refine⟨rfl,?_⟩
     have e1:a.tmps.getD 1 undef=.pointer (some ⟨b,0,none⟩):=hs.free 1 rfl
     refine ValWp.pure (v:=.pointer (some ⟨b,0,none⟩)) (fun K' hK'=>?_) ⟨rfl,rfl⟩
     simp only[ValWp,execOp,Act.eval,e1]
     go_simp
     all_goals exact hK'
    ·
     refine OwesI.q (Free.wide) rfl (fun c h=>by cases h) fun a w bits hC hd hu hs=>?_
     refine⟨rfl,?_⟩
     have e15:a.tmps.getD 15 undef=.pointer (some ⟨b,0,none⟩):=hs.dep 1 _ rfl rfl
     obtain⟨k0,k1⟩:=HB.out bits w hC
     refine ValWp.pure (v:=.string (mkS t)) (fun K' hK'=>?_) ⟨rfl,rfl⟩
     simp only[ValWp,execOp,Act.eval,e15]
     go_simp
     all_goals exact hK'
    ·
     refine OwesI.q (Free.wide) rfl (fun c h=>by cases h) fun a w bits hC hd hu hs=>?_
     refine⟨rfl,?_⟩
     have e3:a.tmps.getD 3 undef=.int .i64 (i:Int):=hs.free 3 rfl
     refine ValWp.pure (v:=.int .i64 (i:Int)) (fun K' hK'=>?_) ⟨rfl,rfl⟩
     simp only[ValWp,execOp,Act.eval,e3]
     go_simp
     all_goals exact hK'
    ·
     refine OwesI.q (Free.wide) rfl (fun c h=>by cases h) fun a w bits hC hd hu hs=>?_
     refine⟨rfl,?_⟩
     have e16:a.tmps.getD 16 undef=.string (mkS t):=hs.dep 2 _ rfl rfl
     have e17:a.tmps.getD 17 undef=.int .i64 (i:Int):=hs.dep 3 _ rfl rfl
     refine ValWp.pure (v:=.int .u8 (((mkS t)[i]'hit).toNat:Int)) (fun K' hK'=>?_) ⟨rfl,rfl⟩
     simp only[ValWp,execOp,Act.eval,e16,e17]
     go_simp
     rw[dif_pos HTI.out]
     exact hK'
    ·
     refine OwesI.q (Free.wide) rfl (fun c h=>by cases h) fun a w bits hC hd hu hs=>?_
     refine⟨rfl,?_⟩
     have e1:a.tmps.getD 1 undef=.pointer (some ⟨b,0,none⟩):=hs.free 1 rfl
     refine ValWp.pure (v:=.pointer (some ⟨b,1,none⟩)) (fun K' hK'=>?_) ⟨rfl,rfl⟩
     simp only[ValWp,execOp,Act.eval,e1]
     go_simp
     all_goals exact hK'
    ·
     refine OwesI.q (Free.wide) rfl (fun c h=>by cases h) fun a w bits hC hd hu hs=>?_
     refine⟨rfl,?_⟩
     have e19:a.tmps.getD 19 undef=.pointer (some ⟨b,1,none⟩):=hs.dep 5 _ rfl rfl
     obtain⟨k0,k1⟩:=HB.out bits w hC
     refine ValWp.pure (v:=.string (mkS m)) (fun K' hK'=>?_) ⟨rfl,rfl⟩
     simp only[ValWp,execOp,Act.eval,e19]
     go_simp
     all_goals exact hK'
    ·
     refine OwesI.q (Free.wide) rfl (fun c h=>by cases h) fun a w bits hC hd hu hs=>?_
     refine⟨rfl,?_⟩
     have e3:a.tmps.getD 3 undef=.int .i64 (i:Int):=hs.free 3 rfl
     refine ValWp.pure (v:=.int .i64 (i:Int)) (fun K' hK'=>?_) ⟨rfl,rfl⟩
     simp only[ValWp,execOp,Act.eval,e3]
     go_simp
     all_goals exact hK'
    ·
     refine OwesI.q (Free.wide) rfl (fun c h=>by cases h) fun a w bits hC hd hu hs=>?_
     refine⟨rfl,?_⟩
     have e20:a.tmps.getD 20 undef=.string (mkS m):=hs.dep 6 _ rfl rfl
     have e21:a.tmps.getD 21 undef=.int .i64 (i:Int):=hs.dep 7 _ rfl rfl
     refine ValWp.pure (v:=.int .u8 (((mkS m)[i]'him).toNat:Int)) (fun K' hK'=>?_) ⟨rfl,rfl⟩
     simp only[ValWp,execOp,Act.eval,e20,e21]
     go_simp
     rw[dif_pos HMI.out]
     exact hK'
    ·
     refine OwesI.q (Free.wide) rfl (fun c h=>by cases h) fun a w bits hC hd hu hs=>?_
     refine⟨rfl,?_⟩
     have e18:a.tmps.getD 18 undef=.int .u8 (((mkS t)[i]'hit).toNat:Int):=hs.dep 4 _ rfl rfl
     have e22:a.tmps.getD 22 undef=.int .u8 (((mkS m)[i]'him).toNat:Int):=hs.dep 8 _ rfl rfl
     refine ValWp.pure (v:=.agg #[.int .u8 (((mkS t)[i]'hit).toNat:Int),.int .u8 (((mkS m)[i]'him).toNat:Int)]) (fun K' hK'=>?_) ⟨rfl,rfl⟩
     simp only[ValWp,execOp,Act.eval,List.map_toArray,List.map_cons,List.map_nil,e18,e22]
     go_simp
     all_goals exact hK'
    ·
     refine fun a w bits hC hd hu hs=>.inl ?_
     refine⟨rfl,fun K hK=>?_⟩
     have e14:a.tmps.getD 14 undef=.func (.yield l) #[] #[]:=hs.dep 0 _ rfl rfl
     have e23:a.tmps.getD 23 undef=.agg #[.int .u8 (((mkS t)[i]'hit).toNat:Int),.int .u8 (((mkS m)[i]'him).toNat:Int)]:=hs.dep 9 _ rfl rfl
     obtain⟨hbits,hj⟩:=HJ.out bits w hC (hu 0 10 rfl (.inl rfl))
     subst hbits
     refine wpIn_of_yield Free.wide (args:=#[.agg #[.int .u8 (((mkS t)[i]'hit).toNat:Int),.int .u8 (((mkS m)[i]'him).toNat:Int)]]) rfl e14 (by simp only[List.map_toArray,List.map_cons,List.map_nil,Act.eval,e23]) ((HY.out w hj).mono ?_)
     rintro e w' ⟨rfl,hj'⟩
     exact⟨_,rfl,hK _ _ rfl (H1.out w' hj')⟩
    ·
     refine OwesI.q (Free.wide) rfl (fun c h=>by cases h) fun a w bits hC hd hu hs=>?_
     refine⟨rfl,?_⟩
     have e24:a.tmps.getD 24 undef=.bool true:=hs.dep 10 _ rfl rfl
     refine ValWp.pure (v:=.bool false) (fun K' hK'=>?_) ⟨rfl,rfl⟩
     simp only[ValWp,execOp,Act.eval,e24]
     go_simp
     all_goals exact hK'
   ·intro a w hC hd hsz hfree hs
    obtain⟨u12,hu12⟩:∃ u,u=a.tmps.getD 12 undef:=⟨_,rfl⟩
    obtain⟨u13,hu13⟩:∃ u,u=a.tmps.getD 13 undef:=⟨_,rfl⟩
    obtain⟨u14,hu14⟩:∃ u,u=a.tmps.getD 14 undef:=⟨_,rfl⟩
    obtain⟨u15,hu15⟩:∃ u,u=a.tmps.getD 15 undef:=⟨_,rfl⟩
    obtain⟨u16,hu16⟩:∃ u,u=a.tmps.getD 16 undef:=⟨_,rfl⟩
    obtain⟨u17,hu17⟩:∃ u,u=a.tmps.getD 17 undef:=⟨_,rfl⟩
    obtain⟨u18,hu18⟩:∃ u,u=a.tmps.getD 18 undef:=⟨_,rfl⟩
    obtain⟨u19,hu19⟩:∃ u,u=a.tmps.getD 19 undef:=⟨_,rfl⟩
    obtain⟨u20,hu20⟩:∃ u,u=a.tmps.getD 20 undef:=⟨_,rfl⟩
    obtain⟨u21,hu21⟩:∃ u,u=a.tmps.getD 21 undef:=⟨_,rfl⟩
    obtain⟨u22,hu22⟩:∃ u,u=a.tmps.getD 22 undef:=⟨_,rfl⟩
    obtain⟨u23,hu23⟩:∃ u,u=a.tmps.getD 23 undef:=⟨_,rfl⟩
    obtain⟨u24,hu24⟩:∃ u,u=a.tmps.getD 24 undef:=⟨_,rfl⟩
    obtain⟨u26,hu26⟩:∃ u,u=a.tmps.getD 26 undef:=⟨_,rfl⟩
    have hal:AllAt a 0 [.func (.yield l) #[] #[],.pointer (some ⟨b,0,none⟩),undef,.int .i64 (i:Int),.pointer (some ⟨b,0,none⟩),.string (mkS t),.int .i64 (t.length:Int),.pointer (some ⟨b,1,none⟩),.string (mkS m),.int .i64 (m.length:Int),.int .i64 (n:Int),.int .i64 (i:Int),u12,u13,u14,u15,u16,u17,u18,u19,u20,u21,u22,u23,u24,.bool false,u26]:=⟨hfree 0 rfl,hfree 1 rfl,hfree 2 rfl,hfree 3 rfl,hfree 4 rfl,hfree 5 rfl,hfree 6 rfl,hfree 7 rfl,hfree 8 rfl,hfree 9 rfl,hfree 10 rfl,hfree 11 rfl,hu12.symm,hu13.symm,hu14.symm,hu15.symm,hu16.symm,hu17.symm,hu18.symm,hu19.symm,hu20.symm,hu21.symm,hu22.symm,hu23.symm,hu24.symm,hs 11 _ rfl,hu26.symm,trivial⟩
    have hlit:=fun h=>act_litD hd h hal
    rw[hlit hsz]
    clear hlit hal hd hsz hfree hs hu12 hu13 hu14 hu15 hu16 hu17 hu18 hu19 hu20 hu21 hu22 hu23 hu24 hu26
    have HF:=Lib.hid (HE.out w hC)
    clear hC
    gi_wp2
    go_roundw
    case rel=>exact⟨i+1,by go_num,by omega,HF.out⟩
    case measure=>simp[intOf];omega
  ·have hin:i=n:=by omega
   subst hin
   gi_wp2
   go_end0
   exact⟨⟨_,rfl⟩,by rw[←HN.out];exact HJ0.out⟩
end Jo
end Go.Proofs.YtipdgmjplnibeaaGreatDoor
namespace Go.Proofs.YtipdgmjplnibeaaGreatDoor
open Go.RowKit Go.Maps
namespace Jo
open Bu
def endsB (k:Nat) (bg af:Bool):Bool:=if k=0∨k=1 then false else if k=4 then bg || !af else bg
def nowA (k:Nat) (z:Rw) (p:C2):Rw:=if k=0 then z++[p] else z
def begA (k:Nat) (bg:Bool):Bool:=if k=0∨k=1 then true else bg
def blkA (k:Nat) (bg af:Bool):Bool:=if k=3 then bg || af else false
theorem kindN_lt (ifs:L) (p:C2):kindN ifs p≤4:=by unfold kindN;split <;> (try omega);split <;> (try omega);split <;> (try omega);split <;> omega
theorem step_by {ifs:L} {σ:Q} (h:Ok σ) (p:C2):step ifs σ p=if endsB (kindN ifs p) σ.begun σ.blank=true then ⟨σ.out++[nowA (kindN ifs p) σ.now p],[],false,blkA (kindN ifs p) σ.begun σ.blank⟩ else ⟨σ.out,nowA (kindN ifs p) σ.now p,begA (kindN ifs p) σ.begun,blkA (kindN ifs p) σ.begun σ.blank⟩:=by
 obtain⟨out,now,bg,af⟩:=σ
 unfold Ok at h
 simp only at h
 unfold step kindN
 by_cases e1:p.2=101
 ·have hs:sepB ifs p=false:=by simp[sepB,e1]
  simp[e1,hs,endsB,nowA,begA,blkA]
 ·by_cases e2:p.2=98
  ·have hs:sepB ifs p=false:=by simp[sepB,e2]
   cases bg with
   | true=>simp[e2,hs,endsB,nowA,blkA]
   | false=>simp[e2,hs,endsB,nowA,begA,blkA,h rfl]
  ·by_cases hs:sepB ifs p=true
   ·by_cases hw:whiteB p.1=true
    ·cases bg with
     | true=>simp[e1,e2,hs,hw,endsB,nowA,blkA]
     | false=>simp[e1,e2,hs,hw,endsB,nowA,begA,blkA]
    ·cases bg with
     | true=>simp[e1,e2,hs,hw,endsB,nowA,blkA]
     | false=>
      cases af with
      | true=>simp[e1,e2,hs,hw,endsB,nowA,begA,blkA,h rfl]
      | false=>simp[e1,e2,hs,hw,endsB,nowA,blkA,h rfl]
   ·simp[e1,e2,hs,endsB,nowA,begA,blkA]
theorem step_len {ifs:L} {σ:Q} (p:C2):(step ifs σ p).now.length≤σ.now.length+1∧(step ifs σ p).out.length≤σ.out.length+1:=by
 unfold step
 split
 ·split
  ·split <;> simp
  ·constructor
   ·simp
   ·simp only;split <;> simp
 ·split
  ·constructor
   ·simp
   ·simp only;split <;> simp
  ·constructor
   ·simp only;split <;> simp
   ·simp
theorem run_len (ifs:L) (z:Rw):∀ k,k≤z.length→(run ifs (z.take k)).now.length≤k∧(run ifs (z.take k)).out.length≤k:=by
 intro k
 induction k with
 | zero=>intro _;simp[run,init]
 | succ k ih=>
  intro hk
  rw[List.take_succ_eq_append_getElem (by omega),run_snoc]
  have h1:=ih (by omega)
  have h2:=step_len (ifs:=ifs) (σ:=run ifs (z.take k)) z[k]
  omega
theorem run_take {ifs:L} {z:Rw} {k:Nat} (h:k<z.length):run ifs (z.take (k+1))=step ifs (run ifs (z.take k)) z[k]:=by
 rw[List.take_succ_eq_append_getElem h,run_snoc]
theorem over_v {W:World} {g:Nat} {v:Value} {z:Rw} {bg af:Bool} (h:Rdr W g v z bg af) (p:C2) (k:Nat) (hk:k≤4) (hz:z.length≤1000000):Calls Tryz.prog 89 #[.pointer (some ⟨g,0,none⟩),.agg #[.int .u8 (p.1.toNat:Int),.int .u8 (p.2.toNat:Int)],.int .i64 (k:Int)] W (Over W g v (.bool (endsB k bg af)) (nowA k z p) (begA k bg) (blkA k bg af)):=by
 match k,hk with
 | 0,_=>exact over0 h p hz
 | 1,_=>exact over1 h p
 | 2,_=>exact over2 h p
 | 3,_=>
  cases bg with
  | true=>exact over3t h p
  | false=>exact over3f h p
 | 4,_=>
  cases bg with
  | true=>exact over4t h p
  | false=>cases af with
   | true=>exact over4ft h p
   | false=>exact over4ff h p
def rows (l:List Rw):List Value:=l.flatMap fun f=>[.string (mkS (ft f)),.string (mkS (fm f))]
theorem rows_len (l:List Rw):(rows l).length=l.length*2:=by
 unfold rows
 induction l with
 | nil=>rfl
 | cons y l ih=>rw[List.flatMap_cons,List.length_append,ih];simp;omega
theorem rows_app (l:List Rw) (f:Rw):rows (l++[f])=rows l++[.string (mkS (ft f)),.string (mkS (fm f))]:=by simp[rows]
structure OutSt (W0:World) (r1:Rng) (lb:Nat) (W:World) (vo:Value) (out:List Rw):Prop where
 low:Later W0 W
 at1:r1.At .ready none W
 lge:W0.heap.size≤lb
 dge:W0.heap.size≤r1.D
 box:W.heap[lb]?=some (.cells #[vo] 30 (0,0))
 own:W.ownsRow W0.heap.size 37 2 vo out.length (rows out)
def ButO (r1:Rng) (lb:Nat) (vo:Value):Nat→Prop:=fun k=>k≠lb∧k≠r1.D+1∧vo.ownBlock≠some k
theorem others_of_fr {X:Nat→Prop} {w w':World} (h:Fr X w w') (hx:∀ k o,w.heap[k]?=some o→o.isCells=false→X k):KeepsOthers w w':=
 ⟨h.size,fun k o hk ho=>h.cells hk (hx k o hk ho)⟩
section
variable {W0 W W':World} {r1 r2:Rng} {lb:Nat} {vo:Value} {out:List Rw}
theorem OutSt.fr {X:Nat→Prop} (h:OutSt W0 r1 lb W vo out) (hf:Fr X W W') (h0:∀ k,k<W0.heap.size→X k) (h1:X lb) (h2:X (r1.D+1)) (h3:X r1.D) (h4:∀ i,vo.ownBlock=some i→X i):OutSt W0 r1 lb W' vo out:=
 ⟨later_fr h.low hf h0,⟨hf.cells h.at1.1 h2,hf.cells h.at1.2 h3⟩,h.lge,h.dge,hf.cells h.box h1,hf.row h.own h4⟩
theorem OutSt.shut {D:Nat} {x:Option (List Deferred)} (h:OutSt W0 r1 lb W vo out) (hK:W.heap[D]?=some (.deferred x)) (hd:r1.D+1<D):OutSt W0 r1 lb (W.putObj D (.deferred none)) vo out:=by
 have hf:Fr (fun k=>k≠D) W (W.putObj D (.deferred none)):=Fr.grown (grownBy_putObj' W D (.deferred none)) fun x e hx=>by injection e with e;exact hx e.symm
 have ob:∀ {k:Nat} {c:Array Value} {ty:TypeId},W.heap[k]?=some (.cells c ty (0,0))→k≠D:=fun hk e=>by
  subst e
  rw[hk] at hK
  cases hK
 refine h.fr hf (fun k hk e=>?_) (ob h.box) (by omega) (by omega) (fun i e=>?_)
 ·have:=h.dge;omega
 ·obtain⟨cs,hc⟩:=own_type h.own e;exact ob hc
theorem OutSt.later (h:OutSt W0 r1 lb W vo out) (hl:Later W W'):OutSt W0 r1 lb W' vo out:=h.fr (X:=fun _=>True) (Fr.later hl) (fun _ _=>trivial) trivial trivial trivial fun _ _=>trivial
end
structure Inn (W0:World) (r1 r2:Rng) (st:LoopState) (lb g yk fk bk:Nat) (t m ifs:L) (W:World) (vo v:Value) (σ:Q):Prop where
 o:OutSt W0 r1 lb W vo σ.out
 at2:r2.At st none W
 rd:Rdr W g v σ.now σ.begun σ.blank
 yb:W.heap[yk]?=some (.cells #[.func (.yield (r1.D+1)) #[] #[]] 138 (0,0))
 fb:W.heap[fk]?=some (.cells #[.string (mkS ifs)] 9 (0,0))
 bx:RBox W bk t m
 nb:vo.ownBlock≠some bk
 vlow:∀ k,v.ownBlock=some k→W0.heap.size≤k
 glow:W0.heap.size≤g
 dd:r1.D+1<r2.D
theorem ne_obj {W:World} {a b:Nat} {x y:Obj} (ha:W.heap[a]?=some x) (hb:W.heap[b]?=some y) (h:x≠y):a≠b:=fun e=>by
 subst e
 rw[ha] at hb
 injection hb with hb
 exact h hb
theorem ne_own {w:World} {base size n:Nat} {e:TypeId} {v:Value} {xs:List Value} {b:Nat} {o:Obj} (h:w.ownsRow base e size v n xs) (hb:w.heap[b]?=some o) (ho:∀ c f,o≠.cells c e f):v.ownBlock≠some b:=fun e1=>by
 obtain⟨cs,hc⟩:=own_type h e1
 rw[hb] at hc
 injection hc with hc
 exact ho _ _ hc
section
variable {W0 W W':World} {r1 r2:Rng} {st st':LoopState} {lb g yk fk bk:Nat} {t m ifs:L} {vo v v' vo':Value} {σ:Q}
theorem Inn.later (h:Inn W0 r1 r2 st lb g yk fk bk t m ifs W vo v σ) (hl:Later W W'):Inn W0 r1 r2 st lb g yk fk bk t m ifs W' vo v σ:=
 ⟨h.o.later hl,⟨later_cells hl h.at2.1,later_cells hl h.at2.2⟩,h.rd.keep (X:=fun _=>True) (Fr.later hl) trivial (fun _ _=>trivial),later_cells hl h.yb,later_cells hl h.fb,later_cells hl h.bx,h.nb,h.vlow,h.glow,h.dd⟩
theorem Inn.read {z:Rw} {bg af:Bool} (h:Inn W0 r1 r2 st lb g yk fk bk t m ifs W vo v σ) (hr:Rdr W' g v' z bg af) (hf:Fr (But g v) W W') (hm:Moved W v v'):Inn W0 r1 r2 st lb g yk fk bk t m ifs W' vo v' ⟨σ.out,z,bg,af⟩:=by
 have ob:∀ {k:Nat} {o:Obj},W.heap[k]?=some o→(∀ c f,o≠.cells c 146 f)→(∀ c f,o≠.cells c 141 f)→But g v k:=fun hk h1 h2=>⟨ne_obj hk h.rd.box (h2 _ _),ne_own h.rd.own hk h1⟩
 have x1:=ob h.o.at1.1 (fun c f=>by simp) (fun c f=>by simp)
 have x2:=ob h.o.at1.2 (fun c f=>by simp) (fun c f=>by simp)
 have x3:=ob h.at2.1 (fun c f=>by simp) (fun c f=>by simp)
 have x4:=ob h.at2.2 (fun c f=>by simp) (fun c f=>by simp)
 have x5:=ob h.o.box (fun c f=>by simp) (fun c f=>by simp)
 have x6:=ob h.yb (fun c f=>by simp) (fun c f=>by simp)
 have x7:=ob h.fb (fun c f=>by simp) (fun c f=>by simp)
 have x8:=ob h.bx (fun c f=>by simp) (fun c f=>by simp)
 have x9:∀ i,vo.ownBlock=some i→But g v i:=fun i e=>by
  obtain⟨cs,hc⟩:=own_type h.o.own e
  exact ob hc (fun c f=>by simp) (fun c f=>by simp)
 refine⟨h.o.fr hf (fun k hk=>⟨by have:=h.glow;omega,fun e=>by have:=h.vlow k e;omega⟩) x5 x1 x2 x9,⟨hf.cells h.at2.1 x3,hf.cells h.at2.2 x4⟩,hr,hf.cells h.yb x6,hf.cells h.fb x7,hf.cells h.bx x8,h.nb,fun k e=>?_,h.glow,h.dd⟩
 rcases hm with e1 | ⟨j,e1,hj⟩
 ·exact h.vlow k (e1.symm.trans e)
 ·rw[e] at e1
  injection e1 with e1
  have:=h.o.low.size
  omega
theorem Inn.told {f:Rw} (h:Inn W0 r1 r2 st lb g yk fk bk t m ifs W vo v σ) (ho:OutSt W0 r1 lb W' vo' (σ.out++[f])) (hf:Fr (ButO r1 lb vo) W W') (hm:Moved W vo vo'):Inn W0 r1 r2 st lb g yk fk bk t m ifs W' vo' v ⟨σ.out++[f],σ.now,σ.begun,σ.blank⟩:=by
 have ob:∀ {k:Nat} {o:Obj},W.heap[k]?=some o→(∀ c f,o≠.cells c 37 f)→(∀ c f,o≠.cells c 30 f)→k≠r1.D+1→ButO r1 lb vo k:=fun hk h1 h2 h3=>⟨ne_obj hk h.o.box (h2 _ _),h3,ne_own h.o.own hk h1⟩
 have hd:=h.dd
 have x3:=ob h.at2.1 (fun c f=>by simp) (fun c f=>by simp) (by omega)
 have x4:=ob h.at2.2 (fun c f=>by simp) (fun c f=>by simp) (by omega)
 have x5:=ob h.rd.box (fun c f=>by simp) (fun c f=>by simp) (ne_obj h.rd.box h.o.at1.1 (by simp))
 have x6:=ob h.yb (fun c f=>by simp) (fun c f=>by simp) (ne_obj h.yb h.o.at1.1 (by simp))
 have x7:=ob h.fb (fun c f=>by simp) (fun c f=>by simp) (ne_obj h.fb h.o.at1.1 (by simp))
 have x8:ButO r1 lb vo bk:=⟨ne_obj h.bx h.o.box (by simp),ne_obj h.bx h.o.at1.1 (by simp),h.nb⟩
 have x9:∀ i,v.ownBlock=some i→ButO r1 lb vo i:=fun i e=>by
  obtain⟨cs,hc⟩:=own_type h.rd.own e
  exact ob hc (fun c f=>by simp) (fun c f=>by simp) (ne_obj hc h.o.at1.1 (by simp))
 refine⟨ho,⟨hf.cells h.at2.1 x3,hf.cells h.at2.2 x4⟩,h.rd.keep hf x5 x9,hf.cells h.yb x6,hf.cells h.fb x7,hf.cells h.bx x8,?_,h.vlow,h.glow,h.dd⟩
 exact moved_ne hm h.nb (lt_of_block h.bx)
theorem Inn.turn (h:Inn W0 r1 r2 st lb g yk fk bk t m ifs W vo v σ) (ht:r2.Turn W W') (h2:r2.At st' none W'):Inn W0 r1 r2 st' lb g yk fk bk t m ifs W' vo v σ:=by
 have hf:Fr (fun k=>k≠r2.D+1) W W':=Fr.grown ht.grown fun x e hx=>by injection e with e;exact hx e.symm
 have hd:=h.dd
 have ob:∀ {k:Nat} {c:Array Value} {ty:TypeId},W.heap[k]?=some (.cells c ty (0,0))→k≠r2.D+1:=fun hk=>ne_obj hk h.at2.1 (by simp)
 refine⟨h.o.fr hf (fun k hk e=>?_) (ob h.o.box) (by omega) (by omega) (fun i e=>?_),h2,h.rd.keep hf (ob h.rd.box) (fun i e=>?_),hf.cells h.yb (ob h.yb),hf.cells h.fb (ob h.fb),hf.cells h.bx (ob h.bx),h.nb,h.vlow,h.glow,h.dd⟩
 ·have:=h.o.dge;omega
 ·obtain⟨cs,hc⟩:=own_type h.o.own e;exact ob hc
 ·obtain⟨cs,hc⟩:=own_type h.rd.own e;exact ob hc
end
end Jo
end Go.Proofs.YtipdgmjplnibeaaGreatDoor
