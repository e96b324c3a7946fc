/- The writer's text, told: textOf, Show. No premises. -/
import Derived.Test.YtkkchkkpnlnbgaaGreatDoorPl
import Derived.Lib.UnsafeStr
import Derived.Test.YtkkchkkpnlnbgaaGreatDoorPc
set_option maxRecDepth 100000
set_option maxHeartbeats 3200000
namespace Go.Proofs.YtkkchkkpnlnbgaaGreatDoor
open Go.RowKit Go.Maps
open Lx (nl)
open Um (Tr Rdy)
namespace Uw
section
variable {W W':World} {X:Nat→Prop} {g:Nat} {C:WC} {s:Up.S} {B:List Bool}
theorem low_freeze {W0 w:World} (h:Later W0 w) {b:Nat} (hb:W0.heap.size≤b) (n:Nat):Later W0 (w.freeze ⟨b,0,none⟩ n):=Lib.below_freeze h (p:=⟨b,0,none⟩) hb _
theorem string_v (h:WMem W X g C s B) (hl:s.text.length≤20000000000000):Calls Tryz.prog 33 #[.pointer (some ⟨g,2,none⟩)] W fun e W'=>e=.returned (.string (mkS s.text))∧Later C.W0 W':=by
 obtain⟨vh,H,pa,vb,hm⟩:=h
 have HLW:=Lib.hid hm.low
 have hgX:=hm.ge hm.gX
 obtain⟨⟨_,_,_,c1,_,_⟩,_⟩:=hm.facts
 have hc1:W.drew.cell? ⟨g,3,none⟩=some vb:=c1
 have hUN:∀ (W:World) (q:Option Addr),(Builtin.unsafeString_ #[93,3] 9 #[.pointer q,.int .i64 0]).run Tryz.prog W=.ok (.string .empty) W:=fun W q=>Lib.run_unsafeString_none W _ _ _ q
 have hown:=hm.buf
 rcases hown.2 with⟨rfl,h0⟩ | ⟨u,cap,cur,rfl,hbu,hu,hnc,hcm,hcs,htake⟩
 ·have e0:s.text=[]:=List.eq_nil_of_length_eq_zero h0
  rw[e0]
  have hSD:(Builtin.unsafeSliceData_ #[70] 93 #[.slice none 0 0]).run Tryz.prog W.drew=.ok (.pointer none) W.drew:=rfl
  clear hm hown h0 e0
  go_enter Tryz.func33,Tryz.ntmps33
  go_wp2
  go_region
  all_goals (go_wp2;go_ret;exact⟨rfl,Below.drew HLW.out⟩)
 ·have huX:=hm.ge (hm.uX u rfl)
  have hult:=lt_of_block hu
  by_cases h0:s.text=[]
  ·rw[h0] at hc1 c1⊢
   have c1':W.cell? ⟨g,3,none⟩=some (.slice (some ⟨u,0,none⟩) 0 cap):=c1
   have hc1':W.drew.cell? ⟨g,3,none⟩=some (.slice (some ⟨u,0,none⟩) 0 cap):=hc1
   by_cases hc0:cap=0
   ·subst hc0
    have hSD:(Builtin.unsafeSliceData_ #[70] 93 #[.slice (some ⟨u,0,none⟩) 0 0]).run Tryz.prog W.drew=.ok (.pointer (some ⟨W.drew.heap.size,0,none⟩)) (W.drew.alloc (.view ⟨u,0,none⟩ 5)):=
     Lib.run_unsafeSliceData_zero W.drew _ _ 5 Tryz.underlying93 ⟨u,0,none⟩ 0 (5,cur.size) (by have hg':W.drew.heap[u]?=some (.cells cur 5 (0,0)):=hu;simp[World.shape?,hg'])
    have c2:(W.drew.alloc (.view ⟨u,0,none⟩ 5)).cell? ⟨g,3,none⟩=some (.slice (some ⟨u,0,none⟩) 0 0):=cell_keeps (Later.alloc W.drew _) hc1'
    have c3:(W.alloc (.view ⟨u,0,none⟩ 5)).drew.cell? ⟨g,3,none⟩=some (.slice (some ⟨u,0,none⟩) 0 0):=c2
    clear hm hown
    go_enter Tryz.func33,Tryz.ntmps33
    go_wp2
    go_region
    all_goals (go_wp2;go_ret;exact⟨rfl,Below.trans (Below.drew HLW.out) ((Below.refl _ _).alloc (Below.drew HLW.out).size _)⟩)
   ·have hSD:(Builtin.unsafeSliceData_ #[70] 93 #[.slice (some ⟨u,0,none⟩) 0 cap]).run Tryz.prog W.drew=.ok (.pointer (some ⟨u,0,none⟩)) W.drew:=Lib.run_unsafeSliceData_row _ _ _ _ _ _ hc0
    clear hm hown hc0
    go_enter Tryz.func33,Tryz.ntmps33
    go_wp2
    go_region
    all_goals (go_wp2;go_ret;exact⟨rfl,Below.drew HLW.out⟩)
  ·have hl0:s.text.length≠0:=by simpa using h0
   have hSD:(Builtin.unsafeSliceData_ #[70] 93 #[.slice (some ⟨u,0,none⟩) s.text.length cap]).run Tryz.prog W.drew=.ok (.pointer (some ⟨u,0,none⟩)) W.drew:=Lib.run_unsafeSliceData_row _ _ _ _ _ _ (by omega)
   have hcells:Tryz.prog.cellsOf 5=1:=by kernel_rfl
   have hUS:(Builtin.unsafeString_ #[93,3] 9 #[.pointer (some ⟨u,0,none⟩),.int .i64 s.text.length]).run Tryz.prog W.drew=.ok (.string (mkS s.text)) (W.drew.freeze ⟨u,0,none⟩ s.text.length):=by
    refine Lib.run_unsafeString_row W.drew 93 3 9 5 Tryz.underlying93 hcells u cur.size (by have hg':W.drew.heap[u]?=some (.cells cur 5 (0,0)):=hu;simp[World.shape?,hg']) s.text h0 (by omega) (by omega) ?_
    intro j x hx
    have:=hown.cells (g:=u) rfl j (.int .u8 x.toNat) (by rw[List.getElem?_map,hx];rfl)
    exact this
   have hlr:=low_freeze (Below.drew HLW.out) huX s.text.length
   clear hm hown hcells
   go_enter Tryz.func33,Tryz.ntmps33
   go_wp2
   go_region
   all_goals (go_wp2;go_ret;exact⟨rfl,hlr⟩)
end
end Uw
end Go.Proofs.YtkkchkkpnlnbgaaGreatDoor
namespace Go.Proofs.YtkkchkkpnlnbgaaGreatDoor
open Go.RowKit Go.Maps
open Lx (nl)
open Um (Tr Rdy Beg)
namespace Uw
structure TreeAt (W:World) (A:Option Addr) (ns:List Sx.Node):Prop where
 tr:Tr ns
 rd:RdN W A ns.length ns
 nf:∀ k (h:k<ns.length),∃ g Aw Ar Ak cw cr ck ln,A=some ⟨g,0,none⟩∧NodeC W g (k*8) ns[k] Aw Ar Ak cw cr ck ln∧ns[k].words.length≤cw
 sm:∀ n∈ns,Sx.Sm n
 few:ns.length≤100000
 kids:∀ n∈ns,n.kids.length≤100000
section
variable {W W':World} {X:Nat→Prop} {g:Nat} {C:WC} {s:Up.S} {B:List Bool} {A:Option Addr} {ns:List Sx.Node} {c:Nat}
theorem TreeAt.later (h:TreeAt W A ns) (hl:Later W W'):TreeAt W' A ns:=
 ⟨h.tr,h.rd.later hl,fun k hk=>by
  obtain⟨g,Aw,Ar,Ak,cw,cr,ck,ln,e,h1,h2⟩:=h.nf k hk
  exact⟨g,Aw,Ar,Ak,cw,cr,ck,ln,e,h1.later hl,h2⟩,h.sm,h.few,h.kids⟩
theorem TreeAt.tree (h:TreeAt W A ns) (h1:C.W0=W) (h2:C.A=A) (h3:C.ns=ns):Tree C:=by
 subst h1 h2 h3
 exact⟨h.tr,h.rd,h.nf,h.sm,h.few,h.kids⟩
theorem kind_out (h:WMem W X g C s B) (z:Int) (hz:z<0∨(C.ns.length:Int)≤z) (hn:C.ns.length≤100000):Calls Tryz.prog 82 #[.pointer (some ⟨g,0,none⟩),.int .i64 z] W fun e W'=>e=.returned (.int .i64 0)∧W'=W:=by
 obtain⟨vh,H,pa,vb,hm⟩:=h
 obtain⟨⟨c0,c1,c2,c3,c4,c5⟩,hzf⟩:=hm.facts
 obtain⟨N,hN⟩:∃ N,N=C.ns.length:=⟨_,rfl⟩
 rw[←hN] at hz c0 hn
 clear hm hN
 by_cases h0:z<0
 ·clear hz
  go_enter Tryz.func82,Tryz.ntmps82
  go_wp2
  go_ret
  exact⟨rfl,rfl⟩
 ·have h1:(N:Int)≤z:=hz.resolve_left h0
  clear hz
  go_enter Tryz.func82,Tryz.ntmps82
  go_wp2
  go_ret
  exact⟨rfl,rfl⟩
theorem node_out (h:WMem W X g C s B) (p:Int) (hz:p<0∨(C.ns.length:Int)≤p) (hn:C.ns.length≤100000):Calls Tryz.prog 32 #[.pointer (some ⟨g,0,none⟩),.int .i64 p] W fun e W'=>e=.returned (.tuple #[])∧WMem W' X g C s B∧Fr X W W':=by
 have hki:∀ W',Later W W'→Calls Tryz.prog 82 #[.pointer (some ⟨g,0,none⟩),.int .i64 p] W' fun e W''=>e=.returned (.int .i64 0)∧W''=W':=fun W' hW=>kind_out (h.later hW) p hz hn
 obtain⟨vh,H,pa,vb,hm⟩:=h
 obtain⟨⟨c0,c1,c2,c3,c4,c5⟩,hzf⟩:=hm.facts
 have HLK:=Lib.hid (show ∀ w,Later W w→(Instr.lookup 73 (.map (some C.m)) (.int .i64 0) true).run Tryz.prog w=.ok (.tuple #[.nilFunc,.bool false]) w from fun w hw=>(hm.later hw).tab.look 0 (by omega))
 have HKI:=Lib.hid hki
 obtain⟨C0,hC0⟩:∃ C0:Nat→Value→World→Prop,C0=fun j _ w=>j=0∧w=W.drew:=⟨_,rfl⟩
 have H0:=Lib.hid (show C0 0 undef W.drew by rw[hC0];exact⟨rfl,rfl⟩)
 have HW:=Lib.hid (show ∀ j u w,C0 j u w→w=W.drew from fun j u w hc=>by rw[hC0] at hc;exact hc.2)
 have HC5:=Lib.hid (show ∀ j u w,C0 j u w→w.cell? ⟨g,5,none⟩=some (.map (some C.m)) from fun j u w hc=>by rw[hC0] at hc;rw[hc.2];exact c5)
 have HM:=Lib.hid hm
 clear hm hC0 hki c0 c1 c2 c3 c4 c5 hzf
 go_enter Tryz.func32,Tryz.ntmps32
 go_wp2
 refine wp_region_seq (by kernel_rfl) [] (C0) [some (.pointer (some ⟨g,0,none⟩)),some (.pointer (some ⟨g,0,none⟩)),some (.pointer (some ⟨g,5,none⟩)),some (.map (some C.m)),some (.pointer (some ⟨g,0,none⟩)),some (.int .i64 p),some (.int .i64 0),some (.tuple #[.nilFunc,.bool false]),some (.tuple #[.nilFunc,.bool false]),some (.nilFunc),some (.bool false),some (.nilFunc),some (.bool false)] (by decide) (by decide) (by kernel_rfl) (by kernel_rfl) (H0.out) ?_ ?_
 ·refine⟨?_,?_,?_,?_,?_,?_,?_,?_,?_,?_,?_,?_,?_,trivial⟩
  ·
   refine OwesS.q rfl fun a w j u hC hb hs=>⟨rfl,?_⟩
   have e0:a.tmps.getD 0 undef=.pointer (some ⟨g,0,none⟩):=hs.free 0 rfl
   refine ValWp.pure (v:=.pointer (some ⟨g,0,none⟩)) (fun K' hK'=>?_) ⟨rfl,rfl⟩
   simp only[ValWp,execOp,Act.eval,e0]
   go_simp
   all_goals exact hK'
  ·
   refine OwesS.q rfl fun a w j u hC hb hs=>⟨rfl,?_⟩
   have e7:a.tmps.getD 7 undef=.pointer (some ⟨g,0,none⟩):=hs.dep 0 _ rfl rfl
   refine ValWp.pure (v:=.pointer (some ⟨g,0,none⟩)) (fun K' hK'=>?_) ⟨rfl,rfl⟩
   simp only[ValWp,execOp,Act.eval,e7]
   go_simp
   all_goals exact hK'
  ·
   refine OwesS.q rfl fun a w j u hC hb hs=>⟨rfl,?_⟩
   have e8:a.tmps.getD 8 undef=.pointer (some ⟨g,0,none⟩):=hs.dep 1 _ rfl rfl
   refine ValWp.pure (v:=.pointer (some ⟨g,5,none⟩)) (fun K' hK'=>?_) ⟨rfl,rfl⟩
   simp only[ValWp,execOp,Act.eval,e8]
   go_simp
   all_goals exact hK'
  ·
   refine OwesS.q rfl fun a w j u hC hb hs=>⟨rfl,?_⟩
   have e9:a.tmps.getD 9 undef=.pointer (some ⟨g,5,none⟩):=hs.dep 2 _ rfl rfl
   have q0:=HC5.out j u w hC
   refine ValWp.pure (v:=.map (some C.m)) (fun K' hK'=>?_) ⟨rfl,rfl⟩
   simp only[ValWp,execOp,Act.eval,e9]
   go_simp
   all_goals exact hK'
  ·
   refine OwesS.q rfl fun a w j u hC hb hs=>⟨rfl,?_⟩
   have e0:a.tmps.getD 0 undef=.pointer (some ⟨g,0,none⟩):=hs.free 0 rfl
   refine ValWp.pure (v:=.pointer (some ⟨g,0,none⟩)) (fun K' hK'=>?_) ⟨rfl,rfl⟩
   simp only[ValWp,execOp,Act.eval,e0]
   go_simp
   all_goals exact hK'
  ·
   refine OwesS.q rfl fun a w j u hC hb hs=>⟨rfl,?_⟩
   have e1:a.tmps.getD 1 undef=.int .i64 p:=hs.free 1 rfl
   refine ValWp.pure (v:=.int .i64 p) (fun K' hK'=>?_) ⟨rfl,rfl⟩
   simp only[ValWp,execOp,Act.eval,e1]
   go_simp
   all_goals exact hK'
  ·
   refine OwesS.q rfl fun a w j u hC hb hs=>⟨rfl,?_⟩
   have e11:a.tmps.getD 11 undef=.pointer (some ⟨g,0,none⟩):=hs.dep 4 _ rfl rfl
   have e12:a.tmps.getD 12 undef=.int .i64 p:=hs.dep 5 _ rfl rfl
   refine ValWp.call #[.pointer (some ⟨g,0,none⟩),.int .i64 p] rfl rfl Tryz.func82 rfl rfl (by simp only[List.map_toArray,List.map_cons,List.map_nil,Act.eval,e11,e12]) ?_
   have hw:=HW.out j u w hC
   subst hw
   refine(HKI.out _ (Later.drew _)).mono ?_
   rintro r w9 ⟨rfl,rfl⟩
   exact⟨_,rfl,rfl,rfl⟩
  ·
   refine OwesS.q rfl fun a w j u hC hb hs=>⟨rfl,?_⟩
   have e10:a.tmps.getD 10 undef=.map (some C.m):=hs.dep 3 _ rfl rfl
   have e13:a.tmps.getD 13 undef=.int .i64 0:=hs.dep 6 _ rfl rfl
   have hw:=HW.out j u w hC
   subst hw
   have q0:=HLK.out _ (Later.drew W)
   refine ValWp.pure (v:=.tuple #[.nilFunc,.bool false]) (fun K' hK'=>?_) ⟨rfl,rfl⟩
   simp only[ValWp,execOp,Act.eval,e10,e13]
   go_simp
   all_goals exact hK'
  ·
   refine OwesS.q rfl fun a w j u hC hb hs=>⟨rfl,?_⟩
   have e14:a.tmps.getD 14 undef=.tuple #[.nilFunc,.bool false]:=hs.dep 7 _ rfl rfl
   refine ValWp.pure (v:=.tuple #[.nilFunc,.bool false]) (fun K' hK'=>?_) ⟨rfl,rfl⟩
   simp only[ValWp,execOp,Act.eval,e14]
   go_simp
   all_goals exact hK'
  ·
   refine OwesS.q rfl fun a w j u hC hb hs=>⟨rfl,?_⟩
   have e6:a.tmps.getD 6 undef=.tuple #[.nilFunc,.bool false]:=hs.dep 8 _ rfl rfl
   refine ValWp.pure (v:=.nilFunc) (fun K' hK'=>?_) ⟨rfl,rfl⟩
   simp only[ValWp,execOp,Act.eval,e6]
   go_simp
   all_goals exact hK'
  ·
   refine OwesS.q rfl fun a w j u hC hb hs=>⟨rfl,?_⟩
   have e6:a.tmps.getD 6 undef=.tuple #[.nilFunc,.bool false]:=hs.dep 8 _ rfl rfl
   refine ValWp.pure (v:=.bool false) (fun K' hK'=>?_) ⟨rfl,rfl⟩
   simp only[ValWp,execOp,Act.eval,e6]
   go_simp
   all_goals exact hK'
  ·
   refine OwesS.q rfl fun a w j u hC hb hs=>⟨rfl,?_⟩
   have e15:a.tmps.getD 15 undef=.nilFunc:=hs.dep 9 _ rfl rfl
   refine ValWp.pure (v:=.nilFunc) (fun K' hK'=>?_) ⟨rfl,rfl⟩
   simp only[ValWp,execOp,Act.eval,e15]
   go_simp
   all_goals exact hK'
  ·
   refine OwesS.q rfl fun a w j u hC hb hs=>⟨rfl,?_⟩
   have e16:a.tmps.getD 16 undef=.bool false:=hs.dep 10 _ rfl rfl
   refine ValWp.pure (v:=.bool false) (fun K' hK'=>?_) ⟨rfl,rfl⟩
   simp only[ValWp,execOp,Act.eval,e16]
   go_simp
   all_goals exact hK'
 ·intro a w u hC hl hd hsz hfree hs
  obtain⟨z0,z1,u2,u3,z4,z5,u6,u7,u8,u9,u10,u11,u12,u13,u14,u15,u16,u17,u18,u19,u20,u21,u22,u23,u24,u25,u26,u27,u28,u29,u30,u31,u32,u33,u34,u35,u36,u37,u38,u39,u40,u41,u42,hal⟩:=lets a 43 0
  obtain rfl:=hal.on (v:=.pointer (some ⟨g,0,none⟩)) 0 (hfree 0 rfl) rfl
  obtain rfl:=hal.on (v:=.int .i64 p) 1 (hfree 1 rfl) rfl
  obtain rfl:=hal.on (v:=.nilFunc) 4 (hs 11 _ rfl) rfl
  obtain rfl:=hal.on (v:=.bool false) 5 (hs 12 _ rfl) rfl
  have hlit:=fun h=>act_lit hd h hal
  rw[hlit hsz]
  clear hlit hal hd hsz hfree hs
  have hw:=HW.out _ _ _ hC
  subst hw
  clear hC hl
  go_wp2
  refine bodyPost_ret (results_none rfl _ _ _) rfl ?_
  exact⟨rfl,(HM.out.later (Later.drew W)).mem,Fr.later (Later.drew W)⟩
theorem textOf_v (hT:TreeAt W A ns) (k:Nat) (hk:k<ns.length) (hl:Up.size (Up.nodeF ns ns.length ⟨[],[]⟩ k)≤2300000000000) (c:Nat):Calls Tryz.prog 15 #[.agg #[.slice A ns.length c],.int .i64 (k:Int)] W fun e W'=>e=.returned (.string (mkS (Up.nodeF ns ns.length ⟨[],[]⟩ k).text))∧Later W W':=by
 obtain⟨w1,hw1⟩:∃ w1,w1=W.alloc (.cells #[.slice A ns.length c] 25):=⟨_,rfl⟩
 have hl1:Later W w1:=by rw[hw1];exact Later.alloc _ _
 have HO:=Lib.hid (open_v w1 A c ns k hT.few)
 have HT:=Lib.hid (hT.later hl1)
 have HL1:=Lib.hid hl1
 have HL:=Lib.hid hl
 have c0:w1.cell? ⟨W.heap.size,0,none⟩=some (.slice A ns.length c):=by rw[hw1];exact(cell_row (heap_alloc_new W _) 0).1
 rw[hw1] at c0
 rw[hw1] at HO
 clear hT hl1 hl
 go_enter Tryz.func15,Tryz.ntmps15
 go_wp2_with (go_at_call 31;fail)
 (with_reducible refine HO.out.mono ?_)
 rintro e w2 ⟨g,C,X,rfl,e0,e1,e2,e3,e4,hm,hx,hl2⟩
 rw[←hw1] at e0 hl2
 have hTC:Tree C:=HT.out.tree e0 e1 e3
 have hrd:Rdy C.T C.ns (List.replicate ns.length false) k:=by
  rw[e4,e3]
  refine⟨⟨by simp,fun i j _ _ hj=>?_⟩,hk,fun hj=>?_,Nat.le_refl _,fun i hi ⟨h1,h2⟩=>?_⟩
  ·unfold Um.bg at hj
   rw[List.getElem?_replicate] at hj
   split at hj <;> simp at hj
  ·unfold Um.bg at hj
   rw[List.getElem?_replicate] at hj
   split at hj <;> simp at hj
  ·have:=HT.out.tr.lt i h1 k h2
   omega
 have hnd:=node_v hTC ns.length k hk (by rw[e3];exact hk) w2 X ⟨[],[]⟩ _ hm hx hrd (by rw[e3];exact HL.out)
 rw[e3] at hnd
 have HND:=Lib.hid hnd
 have HE0:=Lib.hid e0
 clear hm hx hl2 hTC hrd hnd c0 e0 e1 e2 e3 e4
 go_wp2_with (go_at_call 32;fail)
 (with_reducible refine HND.out.mono ?_)
 rintro e w3 ⟨rfl,⟨B',hm3,_⟩,hf3⟩
 have hst:=string_v hm3 (by have:=HL.out;unfold Up.size at this;omega)
 rw[HE0.out] at hst
 have HST:=Lib.hid hst
 clear hm3 hf3 hst HND
 go_wp2_with (go_at_call 33;fail)
 (with_reducible refine HST.out.mono ?_)
 rintro e w4 ⟨rfl,hl4⟩
 have HL4:=Lib.hid (Later.trans HL1.out hl4)
 clear hl4
 go_wp2
 go_ret
 exact⟨rfl,HL4.out⟩
theorem textOf_out (W:World) (A:Option Addr) (ns:List Sx.Node) (hn:ns.length≤100000) (p:Int) (hz:p<0∨(ns.length:Int)≤p) (c:Nat):Calls Tryz.prog 15 #[.agg #[.slice A ns.length c],.int .i64 p] W fun e W'=>e=.returned (.string (mkS []))∧Later W W':=by
 obtain⟨w1,hw1⟩:∃ w1,w1=W.alloc (.cells #[.slice A ns.length c] 25):=⟨_,rfl⟩
 have hl1:Later W w1:=by rw[hw1];exact Later.alloc _ _
 have HO:=Lib.hid (open_v w1 A c ns 0 hn)
 have HL1:=Lib.hid hl1
 have HZ:=Lib.hid hz
 have c0:w1.cell? ⟨W.heap.size,0,none⟩=some (.slice A ns.length c):=by rw[hw1];exact(cell_row (heap_alloc_new W _) 0).1
 rw[hw1] at c0
 rw[hw1] at HO
 clear hl1 hz
 go_enter Tryz.func15,Tryz.ntmps15
 go_wp2_with (go_at_call 31;fail)
 (with_reducible refine HO.out.mono ?_)
 rintro e w2 ⟨g,C,X,rfl,e0,e1,e2,e3,e4,hm,hx,hl2⟩
 rw[←hw1] at e0 hl2
 have HND:=Lib.hid (node_out hm p (by rw[e3];exact HZ.out) (by rw[e3];exact hn))
 have HE0:=Lib.hid e0
 clear hm hx hl2 c0 e0 e1 e2 e3 e4
 go_wp2_with (go_at_call 32;fail)
 (with_reducible refine HND.out.mono ?_)
 rintro e w3 ⟨rfl,hm3,hf3⟩
 have hst:=string_v hm3 (by simp)
 rw[HE0.out] at hst
 have HST:=Lib.hid hst
 clear hm3 hf3 hst HND
 go_wp2_with (go_at_call 33;fail)
 (with_reducible refine HST.out.mono ?_)
 rintro e w4 ⟨rfl,hl4⟩
 have HL4:=Lib.hid (Later.trans HL1.out hl4)
 clear hl4
 go_wp2
 go_ret
 exact⟨rfl,HL4.out⟩
theorem show_w (W:World) (A:Option Addr) (n c:Nat) (hn:n≤1000000) (t:List UInt8) (hx:∀ W',Later W W'→Calls Tryz.prog 15 #[.agg #[.slice A n c],.int .i64 ((n:Int)-1)] W' fun e W''=>e=.returned (.string (mkS t))∧Later W' W''):Calls Tryz.prog 7 #[.agg #[.slice A n c]] W fun e W'=>e=.returned (.string (mkS t))∧Later W W':=by
 obtain⟨w1,hw1⟩:∃ w1,w1=W.alloc (.cells #[.slice A n c] 25):=⟨_,rfl⟩
 have hl1:Later W w1:=by rw[hw1];exact Later.alloc _ _
 have hbx:w1.heap[W.heap.size]?=some (.cells #[.slice A n c] 25 (0,0)):=by rw[hw1];exact heap_alloc_new W _
 obtain⟨C0,hC0⟩:∃ C0:Nat→Value→World→Prop,C0=fun j u w=>Later w1 w∧(j=1→u=.int .i64 ((n:Int)-1))∧(2≤j→u=.string (mkS t)):=⟨_,rfl⟩
 have H0:=Lib.hid (show C0 0 undef w1.drew by rw[hC0];exact⟨Later.drew _,nofun,by omega⟩)
 have HLT:=Lib.hid (show ∀ j u w,C0 j u w→Later w1 w from fun j u w hc=>by rw[hC0] at hc;exact hc.1)
 have HLD:=Lib.hid (show ∀ j u w,C0 j u w→(Instr.loadAt 25 (.pointer (some ⟨W.heap.size,0,none⟩))).run Tryz.prog w=.ok (.agg #[.slice A n c]) w from fun j u w hc=>by
  rw[hC0] at hc
  refine run_loadAt_mid (P:=Tryz.prog) w W.heap.size 0 25 [.slice A n c] _ (fun i v hv=>?_) Tryz.underlying25 rfl (by kernel_rfl)
  rw[Nat.zero_add,(cell_row (later_cells hc.1 hbx) i).1]
  simpa using hv)
 have H1:=Lib.hid (show ∀ w w',C0 0 undef w→Later w w'→C0 1 (.int .i64 ((n:Int)-1)) w' from fun w w' hc hl=>by rw[hC0] at hc⊢;exact⟨hc.1.trans hl,fun _=>rfl,by omega⟩)
 have HU1:=Lib.hid (show ∀ u w,C0 1 u w→u=.int .i64 ((n:Int)-1) from fun u w hc=>by rw[hC0] at hc;exact hc.2.1 rfl)
 have H2:=Lib.hid (show ∀ u w w',C0 1 u w→Later w w'→C0 2 (.string (mkS t)) w' from fun u w w' hc hl=>by rw[hC0] at hc⊢;exact⟨hc.1.trans hl,nofun,fun _=>rfl⟩)
 have H3:=Lib.hid (show ∀ u w,C0 2 u w→C0 3 u w from fun u w hc=>by rw[hC0] at hc⊢;exact⟨hc.1,nofun,fun _=>hc.2.2 (by omega)⟩)
 have HE:=Lib.hid (show ∀ u w,C0 3 u w→u=.string (mkS t) from fun u w hc=>by rw[hC0] at hc;exact hc.2.2 (by omega))
 have HC00:=Lib.hid (show ∀ u w,C0 0 u w→C0 0 undef w from fun u w hc=>by rw[hC0] at hc⊢;exact⟨hc.1,nofun,by omega⟩)
 have HX:=Lib.hid hx
 have HL1:=Lib.hid hl1
 have HW1:=Lib.hid hw1
 clear hC0 hx hl1 hbx
 go_enter Tryz.func7,Tryz.ntmps7
 go_wp2
 rw[←HW1.out]
 clear hw1
 refine wp_region_seq (by kernel_rfl) [2,3,4] (C0) [some (.agg #[.slice A n c]),some (.agg #[.slice A n c]),none,none,none] (by decide) (by decide) (by kernel_rfl) (by kernel_rfl) (H0.out) ?_ ?_
 ·refine⟨?_,?_,?_,?_,?_,trivial⟩
  ·
   refine OwesS.q rfl fun a w j u hC hb hs=>⟨rfl,?_⟩
   have e1:a.tmps.getD 1 undef=.pointer (some ⟨W.heap.size,0,none⟩):=hs.free 1 rfl
   exact ValWp.loadR rfl e1 (HLD.out j u w hC) ⟨rfl,rfl⟩
  ·
   refine OwesS.q rfl fun a w j u hC hb hs=>⟨rfl,?_⟩
   have e1:a.tmps.getD 1 undef=.pointer (some ⟨W.heap.size,0,none⟩):=hs.free 1 rfl
   exact ValWp.loadR rfl e1 (HLD.out j u w hC) ⟨rfl,rfl⟩
  ·
   refine OwesS.w rfl fun a w u hC hl hs=>⟨rfl,fun K hK=>?_⟩
   have e4:a.tmps.getD 4 undef=.agg #[.slice A n c]:=hs.dep 1 _ rfl rfl
   refine wp_callN 16 _ _ #[.agg #[.slice A n c]] rfl rfl (by simp only[List.map_toArray,List.map_cons,List.map_nil,Act.eval,e4]) (entO Tryz.func16 rfl rfl) ?_
   refine(Pz.root_v w A n c hn).mono ?_
   rintro e w9 ⟨rfl,hl9⟩
   exact⟨_,rfl,hK _ w9 trivial (H1.out w w9 (HC00.out u w hC) hl9)⟩
  ·
   refine OwesS.w rfl fun a w u hC hl hs=>⟨rfl,fun K hK=>?_⟩
   have e3:a.tmps.getD 3 undef=.agg #[.slice A n c]:=hs.dep 0 _ rfl rfl
   have e5:a.tmps.getD 5 undef=u:=hl
   have hu:=HU1.out u w hC
   subst hu
   refine wp_callN 15 _ _ #[.agg #[.slice A n c],.int .i64 ((n:Int)-1)] rfl rfl (by simp only[List.map_toArray,List.map_cons,List.map_nil,Act.eval,e3,e5]) (entO Tryz.func15 rfl rfl) ?_
   refine(HX.out w (Later.trans HL1.out (HLT.out _ _ w hC))).mono ?_
   rintro e w9 ⟨rfl,hl9⟩
   exact⟨_,rfl,hK _ w9 trivial (H2.out _ w w9 hC hl9)⟩
  ·
   refine OwesS.w rfl fun a w u hC hl hs=>⟨rfl,fun K hK=>?_⟩
   have e6:a.tmps.getD 6 undef=u:=hl
   refine wp_of_val ?_
   refine ValWp.pure (v:=u) (w':=w) (fun K' hK'=>?_) (hK _ _ trivial (H3.out u w hC))
   simp only[ValWp,execOp,Act.eval,e6]
   go_simp
   all_goals exact hK'
 ·intro a w u hC hl hd hsz hfree hs
  obtain⟨u0,z1,z2,u3,u4,u5,u6,hal⟩:=lets a 7 0
  obtain rfl:=hal.on (v:=.pointer (some ⟨W.heap.size,0,none⟩)) 1 (hfree 1 rfl) rfl
  obtain rfl:=hal.on (v:=u) 2 (hl) rfl
  have hlit:=fun h=>act_lit hd h hal
  rw[hlit hsz]
  clear hlit hal hd hsz hfree hs
  have hu:=HE.out u w hC
  have hlw:=Later.trans HL1.out (HLT.out _ u w hC)
  subst hu
  clear hC hl
  go_wp2
  go_ret
  exact⟨rfl,hlw⟩
theorem show_v (hT:TreeAt W A ns) (h0:0<ns.length) (hl:Up.size (Up.nodeF ns ns.length ⟨[],[]⟩ (ns.length-1))≤2300000000000) (c:Nat):Calls Tryz.prog 7 #[.agg #[.slice A ns.length c]] W fun e W'=>e=.returned (.string (mkS (Up.text ns)))∧Later W W':=by
 have he:Up.text ns=(Up.nodeF ns ns.length ⟨[],[]⟩ (ns.length-1)).text:=by unfold Up.text;rw[if_neg (by rintro rfl;cases h0)]
 rw[he]
 refine show_w W A ns.length c (by have:=hT.few;omega) _ fun W' hW=>?_
 rw[show ((ns.length:Int)-1)=((ns.length-1:Nat):Int) by omega]
 exact textOf_v (hT.later hW) (ns.length-1) (by omega) hl c
theorem show_nil (W:World) (A:Option Addr) (c:Nat):Calls Tryz.prog 7 #[.agg #[.slice A 0 c]] W fun e W'=>e=.returned (.string (mkS []))∧Later W W':=
 show_w W A 0 c (by omega) [] fun W' _=>by
  have h:=textOf_out W' A [] (by simp) (((0:Nat):Int)-1) (.inl (by omega)) c
  exact h
theorem index_no (c:UInt8):∀ l:List UInt8,c∉l→Lib.indexByte l c=-1
 | [],_=>rfl
 | b::l,h=>by
  have h1:¬ (b==c)=true:=by simp only[beq_iff_eq];rintro rfl;exact h (by simp)
  unfold Lib.indexByte
  rw[if_neg h1,index_no c l (fun e=>h (by simp[e]))]
  rfl
theorem cut_in (t:List UInt8) (ht:(10:UInt8)∉t) (W:World):Calls Tryz.prog 35 #[.string (mkS t),.string ⟨#[10]⟩] W fun e W'=>e=.returned (.tuple #[.string (mkS t),.string ⟨#[]⟩,.bool false])∧W'=W:=by
 have HI:=Lib.hid (show ∀ w,Calls Tryz.prog 83 #[.string (mkS t),.string ⟨#[10]⟩] w fun e w'=>e=.returned (.int .i64 (-1))∧w'=w from fun w=>by have:=Tryz.stringslite_Index_one (mkS t) 10 w;rwa[mkS_list,index_no 10 t ht] at this)
 go_enter Tryz.func35,Tryz.ntmps35
 go_wp2_with (go_at_call 83;(with_reducible refine(HI.out _).mono ?_);rintro e w3 ⟨rfl,rfl⟩)
 refine bodyPost_ret (results_tmp3 rfl _ _ _) rfl ?_
 exact⟨rfl,rfl⟩
theorem cut_v (t:List UInt8) (ht:(10:UInt8)∉t) (W:World):Calls Tryz.prog 18 #[.string (mkS t),.string ⟨#[10]⟩] W fun e W'=>e=.returned (.tuple #[.string (mkS t),.string ⟨#[]⟩,.bool false])∧W'=W:=by
 have HI:=Lib.hid (fun w=>cut_in t ht w)
 go_enter Tryz.func18,Tryz.ntmps18
 go_wp2_with (go_at_call 35;(with_reducible refine(HI.out _).mono ?_);rintro e w3 ⟨rfl,rfl⟩)
 refine bodyPost_ret (results_tmp3 rfl _ _ _) rfl ?_
 exact⟨rfl,rfl⟩
theorem line_w (W:World) (A:Option Addr) (n c:Nat) (k:Int) (t:List UInt8) (ht:(10:UInt8)∉t) (hx:∀ W',Later W W'→Calls Tryz.prog 15 #[.agg #[.slice A n c],.int .i64 k] W' fun e W''=>e=.returned (.string (mkS t))∧Later W' W''):Calls Tryz.prog 10 #[.agg #[.slice A n c],.int .i64 k] W fun e W'=>e=.returned (.string (mkS t))∧Later W W':=by
 have hla:=Later.alloc W (.cells #[.slice A n c] 25)
 have HX:=Lib.hid (hx _ hla)
 have HI:=Lib.hid (fun w=>cut_v t ht w)
 have HLA:=Lib.hid hla
 have c0:(W.alloc (.cells #[.slice A n c] 25)).cell? ⟨W.heap.size,0,none⟩=some (.slice A n c):=(cell_row (heap_alloc_new W _) 0).1
 clear hx hla
 go_enter Tryz.func10,Tryz.ntmps10
 go_wp2_with (first
  |(go_at_call 15;(with_reducible refine HX.out.mono ?_);rintro e w2 ⟨rfl,hl2⟩;have HL2:=Lib.hid (HLA.out.trans hl2);clear hl2 c0)
  |(go_at_call 18;(with_reducible refine(HI.out _).mono ?_);rintro e w3 ⟨rfl,rfl⟩))
 go_ret
 exact⟨rfl,HL2.out⟩
end
end Uw
end Go.Proofs.YtkkchkkpnlnbgaaGreatDoor
namespace Go.Proofs.YtkkchkkpnlnbgaaGreatDoor
open Go.RowKit Go.Maps
open Lx (nl)
open Pz
namespace Uw
theorem tree_at {W:World} {N c:Nat} {A:Option Addr} {S:List UInt8} {ns:List Sx.Node} (hS:S.length≤4096) (ht:Sx.tree S=.ok ns) (hm:TreeM W N (.slice A ns.length c) ns):TreeAt W A ns:=by
 obtain⟨hf,h0,h5,hl⟩:=Sx.tree_forest ht
 have hsm:=Sx.tree_small ht
 refine⟨Um.Tr.of hf,RdN.of_tree hm rfl,fun k hk=>?_,Sx.tree_sm hS ht,by omega,fun n hn=>by have:=(hsm.2 n hn).1;omega⟩
 rcases hm.at_ with h | ⟨g,rfl,hat⟩
 ·rw[h] at hk;cases hk
 ·obtain⟨v,h1,h2⟩:=hat k hk
  obtain⟨Aw,cw,e1,hcw⟩:=own_any h2.w
  obtain⟨Ar,cr,e2,_⟩:=own_any h2.r
  obtain⟨Ak,ck,e3,_⟩:=own_any h2.k
  have hw:=h2.w
  have hr:=h2.r
  have hk2:=h2.k
  rw[e1] at hw
  rw[e2] at hr
  rw[e3] at hk2
  obtain⟨ln,hln⟩:∃ ln:Int,lnv N ns[k].left=.int .i64 ln:=⟨_,rfl⟩
  exact⟨g,Aw,Ar,Ak,cw,cr,ck,ln,rfl,⟨h1.c0,h1.c1,h1.c2,by rw[h1.c3,e1],h1.c4,by rw[h1.c5,e2],by rw[h1.c6,e3],by rw[h1.c7,hln],Rd.of_own hw,RdR.of_own hr,Rd.of_own hk2,own_most hw,own_most hr,own_most hk2⟩,hcw⟩
theorem show_tree {W:World} {N c:Nat} {A:Option Addr} {S:List UInt8} {ns:List Sx.Node} (hS:S.length≤4096) (ht:Sx.tree S=.ok ns) (hm:TreeM W N (.slice A ns.length c) ns):Calls Tryz.prog 7 #[.agg #[.slice A ns.length c]] W fun e W'=>e=.returned (.string (mkS (Up.text ns)))∧Later W W':=by
 obtain⟨hf,h0,h5,hl⟩:=Sx.tree_forest ht
 exact show_v (tree_at hS ht hm) h0 (Sx.text_small hS ht hf h0) c
def N8:List Sx.Node:=[{ kind:=1,words:=[[97]] },{ kind:=1,words:=[[98]],redirs:=[⟨1,[62],[102],[]⟩] },{ kind:=5,kids:=[0,1] }]
theorem tree8:Sx.tree [97,59,98,32,62,102]=.ok N8:=by kernel_rfl
theorem text8:Up.text N8=[97,10,49,62,102,32,98,10]:=by decide
theorem node8:(Up.nodeF N8 N8.length ⟨[],[]⟩ 1).text=[49,62,102,32,98]:=by decide
theorem size8:Up.size (Up.nodeF N8 N8.length ⟨[],[]⟩ 1)≤2300000000000:=by decide
theorem awake_v (W:World) (hg:Sgn W):Calls Tryz.prog 5 #[] W fun e W'=>e=.returned (.bool true)∧Later W W':=by
 have H1:=Lib.hid (show Calls Tryz.prog 6 #[.string ⟨#[97,59,98,32,62,102]⟩] W fun e W'=>∃ A c,e=.returned (.tuple #[.agg #[.slice A 3 c],.int .i64 0,.int .i64 0])∧3≤c∧TreeM W' 0 (.slice A 3 c) N8∧Later W W' from parse_ok (by decide) tree8 W hg)
 have H2:=Lib.hid (show ∀ w A c,TreeM w 0 (.slice A 3 c) N8→Calls Tryz.prog 7 #[.agg #[.slice A 3 c]] w fun e W'=>e=.returned (.string ⟨#[97,10,49,62,102,32,98,10]⟩)∧Later w W' from fun w A c h=>by have h1:=show_tree (S:=[97,59,98,32,62,102]) (by decide) tree8 h;rw[text8] at h1;exact h1)
 have H3:=Lib.hid (show ∀ w A c,TreeM w 0 (.slice A 3 c) N8→Calls Tryz.prog 10 #[.agg #[.slice A 3 c],.int .i64 1] w fun e W'=>e=.returned (.string ⟨#[49,62,102,32,98]⟩)∧Later w W' from fun w A c h=>line_w w A 3 c 1 [49,62,102,32,98] (by decide) fun W' hW=>by have h1:=textOf_v (tree_at (S:=[97,59,98,32,62,102]) (by decide) tree8 (h.later hW)) 1 (by decide) size8 c;rw[node8] at h1;exact h1)
 have H4:=Lib.hid (show ∀ w A c,Calls Tryz.prog 10 #[.agg #[.slice A 3 c],.int .i64 9] w fun e W'=>e=.returned (.string ⟨#[]⟩)∧Later w W' from fun w A c=>line_w w A 3 c 9 [] (by simp) fun W' _=>textOf_out W' A N8 (by decide) 9 (.inr (by decide)) c)
 have H5:=Lib.hid (show ∀ w,Calls Tryz.prog 7 #[.agg #[.slice none 0 0]] w fun e W'=>e=.returned (.string ⟨#[]⟩)∧Later w W' from fun w=>show_nil w none 0)
 clear hg
 go_enter Tryz.func5,Tryz.ntmps5
 go_wp2_with (go_at_call 6;fail)
 (with_reducible refine H1.out.mono ?_)
 rintro e w1 ⟨A,c,rfl,hc,hm,hl1⟩
 have hm1:=hm.later (Later.alloc w1 (.cells #[.slice A 3 c] 25))
 have hbx:=heap_alloc_new w1 (.cells #[.slice A 3 c] 25)
 have HC2:=Lib.hid (H2.out _ A c hm1)
 have HM1:=Lib.hid hm1
 have HBX:=Lib.hid hbx
 have HL1:=Lib.hid (hl1.trans (Later.alloc w1 (.cells #[.slice A 3 c] 25)))
 clear hm hm1 hbx hl1 hc
 go_wp2_with (go_at_call 7;fail)
 (with_reducible refine HC2.out.mono ?_)
 rintro e w2 ⟨rfl,hl2⟩
 have hb2:=later_cells hl2 HBX.out
 have d2:w2.cell? ⟨w1.heap.size,0,none⟩=some (.slice A 3 c):=(cell_row hb2 0).1
 have HC3:=Lib.hid (H3.out _ A c (HM1.out.later hl2))
 have HB2:=Lib.hid hb2
 have HL2:=Lib.hid (HL1.out.trans hl2)
 clear hl2 hb2 HC2
 go_wp2_with (go_at_call 10;fail)
 (with_reducible refine HC3.out.mono ?_)
 rintro e w3 ⟨rfl,hl3⟩
 have hb3:=later_cells hl3 HB2.out
 have d3:w3.cell? ⟨w1.heap.size,0,none⟩=some (.slice A 3 c):=(cell_row hb3 0).1
 have HC4:=Lib.hid (H4.out w3 A c)
 have HL3:=Lib.hid (HL2.out.trans hl3)
 clear hl3 hb3 HC3 d2
 go_wp2_with (go_at_call 10;fail)
 (with_reducible refine HC4.out.mono ?_)
 rintro e w4 ⟨rfl,hl4⟩
 have HL4:=Lib.hid (HL3.out.trans hl4)
 clear hl4 HC4 d3
 go_wp2_with (go_at_call 7;fail)
 (with_reducible refine(H5.out _).mono ?_)
 rintro e w5 ⟨rfl,hl5⟩
 have HL5:=Lib.hid (HL4.out.trans hl5)
 clear hl5
 go_wp2
 go_ret
 exact⟨rfl,HL5.out⟩
end Uw
end Go.Proofs.YtkkchkkpnlnbgaaGreatDoor
