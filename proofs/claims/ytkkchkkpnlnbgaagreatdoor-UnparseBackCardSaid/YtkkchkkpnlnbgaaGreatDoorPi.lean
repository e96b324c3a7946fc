/- The writer's methods, by a node's kind. No premises. -/
import Derived.Test.YtkkchkkpnlnbgaaGreatDoorPh
set_option maxRecDepth 100000
set_option maxHeartbeats 1600000
namespace Go.Proofs.YtkkchkkpnlnbgaaGreatDoor
open Go.RowKit Go.Maps
open Lx (nl)
open Um (Mid kid)
namespace Uw
theorem mono_line (s:Up.S) (t:List UInt8):Up.size (Up.line (Up.put s t))=Up.size s+t.length+1:=by rw[Up.size_line,Up.size_put]
theorem mono_end (s:Up.S) (t:List UInt8) (rs:List Sx.Arw):Up.size s≤Up.size (Up.behind (Up.put s t) rs):=by
 have h1:=(Up.size_behind rs (Up.put s t)).1
 have h2:=Up.size_put s t
 omega
def othS (ns:List Sx.Node) (nd:Up.S→Nat→Up.S) (s:Up.S) (c:Nat):Up.S:=if Up.isIf ns c=true then Up.line (nd s c) else nd s c
theorem oth_le (ns:List Sx.Node) (nd:Up.S→Nat→Up.S) (s:Up.S) (c:Nat):Up.size (nd s c)≤Up.size (othS ns nd s c):=by
 unfold othS
 split
 ·rw[Up.size_line];omega
 ·exact Nat.le_refl _
section
variable {W0 w w' W W':World} {X:Nat→Prop} {g:Nat} {C:WC} {s s':Up.S} {A:Array Value} {b p:Nat} {B B1:List Bool} {done done':List Nat} {nd:Up.S→Nat→Up.S} {n:Sx.Node} {Aw Ar Ak:Option Addr} {cw cr ck:Nat} {ln:Int}
theorem BX.load (h:BX W0 w X g C (nodeA n Aw Ar Ak cw cr ck ln) b s p B1 done):(Instr.loadAt 37 (.pointer (some ⟨b,0,none⟩))).run Tryz.prog w=.ok (.agg (nodeA n Aw Ar Ak cw cr ck ln)) w:=
 node_run fun j v hj=>by rw[Nat.zero_add];exact(h.cell j).trans hj
theorem BX.kid (h:BX W0 w X g C (nodeA n Aw Ar Ak cw cr ck ln) b s p B1 done) (hF:NodeF C n Aw Ar Ak) (HK:Kids g C nd p) (i k:Nat) (hi:n.kids[i]?=some k) (hk:Um.kid C.ns p k) (hd:k∉done) (hl:Up.size (nd s k)≤2300000000000):Calls Tryz.prog 107 #[.pointer (some ⟨g,0,none⟩),.agg (nodeA n Aw Ar Ak cw cr ck ln),.int .i64 (i:Int)] w fun e w'=>e=.returned (.tuple #[])∧BX W0 w' X g C (nodeA n Aw Ar Ak cw cr ck ln) b (nd s k) p B1 (done++[k]):=by
 obtain⟨hlt,rfl⟩:=List.getElem?_eq_some_iff.1 hi
 exact(kid_v h.mem h.xl hF HK i hlt hk hd hl).mono fun e w' ⟨e1,h1,h2⟩=>⟨e1,h.next h1 h2⟩
theorem BX.end_ (h:BX W0 w X g C (nodeA n Aw Ar Ak cw cr ck ln) b s p B1 done) (hF:NodeF C n Aw Ar Ak) (t:List UInt8) (hl:Up.size (Up.behind (Up.put s t) n.redirs)≤2300000000000):Calls Tryz.prog 109 #[.pointer (some ⟨g,0,none⟩),.agg (nodeA n Aw Ar Ak cw cr ck ln),.string (mkS t)] w fun e w'=>e=.returned (.tuple #[])∧BX W0 w' X g C (nodeA n Aw Ar Ak cw cr ck ln) b (Up.behind (Up.put s t) n.redirs) p B1 done:=
 (end_v h.mem h.xl hF t hl).mono fun e w' ⟨e1,h1,h2⟩=>⟨e1,h.next h1 h2⟩
theorem cell_add {w:World} {ad:Addr} {i:Nat} {v:Value} (h:w.cell? (ad.add i)=some v):w.cell? ⟨ad.block,ad.off+i,none⟩=some v:=by
 have hs:=World.cell?_spot h
 obtain⟨b,o,sp⟩:=ad
 unfold Addr.add at h hs
 split at h <;> simp_all
theorem body_v (h:WM W X g C s p B1 done) (hX:XL X W) (hF:NodeF C n Aw Ar Ak) (HK:Kids g C nd p) (i k:Nat) (hi:n.kids[i]?=some k) (hkd:kid C.ns p k) (hd:k∉done) (hl:Up.size (Up.behind (Up.put (Up.part nd s Up.kDO k) Up.kDONE) n.redirs)≤2300000000000):Calls Tryz.prog 110 #[.pointer (some ⟨g,0,none⟩),.agg (nodeA n Aw Ar Ak cw cr ck ln),.int .i64 (i:Int)] W fun e W'=>e=.returned (.tuple #[])∧WM W' X g C (Up.behind (Up.put (Up.part nd s Up.kDO k) Up.kDONE) n.redirs) p B1 (done++[k])∧Fr X W W':=by
 have HLX:=Lib.hid h.lX
 have hb:=BX.start h hX (nodeA n Aw Ar Ak cw cr ck ln)
 have z1:=mono_line s [100,111]
 have z2:=HK.mono (Up.line (Up.put s [100,111])) k
 have z3:=mono_end (nd (Up.line (Up.put s [100,111])) k) [100,111,110,101] n.redirs
 have hl2:Up.size (Up.behind (Up.put (nd (Up.line (Up.put s [100,111])) k) [100,111,110,101]) n.redirs)≤2300000000000:=hl
 have hs1:([[100,111]]:List (List UInt8)).flatten=[100,111]:=rfl
 have hs2:([[100,111]]:List (List UInt8)).flatten=[100,111]:=rfl
 have hc:=hb.line [[100,111]] (by simp) (by simp only[List.flatten_cons,List.flatten_nil,List.length_append,List.length_cons,List.length_nil];omega)
 rw[World.size_alloc] at hc
 have HC0:=Lib.hid hc
 clear hc hb h hX
 go_enter Tryz.func110,Tryz.ntmps110
 go_wp2_with (go_at_call 106;fail)
 refine HC0.out.mono ?_
 rintro e w1 ⟨rfl,h1⟩
 have H1:=Lib.hid h1
 clear h1 HC0
 have hc:=H1.out.kid hF HK i k hi hkd hd (by rw[hs1];omega)
 have HC1:=Lib.hid hc
 have HLD1:=Lib.hid H1.out.load
 clear hc
 go_wp2_with (first
  |(refine wpList_loadRun rfl 37 (.tmp 4) rfl (.pointer (some ⟨W.heap.size,0,none⟩)) (.agg (nodeA n Aw Ar Ak cw cr ck ln)) rfl HLD1.out ?_)
  |(go_at_call 107;fail))
 refine HC1.out.mono ?_
 rintro e w2 ⟨rfl,h2⟩
 have H2:=Lib.hid h2
 clear h2 HC1
 have hc:=H2.out.end_ hF [100,111,110,101] (by rw[hs2];exact hl)
 have HC2:=Lib.hid hc
 have HLD2:=Lib.hid H2.out.load
 clear hc
 go_wp2_with (first
  |(refine wpList_loadRun rfl 37 (.tmp 4) rfl (.pointer (some ⟨W.heap.size,0,none⟩)) (.agg (nodeA n Aw Ar Ak cw cr ck ln)) rfl HLD2.out ?_)
  |(go_at_call 109;fail))
 refine HC2.out.mono ?_
 rintro e w3 ⟨rfl,h3⟩
 have H3:=Lib.hid h3
 clear h3 HC2
 go_wp2
 go_end0
 exact⟨rfl,H3.out.stop HLX.out⟩
theorem group_v (h:WM W X g C s p B1 done) (hX:XL X W) (hF:NodeF C n Aw Ar Ak) (HK:Kids g C nd p) (a:Nat) (hk:n.kids=[a]) (hrow:Row C.ns p done n.kids)  (hl:Up.size (Up.behind (Up.put (Up.part nd s [123] a) [125]) n.redirs)≤2300000000000):Calls Tryz.prog 79 #[.pointer (some ⟨g,0,none⟩),.agg (nodeA n Aw Ar Ak cw cr ck ln)] W fun e W'=>e=.returned (.tuple #[])∧WM W' X g C (Up.behind (Up.put (Up.part nd s [123] a) [125]) n.redirs) p B1 (done++n.kids)∧Fr X W W':=by
 have HLX:=Lib.hid h.lX
 have hb:=BX.start h hX (nodeA n Aw Ar Ak cw cr ck ln)
 have z1:=mono_line s [123]
 have z2:=HK.mono (Up.line (Up.put s [123])) a
 have z3:=mono_end (nd (Up.line (Up.put s [123])) a) [125] n.redirs
 have hl2:Up.size (Up.behind (Up.put (nd (Up.line (Up.put s [123])) a) [125]) n.redirs)≤2300000000000:=hl
 have hs1:([[123]]:List (List UInt8)).flatten=[123]:=rfl
 skip
 have hc:=hb.line [[123]] (by simp) (by simp only[List.flatten_cons,List.flatten_nil,List.length_append,List.length_cons,List.length_nil];omega)
 rw[World.size_alloc] at hc
 have HC0:=Lib.hid hc
 clear hc hb h hX
 go_enter Tryz.func79,Tryz.ntmps79
 go_wp2_with (go_at_call 106;fail)
 refine HC0.out.mono ?_
 rintro e w1 ⟨rfl,h1⟩
 have H1:=Lib.hid h1
 clear h1 HC0
 have hc:=H1.out.kid hF HK 0 a (by rw[hk];rfl) (hrow.kid a (by rw[hk];simp)) (hrow.out a (by rw[hk];simp)) (by rw[hs1];omega)
 have HC1:=Lib.hid hc
 have HLD1:=Lib.hid H1.out.load
 clear hc
 go_wp2_with (first
  |(refine wpList_loadRun rfl 37 (.tmp 3) rfl (.pointer (some ⟨W.heap.size,0,none⟩)) (.agg (nodeA n Aw Ar Ak cw cr ck ln)) rfl HLD1.out ?_)
  |(go_at_call 107;fail))
 refine HC1.out.mono ?_
 rintro e w2 ⟨rfl,h2⟩
 have H2:=Lib.hid h2
 clear h2 HC1
 have hc:=H2.out.end_ hF [125] (by rw[hs1];exact hl2)
 have HC2:=Lib.hid hc
 have HLD2:=Lib.hid H2.out.load
 clear hc
 go_wp2_with (first
  |(refine wpList_loadRun rfl 37 (.tmp 3) rfl (.pointer (some ⟨W.heap.size,0,none⟩)) (.agg (nodeA n Aw Ar Ak cw cr ck ln)) rfl HLD2.out ?_)
  |(go_at_call 109;fail))
 refine HC2.out.mono ?_
 rintro e w3 ⟨rfl,h3⟩
 have H3:=Lib.hid h3
 clear h3 HC2
 go_wp2
 go_end0
 rw[hk]
 exact⟨rfl,H3.out.stop HLX.out⟩
theorem sub_v (h:WM W X g C s p B1 done) (hX:XL X W) (hF:NodeF C n Aw Ar Ak) (HK:Kids g C nd p) (a:Nat) (hk:n.kids=[a]) (hrow:Row C.ns p done n.kids)  (hl:Up.size (Up.behind (Up.put (Up.part nd s [40] a) [41]) n.redirs)≤2300000000000):Calls Tryz.prog 80 #[.pointer (some ⟨g,0,none⟩),.agg (nodeA n Aw Ar Ak cw cr ck ln)] W fun e W'=>e=.returned (.tuple #[])∧WM W' X g C (Up.behind (Up.put (Up.part nd s [40] a) [41]) n.redirs) p B1 (done++n.kids)∧Fr X W W':=by
 have HLX:=Lib.hid h.lX
 have hb:=BX.start h hX (nodeA n Aw Ar Ak cw cr ck ln)
 have z1:=mono_line s [40]
 have z2:=HK.mono (Up.line (Up.put s [40])) a
 have z3:=mono_end (nd (Up.line (Up.put s [40])) a) [41] n.redirs
 have hl2:Up.size (Up.behind (Up.put (nd (Up.line (Up.put s [40])) a) [41]) n.redirs)≤2300000000000:=hl
 have hs1:([[40]]:List (List UInt8)).flatten=[40]:=rfl
 skip
 have hc:=hb.line [[40]] (by simp) (by simp only[List.flatten_cons,List.flatten_nil,List.length_append,List.length_cons,List.length_nil];omega)
 rw[World.size_alloc] at hc
 have HC0:=Lib.hid hc
 clear hc hb h hX
 go_enter Tryz.func80,Tryz.ntmps80
 go_wp2_with (go_at_call 106;fail)
 refine HC0.out.mono ?_
 rintro e w1 ⟨rfl,h1⟩
 have H1:=Lib.hid h1
 clear h1 HC0
 have hc:=H1.out.kid hF HK 0 a (by rw[hk];rfl) (hrow.kid a (by rw[hk];simp)) (hrow.out a (by rw[hk];simp)) (by rw[hs1];omega)
 have HC1:=Lib.hid hc
 have HLD1:=Lib.hid H1.out.load
 clear hc
 go_wp2_with (first
  |(refine wpList_loadRun rfl 37 (.tmp 3) rfl (.pointer (some ⟨W.heap.size,0,none⟩)) (.agg (nodeA n Aw Ar Ak cw cr ck ln)) rfl HLD1.out ?_)
  |(go_at_call 107;fail))
 refine HC1.out.mono ?_
 rintro e w2 ⟨rfl,h2⟩
 have H2:=Lib.hid h2
 clear h2 HC1
 have hc:=H2.out.end_ hF [41] (by rw[hs1];exact hl2)
 have HC2:=Lib.hid hc
 have HLD2:=Lib.hid H2.out.load
 clear hc
 go_wp2_with (first
  |(refine wpList_loadRun rfl 37 (.tmp 3) rfl (.pointer (some ⟨W.heap.size,0,none⟩)) (.agg (nodeA n Aw Ar Ak cw cr ck ln)) rfl HLD2.out ?_)
  |(go_at_call 109;fail))
 refine HC2.out.mono ?_
 rintro e w3 ⟨rfl,h3⟩
 have H3:=Lib.hid h3
 clear h3 HC2
 go_wp2
 go_end0
 rw[hk]
 exact⟨rfl,H3.out.stop HLX.out⟩
theorem and_v (h:WM W X g C s p B1 done) (hX:XL X W) (hF:NodeF C n Aw Ar Ak) (HK:Kids g C nd p) (hrow:Row C.ns p done n.kids) (hl:Up.size (Up.kids nd [32,38,38,32] s n.kids)≤2300000000000):Calls Tryz.prog 71 #[.pointer (some ⟨g,0,none⟩),.agg (nodeA n Aw Ar Ak cw cr ck ln)] W fun e W'=>e=.returned (.tuple #[])∧WM W' X g C (Up.kids nd [32,38,38,32] s n.kids) p B1 (done++n.kids)∧Fr X W W':=by
 have HLX:=Lib.hid h.lX
 have hb:=BX.start h hX (nodeA n Aw Ar Ak cw cr ck ln)
 have hc:=hb.row hF HK [32,38,38,32] hrow hl ck
 have HC0:=Lib.hid hc
 have c0_6:(W.alloc (.cells (nodeA n Aw Ar Ak cw cr ck ln) 37)).cell? ⟨W.heap.size,6,none⟩=some (.slice Ak n.kids.length ck):=hb.cell 6
 clear hc hb h hX
 go_enter Tryz.func71,Tryz.ntmps71
 go_wp2_with (go_at_call 104;fail)
 refine HC0.out.mono ?_
 rintro e w1 ⟨rfl,h1⟩
 have H1:=Lib.hid h1
 clear h1 HC0 c0_6
 go_wp2
 go_end0
 exact⟨rfl,H1.out.stop HLX.out⟩
theorem or_v (h:WM W X g C s p B1 done) (hX:XL X W) (hF:NodeF C n Aw Ar Ak) (HK:Kids g C nd p) (hrow:Row C.ns p done n.kids) (hl:Up.size (Up.kids nd [32,124,124,32] s n.kids)≤2300000000000):Calls Tryz.prog 72 #[.pointer (some ⟨g,0,none⟩),.agg (nodeA n Aw Ar Ak cw cr ck ln)] W fun e W'=>e=.returned (.tuple #[])∧WM W' X g C (Up.kids nd [32,124,124,32] s n.kids) p B1 (done++n.kids)∧Fr X W W':=by
 have HLX:=Lib.hid h.lX
 have hb:=BX.start h hX (nodeA n Aw Ar Ak cw cr ck ln)
 have hc:=hb.row hF HK [32,124,124,32] hrow hl ck
 have HC0:=Lib.hid hc
 have c0_6:(W.alloc (.cells (nodeA n Aw Ar Ak cw cr ck ln) 37)).cell? ⟨W.heap.size,6,none⟩=some (.slice Ak n.kids.length ck):=hb.cell 6
 clear hc hb h hX
 go_enter Tryz.func72,Tryz.ntmps72
 go_wp2_with (go_at_call 104;fail)
 refine HC0.out.mono ?_
 rintro e w1 ⟨rfl,h1⟩
 have H1:=Lib.hid h1
 clear h1 HC0 c0_6
 go_wp2
 go_end0
 exact⟨rfl,H1.out.stop HLX.out⟩
theorem seq_v (h:WM W X g C s p B1 done) (hX:XL X W) (hF:NodeF C n Aw Ar Ak) (HK:Kids g C nd p) (hrow:Row C.ns p done n.kids) (hl:Up.size (Up.lines nd s n.kids)≤2300000000000):Calls Tryz.prog 73 #[.pointer (some ⟨g,0,none⟩),.agg (nodeA n Aw Ar Ak cw cr ck ln)] W fun e W'=>e=.returned (.tuple #[])∧WM W' X g C (Up.lines nd s n.kids) p B1 (done++n.kids)∧Fr X W W':=by
 have HLX:=Lib.hid h.lX
 have hb:=BX.start h hX (nodeA n Aw Ar Ak cw cr ck ln)
 have hc:=hb.list hF HK hrow hl ck
 have HC0:=Lib.hid hc
 have c0_6:(W.alloc (.cells (nodeA n Aw Ar Ak cw cr ck ln) 37)).cell? ⟨W.heap.size,6,none⟩=some (.slice Ak n.kids.length ck):=hb.cell 6
 clear hc hb h hX
 go_enter Tryz.func73,Tryz.ntmps73
 go_wp2_with (go_at_call 105;fail)
 refine HC0.out.mono ?_
 rintro e w1 ⟨rfl,h1⟩
 have H1:=Lib.hid h1
 clear h1 HC0 c0_6
 go_wp2
 go_end0
 exact⟨rfl,H1.out.stop HLX.out⟩
theorem function_v (h:WM W X g C s p B1 done) (hX:XL X W) (hF:NodeF C n Aw Ar Ak) (HK:Kids g C nd p) (a:Nat) (hk:n.kids=[a]) (hrow:Row C.ns p done n.kids)  (hl:Up.size (nd (Up.put s (n.text++[40,41,32])) a)≤2300000000000):Calls Tryz.prog 81 #[.pointer (some ⟨g,0,none⟩),.agg (nodeA n Aw Ar Ak cw cr ck ln)] W fun e W'=>e=.returned (.tuple #[])∧WM W' X g C (nd (Up.put s (n.text++[40,41,32])) a) p B1 (done++n.kids)∧Fr X W W':=by
 have HLX:=Lib.hid h.lX
 have hb:=BX.start h hX (nodeA n Aw Ar Ak cw cr ck ln)
 have z1:=Up.size_put s (n.text++[40,41,32])
 have z2:=HK.mono (Up.put s (n.text++[40,41,32])) a
 have hs1:([n.text,[40,41,32]]:List (List UInt8)).flatten=n.text++[40,41,32]:=by simp
 have hc:=hb.put [n.text,[40,41,32]] (by simp) (by rw[hs1];omega)
 rw[World.size_alloc] at hc
 have HC0:=Lib.hid hc
 have c0_1:(W.alloc (.cells (nodeA n Aw Ar Ak cw cr ck ln) 37)).cell? ⟨W.heap.size,1,none⟩=some (.string (mkS n.text)):=hb.cell 1
 clear hc hb h hX
 go_enter Tryz.func81,Tryz.ntmps81
 go_wp2_with (go_at_call 102;fail)
 refine HC0.out.mono ?_
 rintro e w1 ⟨rfl,h1⟩
 have H1:=Lib.hid h1
 clear h1 HC0 c0_1
 have hc:=H1.out.kid hF HK 0 a (by rw[hk];rfl) (hrow.kid a (by rw[hk];simp)) (hrow.out a (by rw[hk];simp)) (by rw[hs1];exact hl)
 have HC1:=Lib.hid hc
 have HLD1:=Lib.hid H1.out.load
 clear hc
 go_wp2_with (first
  |(refine wpList_loadRun rfl 37 (.tmp 3) rfl (.pointer (some ⟨W.heap.size,0,none⟩)) (.agg (nodeA n Aw Ar Ak cw cr ck ln)) rfl HLD1.out ?_)
  |(go_at_call 107;fail))
 refine HC1.out.mono ?_
 rintro e w2 ⟨rfl,h2⟩
 have H2:=Lib.hid h2
 clear h2 HC1
 go_wp2
 go_end0
 rw[hk]
 exact⟨rfl,H2.out.stop HLX.out⟩
theorem match_v (h:WM W X g C s p B1 done) (hX:XL X W) (hF:NodeF C n Aw Ar Ak) (HK:Kids g C nd p) (hrow:Row C.ns p done n.kids) (hl:Up.size (Up.behind (Up.put (Up.kids nd [] (Up.line (Up.put s ([99,97,115,101,32]++n.text++[32,105,110]))) n.kids) [101,115,97,99]) n.redirs)≤2300000000000):Calls Tryz.prog 77 #[.pointer (some ⟨g,0,none⟩),.agg (nodeA n Aw Ar Ak cw cr ck ln)] W fun e W'=>e=.returned (.tuple #[])∧WM W' X g C (Up.behind (Up.put (Up.kids nd [] (Up.line (Up.put s ([99,97,115,101,32]++n.text++[32,105,110]))) n.kids) [101,115,97,99]) n.redirs) p B1 (done++n.kids)∧Fr X W W':=by
 have HLX:=Lib.hid h.lX
 have hb:=BX.start h hX (nodeA n Aw Ar Ak cw cr ck ln)
 have z1:=mono_line s ([99,97,115,101,32]++n.text++[32,105,110])
 have z2:=Up.mono_kids HK.mono [] n.kids (Up.line (Up.put s ([99,97,115,101,32]++n.text++[32,105,110])))
 have z3:=mono_end (Up.kids nd [] (Up.line (Up.put s ([99,97,115,101,32]++n.text++[32,105,110]))) n.kids) [101,115,97,99] n.redirs
 have hs1:([[99,97,115,101,32],n.text,[32,105,110]]:List (List UInt8)).flatten=[99,97,115,101,32]++n.text++[32,105,110]:=by simp
 have hc:=hb.line [[99,97,115,101,32],n.text,[32,105,110]] (by simp) (by rw[hs1];omega)
 rw[World.size_alloc] at hc
 have HC0:=Lib.hid hc
 have c0_1:(W.alloc (.cells (nodeA n Aw Ar Ak cw cr ck ln) 37)).cell? ⟨W.heap.size,1,none⟩=some (.string (mkS n.text)):=hb.cell 1
 clear hc hb h hX
 go_enter Tryz.func77,Tryz.ntmps77
 go_wp2_with (go_at_call 106;fail)
 refine HC0.out.mono ?_
 rintro e w1 ⟨rfl,h1⟩
 have H1:=Lib.hid h1
 clear h1 HC0 c0_1
 have hc:=H1.out.row hF HK [] hrow (by rw[hs1];omega) ck
 have HC1:=Lib.hid hc
 have c1_6:w1.cell? ⟨W.heap.size,6,none⟩=some (.slice Ak n.kids.length ck):=H1.out.cell 6
 clear hc
 go_wp2_with (go_at_call 104;fail)
 refine HC1.out.mono ?_
 rintro e w2 ⟨rfl,h2⟩
 have H2:=Lib.hid h2
 clear h2 HC1 c1_6
 have hc:=H2.out.end_ hF [101,115,97,99] (by rw[hs1];exact hl)
 have HC2:=Lib.hid hc
 have HLD2:=Lib.hid H2.out.load
 clear hc
 go_wp2_with (first
  |(refine wpList_loadRun rfl 37 (.tmp 3) rfl (.pointer (some ⟨W.heap.size,0,none⟩)) (.agg (nodeA n Aw Ar Ak cw cr ck ln)) rfl HLD2.out ?_)
  |(go_at_call 109;fail))
 refine HC2.out.mono ?_
 rintro e w3 ⟨rfl,h3⟩
 have H3:=Lib.hid h3
 clear h3 HC2
 go_wp2
 go_end0
 exact⟨rfl,H3.out.stop HLX.out⟩
theorem BX.body (h:BX W0 w X g C (nodeA n Aw Ar Ak cw cr ck ln) b s p B1 done) (hF:NodeF C n Aw Ar Ak) (HK:Kids g C nd p) (i k:Nat) (hi:n.kids[i]?=some k) (hk:Um.kid C.ns p k) (hd:k∉done) (hl:Up.size (Up.behind (Up.put (Up.part nd s Up.kDO k) Up.kDONE) n.redirs)≤2300000000000):Calls Tryz.prog 110 #[.pointer (some ⟨g,0,none⟩),.agg (nodeA n Aw Ar Ak cw cr ck ln),.int .i64 (i:Int)] w fun e w'=>e=.returned (.tuple #[])∧BX W0 w' X g C (nodeA n Aw Ar Ak cw cr ck ln) b (Up.behind (Up.put (Up.part nd s Up.kDO k) Up.kDONE) n.redirs) p B1 (done++[k]):=
 (body_v h.mem h.xl hF HK i k hi hk hd hl).mono fun e w' ⟨e1,h1,h2⟩=>⟨e1,h.next h1 h2⟩
theorem two_out {ns:List Sx.Node} {a b:Nat} {ks:List Nat} (h:Row ns p done ks) (hk:ks=[a,b]):b∉done++[a]:=by
 subst hk
 have:=h.at_ (k:=1) (by simp)
 simpa using this.2
theorem three_out {ns:List Sx.Node} {a b c:Nat} {ks:List Nat} (h:Row ns p done ks) (hk:ks=[a,b,c]):a∉done∧b∉done++[a]∧c∉done++[a]++[b]:=by
 subst hk
 have h0:=h.at_ (k:=0) (by simp)
 have h1:=h.at_ (k:=1) (by simp)
 have h2:=h.at_ (k:=2) (by simp)
 exact⟨by simpa using h0.2,by simpa using h1.2,by simpa using h2.2⟩
theorem until_v (h:WM W X g C s p B1 done) (hX:XL X W) (hF:NodeF C n Aw Ar Ak) (HK:Kids g C nd p) (a b:Nat) (hk:n.kids=[a,b]) (hrow:Row C.ns p done n.kids)  (hfl:n.flag=true) (hl:Up.size (Up.behind (Up.put (Up.part nd (Up.part nd s [117,110,116,105,108] a) Up.kDO b) Up.kDONE) n.redirs)≤2300000000000):Calls Tryz.prog 75 #[.pointer (some ⟨g,0,none⟩),.agg (nodeA n Aw Ar Ak cw cr ck ln)] W fun e W'=>e=.returned (.tuple #[])∧WM W' X g C (Up.behind (Up.put (Up.part nd (Up.part nd s [117,110,116,105,108] a) Up.kDO b) Up.kDONE) n.redirs) p B1 (done++n.kids)∧Fr X W W':=by
 have HLX:=Lib.hid h.lX
 have hb:=BX.start h hX (nodeA n Aw Ar Ak cw cr ck ln)
 have c2:(W.alloc (.cells (nodeA n Aw Ar Ak cw cr ck ln) 37)).cell? ⟨W.heap.size,2,none⟩=some (.bool true):=(hb.cell 2).trans (congrArg (fun z=>some (Value.bool z)) hfl)
 have z1:=mono_line s [117,110,116,105,108]
 have z2:=HK.mono (Up.line (Up.put s [117,110,116,105,108])) a
 have z3:=Up.mono_part HK.mono (nd (Up.line (Up.put s [117,110,116,105,108])) a) Up.kDO b
 have z4:=mono_end (Up.part nd (nd (Up.line (Up.put s [117,110,116,105,108])) a) Up.kDO b) Up.kDONE n.redirs
 have hl2:Up.size (Up.behind (Up.put (Up.part nd (nd (Up.line (Up.put s [117,110,116,105,108])) a) Up.kDO b) Up.kDONE) n.redirs)≤2300000000000:=hl
 have hs1:([[117,110,116,105,108]]:List (List UInt8)).flatten=[117,110,116,105,108]:=rfl
 have hc:=hb.line [[117,110,116,105,108]] (by simp) (by rw[hs1];omega)
 rw[World.size_alloc] at hc
 have HC0:=Lib.hid hc
 clear hc hb h hX
 go_enter Tryz.func75,Tryz.ntmps75
 go_wp2_with (go_at_call 106;fail)
 refine HC0.out.mono ?_
 rintro e w1 ⟨rfl,h1⟩
 have H1:=Lib.hid h1
 clear h1 HC0
 have hc:=H1.out.kid hF HK 0 a (by rw[hk];rfl) (hrow.kid a (by rw[hk];simp)) (hrow.out a (by rw[hk];simp)) (by rw[hs1];omega)
 have HC1:=Lib.hid hc
 have HLD1:=Lib.hid H1.out.load
 clear hc
 go_wp2_with (first
  |(refine wpList_loadRun rfl 37 (.tmp 3) rfl (.pointer (some ⟨W.heap.size,0,none⟩)) (.agg (nodeA n Aw Ar Ak cw cr ck ln)) rfl HLD1.out ?_)
  |(go_at_call 107;fail))
 refine HC1.out.mono ?_
 rintro e w2 ⟨rfl,h2⟩
 have H2:=Lib.hid h2
 clear h2 HC1
 have hc:=H2.out.body hF HK 1 b (by rw[hk];rfl) (hrow.kid b (by rw[hk];simp)) (two_out hrow hk) (by rw[hs1];exact hl2)
 have HC2:=Lib.hid hc
 have HLD2:=Lib.hid H2.out.load
 clear hc
 go_wp2_with (first
  |(refine wpList_loadRun rfl 37 (.tmp 3) rfl (.pointer (some ⟨W.heap.size,0,none⟩)) (.agg (nodeA n Aw Ar Ak cw cr ck ln)) rfl HLD2.out ?_)
  |(go_at_call 110;fail))
 refine HC2.out.mono ?_
 rintro e w3 ⟨rfl,h3⟩
 have H3:=Lib.hid h3
 clear h3 HC2
 go_wp2
 go_end0
 rw[hk,show done++[a,b]=done++[a]++[b] by simp]
 exact⟨rfl,H3.out.stop HLX.out⟩
theorem while_v (h:WM W X g C s p B1 done) (hX:XL X W) (hF:NodeF C n Aw Ar Ak) (HK:Kids g C nd p) (a b:Nat) (hk:n.kids=[a,b]) (hrow:Row C.ns p done n.kids)  (hfl:n.flag=false) (hl:Up.size (Up.behind (Up.put (Up.part nd (Up.part nd s [119,104,105,108,101] a) Up.kDO b) Up.kDONE) n.redirs)≤2300000000000):Calls Tryz.prog 75 #[.pointer (some ⟨g,0,none⟩),.agg (nodeA n Aw Ar Ak cw cr ck ln)] W fun e W'=>e=.returned (.tuple #[])∧WM W' X g C (Up.behind (Up.put (Up.part nd (Up.part nd s [119,104,105,108,101] a) Up.kDO b) Up.kDONE) n.redirs) p B1 (done++n.kids)∧Fr X W W':=by
 have HLX:=Lib.hid h.lX
 have hb:=BX.start h hX (nodeA n Aw Ar Ak cw cr ck ln)
 have c2:(W.alloc (.cells (nodeA n Aw Ar Ak cw cr ck ln) 37)).cell? ⟨W.heap.size,2,none⟩=some (.bool false):=(hb.cell 2).trans (congrArg (fun z=>some (Value.bool z)) hfl)
 have z1:=mono_line s [119,104,105,108,101]
 have z2:=HK.mono (Up.line (Up.put s [119,104,105,108,101])) a
 have z3:=Up.mono_part HK.mono (nd (Up.line (Up.put s [119,104,105,108,101])) a) Up.kDO b
 have z4:=mono_end (Up.part nd (nd (Up.line (Up.put s [119,104,105,108,101])) a) Up.kDO b) Up.kDONE n.redirs
 have hl2:Up.size (Up.behind (Up.put (Up.part nd (nd (Up.line (Up.put s [119,104,105,108,101])) a) Up.kDO b) Up.kDONE) n.redirs)≤2300000000000:=hl
 have hs1:([[119,104,105,108,101]]:List (List UInt8)).flatten=[119,104,105,108,101]:=rfl
 have hc:=hb.line [[119,104,105,108,101]] (by simp) (by rw[hs1];omega)
 rw[World.size_alloc] at hc
 have HC0:=Lib.hid hc
 clear hc hb h hX
 go_enter Tryz.func75,Tryz.ntmps75
 go_wp2_with (go_at_call 106;fail)
 refine HC0.out.mono ?_
 rintro e w1 ⟨rfl,h1⟩
 have H1:=Lib.hid h1
 clear h1 HC0
 have hc:=H1.out.kid hF HK 0 a (by rw[hk];rfl) (hrow.kid a (by rw[hk];simp)) (hrow.out a (by rw[hk];simp)) (by rw[hs1];omega)
 have HC1:=Lib.hid hc
 have HLD1:=Lib.hid H1.out.load
 clear hc
 go_wp2_with (first
  |(refine wpList_loadRun rfl 37 (.tmp 3) rfl (.pointer (some ⟨W.heap.size,0,none⟩)) (.agg (nodeA n Aw Ar Ak cw cr ck ln)) rfl HLD1.out ?_)
  |(go_at_call 107;fail))
 refine HC1.out.mono ?_
 rintro e w2 ⟨rfl,h2⟩
 have H2:=Lib.hid h2
 clear h2 HC1
 have hc:=H2.out.body hF HK 1 b (by rw[hk];rfl) (hrow.kid b (by rw[hk];simp)) (two_out hrow hk) (by rw[hs1];exact hl2)
 have HC2:=Lib.hid hc
 have HLD2:=Lib.hid H2.out.load
 clear hc
 go_wp2_with (first
  |(refine wpList_loadRun rfl 37 (.tmp 3) rfl (.pointer (some ⟨W.heap.size,0,none⟩)) (.agg (nodeA n Aw Ar Ak cw cr ck ln)) rfl HLD2.out ?_)
  |(go_at_call 110;fail))
 refine HC2.out.mono ?_
 rintro e w3 ⟨rfl,h3⟩
 have H3:=Lib.hid h3
 clear h3 HC2
 go_wp2
 go_end0
 rw[hk,show done++[a,b]=done++[a]++[b] by simp]
 exact⟨rfl,H3.out.stop HLX.out⟩
theorem other_v (h:WM W X g C s p B1 done) (hX:XL X W) (hr:RdN C.W0 C.A C.ns.length C.ns) (hfew:C.ns.length≤100000) (HK:Kids g C nd p) (k:Nat) (hlt:k<C.ns.length) (hk:kid C.ns p k) (hd:k∉done) (hl:Up.size (if Up.isIf C.ns k=true then Up.line (nd s k) else nd s k)≤2300000000000):Calls Tryz.prog 108 #[.pointer (some ⟨g,0,none⟩),.int .i64 (k:Int)] W fun e W'=>e=.returned (.tuple #[])∧WM W' X g C (if Up.isIf C.ns k=true then Up.line (nd s k) else nd s k) p B1 (done++[k])∧Fr X W W':=by
 have hki:=kind_v h hr hlt hfew
 have hif:Up.isIf C.ns k=(C.ns[k].kind==6):=by unfold Up.isIf;rw[List.getElem?_eq_getElem hlt];rfl
 rw[hif] at hl⊢
 obtain⟨z,hz⟩:∃ z,z=C.ns[k].kind:=⟨_,rfl⟩
 rw[←hz] at hki hl⊢
 have HKI:=Lib.hid hki
 have HLX:=Lib.hid h.lX
 have HH:=Lib.hid h
 have HX:=Lib.hid hX
 clear hki hif h hX
 by_cases h6:z=6
 ·rw[if_pos (by simpa using h6)] at hl⊢
  have h61:((z:Int)==6)=true:=by rw[h6];rfl
  have hla:=Later.alloc W (.cells #[.int .i64 (k:Int)] 3)
  have hrd:=Rd.lit W 3 [iv k]
  have hsz:(W.alloc (.cells #[.int .i64 (k:Int)] 3)).heap.size=W.heap.size+1:=by simp
  have hls:=list_v HK ((HH.out.more [W.heap.size] (by simp)).later hla) (fun b hb=>by
   rw[hsz]
   rcases hb with hb | hb
   ·have:=HX.out b hb;omega
   ·simp at hb;omega) (some ⟨W.heap.size,0,none⟩) 1 1 [k] (by rw[hsz];exact hrd) (fun _ ad e=>by injection e with e;subst e;exact .inr (by simp)) (by omega) ⟨by simpa using hk,by simp,by simpa using hd⟩ hl
  have HLS:=Lib.hid hls
  have HLA:=Lib.hid hla
  clear hla hrd hsz hls h6 hz
  go_enter Tryz.func108,Tryz.ntmps108
  go_wp2_with (first
   |(go_at_call 82;(with_reducible refine HKI.out.mono ?_);rintro e w' ⟨rfl,rfl⟩)
   |(go_at_call 105;fail))
  refine HLS.out.mono ?_
  rintro e w1 ⟨rfl,hm1,hf1⟩
  have HM1:=Lib.hid hm1
  have HF1:=Lib.hid hf1
  clear hm1 hf1
  go_wp2
  refine bodyPost_ret (results_none rfl _ _ _) rfl ?_
  exact⟨rfl,HM1.out.less HLX.out,(Fr.later HLA.out).trans HF1.out.less⟩
 ·rw[if_neg (by simpa using h6)] at hl⊢
  have h61:((z:Int)==6)=false:=by simp;omega
  have HC:=Lib.hid (HK.call k hk W X s B1 done HH.out HX.out hd hl)
  clear h6 hz
  go_enter Tryz.func108,Tryz.ntmps108
  go_wp2_with (first
   |(go_at_call 82;(with_reducible refine HKI.out.mono ?_);rintro e w' ⟨rfl,rfl⟩)
   |(go_at_call 32;fail))
  (with_reducible refine HC.out.mono ?_)
  rintro e w1 ⟨rfl,hm1,hf1⟩
  have HM1:=Lib.hid hm1
  have HF1:=Lib.hid hf1
  clear hm1 hf1
  go_wp2
  go_end0
  exact⟨rfl,HM1.out,HF1.out⟩
theorem BX.other (h:BX W0 w X g C A b s p B1 done) (hr:RdN C.W0 C.A C.ns.length C.ns) (hfew:C.ns.length≤100000) (HK:Kids g C nd p) (k:Nat) (hlt:k<C.ns.length) (hk:Um.kid C.ns p k) (hd:k∉done) (hl:Up.size (othS C.ns nd s k)≤2300000000000):Calls Tryz.prog 108 #[.pointer (some ⟨g,0,none⟩),.int .i64 (k:Int)] w fun e w'=>e=.returned (.tuple #[])∧BX W0 w' X g C A b (othS C.ns nd s k) p B1 (done++[k]):=
 (other_v h.mem h.xl hr hfew HK k hlt hk hd hl).mono fun e w' ⟨e1,h1,h2⟩=>⟨e1,h.next h1 h2⟩
theorem choice2_v (h:WM W X g C s p B1 done) (hX:XL X W) (hF:NodeF C n Aw Ar Ak) (HK:Kids g C nd p) (a b:Nat) (hk:n.kids=[a,b]) (hrow:Row C.ns p done n.kids) (hl:Up.size (Up.behind (Up.put (nd (Up.line (Up.put (nd (Up.line (Up.put s [105,102])) a) [116,104,101,110])) b) [102,105]) n.redirs)≤2300000000000):Calls Tryz.prog 74 #[.pointer (some ⟨g,0,none⟩),.agg (nodeA n Aw Ar Ak cw cr ck ln)] W fun e W'=>e=.returned (.tuple #[])∧WM W' X g C (Up.behind (Up.put (nd (Up.line (Up.put (nd (Up.line (Up.put s [105,102])) a) [116,104,101,110])) b) [102,105]) n.redirs) p B1 (done++n.kids)∧Fr X W W':=by
 have HLX:=Lib.hid h.lX
 have hb:=BX.start h hX (nodeA n Aw Ar Ak cw cr ck ln)
 have z1:=mono_line s [105,102]
 have z2:=HK.mono (Up.line (Up.put s [105,102])) a
 have z3:=mono_line (nd (Up.line (Up.put s [105,102])) a) [116,104,101,110]
 have z4:=HK.mono (Up.line (Up.put (nd (Up.line (Up.put s [105,102])) a) [116,104,101,110])) b
 have z8:=mono_end (nd (Up.line (Up.put (nd (Up.line (Up.put s [105,102])) a) [116,104,101,110])) b) [102,105] n.redirs
 have hl2:Up.size (Up.behind (Up.put (nd (Up.line (Up.put (nd (Up.line (Up.put s [105,102])) a) [116,104,101,110])) b) [102,105]) n.redirs)≤2300000000000:=hl
 have hs1:([[105,102]]:List (List UInt8)).flatten=[105,102]:=rfl
 have hs2:([[116,104,101,110]]:List (List UInt8)).flatten=[116,104,101,110]:=rfl
 have hs3:([[101,108,115,101]]:List (List UInt8)).flatten=[101,108,115,101]:=rfl
 have hq:¬ (2:Int)<((n.kids.length:Nat):Int):=by rw[hk];simp
 have hc:=hb.line [[105,102]] (by simp) (by rw[hs1];omega)
 rw[World.size_alloc] at hc
 have HC0:=Lib.hid hc
 clear hc hb h hX
 go_enter Tryz.func74,Tryz.ntmps74
 go_wp2_with (go_at_call 106;fail)
 refine HC0.out.mono ?_
 rintro e w1 ⟨rfl,h1⟩
 have H1:=Lib.hid h1
 clear h1 HC0
 have hc:=H1.out.kid hF HK 0 a (by rw[hk];rfl) (hrow.kid a (by rw[hk];simp)) (hrow.out a (by rw[hk];simp)) (by rw[hs1];omega)
 have HC1:=Lib.hid hc
 have HLD1:=Lib.hid H1.out.load
 clear hc
 go_wp2_with (first
  |(refine wpList_loadRun rfl 37 (.tmp 3) rfl (.pointer (some ⟨W.heap.size,0,none⟩)) (.agg (nodeA n Aw Ar Ak cw cr ck ln)) rfl HLD1.out ?_)
  |(go_at_call 107;fail))
 refine HC1.out.mono ?_
 rintro e w2 ⟨rfl,h2⟩
 have H2:=Lib.hid h2
 clear h2 HC1
 have hc:=H2.out.line [[116,104,101,110]] (by simp) (by rw[hs1,hs2];omega)
 have HC2:=Lib.hid hc
 clear hc
 go_wp2_with (go_at_call 106;fail)
 refine HC2.out.mono ?_
 rintro e w3 ⟨rfl,h3⟩
 have H3:=Lib.hid h3
 clear h3 HC2
 have hc:=H3.out.kid hF HK 1 b (by rw[hk];rfl) (hrow.kid b (by rw[hk];simp)) (two_out hrow hk) (by rw[hs1,hs2];omega)
 have HC3:=Lib.hid hc
 have HLD3:=Lib.hid H3.out.load
 clear hc
 go_wp2_with (first
  |(refine wpList_loadRun rfl 37 (.tmp 3) rfl (.pointer (some ⟨W.heap.size,0,none⟩)) (.agg (nodeA n Aw Ar Ak cw cr ck ln)) rfl HLD3.out ?_)
  |(go_at_call 107;fail))
 refine HC3.out.mono ?_
 rintro e w4 ⟨rfl,h4⟩
 have H4:=Lib.hid h4
 clear h4 HC3
 have hc:=H4.out.end_ hF [102,105] (by rw[hs1,hs2];exact hl2)
 have HC4:=Lib.hid hc
 have HLD4:=Lib.hid H4.out.load
 have c4_6:w4.cell? ⟨W.heap.size,6,none⟩=some (.slice Ak n.kids.length ck):=H4.out.cell 6
 clear hc
 go_wp2_with (first
  |(refine wpList_loadRun rfl 37 (.tmp 3) rfl (.pointer (some ⟨W.heap.size,0,none⟩)) (.agg (nodeA n Aw Ar Ak cw cr ck ln)) rfl HLD4.out ?_)
  |(go_at_call 109;fail))
 refine HC4.out.mono ?_
 rintro e w5 ⟨rfl,h5⟩
 have H5:=Lib.hid h5
 clear h5 HC4 c4_6
 go_wp2
 go_end0
 rw[hk,show done++[a,b]=done++[a]++[b] by simp]
 exact⟨rfl,H5.out.stop HLX.out⟩
theorem choice3_v (h:WM W X g C s p B1 done) (hX:XL X W) (hF:NodeF C n Aw Ar Ak) (HK:Kids g C nd p) (a b c:Nat) (hk:n.kids=[a,b,c]) (hrow:Row C.ns p done n.kids) (hr:RdN C.W0 C.A C.ns.length C.ns) (hfew:C.ns.length≤100000) (hlt:c<C.ns.length) (hl:Up.size (Up.behind (Up.put (othS C.ns nd (Up.line (Up.put (nd (Up.line (Up.put (nd (Up.line (Up.put s [105,102])) a) [116,104,101,110])) b) [101,108,115,101])) c) [102,105]) n.redirs)≤2300000000000):Calls Tryz.prog 74 #[.pointer (some ⟨g,0,none⟩),.agg (nodeA n Aw Ar Ak cw cr ck ln)] W fun e W'=>e=.returned (.tuple #[])∧WM W' X g C (Up.behind (Up.put (othS C.ns nd (Up.line (Up.put (nd (Up.line (Up.put (nd (Up.line (Up.put s [105,102])) a) [116,104,101,110])) b) [101,108,115,101])) c) [102,105]) n.redirs) p B1 (done++n.kids)∧Fr X W W':=by
 have HLX:=Lib.hid h.lX
 have hb:=BX.start h hX (nodeA n Aw Ar Ak cw cr ck ln)
 have z1:=mono_line s [105,102]
 have z2:=HK.mono (Up.line (Up.put s [105,102])) a
 have z3:=mono_line (nd (Up.line (Up.put s [105,102])) a) [116,104,101,110]
 have z4:=HK.mono (Up.line (Up.put (nd (Up.line (Up.put s [105,102])) a) [116,104,101,110])) b
 have z5:=mono_line (nd (Up.line (Up.put (nd (Up.line (Up.put s [105,102])) a) [116,104,101,110])) b) [101,108,115,101]
 have z6:=HK.mono (Up.line (Up.put (nd (Up.line (Up.put (nd (Up.line (Up.put s [105,102])) a) [116,104,101,110])) b) [101,108,115,101])) c
 have z7:=oth_le C.ns nd (Up.line (Up.put (nd (Up.line (Up.put (nd (Up.line (Up.put s [105,102])) a) [116,104,101,110])) b) [101,108,115,101])) c
 have z8:=mono_end (othS C.ns nd (Up.line (Up.put (nd (Up.line (Up.put (nd (Up.line (Up.put s [105,102])) a) [116,104,101,110])) b) [101,108,115,101])) c) [102,105] n.redirs
 have hl2:Up.size (Up.behind (Up.put (othS C.ns nd (Up.line (Up.put (nd (Up.line (Up.put (nd (Up.line (Up.put s [105,102])) a) [116,104,101,110])) b) [101,108,115,101])) c) [102,105]) n.redirs)≤2300000000000:=hl
 have hs1:([[105,102]]:List (List UInt8)).flatten=[105,102]:=rfl
 have hs2:([[116,104,101,110]]:List (List UInt8)).flatten=[116,104,101,110]:=rfl
 have hs3:([[101,108,115,101]]:List (List UInt8)).flatten=[101,108,115,101]:=rfl
 have hq:(2:Int)<((n.kids.length:Nat):Int):=by rw[hk];simp
 have hfk:=hF.few
 have hi2:2<n.kids.length:=by rw[hk];simp
 have hkc:n.kids[2]=c:=by simp[hk]
 obtain⟨ad,hl1,eak,hcc⟩:=num_at hF.k hi2
 rw[hkc] at hcc
 have EAK:=Lib.hid eak
 clear eak hkc hl1 hi2
 have hc:=hb.line [[105,102]] (by simp) (by rw[hs1];omega)
 rw[World.size_alloc] at hc
 have HC0:=Lib.hid hc
 clear hc hb h hX
 go_enter Tryz.func74,Tryz.ntmps74
 go_wp2_with (go_at_call 106;fail)
 refine HC0.out.mono ?_
 rintro e w1 ⟨rfl,h1⟩
 have H1:=Lib.hid h1
 clear h1 HC0
 have hc:=H1.out.kid hF HK 0 a (by rw[hk];rfl) (hrow.kid a (by rw[hk];simp)) (three_out hrow hk).1 (by rw[hs1];omega)
 have HC1:=Lib.hid hc
 have HLD1:=Lib.hid H1.out.load
 clear hc
 go_wp2_with (first
  |(refine wpList_loadRun rfl 37 (.tmp 3) rfl (.pointer (some ⟨W.heap.size,0,none⟩)) (.agg (nodeA n Aw Ar Ak cw cr ck ln)) rfl HLD1.out ?_)
  |(go_at_call 107;fail))
 refine HC1.out.mono ?_
 rintro e w2 ⟨rfl,h2⟩
 have H2:=Lib.hid h2
 clear h2 HC1
 have hc:=H2.out.line [[116,104,101,110]] (by simp) (by rw[hs1,hs2];omega)
 have HC2:=Lib.hid hc
 clear hc
 go_wp2_with (go_at_call 106;fail)
 refine HC2.out.mono ?_
 rintro e w3 ⟨rfl,h3⟩
 have H3:=Lib.hid h3
 clear h3 HC2
 have hc:=H3.out.kid hF HK 1 b (by rw[hk];rfl) (hrow.kid b (by rw[hk];simp)) (three_out hrow hk).2.1 (by rw[hs1,hs2];omega)
 have HC3:=Lib.hid hc
 have HLD3:=Lib.hid H3.out.load
 clear hc
 go_wp2_with (first
  |(refine wpList_loadRun rfl 37 (.tmp 3) rfl (.pointer (some ⟨W.heap.size,0,none⟩)) (.agg (nodeA n Aw Ar Ak cw cr ck ln)) rfl HLD3.out ?_)
  |(go_at_call 107;fail))
 refine HC3.out.mono ?_
 rintro e w4 ⟨rfl,h4⟩
 have H4:=Lib.hid h4
 clear h4 HC3
 have hc:=H4.out.line [[101,108,115,101]] (by simp) (by rw[hs1,hs2,hs3];omega)
 have HC4:=Lib.hid hc
 have c4_6:w4.cell? ⟨W.heap.size,6,none⟩=some (.slice Ak n.kids.length ck):=H4.out.cell 6
 clear hc
 go_wp2_with (go_at_call 106;fail)
 refine HC4.out.mono ?_
 rintro e w5 ⟨rfl,h5⟩
 have H5:=Lib.hid h5
 clear h5 HC4 c4_6
 have hcn:w5.cell? ⟨ad.block,ad.off+2,none⟩=some (.int .i64 (c:Int)):=cell_add (cell_keeps H5.out.mem.low hcc)
 have hc:=H5.out.other hr hfew HK c hlt (hrow.kid c (by rw[hk];simp)) (three_out hrow hk).2.2 (by rw[hs1,hs2,hs3];omega)
 have HC5:=Lib.hid hc
 have c5_6:w5.cell? ⟨W.heap.size,6,none⟩=some (.slice (some ad) n.kids.length ck):=(H5.out.cell 6).trans (by rw[EAK.out];rfl)
 clear hc
 go_wp2_with (go_at_call 108;fail)
 refine HC5.out.mono ?_
 rintro e w6 ⟨rfl,h6⟩
 have H6:=Lib.hid h6
 clear h6 HC5 c5_6
 have hc:=H6.out.end_ hF [102,105] (by rw[hs1,hs2,hs3];exact hl2)
 have HC6:=Lib.hid hc
 have HLD6:=Lib.hid H6.out.load
 clear hc
 go_wp2_with (first
  |(refine wpList_loadRun rfl 37 (.tmp 3) rfl (.pointer (some ⟨W.heap.size,0,none⟩)) (.agg (nodeA n Aw Ar Ak cw cr ck ln)) rfl HLD6.out ?_)
  |(go_at_call 109;fail))
 refine HC6.out.mono ?_
 rintro e w7 ⟨rfl,h7⟩
 have H7:=Lib.hid h7
 clear h7 HC6
 go_wp2
 go_end0
 rw[hk,show done++[a,b,c]=done++[a]++[b]++[c] by simp]
 exact⟨rfl,H7.out.stop HLX.out⟩
end
end Uw
end Go.Proofs.YtkkchkkpnlnbgaaGreatDoor
