/- The reader: take. No premises. -/
import Derived.Test.YtghdimcdkjlpcaaJo
namespace Go.Proofs.Ytghdimcdkjlpcaa
open Go.RowKit Go.Maps
namespace Jo
open Bu
theorem own_cut {w : World} {base size n : Nat} {e : TypeId} {g cap : Nat} {xs : List Value} (h : w.ownsRow base e size (.slice (some ⟨g, 0, none⟩) n cap) n xs) : w.ownsRow base e size (.slice (some ⟨g, 0, none⟩) 0 cap) 0 [] := by
  rcases h.2 with ⟨e1, _⟩ | ⟨g', cap', cur, e1, hb, hh, hnc, hcm, hcs, _⟩
  · cases e1
  · injection e1 with e1 _ e2
    injection e1 with e1
    injection e1 with e1
    subst e1 e2
    exact ⟨by simp, .inr ⟨g, cap, cur, rfl, hb, hh, Nat.zero_le _, hcm, hcs, by simp⟩⟩
set_option maxRecDepth 100000 in
set_option maxHeartbeats 3200000 in
theorem take_v {W : World} {g : Nat} {v : Value} {z : List C2} {bg af : Bool} (h : Rdr W g v z bg af) (hz : z.length ≤ 1000000) : Calls Try.prog 30 #[.pointer (some ⟨g, 0, none⟩)] W (Over W g v (.agg #[.string (mkS (ft z)), .string (mkS (fm z))]) [] false af) := by
  have hgl := lt_of_block h.box
  rcases h.own.2 with ⟨rfl, _⟩ | ⟨g', cap, cur, rfl, _⟩
  · obtain ⟨o, ho⟩ : ∃ o : Obj, o = .cells #[.string ⟨#[]⟩, .string ⟨#[]⟩] 23 := ⟨_, rfl⟩
    have hl1 := Later.alloc W o
    have hR1 : Rdr (W.alloc o) g (.slice none 0 0) z bg af := h.keep (X := fun _ => True) (Fr.later hl1) trivial (fun _ _ => trivial)
    have HN := Lib.hid (heap_alloc_new W o)
    have HC := Lib.hid (row_v _ z (W.alloc o) (RdC.of_own hR1.own) hz)
    have hs1 : (W.alloc o).heap.size = W.heap.size + 1 := World.size_alloc ..
    have c0 : (W.alloc o).cell? ⟨g, 0, none⟩ = some (.slice none 0 0) := (cell_row hR1.box 0).1
    rw [ho] at HC HN c0 hs1
    have HL1 := Lib.hid hl1
    have HR1 := Lib.hid hR1
    rw [ho] at HL1 HR1
    clear hl1 hR1 ho
    go_enter Try.func30, Try.ntmps30
    go_wp2_with (go_at_call 23; (with_reducible refine HC.out.mono ?_); rintro e w1 ⟨rfl, hl2⟩; (have hl3 := Later.alloc w1 (.cells #[.string (mkS (ft z)), .string (mkS (fm z))] 23)); (have hR2 := (HR1.out.keep (X := fun _ => True) (Fr.later hl2) trivial (fun _ _ => trivial)).keep (X := fun _ => True) (Fr.later hl3) trivial (fun _ _ => trivial)); (have d0 : (w1.alloc (.cells #[.string (mkS (ft z)), .string (mkS (fm z))] 23)).cell? ⟨g, 0, none⟩ = some (.slice none 0 0) := (cell_row hR2.box 0).1); (have d1 : (w1.alloc (.cells #[.string (mkS (ft z)), .string (mkS (fm z))] 23)).cell? ⟨g, 1, none⟩ = some (.bool bg) := (cell_row hR2.box 1).1); (have dz := fun i => (cell_row hR2.box i).2); (have hN2 := later_cells hl3 (later_cells hl2 HN.out)); (have r0 : (w1.alloc (.cells #[.string (mkS (ft z)), .string (mkS (fm z))] 23)).cell? ⟨W.heap.size, 0, none⟩ = some (.string ⟨#[]⟩) := (cell_row hN2 0).1); (have r1 : (w1.alloc (.cells #[.string (mkS (ft z)), .string (mkS (fm z))] 23)).cell? ⟨W.heap.size, 1, none⟩ = some (.string ⟨#[]⟩) := (cell_row hN2 1).1); (have rz := fun i => (cell_row hN2 i).2); (have hne : W.heap.size ≠ w1.heap.size := by have := lt_of_block HN.out; have := hl2.size; omega); (have hng : g ≠ w1.heap.size := by have := hl2.size; omega); (have HR2 := Lib.hid hR2); (have HL2 := Lib.hid ((HL1.out.trans hl2).trans hl3)); (have HN2 := Lib.hid hN2); (have hs2 := hl2.size); clear hl2 hl3 hR2 hN2 c0)
    have hne2 := HR2.out.ne
    have hgN : W.heap.size ≠ g := by omega
    have hr1 : Rdr ((w1.alloc (.cells #[.string (mkS (ft z)), .string (mkS (fm z))] 23)).setCell ⟨g, 0, none⟩ (.slice none 0 0)) g (.slice none 0 0) [] bg af := ⟨set_row HR2.out.box 0 _, (World.ownsRow_nil _ _ _ 2).kept (set_only _ _ _ _) (.inl rfl)⟩
    have hr2 := hr1.set (i := 1) (u := .bool false) (bg' := false) (af' := af) rfl
    have hN3 := grown_cells (set_only _ g 1 (.bool false)) (grown_cells (set_only _ g 0 (.slice none 0 0)) HN2.out hgN) hgN
    have h1 := set_row hN3 0 (.string (mkS (ft z)))
    have h2 := set_row h1 1 (.string (mkS (fm z)))
    refine bodyPost_ret (results_row rfl _ _ W.heap.size _ (0, 0) rfl h2 rfl) rfl ?_
    have hnN : (.slice none 0 0 : Value).ownBlock ≠ some W.heap.size := ne_type hr2.own hN3 (by decide)
    have e1 := set_only (((w1.alloc (.cells #[.string (mkS (ft z)), .string (mkS (fm z))] 23)).setCell ⟨g, 0, none⟩ (.slice none 0 0)).setCell ⟨g, 1, none⟩ (.bool false)) W.heap.size 0 (.string (mkS (ft z)))
    have e2 := set_only ((((w1.alloc (.cells #[.string (mkS (ft z)), .string (mkS (fm z))] 23)).setCell ⟨g, 0, none⟩ (.slice none 0 0)).setCell ⟨g, 1, none⟩ (.bool false)).setCell ⟨W.heap.size, 0, none⟩ (.string (mkS (ft z)))) W.heap.size 1 (.string (mkS (fm z)))
    refine ⟨rfl, (.slice none 0 0), ?_, ?_, .inl rfl⟩
    · refine (hr2.keep (X := fun k => k ≠ W.heap.size) (Fr.grown e1 fun x e hx => by injection e with e; exact hx e.symm) (fun e => hgN e.symm) fun i e e9 => hnN (by rw [e, e9])).keep (X := fun k => k ≠ W.heap.size) (Fr.grown e2 fun x e hx => by injection e with e; exact hx e.symm) (fun e => hgN e.symm) fun i e e9 => hnN (by rw [e, e9])
    · exact ((((Fr.later HL2.out).trans (but_set 0 _)).trans (but_set 1 _)).new e1 (Nat.le_refl _)).new e2 (Nat.le_refl _)
  · obtain ⟨o, ho⟩ : ∃ o : Obj, o = .cells #[.string ⟨#[]⟩, .string ⟨#[]⟩] 23 := ⟨_, rfl⟩
    have hl1 := Later.alloc W o
    have hR1 : Rdr (W.alloc o) g (.slice (some ⟨g', 0, none⟩) z.length cap) z bg af := h.keep (X := fun _ => True) (Fr.later hl1) trivial (fun _ _ => trivial)
    have HN := Lib.hid (heap_alloc_new W o)
    have HC := Lib.hid (row_v _ z (W.alloc o) (RdC.of_own hR1.own) hz)
    have hs1 : (W.alloc o).heap.size = W.heap.size + 1 := World.size_alloc ..
    have c0 : (W.alloc o).cell? ⟨g, 0, none⟩ = some (.slice (some ⟨g', 0, none⟩) z.length cap) := (cell_row hR1.box 0).1
    rw [ho] at HC HN c0 hs1
    have HL1 := Lib.hid hl1
    have HR1 := Lib.hid hR1
    rw [ho] at HL1 HR1
    clear hl1 hR1 ho
    go_enter Try.func30, Try.ntmps30
    go_wp2_with (go_at_call 23; (with_reducible refine HC.out.mono ?_); rintro e w1 ⟨rfl, hl2⟩; (have hl3 := Later.alloc w1 (.cells #[.string (mkS (ft z)), .string (mkS (fm z))] 23)); (have hR2 := (HR1.out.keep (X := fun _ => True) (Fr.later hl2) trivial (fun _ _ => trivial)).keep (X := fun _ => True) (Fr.later hl3) trivial (fun _ _ => trivial)); (have d0 : (w1.alloc (.cells #[.string (mkS (ft z)), .string (mkS (fm z))] 23)).cell? ⟨g, 0, none⟩ = some (.slice (some ⟨g', 0, none⟩) z.length cap) := (cell_row hR2.box 0).1); (have d1 : (w1.alloc (.cells #[.string (mkS (ft z)), .string (mkS (fm z))] 23)).cell? ⟨g, 1, none⟩ = some (.bool bg) := (cell_row hR2.box 1).1); (have dz := fun i => (cell_row hR2.box i).2); (have hN2 := later_cells hl3 (later_cells hl2 HN.out)); (have r0 : (w1.alloc (.cells #[.string (mkS (ft z)), .string (mkS (fm z))] 23)).cell? ⟨W.heap.size, 0, none⟩ = some (.string ⟨#[]⟩) := (cell_row hN2 0).1); (have r1 : (w1.alloc (.cells #[.string (mkS (ft z)), .string (mkS (fm z))] 23)).cell? ⟨W.heap.size, 1, none⟩ = some (.string ⟨#[]⟩) := (cell_row hN2 1).1); (have rz := fun i => (cell_row hN2 i).2); (have hne : W.heap.size ≠ w1.heap.size := by have := lt_of_block HN.out; have := hl2.size; omega); (have hng : g ≠ w1.heap.size := by have := hl2.size; omega); (have HR2 := Lib.hid hR2); (have HL2 := Lib.hid ((HL1.out.trans hl2).trans hl3)); (have HN2 := Lib.hid hN2); (have hs2 := hl2.size); clear hl2 hl3 hR2 hN2 c0)
    have hne2 := HR2.out.ne
    have hgN : W.heap.size ≠ g := by omega
    have hr1 : Rdr ((w1.alloc (.cells #[.string (mkS (ft z)), .string (mkS (fm z))] 23)).setCell ⟨g, 0, none⟩ (.slice (some ⟨g', 0, none⟩) 0 cap)) g (.slice (some ⟨g', 0, none⟩) 0 cap) [] bg af := ⟨set_row HR2.out.box 0 _, (own_cut HR2.out.own).kept (set_only _ _ _ _) (.inr hne2)⟩
    have hr2 := hr1.set (i := 1) (u := .bool false) (bg' := false) (af' := af) rfl
    have hN3 := grown_cells (set_only _ g 1 (.bool false)) (grown_cells (set_only _ g 0 (.slice (some ⟨g', 0, none⟩) 0 cap)) HN2.out hgN) hgN
    have h1 := set_row hN3 0 (.string (mkS (ft z)))
    have h2 := set_row h1 1 (.string (mkS (fm z)))
    refine bodyPost_ret (results_row rfl _ _ W.heap.size _ (0, 0) rfl h2 rfl) rfl ?_
    have hnN : (.slice (some ⟨g', 0, none⟩) 0 cap : Value).ownBlock ≠ some W.heap.size := ne_type hr2.own hN3 (by decide)
    have e1 := set_only (((w1.alloc (.cells #[.string (mkS (ft z)), .string (mkS (fm z))] 23)).setCell ⟨g, 0, none⟩ (.slice (some ⟨g', 0, none⟩) 0 cap)).setCell ⟨g, 1, none⟩ (.bool false)) W.heap.size 0 (.string (mkS (ft z)))
    have e2 := set_only ((((w1.alloc (.cells #[.string (mkS (ft z)), .string (mkS (fm z))] 23)).setCell ⟨g, 0, none⟩ (.slice (some ⟨g', 0, none⟩) 0 cap)).setCell ⟨g, 1, none⟩ (.bool false)).setCell ⟨W.heap.size, 0, none⟩ (.string (mkS (ft z)))) W.heap.size 1 (.string (mkS (fm z)))
    refine ⟨rfl, (.slice (some ⟨g', 0, none⟩) 0 cap), ?_, ?_, .inl rfl⟩
    · refine (hr2.keep (X := fun k => k ≠ W.heap.size) (Fr.grown e1 fun x e hx => by injection e with e; exact hx e.symm) (fun e => hgN e.symm) fun i e e9 => hnN (by rw [e, e9])).keep (X := fun k => k ≠ W.heap.size) (Fr.grown e2 fun x e hx => by injection e with e; exact hx e.symm) (fun e => hgN e.symm) fun i e e9 => hnN (by rw [e, e9])
    · exact ((((Fr.later HL2.out).trans (but_set 0 _)).trans (but_set 1 _)).new e1 (Nat.le_refl _)).new e2 (Nat.le_refl _)
end Jo
end Go.Proofs.Ytghdimcdkjlpcaa
