/- A reader's variable. No premises. -/
import Derived.Test.YtcidklbeafjmoaaGreatDoorAk
namespace Go.Proofs.YtcidklbeafjmoaaGreatDoor
open Go.RowKit Go.Maps
namespace Ar
theorem wpList_mkC {ops : Array Oper} {rest : List Oper} {o : Oper} {a : Act} {Q : Exit → Act → World → Prop} (w : World) (hgd : o.guard = none) (f : Nat) (x : Operand) (hop : o.op = .makeFunc (.func f) #[] #[x]) (b : Nat) (hx : a.eval x = .pointer (some ⟨b, 0, none⟩)) (h : wpList Tryz.prog ops Q rest (a.put o.dst (.func (.func f) #[] #[.pointer (some ⟨b, 0, none⟩)])) w) : wpList Tryz.prog ops Q (o :: rest) a w := by
  refine wpList_plain hgd fun K' hK' => ?_
  have hrun : (Instr.makeFunc (.func f) #[] #[.pointer (some ⟨b, 0, none⟩)]).run Tryz.prog w = .ok (.func (.func f) #[] #[.pointer (some ⟨b, 0, none⟩)]) w := rfl
  unfold Oper.wp
  simp [execOp, hop, hx, hrun, Result.andThen]
  exact hK' _ _ h
section
variable {W W' : World} {g : Nat} {C : Ct} {s s' : St}
theorem pair_fst {l : List (L × L)} {k : Nat} {p : L × L} (h : l[k]? = some p) : k < l.length := (List.getElem?_eq_some_iff.1 h).1
/-- What a name's cell is, behind calls of the reader. -/
theorem cell_rt {b : Nat} {v : Value} (hg : W.grownBy W' (some g)) (hb : b ≠ g) (h : W.cell? ⟨b, 0, none⟩ = some v) : W'.cell? ⟨b, 0, none⟩ = some v := cell_only hg hb h
set_option maxHeartbeats 3200000 in
set_option maxRecDepth 100000 in
theorem variable_v (h : RM W g C s) (hn : nameB s.tok = true) (n : Int) (hl : look C.vs s.tok = some n) : Calls Tryz.prog 91 #[.pointer (some ⟨g, 0, none⟩)] W (Rt W g C (.int .i64 n) (pass s)) := by
  obtain ⟨⟨c0, c1, c2, c3, c4, c5, c6, c7, c8⟩, hz⟩ := h.facts
  have H := Lib.hid h
  have hgl := h.lt
  have HNM := Lib.hid (fun W => name_v s.tok (by have := h.tok_len; omega) W)
  rw [hn] at HNM
  have hbn : W.heap.size ≠ g := by omega
  have HLK := Lib.hid (idxV_look hl)
  have hfew := h.en.few
  clear h hn hl
  rcases HLK.out with ⟨hi, h0⟩ | ⟨k, p, hi, hk, hnum⟩
  · subst h0
    have HI := Lib.hid hi
    clear hi
    go_enter Tryz.func91, Tryz.ntmps91
    go_wp2_with (first
      | (go_at_call 89; (with_reducible refine (HNM.out _).mono ?_); rintro e w1 ⟨rfl, hl1⟩; have HL1 := Lib.hid ((Later.alloc W (.cells #[.string (mkS s.tok)] 9)).trans hl1); have HC1 := Lib.hid (show w1.cell? ⟨W.heap.size, 0, none⟩ = some (.string (mkS s.tok)) from cell_only (g := W.heap.size + 1) (grown_of_later hl1 _) (by show W.heap.size ≠ _; omega) (cell_row (heap_alloc_new W (.cells #[.string (mkS s.tok)] 9)) 0).1); clear hl1)
      | (go_at_call 20; (with_reducible refine (pass_v (H.out.later HL1.out)).mono ?_); rintro e w2 ⟨rfl, h2, g2⟩; have hc2 := cell_rt g2 hbn HC1.out; obtain ⟨⟨d0, d1, d2, d3, d4, d5, d6, d7, d8⟩, dz⟩ := h2.facts; have H2 := Lib.hid h2; have HG2 := Lib.hid g2; have HC2 := Lib.hid hc2; clear h2 g2)
      | (refine wpList_mkC _ rfl 103 (.tmp 3) rfl W.heap.size rfl ?_)
      | (go_at_call 102; (with_reducible refine (indexFunc_v H2.out.en.va hfew s.tok W.heap.size HC2.out).mono ?_); rintro e w3 ⟨rfl, hl3⟩; have h3 := H2.out.later hl3; have HL3 := Lib.hid hl3; obtain ⟨⟨e0, e1, e2, e3, e4, e5, e6, e7, e8⟩, ez⟩ := h3.facts; have H3 := Lib.hid h3; rw [HI.out]; clear hl3 h3 d0 d1 d2 d3 d4 d5 d6 d7 d8 dz hc2))
    go_ret
    exact ⟨rfl, H3.out, only_trans (only_later (only_refl W g) HL1.out) (only_later HG2.out HL3.out)⟩
  · have HI := Lib.hid hi
    have hp2 := H.out.en.sm p (List.mem_of_getElem? hk)
    have HNUM := Lib.hid (numV_v p.2 n hnum hp2.2)
    have HK := Lib.hid hk
    have hkl := pair_fst hk
    rcases H.out.en.va with ⟨e, _⟩ | ⟨vb, hvb, hve, hcs⟩
    · rw [e] at hkl; simp at hkl
    have hf : W.cell? ⟨vb, k * 2 + 1, none⟩ = some (.string (mkS p.2)) := (cell_row hcs (k * 2 + 1)).1.trans (by rw [List.getElem?_toArray]; exact (flat_at C.vs k p hk).2)
    have HF := Lib.hid hf
    obtain ⟨z, hz2⟩ : ∃ z, z = C.vs.length := ⟨_, rfl⟩
    rw [← hz2] at hve hkl
    have hk0 : (0 : Int) ≤ (k : Int) := by omega
    have hk1 : (k : Int) < (z : Int) := by omega
    rw [hve] at c2
    have HVE := Lib.hid hve
    clear hi hk hnum hp2 hcs hf hz2 hve
    go_enter Tryz.func91, Tryz.ntmps91
    go_wp2_with (first
      | (go_at_call 89; (with_reducible refine (HNM.out _).mono ?_); rintro e w1 ⟨rfl, hl1⟩; have HL1 := Lib.hid ((Later.alloc W (.cells #[.string (mkS s.tok)] 9)).trans hl1); have HC1 := Lib.hid (show w1.cell? ⟨W.heap.size, 0, none⟩ = some (.string (mkS s.tok)) from cell_only (g := W.heap.size + 1) (grown_of_later hl1 _) (by show W.heap.size ≠ _; omega) (cell_row (heap_alloc_new W (.cells #[.string (mkS s.tok)] 9)) 0).1); clear hl1)
      | (go_at_call 20; (with_reducible refine (pass_v (H.out.later HL1.out)).mono ?_); rintro e w2 ⟨rfl, h2, g2⟩; have hc2 := cell_rt g2 hbn HC1.out; have hvb2 : w2.cell? ⟨vb, k * 2 + 1, none⟩ = some (.string (mkS p.2)) := cell_only (only_trans (only_later (only_refl W g) HL1.out) g2) hvb HF.out; have HF2 := Lib.hid hvb2; clear hvb2; obtain ⟨⟨d0, d1, d2, d3, d4, d5, d6, d7, d8⟩, dz⟩ := h2.facts; rw [HVE.out] at d2; have H2 := Lib.hid h2; have HG2 := Lib.hid g2; have HC2 := Lib.hid hc2; clear h2 g2)
      | (refine wpList_mkC _ rfl 103 (.tmp 3) rfl W.heap.size rfl ?_)
      | (go_at_call 102; (with_reducible refine (show Calls Tryz.prog 102 #[.slice (some ⟨vb, 0, none⟩) z z, .func (.func 103) #[] #[.pointer (some ⟨W.heap.size, 0, none⟩)]] _ _ from (HVE.out ▸ indexFunc_v H2.out.en.va hfew s.tok W.heap.size HC2.out)).mono ?_); rintro e w3 ⟨rfl, hl3⟩; have h3 := H2.out.later hl3; have HL3 := Lib.hid hl3; obtain ⟨⟨e0, e1, e2, e3, e4, e5, e6, e7, e8⟩, ez⟩ := h3.facts; rw [HVE.out] at e2; have hvb3 := cell_only (grown_of_later HL3.out (some g)) hvb HF2.out; have H3 := Lib.hid h3; rw [HI.out]; clear hl3 h3 d0 d1 d2 d3 d4 d5 d6 d7 d8 dz hc2)
      | (go_at_call 9; (with_reducible refine (HNUM.out _).mono ?_); rintro e w4 ⟨rfl, hl4⟩))
    go_ret
    exact ⟨rfl, H3.out.later hl4, only_later (only_trans (only_later (only_refl W g) HL1.out) (only_later HG2.out HL3.out)) hl4⟩
end
end Ar
end Go.Proofs.YtcidklbeafjmoaaGreatDoor
