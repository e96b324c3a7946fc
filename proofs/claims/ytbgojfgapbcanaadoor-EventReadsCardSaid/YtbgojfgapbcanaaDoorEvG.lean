/- event's small and first; a reader beside a struct that is written. -/
import Derived.Test.YtbgojfgapbcanaaDoorEvK
import Derived.Test.YtbgojfgapbcanaaDoorRef
namespace Go.Proofs.YtbgojfgapbcanaaDoor
open Go.RowKit
theorem small_v (w : World) (B g : Nat) (bs : List UInt8) (e : Nat) (h : Rdr w B g bs e) :
    Calls Tryd.prog 40 #[.pointer (some ⟨g, 0, none⟩)] w fun r w' => r = .returned (.int .i64 ((min (numR bs e).1 256 : Nat) : Int)) ∧ Rdr w' B g (numR bs e).2.1 (numR bs e).2.2 ∧ w.grownBy w' (some g) := by
  have HL := Lib.hid (numR_lt bs e)
  obtain ⟨x, hx⟩ : ∃ x, x = (numR bs e).1 := ⟨_, rfl⟩
  rw [← hx] at HL
  have hn := num_v w B g bs e h
  rw [← hx] at hn ⊢
  clear hx h
  obtain ⟨p, hp⟩ : ∃ p, p = min x 256 := ⟨_, rfl⟩
  rw [← hp]
  have h1 : (if (256 : Int) < (x : Int) then (256 : Int) else (x : Int)) = (p : Int) := by split <;> omega
  have hw : IntKind.i64.wrap (p : Int) = (p : Int) := by rw [IntKind.wrap_i64]; omega
  clear hp
  have HN := Lib.hid hn
  clear hn
  go_enter Tryd.func40, Tryd.ntmps40
  go_wp2_with (go_at_call 49; refine HN.out.mono ?_; rintro e w1 ⟨rfl, hr1, hg1⟩)
  go_ret
  exact ⟨rfl, hr1, hg1⟩
def firstOf (e0 : Int) (bs : List UInt8) (e : Nat) (may : Bool) : Int := if e0 ≠ 0 then e0 else if e ≠ 0 then (e : Int) else if may = false then 11 else if bs = [] then 0 else 14
theorem Rdr.errCell {w : World} {B g e : Nat} {bs : List UInt8} (h : Rdr w B g bs e) : w.cell? ⟨g, 1, none⟩ = some (.int .i64 (e : Int)) := by
  obtain ⟨A, n, c, h1, _⟩ := h
  exact (cell_row h1 1).1
theorem first_v (e0 : Int) (w : World) (B g : Nat) (bs : List UInt8) (e : Nat) (may : Bool) (h : Rdr w B g bs e) :
    Calls Tryd.prog 44 #[.int .i64 e0, .pointer (some ⟨g, 0, none⟩), .bool may] w fun r w' => r = .returned (.int .i64 (firstOf e0 bs e may)) ∧ w = w' := by
  have HC := Lib.hid h.errCell
  have H := Lib.hid h
  clear h
  by_cases h0 : e0 = 0
  case neg =>
    have hne : (e0 != 0) = true := by simpa using h0
    have hv : firstOf e0 bs e may = e0 := by unfold firstOf; rw [if_pos h0]
    rw [hv]
    clear hv h0
    go_enter Tryd.func44, Tryd.ntmps44
    go_wp2
    go_ret
    exact ⟨rfl, rfl⟩
  subst h0
  by_cases he : e = 0
  case neg =>
    have hne : ((e : Int) != 0) = true := by simp; omega
    have hv : firstOf 0 bs e may = (e : Int) := by unfold firstOf; rw [if_neg (by simp), if_pos he]
    rw [hv]
    clear hv he
    go_enter Tryd.func44, Tryd.ntmps44
    go_wp2_with (go_at_call 51; refine (err_v _ _ _ HC.out).mono ?_; rintro e w' ⟨rfl, rfl⟩)
    go_ret
    exact ⟨rfl, rfl⟩
  subst he
  cases may
  · have hv : firstOf 0 bs 0 false = 11 := by unfold firstOf; simp
    rw [hv]
    clear hv
    go_enter Tryd.func44, Tryd.ntmps44
    go_wp2_with (go_at_call 51; refine (err_v _ _ _ HC.out).mono ?_; rintro e w' ⟨rfl, rfl⟩)
    go_ret
    exact ⟨rfl, rfl⟩
  · have hv : firstOf 0 bs 0 true = endOf bs 0 := by unfold firstOf endOf; simp
    rw [hv]
    clear hv
    go_enter Tryd.func44, Tryd.ntmps44
    go_wp2_with (first
      | (go_at_call 51; refine (err_v _ _ _ HC.out).mono ?_; rintro e w' ⟨rfl, rfl⟩)
      | (go_at_call 52; refine (endR_v _ _ _ _ _ H.out).mono ?_; rintro e w' ⟨rfl, rfl⟩))
    go_ret
    exact ⟨rfl, rfl⟩
/-- No cell of a row is a byte. -/
def noByte (cs : List Value) : Prop := ∀ u ∈ cs, ∀ c : UInt8, u ≠ bv c
/-- A store into a block of another type, none of whose cells is a byte, leaves the reader as it was. -/
theorem Rdr.put {w : World} {B g e b : Nat} {bs : List UInt8} (h : Rdr w B g bs e) {cs : Array Value} {T : TypeId} (hq : w.heap[b]? = some (.cells cs T (0, 0))) (hT : T ≠ 81) (hno : noByte cs.toList) (i : Nat) (u : Value) : Rdr (w.setCell ⟨b, i, none⟩ u) B g bs e := by
  obtain ⟨A, n, c, h1, h2, h3, h4, h5, h6⟩ := h
  have hbg : g ≠ b := by
    rintro rfl
    rw [h1] at hq
    injection hq with hq
    injection hq with _ hq
    exact hT hq.symm
  refine ⟨A, n, c, ?_, h2, h3, ?_, h5, h6⟩
  · rw [Below.heap_setCell _ _ _ _ (fun e2 => hbg e2)]; exact h1
  · refine ⟨h4.1, fun hn => ?_⟩
    obtain ⟨ad, e1, hb, hc⟩ := h4.2 hn
    refine ⟨ad, e1, hb, fun j v hv => ?_⟩
    rw [World.cell?_setCell_other]
    · exact hc j v hv
    · intro e2
      have h7 := hc j v hv
      rw [← e2, (cell_row hq i).1] at h7
      rw [List.getElem?_map] at hv
      obtain ⟨c0, _, rfl⟩ := Option.map_eq_some_iff.1 hv
      have h8 : bv c0 ∈ cs.toList := by
        rw [← Array.getElem?_toList] at h7
        exact List.mem_of_getElem? h7
      exact hno _ h8 c0 rfl
end Go.Proofs.YtbgojfgapbcanaaDoor
