/- event's Name and the document's: what each one tells. -/
import Derived.Test.YtbgojfgapbcanaaDoorEvK
import Derived.Test.YtbgojfgapbcanaaDoorLater
namespace Go.Proofs.YtbgojfgapbcanaaDoor
open Go.RowKit
def nameL : List ByteArray := [⟨#[]⟩, ⟨#[114, 101, 97, 100]⟩, ⟨#[119, 114, 105, 116, 101]⟩, ⟨#[111, 112, 101, 110]⟩, ⟨#[99, 108, 111, 115, 101]⟩, ⟨#[112, 105, 112, 101]⟩, ⟨#[115, 112, 97, 119, 110]⟩, ⟨#[119, 97, 105, 116]⟩, ⟨#[99, 108, 111, 99, 107]⟩, ⟨#[108, 105, 115, 116]⟩, ⟨#[115, 116, 97, 116]⟩, ⟨#[99, 104, 100, 105, 114]⟩]
def nameT (i : Nat) : ByteArray := nameL.getD i ⟨#[]⟩
/-- A kind's name; none of another number. -/
def nameI (k : Int) : ByteArray := if 1 ≤ k ∧ k ≤ 11 then nameT k.toNat else ⟨#[]⟩
/-- The table of names lies in the variable's block. -/
def Names (w : World) : Prop := ∀ i : Nat, i < 12 → w.cell? ⟨0, i, none⟩ = some (.string (nameT i))
theorem Names.keep {w w' : World} (h : Names w) (hb : Later w w') : Names w' := fun i hi => cell_keeps hb (h i hi)
theorem Names.pos {w : World} (h : Names w) : 0 < w.heap.size := World.block_lt_of_cell? w _ (h 0 (by omega))
theorem name_v (k : Int) (w : World) (h : Names w) : Calls Tryd.prog 10 #[.int .i64 k] w fun e w' => e = .returned (.string (nameI k)) ∧ w = w' := by
  by_cases hk : 1 ≤ k ∧ k ≤ 11
  · have hb : kindB k = true := decide_eq_true hk
    have hc := h k.toNat (by omega)
    have hv : nameI k = nameT k.toNat := if_pos hk
    rw [hv]
    obtain ⟨h1, h2⟩ := hk
    clear hv h
    go_enter Tryd.func10, Tryd.ntmps10
    go_wp2_with (go_at_call 27; (with_reducible refine (isKind_v k _).mono ?_); rintro e w' ⟨rfl, rfl⟩; rw [hb])
    go_ret
    exact ⟨rfl, rfl⟩
  · have hb : kindB k = false := decide_eq_false hk
    have hv : nameI k = ⟨#[]⟩ := if_neg hk
    rw [hv]
    clear hk hv h
    go_enter Tryd.func10, Tryd.ntmps10
    go_wp2_with (go_at_call 27; (with_reducible refine (isKind_v k _).mono ?_); rintro e w' ⟨rfl, rfl⟩; rw [hb])
    go_ret
    exact ⟨rfl, rfl⟩
def nameCells : Array Value := (nameL.map Value.string).toArray
set_option maxHeartbeats 1000000 in
theorem refName_v (k : Int) (w : World) : Calls Tryd.prog 11 #[.int .i64 k] w fun e w' => e = .returned (.string (nameI k)) ∧ Below w.heap.size w w' := by
  have hb := Lib.hid ((Below.refl w.heap.size w).alloc (Nat.le_refl _) (.cells nameCells 9))
  by_cases h1 : k < 1
  · have hv : nameI k = ⟨#[]⟩ := if_neg (by omega)
    rw [hv]
    clear hv
    go_enter Tryd.func11, Tryd.ntmps11
    go_wp2
    go_ret
    exact ⟨rfl, hb.out⟩
  by_cases h2 : 11 < k
  · have hv : nameI k = ⟨#[]⟩ := if_neg (by omega)
    rw [hv]
    clear hv
    go_enter Tryd.func11, Tryd.ntmps11
    go_wp2
    go_ret
    exact ⟨rfl, hb.out⟩
  have hk : k = 1 ∨ k = 2 ∨ k = 3 ∨ k = 4 ∨ k = 5 ∨ k = 6 ∨ k = 7 ∨ k = 8 ∨ k = 9 ∨ k = 10 ∨ k = 11 := by omega
  clear h1 h2
  rcases hk with rfl | rfl | rfl | rfl | rfl | rfl | rfl | rfl | rfl | rfl | rfl
  all_goals
    go_enter Tryd.func11, Tryd.ntmps11
    go_wp2
    go_ret
    exact ⟨rfl, hb.out⟩
end Go.Proofs.YtbgojfgapbcanaaDoor
