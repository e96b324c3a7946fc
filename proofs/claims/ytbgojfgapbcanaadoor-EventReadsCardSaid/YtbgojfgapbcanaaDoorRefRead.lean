/- The document's Next and Word: what each one tells of any reader. -/
import Derived.Test.YtbgojfgapbcanaaDoorRefTake
import Derived.RegionTactic
import Derived.ChangeAlike
namespace Go.Proofs.YtbgojfgapbcanaaDoor
open Go.RowKit
theorem mkS_drop (bs : List UInt8) (k : Nat) : (mkS bs).extract k (mkS bs).size = mkS (bs.drop k) := by
  apply ByteArray.ext
  simp [mkS, ByteArray.size]
  exact List.take_of_length_le (by simp)
theorem mkS_take (bs : List UInt8) (k : Nat) : (mkS bs).extract 0 k = mkS (bs.take k) := by
  apply ByteArray.ext
  simp [mkS]
/-- The document's reader as a value. -/
def rv (bs : List UInt8) (e : Nat) : Value := .agg #[.string (mkS bs), .int .i64 (e : Int)]
set_option maxHeartbeats 400000 in
theorem next_v (bs : List UInt8) (e : Nat) (w : World) (hn : bs.length ≤ 140737488351232) :
    Calls Tryd.prog 53 #[rv bs e] w fun r w' => r = .returned (.tuple #[rv (numR bs e).2.1 (numR bs e).2.2, .int .u64 ((numR bs e).1 : Int)]) ∧ Below w.heap.size w w' := by
  unfold rv
  have hs := mkS_size bs
  by_cases he : e = 0
  · subst he
    obtain ⟨x, k, e', ht⟩ : ∃ x k e', takeM bs = (x, k, e') := ⟨_, _, _, rfl⟩
    have hk : k ≤ bs.length := by have := (takeM_le bs).1; rw [ht] at this; exact this
    have hr : numR bs 0 = (x, bs.drop k, e') := by simp [numR, ht]
    have HT := Lib.hid ht
    have hdr := mkS_drop bs k
    rw [hs] at hdr
    rw [hr]
    clear ht hr
    go_enter Tryd.func53, Tryd.ntmps53
    go_wp2_with (go_at_call 57; refine (refTake_v (mkS bs) _ (by omega)).mono ?_; rintro e w' ⟨rfl, rfl⟩; rw [mkS_list, HT.out])
    exact bodyPost_ret (v := .tuple #[.agg #[.string (mkS (bs.drop k)), .int .i64 (e' : Int)], .int .u64 (x : Int)]) (by simp [results, Tryd.results53, go_sem]) rfl
      ⟨rfl, ((Below.refl _ _).alloc (Nat.le_refl _) _).alloc (by simp) _⟩
  · have hne : ((e : Int) != 0) = true := by simp; omega
    have hr : numR bs e = (0, bs, e) := by simp [numR, he]
    rw [hr]
    clear hr
    go_enter Tryd.func53, Tryd.ntmps53
    go_wp2
    exact bodyPost_ret (v := .tuple #[.agg #[.string (mkS bs), .int .i64 (e : Int)], .int .u64 0]) (by simp [results, Tryd.results53, go_sem]) rfl
      ⟨rfl, ((Below.refl _ _).alloc (Nat.le_refl _) _).alloc (by simp) _⟩
theorem textR_of (bs : List UInt8) (e x : Nat) (b1 : List UInt8) (e1 : Nat) (h : numR bs e = (x, b1, e1)) :
    textR bs e = if e1 ≠ 0 then ([], b1, e1) else if b1.length < x then ([], b1, 10) else (b1.take x, b1.drop x, 0) := by simp [textR, h]
theorem numR_len (bs : List UInt8) (e : Nat) : (numR bs e).2.1.length ≤ bs.length := by
  unfold numR; split <;> simp
set_option maxHeartbeats 400000 in
theorem word_v (bs : List UInt8) (e : Nat) (w : World) (hn : bs.length ≤ 140737488351232) :
    Calls Tryd.prog 54 #[rv bs e] w fun r w' => r = .returned (.tuple #[rv (textR bs e).2.1 (textR bs e).2.2, .string (mkS (textR bs e).1)]) ∧ Below w.heap.size w w' := by
  obtain ⟨x, b1, e1, hx⟩ : ∃ x b1 e1, numR bs e = (x, b1, e1) := ⟨_, _, _, rfl⟩
  have hb1 : b1.length ≤ bs.length := by have := numR_len bs e; rw [hx] at this; exact this
  have hs := mkS_size b1
  have hx64 := Lib.hid (numR_lt bs e)
  rw [hx] at hx64
  have hnx := fun W => next_v bs e W hn
  rw [hx] at hnx
  have HN := Lib.hid hnx
  clear hnx
  have ht := textR_of bs e x b1 e1 hx
  clear hx
  have hw : IntKind.u64.wrap (b1.length : Int) = (b1.length : Int) := by rw [IntKind.wrap_u64]; omega
  unfold rv at *
  by_cases he : e1 = 0
  · subst he
    rw [if_neg (by omega)] at ht
    by_cases hlt : b1.length < x
    · rw [if_pos hlt] at ht
      rw [ht]
      clear ht
      go_enter Tryd.func54, Tryd.ntmps54
      go_wp2_with (go_at_call 53; refine (HN.out _).mono ?_; rintro r w1 ⟨rfl, hb⟩; have hsz := hb.size; obtain ⟨hbc, hbf⟩ := bcell hb; have hlt1 : w.heap.size + 1 < w1.heap.size := (by simp at hsz; omega); have HB := Lib.hid ((((Below.refl w.heap.size w).alloc (Nat.le_refl _) _).alloc (by simp) _).trans (hb.mono (by simp; omega))); clear hb)
      exact bodyPost_ret (v := .tuple #[.agg #[.string (mkS b1), .int .i64 10], .string ⟨#[]⟩]) (by simp [results, Tryd.results54, go_sem, hlt1, hbc]) rfl
        ⟨rfl, ((HB.out.setCell (by simp) _).setCell (by simp) _).alloc (by simp; omega) _⟩
    · rw [if_neg hlt] at ht
      rw [ht]
      clear ht
      go_enter Tryd.func54, Tryd.ntmps54
      go_wp2_with (go_at_call 53; refine (HN.out _).mono ?_; rintro r w1 ⟨rfl, hb⟩; have hsz := hb.size; obtain ⟨hbc, hbf⟩ := bcell hb; have hlt1 : w.heap.size + 1 < w1.heap.size := (by simp at hsz; omega); have HB := Lib.hid ((((Below.refl w.heap.size w).alloc (Nat.le_refl _) _).alloc (by simp) _).trans (hb.mono (by simp; omega))); clear hb)
      have hd := mkS_drop b1 x
      have htk := mkS_take b1 x
      rw [hs] at hd
      go_region
      all_goals
        go_wp2
        exact bodyPost_ret (v := .tuple #[.agg #[.string (mkS (b1.drop x)), .int .i64 0], .string (mkS (b1.take x))]) (by simp [results, Tryd.results54, go_sem, hlt1, hbc]) rfl
          ⟨rfl, (((HB.out.setCell (by simp) _).setCell (by simp) _).alloc (by simp; omega) _).drew⟩
  · rw [if_pos he] at ht
    have hne : ((e1 : Int) != 0) = true := by simp; omega
    rw [ht]
    clear ht
    go_enter Tryd.func54, Tryd.ntmps54
    go_wp2_with (go_at_call 53; refine (HN.out _).mono ?_; rintro r w1 ⟨rfl, hb⟩; have hsz := hb.size; obtain ⟨hbc, hbf⟩ := bcell hb; have hlt1 : w.heap.size + 1 < w1.heap.size := (by simp at hsz; omega); have HB := Lib.hid ((((Below.refl w.heap.size w).alloc (Nat.le_refl _) _).alloc (by simp) _).trans (hb.mono (by simp; omega))); clear hb)
    exact bodyPost_ret (v := .tuple #[.agg #[.string (mkS b1), .int .i64 (e1 : Int)], .string ⟨#[]⟩]) (by simp [results, Tryd.results54, go_sem, hlt1, hbc]) rfl
      ⟨rfl, ((HB.out.setCell (by simp) _).setCell (by simp) _).alloc (by simp; omega) _⟩
end Go.Proofs.YtbgojfgapbcanaaDoor
