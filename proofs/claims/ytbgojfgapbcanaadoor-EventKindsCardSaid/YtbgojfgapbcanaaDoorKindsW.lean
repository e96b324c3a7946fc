/- The walk of EventKinds. -/
import Derived.Test.YtbgojfgapbcanaaDoorEvW
namespace Go.Proofs.YtbgojfgapbcanaaDoor
namespace eventKinds
open Go.RowKit
def mayP (k e s : Int) : Prop := (1 ≤ k ∧ k ≤ 11) ∧ (0 ≤ e ∧ e ≤ 255) ∧ (0 ≤ s ∧ s ≤ 64)
instance (k e s : Int) : Decidable (mayP k e s) := by unfold mayP; exact inferInstance
theorem name_ne {i j : Nat} (hi : i < 12) (hj : j < 12) (h : i ≠ j) : nameT i ≠ nameT j := by
  intro e
  apply h
  have h1 : ∀ i : Fin 12, ∀ j : Fin 12, (nameT i).data = (nameT j).data → i = j := by decide
  have := h1 ⟨i, hi⟩ ⟨j, hj⟩ (by rw [e])
  exact Fin.val_eq_of_eq this
theorem list_ne {a b : ByteArray} (h : a ≠ b) : (a.toList == b.toList) = false := by
  rw [beq_eq_false_iff_ne, ByteArray.toList_eq, ByteArray.toList_eq]
  intro e
  exact h (ByteArray.ext (Array.ext' e))
theorem list_isEmpty {a : ByteArray} (h : (a.toList == (⟨#[]⟩ : ByteArray).toList) = false) : a.toList.isEmpty = false := by
  rw [beq_eq_false_iff_ne] at h
  rw [ByteArray.toList_eq] at h ⊢
  rw [ByteArray.toList_eq] at h
  cases ha : a.data.toList with
  | nil => exact absurd ha h
  | cons x l => rfl
theorem name_empty : nameT 0 = ⟨#[]⟩ := rfl
/-- The names of two numbers: j's is one, k's another. -/
theorem names_of {j : Int} (hj : 1 ≤ j ∧ j ≤ 11) : ((nameI j).toList == (⟨#[]⟩ : ByteArray).toList) = false ∧ ∀ k, j ≠ k → ((nameI k).toList == (nameI j).toList) = false := by
  have e1 : nameI j = nameT j.toNat := if_pos hj
  refine ⟨?_, fun k hk => ?_⟩
  · rw [e1]
    exact list_ne (by rw [← name_empty]; exact name_ne (by omega) (by omega) (by omega))
  · rw [e1]
    apply list_ne
    by_cases h : 1 ≤ k ∧ k ≤ 11
    · rw [show nameI k = nameT k.toNat from if_pos h]
      exact name_ne (by omega) (by omega) (by omega)
    · rw [show nameI k = nameT 0 from if_neg h]
      exact name_ne (by omega) (by omega) (by omega)
/-- How many kinds below x an answer fits. -/
def cnt (k e s : Int) (x : Nat) : Nat := if mayP k e s ∧ k < (x : Int) then 1 else 0
theorem cnt_next (k e s : Int) (x len : Nat) (hx : 1 ≤ x) (hlen : len ≤ 4096) : cnt k e s (x + 1) = cnt k e s x + (if fitsB (x : Int) k e s len then 1 else 0) := by
  unfold cnt fitsB mayP
  simp only [decide_eq_true_eq]
  split <;> split <;> split <;> omega
theorem cnt_le (k e s : Int) (x : Nat) : cnt k e s x ≤ 1 := by unfold cnt; split <;> omega
theorem cnt_end (k e s : Int) : cnt k e s 12 = if mayP k e s then 1 else 0 := by
  unfold cnt
  by_cases h : mayP k e s
  · rw [if_pos ⟨h, by have := h.1.2; omega⟩, if_pos h]
  · rw [if_neg (fun h2 => h h2.1), if_neg h]
theorem may_cases (k e s : Int) : (¬ 1 ≤ k ∧ (if mayP k e s then 1 else 0) = 0) ∨ (1 ≤ k ∧ ¬ k ≤ 11 ∧ (if mayP k e s then 1 else 0) = 0) ∨ (1 ≤ k ∧ k ≤ 11 ∧ ¬ 0 ≤ e ∧ (if mayP k e s then 1 else 0) = 0) ∨ (1 ≤ k ∧ k ≤ 11 ∧ 0 ≤ e ∧ ¬ e ≤ 255 ∧ (if mayP k e s then 1 else 0) = 0) ∨
    (1 ≤ k ∧ k ≤ 11 ∧ 0 ≤ e ∧ e ≤ 255 ∧ ¬ 0 ≤ s ∧ (if mayP k e s then 1 else 0) = 0) ∨ (1 ≤ k ∧ k ≤ 11 ∧ 0 ≤ e ∧ e ≤ 255 ∧ 0 ≤ s ∧ ¬ s ≤ 64 ∧ (if mayP k e s then 1 else 0) = 0) ∨ (1 ≤ k ∧ k ≤ 11 ∧ 0 ≤ e ∧ e ≤ 255 ∧ 0 ≤ s ∧ s ≤ 64 ∧ (if mayP k e s then 1 else 0) = 1) := by
  by_cases h1 : 1 ≤ k
  case neg => exact .inl ⟨h1, if_neg fun h => h1 h.1.1⟩
  by_cases h2 : k ≤ 11
  case neg => exact .inr (.inl ⟨h1, h2, if_neg fun h => h2 h.1.2⟩)
  by_cases h3 : 0 ≤ e
  case neg => exact .inr (.inr (.inl ⟨h1, h2, h3, if_neg fun h => h3 h.2.1.1⟩))
  by_cases h4 : e ≤ 255
  case neg => exact .inr (.inr (.inr (.inl ⟨h1, h2, h3, h4, if_neg fun h => h4 h.2.1.2⟩)))
  by_cases h5 : 0 ≤ s
  case neg => exact .inr (.inr (.inr (.inr (.inl ⟨h1, h2, h3, h4, h5, if_neg fun h => h5 h.2.2.1⟩))))
  by_cases h6 : s ≤ 64
  case neg => exact .inr (.inr (.inr (.inr (.inr (.inl ⟨h1, h2, h3, h4, h5, h6, if_neg fun h => h6 h.2.2.2⟩)))))
  exact .inr (.inr (.inr (.inr (.inr (.inr ⟨h1, h2, h3, h4, h5, h6, if_pos ⟨⟨h1, h2⟩, ⟨h3, h4⟩, h5, h6⟩⟩)))))
set_option maxRecDepth 100000 in
set_option maxHeartbeats 4000000 in
theorem walk0 (w : World) (hN : Names w) (k e n m : Int) (t : List UInt8) (A : Option Addr) (len cap : Nat) (s : Int) (j q : Int) :
    Calls Tryd.prog 7 #[ansV k e n m t A len cap s, .int .i64 j, .int .i64 q] w fun r w' => r = .returned (.bool true) ∧ Below w.heap.size w w' := by
  unfold ansV
  have HN := Lib.hid hN
  have hbox := Lib.hid (Later.alloc w (.cells (ansC k e n m t A len cap s) 26))
  have hone := fun w1 hb => one_cells w (ansC k e n m t A len cap s) 26 (w1 := w1) hb
  have hfit := fun x W => fits_v x k e n m t A len cap s W
  unfold ansC at hbox hone
  unfold ansV at hfit
  have HO := Lib.hid hone
  have HFIT := Lib.hid hfit
  clear hone hfit
  by_cases hlen : 4096 < len
  · go_enter Tryd.func7, Tryd.ntmps7
    go_wp2_with (go_at_call 8; (with_reducible refine (evAwake_v _ (HN.out.keep hbox.out)).mono ?_); rintro r w1 ⟨rfl, hb1⟩; have HB1 := Lib.hid (Later.trans hbox.out hb1); obtain ⟨c0, hz⟩ := HO.out w1 (by simpa [Later] using hb1); have q5 := c0 5; simp only [lit7_5] at q5; clear c0 hb1)
    go_ret
    exact ⟨rfl, HB1.out⟩
  · have hcnt := fun x hx => cnt_next k e s x len hx (by omega)
    have HCN := Lib.hid hcnt
    have HCE := Lib.hid (cnt_end k e s)
    clear hcnt
    have hkc : ∃ (ns qs : ByteArray), nameI j = ns ∧ nameI q = qs ∧ ((j < 1 ∧ ns.toList = [] ∧ ¬ j = q) ∨ (¬ j ≤ 11 ∧ ns.toList = [] ∧ ¬ j = q) ∨ (j < 1 ∧ ns.toList = [] ∧ j = q) ∨ (¬ j ≤ 11 ∧ ns.toList = [] ∧ j = q) ∨ ((1 ≤ j ∧ j ≤ 11) ∧ ns.toList.isEmpty = false ∧ j = q) ∨ ((1 ≤ j ∧ j ≤ 11) ∧ ns.toList.isEmpty = false ∧ ¬ j = q ∧ (qs.toList == ns.toList) = false)) := by
      refine ⟨_, _, rfl, rfl, ?_⟩
      have hempty : ¬ (1 ≤ j ∧ j ≤ 11) → (nameI j).toList = [] := fun h => by rw [show nameI j = ⟨#[]⟩ from if_neg h, ByteArray.toList_eq]
      by_cases hq : j = q
      · rcases (show j < 1 ∨ 11 < j ∨ (1 ≤ j ∧ j ≤ 11) by omega) with h | h | h
        · exact .inr (.inr (.inl ⟨h, hempty (by omega), hq⟩))
        · exact .inr (.inr (.inr (.inl ⟨by omega, hempty (by omega), hq⟩)))
        · exact .inr (.inr (.inr (.inr (.inl ⟨h, list_isEmpty (names_of h).1, hq⟩))))
      · rcases (show j < 1 ∨ 11 < j ∨ (1 ≤ j ∧ j ≤ 11) by omega) with h | h | h
        · exact .inl ⟨h, hempty (by omega), hq⟩
        · exact .inr (.inl ⟨by omega, hempty (by omega), hq⟩)
        · exact .inr (.inr (.inr (.inr (.inr ⟨h, list_isEmpty (names_of h).1, hq, (names_of h).2 q hq⟩))))
    obtain ⟨ns, qs, hns, hqs, hcs⟩ := hkc
    have hnj := fun W (h : Later w W) => name_v j W (hN.keep h)
    have hnq := fun W (h : Later w W) => name_v q W (hN.keep h)
    rw [hns] at hnj
    rw [hqs] at hnq
    have HNJ := Lib.hid hnj
    have HNQ := Lib.hid hnq
    clear hnj hnq hN
    go_enter Tryd.func7, Tryd.ntmps7
    clear hns hqs
    rcases hcs with ⟨hj, hem, hq⟩ | ⟨hj, hem, hq⟩ | ⟨hj, hem, rfl⟩ | ⟨hj, hem, rfl⟩ | ⟨⟨hj1, hj2⟩, hem, rfl⟩ | ⟨⟨hj1, hj2⟩, hem, hq, hqn⟩
    all_goals
      go_wp2_with (first
        | (go_at_call 8; (with_reducible refine (evAwake_v _ (HN.out.keep hbox.out)).mono ?_); rintro r w1 ⟨rfl, hb1⟩; have HB1 := Lib.hid (Later.trans hbox.out hb1); obtain ⟨c0, hz⟩ := HO.out w1 (by simpa [Later] using hb1); have q0 := c0 0; have q1 := c0 1; have q2 := c0 2; have q3 := c0 3; have q4 := c0 4; have q5 := c0 5; have q6 := c0 6; simp only [lit7_0, lit7_1, lit7_2, lit7_3, lit7_4, lit7_5, lit7_6] at q0 q1 q2 q3 q4 q5 q6; clear c0 hb1)
        | (go_at_call 10; (with_reducible refine (HNJ.out w1 HB1.out).mono ?_); rintro r w' ⟨rfl, rfl⟩))
      go_loopw [10, 11] (fun c i wr => ∃ x : Nat, 1 ≤ x ∧ x ≤ 12 ∧ i = .int .i64 (x : Int) ∧ c = .int .i64 ((cnt k e s x : Nat) : Int) ∧ Later w1 wr) (fun _ i _ => 12 - (intOf i).toNat)
      case atStart => exact ⟨1, by omega, by omega, rfl, by rw [show cnt k e s 1 = 0 from if_neg (fun h => by have := h.1.1.1; have := h.2; omega)]; rfl, Later.refl _⟩
      case round =>
        obtain ⟨x, hx1, hx2, rfl, rfl, hl⟩ := hrel
        have h0 := cell_keeps hl q0
        have h1 := cell_keeps hl q1
        have h2 := cell_keeps hl q2
        have h3 := cell_keeps hl q3
        have h4 := cell_keeps hl q4
        have h5 := cell_keeps hl q5
        have h6 := cell_keeps hl q6
        have hz1 := hl.size
        have HL := Lib.hid hl
        clear hl
        by_cases hx : x < 12
        · have hnx := HCN.out x hx1
          have hcl := cnt_le k e s x
          obtain ⟨c, hc⟩ : ∃ c, c = cnt k e s x := ⟨_, rfl⟩
          rw [← hc] at hnx hcl ⊢
          by_cases hf : fitsB (x : Int) k e s len = true
          · rw [if_pos hf] at hnx
            have HX := Lib.hid hnx
            clear hnx hc
            go_wp2_with (go_at_call 14; (with_reducible refine (HFIT.out _ wr).mono ?_); rintro r w2 ⟨rfl, hb2⟩; rw [hf]; have HB2 := Lib.hid (Later.trans HL.out hb2); clear hb2)
            go_roundw
            case rel => exact ⟨x + 1, by omega, by omega, by go_num, by rw [HX.out]; rfl, HB2.out⟩
            case measure => simp [intOf]; omega
          · rw [if_neg hf] at hnx
            have hff : fitsB (x : Int) k e s len = false := by simpa using hf
            have HX := Lib.hid hnx
            clear hnx hc hf
            go_wp2_with (go_at_call 14; (with_reducible refine (HFIT.out _ wr).mono ?_); rintro r w2 ⟨rfl, hb2⟩; rw [hff]; have HB2 := Lib.hid (Later.trans HL.out hb2); clear hb2)
            go_roundw
            case rel => exact ⟨x + 1, by omega, by omega, by go_num, by rw [HX.out]; rfl, HB2.out⟩
            case measure => simp [intOf]; omega
        · have hx12 : x = 12 := by omega
          subst hx12
          rw [HCE.out]
          have hmc := may_cases k e s
          clear hx1 hx2 hx
          rcases hmc with ⟨m1, mv⟩ | ⟨m1, m2, mv⟩ | ⟨m1, m2, m3, mv⟩ | ⟨m1, m2, m3, m4, mv⟩ | ⟨m1, m2, m3, m4, m5, mv⟩ | ⟨m1, m2, m3, m4, m5, m6, mv⟩ | ⟨m1, m2, m3, m4, m5, m6, mv⟩
          all_goals
            rw [mv]
            clear mv
            go_wp2_with (go_at_call 10; (with_reducible refine (HNQ.out wr (Later.trans HB1.out HL.out)).mono ?_); rintro r w' ⟨rfl, rfl⟩)
            go_ret
            exact ⟨rfl, Later.trans HB1.out HL.out⟩
theorem walk (w : World) (hN : Names w) (k : Int) (_hk : (Lit.int .i64 k).wf = true) (e : Int) (_he : (Lit.int .i64 e).wf = true) (n : Int) (_hn : (Lit.int .i64 n).wf = true) (m : Int) (_hm : (Lit.int .i64 m).wf = true) (t : ByteArray) (_ht : t.size ≤ maxLen)
    (A : Option Addr) (len cap : Nat) (l : List ByteArray) (_hl : Rd w w.heap.size A len (l.map Value.string) ∧ (∀ s ∈ l, s.size ≤ maxLen) ∧ len ≤ cap ∧ cap ≤ maxLen) (s : Int) (_hs : (Lit.int .i64 s).wf = true) (j : Int) (_hj : (Lit.int .i64 j).wf = true) (q : Int) (_hq : (Lit.int .i64 q).wf = true) :
    Calls Tryd.prog 7 #[.agg #[.int .i64 k, .int .i64 e, .int .i64 n, .int .i64 m, .string t, .slice A len cap, .int .i64 s], .int .i64 j, .int .i64 q] w fun r w' => r = .returned (.bool true) ∧ Below w.heap.size w w' := by
  have h := walk0 w hN k e n m t.data.toList A len cap s j q
  unfold ansV at h
  rwa [mkS_of] at h
end eventKinds
end Go.Proofs.YtbgojfgapbcanaaDoor
