/- mayPick; sorted rows without twins. No premises. -/
import Derived.Test.YtjjkeajgcdminaaGr
import Derived.Lib.RowBridge
namespace Go.Proofs.Ytjjkeajgcdminaa
open Go.RowKit Go.Maps
namespace Gl
def dot : L → Bool
  | [] => false
  | b :: _ => b == 46
/-- May a pattern pick a name at all? -/
def may (t s : L) : Bool := match s with
  | [] => false
  | c :: _ => c != 46 || dot t
theorem le_or_lt (a b : L) : a ≤ b ∨ b < a := by
  by_cases h : b < a
  · exact .inr h
  · exact .inl h
theorem lt_of_le_ne {a b : L} (h : a ≤ b) (hn : a ≠ b) : a < b := by
  by_cases h1 : a < b
  · exact h1
  · exact absurd (List.le_antisymm h h1) hn
/-- A rising row without twins. -/
theorem compact_up {zs : List L} (hs : zs.Pairwise (· ≤ ·)) : ∀ m, m ≤ zs.length → (Go.Lib.compactUpTo zs.toArray m).Pairwise (· < ·) ∧ (∀ x, x ∈ Go.Lib.compactUpTo zs.toArray m ↔ x ∈ zs.take m)
  | 0, _ => by simp [Go.Lib.compactUpTo]
  | m + 1, hm => by
    obtain ⟨h1, h2⟩ := compact_up hs m (by omega)
    have hlt : m < zs.length := by omega
    have hg : zs.toArray[m]! = zs[m] := by simp [hlt]
    rw [Go.Lib.compactUpTo_succ, List.take_succ_eq_append_getElem hlt, hg]
    by_cases hk : Go.Lib.keeps zs.toArray m = true
    · rw [if_pos hk]
      refine ⟨?_, fun x => by rw [List.mem_append, List.mem_append, h2]⟩
      rw [List.pairwise_append]
      refine ⟨h1, List.pairwise_singleton _ _, fun a ha b hb => ?_⟩
      simp at hb
      subst hb
      have ha := (h2 a).1 ha
      obtain ⟨j, hj, rfl⟩ := List.mem_iff_getElem.1 ha
      rw [List.length_take] at hj
      rw [List.getElem_take]
      have hle : zs[j] ≤ zs[m - 1] := by
        by_cases e : j = m - 1
        · subst e; exact List.le_refl _
        · exact List.pairwise_iff_getElem.1 hs j (m - 1) (by omega) (by omega) (by omega)
      have hle2 : zs[m - 1] ≤ zs[m] := List.pairwise_iff_getElem.1 hs (m - 1) m (by omega) hlt (by omega)
      have hne : zs[m - 1] ≠ zs[m] := by
        intro e
        have h0 : m ≠ 0 := by omega
        have hg1 : zs.toArray[m - 1]! = zs[m - 1] := by simp [show m - 1 < zs.length by omega]
        rw [Go.Lib.keeps_neg (by omega) (by rw [hg, hg1, e])] at hk
        cases hk
      exact List.lt_of_le_of_lt hle (lt_of_le_ne hle2 hne)
    · rw [if_neg hk, List.append_nil]
      refine ⟨h1, fun x => ?_⟩
      rw [h2, List.mem_append]
      refine ⟨.inl, fun h => h.elim id fun h => ?_⟩
      simp at h
      subst h
      have h0 : 0 < m := by
        rcases Nat.eq_zero_or_pos m with e | e
        · subst e; simp [Go.Lib.keeps] at hk
        · exact e
      have he : zs[m] = zs[m - 1] := by
        have hg1 : zs.toArray[m - 1]! = zs[m - 1] := by simp [show m - 1 < zs.length by omega]
        by_cases e : zs[m] = zs[m - 1]
        · exact e
        · exact absurd (Go.Lib.keeps_pos (by rw [hg, hg1]; exact e)) hk
      rw [he]
      exact List.mem_iff_getElem.2 ⟨m - 1, by rw [List.length_take]; omega, List.getElem_take ..⟩
theorem compact_all_up {zs : List L} (hs : zs.Pairwise (· ≤ ·)) : (Go.Lib.compact zs).Pairwise (· < ·) ∧ ∀ x, x ∈ Go.Lib.compact zs ↔ x ∈ zs := by
  have := compact_up hs zs.length (Nat.le_refl _)
  rw [List.take_length] at this
  exact this
theorem sort_up (zs : List L) : (zs.mergeSort fun x y => decide (x ≤ y)).Pairwise (· ≤ ·) := by
  have h := List.pairwise_mergeSort (le := fun x y : L => decide (x ≤ y)) (fun a b c h1 h2 => by simp at h1 h2 ⊢; exact List.le_trans h1 h2) (fun a b => by simp; exact List.le_total a b) zs
  exact h.imp fun h => by simpa using h
/-- The names that are picked. -/
def picked (t m : L) (ns : List L) : List L := ns.filter fun s => may t s && tb (sgF t m 0) s
def pick (t m : L) (ns : List L) : List L := Go.Lib.compact ((picked t m ns).mergeSort fun x y => decide (x ≤ y))
theorem pick_up (t m : L) (ns : List L) : (pick t m ns).Pairwise (· < ·) ∧ ∀ x, x ∈ pick t m ns ↔ x ∈ picked t m ns := by
  obtain ⟨h1, h2⟩ := compact_all_up (sort_up (picked t m ns))
  exact ⟨h1, fun x => by unfold pick; rw [h2, List.mem_mergeSort]⟩
end Gl
namespace Gs
set_option maxRecDepth 100000 in
set_option maxHeartbeats 1600000 in
theorem mayPick_v (t m s : L) (w : World) (hs : s.length ≤ 100000) : Calls Try.prog 27 #[.agg #[.string (mkS t), .string (mkS m)], .string (mkS s)] w fun e w' => e = .returned (.bool (Gl.may t s)) ∧ Later w w' := by
  have HL := Lib.hid (Later.alloc w (.cells #[.string (mkS t), .string (mkS m)] 23))
  cases s with
  | nil =>
    have he : ((mkS []).toList == ([] : List UInt8)) = true := by rw [toList_mkS]; rfl
    go_enter Try.func27, Try.ntmps27
    go_wp2
    go_ret
    exact ⟨rfl, HL.out⟩
  | cons c r =>
    have he : ((mkS (c :: r)).toList == ([] : List UInt8)) = false := by rw [toList_mkS]; rfl
    have hne : ¬ (mkS (c :: r)).toList = [] := by rw [toList_mkS]; exact List.cons_ne_nil _ _
    have hsz : 0 < (mkS (c :: r)).size := by rw [mkS_size]; simp
    have hg : ∀ h, (mkS (c :: r))[0]'h = c := fun _ => rfl
    obtain ⟨s, hss⟩ : ∃ s, s = c :: r := ⟨_, rfl⟩
    rw [← hss] at he hne hsz hg hs ⊢
    have HM := Lib.hid (show Gl.may t s = (c != 46 || Gl.dot t) by rw [hss]; rfl)
    have hsz2 : (0 : Int) < ((mkS s).size : Int) := by omega
    have hHP := fun W => Try.strings_HasPrefix (mkS t) ⟨#[46]⟩ W
    have hpre : Lib.hasPrefix (mkS t).data.toList (⟨#[46]⟩ : ByteArray).data.toList = Gl.dot t := by
      rw [mkS_list]
      cases t with
      | nil => rfl
      | cons b t =>
        show (46 == b && true) = (b == 46)
        rw [Bool.and_true, Bool.eq_iff_iff, beq_iff_eq, beq_iff_eq]
        exact ⟨fun h => h.symm, fun h => h.symm⟩
    rw [hpre] at hHP
    have HHP := Lib.hid hHP
    clear hss hHP hpre
    by_cases hc : c = 46
    · have hb := byt_eq 46 hc
      have hb2 : (c.toNat : Int) = 46 := by rw [hc]; rfl
      go_enter Try.func27, Try.ntmps27
      go_wp2_with (first
        | (go_at_call 38; (with_reducible refine (HHP.out _).mono ?_); rintro e w2 ⟨rfl, rfl⟩))
      go_ret
      exact ⟨ret_bool (by rw [HM.out, hc]; rfl), HL.out⟩
    · have hb := byt_ne 46 hc
      have hb2 : ¬ (c.toNat : Int) = 46 := by simpa using hb
      go_enter Try.func27, Try.ntmps27
      go_wp2_with (first
        | (go_at_call 38; (with_reducible refine (HHP.out _).mono ?_); rintro e w2 ⟨rfl, rfl⟩))
      go_ret
      exact ⟨ret_bool (by rw [HM.out]; simp [hc]), HL.out⟩
end Gs
end Go.Proofs.Ytjjkeajgcdminaa
