/- Whether two rows of texts, two requests, two answers are the same: the program's and the document's. -/
import Derived.Test.YtbgojfgapbcanaaDoorEvK
import Derived.RegionTactic
namespace Go.Proofs.YtbgojfgapbcanaaDoor
open Go.RowKit
/-- A text as a cell. -/
def sv (t : List UInt8) : Value := .string (mkS t)
theorem mkS_inj {a b : List UInt8} : (mkS a).toList = (mkS b).toList ↔ a = b := by
  rw [ByteArray.toList_eq, ByteArray.toList_eq, mkS_list, mkS_list]
theorem mkS_ne {a b : List UInt8} (h : a ≠ b) : ((mkS a).toList == (mkS b).toList) = false := by
  rw [beq_eq_false_iff_ne]; exact fun e => h (mkS_inj.1 e)
theorem take_next {α : Type} {l m : List α} {k : Nat} (hl : k < l.length) (hm : k < m.length) (h : l.take k = m.take k) (e : l[k] = m[k]) : l.take (k + 1) = m.take (k + 1) := by
  rw [List.take_succ_eq_append_getElem hl, List.take_succ_eq_append_getElem hm, h, e]
set_option maxRecDepth 100000 in
theorem equal_v (A A' : Option Addr) (n n' c c' B B' : Nat) (l l' : List (List UInt8)) (w : World) (hr : Rd w B A n (l.map sv)) (hr' : Rd w B' A' n' (l'.map sv)) (hB : B ≤ w.heap.size) (hB' : B' ≤ w.heap.size) (hn : n ≤ maxLen) (hn' : n' ≤ maxLen) :
    Calls Tryd.prog 29 #[.slice A n c, .slice A' n' c'] w fun e w' => e = .returned (.bool (decide (l = l'))) ∧ Below w.heap.size w w' := by
  have hl := hr.len_map
  have hl' := hr'.len_map
  unfold maxLen at hn hn'
  by_cases hnn : n = n'
  · subst hnn
    have HL := Lib.hid hl
    have HL' := Lib.hid hl'
    have HR := Lib.hid hr
    have HR' := Lib.hid hr'
    clear hr hr' hl hl'
    go_enter Tryd.func29, Tryd.ntmps29
    go_wp2
    go_loopw [13] (fun i wr => ∃ k : Nat, k ≤ n ∧ i = .int .i64 (k : Int) ∧ l.take k = l'.take k ∧ Below w.heap.size w wr) (fun i _ => n - (intOf i).toNat)
    case atStart => exact ⟨0, by omega, rfl, rfl, Below.refl _ _⟩
    case round =>
      obtain ⟨k, hk, rfl, hs, hb⟩ := hrel
      have HS := Lib.hid hs
      clear hs
      by_cases hlt : k < n
      · obtain ⟨ad, hl1, rfl, _, hc⟩ := (HR.out.below (hb.mono hB)).at_map (k := k) hlt
        obtain ⟨ad', hl2, rfl, _, hc'⟩ := (HR'.out.below (hb.mono hB')).at_map (k := k) hlt
        have hc1 : wr.cell? (ad.add k) = some (.string (mkS l[k])) := hc
        have hc2 : wr.cell? (ad'.add k) = some (.string (mkS l'[k])) := hc'
        clear hc hc'
        by_cases he : l[k] = l'[k]
        · rw [← he] at hc2
          have HE := Lib.hid he
          clear he
          go_wp2
          go_region
          all_goals
            go_wp2
            go_roundw
            case rel => exact ⟨k + 1, by omega, by go_num, take_next hl1 hl2 HS.out HE.out, hb.drew⟩
            case measure => simp [intOf]; omega
        · have hne := mkS_ne he
          have hd : decide (l = l') = false := decide_eq_false fun e => he (by subst e; rfl)
          have HD := Lib.hid hd
          clear hd
          go_wp2
          go_region
          all_goals
            go_wp2
            go_ret
            exact ⟨ret_bool HD.out.symm, hb.drew⟩
      · have hd : decide (l = l') = true := decide_eq_true (by
          have := HS.out
          rwa [List.take_of_length_le (by have := HL.out; omega), List.take_of_length_le (by have := HL'.out; omega)] at this)
        have HD := Lib.hid hd
        clear hd
        go_wp2
        go_ret
        exact ⟨ret_bool HD.out.symm, hb⟩
  · have hd : decide (l = l') = false := decide_eq_false fun e => hnn (by rw [← hl, ← hl', e])
    have hne : ((n : Int) != (n' : Int)) = true := by simp; omega
    rw [hd]
    clear hd hl hl' hr hr'
    go_enter Tryd.func29, Tryd.ntmps29
    go_wp2
    go_ret
    exact ⟨rfl, Below.refl _ _⟩
set_option maxRecDepth 100000 in
theorem sameTexts_v (A A' : Option Addr) (n n' c c' B B' : Nat) (l l' : List (List UInt8)) (w : World) (hr : Rd w B A n (l.map sv)) (hr' : Rd w B' A' n' (l'.map sv)) (hB : B ≤ w.heap.size) (hB' : B' ≤ w.heap.size) (hn : n ≤ maxLen) (hn' : n' ≤ maxLen) :
    Calls Tryd.prog 30 #[.slice A n c, .slice A' n' c'] w fun e w' => e = .returned (.bool (decide (l = l'))) ∧ Below w.heap.size w w' := by
  have hl := hr.len_map
  have hl' := hr'.len_map
  unfold maxLen at hn hn'
  by_cases hnn : n = n'
  · subst hnn
    have HL := Lib.hid hl
    have HL' := Lib.hid hl'
    have HR := Lib.hid hr
    have HR' := Lib.hid hr'
    clear hr hr' hl hl'
    go_enter Tryd.func30, Tryd.ntmps30
    go_wp2
    go_loopw [5] (fun i wr => ∃ k : Nat, k ≤ n ∧ i = .int .i64 (k : Int) ∧ l.take k = l'.take k ∧ Below w.heap.size w wr) (fun i _ => n - (intOf i).toNat)
    case atStart => exact ⟨0, by omega, rfl, rfl, Below.refl _ _⟩
    case round =>
      obtain ⟨k, hk, rfl, hs, hb⟩ := hrel
      have HS := Lib.hid hs
      clear hs
      by_cases hlt : k < n
      · obtain ⟨ad, hl1, rfl, _, hc⟩ := (HR.out.below (hb.mono hB)).at_map (k := k) hlt
        obtain ⟨ad', hl2, rfl, _, hc'⟩ := (HR'.out.below (hb.mono hB')).at_map (k := k) hlt
        have hc1 : wr.cell? (ad.add k) = some (.string (mkS l[k])) := hc
        have hc2 : wr.cell? (ad'.add k) = some (.string (mkS l'[k])) := hc'
        clear hc hc'
        by_cases he : l[k] = l'[k]
        · rw [← he] at hc2
          have HE := Lib.hid he
          clear he
          go_wp2
          go_region
          all_goals
            go_wp2
            go_roundw
            case rel => exact ⟨k + 1, by omega, by go_num, take_next hl1 hl2 HS.out HE.out, hb.drew⟩
            case measure => simp [intOf]; omega
        · have hne := mkS_ne he
          have hd : decide (l = l') = false := decide_eq_false fun e => he (by subst e; rfl)
          have HD := Lib.hid hd
          clear hd
          go_wp2
          go_region
          all_goals
            go_wp2
            go_ret
            exact ⟨ret_bool HD.out.symm, hb.drew⟩
      · have hd : decide (l = l') = true := decide_eq_true (by
          have := HS.out
          rwa [List.take_of_length_le (by have := HL.out; omega), List.take_of_length_le (by have := HL'.out; omega)] at this)
        have HD := Lib.hid hd
        clear hd
        go_wp2
        go_ret
        exact ⟨ret_bool HD.out.symm, hb⟩
  · have hd : decide (l = l') = false := decide_eq_false fun e => hnn (by rw [← hl, ← hl', e])
    have hne : ((n : Int) != (n' : Int)) = true := by simp; omega
    rw [hd]
    clear hd hl hl' hr hr'
    go_enter Tryd.func30, Tryd.ntmps30
    go_wp2
    go_ret
    exact ⟨rfl, Below.refl _ _⟩
end Go.Proofs.YtbgojfgapbcanaaDoor
