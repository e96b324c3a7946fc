/- The row of a sign. No premises. -/
import Derived.Test.YtcidklbeafjmoaaGreatDoorAf
namespace Go.Proofs.YtcidklbeafjmoaaGreatDoor
open Go.RowKit Go.Maps
namespace Ar
def idxI (l : List L) (t : L) : Int := match l.findIdx? (· == t) with
  | some i => i
  | none => -1
theorem idx_at {l : List L} {t : L} {k : Nat} (hk : k < l.length) (h1 : ∀ j (h : j < k), (l[j]'(by omega) == t) = false) (h2 : (l[k] == t) = true) : idxI l t = k := by
  have : l.findIdx? (· == t) = some k := by
    rw [List.findIdx?_eq_some_iff_getElem]
    exact ⟨hk, h2, fun j hj => by rw [h1 j hj]; simp⟩
  unfold idxI
  rw [this]
theorem idx_none {l : List L} {t : L} (h1 : ∀ j (h : j < l.length), (l[j] == t) = false) : idxI l t = -1 := by
  have : l.findIdx? (· == t) = none := by
    rw [List.findIdx?_eq_none_iff]
    intro x hx
    obtain ⟨j, hj, rfl⟩ := List.mem_iff_getElem.1 hx
    exact h1 j hj
  unfold idxI
  rw [this]
set_option maxHeartbeats 1600000 in
set_option maxRecDepth 100000 in
theorem index_v (W : World) (ad : Addr) (l : List L) (c : Nat) (hl : l.length ≤ 1000) (h : ∀ j : Nat, j < l.length → W.cell? (ad.add j) = some (.string (mkS (l.getD j [])))) (t : L) : Calls Tryz.prog 92 #[.slice (some ad) l.length c, .string (mkS t)] W fun e W' => e = .returned (.int .i64 (idxI l t)) ∧ W' = W := by
  obtain ⟨n, hn⟩ : ∃ n, n = l.length := ⟨_, rfl⟩
  rw [← hn] at hl h ⊢
  have HN := Lib.hid hn
  have HH := Lib.hid h
  clear hn h
  go_enter Tryz.func92, Tryz.ntmps92
  go_wp2
  go_loopw [8] (fun i wr => ∃ k : Nat, k ≤ n ∧ i = .int .i64 (k : Int) ∧ wr = W ∧ ∀ j : Nat, j < k → (l.getD j [] == t) = false) (fun i _ => n - (intOf i).toNat)
  case atStart => exact ⟨0, by omega, rfl, rfl, fun j hj => by omega⟩
  case round =>
    obtain ⟨k, hk, rfl, rfl, hj⟩ := hrel
    have HJ := Lib.hid hj
    clear hj
    by_cases hkn : k < n
    · have hk0 : (0 : Int) ≤ (k : Int) := by omega
      have hk1 : (k : Int) < (n : Int) := by omega
      have hlk : k < l.length := by have := HN.out; omega
      have hcell := HH.out k hkn
      obtain ⟨y, hy⟩ : ∃ y, y = l.getD k [] := ⟨_, rfl⟩
      rw [← hy] at hcell
      have hgl : l[k] = y := by rw [hy, List.getD_eq_getElem?_getD, List.getElem?_eq_getElem hlk]; rfl
      have HY := Lib.hid hy
      by_cases hyt : y = t
      · have he : ((mkS t).toList == (mkS y).toList) = true := by rw [hyt]; exact beq_self_eq_true _
        have HR := Lib.hid (show idxI l t = k from idx_at hlk (fun j h => by have := HJ.out j h; rw [List.getD_eq_getElem?_getD, List.getElem?_eq_getElem (by omega)] at this; exact this) (by rw [hgl, hyt]; exact beq_self_eq_true _))
        clear hgl hy hyt
        go_wp2
        go_ret
        rw [HR.out]
        exact ⟨rfl, rfl⟩
      · have he : ((mkS t).toList == (mkS y).toList) = false := by rw [toList_mkS, toList_mkS]; exact beq_eq_false_iff_ne.2 (fun e => hyt e.symm)
        have hw : wrap64 ((k : Int) + 1) = (k : Int) + 1 := w64 _ (by omega)
        have HA := Lib.hid (show ∀ j : Nat, j < k + 1 → (l.getD j [] == t) = false from fun j hj => by
          rcases Nat.lt_succ_iff_lt_or_eq.1 hj with h1 | h1
          · exact HJ.out j h1
          · rw [h1, ← hy]; exact beq_eq_false_iff_ne.2 hyt)
        clear hgl hy hyt
        go_wp2
        go_roundw
        case rel => exact ⟨k + 1, by omega, by go_num, trivial, HA.out⟩
        case measure => simp [intOf]; omega
    · have HR := Lib.hid (show idxI l t = -1 from idx_none fun j h => by have := HJ.out j (by have := HN.out; omega); rw [List.getD_eq_getElem?_getD, List.getElem?_eq_getElem h] at this; exact this)
      have hkk : ¬ ((k : Int) < (n : Int)) := by omega
      clear hkn
      go_wp2
      go_ret
      rw [HR.out]
      exact ⟨rfl, rfl⟩
theorem idx_has (l : List L) (t : L) : decide (0 ≤ idxI l t) = l.contains t := by
  unfold idxI
  cases h : l.findIdx? (· == t) with
  | none =>
    rw [List.findIdx?_eq_none_iff] at h
    have : l.contains t = false := by
      rw [← Bool.not_eq_true, List.contains_iff_mem]
      intro hm
      have := h t hm
      simp at this
    rw [this]
    rfl
  | some i =>
    rw [List.findIdx?_eq_some_iff_getElem] at h
    obtain ⟨h1, h2, _⟩ := h
    have : l.contains t = true := by
      rw [List.contains_iff_mem]
      rw [← eq_of_beq h2]
      exact List.getElem_mem _
    rw [this]
    simp
theorem contains_v (W : World) (ad : Addr) (l : List L) (c : Nat) (hl : l.length ≤ 1000) (h : ∀ j : Nat, j < l.length → W.cell? (ad.add j) = some (.string (mkS (l.getD j [])))) (t : L) : Calls Tryz.prog 79 #[.slice (some ad) l.length c, .string (mkS t)] W fun e W' => e = .returned (.bool (l.contains t)) ∧ W' = W := by
  have HI := Lib.hid (index_v W ad l c hl h t)
  have HR := Lib.hid (idx_has l t)
  obtain ⟨n, hn⟩ : ∃ n, n = l.length := ⟨_, rfl⟩
  rw [← hn] at HI ⊢
  obtain ⟨i, hi⟩ : ∃ i, i = idxI l t := ⟨_, rfl⟩
  rw [← hi] at HI HR
  clear hl h hn hi
  go_enter Tryz.func79, Tryz.ntmps79
  go_wp2_with (go_at_call 92; (with_reducible refine HI.out.mono ?_); rintro e w1 ⟨rfl, rfl⟩)
  go_ret
  exact ⟨ret_bool HR.out, rfl⟩
theorem rows_small (i : Nat) (hi : i < 10) : (rows.getD i []).length ≤ 1000 := by
  have hkk : i = 0 ∨ i = 1 ∨ i = 2 ∨ i = 3 ∨ i = 4 ∨ i = 5 ∨ i = 6 ∨ i = 7 ∨ i = 8 ∨ i = 9 := by omega
  clear hi
  rcases hkk with rfl | rfl | rfl | rfl | rfl | rfl | rfl | rfl | rfl | rfl
  all_goals decide
/-- The table of rows as a value. -/
def rowsV (ad : Nat → Addr) (cp : Nat → Nat) : List Value := (List.range 10).map fun i => .slice (some (ad i)) (rows.getD i []).length (cp i)
set_option maxRecDepth 100000 in
theorem rows_index (ad : Nat → Addr) (cp : Nat → Nat) (k : Nat) (hk : k < 10) (w : World) : (Instr.index 82 (.agg (rowsV ad cp).toArray) (.int .i64 (k : Int))).run Tryz.prog w = .ok (.slice (some (ad k)) (rows.getD k []).length (cp k)) w := by
  have hkk : k = 0 ∨ k = 1 ∨ k = 2 ∨ k = 3 ∨ k = 4 ∨ k = 5 ∨ k = 6 ∨ k = 7 ∨ k = 8 ∨ k = 9 := by omega
  clear hk
  rcases hkk with rfl | rfl | rfl | rfl | rfl | rfl | rfl | rfl | rfl | rfl
  all_goals rfl
theorem row_at {t : L} {k : Nat} (hk : k < 10) (h1 : ∀ j : Nat, j < k → (rows.getD j []).contains t = false) (h2 : (rows.getD k []).contains t = true) : rowOf t = k := by
  have hd : ∀ j, j < 10 → ∀ h : j < rows.length, rows.getD j [] = rows[j] := fun j _ h => by rw [List.getD_eq_getElem?_getD, List.getElem?_eq_getElem h]; rfl
  have : rows.findIdx? (·.contains t) = some k := by
    rw [List.findIdx?_eq_some_iff_getElem]
    have hkl : k < rows.length := hk
    refine ⟨hkl, by rw [← hd k hk]; exact h2, fun j hj => by rw [← hd j (by omega), h1 j hj]; simp⟩
  unfold rowOf
  rw [this]
theorem row_no {t : L} (h1 : ∀ j : Nat, j < 10 → (rows.getD j []).contains t = false) : rowOf t = -1 := by
  have : rows.findIdx? (·.contains t) = none := by
    rw [List.findIdx?_eq_none_iff]
    intro x hx
    obtain ⟨j, hj, rfl⟩ := List.mem_iff_getElem.1 hx
    have := h1 j hj
    rw [List.getD_eq_getElem?_getD, List.getElem?_eq_getElem hj] at this
    exact this
  unfold rowOf
  rw [this]
set_option maxHeartbeats 1600000 in
set_option maxRecDepth 100000 in
theorem rowOf_v {W : World} {g : Nat} (h : Tb W g) (t : L) : Calls Tryz.prog 65 #[.string (mkS t)] W fun e W' => e = .returned (.int .i64 (rowOf t)) ∧ W' = W := by
  obtain ⟨_, _, _, ad, cp, hr⟩ := h
  have HO := Lib.hid (show (Instr.loadAt 82 (.pointer (some ⟨1, 0, none⟩))).run Tryz.prog W = .ok (.agg (rowsV ad cp).toArray) W by
    refine run_loadAt_mid (P := Tryz.prog) W 1 0 82 (rowsV ad cp) _ (fun j u hu => ?_) Tryz.underlying82 rfl (by kernel_rfl)
    have hj : j < 10 := (List.getElem?_eq_some_iff.1 hu).1
    rw [Nat.zero_add, (hr j hj).2.1]
    unfold rowsV at hu
    rw [List.getElem?_map, List.getElem?_range hj] at hu
    exact hu)
  have HC := Lib.hid (fun k (hk : k < 10) => contains_v W (ad k) (rows.getD k []) (cp k) (rows_small k hk) (hr k hk).2.2 t)
  have HX := Lib.hid (rows_index ad cp)
  obtain ⟨rv, hrv⟩ : ∃ rv, rv = (rowsV ad cp).toArray := ⟨_, rfl⟩
  rw [← hrv] at HO HX
  clear hr hrv
  go_enter Tryz.func65, Tryz.ntmps65
  go_wp2_with (refine wpList_loadRun rfl 82 (.global 1) rfl _ _ rfl HO.out ?_)
  go_loopw [6] (fun i wr => ∃ k : Nat, k ≤ 10 ∧ i = .int .i64 (k : Int) ∧ wr = W ∧ ∀ j : Nat, j < k → (rows.getD j []).contains t = false) (fun i _ => 10 - (intOf i).toNat)
  case atStart => exact ⟨0, by omega, rfl, rfl, fun j hj => by omega⟩
  case round =>
    obtain ⟨k, hk, rfl, rfl, hj⟩ := hrel
    have HJ := Lib.hid hj
    clear hj
    by_cases hk9 : k < 10
    · have hk1 : (k : Int) < 10 := by omega
      have hix := HX.out k hk9
      have hcc := HC.out k hk9
      obtain ⟨rl, hrl⟩ : ∃ rl, rl = rows.getD k [] := ⟨_, rfl⟩
      rw [← hrl] at hix hcc
      have HRL := Lib.hid hrl
      obtain ⟨rn, hrn⟩ : ∃ rn, rn = rl.length := ⟨_, rfl⟩
      rw [← hrn] at hix hcc
      have HIX := Lib.hid hix
      cases ha : rl.contains t with
      | true =>
        rw [ha] at hcc
        have HCC := Lib.hid hcc
        have HR := Lib.hid (row_at hk9 HJ.out (by rw [← hrl]; exact ha))
        clear ha hrl hix hcc hrn hk9
        go_wp2_with (first
          | (refine wpList_index rfl (.tmp 5) (.tmp 6) rfl rfl rfl (.slice (some (ad k)) rn (cp k)) (HIX.out _) ?_)
          | (go_at_call 79; (with_reducible refine HCC.out.mono ?_); rintro e w1 ⟨rfl, rfl⟩))
        go_ret
        rw [HR.out]
        exact ⟨rfl, rfl⟩
      | false =>
        rw [ha] at hcc
        have HCC := Lib.hid hcc
        have hw : wrap64 ((k : Int) + 1) = (k : Int) + 1 := w64 _ (by omega)
        have HA := Lib.hid (show ∀ j : Nat, j < k + 1 → (rows.getD j []).contains t = false from fun j hj => by
          rcases Nat.lt_succ_iff_lt_or_eq.1 hj with h1 | h1
          · exact HJ.out j h1
          · rw [h1, ← hrl]; exact ha)
        clear ha hrl hix hcc hrn
        go_wp2_with (first
          | (refine wpList_index rfl (.tmp 5) (.tmp 6) rfl rfl rfl (.slice (some (ad k)) rn (cp k)) (HIX.out _) ?_)
          | (go_at_call 79; (with_reducible refine HCC.out.mono ?_); rintro e w1 ⟨rfl, rfl⟩))
        go_roundw
        case rel => exact ⟨k + 1, by omega, by go_num, trivial, HA.out⟩
        case measure => simp [intOf]; omega
    · have HR := Lib.hid (row_no fun j hj => HJ.out j (by omega))
      have hkk : ¬ ((k : Int) < 10) := by omega
      clear hk9
      go_wp2
      go_ret
      rw [HR.out]
      exact ⟨rfl, rfl⟩
end Ar
end Go.Proofs.YtcidklbeafjmoaaGreatDoor
