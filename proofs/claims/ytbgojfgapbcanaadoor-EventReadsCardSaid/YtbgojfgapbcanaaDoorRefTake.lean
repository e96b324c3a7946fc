/- The document's Take: what it tells of any text. -/
import Derived.Test.YtbgojfgapbcanaaDoorRef
namespace Go.Proofs.YtbgojfgapbcanaaDoor
open Go.RowKit
theorem val_tail_le (b : List UInt8) (j m : Nat) (h : j ≤ m) : val ((b.drop j).take (m - j)) ≤ val (b.take m) := by
  have e : b.take m = b.take j ++ (b.drop j).take (m - j) := by
    have := List.take_append_drop j (b.take m)
    rw [List.take_take, Nat.min_eq_left h, List.drop_take] at this
    exact this.symm
  rw [e, val_append]
  have : 1 ≤ 128 ^ (b.take j).length := Nat.pos_of_ne_zero (by have := Nat.pow_pos (n := (b.take j).length) (show 0 < 128 by omega); omega)
  have := Nat.mul_le_mul_right (val ((b.drop j).take (m - j))) this
  omega
theorem val_step (b : List UInt8) (j k : Nat) (hj : j ≤ k) (h : k < b.length) : 128 * val ((b.drop (j + 1)).take (k - j)) + (b[j]'(by omega)).toNat % 128 = val ((b.drop j).take (k + 1 - j)) := by
  have := val_cons_drop b j (k - j) (by omega)
  rw [show k - j + 1 = k + 1 - j by omega] at this
  omega
def rel2 (bs : List UInt8) (k : Nat) (x i : Value) : Prop :=
  (∃ j : Nat, i = .int .i64 (j : Int) ∧ j ≤ k ∧ x = .int .u64 (val ((bs.drop (j + 1)).take (k - j)) : Int)) ∨ (i = .int .i64 (-1) ∧ x = .int .u64 (val (bs.take (k + 1)) : Int))
theorem rel2_start (bs : List UInt8) (k : Nat) : rel2 bs k (.int .u64 0) (.int .i64 (k : Int)) := .inl ⟨k, rfl, Nat.le_refl _, by simp [val]⟩
theorem rel2_step (bs : List UInt8) (j k : Nat) (hj : j ≤ k) (h : k < bs.length) (y : Int) (hy : y = (128 * val ((bs.drop (j + 1)).take (k - j)) + (bs[j]'(by omega)).toNat % 128 : Nat)) : rel2 bs k (.int .u64 y) (.int .i64 ((j : Int) - 1)) := by
  rw [val_step bs j k hj h] at hy
  subst hy
  cases j with
  | zero => exact .inr ⟨by simp, by simp⟩
  | succ j => exact .inl ⟨j, by go_num, by omega, by rw [show k + 1 - (j + 1) = k - j by omega]⟩
theorem val_wrap (bs : List UInt8) (j k : Nat) (hj : j ≤ k) (h : k < bs.length) (hv : val (bs.take (k + 1)) < 18446744073709551616) (c : Nat) (hc : c = (bs[j]'(by omega)).toNat) :
    IntKind.u64.wrap (128 * (val ((bs.drop (j + 1)).take (k - j)) : Int)) = 128 * (val ((bs.drop (j + 1)).take (k - j)) : Int) ∧
    IntKind.u64.wrap (128 * (val ((bs.drop (j + 1)).take (k - j)) : Int) + (c : Int) % 128) = ((128 * val ((bs.drop (j + 1)).take (k - j)) + (bs[j]'(by omega)).toNat % 128 : Nat) : Int) := by
  have h1 := val_tail_le bs j (k + 1) (by omega)
  have h2 := val_step bs j k hj h
  rw [← hc] at h2 ⊢
  rw [IntKind.wrap_u64, IntKind.wrap_u64]
  omega
set_option maxRecDepth 100000 in
set_option maxHeartbeats 800000 in
theorem refTake_v (s : ByteArray) (w : World) (hn : s.size ≤ 140737488351232) :
    Calls Tryd.prog 57 #[.string s] w fun e w' => e = .returned (.tuple #[.int .u64 ((takeM s.data.toList).1 : Int), .int .i64 ((takeM s.data.toList).2.1 : Int), .int .i64 ((takeM s.data.toList).2.2 : Int)]) ∧ w = w' := by
  have hh : heads s.data.toList ≤ 10 ∧ heads s.data.toList ≤ s.size := heads_le s.data.toList
  obtain ⟨m, hm⟩ : ∃ m, m = heads s.data.toList := ⟨_, rfl⟩
  rw [← hm] at hh
  have HM := Lib.hid hm
  clear hm
  go_enter Tryd.func57, Tryd.ntmps57
  go_wp2
  go_loop [5] (fun i => ∃ k : Nat, k ≤ m ∧ i = .int .i64 (k : Int)) (fun i => 10 - (intOf i).toNat)
  case atStart => exact ⟨0, by omega, rfl⟩
  case round =>
    obtain ⟨k, hk, rfl⟩ := hrel
    by_cases hks : k < s.size
    · by_cases hk10 : k < 10
      · have hat := Lib.hid (heads_at s.data.toList k hks hk10 (by rw [← HM.out]; exact hk))
        by_cases h128 : 128 ≤ s[k].toNat
        · have hk1 : Hid (k + 1 ≤ m) := by rw [HM.out]; exact hat.out.1 (by rw [sget s k hks]; exact h128)
          have h128' : (128 : Int) ≤ (s[k].toNat : Int) := by omega
          go_wp2
          go_round
          case rel => exact ⟨k + 1, hk1.out, by go_num⟩
          case measure => simp [intOf]; omega
        · have hmk : Hid (m = k) := by rw [HM.out]; exact hat.out.2 (by rw [sget s k hks]; omega)
          have h128' : ¬ (128 : Int) ≤ (s[k].toNat : Int) := by omega
          clear hat
          have hhk : Hid (heads s.data.toList = k) := by have := hmk.out; have := HM.out; show heads s.data.toList = k; omega
          by_cases hmb : mayB s[k].toNat k = true
          · obtain ⟨ht, hlt⟩ := takeM_yes s.data.toList k hks hk10 hhk.out (by rw [sget s k hks]; exact hmb)
            have HT := Lib.hid ht
            have HLT := Lib.hid hlt
            clear ht hlt
            simp only [mayB, decide_eq_true_eq] at hmb
            have hcs : k = 0 ∨ (0 < k ∧ k < 9 ∧ 0 < s[k].toNat) ∨ (k = 9 ∧ s[k].toNat = 1) := by omega
            clear hmb
            rcases hcs with h0 | ⟨h0, h9, hp⟩ | ⟨h9, h1⟩
            · subst h0
              go_wp2
              go_loop [6, 7] (fun x i => rel2 s.data.toList 0 x i) (fun _ i => (intOf i + 1).toNat)
              case atStart => exact rel2_start _ 0
              case round =>
                rcases hrel with ⟨j, rfl, hj, rfl⟩ | ⟨rfl, rfl⟩
                · have hjs : j < s.size := by omega
                  have hwr := val_wrap s.data.toList j 0 hj hks HLT.out s[j].toNat (by rw [sget s j hjs])
                  have hjr := Lib.hid (rel2_step s.data.toList j 0 hj hks)
                  obtain ⟨X, hX⟩ : ∃ X, X = val ((s.data.toList.drop (j + 1)).take (0 - j)) := ⟨_, rfl⟩
                  obtain ⟨Y, hY⟩ : ∃ Y, Y = 128 * val ((s.data.toList.drop (j + 1)).take (0 - j)) + (s.data.toList[j]'hjs).toNat % 128 := ⟨_, rfl⟩
                  rw [← hY, ← hX] at hwr
                  rw [← hY] at hjr
                  rw [← hX]
                  obtain ⟨hw1, hw2⟩ := hwr
                  have HXX := Lib.hid hX
                  have HYY := Lib.hid hY
                  clear hX hY
                  have h256 : s[j].toNat < 256 := UInt8.toNat_lt _
                  go_wp2
                  go_round
                  case rel => exact hjr.out _ rfl
                  case measure => simp [intOf] <;> omega
                · go_wp2
                  go_ret3
                  exact ⟨take_ret _ _ _ _ _ _ (by rw [HT.out]) (by rw [HT.out]; simp) (by rw [HT.out]; rfl), rfl⟩
            · have hne : ((s[k].toNat : Int) == 0) = false := by simp; omega
              go_wp2
              go_loop [6, 7] (fun x i => rel2 s.data.toList k x i) (fun _ i => (intOf i + 1).toNat)
              case atStart => exact rel2_start _ k
              case round =>
                rcases hrel with ⟨j, rfl, hj, rfl⟩ | ⟨rfl, rfl⟩
                · have hjs : j < s.size := by omega
                  have hwr := val_wrap s.data.toList j k hj hks HLT.out s[j].toNat (by rw [sget s j hjs])
                  have hjr := Lib.hid (rel2_step s.data.toList j k hj hks)
                  obtain ⟨X, hX⟩ : ∃ X, X = val ((s.data.toList.drop (j + 1)).take (k - j)) := ⟨_, rfl⟩
                  obtain ⟨Y, hY⟩ : ∃ Y, Y = 128 * val ((s.data.toList.drop (j + 1)).take (k - j)) + (s.data.toList[j]'hjs).toNat % 128 := ⟨_, rfl⟩
                  rw [← hY, ← hX] at hwr
                  rw [← hY] at hjr
                  rw [← hX]
                  obtain ⟨hw1, hw2⟩ := hwr
                  have HXX := Lib.hid hX
                  have HYY := Lib.hid hY
                  clear hX hY
                  have h256 : s[j].toNat < 256 := UInt8.toNat_lt _
                  go_wp2
                  go_round
                  case rel => exact hjr.out _ rfl
                  case measure => simp [intOf] <;> omega
                · go_wp2
                  go_ret3
                  exact ⟨take_ret _ _ _ _ _ _ (by rw [HT.out]) (by rw [HT.out]; simp) (by rw [HT.out]; rfl), rfl⟩
            · subst h9
              have hne : ((s[9].toNat : Int) == 0) = false := by simp; omega
              have hne1 : ¬ (1 : Int) < (s[9].toNat : Int) := by omega
              have H1 := Lib.hid h1
              clear h1
              go_wp2
              go_loop [6, 7] (fun x i => rel2 s.data.toList 9 x i) (fun _ i => (intOf i + 1).toNat)
              case atStart => exact rel2_start _ 9
              case round =>
                rcases hrel with ⟨j, rfl, hj, rfl⟩ | ⟨rfl, rfl⟩
                · have hjs : j < s.size := by omega
                  have hwr := val_wrap s.data.toList j 9 hj hks HLT.out s[j].toNat (by rw [sget s j hjs])
                  have hjr := Lib.hid (rel2_step s.data.toList j 9 hj hks)
                  obtain ⟨X, hX⟩ : ∃ X, X = val ((s.data.toList.drop (j + 1)).take (9 - j)) := ⟨_, rfl⟩
                  obtain ⟨Y, hY⟩ : ∃ Y, Y = 128 * val ((s.data.toList.drop (j + 1)).take (9 - j)) + (s.data.toList[j]'hjs).toNat % 128 := ⟨_, rfl⟩
                  rw [← hY, ← hX] at hwr
                  rw [← hY] at hjr
                  rw [← hX]
                  obtain ⟨hw1, hw2⟩ := hwr
                  have HXX := Lib.hid hX
                  have HYY := Lib.hid hY
                  clear hX hY
                  have h256 : s[j].toNat < 256 := UInt8.toNat_lt _
                  go_wp2
                  go_round
                  case rel => exact hjr.out _ rfl
                  case measure => simp [intOf] <;> omega
                · go_wp2
                  go_ret3
                  exact ⟨take_ret _ _ _ _ _ _ (by rw [HT.out]) (by rw [HT.out]; simp) (by rw [HT.out]; rfl), rfl⟩
          · have hmb' : mayB s[k].toNat k = false := by simpa using hmb
            have HT := Lib.hid (takeM_no s.data.toList k hks hk10 hhk.out (by rw [sget s k hks]; exact hmb'))
            simp only [mayB, decide_eq_true_eq] at hmb
            clear hmb'
            have hcs : (0 < k ∧ s[k].toNat = 0) ∨ (k = 9 ∧ 1 < s[k].toNat) := by omega
            clear hmb
            rcases hcs with ⟨h0, hp⟩ | ⟨h9, h1⟩
            · have hne : ((s[k].toNat : Int) == 0) = true := by simp; omega
              have HP := Lib.hid hp
              clear hp h128 
              go_wp2
              go_ret3
              exact ⟨take_ret _ _ _ _ _ _ (by rw [HT.out]; rfl) (by rw [HT.out]; rfl) (by rw [HT.out]; rfl), rfl⟩
            · subst h9
              have hne : ((s[9].toNat : Int) == 0) = false := by simp; omega
              have hne1 : (1 : Int) < (s[9].toNat : Int) := by omega
              go_wp2
              go_ret3
              exact ⟨take_ret _ _ _ _ _ _ (by rw [HT.out]; rfl) (by rw [HT.out]; rfl) (by rw [HT.out]; rfl), rfl⟩
      · have hk10' : k = 10 := by omega
        subst hk10'
        have HT : Hid (takeM s.data.toList = (0, 0, 11)) := by
          unfold takeM; have := HM.out; show (if _ then _ else _) = _; rw [if_pos (by omega)]
        go_wp2
        go_ret3
        exact ⟨take_ret _ _ _ _ _ _ (by rw [HT.out]; rfl) (by rw [HT.out]; rfl) (by rw [HT.out]; rfl), rfl⟩
    · have hks' : m = k ∧ k = s.size := by omega
      by_cases hk10 : k = 10
      · have HT : Hid (takeM s.data.toList = (0, 0, 11)) := by
          unfold takeM; have := HM.out; show (if _ then _ else _) = _; rw [if_pos (by omega)]
        have HK := Lib.hid hks'.2
        subst hk10
        clear hks'
        go_wp2
        go_ret3
        exact ⟨take_ret _ _ _ _ _ _ (by rw [HT.out]; rfl) (by rw [HT.out]; rfl) (by rw [HT.out]; rfl), rfl⟩
      · have HT : Hid (takeM s.data.toList = (0, 0, 10)) := by
          unfold takeM; have := HM.out; have e := size_toList s; show (if _ then _ else _) = _; rw [if_neg (by omega), if_pos (by omega)]
        have hk10' : ((k : Int) == 10) = false := by simp; omega
        obtain ⟨_, hks'⟩ := hks'
        subst hks'
        go_wp2
        go_ret3
        exact ⟨take_ret _ _ _ _ _ _ (by rw [HT.out]; rfl) (by rw [HT.out]; rfl) (by rw [HT.out]; rfl), rfl⟩
end Go.Proofs.YtbgojfgapbcanaaDoor
