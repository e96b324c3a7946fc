/- What a cell is: kind. No premises. -/
import Derived.Lib.Bytealg
import Derived.BigQuiet
import Derived.Test.YtghdimcdkjlpcaaJm
import Derived.Test.YtghdimcdkjlpcaaWm
import Derived.Test.YtghdimcdkjlpcaaJs
namespace Go.Proofs.Ytghdimcdkjlpcaa
open Go.RowKit
namespace Jo
abbrev C2 := UInt8 × UInt8
def cl (p : C2) : Value := .agg #[bv p.1, bv p.2]
def cs (z : List C2) : List Value := z.flatMap fun p => [bv p.1, bv p.2]
theorem cs_len (z : List C2) : (cs z).length = z.length * 2 := by
  unfold cs
  induction z with
  | nil => rfl
  | cons y l ih => rw [List.flatMap_cons, List.length_append, ih]; simp; omega
theorem cs_app (z : List C2) (y : C2) : cs (z ++ [y]) = cs z ++ [bv y.1, bv y.2] := by simp [cs]
theorem cs_at : ∀ (z : List C2) (j : Nat) (h : j < z.length), (cs z)[j * 2]? = some (bv z[j].1) ∧ (cs z)[j * 2 + 1]? = some (bv z[j].2)
  | [], j, h => by simp at h
  | y :: l, 0, _ => by simp [cs]
  | y :: l, j + 1, h => by
    have := cs_at l j (by simpa using h)
    have e : cs (y :: l) = [bv y.1, bv y.2] ++ cs l := rfl
    rw [e, List.getElem?_append_right (by simp; omega), List.getElem?_append_right (by simp; omega)]
    simp only [List.length_cons, List.length_nil, List.getElem_cons_succ]
    rw [show (j + 1) * 2 - (0 + 1 + 1) = j * 2 by omega, show (j + 1) * 2 + 1 - (0 + 1 + 1) = j * 2 + 1 by omega]
    exact this
/-- What a cell is: 0 plain, 1 a nothing, 2 a border, 3 a blank separator, 4 another. -/
def kindN (ifs : L) (p : C2) : Nat := if p.2 = 101 then 1 else if p.2 = 98 then 2 else if sepB ifs p = true then (if whiteB p.1 = true then 3 else 4) else 0
theorem index_neg (l : L) (c : UInt8) : (Lib.indexByte l c < 0) ↔ c ∉ l := by
  induction l with
  | nil => simp [Lib.indexByte]
  | cons a l ih =>
    have hge := Lib.indexByte_ge l c
    unfold Lib.indexByte
    by_cases h : a = c
    · subst h; simp
    · have hb : (a == c) = false := by simpa using h
      rw [hb, List.mem_cons, not_or, ← ih]
      have h2 : ¬ c = a := fun e => h e.symm
      by_cases h3 : Lib.indexByte l c = -1
      · simp [h3, h2]
      · simp [h3, h2]
        omega
theorem nat8 {c : UInt8} {n : Nat} (hn : n < 256) : c.toNat = n ↔ c = UInt8.ofNat n := by
  constructor
  · intro h; rw [← h]; simp
  · intro h; rw [h]; simp; omega
theorem eq8 (c : UInt8) (n : Nat) (hn : n < 256) : (((c.toNat : Int) == (n : Int)) = decide (c = UInt8.ofNat n)) ∧ (((c.toNat : Int) != (n : Int)) = !decide (c = UInt8.ofNat n)) := by
  have h : ((c.toNat : Int) = (n : Int)) ↔ c = UInt8.ofNat n := by rw [← nat8 hn]; omega
  constructor
  · rw [Bool.eq_iff_iff, beq_iff_eq, decide_eq_true_iff]; exact h
  · unfold bne
    congr 1
    rw [Bool.eq_iff_iff, beq_iff_eq, decide_eq_true_iff]; exact h
theorem toNat8 (c : UInt8) : (c.toNat : Int).toNat.toUInt8 = c := by simp
set_option maxRecDepth 100000 in
set_option maxHeartbeats 1600000 in
theorem kind_v (ifs : L) (p : C2) (w : World) : Calls Try.prog 25 #[cl p, .string (mkS ifs)] w fun e w' => e = .returned (.int .i64 (kindN ifs p : Int)) ∧ Later w w' := by
  obtain ⟨c, m⟩ := p
  unfold cl kindN
  simp only [bv]
  have hl := Later.alloc w (.cells #[.int .u8 (c.toNat : Int), .int .u8 (m.toNat : Int)] 51)
  have h101 : ((m.toNat : Int) == 101) = decide (m = 101) := (eq8 m 101 (by decide)).1
  have h98 : ((m.toNat : Int) == 98) = decide (m = 98) := (eq8 m 98 (by decide)).1
  have h115 : ((m.toNat : Int) != 115) = !decide (m = 115) := (eq8 m 115 (by decide)).2
  have HI := Lib.hid (fun W => Try.strings_IndexByte (mkS ifs) (c.toNat : Int) W)
  have HJ := Lib.hid (fun W => Try.strings_IndexByte ⟨#[32, 9, 10]⟩ (c.toNat : Int) W)
  by_cases e1 : m = 101
  · have f1 : ((m.toNat : Int) == 101) = true := by rw [h101]; simpa using e1
    rw [if_pos e1]
    clear h101 h98 h115 e1
    go_enter Try.func25, Try.ntmps25
    go_wp2
    go_ret
    exact ⟨rfl, hl⟩
  have f1 : ((m.toNat : Int) == 101) = false := by rw [h101]; simpa using e1
  rw [if_neg e1]
  by_cases e2 : m = 98
  · have f2 : ((m.toNat : Int) == 98) = true := by rw [h98]; simpa using e2
    rw [if_pos e2]
    clear h101 h98 h115 e1 e2
    go_enter Try.func25, Try.ntmps25
    go_wp2
    go_ret
    exact ⟨rfl, hl⟩
  have f2 : ((m.toNat : Int) == 98) = false := by rw [h98]; simpa using e2
  rw [if_neg e2]
  by_cases e3 : m = 115
  · have f3 : ((m.toNat : Int) != 115) = false := by rw [h115]; simp [e3]
    have hs : sepB ifs (c, m) = ifs.contains c := by simp [sepB, e3]
    rw [hs]
    clear h101 h98 h115 e1 e2 e3 hs
    have g1 : Lib.indexByte (mkS ifs).data.toList ((c.toNat : Int).toNat.toUInt8) < 0 ↔ c ∉ ifs := by rw [mkS_list, toNat8, index_neg]
    have g2 : Lib.indexByte [32, 9, 10] ((c.toNat : Int).toNat.toUInt8) < 0 ↔ c ∉ [32, 9, 10] := by rw [toNat8, index_neg]
    obtain ⟨z, hz⟩ : ∃ z, z = Lib.indexByte (mkS ifs).data.toList ((c.toNat : Int).toNat.toUInt8) := ⟨_, rfl⟩
    obtain ⟨y, hy⟩ : ∃ y, y = Lib.indexByte [32, 9, 10] ((c.toNat : Int).toNat.toUInt8) := ⟨_, rfl⟩
    rw [← hz] at g1
    rw [← hy] at g2
    have HZ := Lib.hid hz
    have HY := Lib.hid hy
    clear hz hy
    by_cases hc : c ∈ ifs
    · have k1 : ¬ z < 0 := by rw [g1]; simpa using hc
      rw [if_pos (by simpa using hc)]
      clear g1 hc
      by_cases hw : whiteB c = true
      · have k2 : 0 ≤ y := by
          have : ¬ y < 0 := by rw [g2]; unfold whiteB at hw; simp only [Bool.or_eq_true, beq_iff_eq] at hw; rcases hw with (hw | hw) | hw <;> simp [hw]
          omega
        rw [if_pos hw]
        clear hw g2
        go_enter Try.func25, Try.ntmps25
        go_wp2_with (first
          | (go_at_call 37; (with_reducible refine (HI.out _).mono ?_); rintro e w1 ⟨rfl, rfl⟩; rw [← HZ.out]; clear HI)
          | (go_at_call 37; (with_reducible refine (HJ.out _).mono ?_); rintro e w1 ⟨rfl, rfl⟩; rw [← HY.out]; clear HJ))
        go_ret
        exact ⟨rfl, hl⟩
      · have k2 : ¬ 0 ≤ y := by
          have : y < 0 := by rw [g2]; unfold whiteB at hw; simp only [Bool.or_eq_true, beq_iff_eq, not_or] at hw; simp [hw.1.1, hw.1.2, hw.2]
          omega
        rw [if_neg hw]
        clear hw g2
        go_enter Try.func25, Try.ntmps25
        go_wp2_with (first
          | (go_at_call 37; (with_reducible refine (HI.out _).mono ?_); rintro e w1 ⟨rfl, rfl⟩; rw [← HZ.out]; clear HI)
          | (go_at_call 37; (with_reducible refine (HJ.out _).mono ?_); rintro e w1 ⟨rfl, rfl⟩; rw [← HY.out]; clear HJ))
        go_ret
        exact ⟨rfl, hl⟩
    · have k1 : z < 0 := by rw [g1]; exact hc
      rw [if_neg (by simpa using hc)]
      clear g1 g2 hc HY HJ
      go_enter Try.func25, Try.ntmps25
      go_wp2_with (first
        | (go_at_call 37; (with_reducible refine (HI.out _).mono ?_); rintro e w1 ⟨rfl, rfl⟩; rw [← HZ.out]; clear HI)
        | fail)
      go_ret
      exact ⟨rfl, hl⟩
  · have f3 : ((m.toNat : Int) != 115) = true := by rw [h115]; simp [e3]
    have hs : sepB ifs (c, m) = false := by simp [sepB, e3]
    rw [hs]
    clear h101 h98 h115 e1 e2 e3 hs HI HJ
    go_enter Try.func25, Try.ntmps25
    go_wp2
    go_ret
    exact ⟨rfl, hl⟩
end Jo
end Go.Proofs.Ytghdimcdkjlpcaa
