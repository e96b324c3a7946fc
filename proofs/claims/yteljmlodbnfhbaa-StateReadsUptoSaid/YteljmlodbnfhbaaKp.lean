/- A port that puts out: truths, several numbers. No premises. -/
import Derived.Test.YteljmlodbnfhbaaKo
namespace Go.Proofs.Yteljmlodbnfhbaa
open Go.RowKit
namespace Ks
set_option maxRecDepth 100000
theorem fr_cell {X : Nat → Prop} {w w' : World} {p : Addr} {v : Value} (hf : Fr X w w') (hx : X p.block) (h : w.cell? p = some v) : w'.cell? p = w.cell? p :=
  World.cell?_of_block (hf.block _ (World.block_lt_of_cell? w p h) hx)
theorem manyP_num_len (xs : List Int) (h : ∀ x ∈ xs, I64 x) : (manyP num xs).length ≤ 10 * xs.length := by
  induction xs with
  | nil => simp [manyP]
  | cons x xs ih =>
    have h1 := ih fun y hy => h y (List.mem_cons_of_mem _ hy)
    have h2 : (num.put x).length ≤ 10 := numP_len (h x (List.mem_cons_self ..))
    rw [manyP_cons, List.length_append, List.length_cons]
    omega
theorem bit_out {X : Nat → Prop} {W : World} {g bx o : Nat} {b : B} {v0 : Bool} (h : POE X W g b) (hx : W.cell? ⟨bx, o, none⟩ = some (.bool v0)) (hb : b.length ≤ 1000000000) :
    Calls Try.prog 37 #[.pointer (some ⟨g, 0, none⟩), .pointer (some ⟨bx, o, none⟩)] W fun e W' => e = .returned (.tuple #[]) ∧ POE X W' g (b ++ bitP v0) ∧ Fr X W W' := by
  have HX := Lib.hid (show (W.alloc (.cells #[.int .i64 0] 3)).cell? ⟨bx, o, none⟩ = some (.bool v0) from cell_keeps (Later.alloc W _) hx)
  cases v0
  · have HA := Lib.hid (int_out (v0 := 0) (bx := W.heap.size) (o := 0) (h.alloc (.cells #[.int .i64 0] 3)) (by rw [(cell_row (heap_alloc_new W _) 0).1]; rfl) ⟨by omega, by omega⟩ hb)
    have hq := HX.out
    have HF := Lib.hid (Fr.later (X := X) (Later.alloc W (.cells #[.int .i64 0] 3)))
    clear h hb HX hx
    go_enter Try.func37, Try.ntmps37
    go_wp2_with (go_at_call 35; with_reducible refine HA.out.mono ?_; rintro e w1 ⟨rfl, h1, f1⟩; have q1 := h1.form; have H1 := Lib.hid h1.less; have F1 := Lib.hid (HF.out.trans f1.less); clear h1 f1)
    (try simp only [Exit.inBlock, Exit.then]); refine bodyPost_ret (results_none rfl _ _ _) rfl ?_
    exact ⟨rfl, H1.out, F1.out⟩
  · have HA := Lib.hid (int_out (v0 := 1) (bx := W.heap.size) (o := 0) (h.alloc (.cells #[.int .i64 1] 3)) (by rw [(cell_row (heap_alloc_new W _) 0).1]; rfl) ⟨by omega, by omega⟩ hb)
    have hq := HX.out
    have HF := Lib.hid (Fr.later (X := X) (Later.alloc W (.cells #[.int .i64 1] 3)))
    clear h hb HX hx
    go_enter Try.func37, Try.ntmps37
    go_wp2_with (go_at_call 35; with_reducible refine HA.out.mono ?_; rintro e w1 ⟨rfl, h1, f1⟩; have q1 := h1.form; have H1 := Lib.hid h1.less; have F1 := Lib.hid (HF.out.trans f1.less); clear h1 f1)
    (try simp only [Exit.inBlock, Exit.then]); refine bodyPost_ret (results_none rfl _ _ _) rfl ?_
    exact ⟨rfl, H1.out, F1.out⟩
/-- Several numbers, each behind a pointer of its own. -/
theorem ints_out {X : Nat → Prop} {g : Nat} (ps : List (Nat × Nat)) (xs : List Int) (hxl : xs.length = ps.length) {W : World} {A c n : Nat} {b : B} (h : POE X W g b) (hn : n = ps.length) (hp : ∀ (k : Nat) (hk : k < ps.length), W.cell? ⟨A, k, none⟩ = some (.pointer (some ⟨ps[k].1, ps[k].2, none⟩))) (hA : X A)
    (hx : ∀ (k : Nat) (hk : k < ps.length) (hj : k < xs.length), X ps[k].1 ∧ W.cell? ⟨ps[k].1, ps[k].2, none⟩ = some (.int .i64 xs[k]) ∧ I64 xs[k]) (hb : b.length ≤ 999999000) (hn9 : n ≤ 10) :
    Calls Try.prog 36 #[.pointer (some ⟨g, 0, none⟩), .slice (some ⟨A, 0, none⟩) n c] W fun e W' => e = .returned (.tuple #[]) ∧ POE X W' g (b ++ manyP num xs) ∧ Fr X W W' := by
  have HP := Lib.hid hp
  have HX := Lib.hid hx
  have HN := Lib.hid hn
  have HXL := Lib.hid hxl
  have HH := Lib.hid h
  have HA := Lib.hid hA
  clear hp hx hn hxl h hA
  go_enter Try.func36, Try.ntmps36
  go_wp2_with fail
  go_loopw [5, 8] (fun _ i wr => ∃ k : Nat, k ≤ n ∧ i = .int .i64 (k : Int) ∧ POE X wr g (b ++ manyP num (xs.take k)) ∧ Fr X W wr) (fun _ i _ => n - (intOf i).toNat)
  case atStart => exact ⟨0, by omega, rfl, by simpa [manyP] using HH.out, Fr.refl _ _⟩
  case round =>
    obtain ⟨k, hk, rfl, hpo, hf⟩ := hrel
    by_cases hlt : k < n
    · have hkl : k < ps.length := by rw [← HN.out]; exact hlt
      have hkx : k < xs.length := by rw [HXL.out]; exact hkl
      obtain ⟨hX1, hX2, hX3⟩ := HX.out k hkl hkx
      have q1 : wr.cell? ⟨A, k, none⟩ = some (.pointer (some ⟨ps[k].1, ps[k].2, none⟩)) := (fr_cell hf HA.out (HP.out k hkl)).trans (HP.out k hkl)
      have q2 : wr.cell? ⟨ps[k].1, ps[k].2, none⟩ = some (.int .i64 xs[k]) := (fr_cell hf hX1 hX2).trans hX2
      obtain ⟨p1, hp1⟩ : ∃ p1, p1 = ps[k].1 := ⟨_, rfl⟩
      obtain ⟨p2, hp2⟩ : ∃ p2, p2 = ps[k].2 := ⟨_, rfl⟩
      obtain ⟨y, hy⟩ : ∃ y, y = xs[k] := ⟨_, rfl⟩
      rw [← hp1, ← hp2] at q1 q2
      rw [← hy] at q2 hX3
      have hbl : (manyP num (xs.take k)).length ≤ 100 := by
        have := manyP_num_len (xs.take k) (by
          intro x hx
          obtain ⟨i, hi, rfl⟩ := List.getElem_of_mem hx
          rw [List.getElem_take]
          have hi2 : i < k := by rw [List.length_take] at hi; omega
          exact (HX.out i (by omega) (by omega)).2.2)
        rw [List.length_take] at this
        omega
      have HC := Lib.hid (int_out (v0 := y) hpo q2 hX3 (by rw [List.length_append]; omega))
      have HS := Lib.hid (show (b ++ manyP num (xs.take k)) ++ numP y = b ++ manyP num (xs.take (k + 1)) by rw [List.append_assoc, many_snoc_put num xs k hkx, hy]; rfl)
      have HF := Lib.hid hf
      have hk1 : (0 : Int) ≤ (k : Int) := by omega
      have hk2 : (k : Int) < (n : Int) := by omega
      clear hy hX1 hX2 hX3 q2 hp1 hp2 hbl hpo hf hkx hkl
      go_wp2_with (go_at_call 35; with_reducible refine HC.out.mono ?_; rintro e w1 ⟨rfl, h1, f1⟩; have H1 := Lib.hid h1; have F1 := Lib.hid (HF.out.trans f1); clear h1 f1)
      go_roundw
      case rel => exact ⟨k + 1, by omega, by go_num, by rw [← HS.out]; exact H1.out, F1.out⟩
      case measure => simp [intOf]; omega
    · have e : xs.take k = xs := by rw [List.take_of_length_le]; have := HN.out; have := HXL.out; omega
      rw [e] at hpo
      have H1 := Lib.hid hpo
      have F1 := Lib.hid hf
      clear hpo hf e
      go_wp2
      go_end0
      exact ⟨rfl, H1.out, F1.out⟩
/-- Several numbers, each behind a pointer of its own. -/
theorem int64s_out {X : Nat → Prop} {g : Nat} (ps : List (Nat × Nat)) (xs : List Int) (hxl : xs.length = ps.length) {W : World} {A c n : Nat} {b : B} (h : POE X W g b) (hn : n = ps.length) (hp : ∀ (k : Nat) (hk : k < ps.length), W.cell? ⟨A, k, none⟩ = some (.pointer (some ⟨ps[k].1, ps[k].2, none⟩))) (hA : X A)
    (hx : ∀ (k : Nat) (hk : k < ps.length) (hj : k < xs.length), X ps[k].1 ∧ W.cell? ⟨ps[k].1, ps[k].2, none⟩ = some (.int .i64 xs[k]) ∧ I64 xs[k]) (hb : b.length ≤ 999999000) (hn9 : n ≤ 10) :
    Calls Try.prog 55 #[.pointer (some ⟨g, 0, none⟩), .slice (some ⟨A, 0, none⟩) n c] W fun e W' => e = .returned (.tuple #[]) ∧ POE X W' g (b ++ manyP num xs) ∧ Fr X W W' := by
  have HP := Lib.hid hp
  have HX := Lib.hid hx
  have HN := Lib.hid hn
  have HXL := Lib.hid hxl
  have HH := Lib.hid h
  have HA := Lib.hid hA
  clear hp hx hn hxl h hA
  go_enter Try.func55, Try.ntmps55
  go_wp2_with fail
  go_loopw [5, 8] (fun _ i wr => ∃ k : Nat, k ≤ n ∧ i = .int .i64 (k : Int) ∧ POE X wr g (b ++ manyP num (xs.take k)) ∧ Fr X W wr) (fun _ i _ => n - (intOf i).toNat)
  case atStart => exact ⟨0, by omega, rfl, by simpa [manyP] using HH.out, Fr.refl _ _⟩
  case round =>
    obtain ⟨k, hk, rfl, hpo, hf⟩ := hrel
    by_cases hlt : k < n
    · have hkl : k < ps.length := by rw [← HN.out]; exact hlt
      have hkx : k < xs.length := by rw [HXL.out]; exact hkl
      obtain ⟨hX1, hX2, hX3⟩ := HX.out k hkl hkx
      have q1 : wr.cell? ⟨A, k, none⟩ = some (.pointer (some ⟨ps[k].1, ps[k].2, none⟩)) := (fr_cell hf HA.out (HP.out k hkl)).trans (HP.out k hkl)
      have q2 : wr.cell? ⟨ps[k].1, ps[k].2, none⟩ = some (.int .i64 xs[k]) := (fr_cell hf hX1 hX2).trans hX2
      obtain ⟨p1, hp1⟩ : ∃ p1, p1 = ps[k].1 := ⟨_, rfl⟩
      obtain ⟨p2, hp2⟩ : ∃ p2, p2 = ps[k].2 := ⟨_, rfl⟩
      obtain ⟨y, hy⟩ : ∃ y, y = xs[k] := ⟨_, rfl⟩
      rw [← hp1, ← hp2] at q1 q2
      rw [← hy] at q2 hX3
      have hbl : (manyP num (xs.take k)).length ≤ 100 := by
        have := manyP_num_len (xs.take k) (by
          intro x hx
          obtain ⟨i, hi, rfl⟩ := List.getElem_of_mem hx
          rw [List.getElem_take]
          have hi2 : i < k := by rw [List.length_take] at hi; omega
          exact (HX.out i (by omega) (by omega)).2.2)
        rw [List.length_take] at this
        omega
      have HC := Lib.hid (int64_out (v0 := y) hpo q2 hX3 (by rw [List.length_append]; omega))
      have HS := Lib.hid (show (b ++ manyP num (xs.take k)) ++ numP y = b ++ manyP num (xs.take (k + 1)) by rw [List.append_assoc, many_snoc_put num xs k hkx, hy]; rfl)
      have HF := Lib.hid hf
      have hk1 : (0 : Int) ≤ (k : Int) := by omega
      have hk2 : (k : Int) < (n : Int) := by omega
      clear hy hX1 hX2 hX3 q2 hp1 hp2 hbl hpo hf hkx hkl
      go_wp2_with (go_at_call 57; with_reducible refine HC.out.mono ?_; rintro e w1 ⟨rfl, h1, f1⟩; have H1 := Lib.hid h1; have F1 := Lib.hid (HF.out.trans f1); clear h1 f1)
      go_roundw
      case rel => exact ⟨k + 1, by omega, by go_num, by rw [← HS.out]; exact H1.out, F1.out⟩
      case measure => simp [intOf]; omega
    · have e : xs.take k = xs := by rw [List.take_of_length_le]; have := HN.out; have := HXL.out; omega
      rw [e] at hpo
      have H1 := Lib.hid hpo
      have F1 := Lib.hid hf
      clear hpo hf e
      go_wp2
      go_end0
      exact ⟨rfl, H1.out, F1.out⟩
end Ks
end Go.Proofs.Yteljmlodbnfhbaa
