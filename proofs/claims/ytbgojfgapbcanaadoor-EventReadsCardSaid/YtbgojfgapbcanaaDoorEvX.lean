/- What Asked, Told, Ask, Tell tell where the answer is known. -/
import Derived.Test.YtbgojfgapbcanaaDoorEvF
import Derived.Test.YtbgojfgapbcanaaDoorEvW
namespace Go.Proofs.YtbgojfgapbcanaaDoor
open Go.RowKit
theorem askL_parts (k : Nat) (n m : Int) (t : List UInt8) (l : List (List UInt8)) : (textsB l).length ≤ (askL k n m t l).length ∧ t.length ≤ (askL k n m t l).length := by
  unfold askL textB
  simp only [List.length_append]
  omega
theorem tellL_parts (k e : Nat) (n m : Int) (t : List UInt8) (l : List (List UInt8)) (s : Nat) : (textsB l).length ≤ (tellL k e n m t l s).length ∧ t.length ≤ (tellL k e n m t l s).length := by
  unfold tellL textB
  simp only [List.length_append]
  omega
theorem asked_err {bs : List UInt8} (h : (askedM bs).2 ≠ 0) : (askedM bs).1 = noAsked := by
  unfold askedM at h ⊢
  dsimp only at h ⊢
  split
  · rfl
  · rename_i h1
    rw [if_neg h1] at h
    split
    · rfl
    · rename_i h2
      rw [if_neg h2] at h
      split
      · rfl
      · rename_i h3
        rw [if_neg h3] at h
        split
        · rfl
        · rename_i h4
          rw [if_neg h4] at h
          exact absurd rfl h
theorem told_err {bs : List UInt8} (h : (toldM bs).2 ≠ 0) : (toldM bs).1 = noTold := by
  unfold toldM at h ⊢
  dsimp only at h ⊢
  split
  · rfl
  · rename_i h1
    rw [if_neg h1] at h
    split
    · rfl
    · rename_i h2
      rw [if_neg h2] at h
      split
      · rfl
      · rename_i h3
        rw [if_neg h3] at h
        split
        · rfl
        · rename_i h4
          rw [if_neg h4] at h
          exact absurd rfl h
/-- Asked, where what it tells is known. -/
theorem askedK {bs : List UInt8} {k f : Nat} {n m : Int} {t : List UInt8} {l : List (List UInt8)} (he : askedM bs = ((k, n, m, t, l), f)) (A : Option Addr) (n0 cap : Nat) (w : World) (hr : Rd w w.heap.size A n0 (bs.map bv)) (hn : n0 ≤ 140737488351232) :
    Calls Tryd.prog 22 #[.slice A n0 cap] w fun r w' => ∃ (A' : Option Addr) (c' : Nat), r = .returned (.tuple #[.agg #[.int .i64 (k : Int), .int .i64 n, .int .i64 m, .string (mkS t), .slice A' l.length c'], .int .i64 (f : Int)]) ∧ Rd w' w'.heap.size A' l.length (l.map sv) ∧ l.length ≤ c' ∧ Later w w' ∧ (∀ ad, A' = some ad → w.heap.size ≤ ad.block) := by
  refine (asked_v A n0 cap bs w hr hn).mono ?_
  rintro r w' ⟨k', n', m', t', l', A', c', f', rfl, h, h1, h2, h3, h4⟩
  rw [he] at h
  simp only [Prod.mk.injEq] at h
  obtain ⟨⟨rfl, rfl, rfl, rfl, rfl⟩, rfl⟩ := h
  exact ⟨A', c', rfl, h1, h2, h3, h4⟩
theorem toldK {bs : List UInt8} {k e f s : Nat} {n m : Int} {t : List UInt8} {l : List (List UInt8)} (he : toldM bs = ((k, e, n, m, t, l, s), f)) (A : Option Addr) (n0 cap : Nat) (w : World) (hr : Rd w w.heap.size A n0 (bs.map bv)) (hn : n0 ≤ 140737488351232) :
    Calls Tryd.prog 24 #[.slice A n0 cap] w fun r w' => ∃ (A' : Option Addr) (c' : Nat), r = .returned (.tuple #[.agg #[.int .i64 (k : Int), .int .i64 (e : Int), .int .i64 n, .int .i64 m, .string (mkS t), .slice A' l.length c', .int .i64 (s : Int)], .int .i64 (f : Int)]) ∧ Rd w' w'.heap.size A' l.length (l.map sv) ∧ l.length ≤ c' ∧ Later w w' ∧ (∀ ad, A' = some ad → w.heap.size ≤ ad.block) := by
  refine (told_v A n0 cap bs w hr hn).mono ?_
  rintro r w' ⟨k', e', n', m', t', l', s', A', c', f', rfl, h, h1, h2, h3, h4⟩
  rw [he] at h
  simp only [Prod.mk.injEq] at h
  obtain ⟨⟨rfl, rfl, rfl, rfl, rfl, rfl, rfl⟩, rfl⟩ := h
  exact ⟨A', c', rfl, h1, h2, h3, h4⟩
/-- Ask of a request that was read: its bytes. -/
theorem askK {bs : List UInt8} {k : Nat} {n m : Int} {t : List UInt8} {l : List (List UInt8)} (he : askedM bs = ((k, n, m, t, l), 0)) (hb : bs.length ≤ 3000) (A : Option Addr) (cap : Nat) (w : World) (hr : Rd w w.heap.size A l.length (l.map sv)) :
    Calls Tryd.prog 18 #[.agg #[.int .i64 (k : Int), .int .i64 n, .int .i64 m, .string (mkS t), .slice A l.length cap]] w fun r w' => ∃ A' c', r = .returned (.slice A' bs.length c') ∧ Later w w' ∧ Rd w' w'.heap.size A' bs.length (bs.map bv) := by
  obtain ⟨k', n', m', t', l', h1, h2, hk1, hk2, hl, hn, hm, hx⟩ := asked_own (bs := bs) (by rw [he])
  rw [he] at h1
  simp only [Prod.mk.injEq, and_true] at h1
  obtain ⟨rfl, rfl, rfl, rfl, rfl⟩ := h1
  have hp := askL_parts k n m t l
  rw [← h2] at hp
  refine (ask_v (k : Int) n m t A l.length cap l w hr (by omega) (by omega) hn.1 hn.2 hm.1 hm.2).mono ?_
  rintro r w' ⟨v', rfl, hM⟩
  have ha : askB (k : Int) n m t l = bs := by
    have hrt : rightB (k : Int) l.length = true := decide_eq_true (by omega)
    unfold askB
    rw [if_pos hrt, h2]
    rfl
  rw [ha] at hM
  obtain ⟨A', c', rfl, _, h⟩ := hM.slice
  exact ⟨A', c', rfl, hM.bel, h⟩
theorem tellK {bs : List UInt8} {k e s : Nat} {n m : Int} {t : List UInt8} {l : List (List UInt8)} (he : toldM bs = ((k, e, n, m, t, l, s), 0)) (hb : bs.length ≤ 3000) (A : Option Addr) (cap : Nat) (w : World) (hr : Rd w w.heap.size A l.length (l.map sv)) :
    Calls Tryd.prog 20 #[.agg #[.int .i64 (k : Int), .int .i64 (e : Int), .int .i64 n, .int .i64 m, .string (mkS t), .slice A l.length cap, .int .i64 (s : Int)]] w fun r w' => ∃ A' c', r = .returned (.slice A' bs.length c') ∧ Later w w' ∧ Rd w' w'.heap.size A' bs.length (bs.map bv) := by
  obtain ⟨k', e', n', m', t', l', s', h1, h2, hk, hee, hs, hl, hn, hm, hx⟩ := told_own (bs := bs) (by rw [he])
  rw [he] at h1
  simp only [Prod.mk.injEq, and_true] at h1
  obtain ⟨rfl, rfl, rfl, rfl, rfl, rfl, rfl⟩ := h1
  have hp := tellL_parts k e n m t l s
  rw [← h2] at hp
  refine (tell_v (k : Int) (e : Int) n m t A l.length cap l (s : Int) w hr (by omega) (by omega) hn.1 hn.2 hm.1 hm.2).mono ?_
  rintro r w' ⟨v', rfl, hM⟩
  have ha : tellB (k : Int) (e : Int) n m t l (s : Int) = bs := by
    have hrt : fitsB (k : Int) (k : Int) (e : Int) (s : Int) l.length = true := decide_eq_true (by omega)
    unfold tellB
    rw [if_pos hrt, h2]
    rfl
  rw [ha] at hM
  obtain ⟨A', c', rfl, _, h⟩ := hM.slice
  exact ⟨A', c', rfl, hM.bel, h⟩
theorem rightK {bs : List UInt8} {k : Nat} {n m : Int} {t : List UInt8} {l : List (List UInt8)} (he : askedM bs = ((k, n, m, t, l), 0)) (A : Option Addr) (cap : Nat) (w : World) :
    Calls Tryd.prog 12 #[.agg #[.int .i64 (k : Int), .int .i64 n, .int .i64 m, .string (mkS t), .slice A l.length cap]] w fun r w' => r = .returned (.bool true) ∧ Later w w' := by
  obtain ⟨k', n', m', t', l', h1, h2, hk1, hk2, hl, hn, hm, hx⟩ := asked_own (bs := bs) (by rw [he])
  rw [he] at h1
  simp only [Prod.mk.injEq, and_true] at h1
  obtain ⟨rfl, rfl, rfl, rfl, rfl⟩ := h1
  refine (right_v (k : Int) n m t A l.length cap w).mono ?_
  rintro r w' ⟨rfl, hb⟩
  exact ⟨ret_bool (decide_eq_true (by omega)), hb⟩
theorem fitsK {bs : List UInt8} {k e s : Nat} {n m : Int} {t : List UInt8} {l : List (List UInt8)} (he : toldM bs = ((k, e, n, m, t, l, s), 0)) (A : Option Addr) (cap : Nat) (w : World) :
    Calls Tryd.prog 14 #[.int .i64 (k : Int), .agg #[.int .i64 (k : Int), .int .i64 (e : Int), .int .i64 n, .int .i64 m, .string (mkS t), .slice A l.length cap, .int .i64 (s : Int)]] w fun r w' => r = .returned (.bool true) ∧ Later w w' := by
  obtain ⟨k', e', n', m', t', l', s', h1, h2, hk, hee, hs, hl, hn, hm, hx⟩ := told_own (bs := bs) (by rw [he])
  rw [he] at h1
  simp only [Prod.mk.injEq, and_true] at h1
  obtain ⟨rfl, rfl, rfl, rfl, rfl, rfl, rfl⟩ := h1
  refine (fits_v (k : Int) (k : Int) (e : Int) n m t A l.length cap (s : Int) w).mono ?_
  rintro r w' ⟨rfl, hb⟩
  exact ⟨ret_bool (decide_eq_true (by omega)), hb⟩
abbrev qC (k n m : Int) (t : List UInt8) (A : Option Addr) (a c : Nat) : Array Value := #[.int .i64 k, .int .i64 n, .int .i64 m, .string (mkS t), .slice A a c]
abbrev aC (k e n m : Int) (t : List UInt8) (A : Option Addr) (a c : Nat) (s : Int) : Array Value := #[.int .i64 k, .int .i64 e, .int .i64 n, .int .i64 m, .string (mkS t), .slice A a c, .int .i64 s]
theorem qcellsK (w : World) (k n m : Int) (t : List UInt8) (A : Option Addr) (a c : Nat) {W : World} (hb : Later (w.alloc (.cells (qC k n m t A a c) 24)) W) : W.cell? ⟨w.heap.size, 0, none⟩ = some (.int .i64 k) ∧ W.cell? ⟨w.heap.size, 1, none⟩ = some (.int .i64 n) ∧ W.cell? ⟨w.heap.size, 2, none⟩ = some (.int .i64 m) ∧ W.cell? ⟨w.heap.size, 3, none⟩ = some (.string (mkS t)) ∧ W.cell? ⟨w.heap.size, 4, none⟩ = some (.slice A a c) := by
  obtain ⟨h, _⟩ := one_cells w (qC k n m t A a c) 24 (w1 := W) (by have := hb; unfold Later at this; rwa [World.size_alloc] at this)
  exact ⟨h 0, h 1, h 2, h 3, h 4⟩
theorem acellsK (w : World) (k e n m : Int) (t : List UInt8) (A : Option Addr) (a c : Nat) (s : Int) {W : World} (hb : Later (w.alloc (.cells (aC k e n m t A a c s) 26)) W) : W.cell? ⟨w.heap.size, 0, none⟩ = some (.int .i64 k) ∧ W.cell? ⟨w.heap.size, 1, none⟩ = some (.int .i64 e) ∧ W.cell? ⟨w.heap.size, 2, none⟩ = some (.int .i64 n) ∧ W.cell? ⟨w.heap.size, 3, none⟩ = some (.int .i64 m) ∧ W.cell? ⟨w.heap.size, 4, none⟩ = some (.string (mkS t)) ∧ W.cell? ⟨w.heap.size, 5, none⟩ = some (.slice A a c) ∧ W.cell? ⟨w.heap.size, 6, none⟩ = some (.int .i64 s) := by
  obtain ⟨h, _⟩ := one_cells w (aC k e n m t A a c s) 26 (w1 := W) (by have := hb; unfold Later at this; rwa [World.size_alloc] at this)
  exact ⟨h 0, h 1, h 2, h 3, h 4, h 5, h 6⟩
end Go.Proofs.YtbgojfgapbcanaaDoor
