/- What the document's Asked and Told tell where the answer is known; how long rows are. -/
import Derived.Test.YtbgojfgapbcanaaDoorEvB
import Derived.Test.YtbgojfgapbcanaaDoorEvX
namespace Go.Proofs.YtbgojfgapbcanaaDoor
open Go.RowKit
theorem asked_len {bs : List UInt8} {k f : Nat} {n m : Int} {t : List UInt8} {l : List (List UInt8)} (he : askedM bs = ((k, n, m, t, l), f)) : l.length ≤ 4096 := by
  by_cases hf : f = 0
  · subst hf
    obtain ⟨k', n', m', t', l', h1, h2, hk1, hk2, hl, hn, hm, hx⟩ := asked_own (bs := bs) (by rw [he])
    rw [he] at h1
    simp only [Prod.mk.injEq, and_true] at h1
    obtain ⟨rfl, rfl, rfl, rfl, rfl⟩ := h1
    exact hl
  · have h := asked_err (bs := bs) (by rw [he]; exact hf)
    rw [he] at h
    have h2 : l = [] := by simpa [noAsked] using (congrArg (fun x => x.2.2.2.2) h)
    rw [h2]; simp
theorem told_len {bs : List UInt8} {k e f s : Nat} {n m : Int} {t : List UInt8} {l : List (List UInt8)} (he : toldM bs = ((k, e, n, m, t, l, s), f)) : l.length ≤ 4096 := by
  by_cases hf : f = 0
  · subst hf
    obtain ⟨k', e', n', m', t', l', s', h1, h2, hk, hee, hs, hl, hn, hm, hx⟩ := told_own (bs := bs) (by rw [he])
    rw [he] at h1
    simp only [Prod.mk.injEq, and_true] at h1
    obtain ⟨rfl, rfl, rfl, rfl, rfl, rfl, rfl⟩ := h1
    exact hl
  · have h := told_err (bs := bs) (by rw [he]; exact hf)
    rw [he] at h
    have h2 : l = [] := by simpa [noTold] using (congrArg (fun x => x.2.2.2.2.2.1) h)
    rw [h2]; simp
theorem refAskedK {bs : List UInt8} {k f : Nat} {n m : Int} {t : List UInt8} {l : List (List UInt8)} (he : askedM bs = ((k, n, m, t, l), f)) (w : World) (hn : bs.length ≤ 140737488351232) :
    Calls Tryd.prog 23 #[.string (mkS bs)] w fun r w' => ∃ (A' : Option Addr) (c' : Nat), r = .returned (.tuple #[.agg #[.int .i64 (k : Int), .int .i64 n, .int .i64 m, .string (mkS t), .slice A' l.length c'], .int .i64 (f : Int)]) ∧ Rd w' w'.heap.size A' l.length (l.map sv) ∧ Later w w' := by
  refine (refAsked_v w bs hn).mono ?_
  rintro r w' ⟨k', n', m', t', l', A', c', f', rfl, h, h1, h2, h3⟩
  rw [he] at h
  simp only [Prod.mk.injEq] at h
  obtain ⟨⟨rfl, rfl, rfl, rfl, rfl⟩, rfl⟩ := h
  exact ⟨A', c', rfl, h1, h3⟩
theorem refToldK {bs : List UInt8} {k e f s : Nat} {n m : Int} {t : List UInt8} {l : List (List UInt8)} (he : toldM bs = ((k, e, n, m, t, l, s), f)) (w : World) (hn : bs.length ≤ 140737488351232) :
    Calls Tryd.prog 25 #[.string (mkS bs)] w fun r w' => ∃ (A' : Option Addr) (c' : Nat), r = .returned (.tuple #[.agg #[.int .i64 (k : Int), .int .i64 (e : Int), .int .i64 n, .int .i64 m, .string (mkS t), .slice A' l.length c', .int .i64 (s : Int)], .int .i64 (f : Int)]) ∧ Rd w' w'.heap.size A' l.length (l.map sv) ∧ Later w w' := by
  refine (refTold_v w bs hn).mono ?_
  rintro r w' ⟨k', e', n', m', t', l', s', A', c', f', rfl, h, h1, h2, h3⟩
  rw [he] at h
  simp only [Prod.mk.injEq] at h
  obtain ⟨⟨rfl, rfl, rfl, rfl, rfl, rfl, rfl⟩, rfl⟩ := h
  exact ⟨A', c', rfl, h1, h3⟩
theorem sameK {k n m : Int} {t : List UInt8} {A A' : Option Addr} {c c' : Nat} {l : List (List UInt8)} (W : World) (ha : Rd W W.heap.size A l.length (l.map sv)) (hb : Rd W W.heap.size A' l.length (l.map sv)) (hl : l.length ≤ maxLen) :
    Calls Tryd.prog 17 #[.agg #[.int .i64 k, .int .i64 n, .int .i64 m, .string (mkS t), .slice A l.length c], .agg #[.int .i64 k, .int .i64 n, .int .i64 m, .string (mkS t), .slice A' l.length c']] W fun r w' => r = .returned (.bool true) ∧ Later W w' := by
  refine (refSame_v k n m k n m t t A A' l.length c l.length c' l l W ha hb hl hl).mono ?_
  rintro r w' ⟨rfl, h⟩
  exact ⟨ret_bool (decide_eq_true ⟨rfl, rfl, rfl, rfl, rfl⟩), h⟩
theorem sameAK {k e n m s : Int} {t : List UInt8} {A A' : Option Addr} {c c' : Nat} {l : List (List UInt8)} (W : World) (ha : Rd W W.heap.size A l.length (l.map sv)) (hb : Rd W W.heap.size A' l.length (l.map sv)) (hl : l.length ≤ maxLen) :
    Calls Tryd.prog 26 #[.agg #[.int .i64 k, .int .i64 e, .int .i64 n, .int .i64 m, .string (mkS t), .slice A l.length c, .int .i64 s], .agg #[.int .i64 k, .int .i64 e, .int .i64 n, .int .i64 m, .string (mkS t), .slice A' l.length c', .int .i64 s]] W fun r w' => r = .returned (.bool true) ∧ Later W w' := by
  refine (refSameA_v k e n m s k e n m s t t A A' l.length c l.length c' l l W ha hb hl hl).mono ?_
  rintro r w' ⟨rfl, h⟩
  exact ⟨ret_bool (decide_eq_true ⟨rfl, rfl, rfl, rfl, rfl, rfl, rfl⟩), h⟩
end Go.Proofs.YtbgojfgapbcanaaDoor
