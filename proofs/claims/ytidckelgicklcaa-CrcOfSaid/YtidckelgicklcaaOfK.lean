/- What the calls of CrcOf's last statement tell, in whatever world they come up. No premises. -/
import Derived.Test.YtidckelgicklcaaCAwake
import Derived.Test.YtidckelgicklcaaArgs
import Derived.Deep.RegionHeld
import Derived.Deep.DrawnRows
namespace Go.Proofs.Ytidckelgicklcaa
namespace crcOf
open Go.RowKit
attribute [local go_sem ↓] Go.wp_at_zero Go.wp_at_succ
theorem belowAlloc {a w : World} (o : Obj) (h : Hid (Below a.heap.size a w)) : Hid (Below a.heap.size a (w.alloc o)) := h.alloc h.size o
theorem RdL.keep {w w' : World} {B : Nat} {A : Option Addr} {n : Nat} {ls : List (List UInt8)} (h : RdL w B A n ls) (hb : Below B w w') : RdL w' B A n ls := by
  refine ⟨h.1, fun j hj => ?_⟩
  obtain ⟨ad, A', n', c', rfl, h1, h2, h3, h4⟩ := h.2 j hj
  exact ⟨ad, A', n', c', rfl, h1, (hb.cell (by rw [block_add]; exact h1)).trans h2, h3.below hb, h4⟩
theorem RdL.two {w : World} {B B' : Nat} {A A' : Option Addr} {n n' c c' : Nat} {l l' : List UInt8} (h : Rd w B A n (l.map bv)) (h' : Rd w B' A' n' (l'.map bv)) (hB : B ≤ w.heap.size) (hB' : B' ≤ w.heap.size) (h1 : n ≤ maxLen) (h1' : n' ≤ maxLen) (e : TypeId) :
    RdL (w.alloc (.cells #[.slice A n c, .slice A' n' c'] e)) (w.heap.size + 1) (some ⟨w.heap.size, 0, none⟩) 2 [l, l'] := by
  obtain ⟨ad, e1, _, e3⟩ := (Rd.lit w e [.slice A n c, .slice A' n' c']).2 (by simp)
  injection e1 with e1
  subst e1
  refine ⟨rfl, fun j hj => ?_⟩
  have hc : j = 0 ∨ j = 1 := by simp at hj; omega
  rcases hc with rfl | rfl
  · exact ⟨_, A, n, c, rfl, Nat.lt_succ_self _, e3 0 _ rfl, (h.below ((Below.refl B w).alloc hB _)).more (by omega), h1⟩
  · exact ⟨_, A', n', c', rfl, Nat.lt_succ_self _, e3 1 _ rfl, (h'.below ((Below.refl B' w).alloc hB' _)).more (by omega), h1'⟩
section
variable {w1 w : World}
theorem k48a (hw : Below w1.heap.size w1 w) {A : Option Addr} {n c : Nat} {l : List UInt8} (h : Rd w1 w1.heap.size A n (l.map bv)) (hn : n ≤ maxLen) (N : Nat) (hN : N = w.heap.size) :
    Calls Try.prog 11 #[.int .u32 0, .slice (some ⟨N, 0, none⟩) 1 1] (w.alloc (.cells #[.slice A n c] 22)) fun e w' => e = .returned (.int .u32 (crcL l : Int)) ∧ w.alloc (.cells #[.slice A n c] 22) = w' :=
  sumAddNew_v A n c _ N l w (h.below hw) hw.size hn hN
theorem k48b (hw : Below w1.heap.size w1 w) {A : Option Addr} {n c : Nat} {l : List UInt8} (h : Rd w1 w1.heap.size A n (l.map bv)) (hn : n ≤ maxLen) (N : Nat) (hN : N = w.heap.size) (o : Obj) :
    Calls Try.prog 11 #[.int .u32 0, .slice (some ⟨N, 0, none⟩) 1 1] ((w.alloc (.cells #[.slice A n c] 22)).alloc o) fun e w' => e = .returned (.int .u32 (crcL l : Int)) ∧ (w.alloc (.cells #[.slice A n c] 22)).alloc o = w' := by
  subst hN
  have h1 := (RdL.one (c := c) (h.below hw) hw.size hn 22)
  have := sumAdd0_v _ 1 1 _ [l] _ (RdL.keep h1 ((Below.refl _ _).alloc (by simp) o)) (by omega)
  rw [flat_one] at this
  exact this
theorem k48c (hw : Below w1.heap.size w1 w) {A : Option Addr} {n c : Nat} {l : List UInt8} (h : Rd w1 w1.heap.size A n (l.map bv)) (hn : n ≤ maxLen) (N : Nat) (hN : N = w.heap.size + 1) (o : Obj) :
    Calls Try.prog 11 #[.int .u32 0, .slice (some ⟨N, 0, none⟩) 1 1] ((w.alloc o).alloc (.cells #[.slice A n c] 22)) fun e w' => e = .returned (.int .u32 (crcL l : Int)) ∧ (w.alloc o).alloc (.cells #[.slice A n c] 22) = w' :=
  k48a (hw.alloc hw.size o) h hn N (by simp; omega)
theorem k57 {s : Nat} {ls : List (List UInt8)} {B : Nat} {N : Nat} {r : List UInt8} {w : World} (h : RdL w B (some ⟨N, 0, none⟩) 2 ls) (hs : crcL r = s) :
    Calls Try.prog 11 #[.int .u32 (s : Int), .slice (some ⟨N, 0, none⟩) 2 2] w fun e w' => e = .returned (.int .u32 (crcL (r ++ ls.flatten) : Int)) ∧ w = w' := by
  subst hs
  rw [crcL_append]
  exact sumAdd_v _ _ 2 2 _ ls w h (crcL_lt r) (by omega)
theorem k57a (hw : Below w1.heap.size w1 w) {s : Nat} {A A' : Option Addr} {n n' c c' : Nat} {r l l' : List UInt8} (h : Rd w1 w1.heap.size A n (l.map bv)) (h' : Rd w1 w1.heap.size A' n' (l'.map bv)) (hn : n ≤ maxLen) (hn' : n' ≤ maxLen) (hs : crcL r = s) (N : Nat) (hN : N = w.heap.size) (o : Obj) :
    Calls Try.prog 11 #[.int .u32 (s : Int), .slice (some ⟨N, 0, none⟩) 2 2] ((w.alloc (.cells #[.slice A n c, .slice A' n' c'] 22)).alloc o) fun e w' => e = .returned (.int .u32 (crcL (r ++ (l ++ l')) : Int)) ∧ (w.alloc (.cells #[.slice A n c, .slice A' n' c'] 22)).alloc o = w' := by
  subst hN
  have h1 := RdL.two (c := c) (c' := c') (h.below hw) (h'.below hw) hw.size hw.size hn hn' 22
  have := k57 (RdL.keep h1 ((Below.refl _ _).alloc (by simp) o)) hs
  simpa using this
theorem k57b (hw : Below w1.heap.size w1 w) {s : Nat} {A A' : Option Addr} {n n' c c' : Nat} {r l l' : List UInt8} (h : Rd w1 w1.heap.size A n (l.map bv)) (h' : Rd w1 w1.heap.size A' n' (l'.map bv)) (hn : n ≤ maxLen) (hn' : n' ≤ maxLen) (hs : crcL r = s) (N : Nat) (hN : N = w.heap.size + 1) (o : Obj) :
    Calls Try.prog 11 #[.int .u32 (s : Int), .slice (some ⟨N, 0, none⟩) 2 2] ((w.alloc o).alloc (.cells #[.slice A n c, .slice A' n' c'] 22)) fun e w' => e = .returned (.int .u32 (crcL (r ++ (l ++ l')) : Int)) ∧ (w.alloc o).alloc (.cells #[.slice A n c, .slice A' n' c'] 22) = w' := by
  have hw' := hw.alloc hw.size o
  have h1 := RdL.two (c := c) (c' := c') (h.below hw') (h'.below hw') hw'.size hw'.size hn hn' 22
  have hN' : N = (w.alloc o).heap.size := by simp; omega
  subst hN'
  have := k57 h1 hs
  simpa using this
end
theorem parts3 (bs : List UInt8) (i j : Nat) (h1 : i ≤ j) : bs.take i ++ ((bs.drop i).take (j - i) ++ bs.drop j) = bs := by
  have e : (bs.drop i).take (j - i) ++ bs.drop j = bs.drop i := by
    have h3 := List.take_append_drop (j - i) (bs.drop i)
    rw [List.drop_drop, show i + (j - i) = j by omega] at h3
    exact h3
  rw [e, List.take_append_drop]
theorem ktail {a : World} (w : World) (x : Nat) (hx : x < 4294967296) (hw : Hid (Below a.heap.size a w)) :
    Calls Try.prog 12 #[.int .u32 (x : Int)] w fun e w' => ∃ A c, e = .returned (.slice A 4 c) ∧ Below a.heap.size a w' ∧ ∀ W, Below w'.heap.size w' W → (convert 22 9 (.slice A 4 c)).run Try.prog W = .ok (.string (mkS (tailL x))) W := by
  refine (tail_v x w hx).mono ?_
  rintro e w' ⟨v', rfl, hg⟩
  obtain ⟨A, c, rfl, h1, h2, _⟩ := own_slice hg.own
  exact ⟨A, c, rfl, hw.trans (hg.belowNil.mono hw.size), fun W hW => run_str_of (P := Try.prog) (h2.below hW) 22 9 5 Try.underlying22 Try.underlying5 Try.underlying9 c⟩
theorem kref {a : World} (w : World) (x : Nat) (hx : x < 4294967296) (hw : Hid (Below a.heap.size a w)) :
    Calls Try.prog 13 #[.int .u32 (x : Int)] w fun e w' => e = .returned (.string (mkS (tailL x))) ∧ Below a.heap.size a w' ∧ Below w.heap.size w w' := by
  refine (refTail_v x w hx).mono ?_
  rintro e w' ⟨rfl, hb⟩
  exact ⟨rfl, hw.trans (hb.mono hw.size), hb⟩
end crcOf
end Go.Proofs.Ytidckelgicklcaa
