/- Relations of values that last while memory only grows: for soft regions. No premises. -/
import Derived.Test.YteljmlodbnfhbaaSoft
import Derived.Test.YteljmlodbnfhbaaSml
namespace Go.Proofs.Yteljmlodbnfhbaa
open Go.RowKit
def Later (w w' : World) : Prop := Below w.heap.size w w'
theorem Later.refl (w : World) : Later w w := Below.refl _ _
theorem Later.trans {a b c : World} (h : Later a b) (k : Later b c) : Later a c := Below.trans h (Below.mono k h.size)
theorem Later.alloc (w : World) (o : Obj) : Later w (w.alloc o) := (Below.refl _ w).alloc (Nat.le_refl _) o
theorem Later.drew (w : World) : Later w w.drew := (Below.refl _ w).drew
/-- A slice of so many bytes, that reads as l. -/
def spBytes (n : Nat) (l : List UInt8) : Sp Later := ⟨fun v w => ∃ A c, v = .slice A n c ∧ Rd w w.heap.size A n (l.map bv), fun _ _ _ hg ⟨A, c, h1, h2⟩ => ⟨A, c, h1, (h2.below hg).more hg.size⟩⟩
/-- A slice of so many slices of bytes, that reads as ls. -/
def spRows (n : Nat) (ls : List (List UInt8)) : Sp Later := ⟨fun v w => ∃ A c, v = .slice A n c ∧ RdL w w.heap.size A n ls, fun _ _ _ hg ⟨A, c, h1, h2⟩ => ⟨A, c, h1, by
  refine ⟨h2.1, fun j hj => ?_⟩
  obtain ⟨ad, A', n', c', rfl, h3, h4, h5, h6⟩ := (RdL.keep h2 hg).2 j hj
  exact ⟨ad, A', n', c', rfl, Nat.lt_of_lt_of_le h3 hg.size, h4, h5.more hg.size, h6⟩⟩⟩
end Go.Proofs.Yteljmlodbnfhbaa
