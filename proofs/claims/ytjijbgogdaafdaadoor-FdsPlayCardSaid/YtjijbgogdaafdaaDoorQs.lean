/- FdsPlay, FdsOther: their walks, as the statements want them. Behind the powers of ten. -/
import Derived.Test.YtjijbgogdaafdaaDoorQq
import Derived.Test.YtjijbgogdaafdaaDoorQr
namespace Go.Proofs.YtjijbgogdaafdaaDoor
open Go.RowKit Go.Maps
namespace fdsOther
theorem walk (W : World) (hT : Fd.Tb W) (A : Option Addr) (n c : Nat) (l : List Fd.Deed) (h : Fd.RdD W W.heap.size A n l ∧ (∀ d ∈ l, Fd.DdOk d) ∧ n ≤ c ∧ c ≤ maxLen) (x : Int) (hx : (Lit.int .i64 x).wf = true) (y : Int) (hy : (Lit.int .i64 y).wf = true) (z : Int) (_ : (Lit.int .i64 z).wf = true) : Calls Tryd.prog 4 #[.slice A n c, .int .i64 x, .int .i64 y, .int .i64 z] W fun e W' => e = .returned (.bool true) ∧ Below W.heap.size W W' :=
  Fd.other_v A n c l x y z W h.1 h.2.1 (Fd.in_of hx) (Fd.in_of hy) hT
end fdsOther
namespace fdsPlay
theorem walk (W : World) (hT : Fd.Tb W) (A : Option Addr) (n c : Nat) (l : List Fd.Deed) (h : Fd.RdD W W.heap.size A n l ∧ (∀ d ∈ l, Fd.DdOk d) ∧ n ≤ c ∧ c ≤ maxLen) (A2 : Option Addr) (m c2 : Nat) (qs : List Int) (hq : Rd W W.heap.size A2 m (qs.map (Value.int .i64)) ∧ m ≤ c2 ∧ c2 ≤ maxLen) : Calls Tryd.prog 3 #[.slice A n c, .slice A2 m c2] W fun e W' => e = .returned (.bool true) ∧ Below W.heap.size W W' :=
  Fd.play_v A n c l A2 m c2 qs W h.1 h.2.1 hq.1 hT
end fdsPlay
end Go.Proofs.YtjijbgogdaafdaaDoor
