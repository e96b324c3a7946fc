/- What an argument's reading gives: a state, bytes, with the bound on the bulk. No premises. -/
import Derived.Test.YteljmlodbnfhbaaKs
import Derived.Test.YteljmlodbnfhbaaArgs
import Derived.Test.YteljmlodbnfhbaaFld
import Derived.Test.YteljmlodbnfhbaaUpto
namespace Go.Proofs.Yteljmlodbnfhbaa
open Go.RowKit Go.ChangeShapes Go.WideShapes Go.ChangeAt
namespace Ks
def r8 : Rp UInt8 where
  wd := 1
  C _ _ cs x := cs = [bv x]
  len h := by rw [h]; rfl
  keep h _ := h
  more h _ := h
def get8 : B → Except Nat (UInt8 × B)
  | [] => .error 10
  | x :: r => .ok (x, r)
def c8 : Cd UInt8 where
  put x := [x]
  get := get8
  ok _ := True
  back := by intro a r _; rfl
  own := by
    intro b r a h
    cases b with
    | nil => cases h
    | cons x t => cases h; exact ⟨rfl, trivial⟩
  cut := by
    intro a m _ hm
    have : m = 0 := by simpa using hm
    subst this
    rfl
  errs := by
    intro b e h
    cases b with
    | nil => cases h; exact .inl rfl
    | cons x t => cases h
section
variable {H : Type} {enc : TypeId × Value → H} {w : World} {base : Nat} {spare : Nat → Bool} {held : Bool} {P : Program}
theorem takes_u8 {t : TypeId} (ht : P.underlying t = some (.int .u8)) (hc : P.cellsOf t = 1) : Takes P t r8 c8 := by
  refine ⟨hc, fun h => ?_⟩
  obtain ⟨n, rfl, rfl, hw⟩ := DataW.trod_int ht h
  have hw2 := bounds_u8 hw
  obtain ⟨k, rfl⟩ := Int.eq_ofNat_of_zero_le hw2.1
  refine ⟨UInt8.ofNat k, ?_, by show ([_] : B).length ≤ _; simp [Rows.uptoBulk]⟩
  show _ = [bv (UInt8.ofNat k)]
  have hk : ((UInt8.ofNat k).toNat : Int) = (k : Int) := by
    rw [UInt8.toNat_ofNat']
    omega
  unfold bv
  rw [hk]
theorem rd_state {cs : Array Value} {d : DataW H} {p : List MemPlace} (h : DataW.Trod enc Try.prog w base spare held 40 (.agg cs) d p) : ∃ a, stR.C w w.heap.size cs.toList a ∧ (stC.put a).length ≤ 10 * Rows.uptoBulk d := by
  obtain ⟨fuel, hf⟩ := h
  obtain ⟨a, h1, h2⟩ := tk_state.2 hf
  exact ⟨a, by simpa [Value.cells] using h1, h2⟩
theorem flat8 : ∀ (xs : List (List Value)) (l : B), xs.length = l.length → (∀ (k : Nat) (x : List Value) (a : UInt8), xs[k]? = some x → l[k]? = some a → x = [bv a]) → xs.flatten = l.map bv
  | [], [], _, _ => rfl
  | [], _ :: _, h, _ => by simp at h
  | _ :: _, [], h, _ => by simp at h
  | x :: xs, a :: l, h, hk => by
    rw [List.flatten_cons, flat8 xs l (by simpa using h) (fun k y b hy hb => hk (k + 1) y b (by simpa using hy) (by simpa using hb)), hk 0 x a rfl rfl]
    rfl
theorem many8 : ∀ l : B, (manyP c8 l).length = l.length
  | [] => rfl
  | a :: l => by rw [manyP_cons, List.length_append, many8 l, List.length_cons]; show 1 + _ = _; omega
theorem rd_bytes_upto {a : Option Addr} {len cap : Nat} {d : DataW H} {p : List MemPlace} (h : DataW.Trod enc Try.prog w base spare held 43 (.slice a len cap) d p) : ∃ bs : List UInt8, Rd w w.heap.size a len (bs.map bv) ∧ len ≤ cap ∧ cap ≤ maxLen ∧ len ≤ 10 * Rows.uptoBulk d := by
  obtain ⟨fuel, hf⟩ := h
  have ht : Takes Try.prog 43 (rrow r8) (Ks.row c8) := takes_row Try.underlying43 (by kernel_rfl) (by decide) (takes_u8 Try.underlying5 (by kernel_rfl))
  obtain ⟨l, h1, h2⟩ := ht.2 hf
  obtain ⟨A, c, hc, h3, h4, xs, hx1, hx2, hx3⟩ := h1
  simp [Value.cells] at hc
  obtain ⟨rfl, rfl, rfl⟩ := hc
  have e : xs.flatten = l.map bv := flat8 xs l hx1 fun k x a hx ha => hx3 k x a hx ha
  rw [e] at hx2
  refine ⟨l, by simpa [r8] using hx2, h3, h4, ?_⟩
  have h5 : ((Ks.row c8).put l).length = (numP l.length).length + (manyP c8 l).length := List.length_append
  have h6 := many8 l
  have h7 : ((Ks.row c8).put l).length ≤ 10 * Rows.uptoBulk d := h2
  omega
end
end Ks
end Go.Proofs.Yteljmlodbnfhbaa
