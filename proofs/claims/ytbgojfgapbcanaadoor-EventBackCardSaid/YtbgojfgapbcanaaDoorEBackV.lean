/- EventBack, all ways. -/
import Derived.Test.YtbgojfgapbcanaaDoorEBackW
namespace Go.Proofs.YtbgojfgapbcanaaDoor
namespace eventBack
open Go.RowKit
theorem sv_of (l : List ByteArray) : l.map Value.string = (l.map fun s => s.data.toList).map sv := by
  rw [List.map_map]; rfl
theorem all (w : World) (hN : Names w) (k n m : Int) (t : List UInt8) (A : Option Addr) (len cap : Nat) (l : List (List UInt8)) (ak ae an am : Int) (at_ : List UInt8) (aA : Option Addr) (alen acap : Nat) (al : List (List UInt8)) (asg : Int) (cut more : Int)
    (hr : Rd w w.heap.size A len (l.map sv)) (har : Rd w w.heap.size aA alen (al.map sv)) (hcap : len ≤ 2 ^ 63 - 1) (hacap : alen ≤ 2 ^ 63 - 1)
    (hnb : -9223372036854775808 ≤ n ∧ n ≤ 9223372036854775807) (hmb : -9223372036854775808 ≤ m ∧ m ≤ 9223372036854775807) (hanb : -9223372036854775808 ≤ an ∧ an ≤ 9223372036854775807) (hamb : -9223372036854775808 ≤ am ∧ am ≤ 9223372036854775807)
    (hcut : 0 ≤ cut ∧ cut ≤ 65535) (hmore : (Lit.int .u8 more).wf = true) :
    Calls Tryd.prog 5 #[reqV k n m t A len cap, ansV ak ae an am at_ aA alen acap asg, .int .u16 cut, .int .u8 more] w fun r w' => r = .returned (.bool true) ∧ Below w.heap.size w w' := by
  by_cases h1 : fewB len l = true
  case neg => exact e1 w hN k n m t A len cap l ak ae an am at_ aA alen acap al asg cut more hr har hcap hacap (by simpa using h1)
  by_cases h2 : fewB alen al = true
  case neg => exact e2 w hN k n m t A len cap l ak ae an am at_ aA alen acap al asg cut more hr har hcap hacap h1 (by simpa using h2)
  by_cases h3 : 500 < t.length
  · exact e3 w hN k n m t A len cap l ak ae an am at_ aA alen acap al asg cut more hr har hcap hacap h1 h2 h3
  by_cases h4 : 500 < at_.length
  · exact e4 w hN k n m t A len cap l ak ae an am at_ aA alen acap al asg cut more hr har hcap hacap h1 h2 h3 h4
  by_cases h5 : rightB k len = true
  case neg => exact e5 w hN k n m t A len cap l ak ae an am at_ aA alen acap al asg cut more hr har hcap hacap h1 h2 h3 h4 (by simpa using h5)
  by_cases h6 : fitsB ak ak ae asg alen = true
  case neg => exact e6 w hN k n m t A len cap l ak ae an am at_ aA alen acap al asg cut more hr har hcap hacap h1 h2 h3 h4 h5 (by simpa using h6)
  exact main w hN k n m t A len cap l ak ae an am at_ aA alen acap al asg cut more hr har hcap hacap h1 h2 h3 h4 h5 h6 hnb hmb hanb hamb hcut hmore
theorem walk (w : World) (hN : Names w) (k : Int) (_hk : (Lit.int .i64 k).wf = true) (n : Int) (hn : (Lit.int .i64 n).wf = true) (m : Int) (hm : (Lit.int .i64 m).wf = true) (t : ByteArray) (_ht : t.size ≤ maxLen)
    (A : Option Addr) (len cap : Nat) (l : List ByteArray) (hl : Rd w w.heap.size A len (l.map Value.string) ∧ (∀ s ∈ l, s.size ≤ maxLen) ∧ len ≤ cap ∧ cap ≤ maxLen)
    (ak : Int) (_hak : (Lit.int .i64 ak).wf = true) (ae : Int) (_hae : (Lit.int .i64 ae).wf = true) (an : Int) (han : (Lit.int .i64 an).wf = true) (am : Int) (ham : (Lit.int .i64 am).wf = true) (at_ : ByteArray) (_hat : at_.size ≤ maxLen)
    (aA : Option Addr) (alen acap : Nat) (al : List ByteArray) (hal : Rd w w.heap.size aA alen (al.map Value.string) ∧ (∀ s ∈ al, s.size ≤ maxLen) ∧ alen ≤ acap ∧ acap ≤ maxLen) (asg : Int) (_has : (Lit.int .i64 asg).wf = true)
    (cut : Int) (hcut : (Lit.int .u16 cut).wf = true) (more : Int) (hmore : (Lit.int .u8 more).wf = true) :
    Calls Tryd.prog 5 #[.agg #[.int .i64 k, .int .i64 n, .int .i64 m, .string t, .slice A len cap], .agg #[.int .i64 ak, .int .i64 ae, .int .i64 an, .int .i64 am, .string at_, .slice aA alen acap, .int .i64 asg], .int .u16 cut, .int .u8 more] w fun r w' => r = .returned (.bool true) ∧ Below w.heap.size w w' := by
  obtain ⟨hl1, _, hl2, hl3⟩ := hl
  obtain ⟨ha1, _, ha2, ha3⟩ := hal
  rw [sv_of] at hl1 ha1
  unfold maxLen at hl3 ha3
  have h := all w hN k n m t.data.toList A len cap _ ak ae an am at_.data.toList aA alen acap _ asg cut more hl1 ha1 (by omega) (by omega) (bounds_i64 hn) (bounds_i64 hm) (bounds_i64 han) (bounds_i64 ham) (by have := bounds_u16 hcut; omega) hmore
  unfold reqV ansV at h
  rwa [mkS_of, mkS_of] at h
end eventBack
end Go.Proofs.YtbgojfgapbcanaaDoor
