/- varint's add and Put: the bytes that each one makes. -/
import Derived.Test.YteljmlodbnfhbaaProg
import Derived.Test.YteljmlodbnfhbaaBase
import Derived.Test.YteljmlodbnfhbaaVm
import Derived.Test.YteljmlodbnfhbaaRm
import Derived.Test.YteljmlodbnfhbaaSml
namespace Go.Proofs.Yteljmlodbnfhbaa
open Go.RowKit
theorem bv_of {c : UInt8} {x : Int} (h : x = (c.toNat : Int)) : Value.int .u8 x = bv c := by rw [h]; rfl
theorem add_more (bs done : List UInt8) (z : Nat) : List.map bv (bs ++ done) ++ [Value.int .u8 ((z : Int) % 128 + 128)] = (bs ++ (done ++ [UInt8.ofNat (z % 128 + 128)])).map bv := by
  simp only [List.map_append, List.map_cons, List.map_nil, bv, byte_of (show z % 128 + 128 < 256 by omega)]
  simp
theorem add_last (bs done : List UInt8) (z : Nat) (h : z < 128) : List.map bv (bs ++ done) ++ [Value.int .u8 (z : Int)] = (bs ++ (done ++ numL z)).map bv := by
  rw [numL_lt h]
  simp only [List.map_append, List.map_cons, List.map_nil, bv, byte_of (show z < 256 by omega)]
  simp
theorem u64_div128 (z : Nat) (h : z < 18446744073709551616) : IntKind.u64.wrap ((z : Int) / 128) = (z : Int) / 128 := by rw [IntKind.wrap_u64]; omega
set_option maxRecDepth 100000 in
theorem add_v (base : Nat) (v : Value) (bs : List UInt8) (x : Nat) (w : World) (hown : w.ownsRow base 5 1 v (bs.map bv).length (bs.map bv)) (hb : base ≤ w.heap.size)
    (hx : x < 18446744073709551616) (hl : bs.length ≤ 100000000000000) :
    Calls Try.prog 72 #[v, .int .u64 (x : Int)] w fun e w' => ∃ v', e = .returned v' ∧ Grew w w' base 5 v v' ((bs ++ numL x).map bv) := by
  obtain ⟨i0, hi, hz0, hz1, hz2⟩ := info_parts info_u8
  have h10 := Lib.hid (numL_ten hx)
  have HX := Lib.hid hx
  clear hx
  go_enter Try.func72, Try.ntmps72
  go_wp2
  go_loopw [0, 1] (fun v' y wr => ∃ (done : List UInt8) (z : Nat), y = .int .u64 (z : Int) ∧ Hid (z < 18446744073709551616) ∧ numL x = done ++ numL z ∧ Grew w wr base 5 v v' ((bs ++ done).map bv)) (fun _ y _ => (intOf y).toNat)
  case atStart => exact ⟨[], x, rfl, HX, rfl, by simpa using Grew.refl hown⟩
  case round =>
    obtain ⟨done, z, rfl, hz, hd, hg⟩ := hrel
    have hle := numL_ne z
    have hlen : done.length + (numL z).length ≤ 10 := by have := h10.out; rw [hd, List.length_append] at this; exact this
    have HD := Lib.hid hd
    clear hd
    have hsz := hg.grown.size
    by_cases h128 : 128 ≤ z
    · have hdv := u64_div128 z hz.out
      go_wp2_with (at_builtin; refine wpList_app1 _ _ rfl (.tmp 7) (.tmp 12) _ rfl base 5 i0 (.int .u8 0) 1 Try.underlying43 hi hz0 hz1 hz2 rfl rfl u0 _ rfl hg.own rfl (by simp; omega) (by simp; omega) (by omega) ?_; intro v1 w1 hg1)
      go_roundw
      case rel =>
        rw [add_more] at hg1
        refine ⟨done ++ [UInt8.ofNat (z % 128 + 128)], z / 128, by go_num, ?_, ?_, hg.trans hg1⟩
        · have := hz.out; show z / 128 < _; omega
        · rw [HD.out, numL_ge h128]; simp
      case measure => simp [intOf]; omega
    · have hw8 : IntKind.u8.wrap (z : Int) = (z : Int) := by rw [IntKind.wrap_u8']; omega
      go_wp2_with (at_builtin; refine wpList_app1 _ _ rfl (.tmp 16) (.tmp 19) _ rfl base 5 i0 (.int .u8 0) 1 Try.underlying43 hi hz0 hz1 hz2 rfl rfl u0 _ rfl hg.own rfl (by simp; omega) (by simp; omega) (by omega) ?_; intro v1 w1 hg1)
      go_ret
      refine ⟨v1, rfl, ?_⟩
      rw [add_last _ _ _ (by omega), ← HD.out] at hg1
      exact hg.trans hg1
theorem flat_snoc {α : Type} (f : α → List UInt8) (l : List α) (k : Nat) (h : k < l.length) : (l.take (k + 1)).flatMap f = (l.take k).flatMap f ++ f l[k] := by
  have e := List.take_succ_eq_append_getElem h
  rw [e, List.flatMap_append]; simp
theorem putL_len (l : List Nat) (h : ∀ x ∈ l, x < 18446744073709551616) : (putL l).length ≤ 10 * l.length := by
  induction l with
  | nil => simp [putL]
  | cons x r ih =>
    have h1 := ih (fun y hy => h y (List.mem_cons_of_mem _ hy))
    have h2 := numL_ten (h x (List.mem_cons_self ..))
    simp only [putL, List.flatMap_cons, List.length_append, List.length_cons] at h1 ⊢
    omega
theorem flat_take_len {α : Type} (f : α → List UInt8) (l : List α) (k : Nat) : ((l.take k).flatMap f).length ≤ (l.flatMap f).length := by
  conv => rhs; rw [← List.take_append_drop k l]
  rw [List.flatMap_append, List.length_append]; omega
theorem flat_at_len {α : Type} (f : α → List UInt8) (l : List α) (k : Nat) (h : k < l.length) : ((l.take k).flatMap f).length + (f l[k]).length ≤ (l.flatMap f).length := by
  have := flat_take_len f l (k + 1)
  rw [flat_snoc f l k h, List.length_append] at this
  exact this
set_option maxRecDepth 100000 in
theorem put_v (A : Option Addr) (n cap B : Nat) (l : List Nat) (w : World) (hr : Rd w B A n (l.map nv)) (hB : B ≤ w.heap.size) (hn : n ≤ 1000000000000) (hx : ∀ x ∈ l, x < 18446744073709551616) :
    Calls Try.prog 61 #[.slice A n cap] w fun e w' => ∃ v', e = .returned v' ∧ Grew w w' w.heap.size 5 (.slice none 0 0) v' ((putL l).map bv) := by
  have hlen := Lib.hid hr.len_map
  have HX := Lib.hid hx
  have hpl := Lib.hid (putL_len l hx)
  have HR := Lib.hid hr
  clear hx hr
  go_enter Try.func61, Try.ntmps61
  go_wp2
  go_loopw [3, 8] (fun v i wr => ∃ k : Nat, k ≤ n ∧ i = .int .i64 (k : Int) ∧ Grew w wr w.heap.size 5 (.slice none 0 0) v ((putL (l.take k)).map bv)) (fun _ i _ => n - (intOf i).toNat)
  case atStart => exact ⟨0, by omega, rfl, Grew.nil _ _ _⟩
  case round =>
    obtain ⟨k, hk, rfl, hg⟩ := hrel
    have hsz := hg.grown.size
    by_cases hlt : k < n
    · obtain ⟨ad, hl, rfl, hb, hc⟩ := (HR.out.below (hg.belowNil.mono hB)).at_map (k := k) hlt
      have hxk : l[k] < 18446744073709551616 := HX.out _ (List.getElem_mem hl)
      have hbl : (putL (l.take k)).length ≤ 100000000000000 := by
        have h1 := flat_take_len numL l k
        have h2 := hpl.out
        have h3 := hlen.out
        unfold putL at h2 ⊢; omega
      obtain ⟨x, hxx⟩ : ∃ x, x = l[k] := ⟨_, rfl⟩
      rw [← hxx] at hxk hc
      have hc' : wr.cell? (ad.add k) = some (.int .u64 (x : Int)) := hc
      have HXX := Lib.hid hxx
      have HXK := Lib.hid hxk
      have HG := Lib.hid hg
      clear hc hxx hxk hg
      go_wp2_with (go_at_call 72; refine (add_v w.heap.size _ (putL (l.take k)) x wr HG.out.own hsz HXK.out hbl).mono ?_; rintro e w1 ⟨v1, rfl, hg1⟩)
      go_roundw
      case rel =>
        refine ⟨k + 1, by omega, by go_num, ?_⟩
        have e : putL (l.take (k + 1)) = putL (l.take k) ++ numL x := by rw [HXX.out]; exact flat_snoc numL l k hl
        rw [e]
        exact HG.out.trans hg1
      case measure => simp [intOf]; omega
    · have hkn : k = n := by omega
      have e : l.take k = l := by rw [List.take_of_length_le]; have := hlen.out; omega
      rw [e] at hg
      have HE := Lib.hid e
      clear e hkn
      go_wp2
      go_ret
      exact ⟨_, rfl, hg⟩
end Go.Proofs.Yteljmlodbnfhbaa
