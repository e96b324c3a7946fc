/- varint's Open, and the document's answers: Num, Take, Next, Word. -/
import Derived.Test.YtnffeeipnabdoaaRdr
namespace Go.Proofs.Ytnffeeipnabdoaa
open Go.RowKit
theorem own_slice {w : World} {base n : Nat} {e : TypeId} {v : Value} {xs : List Value} (h : w.ownsRow base e 1 v n xs) :
    ∃ A c, v = .slice A n c ∧ n ≤ c ∧ Rd w w.heap.size A n xs ∧ (∀ ad, A = some ad → base ≤ ad.block ∧ ad.block < w.heap.size) := by
  rcases h.2 with ⟨rfl, rfl⟩ | ⟨g, cap, cur, rfl, hb, hh, hnc, _⟩
  · exact ⟨none, 0, rfl, Nat.le_refl _, by have := h.1; simp at this; subst this; exact Rd.nil_, fun ad h => by cases h⟩
  · exact ⟨_, _, rfl, hnc, Rd.of_own h, fun ad he => by injection he with he; subst he; exact ⟨hb, (Array.getElem?_eq_some_iff.1 hh).1⟩⟩
theorem own_map {α : Type} {f : α → Value} {w : World} {base : Nat} {e : TypeId} {v : Value} {xs : List α} (h : w.ownsRow base e 1 v (xs.map f).length (xs.map f)) :
    ∃ A c, v = .slice A xs.length c ∧ xs.length ≤ c ∧ Rd w w.heap.size A xs.length (xs.map f) ∧ (∀ ad, A = some ad → base ≤ ad.block ∧ ad.block < w.heap.size) := by
  rw [List.length_map] at h
  exact own_slice h
theorem open_v (A : Option Addr) (n cap B : Nat) (bs : List UInt8) (w : World) (hr : Rd w B A n (bs.map bv)) (hn : n ≤ 140737488351232) :
    Calls Try.prog 17 #[.slice A n cap] w fun r w' => ∃ g, r = .returned (.pointer (some ⟨g, 0, none⟩)) ∧ Rdr w' w'.heap.size g bs 0 ∧ Below w.heap.size w w' ∧ w.heap.size ≤ g := by
  obtain ⟨i0, hi, hz0, hz1, hz2⟩ := info_parts info_u8
  have HR := Lib.hid hr
  have hl := Lib.hid hr.len
  clear hr
  go_enter Try.func17, Try.ntmps17
  go_wp2_with (at_builtin; refine wpList_appN w rfl (.const (.slice none 0 0)) (.tmp 3) _ rfl w.heap.size 5 i0 (.int .u8 0) 1 Try.underlying23 hi hz0 hz1 hz2 rfl (.slice none 0 0) [] rfl (World.ownsRow_nil w _ _ 1) B A n cap (bs.map bv) rfl HR.out (bv_one bs) (by simp; omega) (by simp; omega) (Nat.le_refl _) ?_; intro v1 w1 hg1; have hsz := hg1.grown.size; obtain ⟨A1, c1, rfl, h1, h2, h3⟩ := own_slice hg1.own; have H3 := Lib.hid h3; have H2 := Lib.hid h2; clear h3 h2)
  go_ret
  have hln : ([] ++ bs.map bv).length = n := by simpa using hl.out
  rw [List.nil_append] at hln
  have h2 := H2.out
  rw [List.nil_append, hln] at h2
  refine ⟨w1.heap.size, rfl, ⟨A1, n, c1, by rw [heap_alloc_new]; simp [hl.out], by simp [hln] at h1; exact h1, hn, ?_, fun ad e => ?_, by simp⟩, hg1.belowNil.alloc hsz _, hsz⟩
  · exact (h2.below ((Below.refl _ _).alloc (Nat.le_refl _) _)).more (by simp)
  · have := H3.out ad e; omega
theorem str1 (W : World) (n : Nat) (h : n < 256) (cap : Nat) : (convert 23 9 (.slice (some ⟨W.heap.size, 0, none⟩) 1 cap)).run Try.prog (W.alloc (.cells #[.int .u8 (n : Int)] 5)) = .ok (.string (mkS [UInt8.ofNat n])) (W.alloc (.cells #[.int .u8 (n : Int)] 5)) := by
  refine run_str_of (bs := [UInt8.ofNat n]) (B := W.heap.size + 1) ⟨rfl, fun _ => ⟨_, rfl, Nat.lt_succ_self _, fun j y hy => ?_⟩⟩ _ _ 5 Try.underlying23 Try.underlying5 Try.underlying9 cap
  match j, hy with
  | 0, hy => simp only [List.map_cons, List.map_nil, List.getElem?_cons_zero, Option.some.injEq, bv, byte_of h] at hy; subst hy; simp [Addr.add]
set_option maxHeartbeats 400000 in
theorem refNum_v (x : Nat) (w : World) (hx : x < 18446744073709551616) :
    Calls Try.prog 10 #[.int .u64 (x : Int)] w fun e w' => e = .returned (.string (mkS (numL x))) ∧ Below w.heap.size w w' := by
  have h10 := Lib.hid (numL_ten hx)
  have HX := Lib.hid hx
  clear hx
  go_enter Try.func10, Try.ntmps10
  go_wp2
  go_loopw [0, 3] (fun y s wr => ∃ (done : List UInt8) (z : Nat), y = .int .u64 (z : Int) ∧ s = .string (mkS done) ∧ Hid (z < 18446744073709551616) ∧ numL x = done ++ numL z ∧ Below w.heap.size w wr) (fun y _ _ => (intOf y).toNat)
  case atStart => exact ⟨[], x, rfl, rfl, HX, rfl, Below.refl _ _⟩
  case round =>
    obtain ⟨done, z, rfl, rfl, hz, hd, hb⟩ := hrel
    have hle := numL_ne z
    have hlen : done.length + (numL z).length ≤ 10 := by have := h10.out; rw [hd, List.length_append] at this; exact this
    have hs1 := mkS_size done
    have hsz := hb.size
    have HD := Lib.hid hd
    clear hd
    by_cases h128 : 128 ≤ z
    · have hdv := u64_div128 z hz.out
      obtain ⟨c, hc⟩ : ∃ c, c = UInt8.ofNat (128 + z % 128) := ⟨_, rfl⟩
      have hcv : ∀ (W : World) (cap : Nat), (convert 23 9 (.slice (some ⟨W.heap.size, 0, none⟩) 1 cap)).run Try.prog (W.alloc (.cells #[.int .u8 (128 + (z : Int) % 128)] 5)) = .ok (.string (mkS [c])) (W.alloc (.cells #[.int .u8 (128 + (z : Int) % 128)] 5)) := fun W cap => by
        rw [hc]; have := str1 W (128 + z % 128) (by omega) cap
        simpa using this
      have hs2 := mkS_size [c]
      rw [List.length_singleton] at hs2
      have HC := Lib.hid hc
      clear hc
      have h7 : (127 : Int) < (z : Int) := by omega
      go_wp2
      go_roundw
      case rel =>
        refine ⟨done ++ [c], z / 128, by go_num, by rw [mkS_add], ?_, ?_, hb.alloc hsz _⟩
        · have := hz.out; show z / 128 < _; omega
        · rw [HD.out, numL_ge h128, Nat.add_comm, HC.out]; simp
      case measure => simp [intOf]; omega
    · have hw8 : IntKind.u8.wrap (z : Int) = (z : Int) := by rw [IntKind.wrap_u8']; omega
      obtain ⟨c, hc⟩ : ∃ c, c = UInt8.ofNat z := ⟨_, rfl⟩
      have hcv := fun W => str1 W z (by omega)
      rw [← hc] at hcv
      have HC := Lib.hid hc
      clear hc
      have hs2 := mkS_size [c]
      rw [List.length_singleton] at hs2
      have h7 : ¬ (127 : Int) < (z : Int) := by omega
      go_wp2
      go_ret
      refine ⟨?_, hb.alloc hsz _⟩
      rw [HD.out, numL_lt (by omega), ← mkS_add, ← HC.out]; rfl
end Go.Proofs.Ytnffeeipnabdoaa
