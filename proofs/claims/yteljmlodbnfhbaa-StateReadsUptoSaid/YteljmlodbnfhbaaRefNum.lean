/- The document's Num. -/
import Derived.Test.YteljmlodbnfhbaaPutN
namespace Go.Proofs.Yteljmlodbnfhbaa
open Go.RowKit
set_option maxHeartbeats 400000 in
theorem refNum_v (x : Nat) (w : World) (hx : x < 18446744073709551616) :
    Calls Try.prog 42 #[.int .u64 (x : Int)] w fun e w' => e = .returned (.string (mkS (numL x))) ∧ Below w.heap.size w w' := by
  have h10 := Lib.hid (numL_ten hx)
  have HX := Lib.hid hx
  clear hx
  go_enter Try.func42, Try.ntmps42
  go_wp2
  go_loopw [0, 3] (fun y s wr => ∃ (done : List UInt8) (z : Nat), y = .int .u64 (z : Int) ∧ s = .string (mkS done) ∧ Hid (z < 18446744073709551616) ∧ numL x = done ++ numL z ∧ Below w.heap.size w wr) (fun y _ _ => (intOf y).toNat)
  case atStart => exact ⟨[], x, rfl, rfl, HX, rfl, Below.refl _ _⟩
  case round =>
    obtain ⟨done, z, rfl, rfl, hz, hd, hb⟩ := hrel
    have hle := numL_ne z
    have hlen : done.length + (numL z).length ≤ 10 := by have := h10.out; rw [hd, List.length_append] at this; exact this
    have hs1 := mkS_size done
    have hsz := hb.size
    have HD := Lib.hid hd
    clear hd
    by_cases h128 : 128 ≤ z
    · have hdv := u64_div128 z hz.out
      obtain ⟨c, hc⟩ : ∃ c, c = UInt8.ofNat (128 + z % 128) := ⟨_, rfl⟩
      have hcv : ∀ (W : World) (cap : Nat), (convert 43 9 (.slice (some ⟨W.heap.size, 0, none⟩) 1 cap)).run Try.prog (W.alloc (.cells #[.int .u8 (128 + (z : Int) % 128)] 5)) = .ok (.string (mkS [c])) (W.alloc (.cells #[.int .u8 (128 + (z : Int) % 128)] 5)) := fun W cap => by
        rw [hc]; have := str1 W (128 + z % 128) (by omega) cap
        simpa using this
      have hs2 := mkS_size [c]
      rw [List.length_singleton] at hs2
      have HC := Lib.hid hc
      clear hc
      have h7 : (127 : Int) < (z : Int) := by omega
      go_wp2
      go_roundw
      case rel =>
        refine ⟨done ++ [c], z / 128, by go_num, by rw [mkS_add], ?_, ?_, hb.alloc hsz _⟩
        · have := hz.out; show z / 128 < _; omega
        · rw [HD.out, numL_ge h128, Nat.add_comm, HC.out]; simp
      case measure => simp [intOf]; omega
    · have hw8 : IntKind.u8.wrap (z : Int) = (z : Int) := by rw [IntKind.wrap_u8']; omega
      obtain ⟨c, hc⟩ : ∃ c, c = UInt8.ofNat z := ⟨_, rfl⟩
      have hcv := fun W => str1 W z (by omega)
      rw [← hc] at hcv
      have HC := Lib.hid hc
      clear hc
      have hs2 := mkS_size [c]
      rw [List.length_singleton] at hs2
      have h7 : ¬ (127 : Int) < (z : Int) := by omega
      go_wp2
      go_ret
      refine ⟨?_, hb.alloc hsz _⟩
      rw [HD.out, numL_lt (by omega), ← mkS_add, ← HC.out]; rfl
end Go.Proofs.Yteljmlodbnfhbaa
