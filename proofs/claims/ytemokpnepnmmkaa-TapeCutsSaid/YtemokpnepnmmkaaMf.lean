/- crc's New, Add, Of and Tail: what each one tells. -/
import Derived.Test.YtemokpnepnmmkaaMa
import Derived.Test.YtemokpnepnmmkaaCm
import Derived.Laws.BitsAllLaws
namespace Go.Proofs.Ytemokpnepnmmkaa
open Go.RowKit
theorem stpN_succ (n x : Nat) : stpN (n + 1) x = stp (stpN n x) := by rw [stpN_add n 1 x]; rfl
theorem and_one (x : Nat) (hx : x < 4294967296) : bits .and .u32 (x : Int) 1 = ((x % 2 : Nat) : Int) := by
  have := u32_and_nat x 1 hx (by omega)
  rw [Nat.and_one_is_mod] at this
  exact this
theorem halve_stp (y : Nat) (hlt : y < 4294967296) : (y % 2 = 1 → bits .xor .u32 ((y : Int) / 2) 3988292384 = ((stp y : Nat) : Int)) ∧ (¬ y % 2 = 1 → bits .xor .u32 ((y : Int) / 2) 0 = ((stp y : Nat) : Int)) := by
  constructor
  · intro ho
    have := u32_xor_nat (y / 2) poly (by omega) (by unfold poly; omega)
    rw [stp, if_pos ho, ← this]; unfold poly; simp
  · intro ho
    have := u32_xor_nat (y / 2) 0 (by omega) (by omega)
    rw [stp, if_neg ho, ← this]; simp
theorem and_poly_ones : bits .and .u32 3988292384 4294967295 = 3988292384 := by decide +kernel
theorem and_poly_zero : bits .and .u32 3988292384 0 = 0 := by decide +kernel
set_option maxRecDepth 100000 in
theorem halve_v (x : Nat) (w : World) (hx : x < 4294967296) :
    Calls Try.prog 70 #[.int .u32 (x : Int)] w fun e w' => e = .returned (.int .u32 (stpN 8 x : Int)) ∧ w = w' := by
  have HX := Lib.hid hx
  clear hx
  go_enter Try.func70, Try.ntmps70
  go_wp2
  go_loop [0, 4] (fun y i => ∃ k : Nat, k ≤ 8 ∧ i = .int .i64 (k : Int) ∧ y = .int .u32 (stpN k x : Int)) (fun _ i => 8 - (intOf i).toNat)
  case atStart => exact ⟨0, by omega, rfl, rfl⟩
  case round =>
    obtain ⟨k, hk, rfl, rfl⟩ := hrel
    by_cases hk8 : k < 8
    · have hs := stpN_succ k x
      obtain ⟨y, hy⟩ : ∃ y, y = stpN k x := ⟨_, rfl⟩
      have hlt : y < 4294967296 := by rw [hy]; exact stpN_lt k HX.out
      rw [← hy] at hs ⊢
      have HS := Lib.hid hs
      clear hy hs
      have ha := and_one y hlt
      have hp1 := and_poly_ones
      have hp0 := and_poly_zero
      by_cases ho : y % 2 = 1
      · rw [ho] at ha
        have hx1 := (halve_stp y hlt).1 ho
        go_wp2
        go_round
        case rel => exact ⟨k + 1, by omega, by go_num, by rw [HS.out]⟩
        case measure => simp [intOf]; omega
      · have hx1 := (halve_stp y hlt).2 ho
        rw [show y % 2 = 0 by omega] at ha
        go_wp2
        go_round
        case rel => exact ⟨k + 1, by omega, by go_num, by rw [HS.out]⟩
        case measure => simp [intOf]; omega
    · have : k = 8 := by omega
      subst this
      go_wp2
      go_ret
      exact ⟨rfl, rfl⟩
theorem new_v (w : World) : Calls Try.prog 56 #[] w fun e w' => e = .returned (.int .u32 0) ∧ w = w' := by
  go_enter Try.func56, Try.ntmps56
  go_wp2
  go_ret
  exact ⟨rfl, rfl⟩
theorem sumL_snoc (x : Nat) (l : List UInt8) (k : Nat) (h : k < l.length) : sumL x (l.take (k + 1)) = sumB (sumL x (l.take k)) l[k] := by
  rw [List.take_succ_eq_append_getElem h, sumL_append]; rfl
theorem flat_snoc' (ls : List (List UInt8)) (k : Nat) (h : k < ls.length) : (ls.take (k + 1)).flatten = (ls.take k).flatten ++ ls[k] := by
  rw [List.take_succ_eq_append_getElem h, List.flatten_append]; simp
theorem xor_ones (x : Nat) (h : x < 4294967296) : bits .xor .u32 (x : Int) 4294967295 = ((4294967295 - x : Nat) : Int) := by
  rw [not32 h]; exact u32_xor_nat x 4294967295 h (by omega)
set_option maxRecDepth 100000 in
theorem sumAdd_v (s : Nat) (A : Option Addr) (n cap B : Nat) (ls : List (List UInt8)) (w : World) (hr : RdL w B A n ls) (hs : s < 4294967296) (hn : n ≤ 140737488351232) :
    Calls Try.prog 57 #[.int .u32 (s : Int), .slice A n cap] w fun e w' => e = .returned (.int .u32 ((4294967295 - sumL (4294967295 - s) ls.flatten : Nat) : Int)) ∧ w = w' := by
  have HR := Lib.hid hr
  have hx0 := xor_ones s hs
  have hx0l : 4294967295 - s < 4294967296 := by omega
  generalize 4294967295 - s = x0 at hx0 hx0l ⊢
  have HX := Lib.hid hx0l
  clear hr hx0l
  go_enter Try.func57, Try.ntmps57
  go_wp2
  go_loop [5, 14] (fun y i => ∃ k : Nat, k ≤ n ∧ i = .int .i64 (k : Int) ∧ y = .int .u32 (sumL x0 (ls.take k).flatten : Int)) (fun _ i => n - (intOf i).toNat)
  case atStart => exact ⟨0, by omega, rfl, rfl⟩
  case round =>
    obtain ⟨k, hk, rfl, rfl⟩ := hrel
    have hl := HR.out.1
    by_cases hkn : k < n
    · obtain ⟨ad, A', n', c', rfl, hb, hc, hr', hcm⟩ := HR.out.2 k (by omega)
      have HF := Lib.hid (flat_snoc' ls k (by omega))
      obtain ⟨row, hrow⟩ : ∃ row, row = ls[k]'(by omega) := ⟨_, rfl⟩
      obtain ⟨y, hy⟩ : ∃ y, y = sumL x0 (ls.take k).flatten := ⟨_, rfl⟩
      have hyl : y < 4294967296 := by rw [hy]; exact sumL_lt _ HX.out
      have HS : Hid (sumL x0 (ls.take (k + 1)).flatten = sumL y row) := by rw [HF.out, sumL_append, ← hy, hrow]; exact Lib.hid rfl
      rw [← hrow] at hr'
      rw [← hy]
      have HYL := Lib.hid hyl
      have HR' := Lib.hid hr'
      unfold maxLen at hcm
      clear hy hrow hyl hr' HF
      go_wp2
      go_loop [5, 20] (fun z i => ∃ m : Nat, m ≤ n' ∧ i = .int .i64 (m : Int) ∧ z = .int .u32 (sumL y (row.take m) : Int)) (fun _ i => n' - (intOf i).toNat)
      case atStart => exact ⟨0, by omega, rfl, rfl⟩
      case round =>
        obtain ⟨m, hm, rfl, rfl⟩ := hrel
        by_cases hmn : m < n'
        · obtain ⟨ad', hml, rfl, hb', hc'⟩ := HR'.out.byte (k := m) hmn
          have HS' := Lib.hid (sumL_snoc y row m hml)
          obtain ⟨c, hcc⟩ : ∃ c, c = row[m] := ⟨_, rfl⟩
          obtain ⟨z, hz⟩ : ∃ z, z = sumL y (row.take m) := ⟨_, rfl⟩
          have hzl : z < 4294967296 := by rw [hz]; exact sumL_lt _ HYL.out
          have hc256 : c.toNat < 256 := UInt8.toNat_lt _
          have hxx := u32_xor_nat z c.toNat hzl (by omega)
          have hxl : z ^^^ c.toNat < 4294967296 := Nat.xor_lt_two_pow (n := 32) hzl (by omega)
          have hS2 : Hid (sumL y (row.take (m + 1)) = stpN 8 (z ^^^ c.toNat)) := by rw [HS'.out, ← hz, ← hcc]; exact Lib.hid rfl
          rw [← hcc] at hc'
          have hc2 : w.cell? (ad'.add m) = some (.int .u8 (c.toNat : Int)) := hc'
          rw [← hz]
          clear hcc hz HS' hc'
          generalize z ^^^ c.toNat = zc at hxx hxl hS2
          have HXL := Lib.hid hxl
          clear hxl
          go_wp2_with (go_at_call 70; (with_reducible refine (halve_v _ _ HXL.out).mono ?_); rintro e w' ⟨rfl, rfl⟩)
          go_round
          case rel => exact ⟨m + 1, by omega, by go_num, by rw [hS2.out]⟩
          case measure => simp [intOf]; omega
        · have hmn' : m = n' := by omega
          have e : row.take m = row := by rw [List.take_of_length_le]; have := HR'.out.len; omega
          rw [e, ← HS.out]
          clear e
          go_wp2
          go_round
          case rel => exact ⟨k + 1, by omega, by go_num, rfl⟩
          case measure => simp [intOf]; omega
    · have e : ls.take k = ls := by rw [List.take_of_length_le]; omega
      rw [e]
      have hxl := sumL_lt ls.flatten HX.out
      have hx9 := xor_ones _ hxl
      have HXL := Lib.hid hxl
      clear e hxl
      go_wp2
      go_ret
      exact ⟨rfl, rfl⟩
theorem flat_one (l : List UInt8) : [l].flatten = l := by simp
theorem sumAdd0_v (A : Option Addr) (n cap B : Nat) (ls : List (List UInt8)) (w : World) (hr : RdL w B A n ls) (hn : n ≤ 140737488351232) :
    Calls Try.prog 57 #[.int .u32 0, .slice A n cap] w fun e w' => e = .returned (.int .u32 (crcL ls.flatten : Int)) ∧ w = w' := sumAdd_v 0 A n cap B ls w hr (by omega) hn
set_option maxRecDepth 100000 in
theorem crcOf_v (A : Option Addr) (n cap B : Nat) (bs : List UInt8) (w : World) (hr : Rd w B A n (bs.map bv)) (hB : B ≤ w.heap.size) (hn : n ≤ maxLen) :
    Calls Try.prog 46 #[.slice A n cap] w fun e w' => e = .returned (.int .u32 (crcL bs : Int)) ∧ Below w.heap.size w w' := by
  have HR := Lib.hid (RdL.one (c := cap) hr hB hn 28)
  have hb := Lib.hid ((Below.refl w.heap.size w).alloc (Nat.le_refl _) (.cells #[.slice A n cap] 28))
  clear hr
  go_enter Try.func46, Try.ntmps46
  go_wp2_with (first
    | (go_at_call 56; (with_reducible refine (new_v _).mono ?_); rintro e w' ⟨rfl, rfl⟩)
    | (go_at_call 57; (with_reducible refine (sumAdd0_v _ _ _ _ [bs] _ HR.out (by omega)).mono ?_); rintro e w' ⟨rfl, rfl⟩; rw [flat_one]))
  go_ret
  exact ⟨rfl, hb.out⟩
/-- Add with one row, that the call lays. -/
theorem sumAdd1_v (s : Nat) (A : Option Addr) (n c B N : Nat) (l : List UInt8) (W : World) (h : Rd W B A n (l.map bv)) (hB : B ≤ W.heap.size) (hn : n ≤ maxLen) (hs : s < 4294967296) (hN : N = W.heap.size) :
    Calls Try.prog 57 #[.int .u32 (s : Int), .slice (some ⟨N, 0, none⟩) 1 1] (W.alloc (.cells #[.slice A n c] 28)) fun e w' => e = .returned (.int .u32 ((4294967295 - sumL (4294967295 - s) l : Nat) : Int)) ∧ W.alloc (.cells #[.slice A n c] 28) = w' := by
  subst hN
  have := sumAdd_v s _ 1 1 _ [l] _ (RdL.one (c := c) h hB hn 28) hs (by omega)
  rw [flat_one] at this
  exact this
theorem sumAddNew_v (A : Option Addr) (n c B N : Nat) (l : List UInt8) (W : World) (h : Rd W B A n (l.map bv)) (hB : B ≤ W.heap.size) (hn : n ≤ maxLen) (hN : N = W.heap.size) :
    Calls Try.prog 57 #[.int .u32 0, .slice (some ⟨N, 0, none⟩) 1 1] (W.alloc (.cells #[.slice A n c] 28)) fun e w' => e = .returned (.int .u32 (crcL l : Int)) ∧ W.alloc (.cells #[.slice A n c] 28) = w' := sumAdd1_v 0 A n c B N l W h hB hn (by omega) hN
theorem tailL_take (x k : Nat) (h4 : k < 4) : (tailL x).take (k + 1) = (tailL x).take k ++ [UInt8.ofNat (x / 256 ^ k % 256)] := by
  have hc : k = 0 ∨ k = 1 ∨ k = 2 ∨ k = 3 := by omega
  rcases hc with rfl | rfl | rfl | rfl <;> simp [tailL]
theorem tail_byte (x k : Nat) : Value.int .u8 ((x : Int) / 2 ^ (8 * k) % 256) = bv (UInt8.ofNat (x / 256 ^ k % 256)) := by
  have h1 : (UInt8.ofNat (x / 256 ^ k % 256)).toNat = x / 256 ^ k % 256 := by simp
  have hp : (2 : Int) ^ (8 * k) = ((256 ^ k : Nat) : Int) := by rw [Int.pow_mul]; simp
  rw [bv, h1, hp]
  simp
set_option maxRecDepth 100000 in
theorem tail_v (x : Nat) (w : World) (_ : x < 4294967296) :
    Calls Try.prog 45 #[.int .u32 (x : Int)] w fun e w' => ∃ v', e = .returned v' ∧ Grew w w' w.heap.size 5 (.slice none 0 0) v' ((tailL x).map bv) := by
  obtain ⟨i0, hi, hz0, hz1, hz2⟩ := info_parts info_u8
  go_enter Try.func45, Try.ntmps45
  go_wp2
  go_loopw [3, 5] (fun v i wr => ∃ k : Nat, k ≤ 4 ∧ i = .int .i64 (k : Int) ∧ Grew w wr w.heap.size 5 (.slice none 0 0) v (((tailL x).take k).map bv)) (fun _ i _ => 4 - (intOf i).toNat)
  case atStart => exact ⟨0, by omega, rfl, Grew.nil _ _ _⟩
  case round =>
    obtain ⟨k, hk, rfl, hg⟩ := hrel
    have hsz := hg.grown.size
    by_cases h4 : k < 4
    · have hl : (((tailL x).take k).map bv).length ≤ 4 := by simp; omega
      have HT := Lib.hid (tailL_take x k h4)
      have HL := Lib.hid hl
      clear hl
      go_wp2_with (at_builtin; refine wpList_app1 _ _ rfl (.tmp 8) (.tmp 14) _ rfl w.heap.size 5 i0 (.int .u8 0) 1 Try.underlying28 hi hz0 hz1 hz2 rfl rfl u3 _ rfl hg.own rfl (by have := HL.out; omega) (by have := HL.out; omega) hsz ?_; intro v1 w1 hg1)
      go_roundw
      case rel =>
        refine ⟨k + 1, by omega, by go_num, ?_⟩
        rw [HT.out, List.map_append]
        rw [tail_byte] at hg1
        exact hg.trans hg1
      case measure => simp [intOf]; omega
    · have h44 : k = 4 := by omega
      subst h44
      go_wp2
      go_ret
      exact ⟨_, rfl, hg⟩
end Go.Proofs.Ytemokpnepnmmkaa
/- The document's Of and Tail of chapter 2: what each one tells. -/
namespace Go.Proofs.Ytemokpnepnmmkaa
open Go.RowKit
theorem mod_stp (y : Nat) (hlt : y < 4294967296) : (y % 2 = 1 → bits .xor .u32 ((y : Int) / 2) 3988292384 = ((stp y : Nat) : Int)) ∧ (¬ y % 2 = 1 → ((y : Int) / 2) = ((stp y : Nat) : Int)) := by
  refine ⟨(halve_stp y hlt).1, fun ho => ?_⟩
  rw [stp, if_neg ho]; simp
set_option maxRecDepth 100000 in
theorem refCrc_v (s : ByteArray) (w : World) (hn : s.size ≤ 140737488351232) :
    Calls Try.prog 27 #[.string s] w fun e w' => e = .returned (.int .u32 (crcL s.data.toList : Int)) ∧ w = w' := by
  have hl : s.data.toList.length = s.size := rfl
  have HL := Lib.hid hl
  clear hl
  go_enter Try.func27, Try.ntmps27
  go_wp2
  go_loop [3, 4] (fun y i => ∃ k : Nat, k ≤ s.size ∧ i = .int .i64 (k : Int) ∧ y = .int .u32 (sumL 4294967295 (s.data.toList.take k) : Int)) (fun _ i => s.size - (intOf i).toNat)
  case atStart => exact ⟨0, by omega, rfl, rfl⟩
  case round =>
    obtain ⟨k, hk, rfl, rfl⟩ := hrel
    have hyl : sumL 4294967295 (s.data.toList.take k) < 4294967296 := sumL_lt _ (by omega)
    by_cases hks : k < s.size
    · have hS := sumL_snoc 4294967295 s.data.toList k (by have := HL.out; omega)
      rw [sget s k hks] at hS
      obtain ⟨y, hy⟩ : ∃ y, y = sumL 4294967295 (s.data.toList.take k) := ⟨_, rfl⟩
      rw [← hy] at hyl hS ⊢
      have hc256 : s[k].toNat < 256 := UInt8.toNat_lt _
      have hxx := u32_xor_nat y s[k].toNat hyl (by omega)
      have hxl : y ^^^ s[k].toNat < 4294967296 := Nat.xor_lt_two_pow (n := 32) hyl (by omega)
      unfold sumB at hS
      generalize y ^^^ s[k].toNat = z at hxx hxl hS
      have HS := Lib.hid hS
      have HZ := Lib.hid hxl
      clear hS hxl hy
      go_wp2
      go_loop [3, 5] (fun y i => ∃ m : Nat, m ≤ 8 ∧ i = .int .i64 (m : Int) ∧ y = .int .u32 (stpN m z : Int)) (fun _ i => 8 - (intOf i).toNat)
      case atStart => exact ⟨0, by omega, rfl, rfl⟩
      case round =>
        obtain ⟨m, hm, rfl, rfl⟩ := hrel
        by_cases hm8 : m < 8
        · have hs := stpN_succ m z
          obtain ⟨v, hv⟩ : ∃ v, v = stpN m z := ⟨_, rfl⟩
          have hlt : v < 4294967296 := by rw [hv]; exact stpN_lt m HZ.out
          rw [← hv] at hs ⊢
          have HS := Lib.hid hs
          clear hv hs
          by_cases ho : v % 2 = 1
          · have hm : ((v : Int) % 2 == 1) = true := by simp; omega
            have hx1 := (mod_stp v hlt).1 ho
            have HO := Lib.hid ho
            clear ho
            go_wp2
            go_round
            case rel => exact ⟨m + 1, by omega, by go_num, by rw [HS.out]⟩
            case measure => simp [intOf]; omega
          · have hm : ((v : Int) % 2 == 1) = false := by simp; omega
            have hx1 := Lib.hid ((mod_stp v hlt).2 ho)
            have HO := Lib.hid ho
            clear ho
            go_wp2
            go_round
            case rel => exact ⟨m + 1, by omega, by go_num, by rw [HS.out, hx1.out]⟩
            case measure => simp [intOf]; omega
        · have hm8' : m = 8 := by omega
          subst hm8'
          rw [← HS.out]
          go_wp2
          go_round
          case rel => exact ⟨k + 1, by omega, by go_num, rfl⟩
          case measure => simp [intOf]; omega
    · have e : s.data.toList.take k = s.data.toList := by rw [List.take_of_length_le]; have := HL.out; omega
      rw [e] at hyl ⊢
      have e2 : Hid (4294967295 - (sumL 4294967295 s.data.toList : Int) = ((crcL s.data.toList : Nat) : Int)) := by
        have : 4294967295 - (sumL 4294967295 s.data.toList : Int) = ((crcL s.data.toList : Nat) : Int) := by unfold crcL; omega
        exact Lib.hid this
      generalize sumL 4294967295 s.data.toList = y at hyl e2 ⊢
      clear e
      go_wp2
      go_ret
      exact ⟨ret_int e2.out, rfl⟩
theorem div_pow (x k : Nat) : x / 256 ^ k / 256 = x / 256 ^ (k + 1) := by rw [Nat.div_div_eq_div_mul, Nat.pow_succ]
set_option maxRecDepth 100000 in
theorem refTail_v (x : Nat) (w : World) (hx : x < 4294967296) :
    Calls Try.prog 26 #[.int .u32 (x : Int)] w fun e w' => e = .returned (.string (mkS (tailL x))) ∧ Below w.heap.size w w' := by
  have HX := Lib.hid hx
  clear hx
  go_enter Try.func26, Try.ntmps26
  go_wp2
  go_loopw [0, 3, 4] (fun y v i wr => ∃ k : Nat, k ≤ 4 ∧ i = .int .i64 (k : Int) ∧ v = .string (mkS ((tailL x).take k)) ∧ y = .int .u32 ((x / 256 ^ k : Nat) : Int) ∧ Below w.heap.size w wr) (fun _ _ i _ => 4 - (intOf i).toNat)
  case atStart => exact ⟨0, by omega, rfl, rfl, by simp, Below.refl _ _⟩
  case round =>
    obtain ⟨k, hk, rfl, rfl, rfl, hbr⟩ := hrel
    have hsz := hbr.size
    have HB := Lib.hid hbr
    clear hbr
    by_cases h4 : k < 4
    · have HT := Lib.hid (tailL_take x k h4)
      have hyl : x / 256 ^ k < 4294967296 := Nat.lt_of_le_of_lt (Nat.div_le_self ..) HX.out
      have HD := Lib.hid (div_pow x k)
      obtain ⟨c, hc⟩ : ∃ c, c = UInt8.ofNat (x / 256 ^ k % 256) := ⟨_, rfl⟩
      have hs1 : (mkS ((tailL x).take k)).size ≤ 4 := by rw [mkS_size]; simp; omega
      have hs2 := mkS_size [c]
      rw [List.length_singleton] at hs2
      have hcv : ∀ (W : World) (cap : Nat), (convert 28 9 (.slice (some ⟨W.heap.size, 0, none⟩) 1 cap)).run Try.prog (W.alloc (.cells #[.int .u8 (((x / 256 ^ k : Nat) : Int) % 256)] 5)) = .ok (.string (mkS [c])) (W.alloc (.cells #[.int .u8 (((x / 256 ^ k : Nat) : Int) % 256)] 5)) := fun W cap => by
        rw [hc]
        have := str1 W (x / 256 ^ k % 256) (by omega) cap
        rw [show ((x / 256 ^ k : Nat) : Int) % 256 = ((x / 256 ^ k % 256 : Nat) : Int) by omega]
        exact this
      rw [← hc] at HT
      generalize x / 256 ^ k = y at hyl HD hcv
      clear hc
      go_wp2
      go_roundw
      case rel => exact ⟨k + 1, by omega, by go_num, by rw [HT.out, ← mkS_add], by rw [← HD.out]; simp, HB.out.alloc hsz _⟩
      case measure => simp [intOf]; omega
    · have h44 : k = 4 := by omega
      subst h44
      go_wp2
      go_ret
      exact ⟨rfl, HB.out⟩
end Go.Proofs.Ytemokpnepnmmkaa
/- Chapter 2: the program's and the document's. -/
