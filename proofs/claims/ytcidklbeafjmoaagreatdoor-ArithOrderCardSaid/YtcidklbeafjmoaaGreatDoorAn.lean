/- lexer's Name, and whether a byte may stand in one. No premises. -/
import Derived.Test.YtcidklbeafjmoaaGreatDoorWm
import Derived.BigQuiet
namespace Go.Proofs.YtcidklbeafjmoaaGreatDoor
open Go.RowKit Go.Maps
theorem toList_mkS (l : L) : (mkS l).toList = l := by
  rw [ByteArray.toList_eq]; simp [mkS]
namespace Ar
def letB (c : UInt8) : Bool := (decide (97 ≤ c) && decide (c ≤ 122)) || (decide (65 ≤ c) && decide (c ≤ 90)) || c == 95
def dig (c : UInt8) : Bool := decide (48 ≤ c) && decide (c ≤ 57)
def nm (c : UInt8) : Bool := letB c || dig c
/-- Is it a name? -/
def nameB (l : L) : Bool := match l with
  | [] => false
  | c :: _ => !dig c && l.all fun c => letB c || dig c
theorem byte_le (a c : UInt8) : decide (a ≤ c) = decide ((a.toNat : Int) ≤ (c.toNat : Int)) := by rw [decide_eq_decide, UInt8.le_iff_toNat_le]; omega
set_option maxHeartbeats 1600000 in
set_option maxRecDepth 100000 in
theorem letter_v (c : UInt8) (W : World) : Calls Tryz.prog 101 #[.int .u8 (c.toNat : Int)] W fun e W' => e = .returned (.bool (letB c)) ∧ W' = W := by
  have hb : letB c = ((decide ((97 : Int) ≤ (c.toNat : Int)) && decide ((c.toNat : Int) ≤ 122)) || (decide ((65 : Int) ≤ (c.toNat : Int)) && decide ((c.toNat : Int) ≤ 90)) || decide ((c.toNat : Int) = 95)) := by
    unfold letB
    rw [byte_le, byte_le, byte_le, byte_le]
    have : (c == 95) = decide ((c.toNat : Int) = 95) := by
      rw [Bool.eq_iff_iff, beq_iff_eq, decide_eq_true_iff]
      exact ⟨fun h => by rw [h]; rfl, fun h => UInt8.toNat_inj.1 (by have : (95 : UInt8).toNat = 95 := rfl; omega)⟩
    rw [this]
    rfl
  rw [hb]
  obtain ⟨x, hx⟩ : ∃ x : Nat, x = c.toNat := ⟨_, rfl⟩
  rw [← hx]
  clear hx hb
  by_cases h1 : (97 : Int) ≤ (x : Int)
  · by_cases h2 : (x : Int) ≤ 122
    · go_enter Tryz.func101, Tryz.ntmps101
      go_wp2
      go_ret
      exact ⟨ret_bool (by simp <;> omega), rfl⟩
    · have h3 : (65 : Int) ≤ (x : Int) := by omega
      have h4 : ¬ (x : Int) ≤ 90 := by omega
      have h5 : ((x : Int) == 95) = false := by simp; omega
      go_enter Tryz.func101, Tryz.ntmps101
      go_wp2
      go_ret
      exact ⟨ret_bool (by simp <;> omega), rfl⟩
  · by_cases h3 : (65 : Int) ≤ (x : Int)
    · by_cases h4 : (x : Int) ≤ 90
      · go_enter Tryz.func101, Tryz.ntmps101
        go_wp2
        go_ret
        exact ⟨ret_bool (by simp <;> omega), rfl⟩
      · by_cases h6 : x = 95
        · subst h6
          go_enter Tryz.func101, Tryz.ntmps101
          go_wp2
          go_ret
          exact ⟨ret_bool (by simp), rfl⟩
        · have h5 : ((x : Int) == 95) = false := by simp; omega
          go_enter Tryz.func101, Tryz.ntmps101
          go_wp2
          go_ret
          exact ⟨ret_bool (by simp <;> omega), rfl⟩
    · have h5 : ((x : Int) == 95) = false := by simp; omega
      go_enter Tryz.func101, Tryz.ntmps101
      go_wp2
      go_ret
      exact ⟨ret_bool (by simp <;> omega), rfl⟩
set_option maxRecDepth 100000 in
theorem digit_v (c : UInt8) (W : World) : Calls Tryz.prog 100 #[.int .u8 (c.toNat : Int)] W fun e W' => e = .returned (.bool (decide (48 ≤ c) && decide (c ≤ 57))) ∧ W' = W := by
  have e1 : decide (48 ≤ c) = decide (48 ≤ (c.toNat : Int)) := by rw [decide_eq_decide, UInt8.le_iff_toNat_le]; simp; omega
  have e2 : decide (c ≤ 57) = decide ((c.toNat : Int) ≤ 57) := by rw [decide_eq_decide, UInt8.le_iff_toNat_le]; simp; omega
  rw [e1, e2]
  obtain ⟨x, hx⟩ : ∃ x : Nat, x = c.toNat := ⟨_, rfl⟩
  rw [← hx]
  clear hx e1 e2
  by_cases h1 : (48 : Int) ≤ (x : Int) <;> by_cases h2 : (x : Int) ≤ 57
  all_goals
    go_enter Tryz.func100, Tryz.ntmps100
    go_wp2
    go_ret
    exact ⟨ret_bool (by simp [h1, h2]; try omega), rfl⟩
/-- []byte of a text: new memory, that reads as it. -/
theorem conv_str (W : World) (t : List UInt8) (N : Nat) (hN : N = W.heap.size) : ∃ c W', (convert 9 37 (.string (mkS t))).run Tryz.prog W = .ok (.slice (some ⟨N, 0, none⟩) t.length c) W' ∧ Later W W' ∧ Rd W' W'.heap.size (some ⟨N, 0, none⟩) t.length (t.map bv) := by
  subst hN
  have h := run_bytes_of_string W 9 37 5 (mkS t) Tryz.underlying9 Tryz.underlying37 Tryz.underlying5
  rw [mkS_size] at h
  refine ⟨_, _, h, Later.trans (Later.drew W) (Later.alloc _ _), by simp, fun h0 => ⟨_, rfl, by simp, fun j u hu => ?_⟩⟩
  rw [add_lit0]
  have hz : W.drew.heap.size = W.heap.size := rfl
  rw [← hz]
  rw [cell_of_row _ _ j _ _ _ (heap_alloc_new W.drew _)]
  rw [List.getElem?_map] at hu
  by_cases hj : j < t.length
  · rw [List.getElem?_eq_getElem hj] at hu
    simp at hu
    subst hu
    unfold bytesRow
    rw [Array.getElem?_append_left (by simp [mkS]; omega)]
    simp [mkS, hj, bv]
  · rw [List.getElem?_eq_none (by omega)] at hu
    cases hu
theorem sget0 (c : UInt8) (r : L) : ∃ h : 0 < (mkS (c :: r)).size, (mkS (c :: r))[0]'h = c := ⟨by rw [mkS_size]; simp, rfl⟩
set_option maxHeartbeats 1600000 in
set_option maxRecDepth 100000 in
theorem name_v (l : L) (hl : l.length ≤ 5000) (W : World) : Calls Tryz.prog 89 #[.string (mkS l)] W fun e W' => e = .returned (.bool (nameB l)) ∧ Later W W' := by
  cases l with
  | nil =>
    have he : ((mkS []).toList == ([] : List UInt8)) = true := by rw [toList_mkS]; rfl
    go_enter Tryz.func89, Tryz.ntmps89
    go_wp2
    go_ret
    exact ⟨rfl, Later.refl _⟩
  | cons c r =>
    have he : ((mkS (c :: r)).toList == ([] : List UInt8)) = false := by rw [toList_mkS]; rfl
    obtain ⟨hs0, hg0⟩ := sget0 c r
    obtain ⟨l, hll⟩ : ∃ l, l = c :: r := ⟨_, rfl⟩
    rw [← hll] at hl he ⊢
    have hs1 : (0 : Int) < ((mkS l).size : Int) := by rw [hll]; omega
    have hg1 : ∀ h, (mkS l)[0]'h = c := by rw [hll]; exact fun _ => hg0
    have HD := Lib.hid (digit_v c)
    have HLL := Lib.hid hll
    by_cases hd : dig c = true
    · have hd1 := HD.out
      rw [show (decide (48 ≤ c) && decide (c ≤ 57)) = true from hd] at hd1
      have HD1 := Lib.hid hd1
      have HNB := Lib.hid (show nameB l = false by rw [hll]; unfold nameB; simp only [hd]; rfl)
      clear hd1 hll
      go_enter Tryz.func89, Tryz.ntmps89
      go_wp2_with (first
        | (go_at_call 100; (with_reducible refine (HD1.out _).mono ?_); rintro e w2 ⟨rfl, rfl⟩))
      go_ret
      exact ⟨ret_bool HNB.out.symm, Later.refl _⟩
    · have hdf : dig c = false := by simpa using hd
      have hd1 := HD.out
      rw [show (decide (48 ≤ c) && decide (c ≤ 57)) = false from hdf] at hd1
      have HD1 := Lib.hid hd1
      have HNB := Lib.hid (show nameB l = l.all fun c => letB c || dig c by rw [hll]; unfold nameB; simp only [hdf]; rfl)
      obtain ⟨cp, W2, hcv, hl2, hr2⟩ := conv_str W l W.heap.size rfl
      obtain ⟨n, hn⟩ : ∃ n, n = l.length := ⟨_, rfl⟩
      rw [← hn] at hcv hr2 hl
      have HL2 := Lib.hid hl2
      have HR := Lib.hid hr2
      have HN := Lib.hid hn
      clear hl2 hr2 hn hd1 hll
      go_enter Tryz.func89, Tryz.ntmps89
      go_wp2_with (first
        | (go_at_call 100; (with_reducible refine (HD1.out _).mono ?_); rintro e w2 ⟨rfl, hw⟩; subst hw))
      go_loopw [15] (fun i wr => ∃ k : Nat, k ≤ n ∧ i = .int .i64 (k : Int) ∧ wr = W2 ∧ (l.take k).all (fun c => letB c || dig c) = true) (fun i _ => n - (intOf i).toNat)
      case atStart => exact ⟨0, by omega, rfl, rfl, rfl⟩
      case round =>
        obtain ⟨k, hk, rfl, hw, ha⟩ := hrel
        subst hw
        have HA := Lib.hid ha
        clear ha
        by_cases hkn : k < n
        · obtain ⟨ad, hlk, had, _, hcell⟩ := HR.out.byte hkn
          obtain ⟨x, hx⟩ : ∃ x, x = l[k] := ⟨_, rfl⟩
          rw [← hx] at hcell
          injection had with had
          have hcell2 := hcell
          rw [← had, add_lit0] at hcell2
          have hk0 : (0 : Int) ≤ (k : Int) := by omega
          have hk1 : (k : Int) < (n : Int) := by omega
          have HTK := Lib.hid (show l.take (k + 1) = l.take k ++ [x] by rw [List.take_succ_eq_append_getElem hlk, hx])
          have HX := Lib.hid (show x ∈ l by rw [hx]; exact List.getElem_mem _)
          have HLT := Lib.hid (letter_v x)
          have HDG := Lib.hid (digit_v x)
          have hcell3 : wr.cell? ⟨w2.heap.size, k, none⟩ = some (.int .u8 (x.toNat : Int)) := hcell2
          have hlt := HLT.out
          have hdg : ∀ W, Calls Tryz.prog 100 #[.int .u8 (x.toNat : Int)] W fun e W' => e = .returned (.bool (dig x)) ∧ W' = W := HDG.out
          clear hcell hcell2 hx had hlk
          cases hlb : letB x with
          | true =>
            rw [hlb] at hlt
            have HL1 := Lib.hid hlt
            have HNX := Lib.hid (show (l.take (k + 1)).all (fun c => letB c || dig c) = true by rw [HTK.out, List.all_append, HA.out]; simp [hlb])
            clear hlt hdg hlb
            go_wp2_with (first
              | (go_at_call 101; (with_reducible refine (HL1.out _).mono ?_); rintro e w3 ⟨rfl, rfl⟩))
            go_roundw
            case rel => exact ⟨k + 1, by omega, by go_num, by first | rfl | trivial, HNX.out⟩
            case measure => simp [intOf]; omega
          | false =>
            rw [hlb] at hlt
            have HL1 := Lib.hid hlt
            cases hdb : dig x with
            | true =>
              rw [hdb] at hdg
              have HD2 := Lib.hid hdg
              have HNX := Lib.hid (show (l.take (k + 1)).all (fun c => letB c || dig c) = true by rw [HTK.out, List.all_append, HA.out]; simp [hdb])
              clear hlt hdg hlb hdb
              go_wp2_with (first
                | (go_at_call 101; (with_reducible refine (HL1.out _).mono ?_); rintro e w3 ⟨rfl, rfl⟩)
                | (go_at_call 100; (with_reducible refine (HD2.out _).mono ?_); rintro e w3 ⟨rfl, rfl⟩))
              go_roundw
              case rel => exact ⟨k + 1, by omega, by go_num, by first | rfl | trivial, HNX.out⟩
              case measure => simp [intOf]; omega
            | false =>
              rw [hdb] at hdg
              have HD2 := Lib.hid hdg
              have HRES := Lib.hid (show nameB l = false by
                rw [HNB.out, Bool.eq_false_iff]
                intro h
                rw [List.all_eq_true] at h
                have := h x HX.out
                simp [hlb, hdb] at this)
              clear hlt hdg hlb hdb
              go_wp2_with (first
                | (go_at_call 101; (with_reducible refine (HL1.out _).mono ?_); rintro e w3 ⟨rfl, rfl⟩)
                | (go_at_call 100; (with_reducible refine (HD2.out _).mono ?_); rintro e w3 ⟨rfl, rfl⟩))
              go_ret
              exact ⟨ret_bool HRES.out.symm, HL2.out⟩
        · obtain hke : k = n := by omega
          have HRES := Lib.hid (show nameB l = true by rw [HNB.out]; have := HA.out; rw [hke, HN.out, List.take_length] at this; exact this)
          clear hke
          go_wp2
          go_ret
          exact ⟨ret_bool HRES.out.symm, HL2.out⟩
theorem may_name (c : UInt8) : nameB [95, c] = nm c := by
  unfold nameB nm
  simp [show dig 95 = false by decide, show letB 95 = true by decide]
theorem may_v (c : UInt8) (W : World) : Calls Tryz.prog 77 #[.string (mkS [c])] W fun e W' => e = .returned (.bool (nm c)) ∧ Later W W' := by
  have HN := Lib.hid (name_v [95, c] (by simp) W)
  have hs : (⟨#[95]⟩ : ByteArray) ++ mkS [c] = mkS [95, c] := mkS_add [95] [c]
  go_enter Tryz.func77, Tryz.ntmps77
  go_wp2_with (go_at_call 89; (try rw [hs]); (with_reducible refine HN.out.mono ?_); rintro e w1 ⟨rfl, hl⟩)
  go_ret
  exact ⟨ret_bool (may_name c), hl⟩
end Ar
end Go.Proofs.YtcidklbeafjmoaaGreatDoor
