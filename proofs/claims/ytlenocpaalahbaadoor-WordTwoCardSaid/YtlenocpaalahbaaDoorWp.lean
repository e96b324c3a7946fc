/- lexer's Name; digits, parameters. No premises. -/
import Derived.Test.YtlenocpaalahbaaDoorWv
namespace Go.Proofs.YtlenocpaalahbaaDoor
open Go.RowKit Go.Maps
open Wd (letB dig nm)
namespace Ws
/-- Is it a name? -/
def nameB (l : L) : Bool := match l with
  | [] => false
  | c :: _ => !dig c && l.all fun c => letB c || dig c
theorem byte_le (a c : UInt8) : decide (a ≤ c) = decide ((a.toNat : Int) ≤ (c.toNat : Int)) := by rw [decide_eq_decide, UInt8.le_iff_toNat_le]; omega
set_option maxHeartbeats 1600000 in
set_option maxRecDepth 100000 in
theorem letter_v (c : UInt8) (W : World) : Calls Tryd.prog 59 #[.int .u8 (c.toNat : Int)] W fun e W' => e = .returned (.bool (letB c)) ∧ W' = W := by
  have hb : letB c = ((decide ((97 : Int) ≤ (c.toNat : Int)) && decide ((c.toNat : Int) ≤ 122)) || (decide ((65 : Int) ≤ (c.toNat : Int)) && decide ((c.toNat : Int) ≤ 90)) || decide ((c.toNat : Int) = 95)) := by
    unfold letB
    rw [byte_le, byte_le, byte_le, byte_le]
    have : (c == 95) = decide ((c.toNat : Int) = 95) := by
      rw [Bool.eq_iff_iff, beq_iff_eq, decide_eq_true_iff]
      exact ⟨fun h => by rw [h]; rfl, fun h => UInt8.toNat_inj.1 (by have : (95 : UInt8).toNat = 95 := rfl; omega)⟩
    rw [this]
    rfl
  rw [hb]
  obtain ⟨x, hx⟩ : ∃ x : Nat, x = c.toNat := ⟨_, rfl⟩
  rw [← hx]
  clear hx hb
  by_cases h1 : (97 : Int) ≤ (x : Int)
  · by_cases h2 : (x : Int) ≤ 122
    · go_enter Tryd.func59, Tryd.ntmps59
      go_wp2
      go_ret
      exact ⟨ret_bool (by simp <;> omega), rfl⟩
    · have h3 : (65 : Int) ≤ (x : Int) := by omega
      have h4 : ¬ (x : Int) ≤ 90 := by omega
      have h5 : ((x : Int) == 95) = false := by simp; omega
      go_enter Tryd.func59, Tryd.ntmps59
      go_wp2
      go_ret
      exact ⟨ret_bool (by simp <;> omega), rfl⟩
  · by_cases h3 : (65 : Int) ≤ (x : Int)
    · by_cases h4 : (x : Int) ≤ 90
      · go_enter Tryd.func59, Tryd.ntmps59
        go_wp2
        go_ret
        exact ⟨ret_bool (by simp <;> omega), rfl⟩
      · by_cases h6 : x = 95
        · subst h6
          go_enter Tryd.func59, Tryd.ntmps59
          go_wp2
          go_ret
          exact ⟨ret_bool (by simp), rfl⟩
        · have h5 : ((x : Int) == 95) = false := by simp; omega
          go_enter Tryd.func59, Tryd.ntmps59
          go_wp2
          go_ret
          exact ⟨ret_bool (by simp <;> omega), rfl⟩
    · have h5 : ((x : Int) == 95) = false := by simp; omega
      go_enter Tryd.func59, Tryd.ntmps59
      go_wp2
      go_ret
      exact ⟨ret_bool (by simp <;> omega), rfl⟩
set_option maxRecDepth 100000 in
theorem digit_v (c : UInt8) (W : World) : Calls Tryd.prog 58 #[.int .u8 (c.toNat : Int)] W fun e W' => e = .returned (.bool (decide (48 ≤ c) && decide (c ≤ 57))) ∧ W' = W := by
  have e1 : decide (48 ≤ c) = decide (48 ≤ (c.toNat : Int)) := by rw [decide_eq_decide, UInt8.le_iff_toNat_le]; simp; omega
  have e2 : decide (c ≤ 57) = decide ((c.toNat : Int) ≤ 57) := by rw [decide_eq_decide, UInt8.le_iff_toNat_le]; simp; omega
  rw [e1, e2]
  obtain ⟨x, hx⟩ : ∃ x : Nat, x = c.toNat := ⟨_, rfl⟩
  rw [← hx]
  clear hx e1 e2
  by_cases h1 : (48 : Int) ≤ (x : Int) <;> by_cases h2 : (x : Int) ≤ 57
  all_goals
    go_enter Tryd.func58, Tryd.ntmps58
    go_wp2
    go_ret
    exact ⟨ret_bool (by simp [h1, h2]; try omega), rfl⟩
/-- []byte of a text: new memory, that reads as it. -/
theorem conv_str (W : World) (t : List UInt8) (N : Nat) (hN : N = W.heap.size) : ∃ c W', (convert 9 36 (.string (mkS t))).run Tryd.prog W = .ok (.slice (some ⟨N, 0, none⟩) t.length c) W' ∧ Later W W' ∧ Rd W' W'.heap.size (some ⟨N, 0, none⟩) t.length (t.map bv) := by
  subst hN
  have h := run_bytes_of_string W 9 36 5 (mkS t) Tryd.underlying9 Tryd.underlying36 Tryd.underlying5
  rw [mkS_size] at h
  refine ⟨_, _, h, Later.trans (Later.drew W) (Later.alloc _ _), by simp, fun h0 => ⟨_, rfl, by simp, fun j u hu => ?_⟩⟩
  rw [add_lit0]
  have hz : W.drew.heap.size = W.heap.size := rfl
  rw [← hz]
  rw [cell_of_row _ _ j _ _ _ (heap_alloc_new W.drew _)]
  rw [List.getElem?_map] at hu
  by_cases hj : j < t.length
  · rw [List.getElem?_eq_getElem hj] at hu
    simp at hu
    subst hu
    unfold bytesRow
    rw [Array.getElem?_append_left (by simp [mkS]; omega)]
    simp [mkS, hj, bv]
  · rw [List.getElem?_eq_none (by omega)] at hu
    cases hu
theorem sget0 (c : UInt8) (r : L) : ∃ h : 0 < (mkS (c :: r)).size, (mkS (c :: r))[0]'h = c := ⟨by rw [mkS_size]; simp, rfl⟩
set_option maxHeartbeats 1600000 in
set_option maxRecDepth 100000 in
theorem name_v (l : L) (hl : l.length ≤ 5000) (W : World) : Calls Tryd.prog 53 #[.string (mkS l)] W fun e W' => e = .returned (.bool (nameB l)) ∧ Later W W' := by
  cases l with
  | nil =>
    have he : ((mkS []).toList == ([] : List UInt8)) = true := by rw [toList_mkS]; rfl
    go_enter Tryd.func53, Tryd.ntmps53
    go_wp2
    go_ret
    exact ⟨rfl, Later.refl _⟩
  | cons c r =>
    have he : ((mkS (c :: r)).toList == ([] : List UInt8)) = false := by rw [toList_mkS]; rfl
    obtain ⟨hs0, hg0⟩ := sget0 c r
    obtain ⟨l, hll⟩ : ∃ l, l = c :: r := ⟨_, rfl⟩
    rw [← hll] at hl he ⊢
    have hs1 : (0 : Int) < ((mkS l).size : Int) := by rw [hll]; omega
    have hg1 : ∀ h, (mkS l)[0]'h = c := by rw [hll]; exact fun _ => hg0
    have HD := Lib.hid (digit_v c)
    have HLL := Lib.hid hll
    by_cases hd : dig c = true
    · have hd1 := HD.out
      rw [show (decide (48 ≤ c) && decide (c ≤ 57)) = true from hd] at hd1
      have HD1 := Lib.hid hd1
      have HNB := Lib.hid (show nameB l = false by rw [hll]; unfold nameB; simp only [hd]; rfl)
      clear hd1 hll
      go_enter Tryd.func53, Tryd.ntmps53
      go_wp2_with (first
        | (go_at_call 58; (with_reducible refine (HD1.out _).mono ?_); rintro e w2 ⟨rfl, rfl⟩))
      go_ret
      exact ⟨ret_bool HNB.out.symm, Later.refl _⟩
    · have hdf : dig c = false := by simpa using hd
      have hd1 := HD.out
      rw [show (decide (48 ≤ c) && decide (c ≤ 57)) = false from hdf] at hd1
      have HD1 := Lib.hid hd1
      have HNB := Lib.hid (show nameB l = l.all fun c => letB c || dig c by rw [hll]; unfold nameB; simp only [hdf]; rfl)
      obtain ⟨cp, W2, hcv, hl2, hr2⟩ := conv_str W l W.heap.size rfl
      obtain ⟨n, hn⟩ : ∃ n, n = l.length := ⟨_, rfl⟩
      rw [← hn] at hcv hr2 hl
      have HL2 := Lib.hid hl2
      have HR := Lib.hid hr2
      have HN := Lib.hid hn
      clear hl2 hr2 hn hd1 hll
      go_enter Tryd.func53, Tryd.ntmps53
      go_wp2_with (first
        | (go_at_call 58; (with_reducible refine (HD1.out _).mono ?_); rintro e w2 ⟨rfl, hw⟩; subst hw))
      go_loopw [15] (fun i wr => ∃ k : Nat, k ≤ n ∧ i = .int .i64 (k : Int) ∧ wr = W2 ∧ (l.take k).all (fun c => letB c || dig c) = true) (fun i _ => n - (intOf i).toNat)
      case atStart => exact ⟨0, by omega, rfl, rfl, rfl⟩
      case round =>
        obtain ⟨k, hk, rfl, hw, ha⟩ := hrel
        subst hw
        have HA := Lib.hid ha
        clear ha
        by_cases hkn : k < n
        · obtain ⟨ad, hlk, had, _, hcell⟩ := HR.out.byte hkn
          obtain ⟨x, hx⟩ : ∃ x, x = l[k] := ⟨_, rfl⟩
          rw [← hx] at hcell
          injection had with had
          have hcell2 := hcell
          rw [← had, add_lit0] at hcell2
          have hk0 : (0 : Int) ≤ (k : Int) := by omega
          have hk1 : (k : Int) < (n : Int) := by omega
          have HTK := Lib.hid (show l.take (k + 1) = l.take k ++ [x] by rw [List.take_succ_eq_append_getElem hlk, hx])
          have HX := Lib.hid (show x ∈ l by rw [hx]; exact List.getElem_mem _)
          have HLT := Lib.hid (letter_v x)
          have HDG := Lib.hid (digit_v x)
          have hcell3 : wr.cell? ⟨w2.heap.size, k, none⟩ = some (.int .u8 (x.toNat : Int)) := hcell2
          have hlt := HLT.out
          have hdg : ∀ W, Calls Tryd.prog 58 #[.int .u8 (x.toNat : Int)] W fun e W' => e = .returned (.bool (dig x)) ∧ W' = W := HDG.out
          clear hcell hcell2 hx had hlk
          cases hlb : letB x with
          | true =>
            rw [hlb] at hlt
            have HL1 := Lib.hid hlt
            have HNX := Lib.hid (show (l.take (k + 1)).all (fun c => letB c || dig c) = true by rw [HTK.out, List.all_append, HA.out]; simp [hlb])
            clear hlt hdg hlb
            go_wp2_with (first
              | (go_at_call 59; (with_reducible refine (HL1.out _).mono ?_); rintro e w3 ⟨rfl, rfl⟩))
            go_roundw
            case rel => exact ⟨k + 1, by omega, by go_num, by first | rfl | trivial, HNX.out⟩
            case measure => simp [intOf]; omega
          | false =>
            rw [hlb] at hlt
            have HL1 := Lib.hid hlt
            cases hdb : dig x with
            | true =>
              rw [hdb] at hdg
              have HD2 := Lib.hid hdg
              have HNX := Lib.hid (show (l.take (k + 1)).all (fun c => letB c || dig c) = true by rw [HTK.out, List.all_append, HA.out]; simp [hdb])
              clear hlt hdg hlb hdb
              go_wp2_with (first
                | (go_at_call 59; (with_reducible refine (HL1.out _).mono ?_); rintro e w3 ⟨rfl, rfl⟩)
                | (go_at_call 58; (with_reducible refine (HD2.out _).mono ?_); rintro e w3 ⟨rfl, rfl⟩))
              go_roundw
              case rel => exact ⟨k + 1, by omega, by go_num, by first | rfl | trivial, HNX.out⟩
              case measure => simp [intOf]; omega
            | false =>
              rw [hdb] at hdg
              have HD2 := Lib.hid hdg
              have HRES := Lib.hid (show nameB l = false by
                rw [HNB.out, Bool.eq_false_iff]
                intro h
                rw [List.all_eq_true] at h
                have := h x HX.out
                simp [hlb, hdb] at this)
              clear hlt hdg hlb hdb
              go_wp2_with (first
                | (go_at_call 59; (with_reducible refine (HL1.out _).mono ?_); rintro e w3 ⟨rfl, rfl⟩)
                | (go_at_call 58; (with_reducible refine (HD2.out _).mono ?_); rintro e w3 ⟨rfl, rfl⟩))
              go_ret
              exact ⟨ret_bool HRES.out.symm, HL2.out⟩
        · obtain hke : k = n := by omega
          have HRES := Lib.hid (show nameB l = true by rw [HNB.out]; have := HA.out; rw [hke, HN.out, List.take_length] at this; exact this)
          clear hke
          go_wp2
          go_ret
          exact ⟨ret_bool HRES.out.symm, HL2.out⟩
theorem may_name (c : UInt8) : nameB [95, c] = nm c := by
  unfold nameB nm
  simp [show dig 95 = false by decide, show letB 95 = true by decide]
theorem may_v (c : UInt8) (W : World) : Calls Tryd.prog 46 #[.string (mkS [c])] W fun e W' => e = .returned (.bool (nm c)) ∧ Later W W' := by
  have HN := Lib.hid (name_v [95, c] (by simp) W)
  have hs : (⟨#[95]⟩ : ByteArray) ++ mkS [c] = mkS [95, c] := mkS_add [95] [c]
  go_enter Tryd.func46, Tryd.ntmps46
  go_wp2_with (go_at_call 53; (try rw [hs]); (with_reducible refine HN.out.mono ?_); rintro e w1 ⟨rfl, hl⟩)
  go_ret
  exact ⟨ret_bool (may_name c), hl⟩
theorem take_while {p : UInt8 → Bool} : ∀ (l : L) (k : Nat), k ≤ l.length → (l.take k).all p = true → (∀ h : k < l.length, p l[k] = false) → l.takeWhile p = l.take k
  | [], k, hk, _, _ => by simp at hk; subst hk; rfl
  | c :: l, 0, _, _, h => by
    have := h (by simp)
    simp only [List.getElem_cons_zero] at this
    simp [this]
  | c :: l, k + 1, hk, ha, h => by
    simp only [List.take_succ_cons, List.all_cons, Bool.and_eq_true] at ha
    rw [List.takeWhile_cons, ha.1]
    simp only [if_true, List.take_succ_cons]
    rw [take_while l k (by simp at hk; omega) ha.2 (fun h1 => by have := h (by simp; omega); simpa using this)]
theorem index_has (l : L) (c : UInt8) : decide (0 ≤ Lib.indexByte l c) = l.contains c := by
  induction l with
  | nil => rfl
  | cons b l ih =>
    have hge := Lib.indexByte_ge l c
    unfold Lib.indexByte
    rw [List.contains_cons, ← ih]
    by_cases e : b = c
    · subst e; simp
    · have e1 : (b == c) = false := beq_eq_false_iff_ne.2 e
      have e2 : (c == b) = false := beq_eq_false_iff_ne.2 fun e3 => e e3.symm
      rw [e1, e2]
      simp only [Bool.false_eq_true, if_false, Bool.false_or, decide_eq_decide]
      by_cases h : Lib.indexByte l c = -1
      · rw [h]; decide
      · have : (Lib.indexByte l c == -1) = false := beq_eq_false_iff_ne.2 h
        rw [this]
        simp only [Bool.false_eq_true, if_false]
        omega
theorem set_text (S : L) (k : Nat) (c : UInt8) (hk : k < S.length) (h : S[k] = c) : (mkS S).extract k (k + 1) = mkS [c] := by
  refine sub_text S k c (S.drop (k + 1)) ?_
  rw [List.drop_eq_getElem_cons hk, h]
set_option maxHeartbeats 1600000 in
set_option maxRecDepth 100000 in
theorem param_v (l : L) (hl : l.length ≤ 100000) (W : World) : Calls Tryd.prog 39 #[.string (mkS l)] W fun e W' => e = .returned (.string (mkS (Wd.param l))) ∧ Later W W' := by
  cases l with
  | nil =>
    have he : ((mkS []).toList == ([] : List UInt8)) = true := by rw [toList_mkS]; rfl
    go_enter Tryd.func39, Tryd.ntmps39
    go_wp2
    go_ret
    exact ⟨rfl, Later.refl _⟩
  | cons c r =>
    have he : ((mkS (c :: r)).toList == ([] : List UInt8)) = false := by rw [toList_mkS]; rfl
    obtain ⟨hs0, hg0⟩ := sget0 c r
    obtain ⟨l, hll⟩ : ∃ l, l = c :: r := ⟨_, rfl⟩
    have hpar : Wd.param l = if Wd.singles.contains c then [c] else l.takeWhile nm := by rw [hll]; rfl
    have h1t : l.take 1 = [c] := by rw [hll]; rfl
    rw [← hll] at hl he ⊢
    have hs1 : (0 : Int) < ((mkS l).size : Int) := by rw [hll]; omega
    have hs2 : (1 : Int) ≤ ((mkS l).size : Int) := by omega
    have hg1 : ∀ h, (mkS l)[0]'h = c := by rw [hll]; exact fun _ => hg0
    have hI : ∀ W, Calls Tryd.prog 45 #[.string ⟨#[48, 49, 50, 51, 52, 53, 54, 55, 56, 57, 63, 35, 64, 42, 45]⟩, .int .u8 (c.toNat : Int)] W fun e w' => e = .returned (.int .i64 (Lib.indexByte Wd.singles c)) ∧ w' = W := fun W => by
      have := Tryd.strings_IndexByte (mkS Wd.singles) (c.toNat : Int) W
      rw [mkS_list, show ((c.toNat : Int)).toNat.toUInt8 = c by simp] at this
      exact this
    have hix := index_has Wd.singles c
    obtain ⟨i, hi⟩ : ∃ i, i = Lib.indexByte Wd.singles c := ⟨_, rfl⟩
    rw [← hi] at hI hix
    have HI := Lib.hid hI
    have HLL := Lib.hid hll
    cases hcs : Wd.singles.contains c with
    | true =>
      rw [hcs] at hix hpar
      simp only [if_true] at hpar
      rw [hpar]
      have hi0 : 0 ≤ i := of_decide_eq_true hix
      have HX := Lib.hid (show (mkS l).extract 0 1 = mkS [c] by rw [extract_take, h1t])
      clear hI hll hix hi hcs hpar h1t
      go_enter Tryd.func39, Tryd.ntmps39
      go_wp2_with (go_at_call 45; (with_reducible refine (HI.out _).mono ?_); rintro e w1 ⟨rfl, rfl⟩)
      go_ret
      exact ⟨by rw [← HX.out]; rfl, Later.refl _⟩
    | false =>
      rw [hcs] at hix hpar
      simp only [Bool.false_eq_true, if_false] at hpar
      rw [hpar]
      have hi0 : ¬ 0 ≤ i := of_decide_eq_false hix
      obtain ⟨n, hn⟩ : ∃ n, n = l.length := ⟨_, rfl⟩
      have hsz : ((mkS l).size : Int) = (n : Int) := by rw [mkS_size, hn]
      rw [← hn] at hl
      have HN := Lib.hid hn
      clear hI hll hix hi hcs hpar h1t hn
      go_enter Tryd.func39, Tryd.ntmps39
      go_wp2_with (go_at_call 45; (with_reducible refine (HI.out _).mono ?_); rintro e w1 ⟨rfl, rfl⟩)
      go_loopw [3] (fun i wr => ∃ k : Nat, k ≤ n ∧ i = .int .i64 (k : Int) ∧ Later w1 wr ∧ (l.take k).all nm = true) (fun i _ => n - (intOf i).toNat)
      case atStart => exact ⟨0, by omega, rfl, Later.refl _, rfl⟩
      case round =>
        obtain ⟨k, hk, rfl, hlr, ha⟩ := hrel
        have HA := Lib.hid ha
        have HLR := Lib.hid hlr
        clear ha hlr
        have hk0 : (0 : Int) ≤ (k : Int) := by omega
        have hw : wrap64 ((k : Int) + 1) = (k : Int) + 1 := w64 _ (by omega)
        by_cases hkn : k < n
        · have hk1 : (k : Int) < (n : Int) := by omega
          have hk2 : (k : Int) + 1 ≤ (n : Int) := by omega
          have hk3 : (k : Int) ≤ (k : Int) + 1 := by omega
          have hlk : k < l.length := by have := HN.out; omega
          obtain ⟨y, hy⟩ : ∃ y, y = l[k] := ⟨_, rfl⟩
          have HX := Lib.hid (show (mkS l).extract k (k + 1) = mkS [y] from set_text l k y hlk hy.symm)
          have HM := Lib.hid (may_v y wr)
          have HY := Lib.hid hy
          have HTK := Lib.hid (show l.take (k + 1) = l.take k ++ [y] by rw [List.take_succ_eq_append_getElem hlk, hy])
          have hn1 : ((k : Int) + 1).toNat = k + 1 := by omega
          clear hy
          cases hm : nm y with
          | true =>
            have hmv := HM.out
            rw [hm] at hmv
            have HM1 := Lib.hid hmv
            have HNX := Lib.hid (show (l.take (k + 1)).all nm = true by rw [HTK.out, List.all_append, HA.out]; simp [hm])
            clear hmv hm
            go_wp2_with (go_at_call 46; (try rw [hn1]); (try rw [HX.out]); (with_reducible refine HM1.out.mono ?_); rintro e w2 ⟨rfl, hl2⟩)
            go_roundw
            case rel => exact ⟨k + 1, by omega, by go_num, HLR.out.trans hl2, HNX.out⟩
            case measure => simp [intOf]; omega
          | false =>
            have hmv := HM.out
            rw [hm] at hmv
            have HM1 := Lib.hid hmv
            have HRES := Lib.hid (show l.takeWhile nm = l.take k from take_while l k (by omega) HA.out fun h => by rw [← HY.out]; exact hm)
            clear hmv hm
            go_wp2_with (go_at_call 46; (try rw [hn1]); (try rw [HX.out]); (with_reducible refine HM1.out.mono ?_); rintro e w2 ⟨rfl, hl2⟩)
            go_ret
            refine ⟨?_, HLR.out.trans hl2⟩
            rw [HRES.out, ← extract_take]
            rfl
        · have hke : k = n := by omega
          have hk1 : ¬ (k : Int) < (n : Int) := by omega
          have hk2 : (k : Int) ≤ (n : Int) := by omega
          have HRES := Lib.hid (show l.takeWhile nm = l.take k from take_while l k (by have := HN.out; omega) HA.out fun h => by have := HN.out; omega)
          clear hke
          go_wp2
          go_ret
          refine ⟨?_, HLR.out⟩
          rw [HRES.out, ← extract_take]
          rfl
theorem drop_while {p : UInt8 → Bool} (l : L) : l.length - (l.dropWhile p).length = (l.takeWhile p).length := by
  have := congrArg List.length (List.takeWhile_append_dropWhile (p := p) (l := l))
  rw [List.length_append] at this
  omega
set_option maxHeartbeats 800000 in
set_option maxRecDepth 100000 in
theorem digits_v (l : L) (hl : l.length ≤ 100000) (W : World) : Calls Tryd.prog 52 #[.string (mkS l)] W fun e W' => e = .returned (.string (mkS (Wd.digits l))) ∧ Later W W' := by
  obtain ⟨d, hd⟩ : ∃ d, d = l.dropWhile (Wd.tens.contains ·) := ⟨_, rfl⟩
  have hall : ∀ b ∈ Wd.tens, b.toNat < 128 := by decide
  have hT : ∀ W, Calls Tryd.prog 57 #[.string (mkS l), .string ⟨#[48, 49, 50, 51, 52, 53, 54, 55, 56, 57]⟩] W fun e w' => e = .returned (.string (mkS d)) ∧ Below W.heap.size W w' := fun W => by
    have := Tryd.strings_TrimLeft (mkS l) (mkS Wd.tens) W (by rw [mkS_size]; decide) (fun j b hb => by
      rw [mkS_list] at hb
      exact hall b (List.mem_of_getElem? hb))
    rw [mkS_list, mkS_list] at this
    rw [hd]
    exact this
  have h1 : l.length - d.length = (Wd.digits l).length := by rw [hd]; exact drop_while l
  have h2 : d.length ≤ l.length := by rw [hd]; exact (List.dropWhile_suffix _).length_le
  have hs1 : (mkS l).size = l.length := mkS_size l
  have hs2 : (mkS d).size = d.length := mkS_size d
  obtain ⟨m, hm⟩ : ∃ m, m = (Wd.digits l).length := ⟨_, rfl⟩
  have h3 : l.take m = Wd.digits l := by
    rw [hm]; unfold Wd.digits
    conv => lhs; rw [← List.takeWhile_append_dropWhile (p := (Wd.tens.contains ·)) (l := l)]
    rw [List.takeWhile_append_dropWhile]
    conv => lhs; arg 2; rw [← List.takeWhile_append_dropWhile (p := (Wd.tens.contains ·)) (l := l)]
    exact List.take_left
  have hw : wrap64 (((mkS l).size : Int) - ((mkS d).size : Int)) = (m : Int) := by rw [w64 _ (by omega)]; omega
  have hp0 : (0 : Int) ≤ (m : Int) := by omega
  have hp1 : (m : Int) ≤ ((mkS l).size : Int) := by omega
  have HX := Lib.hid ((extract_take l m).trans (by rw [h3]))
  have HT := Lib.hid hT
  clear hT h1 h2 h3 hs1 hs2 hm hd
  go_enter Tryd.func52, Tryd.ntmps52
  go_wp2_with (go_at_call 57; (with_reducible refine (HT.out _).mono ?_); rintro e w1 ⟨rfl, hl1⟩)
  go_ret
  exact ⟨by rw [← HX.out]; rfl, hl1⟩
end Ws
end Go.Proofs.YtlenocpaalahbaaDoor
