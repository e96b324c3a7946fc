/- lexer's Name and Sets. No premises. -/
import Derived.Test.YtnjabmacbgehlaaDoorLmS
namespace Go.Proofs.YtnjabmacbgehlaaDoor
open Go.RowKit Go.Maps
def letB (c : UInt8) : Bool := (decide (97 ≤ c) && decide (c ≤ 122)) || (decide (65 ≤ c) && decide (c ≤ 90)) || c == 95
/-- Is it a name? -/
def nameB (l : L) : Bool := match l with
  | [] => false
  | c :: _ => !dig c && l.all fun c => letB c || dig c
theorem byte_le (a c : UInt8) : decide (a ≤ c) = decide ((a.toNat : Int) ≤ (c.toNat : Int)) := by rw [decide_eq_decide, UInt8.le_iff_toNat_le]; omega
set_option maxHeartbeats 1600000 in
set_option maxRecDepth 100000 in
theorem letter_v (c : UInt8) (W : World) : Calls Tryd.prog 20 #[.int .u8 (c.toNat : Int)] W fun e W' => e = .returned (.bool (letB c)) ∧ W' = W := by
  have hb : letB c = ((decide ((97 : Int) ≤ (c.toNat : Int)) && decide ((c.toNat : Int) ≤ 122)) || (decide ((65 : Int) ≤ (c.toNat : Int)) && decide ((c.toNat : Int) ≤ 90)) || decide ((c.toNat : Int) = 95)) := by
    unfold letB
    rw [byte_le, byte_le, byte_le, byte_le]
    have : (c == 95) = decide ((c.toNat : Int) = 95) := by
      rw [Bool.eq_iff_iff, beq_iff_eq, decide_eq_true_iff]
      exact ⟨fun h => by rw [h]; rfl, fun h => UInt8.toNat_inj.1 (by have : (95 : UInt8).toNat = 95 := rfl; omega)⟩
    rw [this]
    rfl
  rw [hb]
  obtain ⟨x, hx⟩ : ∃ x : Nat, x = c.toNat := ⟨_, rfl⟩
  rw [← hx]
  clear hx hb
  by_cases h1 : (97 : Int) ≤ (x : Int)
  · by_cases h2 : (x : Int) ≤ 122
    · go_enter Tryd.func20, Tryd.ntmps20
      go_wp2
      go_ret
      exact ⟨ret_bool (by simp <;> omega), rfl⟩
    · have h3 : (65 : Int) ≤ (x : Int) := by omega
      have h4 : ¬ (x : Int) ≤ 90 := by omega
      have h5 : ((x : Int) == 95) = false := by simp; omega
      go_enter Tryd.func20, Tryd.ntmps20
      go_wp2
      go_ret
      exact ⟨ret_bool (by simp <;> omega), rfl⟩
  · by_cases h3 : (65 : Int) ≤ (x : Int)
    · by_cases h4 : (x : Int) ≤ 90
      · go_enter Tryd.func20, Tryd.ntmps20
        go_wp2
        go_ret
        exact ⟨ret_bool (by simp <;> omega), rfl⟩
      · by_cases h6 : x = 95
        · subst h6
          go_enter Tryd.func20, Tryd.ntmps20
          go_wp2
          go_ret
          exact ⟨ret_bool (by simp), rfl⟩
        · have h5 : ((x : Int) == 95) = false := by simp; omega
          go_enter Tryd.func20, Tryd.ntmps20
          go_wp2
          go_ret
          exact ⟨ret_bool (by simp <;> omega), rfl⟩
    · have h5 : ((x : Int) == 95) = false := by simp; omega
      go_enter Tryd.func20, Tryd.ntmps20
      go_wp2
      go_ret
      exact ⟨ret_bool (by simp <;> omega), rfl⟩
theorem sget0 (c : UInt8) (r : L) : ∃ h : 0 < (mkS (c :: r)).size, (mkS (c :: r))[0]'h = c := ⟨by rw [mkS_size]; simp, rfl⟩
set_option maxHeartbeats 1600000 in
set_option maxRecDepth 100000 in
theorem name_v (l : L) (hl : l.length ≤ 5000) (W : World) : Calls Tryd.prog 14 #[.string (mkS l)] W fun e W' => e = .returned (.bool (nameB l)) ∧ Later W W' := by
  cases l with
  | nil =>
    have he : ((mkS []).toList == ([] : List UInt8)) = true := by rw [toList_mkS]; rfl
    go_enter Tryd.func14, Tryd.ntmps14
    go_wp2
    go_ret
    exact ⟨rfl, Later.refl _⟩
  | cons c r =>
    have he : ((mkS (c :: r)).toList == ([] : List UInt8)) = false := by rw [toList_mkS]; rfl
    obtain ⟨hs0, hg0⟩ := sget0 c r
    obtain ⟨l, hll⟩ : ∃ l, l = c :: r := ⟨_, rfl⟩
    rw [← hll] at hl he ⊢
    have hs1 : (0 : Int) < ((mkS l).size : Int) := by rw [hll]; omega
    have hg1 : ∀ h, (mkS l)[0]'h = c := by rw [hll]; exact fun _ => hg0
    have HD := Lib.hid (digit_v c)
    have HLL := Lib.hid hll
    by_cases hd : dig c = true
    · have hd1 := HD.out
      rw [show (decide (48 ≤ c) && decide (c ≤ 57)) = true from hd] at hd1
      have HD1 := Lib.hid hd1
      have HNB := Lib.hid (show nameB l = false by rw [hll]; unfold nameB; simp only [hd]; rfl)
      clear hd1 hll
      go_enter Tryd.func14, Tryd.ntmps14
      go_wp2_with (first
        | (go_at_call 19; (with_reducible refine (HD1.out _).mono ?_); rintro e w2 ⟨rfl, rfl⟩))
      go_ret
      exact ⟨ret_bool HNB.out.symm, Later.refl _⟩
    · have hdf : dig c = false := by simpa using hd
      have hd1 := HD.out
      rw [show (decide (48 ≤ c) && decide (c ≤ 57)) = false from hdf] at hd1
      have HD1 := Lib.hid hd1
      have HNB := Lib.hid (show nameB l = l.all fun c => letB c || dig c by rw [hll]; unfold nameB; simp only [hdf]; rfl)
      obtain ⟨cp, W2, hcv, hl2, hr2⟩ := conv_str W l W.heap.size rfl
      obtain ⟨n, hn⟩ : ∃ n, n = l.length := ⟨_, rfl⟩
      rw [← hn] at hcv hr2 hl
      have HL2 := Lib.hid hl2
      have HR := Lib.hid hr2
      have HN := Lib.hid hn
      clear hl2 hr2 hn hd1 hll
      go_enter Tryd.func14, Tryd.ntmps14
      go_wp2_with (first
        | (go_at_call 19; (with_reducible refine (HD1.out _).mono ?_); rintro e w2 ⟨rfl, hw⟩; subst hw))
      go_loopw [15] (fun i wr => ∃ k : Nat, k ≤ n ∧ i = .int .i64 (k : Int) ∧ wr = W2 ∧ (l.take k).all (fun c => letB c || dig c) = true) (fun i _ => n - (intOf i).toNat)
      case atStart => exact ⟨0, by omega, rfl, rfl, rfl⟩
      case round =>
        obtain ⟨k, hk, rfl, hw, ha⟩ := hrel
        subst hw
        have HA := Lib.hid ha
        clear ha
        by_cases hkn : k < n
        · obtain ⟨ad, hlk, had, _, hcell⟩ := HR.out.byte hkn
          obtain ⟨x, hx⟩ : ∃ x, x = l[k] := ⟨_, rfl⟩
          rw [← hx] at hcell
          injection had with had
          have hcell2 := hcell
          rw [← had, add_lit0] at hcell2
          have hk0 : (0 : Int) ≤ (k : Int) := by omega
          have hk1 : (k : Int) < (n : Int) := by omega
          have HTK := Lib.hid (show l.take (k + 1) = l.take k ++ [x] by rw [List.take_succ_eq_append_getElem hlk, hx])
          have HX := Lib.hid (show x ∈ l by rw [hx]; exact List.getElem_mem _)
          have HLT := Lib.hid (letter_v x)
          have HDG := Lib.hid (digit_v x)
          have hcell3 : wr.cell? ⟨w2.heap.size, k, none⟩ = some (.int .u8 (x.toNat : Int)) := hcell2
          have hlt := HLT.out
          have hdg : ∀ W, Calls Tryd.prog 19 #[.int .u8 (x.toNat : Int)] W fun e W' => e = .returned (.bool (dig x)) ∧ W' = W := HDG.out
          clear hcell hcell2 hx had hlk
          cases hlb : letB x with
          | true =>
            rw [hlb] at hlt
            have HL1 := Lib.hid hlt
            have HNX := Lib.hid (show (l.take (k + 1)).all (fun c => letB c || dig c) = true by rw [HTK.out, List.all_append, HA.out]; simp [hlb])
            clear hlt hdg hlb
            go_wp2_with (first
              | (go_at_call 20; (with_reducible refine (HL1.out _).mono ?_); rintro e w3 ⟨rfl, rfl⟩))
            go_roundw
            case rel => exact ⟨k + 1, by omega, by go_num, by first | rfl | trivial, HNX.out⟩
            case measure => simp [intOf]; omega
          | false =>
            rw [hlb] at hlt
            have HL1 := Lib.hid hlt
            cases hdb : dig x with
            | true =>
              rw [hdb] at hdg
              have HD2 := Lib.hid hdg
              have HNX := Lib.hid (show (l.take (k + 1)).all (fun c => letB c || dig c) = true by rw [HTK.out, List.all_append, HA.out]; simp [hdb])
              clear hlt hdg hlb hdb
              go_wp2_with (first
                | (go_at_call 20; (with_reducible refine (HL1.out _).mono ?_); rintro e w3 ⟨rfl, rfl⟩)
                | (go_at_call 19; (with_reducible refine (HD2.out _).mono ?_); rintro e w3 ⟨rfl, rfl⟩))
              go_roundw
              case rel => exact ⟨k + 1, by omega, by go_num, by first | rfl | trivial, HNX.out⟩
              case measure => simp [intOf]; omega
            | false =>
              rw [hdb] at hdg
              have HD2 := Lib.hid hdg
              have HRES := Lib.hid (show nameB l = false by
                rw [HNB.out, Bool.eq_false_iff]
                intro h
                rw [List.all_eq_true] at h
                have := h x HX.out
                simp [hlb, hdb] at this)
              clear hlt hdg hlb hdb
              go_wp2_with (first
                | (go_at_call 20; (with_reducible refine (HL1.out _).mono ?_); rintro e w3 ⟨rfl, rfl⟩)
                | (go_at_call 19; (with_reducible refine (HD2.out _).mono ?_); rintro e w3 ⟨rfl, rfl⟩))
              go_ret
              exact ⟨ret_bool HRES.out.symm, HL2.out⟩
        · obtain hke : k = n := by omega
          have HRES := Lib.hid (show nameB l = true by rw [HNB.out]; have := HA.out; rw [hke, HN.out, List.take_length] at this; exact this)
          clear hke
          go_wp2
          go_ret
          exact ⟨ret_bool HRES.out.symm, HL2.out⟩
/-- A word's name and value; whether it is an assignment. -/
def setsM (l : L) : L × L × Bool := if 0 ≤ Lib.indexByte l 61 ∧ nameB (l.take (Lib.indexByte l 61).toNat) = true then (l.take (Lib.indexByte l 61).toNat, l.drop ((Lib.indexByte l 61).toNat + 1), true) else ([], [], false)
theorem idx_le (l : L) (c : UInt8) : Lib.indexByte l c < l.length ∨ Lib.indexByte l c = -1 := by
  induction l with
  | nil => exact .inr rfl
  | cons b l ih =>
    unfold Lib.indexByte
    have := Lib.indexByte_ge l c
    split
    · left; simp only [List.length_cons]; omega
    · split
      · exact .inr rfl
      · rename_i h1 h2
        rw [beq_iff_eq] at h2
        rcases ih with ih | ih
        · left; simp only [List.length_cons]; omega
        · exact absurd ih h2
set_option maxHeartbeats 1600000 in
set_option maxRecDepth 100000 in
theorem index_v (l : L) (v : Int) (hv : v = Lib.indexByte l 61) (W : World) : Calls Tryd.prog 43 #[.string (mkS l), .string ⟨#[61]⟩] W fun e W' => e = .returned (.int .i64 v) ∧ W' = W := by
  have HC := Lib.hid (idxLite_v (mkS l) 61 W)
  rw [mkS_list, ← hv] at HC
  by_cases h1 : l = [61]
  · have he : (([61] : List UInt8) == (mkS l).toList) = true := by rw [toList_mkS, h1]; rfl
    have HV := Lib.hid (show v = 0 by rw [hv, h1]; rfl)
    clear hv h1
    go_enter Tryd.func43, Tryd.ntmps43
    go_wp2
    go_ret
    exact ⟨by rw [HV.out]; rfl, rfl⟩
  · have he : (([61] : List UInt8) == (mkS l).toList) = false := by rw [toList_mkS]; exact beq_eq_false_iff_ne.2 fun e => h1 e.symm
    clear hv h1
    go_enter Tryd.func43, Tryd.ntmps43
    go_wp2_with (go_at_call 25; (refine HC.out.mono ?_); rintro e w1 ⟨rfl, rfl⟩)
    go_ret
    exact ⟨rfl, rfl⟩
set_option maxHeartbeats 1600000 in
set_option maxRecDepth 100000 in
theorem liteCut_v (l : L) (v : Int) (hv : v = Lib.indexByte l 61) (W : World) (hl : l.length ≤ 5000) : Calls Tryd.prog 26 #[.string (mkS l), .string ⟨#[61]⟩] W fun e W' => e = .returned (.tuple #[.string (if 0 ≤ v then mkS (l.take v.toNat) else mkS l), .string (if 0 ≤ v then mkS (l.drop (v.toNat + 1)) else ⟨#[]⟩), .bool (decide (0 ≤ v))]) ∧ ∃ m, W' = W.drewN m := by
  have HC := Lib.hid (index_v l v hv W)
  have hlt := idx_le l 61
  have hge := Lib.indexByte_ge l 61
  rw [← hv] at hlt hge
  have hs : (mkS l).size = l.length := mkS_size l
  by_cases h0 : 0 ≤ v
  · obtain ⟨k, rfl⟩ : ∃ k : Nat, v = (k : Int) := ⟨v.toNat, by omega⟩
    have hk : k < l.length := by omega
    have x1 : (mkS l).extract 0 k = mkS (l.take k) := piece_ l 0 k (l.take k) (l.drop k) (by simp) (by simp; omega)
    have x2 : (mkS l).extract (k + 1) (mkS l).size = mkS (l.drop (k + 1)) := piece_ l (k + 1) _ (l.drop (k + 1)) [] (by simp) (by rw [hs, List.length_drop]; omega)
    have hk1 : (k : Int) ≤ ((mkS l).size : Int) := by omega
    have hwr : wrap64 ((k : Int) + 1) = ((k + 1 : Nat) : Int) := by unfold wrap64; omega
    have hk3 : (k : Int) + 1 ≤ ((mkS l).size : Int) := by omega
    have hk4 : (0 : Int) ≤ (k : Int) + 1 := by omega
    have hk6 : ((k : Int) + 1).toNat = k + 1 := by omega
    have hwi : IntKind.i64.wrap ((k : Int) + 1) = ((k + 1 : Nat) : Int) := by rw [IntKind.wrap_i64]; omega
    have hk2 : ((k + 1 : Nat) : Int) ≤ ((mkS l).size : Int) := by omega
    have hk5 : k ≤ 5000 := by omega
    have hk00 : (0 : Int) ≤ (k : Int) := by omega
    have HK := Lib.hid hk
    rw [if_pos h0, if_pos h0, Int.toNat_natCast, decide_eq_true h0]
    clear hv hlt hge hs hk
    go_enter Tryd.func26, Tryd.ntmps26
    go_wp2_with (go_at_call 43; (with_reducible refine HC.out.mono ?_); rintro e w1 ⟨rfl, rfl⟩)
    go_quiet (fail)
    go_wp2
    go_ret3
    exact ⟨rfl, _, rfl⟩
  · have HV := Lib.hid h0
    have hv0 : v = -1 := by omega
    subst hv0
    rw [if_neg h0, if_neg h0, decide_eq_false h0]
    clear hv hlt hge hs
    go_enter Tryd.func26, Tryd.ntmps26
    go_wp2_with (go_at_call 43; (with_reducible refine HC.out.mono ?_); rintro e w1 ⟨rfl, rfl⟩)
    go_ret3
    exact ⟨rfl, 0, (World.drewN_zero _).symm⟩
set_option maxRecDepth 100000 in
theorem cut_v (l : L) (v : Int) (hv : v = Lib.indexByte l 61) (W : World) (hl : l.length ≤ 5000) (a b : ByteArray) (o : Bool) (ha : a = if 0 ≤ v then mkS (l.take v.toNat) else mkS l) (hb : b = if 0 ≤ v then mkS (l.drop (v.toNat + 1)) else ⟨#[]⟩) (ho : o = decide (0 ≤ v)) : Calls Tryd.prog 18 #[.string (mkS l), .string ⟨#[61]⟩] W fun e W' => e = .returned (.tuple #[.string a, .string b, .bool o]) ∧ ∃ m, W' = W.drewN m := by
  have hc := liteCut_v l v hv W hl
  rw [← ha, ← hb, ← ho] at hc
  have HC := Lib.hid hc
  clear hc ha hb ho hv hl
  go_enter Tryd.func18, Tryd.ntmps18
  go_wp2_with (go_at_call 26; (with_reducible refine HC.out.mono ?_); rintro e w1 ⟨rfl, m, rfl⟩)
  go_ret3
  exact ⟨rfl, _, rfl⟩
set_option maxHeartbeats 1600000 in
set_option maxRecDepth 100000 in
theorem sets_v (l : L) (hl : l.length ≤ 5000) (W : World) : Calls Tryd.prog 12 #[.string (mkS l)] W fun e W' => e = .returned (.tuple #[.string (mkS (setsM l).1), .string (mkS (setsM l).2.1), .bool (setsM l).2.2]) ∧ Later W W' := by
  obtain ⟨v, hv⟩ : ∃ v, v = Lib.indexByte l 61 := ⟨_, rfl⟩
  by_cases h0 : 0 ≤ v
  · have HC := Lib.hid (cut_v l v hv W hl (mkS (l.take v.toNat)) (mkS (l.drop (v.toNat + 1))) true (if_pos h0).symm (if_pos h0).symm (decide_eq_true h0).symm)
    have hnm := fun m => name_v (l.take v.toNat) (by rw [List.length_take]; omega) (W.drewN m)
    cases hn : nameB (l.take v.toNat) with
    | true =>
      have HS := Lib.hid (show setsM l = (l.take v.toNat, l.drop (v.toNat + 1), true) by unfold setsM; rw [← hv, if_pos ⟨h0, hn⟩])
      rw [hn] at hnm
      have HN := Lib.hid hnm
      clear hnm hn hv
      go_enter Tryd.func12, Tryd.ntmps12
      go_wp2_with (first
        | (go_at_call 18; (with_reducible refine HC.out.mono ?_); rintro e w1 ⟨rfl, m, rfl⟩)
        | (go_at_call 14; (with_reducible refine (HN.out _).mono ?_); rintro e w2 ⟨rfl, hl2⟩))
      go_ret3
      exact ⟨by rw [HS.out]; rfl, (Below.drewN _ _ _).trans hl2⟩
    | false =>
      have HS := Lib.hid (show setsM l = ([], [], false) by unfold setsM; rw [← hv, if_neg (by rw [hn]; simp)])
      rw [hn] at hnm
      have HN := Lib.hid hnm
      clear hnm hn hv
      go_enter Tryd.func12, Tryd.ntmps12
      go_wp2_with (first
        | (go_at_call 18; (with_reducible refine HC.out.mono ?_); rintro e w1 ⟨rfl, m, rfl⟩)
        | (go_at_call 14; (with_reducible refine (HN.out _).mono ?_); rintro e w2 ⟨rfl, hl2⟩))
      go_ret3
      exact ⟨by rw [HS.out]; rfl, (Below.drewN _ _ _).trans hl2⟩
  · have HC := Lib.hid (cut_v l v hv W hl (mkS l) ⟨#[]⟩ false (if_neg h0).symm (if_neg h0).symm (decide_eq_false h0).symm)
    have HS := Lib.hid (show setsM l = ([], [], false) by unfold setsM; rw [← hv, if_neg (fun h => h0 h.1)])
    clear hv
    go_enter Tryd.func12, Tryd.ntmps12
    go_wp2_with (first
      | (go_at_call 18; (with_reducible refine HC.out.mono ?_); rintro e w1 ⟨rfl, m, rfl⟩))
    go_ret3
    exact ⟨by rw [HS.out]; rfl, Below.drewN _ _ _⟩
end Go.Proofs.YtnjabmacbgehlaaDoor
