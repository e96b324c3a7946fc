/- A reader goes on: size, pass, enter, take, need. No premises. -/
import Derived.Test.YtcidklbeafjmoaaGreatDoorAd
namespace Go.Proofs.YtcidklbeafjmoaaGreatDoor
open Go.RowKit Go.Maps
theorem wpList_index {P : Program} {ops : Array Oper} {rest : List Oper} {o : Oper} {a : Act} {w : World} {Q : Exit → Act → World → Prop} (hgd : o.guard = none) {t : TypeId} (x i : Operand) (ho : o.op = .index t x i) {v iv : Value} (hx : a.eval x = v) (hi : a.eval i = iv) (u : Value) (hrun : (Instr.index t v iv).run P w = .ok u w)
    (h : wpList P ops Q rest (a.put o.dst u) w) : wpList P ops Q (o :: rest) a w := by
  refine wpList_plain hgd fun K hK => ?_
  unfold Oper.wp execOp
  simp only [ho, hx, hi, Sem.run_bind, hrun, Result.andThen_ok, Sem.run_pure, Oper.upon_value]
  exact hK _ _ h
namespace Ar
theorem drop_text (S : L) (p : Nat) : (mkS S).extract p (mkS S).size = mkS (S.drop p) := by
  apply ByteArray.ext
  simp [mkS, ByteArray.size]
  exact List.take_of_length_le (by simp)
theorem extract_take (S : L) (k : Nat) : (mkS S).extract 0 k = mkS (S.take k) := by
  apply ByteArray.ext
  simp [mkS]
theorem sub_text (S : L) (p : Nat) (c : UInt8) (r : L) (h : S.drop p = c :: r) : (mkS S).extract p (p + 1) = mkS [c] := by
  apply ByteArray.ext
  simp [mkS]
  rw [h]; rfl
theorem set_text (S : L) (k : Nat) (c : UInt8) (hk : k < S.length) (h : S[k] = c) : (mkS S).extract k (k + 1) = mkS [c] := by
  refine sub_text S k c (S.drop (k + 1)) ?_
  rw [List.drop_eq_getElem_cons hk, h]
theorem take_while {p : UInt8 → Bool} : ∀ (l : L) (k : Nat), k ≤ l.length → (l.take k).all p = true → (∀ h : k < l.length, p l[k] = false) → l.takeWhile p = l.take k
  | [], k, hk, _, _ => by simp at hk; subst hk; rfl
  | c :: l, 0, _, _, h => by
    have := h (by simp)
    simp only [List.getElem_cons_zero] at this
    simp [this]
  | c :: l, k + 1, hk, ha, h => by
    simp only [List.take_succ_cons, List.all_cons, Bool.and_eq_true] at ha
    rw [List.takeWhile_cons, ha.1]
    simp only [if_true, List.take_succ_cons]
    rw [take_while l k (by simp at hk; omega) ha.2 (fun h1 => by have := h (by simp; omega); simpa using this)]
theorem w64 (x : Int) (h : -9223372036854775808 ≤ x ∧ x < 9223372036854775808) : wrap64 x = x := by unfold wrap64; omega
theorem nil_eq (l : L) : ((mkS l).toList == ([] : List UInt8)) = decide (l = []) := by
  rw [toList_mkS]
  cases l <;> simp
theorem pre_v (l p : L) (W : World) : Calls Tryz.prog 35 #[.string (mkS l), .string (mkS p)] W fun e W' => e = .returned (.bool (Lib.hasPrefix l p)) ∧ W' = W := by
  have := Tryz.strings_HasPrefix (mkS l) (mkS p) W
  rwa [mkS_list, mkS_list] at this
def longsV : Array Value := (longs.map sv).toArray
set_option maxRecDepth 100000 in
theorem longs_load {W : World} {g : Nat} (h : Tb W g) : (Instr.loadAt 80 (.pointer (some ⟨0, 0, none⟩))).run Tryz.prog W = .ok (.agg longsV) W := by
  refine run_loadAt_mid (P := Tryz.prog) W 0 0 80 (longs.map sv) _ (fun j u hu => ?_) Tryz.underlying80 rfl (by kernel_rfl)
  have hj : j < 9 := (List.getElem?_eq_some_iff.1 hu).1
  rw [Nat.zero_add, h.lg j hj]
  rw [List.getElem?_map] at hu
  rw [List.getD_eq_getElem?_getD]
  cases e : longs[j]? with
  | none => rw [e] at hu; cases hu
  | some o => rw [e] at hu; simpa [sv] using hu
set_option maxRecDepth 100000 in
theorem longs_index (k : Nat) (hk : k < 9) (w : World) : (Instr.index 80 (.agg longsV) (.int .i64 (k : Int))).run Tryz.prog w = .ok (.string (mkS (longs.getD k []))) w := by
  have hkk : k = 0 ∨ k = 1 ∨ k = 2 ∨ k = 3 ∨ k = 4 ∨ k = 5 ∨ k = 6 ∨ k = 7 ∨ k = 8 := by omega
  clear hk
  rcases hkk with rfl | rfl | rfl | rfl | rfl | rfl | rfl | rfl | rfl
  all_goals rfl
theorem longs_len (k : Nat) (hk : k < 9) : (longs.getD k []).length = 2 := by
  have hkk : k = 0 ∨ k = 1 ∨ k = 2 ∨ k = 3 ∨ k = 4 ∨ k = 5 ∨ k = 6 ∨ k = 7 ∨ k = 8 := by omega
  clear hk
  rcases hkk with rfl | rfl | rfl | rfl | rfl | rfl | rfl | rfl | rfl
  all_goals rfl
theorem any_yes {l : L} {k : Nat} (hk : k < 9) (h : Lib.hasPrefix l (longs.getD k []) = true) : longs.any (Lib.hasPrefix l ·) = true := by
  rw [List.any_eq_true]
  exact ⟨longs.getD k [], by rw [List.getD_eq_getElem?_getD, List.getElem?_eq_getElem (show k < longs.length from hk)]; exact List.getElem_mem _, h⟩
theorem any_no {l : L} (h : ∀ j : Nat, j < 9 → Lib.hasPrefix l (longs.getD j []) = false) : longs.any (Lib.hasPrefix l ·) = false := by
  rw [List.any_eq_false]
  intro t ht
  obtain ⟨j, hj, rfl⟩ := List.mem_iff_getElem.1 ht
  have := h j hj
  rw [List.getD_eq_getElem?_getD, List.getElem?_eq_getElem hj] at this
  simpa using this
set_option maxHeartbeats 3200000 in
set_option maxRecDepth 100000 in
theorem size_v {W : World} {g : Nat} (h : Tb W g) (hgl : g < W.heap.size) (l : L) (hl : l.length ≤ 4000) : Calls Tryz.prog 63 #[.string (mkS l)] W fun e W' => e = .returned (.int .i64 (size l : Nat)) ∧ Later W W' := by
  have HO := Lib.hid (longs_load h)
  obtain ⟨n, hn⟩ : ∃ n, n = l.length := ⟨_, rfl⟩
  have hsz : ((mkS l).size : Int) = (n : Int) := by rw [mkS_size, hn]
  rw [← hn] at hl
  have hnn : (0 : Int) ≤ (n : Int) := by omega
  have hnb : (n : Int) ≤ 4000 := by omega
  have HN := Lib.hid hn
  clear h hn
  go_enter Tryz.func63, Tryz.ntmps63
  go_wp2_with (refine wpList_loadRun rfl 80 (.global 0) rfl _ _ rfl HO.out ?_)
  go_loopw [7] (fun i wr => ∃ k : Nat, k ≤ 9 ∧ i = .int .i64 (k : Int) ∧ wr = W ∧ ∀ j, j < k → Lib.hasPrefix l (longs.getD j []) = false) (fun i _ => 9 - (intOf i).toNat)
  case atStart => exact ⟨0, by omega, rfl, rfl, fun j hj => by omega⟩
  case round =>
    obtain ⟨k, hk, rfl, rfl, hj⟩ := hrel
    have HJ := Lib.hid hj
    clear hj
    by_cases hk9 : k < 9
    · have hk1 : (k : Int) < 9 := by omega
      have HIX := Lib.hid (longs_index k hk9)
      have HLN := Lib.hid (longs_len k hk9)
      obtain ⟨o, ho⟩ : ∃ o, o = longs.getD k [] := ⟨_, rfl⟩
      rw [← ho] at HIX HLN
      have HOO := Lib.hid ho
      have HP := Lib.hid (fun W => pre_v l o W)
      cases ha : Lib.hasPrefix l o with
      | true =>
        have HA := Lib.hid (show size l = 2 by unfold size; rw [if_pos (any_yes hk9 (by rw [← ho]; exact ha))])
        rw [ha] at HP
        have hos : ((mkS o).size : Int) = 2 := by rw [mkS_size, HLN.out]; rfl
        clear ha ho hk9
        go_wp2_with (first
          | (refine wpList_index rfl (.tmp 6) (.tmp 7) rfl rfl rfl (.string (mkS o)) (HIX.out _) ?_)
          | (go_at_call 35; (with_reducible refine (HP.out _).mono ?_); rintro e w1 ⟨rfl, rfl⟩))
        go_ret
        rw [HA.out]
        exact ⟨rfl, Later.refl _⟩
      | false =>
        have HA := Lib.hid (show ∀ j, j < k + 1 → Lib.hasPrefix l (longs.getD j []) = false from fun j hj => by
          rcases Nat.lt_succ_iff_lt_or_eq.1 hj with h1 | h1
          · exact HJ.out j h1
          · rw [h1, ← ho]; exact ha)
        rw [ha] at HP
        have hw : wrap64 ((k : Int) + 1) = (k : Int) + 1 := w64 _ (by omega)
        clear ha ho
        go_wp2_with (first
          | (refine wpList_index rfl (.tmp 6) (.tmp 7) rfl rfl rfl (.string (mkS o)) (HIX.out _) ?_)
          | (go_at_call 35; (with_reducible refine (HP.out _).mono ?_); rintro e w1 ⟨rfl, rfl⟩))
        go_roundw
        case rel => exact ⟨k + 1, by omega, by go_num, trivial, HA.out⟩
        case measure => simp [intOf]; omega
    · have HSZ := Lib.hid (show size l = max (l.takeWhile nm).length (min l.length 1) by unfold size; rw [any_no (fun j hj => HJ.out j (by omega))]; rfl)
      have hk99 : ¬ ((k : Int) < 9) := by omega
      clear hk9 hk HJ
      go_wp2
      obtain ⟨wo, hwo⟩ : ∃ wo, wo = wr := ⟨_, rfl⟩
      have HWO := Lib.hid (show Later wr wo by rw [hwo]; exact Later.refl _)
      rw [← hwo]
      clear hwo
      go_loopw [5] (fun i wr => ∃ j : Nat, j ≤ n ∧ i = .int .i64 (j : Int) ∧ Later wo wr ∧ (l.take j).all nm = true) (fun i _ => n - (intOf i).toNat)
      case atStart => exact ⟨0, by omega, rfl, Later.refl _, rfl⟩
      case round =>
        obtain ⟨j, hk, rfl, hlr, ha⟩ := hrel
        have HA := Lib.hid ha
        have HLR := Lib.hid hlr
        clear ha hlr
        have hk0 : (0 : Int) ≤ (j : Int) := by omega
        have hw : wrap64 ((j : Int) + 1) = (j : Int) + 1 := w64 _ (by omega)
        by_cases hkn : j < n
        · have hk1 : (j : Int) < (n : Int) := by omega
          have hk2 : (j : Int) + 1 ≤ (n : Int) := by omega
          have hk3 : (j : Int) ≤ (j : Int) + 1 := by omega
          have hlk : j < l.length := by have := HN.out; omega
          obtain ⟨y, hy⟩ : ∃ y, y = l[j] := ⟨_, rfl⟩
          have HX := Lib.hid (show (mkS l).extract j (j + 1) = mkS [y] from set_text l j y hlk hy.symm)
          have HM := Lib.hid (may_v y wr)
          have HY := Lib.hid hy
          have HTK := Lib.hid (show l.take (j + 1) = l.take j ++ [y] by rw [List.take_succ_eq_append_getElem hlk, hy])
          have hn1 : ((j : Int) + 1).toNat = j + 1 := by omega
          clear hy
          cases hm : nm y with
          | true =>
            have hmv := HM.out
            rw [hm] at hmv
            have HM1 := Lib.hid hmv
            have HNX := Lib.hid (show (l.take (j + 1)).all nm = true by rw [HTK.out, List.all_append, HA.out]; simp [hm])
            clear hmv hm
            go_wp2_with (go_at_call 77; (try rw [hn1]); (try rw [HX.out]); (with_reducible refine HM1.out.mono ?_); rintro e w2 ⟨rfl, hl2⟩)
            go_roundw
            case rel => exact ⟨j + 1, by omega, by go_num, HLR.out.trans hl2, HNX.out⟩
            case measure => simp [intOf]; omega
          | false =>
            have hmv := HM.out
            rw [hm] at hmv
            have HM1 := Lib.hid hmv
            have HRES := Lib.hid (show (size l : Int) = max (j : Int) (min (n : Int) 1) by
              have e : l.takeWhile nm = l.take j := take_while l j (by omega) HA.out fun h => by rw [← HY.out]; exact hm
              rw [HSZ.out, e, List.length_take]
              have := HN.out
              omega)
            clear hmv hm
            go_wp2_with (go_at_call 77; (try rw [hn1]); (try rw [HX.out]); (with_reducible refine HM1.out.mono ?_); rintro e w2 ⟨rfl, hl2⟩)
            go_ret
            rw [HRES.out]
            exact ⟨rfl, HWO.out.trans (HLR.out.trans hl2)⟩
        · have HRES := Lib.hid (show (size l : Int) = max (j : Int) (min (n : Int) 1) by
            have e : l.takeWhile nm = l.take j := take_while l j (by have := HN.out; omega) HA.out fun h => by have := HN.out; omega
            rw [HSZ.out, e, List.length_take]
            have := HN.out
            omega)
          have hjn : ¬ ((j : Int) < (n : Int)) := by omega
          clear hkn
          go_wp2
          go_ret
          rw [HRES.out]
          exact ⟨rfl, HWO.out.trans HLR.out⟩
end Ar
end Go.Proofs.YtcidklbeafjmoaaGreatDoor
