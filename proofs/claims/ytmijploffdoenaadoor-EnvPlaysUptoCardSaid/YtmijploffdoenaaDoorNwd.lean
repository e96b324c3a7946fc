/- The library's ParseUint at ten, sixty-three bits: any text. No premises. -/
import Derived.Test.YtmijploffdoenaaDoorNwc
import Derived.Laws.BitsAllLaws
namespace Go.Proofs.YtmijploffdoenaaDoor
open Go.RowKit Go.Maps
namespace En
theorem u8_or_list (a b : UInt8) : bits .or .u8 (a.toNat : Int) (b.toNat : Int) = ((a ||| b).toNat : Int) := by
  rw [u8_or_nat _ _ (UInt8.toNat_lt a) (UInt8.toNat_lt b), UInt8.toNat_or]
theorem lower_v (c : UInt8) (W : World) : Calls Tryd.prog 72 #[.int .u8 (c.toNat : Int)] W fun e W' => e = .returned (.int .u8 ((c ||| 32).toNat : Int)) ∧ W' = W := by
  have h : bits .or .u8 (c.toNat : Int) 32 = ((c ||| 32).toNat : Int) := u8_or_list c 32
  obtain ⟨x, hx⟩ : ∃ x, x = (c ||| 32).toNat := ⟨_, rfl⟩
  rw [← hx] at h ⊢
  clear hx
  go_enter Tryd.func72, Tryd.ntmps72
  go_wp2
  go_ret
  exact ⟨rfl, rfl⟩
theorem val_app (a : B) : ∀ b : B, val a ≤ val (a ++ b) := by
  intro b
  suffices ∀ n, ∀ b : B, b.length = n → val a ≤ val (a ++ b) from this _ b rfl
  intro n
  induction n with
  | zero => intro b hb; rw [List.length_eq_zero_iff.1 hb, List.append_nil]; exact Nat.le_refl _
  | succ n ih =>
    intro b hb
    obtain ⟨d, c, rfl⟩ := snoc_of b (by intro e; rw [e] at hb; cases hb)
    have := ih d (by rw [List.length_append] at hb; simpa using hb)
    rw [← List.append_assoc, val_snoc]
    omega
/-- A number of 63 bits in digits. -/
def NumOk63 (l : B) : Prop := l.all digB = true ∧ val l < 9223372036854775808
/-- What is told of a text. -/
def PuOk (l : B) (x : Int) (q : Value) : Prop := (NumOk63 l ∧ q = .nilIface ∧ x = (val l : Int)) ∨ (¬ NumOk63 l ∧ (q = .iface 105 (.int .i64 1) ∨ q = .iface 105 (.int .i64 2)))
theorem not_ok_dig {l : B} {k : Nat} (hk : k < l.length) (h : digB l[k] = false) : ¬ NumOk63 l := fun ho => by
  have := List.all_eq_true.1 ho.1 _ (List.getElem_mem hk)
  rw [h] at this
  cases this
theorem not_ok_big {l : B} {k : Nat} (h : 9223372036854775808 ≤ val (l.take k)) : ¬ NumOk63 l := fun ho => by
  have h1 := val_app (l.take k) (l.drop k)
  rw [List.take_append_drop] at h1
  have := ho.2
  omega
theorem not_dig {c : UInt8} (h : digB c = false) : ¬ (48 ≤ c.toNat ∧ c.toNat ≤ 57) := fun hh => by rw [digB_nat.2 hh] at h; cases h
theorem val_step {l : B} {k : Nat} (hk : k < l.length) : val (l.take (k + 1)) = val (l.take k) * 10 + (l[k].toNat - 48) := by rw [List.take_succ_eq_append_getElem hk, val_snoc]
set_option maxHeartbeats 6400000 in
set_option maxRecDepth 100000 in
theorem pu_inner (l : B) (W : World) (h0 : l ≠ []) (hl : l.length ≤ 2000000) : Calls Tryd.prog 61 #[.string (mkS l), .int .i64 10, .int .i64 63] W fun e W' => (∃ x q, e = .returned (.tuple #[.int .u64 x, q]) ∧ PuOk l x q) ∧ Later W W' := by
  have he : ((mkS l).toList == ([] : List UInt8)) = false := by rw [toList_mkS]; exact beq_eq_false_iff_ne.2 h0
  obtain ⟨cp, W2, hcv, hl2, hr2⟩ := Ar.conv_str W l W.heap.size rfl
  obtain ⟨n, hn⟩ : ∃ n, n = l.length := ⟨_, rfl⟩
  rw [← hn] at hcv hr2 hl
  have HL2 := Lib.hid hl2
  have HR := Lib.hid hr2
  have HN := Lib.hid hn
  clear hl2 hr2 hn h0
  go_enter Tryd.func61, Tryd.ntmps61
  go_wp2
  go_loopw [12, 13, 101] (fun us v i wr => ∃ (k : Nat) (a : Int), k ≤ n ∧ us = .bool false ∧ i = .int .i64 (k : Int) ∧ v = .int .u64 a ∧ wr = W2 ∧ Hid (a = (val (l.take k) : Nat) ∧ a < 9223372036854775808 ∧ (l.take k).all digB = true)) (fun _ _ i _ => n - (intOf i).toNat)
  case atStart => exact ⟨0, 0, by omega, rfl, rfl, rfl, rfl, Lib.hid ⟨rfl, by omega, rfl⟩⟩
  case round =>
    obtain ⟨k, a, hk, rfl, rfl, rfl, hw, hm⟩ := hrel
    have hw := hw.symm
    subst hw
    have hk0 : (0 : Int) ≤ (k : Int) := by omega
    by_cases hkn : k < n
    · have hk1 : (k : Int) < (n : Int) := by omega
      have hlk : k < l.length := by have := HN.out; omega
      obtain ⟨ad, _, had, _, hcell⟩ := HR.out.byte hkn
      obtain ⟨c, hc⟩ : ∃ c, c = l[k] := ⟨_, rfl⟩
      rw [← hc] at hcell
      injection had with had
      rw [← had, add_lit0] at hcell
      have HVS := Lib.hid (val_step hlk)
      rw [← hc] at HVS
      obtain ⟨x, hx⟩ : ∃ x, x = c.toNat := ⟨_, rfl⟩
      have hx256 : x < 256 := by rw [hx]; exact UInt8.toNat_lt c
      have hcell3 : W2.cell? ⟨W.heap.size, k, none⟩ = some (.int .u8 (x : Int)) := by rw [hx]; exact hcell
      have hw1 : wrap64 ((k : Int) + 1) = (k : Int) + 1 := Pm.w64 _ (by omega)
      have HC := Lib.hid hc
      have HX := Lib.hid hx
      have HLK := Lib.hid hlk
      have ai0 : 0 ≤ a := by have := hm.out.1; omega
      have ai1 : a < 9223372036854775808 := hm.out.2.1
      cases hd : digB c with
      | true =>
        obtain ⟨g1', g2'⟩ := digB_nat.1 hd
        rw [← hx] at g1' g2'
        have g1 : (48 : Int) ≤ (x : Int) := by omega
        have g2 : (x : Int) ≤ 57 := by omega
        have g3 : ((x : Int) == 95) = false := by simp; omega
        have g4 : (x : Int) - 48 < 10 := by omega
        have HND := Lib.hid (show (l.take (k + 1)).all digB = true by rw [List.take_succ_eq_append_getElem hlk, List.all_append, hm.out.2.2, ← hc]; simp [hd])
        have HNX : Hid (((val (l.take (k + 1)) : Nat) : Int) = a * 10 + ((x : Int) - 48)) := Lib.hid (by rw [HVS.out, hm.out.1, ← hx]; omega)
        have HM := hm
        clear hcell hx had hc hlk g1' g2' hd hm
        by_cases hcut : a < 1844674407370955162
        · by_cases hov : a * 10 + ((x : Int) - 48) < 9223372036854775808
          · have HOV := Lib.hid hov
            go_wp2
            have hov := HOV.out
            have h9 : a * 10 + ((x : Int) - 48) = ((val (l.take (k + 1)) : Nat) : Int) := HNX.out.symm
            refine ⟨⟨k + 1, a * 10 + ((x : Int) - 48), by omega, rfl, by first | rfl | (congr 1; omega), by first | rfl | (congr 1; omega), trivial, Lib.hid ⟨h9, hov, HND.out⟩⟩, by simp [intOf]; omega⟩
          · have HBIG := Lib.hid (not_ok_big (l := l) (k := k + 1) (by have := HNX.out; omega))
            have g6 : 9223372036854775807 < a * 10 + ((x : Int) - 48) := by omega
            by_cases hwr : a * 10 + ((x : Int) - 48) < 18446744073709551616
            · go_wp2
              all_goals (
                go_ret2
                exact ⟨⟨_, _, rfl, .inr ⟨HBIG.out, .inl rfl⟩⟩, HL2.out⟩)
            · have g7 : 18446744073709551616 ≤ a * 10 + ((x : Int) - 48) := by omega
              go_wp2
              all_goals (
                go_ret2
                exact ⟨⟨_, _, rfl, .inr ⟨HBIG.out, .inl rfl⟩⟩, HL2.out⟩)
        · have g5 : 1844674407370955162 ≤ a := by omega
          have HBIG := Lib.hid (not_ok_big (l := l) (k := k + 1) (by have := HNX.out; omega))
          go_wp2
          go_ret2
          exact ⟨⟨_, _, rfl, .inr ⟨HBIG.out, .inl rfl⟩⟩, HL2.out⟩
      | false =>
        have HNO := Lib.hid (not_ok_dig hlk (by rw [← hc]; exact hd))
        have hnd := not_dig hd
        rw [← hx] at hnd
        obtain ⟨y, hy⟩ : ∃ y, y = (c ||| 32).toNat := ⟨_, rfl⟩
        have hlo := fun W => lower_v c W
        rw [← hx, ← hy] at hlo
        have HLO := Lib.hid hlo
        have hy256 : y < 256 := by rw [hy]; exact UInt8.toNat_lt _
        have hnd2 : ((48 : Int) ≤ (x : Int) ∧ ¬ ((x : Int) ≤ 57)) ∨ ¬ ((48 : Int) ≤ (x : Int)) := by omega
        clear hcell hx had hc hlk hd hm hy hnd hlo
        obtain ⟨bb, g3⟩ : ∃ bb, ((x : Int) == 95) = bb := ⟨_, rfl⟩
        have g9 : (97 : Int) ≤ (y : Int) → 10 ≤ (y : Int) - 97 + 10 := by omega
        have HG9 := Lib.hid g9
        clear g9
        cases bb
        all_goals (
          by_cases q1 : (97 : Int) ≤ (y : Int)
          · have g9 := HG9.out q1
            by_cases q2 : (y : Int) ≤ 122
            · rcases hnd2 with ⟨p1, p2⟩ | p1
              all_goals (
                go_wp2_with (go_at_call 72; (with_reducible refine (HLO.out _).mono ?_); rintro e w' ⟨rfl, hw'⟩; subst hw')
                go_ret2
                exact ⟨⟨_, _, rfl, .inr ⟨HNO.out, .inr rfl⟩⟩, HL2.out⟩)
            · rcases hnd2 with ⟨p1, p2⟩ | p1
              all_goals (
                go_wp2_with (go_at_call 72; (with_reducible refine (HLO.out _).mono ?_); rintro e w' ⟨rfl, hw'⟩; subst hw')
                go_ret2
                exact ⟨⟨_, _, rfl, .inr ⟨HNO.out, .inr rfl⟩⟩, HL2.out⟩)
          · rcases hnd2 with ⟨p1, p2⟩ | p1
            all_goals (
              go_wp2_with (go_at_call 72; (with_reducible refine (HLO.out _).mono ?_); rintro e w' ⟨rfl, hw'⟩; subst hw')
              go_ret2
              exact ⟨⟨_, _, rfl, .inr ⟨HNO.out, .inr rfl⟩⟩, HL2.out⟩))
    · have HRES := Lib.hid (show a = (val l : Nat) ∧ a < 9223372036854775808 ∧ l.all digB = true by
        have h := hm.out
        rw [List.take_of_length_le (by have := HN.out; omega)] at h
        exact h)
      have hkk : ¬ ((k : Int) < (n : Int)) := by omega
      clear hkn hm
      go_wp2
      go_ret2
      exact ⟨⟨_, _, rfl, .inl ⟨⟨HRES.out.2.2, by have := HRES.out.1; have := HRES.out.2.1; omega⟩, rfl, HRES.out.1⟩⟩, HL2.out⟩
end En
end Go.Proofs.YtmijploffdoenaaDoor
