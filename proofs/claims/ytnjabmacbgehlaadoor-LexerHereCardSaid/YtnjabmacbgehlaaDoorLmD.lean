/- The lexer's reader: the bytes ahead, and how they are passed. No premises. -/
import Derived.Test.YtnjabmacbgehlaaDoorLmC
namespace Go.Proofs.YtnjabmacbgehlaaDoor
open Go.RowKit Go.Maps
open Lx (nl Tok)
theorem Below.drewN (B : Nat) (W : World) (m : Nat) : Below B W (W.drewN m) := ⟨rfl, rfl, rfl, Nat.le_refl _, fun _ _ => rfl⟩
theorem toList_mkS (l : L) : (mkS l).toList = l := by
  rw [ByteArray.toList_eq]; simp [mkS]
theorem ext_prefix (l s : L) : (((mkS l).extract 0 (mkS s).size).toList == (mkS s).toList) = s.isPrefixOf l := by
  have h1 : ((mkS l).extract 0 (mkS s).size) = mkS (l.take s.length) := by
    apply ByteArray.ext
    simp [mkS, ByteArray.size]
  rw [h1, toList_mkS, toList_mkS, Bool.eq_iff_iff, beq_iff_eq, List.isPrefixOf_iff_prefix]
  exact ⟨fun h => h ▸ List.take_prefix _ _, fun h => (List.prefix_iff_eq_take.1 h).symm⟩
set_option maxRecDepth 100000 in
theorem lite_v (l s : L) (W : World) : Calls Tryd.prog 61 #[.string (mkS l), .string (mkS s)] W fun e W' => e = .returned (.bool (s.isPrefixOf l)) ∧ W' = W := by
  by_cases hs : s.length ≤ l.length
  · have h1 : ((mkS s).size : Int) ≤ ((mkS l).size : Int) := by rw [mkS_size, mkS_size]; omega
    go_enter Tryd.func61, Tryd.ntmps61
    go_wp2
    go_ret
    exact ⟨ret_bool (ext_prefix l s), rfl⟩
  · have h1 : ¬ ((mkS s).size : Int) ≤ ((mkS l).size : Int) := by rw [mkS_size, mkS_size]; omega
    have h2 : s.isPrefixOf l = false := by
      rw [Bool.eq_false_iff]
      intro h
      exact hs (List.isPrefixOf_iff_prefix.1 h).length_le
    rw [h2]
    go_enter Tryd.func61, Tryd.ntmps61
    go_wp2
    go_ret
    exact ⟨rfl, rfl⟩
set_option maxRecDepth 100000 in
theorem hasP_v (l s : L) (W : World) : Calls Tryd.prog 59 #[.string (mkS l), .string (mkS s)] W fun e W' => e = .returned (.bool (s.isPrefixOf l)) ∧ W' = W := by
  have HC := Lib.hid (lite_v l s W)
  go_enter Tryd.func59, Tryd.ntmps59
  go_wp2_with (go_at_call 61; (with_reducible refine HC.out.mono ?_); rintro e w1 ⟨rfl, rfl⟩)
  go_ret
  exact ⟨rfl, rfl⟩
theorem drop_text (S : L) (p : Nat) : (mkS S).extract p (mkS S).size = mkS (S.drop p) := by
  apply ByteArray.ext
  simp [mkS, ByteArray.size]
  exact List.take_of_length_le (by simp)
set_option maxRecDepth 100000 in
theorem ahead_v (B g : Nat) (S : L) (σ : St) (s : L) (W : World) (h : Mem W B g S σ) : Calls Tryd.prog 47 #[.pointer (some ⟨g, 0, none⟩), .string (mkS s)] W fun e W' => e = .returned (.bool (s.isPrefixOf σ.l)) ∧ ∃ m, W' = W.drewN m := by
  obtain ⟨p, n, vt, vh, vx, ms, mp, h⟩ := h
  obtain ⟨⟨c0, c1, c2, _⟩, hz⟩ := h.facts
  have h1 := h.at_
  have h2 := h.big
  have HX := Lib.hid (drop_text S p)
  have hP := fun W => hasP_v σ.l s W
  have hs : (mkS S).size = S.length := mkS_size S
  have hp0 : (0 : Int) ≤ (p : Int) := by omega
  have hp1 : (p : Int) ≤ ((mkS S).size : Int) := by omega
  rw [h.cut] at hP ⊢
  have HP := Lib.hid hP
  have HS := Lib.hid hs
  clear h hP h1 h2 hs
  go_enter Tryd.func47, Tryd.ntmps47
  go_wp2
  have hx := HX.out
  go_quiet ((first | (go_at_call 59; exact (HP.out _).quiet_of_same)))
  go_wp2
  go_ret
  exact ⟨rfl, _, rfl⟩
theorem ahead_t (B g : Nat) (S : L) (σ : St) (t : ByteArray) (s : L) (ht : t = mkS s) (b : Bool) (hb : s.isPrefixOf σ.l = b) (W : World) (h : Mem W B g S σ) : Calls Tryd.prog 47 #[.pointer (some ⟨g, 0, none⟩), .string t] W fun e W' => e = .returned (.bool b) ∧ ∃ m, W' = W.drewN m := by
  subst ht hb
  exact ahead_v B g S σ s W h
theorem only_drewN (W : World) (g m : Nat) : W.grownBy (W.drewN m) (some g) := ⟨rfl, rfl, rfl, Nat.le_refl _, fun _ _ _ => rfl⟩
set_option maxRecDepth 100000 in
theorem next_x (B g : Nat) (S : L) (σ : St) (c : UInt8) (r : L) (hl : σ.l = c :: r) (W : World) (p n : Nat) (vt vh vx : Value) (ms mp : Nat) (h : MemX W B g S σ p n vt vh vx ms mp) : Calls Tryd.prog 46 #[.pointer (some ⟨g, 0, none⟩)] W fun e W' => e = .returned (.int .u8 (c.toNat : Int)) ∧ (∃ p' n', MemX W' B g S { σ with l := r } p' n' vt vh vx ms mp) ∧ W.grownBy W' (some g) := by
  have HP := Lib.hid (peek_v B g S σ c r hl W h.mem)
  obtain ⟨⟨c0, c1, c2, _⟩, hz⟩ := h.facts
  have hp := h.small
  have H := Lib.hid h
  have HL := Lib.hid hl
  clear h hl
  have hl1 : 1 + p + r.length = S.length := by have := H.out.at_; rw [HL.out] at this; simp only [List.length_cons] at this; omega
  have hl2 : r = S.drop (p + 1) := by
    have := H.out.cut
    rw [HL.out] at this
    rw [← List.drop_drop, ← this]
    rfl
  have hl3 : n + nl (c :: r) = 1 + nl S := by rw [← HL.out]; exact H.out.ln
  have H3 := Lib.hid (And.intro hl1 (And.intro hl2 hl3))
  clear hl1 hl2 hl3
  by_cases hc : c = 10
  · have h10 : ((c.toNat : Int) == 10) = true := byt_eq 10 hc
    go_enter Tryd.func46, Tryd.ntmps46
    go_wp2_with (go_at_call 38; (with_reducible refine HP.out.mono ?_); rintro e w1 ⟨rfl, m, rfl⟩)
    go_ret
    refine ⟨by rw [hc]; rfl, ⟨_, _, ((H.out.drewN m).set2 1 (.int .i64 ((p : Int) + 1)) 2 (.int .i64 ((n : Int) + 1)) (σ' := { σ with l := r }) (p' := p + 1) (n' := n + 1) (by simp) H3.out.2.1 (by have := H3.out.1; simp only; omega) ?_ rfl rfl rfl)⟩, ?_⟩
    · have := H3.out.2.2; rw [nl, if_pos hc] at this; simp only; omega
    · exact only_trans (only_drewN W g m) (only_trans (set_only _ _ _ _) (set_only _ _ _ _))
  · have h10 : ((c.toNat : Int) == 10) = false := byt_ne 10 hc
    go_enter Tryd.func46, Tryd.ntmps46
    go_wp2_with (go_at_call 38; (with_reducible refine HP.out.mono ?_); rintro e w1 ⟨rfl, m, rfl⟩)
    go_ret
    refine ⟨rfl, ⟨_, _, ((H.out.drewN m).set 1 (.int .i64 ((p : Int) + 1)) (σ' := { σ with l := r }) (p' := p + 1) (n' := n) (by simp) H3.out.2.1 (by have := H3.out.1; simp only; omega) ?_ rfl rfl rfl)⟩, ?_⟩
    · have := H3.out.2.2; rw [nl, if_neg hc] at this; simp only; omega
    · exact only_trans (only_drewN W g m) (set_only _ _ _ _)
theorem only_below {W W' : World} {B g : Nat} (h : W.grownBy W' (some g)) (hg : B ≤ g) (hb : B ≤ W.heap.size) : Below B W W' := below_of_grown h hb fun k e => by injection e with e; omega
theorem next_v (B g : Nat) (S : L) (σ : St) (c : UInt8) (r : L) (hl : σ.l = c :: r) (W : World) (h : Mem W B g S σ) : Calls Tryd.prog 46 #[.pointer (some ⟨g, 0, none⟩)] W fun e W' => e = .returned (.int .u8 (c.toNat : Int)) ∧ Mem W' B g S { σ with l := r } ∧ Below B W W' := by
  obtain ⟨p, n, vt, vh, vx, ms, mp, h⟩ := h
  refine (next_x B g S σ c r hl W p n vt vh vx ms mp h).mono ?_
  rintro e W' ⟨h1, ⟨p', n', h2⟩, h3⟩
  exact ⟨h1, h2.mem, only_below h3 h.low (Nat.le_trans h.low (Nat.le_of_lt h.lt))⟩
set_option maxRecDepth 100000 in
theorem next_bad (B g : Nat) (S : L) (σ : St) (hl : σ.l = []) (W : World) (h : Mem W B g S σ) : Calls Tryd.prog 46 #[.pointer (some ⟨g, 0, none⟩)] W fun e W' => e = .panicked (flt 20 σ.b) ∧ ∃ m, W' = W.drewN m := by
  have HP := Lib.hid (peek_bad B g S σ hl W h)
  clear h hl
  go_enter Tryd.func46, Tryd.ntmps46
  go_wp2_with (go_at_call 38; (with_reducible refine HP.out.mono ?_); rintro e w1 ⟨rfl, m, rfl⟩)
  exact bodyPost_panic rfl ⟨rfl, _, rfl⟩
end Go.Proofs.YtnjabmacbgehlaaDoor
