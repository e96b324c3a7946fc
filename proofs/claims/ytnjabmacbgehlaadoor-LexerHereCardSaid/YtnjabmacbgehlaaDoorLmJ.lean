/- The lexer's reader: parts, and what holds parts. No premises. -/
import Derived.Test.YtnjabmacbgehlaaDoorLmI
namespace Go.Proofs.YtnjabmacbgehlaaDoor
open Go.RowKit Go.Maps
open Lx (nl Tok R sq ar up pre)
/-- Parts of less than n bytes are told. -/
def Parts (B g : Nat) (S : L) (k n : Nat) : Prop := ∀ (σ : St) (W : World), σ.l.length < n → σ.l ≠ [] → Nm k σ → σ.d ≤ 8 → Mem W B g S σ → Calls Tryd.prog 49 #[.pointer (some ⟨g, 0, none⟩)] W (Fin B g S σ k W (Lx.part σ.d σ.l))
theorem pre_pre (a b : L) (x : R) : pre a (pre b x) = pre (a ++ b) x := by
  cases x with
  | error e => rfl
  | ok p => obtain ⟨u, r⟩ := p; simp
theorem part_nil (d : Nat) : Lx.part d [] = .error 20 := by rw [Lx.part_at]; rfl
theorem up_nil (d : Nat) (z : UInt8) (q : Bool) : up d z q [] = .error 20 := by
  rw [Lx.up_at, part_nil]
  simp
set_option maxRecDepth 100000 in
theorem double_v (B g : Nat) (S : L) (k : Nat) (σ : St) (r : L) (hl : σ.l = 34 :: r) (hn : Nm k σ) (hd : σ.d ≤ 8) (ih : Parts B g S k σ.l.length) (W : World) (h : Mem W B g S σ) : Calls Tryd.prog 34 #[.pointer (some ⟨g, 0, none⟩)] W (Fin B g S σ k W (pre [34] (up σ.d 34 true r))) := by
  have HT := Lib.hid (take_k B g S k σ 34 r hl hn W h)
  have HN := Lib.hid hn
  have HD := Lib.hid hd
  have HI := Lib.hid ih
  have HLL := Lib.hid (show σ.l.length = r.length + 1 by rw [hl]; simp)
  clear h hl hn hd ih
  go_enter Tryd.func34, Tryd.ntmps34
  go_wp2_with (first
    | (go_at_call 48; (with_reducible refine HT.out.mono ?_); rintro e w2 ⟨rfl, hm2, hb2, hk2⟩; have HM2 := Lib.hid hm2; have HB2 := Lib.hid hb2; have HK2 := Lib.hid hk2; clear hm2 hb2 hk2))
  go_loopw [] (fun wr => ∃ (l' t0 : L), l'.length ≤ r.length ∧ pre [34] (up σ.d 34 true r) = pre ([34] ++ t0) (up σ.d 34 true l') ∧ Mem wr B g S (σ.to k l' ([34] ++ t0)) ∧ Below B W wr ∧ l'.length + (σ.q ++ ([34] ++ t0)).length ≤ k) (fun wr => S.length - atOf g wr)
  case atStart => exact ⟨r, [], Nat.le_refl _, by simp, HM2.out, HB2.out, HK2.out⟩
  case round =>
    obtain ⟨l', t0, hll, hs, hm, hb, hk⟩ := hrel
    have HS := Lib.hid hs
    have HM := Lib.hid hm
    have HB := Lib.hid hb
    have HK := Lib.hid hk
    have HL' := Lib.hid hll
    clear hs hb hll
    cases l' with
    | nil =>
      have HT := Lib.hid (peek_bad B g S _ rfl wr hm)
      clear hm hk
      go_wp2_with (first
        | (go_at_call 38; (with_reducible refine HT.out.mono ?_); rintro e w2 ⟨rfl, m, rfl⟩))
      refine bodyPost_panic rfl ?_
      rw [HS.out, up_nil]
      exact ⟨rfl, HB.out.trans (Below.drewN _ _ _)⟩
    | cons c l'' =>
      have HP := Lib.hid (fun m => peek_v B g S (σ.to k (c :: l'') ([34] ++ t0)) c l'' rfl (wr.drewN m) (hm.drewN m))
      have hP0 := HP.out 0
      rw [World.drewN_zero] at hP0
      have HP0 := Lib.hid hP0
      have HT := Lib.hid (fun m => take_k B g S k (σ.to k (c :: l'') ([34] ++ t0)) c l'' rfl (HN.out.to_ hk) (wr.drewN m) (hm.drewN m))
      clear hm hk hP0
      by_cases hc : c = 34
      · have h34 : ((c.toNat : Int) != 34) = false := byt_nne 34 hc
        go_wp2_with (first
          | (go_at_call 38; (with_reducible refine HP0.out.mono ?_); rintro e w2 ⟨rfl, m, rfl⟩)
          | (go_at_call 48; (with_reducible refine (HT.out _).mono ?_); rintro e w2 ⟨rfl, hm2, hb2, hk2⟩; have HM2 := Lib.hid hm2; have HB2 := Lib.hid hb2; have HK2 := Lib.hid hk2; clear hm2 hb2 hk2))
        go_end0
        rw [HS.out, Lx.up_at, hc]
        have hm := HM2.out
        rw [St.to_to, hc] at hm
        have hk := HK2.out
        rw [hc] at hk
        exact ⟨rfl, hm, HB.out.trans ((Below.drewN _ _ _).trans HB2.out), by simpa [St.to] using hk⟩
      · have h34 : ((c.toNat : Int) != 34) = true := byt_neq 34 hc
        by_cases hc2 : c = 39
        · have h39 : ((c.toNat : Int) == 39) = true := byt_eq 39 hc2
          go_wp2_with (first
            | (go_at_call 38; (first | (with_reducible refine HP0.out.mono ?_) | (with_reducible refine (HP.out _).mono ?_)); rintro e w2 ⟨rfl, m, rfl⟩)
            | (go_at_call 48; (with_reducible refine (HT.out _).mono ?_); rintro e w2 ⟨rfl, hm2, hb2, hk2⟩; have HM2 := Lib.hid hm2; have HB2 := Lib.hid hb2; have HK2 := Lib.hid hk2; clear hm2 hb2 hk2))
          go_roundw
          case rel =>
            have hm := HM2.out
            rw [St.to_to] at hm
            have hk := HK2.out
            refine ⟨l'', t0 ++ [c], by have := HL'.out; simp only [List.length_cons] at this; omega, ?_, by rw [← List.append_assoc]; exact hm, HB.out.trans ((Below.drewN _ _ _).trans HB2.out), by simpa [St.to] using hk⟩
            rw [HS.out, Lx.up_at]
            simp [hc2, pre_pre]
          case measure => rw [HM2.out.left, HM.out.left]; simp [St.to]
        · have h39 : ((c.toNat : Int) == 39) = false := byt_ne 39 hc2
          have hpart := fun m => HI.out (σ.to k (c :: l'') ([34] ++ t0)) (wr.drewN m) (by have := HL'.out; have := HLL.out; simp only [St.to]; omega) (by simp [St.to]) (HN.out.to_ HK.out) HD.out (HM.out.drewN m)
          have hup : pre ([34] ++ t0) (up σ.d 34 true (c :: l'')) = (match Lx.part σ.d (c :: l'') with | .error e => .error e | .ok (t, r) => pre (([34] ++ t0) ++ t) (up σ.d 34 true r)) := by
            rw [Lx.up_at, if_neg (by simpa using hc), if_neg (by simpa using hc2)]
            cases Lx.part σ.d (c :: l'') with
            | error e => rfl
            | ok x => obtain ⟨t, r⟩ := x; simp only [pre_pre]
          have e0 : (σ.to k (c :: l'') ([34] ++ t0)).d = σ.d := rfl
          have e1 : (σ.to k (c :: l'') ([34] ++ t0)).l = c :: l'' := rfl
          rw [e0, e1] at hpart
          have HU := Lib.hid hup
          cases hpt : Lx.part σ.d (c :: l'') with
          | error n =>
            rw [hpt] at hpart
            have HPT := Lib.hid hpart
            have HEQ := Lib.hid hpt
            clear hpart hpt hup e0 e1
            go_wp2_with (first
              | (go_at_call 38; (first | (with_reducible refine HP0.out.mono ?_) | (with_reducible refine (HP.out _).mono ?_)); rintro e w2 ⟨rfl, m, rfl⟩)
              | (go_at_call 49; (with_reducible refine (HPT.out _).mono ?_); rintro e w2 ⟨rfl, hb2⟩; have HB2 := Lib.hid hb2; clear hb2))
            refine bodyPost_panic rfl ?_
            rw [HS.out, HU.out, HEQ.out]
            exact ⟨rfl, HB.out.trans ((Below.drewN _ _ _).trans HB2.out)⟩
          | ok x =>
            obtain ⟨t, r'⟩ := x
            rw [hpt] at hpart
            have HPT := Lib.hid hpart
            have HEQ := Lib.hid hpt
            clear hpart hpt hup e0 e1
            go_wp2_with (first
              | (go_at_call 38; (first | (with_reducible refine HP0.out.mono ?_) | (with_reducible refine (HP.out _).mono ?_)); rintro e w2 ⟨rfl, m, rfl⟩)
              | (go_at_call 49; (with_reducible refine (HPT.out _).mono ?_); rintro e w2 ⟨rfl, hm2, hb2, hk2⟩; have HM2 := Lib.hid hm2; have HB2 := Lib.hid hb2; have HK2 := Lib.hid hk2; clear hm2 hb2 hk2))
            go_roundw
            case rel =>
              have hm := HM2.out
              rw [St.to_to] at hm
              have hk := HK2.out
              have h3 := Lx.part_len σ.d _ _ _ HEQ.out
              refine ⟨r', t0 ++ t, by have := HL'.out; simp only [List.length_cons] at this h3; omega, ?_, by rw [← List.append_assoc]; exact hm, HB.out.trans ((Below.drewN _ _ _).trans HB2.out), by simpa [St.to] using hk⟩
              rw [HS.out, HU.out, HEQ.out]
              simp
            case measure =>
              have h3 := Lx.part_len σ.d _ _ _ HEQ.out
              rw [HM2.out.left, HM.out.left]; simpa [St.to] using h3
end Go.Proofs.YtnjabmacbgehlaaDoor
