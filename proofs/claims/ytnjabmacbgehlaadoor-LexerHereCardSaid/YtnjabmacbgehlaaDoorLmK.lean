/- The lexer's reader: dollar parts. No premises. -/
import Derived.Test.YtnjabmacbgehlaaDoorLmJ
namespace Go.Proofs.YtnjabmacbgehlaaDoor
open Go.RowKit Go.Maps
open Lx (nl Tok R sq ar up pre)
/-- How deep a reader is, written. -/
theorem MemX.deep {W : World} {B g p n ms mp : Nat} {S : L} {σ : St} {vt vh vx : Value} (h : MemX W B g S σ p n vt vh vx ms mp) (d : Nat) : Mem (W.setCell ⟨g, 8, none⟩ (.int .i64 (d : Int))) B g S { σ with d := d } :=
  (h.set 8 _ (σ' := { σ with d := d }) (by simp) h.cut h.at_ h.ln rfl rfl rfl).mem
def brM (d : Nat) (q : L) : R := if (d == 8) = true then .error 21 else pre [36, 123] (up (d + 1) 125 false q)
set_option maxRecDepth 100000 in
theorem braced_v (B g : Nat) (S : L) (k : Nat) (σ : St) (r : L) (hl : σ.l = 36 :: 123 :: r) (hn : Nm k σ) (hd : σ.d ≤ 8) (ih : Parts B g S k σ.l.length) (W : World) (h : Mem W B g S σ) : Calls Tryd.prog 50 #[.pointer (some ⟨g, 0, none⟩)] W (Fin B g S σ k W (brM σ.d r)) := by
  obtain ⟨d, hdd⟩ : ∃ d, d = σ.d := ⟨_, rfl⟩
  rw [← hdd] at hd ⊢
  by_cases h8 : d = 8
  · have HF := Lib.hid (fail_v B g S σ 21 W h)
    obtain ⟨p, n, vt, vh, vx, ms, mp, h⟩ := h
    obtain ⟨⟨_, _, _, _, _, _, _, _, c8, _⟩, hz⟩ := h.facts
    rw [← hdd] at c8
    have h88 : ((d : Int) == 8) = true := by rw [h8]; rfl
    unfold brM
    rw [if_pos (by rw [h8]; rfl)]
    clear h hl ih
    go_enter Tryd.func50, Tryd.ntmps50
    go_wp2_with (first
      | (go_at_call 52; (with_reducible refine HF.out.mono ?_); rintro e w2 ⟨rfl, rfl⟩))
    exact bodyPost_panic rfl ⟨rfl, Below.refl _ _⟩
  · obtain ⟨p, n, vt, vh, vx, ms, mp, h⟩ := h
    obtain ⟨⟨_, _, _, _, _, _, _, _, c8, _⟩, hz⟩ := h.facts
    rw [← hdd] at c8
    have h88 : ((d : Int) == 8) = false := by simp; omega
    unfold brM
    rw [if_neg (by simpa using h8)]
    have hn1 : Nm k { σ with d := d + 1 } := ⟨hn.j, hn.le, hn.top⟩
    have H1 := Lib.hid (h.deep (d + 1))
    have HB1 := Lib.hid ((Below.refl B W).setCell (p := ⟨g, 8, none⟩) h.low (.int .i64 ((d + 1 : Nat) : Int)))
    have HN := Lib.hid hn1
    have HI := Lib.hid ih
    have HD := Lib.hid (show d + 1 ≤ 8 by omega)
    have HLL := Lib.hid (show σ.l.length = r.length + 2 by rw [hl]; simp)
    have HT := Lib.hid (take_k B g S k { σ with d := d + 1 } 36 (123 :: r) hl hn1 _ (h.deep (d + 1)))
    have HDD := Lib.hid hdd
    rw [Int.natCast_add, Int.natCast_one] at H1 HB1 HT
    clear h hl hn hn1 ih hdd
    go_enter Tryd.func50, Tryd.ntmps50
    go_wp2_with (first
      | (go_at_call 48; first | ((with_reducible refine HT.out.mono ?_); rintro e w2 ⟨rfl, hm2, hb2, hk2⟩; have HT2 := Lib.hid (take_k B g S k (St.to { σ with d := d + 1 } k (123 :: r) [36]) 123 r rfl (HN.out.to_ hk2) w2 hm2); have HB2 := Lib.hid hb2; clear hm2 hb2 hk2) | ((with_reducible refine HT2.out.mono ?_); rintro e w3 ⟨rfl, hm3, hb3, hk3⟩; rw [St.to_to] at hm3; have HM3 := Lib.hid hm3; have HB3 := Lib.hid hb3; have HK3 := Lib.hid hk3; clear hm3 hb3 hk3)))
    go_loopw [] (fun wr => ∃ (l' t0 : L), l'.length ≤ r.length ∧ pre [36, 123] (up (d + 1) 125 false r) = pre ([36, 123] ++ t0) (up (d + 1) 125 false l') ∧ Mem wr B g S (St.to { σ with d := d + 1 } k l' ([36, 123] ++ t0)) ∧ Below B W wr ∧ l'.length + (σ.q ++ ([36, 123] ++ t0)).length ≤ k) (fun wr => S.length - atOf g wr)
    case atStart => exact ⟨r, [], Nat.le_refl _, by simp, HM3.out, (HB1.out.trans HB2.out).trans HB3.out, by have := HK3.out; simpa [St.to] using this⟩
    case round =>
      obtain ⟨l', t0, hll, hs, hm, hb, hk⟩ := hrel
      have HS := Lib.hid hs
      have HM := Lib.hid hm
      have HB := Lib.hid hb
      have HK := Lib.hid hk
      have HL' := Lib.hid hll
      clear hs hb hll
      cases l' with
      | nil =>
        have HT := Lib.hid (peek_bad B g S _ rfl wr hm)
        clear hm hk
        go_wp2_with (first
          | (go_at_call 38; (with_reducible refine HT.out.mono ?_); rintro e w2 ⟨rfl, m, rfl⟩))
        refine bodyPost_panic rfl ?_
        rw [HS.out, up_nil]
        exact ⟨rfl, HB.out.trans (Below.drewN _ _ _)⟩
      | cons c l'' =>
        have HP := Lib.hid (peek_v B g S _ c l'' rfl wr hm)
        have HT := Lib.hid (fun m => take_k B g S k (St.to { σ with d := d + 1 } k (c :: l'') ([36, 123] ++ t0)) c l'' rfl (HN.out.to_ hk) (wr.drewN m) (hm.drewN m))
        clear hm hk
        by_cases hc : c = 125
        · have h34 : ((c.toNat : Int) != 125) = false := byt_nne 125 hc
          go_wp2_with (first
            | (go_at_call 38; (with_reducible refine HP.out.mono ?_); rintro e w2 ⟨rfl, m, rfl⟩)
            | (go_at_call 48; (with_reducible refine (HT.out _).mono ?_); rintro e w2 ⟨rfl, hm2, hb2, hk2⟩; rw [St.to_to] at hm2; obtain ⟨p2, n2, vt2, vh2, vx2, ms2, mp2, hm2⟩ := hm2; obtain ⟨⟨_, _, _, _, _, _, _, _, d8, _⟩, dz⟩ := hm2.facts; have d88 : w2.cell? ⟨g, 8, none⟩ = some (.int .i64 ((d : Int) + 1)) := d8; clear d8; have HM2 := Lib.hid hm2; have HB2 := Lib.hid hb2; have HK2 := Lib.hid hk2; clear hm2 hb2 hk2))
          go_end0
          rw [HS.out, Lx.up_at, hc]
          have hm := HM2.out.deep d
          have hk := HK2.out
          rw [hc] at hk hm
          have e9 : ({ St.to { σ with d := d + 1 } k l'' ([36, 123] ++ t0 ++ [125]) with d := d } : St) = σ.to k l'' ([36, 123] ++ t0 ++ [125]) := by
            unfold St.to
            simp only
            rw [HDD.out]
          rw [e9] at hm
          exact ⟨rfl, by simpa using hm, (HB.out.trans ((Below.drewN _ _ _).trans HB2.out)).setCell HM2.out.low _, by simpa [St.to] using hk⟩
        · have h34 : ((c.toNat : Int) != 125) = true := byt_neq 125 hc
          have hpart := fun m => HI.out (St.to { σ with d := d + 1 } k (c :: l'') ([36, 123] ++ t0)) (wr.drewN m) (by have := HL'.out; have := HLL.out; simp only [St.to]; omega) (by simp [St.to]) (HN.out.to_ HK.out) HD.out (HM.out.drewN m)
          have hup : pre ([36, 123] ++ t0) (up (d + 1) 125 false (c :: l'')) = (match Lx.part (d + 1) (c :: l'') with | .error e => .error e | .ok (t, r) => pre (([36, 123] ++ t0) ++ t) (up (d + 1) 125 false r)) := by
            rw [Lx.up_at, if_neg (by simpa using hc), if_neg (by simp)]
            cases Lx.part (d + 1) (c :: l'') with
            | error e => rfl
            | ok x => obtain ⟨t, r⟩ := x; simp only [pre_pre]
          have e0 : (St.to { σ with d := d + 1 } k (c :: l'') ([36, 123] ++ t0)).d = d + 1 := rfl
          have e1 : (St.to { σ with d := d + 1 } k (c :: l'') ([36, 123] ++ t0)).l = c :: l'' := rfl
          rw [e0, e1] at hpart
          have HU := Lib.hid hup
          cases hpt : Lx.part (d + 1) (c :: l'') with
          | error n =>
            rw [hpt] at hpart
            have HPT := Lib.hid hpart
            have HEQ := Lib.hid hpt
            clear hpart hpt hup e0 e1
            go_wp2_with (first
              | (go_at_call 38; (with_reducible refine HP.out.mono ?_); rintro e w2 ⟨rfl, m, rfl⟩)
              | (go_at_call 49; (with_reducible refine (HPT.out _).mono ?_); rintro e w2 ⟨rfl, hb2⟩; have HB2 := Lib.hid hb2; clear hb2))
            refine bodyPost_panic rfl ?_
            rw [HS.out, HU.out, HEQ.out]
            exact ⟨rfl, HB.out.trans ((Below.drewN _ _ _).trans HB2.out)⟩
          | ok x =>
            obtain ⟨t, r'⟩ := x
            rw [hpt] at hpart
            have HPT := Lib.hid hpart
            have HEQ := Lib.hid hpt
            clear hpart hpt hup e0 e1
            go_wp2_with (first
              | (go_at_call 38; (with_reducible refine HP.out.mono ?_); rintro e w2 ⟨rfl, m, rfl⟩)
              | (go_at_call 49; (with_reducible refine (HPT.out _).mono ?_); rintro e w2 ⟨rfl, hm2, hb2, hk2⟩; have HM2 := Lib.hid hm2; have HB2 := Lib.hid hb2; have HK2 := Lib.hid hk2; clear hm2 hb2 hk2))
            go_roundw
            case rel =>
              have hm := HM2.out
              rw [St.to_to] at hm
              have hk := HK2.out
              have h3 := Lx.part_len (d + 1) _ _ _ HEQ.out
              refine ⟨r', t0 ++ t, by have := HL'.out; simp only [List.length_cons] at this h3; omega, ?_, by rw [← List.append_assoc]; exact hm, HB.out.trans ((Below.drewN _ _ _).trans HB2.out), by simpa [St.to] using hk⟩
              rw [HS.out, HU.out, HEQ.out]
              simp
            case measure =>
              have h3 := Lx.part_len (d + 1) _ _ _ HEQ.out
              rw [HM2.out.left, HM.out.left]; simpa [St.to] using h3
set_option maxRecDepth 100000 in
theorem dollar_braced_ok (B g : Nat) (S : L) (k : Nat) (σ : St) (h0 : ([36, 123] : L).isPrefixOf σ.l = true) (W : World) (h : Mem W B g S σ) (t r : L) (hc : ∀ m, Calls Tryd.prog 50 #[.pointer (some ⟨g, 0, none⟩)] (W.drewN m) (Fin B g S σ k (W.drewN m) (.ok (t, r)))) : Calls Tryd.prog 35 #[.pointer (some ⟨g, 0, none⟩)] W (Fin B g S σ k W (.ok (t, r))) := by
  have HA0 := Lib.hid (fun m => ahead_t B g S σ ⟨#[36, 123]⟩ [36, 123] rfl true h0 (W.drewN m) (h.drewN m))
  have hA0 := HA0.out 0
  rw [World.drewN_zero] at hA0
  have HB0 := Lib.hid hA0
  clear hA0
  have HC := Lib.hid hc
  clear h h0
  go_enter Tryd.func35, Tryd.ntmps35
  go_wp2_with (first
    | (go_at_call 47; (first | (with_reducible refine HB0.out.mono ?_)); rintro e w2 ⟨rfl, m, rfl⟩)
    | (go_at_call 50; (with_reducible refine (HC.out _).mono ?_); rintro e w3 ⟨rfl, hm3, hb3, hk3⟩))
  go_end0
  exact ⟨rfl, hm3, (Below.drewN _ _ _).trans hb3, hk3⟩
set_option maxRecDepth 100000 in
theorem dollar_braced_bad (B g : Nat) (S : L) (k : Nat) (σ : St) (h0 : ([36, 123] : L).isPrefixOf σ.l = true) (W : World) (h : Mem W B g S σ) (n : Nat) (hc : ∀ m, Calls Tryd.prog 50 #[.pointer (some ⟨g, 0, none⟩)] (W.drewN m) (Fin B g S σ k (W.drewN m) (.error n))) : Calls Tryd.prog 35 #[.pointer (some ⟨g, 0, none⟩)] W (Fin B g S σ k W (.error n)) := by
  have HA0 := Lib.hid (fun m => ahead_t B g S σ ⟨#[36, 123]⟩ [36, 123] rfl true h0 (W.drewN m) (h.drewN m))
  have hA0 := HA0.out 0
  rw [World.drewN_zero] at hA0
  have HB0 := Lib.hid hA0
  clear hA0
  have HC := Lib.hid hc
  clear h h0
  go_enter Tryd.func35, Tryd.ntmps35
  go_wp2_with (first
    | (go_at_call 47; (first | (with_reducible refine HB0.out.mono ?_)); rintro e w2 ⟨rfl, m, rfl⟩)
    | (go_at_call 50; (with_reducible refine (HC.out _).mono ?_); rintro e w3 ⟨rfl, hb3⟩))
  exact bodyPost_panic rfl ⟨rfl, (Below.drewN _ _ _).trans hb3⟩
set_option maxRecDepth 100000 in
theorem dollar_reckoned_ok (B g : Nat) (S : L) (k : Nat) (σ : St) (h0 : ([36, 123] : L).isPrefixOf σ.l = false) (h1 : ([36, 40, 40] : L).isPrefixOf σ.l = true) (W : World) (h : Mem W B g S σ) (t r : L) (hc : ∀ m, Calls Tryd.prog 51 #[.pointer (some ⟨g, 0, none⟩)] (W.drewN m) (Fin B g S σ k (W.drewN m) (.ok (t, r)))) : Calls Tryd.prog 35 #[.pointer (some ⟨g, 0, none⟩)] W (Fin B g S σ k W (.ok (t, r))) := by
  have HA0 := Lib.hid (fun m => ahead_t B g S σ ⟨#[36, 123]⟩ [36, 123] rfl false h0 (W.drewN m) (h.drewN m))
  have HA1 := Lib.hid (fun m => ahead_t B g S σ ⟨#[36, 40, 40]⟩ [36, 40, 40] rfl true h1 (W.drewN m) (h.drewN m))
  have hA0 := HA0.out 0
  rw [World.drewN_zero] at hA0
  have HB0 := Lib.hid hA0
  clear hA0
  have HC := Lib.hid hc
  clear h h0 h1
  go_enter Tryd.func35, Tryd.ntmps35
  go_wp2_with (first
    | (go_at_call 47; (first | (with_reducible refine HB0.out.mono ?_) | (with_reducible refine (HA1.out _).mono ?_)); rintro e w2 ⟨rfl, m, rfl⟩)
    | (go_at_call 51; (with_reducible refine (HC.out _).mono ?_); rintro e w3 ⟨rfl, hm3, hb3, hk3⟩))
  go_end0
  exact ⟨rfl, hm3, (Below.drewN _ _ _).trans hb3, hk3⟩
set_option maxRecDepth 100000 in
theorem dollar_reckoned_bad (B g : Nat) (S : L) (k : Nat) (σ : St) (h0 : ([36, 123] : L).isPrefixOf σ.l = false) (h1 : ([36, 40, 40] : L).isPrefixOf σ.l = true) (W : World) (h : Mem W B g S σ) (n : Nat) (hc : ∀ m, Calls Tryd.prog 51 #[.pointer (some ⟨g, 0, none⟩)] (W.drewN m) (Fin B g S σ k (W.drewN m) (.error n))) : Calls Tryd.prog 35 #[.pointer (some ⟨g, 0, none⟩)] W (Fin B g S σ k W (.error n)) := by
  have HA0 := Lib.hid (fun m => ahead_t B g S σ ⟨#[36, 123]⟩ [36, 123] rfl false h0 (W.drewN m) (h.drewN m))
  have HA1 := Lib.hid (fun m => ahead_t B g S σ ⟨#[36, 40, 40]⟩ [36, 40, 40] rfl true h1 (W.drewN m) (h.drewN m))
  have hA0 := HA0.out 0
  rw [World.drewN_zero] at hA0
  have HB0 := Lib.hid hA0
  clear hA0
  have HC := Lib.hid hc
  clear h h0 h1
  go_enter Tryd.func35, Tryd.ntmps35
  go_wp2_with (first
    | (go_at_call 47; (first | (with_reducible refine HB0.out.mono ?_) | (with_reducible refine (HA1.out _).mono ?_)); rintro e w2 ⟨rfl, m, rfl⟩)
    | (go_at_call 51; (with_reducible refine (HC.out _).mono ?_); rintro e w3 ⟨rfl, hb3⟩))
  exact bodyPost_panic rfl ⟨rfl, (Below.drewN _ _ _).trans hb3⟩
set_option maxRecDepth 100000 in
theorem dollar_paren (B g : Nat) (S : L) (k : Nat) (σ : St) (h0 : ([36, 123] : L).isPrefixOf σ.l = false) (h1 : ([36, 40, 40] : L).isPrefixOf σ.l = false) (h2 : ([36, 40] : L).isPrefixOf σ.l = true) (W : World) (h : Mem W B g S σ) : Calls Tryd.prog 35 #[.pointer (some ⟨g, 0, none⟩)] W (Fin B g S σ k W (.error 20)) := by
  have HA0 := Lib.hid (fun m => ahead_t B g S σ ⟨#[36, 123]⟩ [36, 123] rfl false h0 (W.drewN m) (h.drewN m))
  have HA1 := Lib.hid (fun m => ahead_t B g S σ ⟨#[36, 40, 40]⟩ [36, 40, 40] rfl false h1 (W.drewN m) (h.drewN m))
  have HA2 := Lib.hid (fun m => ahead_t B g S σ ⟨#[36, 40]⟩ [36, 40] rfl true h2 (W.drewN m) (h.drewN m))
  have hA0 := HA0.out 0
  rw [World.drewN_zero] at hA0
  have HB0 := Lib.hid hA0
  clear hA0
  have HC := Lib.hid (fun m => refuse_v B g S σ (W.drewN m) (h.drewN m))
  clear h h0 h1 h2
  go_enter Tryd.func35, Tryd.ntmps35
  go_wp2_with (first
    | (go_at_call 47; (first | (with_reducible refine HB0.out.mono ?_) | (with_reducible refine (HA1.out _).mono ?_) | (with_reducible refine (HA2.out _).mono ?_)); rintro e w2 ⟨rfl, m, rfl⟩)
    | (go_at_call 36; (with_reducible refine (HC.out _).mono ?_); rintro e w3 ⟨rfl, rfl⟩))
  exact bodyPost_panic rfl ⟨rfl, Below.drewN _ _ _⟩
set_option maxRecDepth 100000 in
theorem dollar_join (B g : Nat) (S : L) (k : Nat) (σ : St) (h0 : ([36, 123] : L).isPrefixOf σ.l = false) (h1 : ([36, 40, 40] : L).isPrefixOf σ.l = false) (h2 : ([36, 40] : L).isPrefixOf σ.l = false) (h3 : ([36, 92, 10] : L).isPrefixOf σ.l = true) (W : World) (h : Mem W B g S σ) : Calls Tryd.prog 35 #[.pointer (some ⟨g, 0, none⟩)] W (Fin B g S σ k W (.error 20)) := by
  have HA0 := Lib.hid (fun m => ahead_t B g S σ ⟨#[36, 123]⟩ [36, 123] rfl false h0 (W.drewN m) (h.drewN m))
  have HA1 := Lib.hid (fun m => ahead_t B g S σ ⟨#[36, 40, 40]⟩ [36, 40, 40] rfl false h1 (W.drewN m) (h.drewN m))
  have HA2 := Lib.hid (fun m => ahead_t B g S σ ⟨#[36, 40]⟩ [36, 40] rfl false h2 (W.drewN m) (h.drewN m))
  have HA3 := Lib.hid (fun m => ahead_t B g S σ ⟨#[36, 92, 10]⟩ [36, 92, 10] rfl true h3 (W.drewN m) (h.drewN m))
  have hA0 := HA0.out 0
  rw [World.drewN_zero] at hA0
  have HB0 := Lib.hid hA0
  clear hA0
  have HC := Lib.hid (fun m => refuse_v B g S σ (W.drewN m) (h.drewN m))
  clear h h0 h1 h2 h3
  go_enter Tryd.func35, Tryd.ntmps35
  go_wp2_with (first
    | (go_at_call 47; (first | (with_reducible refine HB0.out.mono ?_) | (with_reducible refine (HA1.out _).mono ?_) | (with_reducible refine (HA2.out _).mono ?_) | (with_reducible refine (HA3.out _).mono ?_)); rintro e w2 ⟨rfl, m, rfl⟩)
    | (go_at_call 36; (with_reducible refine (HC.out _).mono ?_); rintro e w3 ⟨rfl, rfl⟩))
  exact bodyPost_panic rfl ⟨rfl, Below.drewN _ _ _⟩
set_option maxRecDepth 100000 in
theorem dollar_self (B g : Nat) (S : L) (k : Nat) (σ : St) (h0 : ([36, 123] : L).isPrefixOf σ.l = false) (h1 : ([36, 40, 40] : L).isPrefixOf σ.l = false) (h2 : ([36, 40] : L).isPrefixOf σ.l = false) (h3 : ([36, 92, 10] : L).isPrefixOf σ.l = false) (W : World) (h : Mem W B g S σ) (r : L) (hl : σ.l = 36 :: r) (hn : Nm k σ) : Calls Tryd.prog 35 #[.pointer (some ⟨g, 0, none⟩)] W (Fin B g S σ k W (.ok ([36], r))) := by
  have HA0 := Lib.hid (fun m => ahead_t B g S σ ⟨#[36, 123]⟩ [36, 123] rfl false h0 (W.drewN m) (h.drewN m))
  have HA1 := Lib.hid (fun m => ahead_t B g S σ ⟨#[36, 40, 40]⟩ [36, 40, 40] rfl false h1 (W.drewN m) (h.drewN m))
  have HA2 := Lib.hid (fun m => ahead_t B g S σ ⟨#[36, 40]⟩ [36, 40] rfl false h2 (W.drewN m) (h.drewN m))
  have HA3 := Lib.hid (fun m => ahead_t B g S σ ⟨#[36, 92, 10]⟩ [36, 92, 10] rfl false h3 (W.drewN m) (h.drewN m))
  have hA0 := HA0.out 0
  rw [World.drewN_zero] at hA0
  have HB0 := Lib.hid hA0
  clear hA0
  have HC := Lib.hid (fun m => take_k B g S k σ 36 r hl hn (W.drewN m) (h.drewN m))
  clear h h0 h1 h2 h3
  go_enter Tryd.func35, Tryd.ntmps35
  go_wp2_with (first
    | (go_at_call 47; (first | (with_reducible refine HB0.out.mono ?_) | (with_reducible refine (HA1.out _).mono ?_) | (with_reducible refine (HA2.out _).mono ?_) | (with_reducible refine (HA3.out _).mono ?_)); rintro e w2 ⟨rfl, m, rfl⟩)
    | (go_at_call 48; (with_reducible refine (HC.out _).mono ?_); rintro e w3 ⟨rfl, hm3, hb3, hk3⟩))
  go_end0
  exact ⟨rfl, hm3, (Below.drewN _ _ _).trans hb3, hk3⟩
theorem dollar_v (B g : Nat) (S : L) (k : Nat) (σ : St) (r : L) (hl : σ.l = 36 :: r) (hn : Nm k σ) (hd : σ.d ≤ 8) (ih : Parts B g S k σ.l.length) (W : World) (h : Mem W B g S σ) : Calls Tryd.prog 35 #[.pointer (some ⟨g, 0, none⟩)] W (Fin B g S σ k W (Lx.dolF (up (σ.d + 1) 125 false) (σ.d == 8) r)) := by
  match r, hl with
  | [], hl => exact dollar_self B g S k σ (by rw [hl]; rfl) (by rw [hl]; rfl) (by rw [hl]; rfl) (by rw [hl]; rfl) W h [] hl hn
  | x :: q, hl =>
    by_cases h1 : x = 123
    · subst h1
      have hb := fun m => braced_v B g S k σ q hl hn hd ih (W.drewN m) (h.drewN m)
      have e1 : Lx.dolF (up (σ.d + 1) 125 false) (σ.d == 8) (123 :: q) = brM σ.d q := rfl
      rw [e1]
      cases hx : brM σ.d q with
      | error n => rw [hx] at hb; exact dollar_braced_bad B g S k σ (by rw [hl]; rfl) W h n hb
      | ok p => obtain ⟨t, r'⟩ := p; rw [hx] at hb; exact dollar_braced_ok B g S k σ (by rw [hl]; rfl) W h t r' hb
    · have h0 : ([36, 123] : L).isPrefixOf σ.l = false := by rw [hl]; simp [List.isPrefixOf]; exact fun e => h1 e.symm
      by_cases h2 : x = 40
      · subst h2
        match q, hl with
        | [], hl => exact dollar_paren B g S k σ h0 (by rw [hl]; rfl) (by rw [hl]; rfl) W h
        | y :: q', hl =>
          by_cases h3 : y = 40
          · subst h3
            have hb := fun m => reckoned_v B g S k σ q' hl hn (W.drewN m) (h.drewN m)
            have e1 : Lx.dolF (up (σ.d + 1) 125 false) (σ.d == 8) (40 :: 40 :: q') = arM q' := rfl
            rw [e1]
            cases hx : arM q' with
            | error n => rw [hx] at hb; exact dollar_reckoned_bad B g S k σ h0 (by rw [hl]; rfl) W h n hb
            | ok p => obtain ⟨t, r'⟩ := p; rw [hx] at hb; exact dollar_reckoned_ok B g S k σ h0 (by rw [hl]; rfl) W h t r' hb
          · have e1 : Lx.dolF (up (σ.d + 1) 125 false) (σ.d == 8) (40 :: y :: q') = .error 20 := by simp [Lx.dolF, h3]
            rw [e1]
            exact dollar_paren B g S k σ h0 (by rw [hl]; simp [List.isPrefixOf]; exact fun e => h3 e.symm) (by rw [hl]; rfl) W h
      · have h10 : ([36, 40, 40] : L).isPrefixOf σ.l = false := by rw [hl]; simp [List.isPrefixOf]; exact fun e => absurd e.symm h2
        have h20 : ([36, 40] : L).isPrefixOf σ.l = false := by rw [hl]; simp [List.isPrefixOf]; exact fun e => absurd e.symm h2
        by_cases h4 : x = 92 ∧ q.head? = some 10
        · have e1 : Lx.dolF (up (σ.d + 1) 125 false) (σ.d == 8) (x :: q) = .error 20 := by simp only [Lx.dolF, if_neg h1, if_neg h2, if_pos h4]
          rw [e1]
          refine dollar_join B g S k σ h0 h10 h20 ?_ W h
          obtain ⟨rfl, h5⟩ := h4
          cases q with
          | nil => cases h5
          | cons z q' => simp only [List.head?_cons, Option.some.injEq] at h5; rw [hl, h5]; rfl
        · have e1 : Lx.dolF (up (σ.d + 1) 125 false) (σ.d == 8) (x :: q) = .ok ([36], x :: q) := by simp only [Lx.dolF, if_neg h1, if_neg h2, if_neg h4]
          rw [e1]
          refine dollar_self B g S k σ h0 h10 h20 ?_ W h (x :: q) hl hn
          rw [hl]
          cases q with
          | nil => simp [List.isPrefixOf]
          | cons z q' =>
            simp [List.isPrefixOf]
            intro e1 e2
            exact h4 ⟨e1.symm, by simp [e2]⟩
end Go.Proofs.YtnjabmacbgehlaaDoor
