/- The document's Cut. No premises. -/
import Derived.Test.YtdfnbanbofnabaaDoorGza
namespace Go.Proofs.YtdfnbanbofnabaaDoor
open Go.RowKit Go.Maps
namespace Gl
/-- The best of the first n. -/
def Upto (l : Bool) (d : Bool) (g : List Sg) (s : L) (n : Nat) (v : Option Nat) : Prop := Best l (fun k => QC d g s k ∧ k < n) v
theorem upto_zero {l d : Bool} {g : List Sg} {s : L} : Upto l d g s 0 none := fun n h => by omega
theorem upto_no {l d : Bool} {g : List Sg} {s : L} {n : Nat} {v : Option Nat} (h : Upto l d g s n v) (hn : ¬ QC d g s n) : Upto l d g s (n + 1) v := by
  refine Best.iff (fun k => ?_) h
  constructor
  · rintro ⟨h1, h2⟩; exact ⟨h1, by omega⟩
  · rintro ⟨h1, h2⟩
    refine ⟨h1, ?_⟩
    by_cases e : k = n
    · subst e; exact absurd h1 hn
    · omega
theorem upto_new {l d : Bool} {g : List Sg} {s : L} {n : Nat} {v : Option Nat} (h : Upto l d g s n v) (hn : QC d g s n) (hv : v = none ∨ l = true) : Upto l d g s (n + 1) (some n) := by
  refine ⟨⟨hn, by omega⟩, fun m hm => ?_⟩
  cases l with
  | true => simp only [if_true]; omega
  | false =>
    rcases hv with hv | hv
    · subst hv
      simp only [Bool.false_eq_true, if_false]
      by_cases e : m < n
      · exact absurd ⟨hm.1, e⟩ (h m)
      · omega
    · cases hv
theorem upto_old {d : Bool} {g : List Sg} {s : L} {n p : Nat} (h : Upto false d g s n (some p)) : Upto false d g s (n + 1) (some p) := by
  refine ⟨⟨h.1.1, by have := h.1.2; omega⟩, fun m hm => ?_⟩
  simp only [Bool.false_eq_true, if_false]
  by_cases e : m < n
  · have := h.2 m ⟨hm.1, e⟩
    simpa using this
  · have := h.1.2; omega
theorem upto_all {l d : Bool} {g : List Sg} {s : L} {v : Option Nat} (h : Upto l d g s (s.length + 1) v) : Best l (QC d g s) v := Best.iff (fun k => ⟨fun hk => hk.1, fun hk => ⟨hk, by have := hk.1; omega⟩⟩) h
def partOf' (d : Bool) (s : L) (k : Nat) : L := if d = true then s.drop (s.length - k) else s.take k
theorem qc_part' {d : Bool} {g : List Sg} {s : L} {k : Nat} (hk : k ≤ s.length) : QC d g s k ↔ tb g (partOf' d s k) = true := by
  unfold QC partOf'
  rw [tb_iff]
  exact ⟨fun h => h.2, fun h => ⟨hk, h⟩⟩
end Gl
namespace Gr
open Gs
theorem ov_neg {v : Option Nat} : (ov v < 0) ↔ v = none := by cases v <;> simp [ov]
set_option maxRecDepth 100000 in
set_option maxHeartbeats 6400000 in
theorem Cut_v (s t m : L) (d l : Bool) (w : World) (ht : t.length ≤ 4096) (hs : s.length ≤ 4096) : Calls Tryd.prog 17 #[.string (mkS s), .string (mkS t), .string (mkS m), .bool d, .bool l] w fun e w' => ∃ v, e = .returned (.string (mkS (Gl.cutOf d s v))) ∧ Gl.Best l (Gl.QC d (Gl.sgF t m 0) s) v ∧ Later w w' := by
  have hsi : ((mkS s).size : Int) = (s.length : Int) := by rw [mkS_size]
  have hs1 : (s.length : Int) ≤ 5000 := by omega
  have HM := Lib.hid (fun (x : L) (hx : x.length ≤ 4096) W => Match_v t m x W ht hx)
  obtain ⟨g, hg⟩ : ∃ g, g = Gl.sgF t m 0 := ⟨_, rfl⟩
  rw [← hg] at HM ⊢
  clear hg
  cases d with
  | false =>
    cases l with
    | false =>
      go_enter Tryd.func17, Tryd.ntmps17
      go_wp2_with fail
      go_loopw [11, 12] (fun s11 s12 wr => ∃ (v : Option Nat) (k : Nat), s11 = .int .i64 (ov v) ∧ s12 = .int .i64 (k : Int) ∧ k ≤ s.length + 1 ∧ Gl.Upto false false g s k v ∧ Later w wr) (fun _ i _ => s.length + 1 - (intOf i).toNat)
      case atStart => exact ⟨none, 0, rfl, rfl, Nat.zero_le _, Gl.upto_zero, Later.refl _⟩
      case round =>
        obtain ⟨v, k, rfl, rfl, hk, hup, hlr⟩ := hrel
        have HUP := Lib.hid hup
        have HLR := Lib.hid hlr
        clear hup hlr
        by_cases hks : k ≤ s.length
        · have hks2 : (k : Int) ≤ (s.length : Int) := by omega
          have hk0 : (0 : Int) ≤ (k : Int) := by omega
          have hk2 : (k : Int) ≤ ((mkS s).size : Int) := by omega
          have hmk : ∀ W, Calls Tryd.prog 24 #[.string (mkS t), .string (mkS m), .int .i64 0, .string ((mkS s).extract 0 k)] W fun e w' => e = .returned (.bool (Gl.tb g (Gl.partOf' false s k))) ∧ Later W w' := fun W => by
            rw [take_text]
            exact HM.out _ (by rw [List.length_take]; omega) W
          cases hM : Gl.tb g (Gl.partOf' false s k) with
          | false =>
            rw [hM] at hmk
            have HMK := Lib.hid hmk
            have HN := Lib.hid (show ¬ Gl.QC false g s k by rw [Gl.qc_part' hks, hM]; simp)
            clear hmk hM
            go_wp2_with (first
              | (go_at_call 24; (with_reducible refine (HMK.out _).mono ?_); rintro e w5 ⟨rfl, hl5⟩; (have HL5 := Lib.hid (HLR.out.trans hl5)); clear hl5))
            go_roundw
            case rel => exact ⟨v, k + 1, rfl, by go_num, by omega, Gl.upto_no HUP.out HN.out, HL5.out⟩
            case measure => (simp [intOf]; try omega)
          | true =>
            rw [hM] at hmk
            have HMK := Lib.hid hmk
            have HN := Lib.hid ((Gl.qc_part' (d := false) hks).2 hM)
            clear hmk hM
            cases v with
            | none =>
              have hov : ov none = -1 := rfl
              go_wp2_with (first
                | (go_at_call 24; (with_reducible refine (HMK.out _).mono ?_); rintro e w5 ⟨rfl, hl5⟩; (have HL5 := Lib.hid (HLR.out.trans hl5)); clear hl5))
              go_roundw
              case rel => exact ⟨some k, k + 1, rfl, by go_num, by omega, Gl.upto_new HUP.out HN.out (.inl rfl), HL5.out⟩
              case measure => (simp [intOf]; try omega)
            | some q =>
              have hov : ov (some q) = (q : Int) := rfl
              have hq0 : ¬ ((q : Int) < 0) := by omega
              go_wp2_with (first
                | (go_at_call 24; (with_reducible refine (HMK.out _).mono ?_); rintro e w5 ⟨rfl, hl5⟩; (have HL5 := Lib.hid (HLR.out.trans hl5)); clear hl5))
              go_roundw
              case rel => exact ⟨some q, k + 1, hov.symm ▸ rfl, by go_num, by omega, Gl.upto_old HUP.out, HL5.out⟩
              case measure => (simp [intOf]; try omega)
        · have hks2 : ¬ ((k : Int) ≤ (s.length : Int)) := by omega
          have hke : k = s.length + 1 := by omega
          have HB := Lib.hid (show Gl.Best false (Gl.QC false g s) v by have := HUP.out; rw [hke] at this; exact Gl.upto_all this)
          clear HUP hke
          cases v with
          | none =>
            have hov : ov none = -1 := rfl
            go_wp2
            go_ret
            refine ⟨none, ?_, HB.out, HLR.out⟩
            unfold Gl.cutOf
            simp
          | some q =>
            have hov : ov (some q) = (q : Int) := rfl
            have hq0 : ¬ ((q : Int) < 0) := by omega
            have hqs := HB.out.1.1
            have hq1 : (0 : Int) ≤ (q : Int) := by omega
            have hq2 : (q : Int) ≤ ((mkS s).size : Int) := by omega
            have hq3 : (q : Int) ≤ (s.length : Int) := by omega
            go_wp2
            go_ret
            refine ⟨some q, ?_, HB.out, HLR.out⟩
            rw [show Gl.cutOf false s (some q) = s.drop q from rfl, ← drop_text]
            rfl
    | true =>
      go_enter Tryd.func17, Tryd.ntmps17
      go_wp2_with fail
      go_loopw [11, 12] (fun s11 s12 wr => ∃ (v : Option Nat) (k : Nat), s11 = .int .i64 (ov v) ∧ s12 = .int .i64 (k : Int) ∧ k ≤ s.length + 1 ∧ Gl.Upto true false g s k v ∧ Later w wr) (fun _ i _ => s.length + 1 - (intOf i).toNat)
      case atStart => exact ⟨none, 0, rfl, rfl, Nat.zero_le _, Gl.upto_zero, Later.refl _⟩
      case round =>
        obtain ⟨v, k, rfl, rfl, hk, hup, hlr⟩ := hrel
        have HUP := Lib.hid hup
        have HLR := Lib.hid hlr
        clear hup hlr
        by_cases hks : k ≤ s.length
        · have hks2 : (k : Int) ≤ (s.length : Int) := by omega
          have hk0 : (0 : Int) ≤ (k : Int) := by omega
          have hk2 : (k : Int) ≤ ((mkS s).size : Int) := by omega
          have hmk : ∀ W, Calls Tryd.prog 24 #[.string (mkS t), .string (mkS m), .int .i64 0, .string ((mkS s).extract 0 k)] W fun e w' => e = .returned (.bool (Gl.tb g (Gl.partOf' false s k))) ∧ Later W w' := fun W => by
            rw [take_text]
            exact HM.out _ (by rw [List.length_take]; omega) W
          cases hM : Gl.tb g (Gl.partOf' false s k) with
          | false =>
            rw [hM] at hmk
            have HMK := Lib.hid hmk
            have HN := Lib.hid (show ¬ Gl.QC false g s k by rw [Gl.qc_part' hks, hM]; simp)
            clear hmk hM
            go_wp2_with (first
              | (go_at_call 24; (with_reducible refine (HMK.out _).mono ?_); rintro e w5 ⟨rfl, hl5⟩; (have HL5 := Lib.hid (HLR.out.trans hl5)); clear hl5))
            go_roundw
            case rel => exact ⟨v, k + 1, rfl, by go_num, by omega, Gl.upto_no HUP.out HN.out, HL5.out⟩
            case measure => (simp [intOf]; try omega)
          | true =>
            rw [hM] at hmk
            have HMK := Lib.hid hmk
            have HN := Lib.hid ((Gl.qc_part' (d := false) hks).2 hM)
            clear hmk hM
            cases v with
            | none =>
              have hov : ov none = -1 := rfl
              go_wp2_with (first
                | (go_at_call 24; (with_reducible refine (HMK.out _).mono ?_); rintro e w5 ⟨rfl, hl5⟩; (have HL5 := Lib.hid (HLR.out.trans hl5)); clear hl5))
              go_roundw
              case rel => exact ⟨some k, k + 1, rfl, by go_num, by omega, Gl.upto_new HUP.out HN.out (.inl rfl), HL5.out⟩
              case measure => (simp [intOf]; try omega)
            | some q =>
              have hov : ov (some q) = (q : Int) := rfl
              have hq0 : ¬ ((q : Int) < 0) := by omega
              go_wp2_with (first
                | (go_at_call 24; (with_reducible refine (HMK.out _).mono ?_); rintro e w5 ⟨rfl, hl5⟩; (have HL5 := Lib.hid (HLR.out.trans hl5)); clear hl5))
              go_roundw
              case rel => exact ⟨some k, k + 1, rfl, by go_num, by omega, Gl.upto_new HUP.out HN.out (.inr rfl), HL5.out⟩
              case measure => (simp [intOf]; try omega)
        · have hks2 : ¬ ((k : Int) ≤ (s.length : Int)) := by omega
          have hke : k = s.length + 1 := by omega
          have HB := Lib.hid (show Gl.Best true (Gl.QC false g s) v by have := HUP.out; rw [hke] at this; exact Gl.upto_all this)
          clear HUP hke
          cases v with
          | none =>
            have hov : ov none = -1 := rfl
            go_wp2
            go_ret
            refine ⟨none, ?_, HB.out, HLR.out⟩
            unfold Gl.cutOf
            simp
          | some q =>
            have hov : ov (some q) = (q : Int) := rfl
            have hq0 : ¬ ((q : Int) < 0) := by omega
            have hqs := HB.out.1.1
            have hq1 : (0 : Int) ≤ (q : Int) := by omega
            have hq2 : (q : Int) ≤ ((mkS s).size : Int) := by omega
            have hq3 : (q : Int) ≤ (s.length : Int) := by omega
            go_wp2
            go_ret
            refine ⟨some q, ?_, HB.out, HLR.out⟩
            rw [show Gl.cutOf false s (some q) = s.drop q from rfl, ← drop_text]
            rfl
  | true =>
    cases l with
    | false =>
      go_enter Tryd.func17, Tryd.ntmps17
      go_wp2_with fail
      go_loopw [11, 12] (fun s11 s12 wr => ∃ (v : Option Nat) (k : Nat), s11 = .int .i64 (ov v) ∧ s12 = .int .i64 (k : Int) ∧ k ≤ s.length + 1 ∧ Gl.Upto false true g s k v ∧ Later w wr) (fun _ i _ => s.length + 1 - (intOf i).toNat)
      case atStart => exact ⟨none, 0, rfl, rfl, Nat.zero_le _, Gl.upto_zero, Later.refl _⟩
      case round =>
        obtain ⟨v, k, rfl, rfl, hk, hup, hlr⟩ := hrel
        have HUP := Lib.hid hup
        have HLR := Lib.hid hlr
        clear hup hlr
        by_cases hks : k ≤ s.length
        · have hks2 : (k : Int) ≤ (s.length : Int) := by omega
          have hk0 : (0 : Int) ≤ (k : Int) := by omega
          have hk2 : (k : Int) ≤ ((mkS s).size : Int) := by omega
          obtain ⟨p, hp⟩ : ∃ p, p = s.length - k := ⟨_, rfl⟩
          have hpi : (s.length : Int) - (k : Int) = (p : Int) := by omega
          have hp0 : (0 : Int) ≤ (p : Int) := by omega
          have hp1 : (p : Int) ≤ (s.length : Int) := by omega
          have hp2 : (p : Int) ≤ ((mkS s).size : Int) := by omega
          have hmk : ∀ W, Calls Tryd.prog 24 #[.string (mkS t), .string (mkS m), .int .i64 0, .string ((mkS s).extract p (mkS s).size)] W fun e w' => e = .returned (.bool (Gl.tb g (Gl.partOf' true s k))) ∧ Later W w' := fun W => by
            rw [drop_text, hp]
            exact HM.out _ (by rw [List.length_drop]; omega) W
          clear hp
          cases hM : Gl.tb g (Gl.partOf' true s k) with
          | false =>
            rw [hM] at hmk
            have HMK := Lib.hid hmk
            have HN := Lib.hid (show ¬ Gl.QC true g s k by rw [Gl.qc_part' hks, hM]; simp)
            clear hmk hM
            go_wp2_with (first
              | (go_at_call 24; (with_reducible refine (HMK.out _).mono ?_); rintro e w5 ⟨rfl, hl5⟩; (have HL5 := Lib.hid (HLR.out.trans hl5)); clear hl5))
            go_roundw
            case rel => exact ⟨v, k + 1, rfl, by go_num, by omega, Gl.upto_no HUP.out HN.out, HL5.out⟩
            case measure => (simp [intOf]; try omega)
          | true =>
            rw [hM] at hmk
            have HMK := Lib.hid hmk
            have HN := Lib.hid ((Gl.qc_part' (d := true) hks).2 hM)
            clear hmk hM
            cases v with
            | none =>
              have hov : ov none = -1 := rfl
              go_wp2_with (first
                | (go_at_call 24; (with_reducible refine (HMK.out _).mono ?_); rintro e w5 ⟨rfl, hl5⟩; (have HL5 := Lib.hid (HLR.out.trans hl5)); clear hl5))
              go_roundw
              case rel => exact ⟨some k, k + 1, rfl, by go_num, by omega, Gl.upto_new HUP.out HN.out (.inl rfl), HL5.out⟩
              case measure => (simp [intOf]; try omega)
            | some q =>
              have hov : ov (some q) = (q : Int) := rfl
              have hq0 : ¬ ((q : Int) < 0) := by omega
              go_wp2_with (first
                | (go_at_call 24; (with_reducible refine (HMK.out _).mono ?_); rintro e w5 ⟨rfl, hl5⟩; (have HL5 := Lib.hid (HLR.out.trans hl5)); clear hl5))
              go_roundw
              case rel => exact ⟨some q, k + 1, hov.symm ▸ rfl, by go_num, by omega, Gl.upto_old HUP.out, HL5.out⟩
              case measure => (simp [intOf]; try omega)
        · have hks2 : ¬ ((k : Int) ≤ (s.length : Int)) := by omega
          have hke : k = s.length + 1 := by omega
          have HB := Lib.hid (show Gl.Best false (Gl.QC true g s) v by have := HUP.out; rw [hke] at this; exact Gl.upto_all this)
          clear HUP hke
          cases v with
          | none =>
            have hov : ov none = -1 := rfl
            go_wp2
            go_ret
            refine ⟨none, ?_, HB.out, HLR.out⟩
            unfold Gl.cutOf
            simp
          | some q =>
            have hov : ov (some q) = (q : Int) := rfl
            have hq0 : ¬ ((q : Int) < 0) := by omega
            have hqs := HB.out.1.1
            have hq1 : (0 : Int) ≤ (q : Int) := by omega
            have hq2 : (q : Int) ≤ ((mkS s).size : Int) := by omega
            have hq3 : (q : Int) ≤ (s.length : Int) := by omega
            obtain ⟨p, hp⟩ : ∃ p, p = s.length - q := ⟨_, rfl⟩
            have hpi : (s.length : Int) - (q : Int) = (p : Int) := by omega
            have hp0 : (0 : Int) ≤ (p : Int) := by omega
            have hp1 : (p : Int) ≤ (s.length : Int) := by omega
            have hp2 : (p : Int) ≤ ((mkS s).size : Int) := by omega
            have HP := Lib.hid hp
            clear hp
            go_wp2
            go_ret
            refine ⟨some q, ?_, HB.out, HLR.out⟩
            rw [show Gl.cutOf true s (some q) = s.take p by rw [HP.out]; rfl, ← take_text]
            rfl
    | true =>
      go_enter Tryd.func17, Tryd.ntmps17
      go_wp2_with fail
      go_loopw [11, 12] (fun s11 s12 wr => ∃ (v : Option Nat) (k : Nat), s11 = .int .i64 (ov v) ∧ s12 = .int .i64 (k : Int) ∧ k ≤ s.length + 1 ∧ Gl.Upto true true g s k v ∧ Later w wr) (fun _ i _ => s.length + 1 - (intOf i).toNat)
      case atStart => exact ⟨none, 0, rfl, rfl, Nat.zero_le _, Gl.upto_zero, Later.refl _⟩
      case round =>
        obtain ⟨v, k, rfl, rfl, hk, hup, hlr⟩ := hrel
        have HUP := Lib.hid hup
        have HLR := Lib.hid hlr
        clear hup hlr
        by_cases hks : k ≤ s.length
        · have hks2 : (k : Int) ≤ (s.length : Int) := by omega
          have hk0 : (0 : Int) ≤ (k : Int) := by omega
          have hk2 : (k : Int) ≤ ((mkS s).size : Int) := by omega
          obtain ⟨p, hp⟩ : ∃ p, p = s.length - k := ⟨_, rfl⟩
          have hpi : (s.length : Int) - (k : Int) = (p : Int) := by omega
          have hp0 : (0 : Int) ≤ (p : Int) := by omega
          have hp1 : (p : Int) ≤ (s.length : Int) := by omega
          have hp2 : (p : Int) ≤ ((mkS s).size : Int) := by omega
          have hmk : ∀ W, Calls Tryd.prog 24 #[.string (mkS t), .string (mkS m), .int .i64 0, .string ((mkS s).extract p (mkS s).size)] W fun e w' => e = .returned (.bool (Gl.tb g (Gl.partOf' true s k))) ∧ Later W w' := fun W => by
            rw [drop_text, hp]
            exact HM.out _ (by rw [List.length_drop]; omega) W
          clear hp
          cases hM : Gl.tb g (Gl.partOf' true s k) with
          | false =>
            rw [hM] at hmk
            have HMK := Lib.hid hmk
            have HN := Lib.hid (show ¬ Gl.QC true g s k by rw [Gl.qc_part' hks, hM]; simp)
            clear hmk hM
            go_wp2_with (first
              | (go_at_call 24; (with_reducible refine (HMK.out _).mono ?_); rintro e w5 ⟨rfl, hl5⟩; (have HL5 := Lib.hid (HLR.out.trans hl5)); clear hl5))
            go_roundw
            case rel => exact ⟨v, k + 1, rfl, by go_num, by omega, Gl.upto_no HUP.out HN.out, HL5.out⟩
            case measure => (simp [intOf]; try omega)
          | true =>
            rw [hM] at hmk
            have HMK := Lib.hid hmk
            have HN := Lib.hid ((Gl.qc_part' (d := true) hks).2 hM)
            clear hmk hM
            cases v with
            | none =>
              have hov : ov none = -1 := rfl
              go_wp2_with (first
                | (go_at_call 24; (with_reducible refine (HMK.out _).mono ?_); rintro e w5 ⟨rfl, hl5⟩; (have HL5 := Lib.hid (HLR.out.trans hl5)); clear hl5))
              go_roundw
              case rel => exact ⟨some k, k + 1, rfl, by go_num, by omega, Gl.upto_new HUP.out HN.out (.inl rfl), HL5.out⟩
              case measure => (simp [intOf]; try omega)
            | some q =>
              have hov : ov (some q) = (q : Int) := rfl
              have hq0 : ¬ ((q : Int) < 0) := by omega
              go_wp2_with (first
                | (go_at_call 24; (with_reducible refine (HMK.out _).mono ?_); rintro e w5 ⟨rfl, hl5⟩; (have HL5 := Lib.hid (HLR.out.trans hl5)); clear hl5))
              go_roundw
              case rel => exact ⟨some k, k + 1, rfl, by go_num, by omega, Gl.upto_new HUP.out HN.out (.inr rfl), HL5.out⟩
              case measure => (simp [intOf]; try omega)
        · have hks2 : ¬ ((k : Int) ≤ (s.length : Int)) := by omega
          have hke : k = s.length + 1 := by omega
          have HB := Lib.hid (show Gl.Best true (Gl.QC true g s) v by have := HUP.out; rw [hke] at this; exact Gl.upto_all this)
          clear HUP hke
          cases v with
          | none =>
            have hov : ov none = -1 := rfl
            go_wp2
            go_ret
            refine ⟨none, ?_, HB.out, HLR.out⟩
            unfold Gl.cutOf
            simp
          | some q =>
            have hov : ov (some q) = (q : Int) := rfl
            have hq0 : ¬ ((q : Int) < 0) := by omega
            have hqs := HB.out.1.1
            have hq1 : (0 : Int) ≤ (q : Int) := by omega
            have hq2 : (q : Int) ≤ ((mkS s).size : Int) := by omega
            have hq3 : (q : Int) ≤ (s.length : Int) := by omega
            obtain ⟨p, hp⟩ : ∃ p, p = s.length - q := ⟨_, rfl⟩
            have hpi : (s.length : Int) - (q : Int) = (p : Int) := by omega
            have hp0 : (0 : Int) ≤ (p : Int) := by omega
            have hp1 : (p : Int) ≤ (s.length : Int) := by omega
            have hp2 : (p : Int) ≤ ((mkS s).size : Int) := by omega
            have HP := Lib.hid hp
            clear hp
            go_wp2
            go_ret
            refine ⟨some q, ?_, HB.out, HLR.out⟩
            rw [show Gl.cutOf true s (some q) = s.take p by rw [HP.out]; rfl, ← take_text]
            rfl
end Gr
end Go.Proofs.YtdfnbanbofnabaaDoor
