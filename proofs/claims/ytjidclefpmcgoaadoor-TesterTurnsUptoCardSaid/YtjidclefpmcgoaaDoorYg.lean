/- The document's Number; a number by it. No premises. -/
import Derived.Test.YtjidclefpmcgoaaDoorYf
namespace Go.Proofs.YtjidclefpmcgoaaDoor
open Go.RowKit Go.Maps
namespace Ar
def szOf : Value → Nat
  | .string b => b.size
  | _ => 0
theorem front_front (l : L) (h : ∀ c r, l = c :: r → blank c = false) : front l = l := by
  rcases l with _ | ⟨c, r⟩
  · rfl
  · rw [front_cons, h c r rfl]; rfl
theorem snoc_of {α : Type} : ∀ (s : List α), s ≠ [] → ∃ a c, s = a ++ [c] := fun s h => ⟨s.dropLast, s.getLast h, (List.dropLast_concat_getLast h).symm⟩
theorem drop_last (r : L) (c : UInt8) : (mkS (r ++ [c])).extract 0 r.length = mkS r := by
  apply ByteArray.ext
  simp [mkS]
theorem get_last (t r : L) (c : UInt8) (ht : t = r ++ [c]) (k : Nat) (hk : k = r.length) : ∀ h : k < (mkS t).size, (mkS t)[k]'h = c := by
  subst hk ht
  intro h
  have h2 : (r ++ [c])[r.length]'(by simp) = c := by simp
  exact h2
theorem nil_or (t : L) : t = [] ∨ ∃ c r, t = c :: r := by
  rcases t with _ | ⟨c, r⟩
  · exact .inl rfl
  · exact .inr ⟨_, _, rfl⟩
theorem nil_or2 (t : L) : t = [] ∨ ∃ r c, t = r ++ [c] := by
  by_cases h : t = []
  · exact .inl h
  · exact .inr (snoc_of t h)
abbrev DigC (t : L) (r : Option Nat) : Prop := ∀ W, Calls Tryd.prog 37 #[.string (mkS t)] W fun e W' => e = .returned (numR r) ∧ W' = W
set_option maxHeartbeats 3200000 in
set_option maxRecDepth 100000 in
theorem refNumber_v (l : L) (hl : l.length ≤ 2000000) (W : World) : Calls Tryd.prog 32 #[.string (mkS l)] W fun e W' => e = .returned (numI (numV l)) ∧ W' = W := by
  have HL := Lib.hid hl
  clear hl
  go_enter Tryd.func32, Tryd.ntmps32
  go_wp2
  go_loopw [0] (fun sv wr => ∃ t : L, sv = .string (mkS t) ∧ wr = W ∧ Hid (t.length ≤ 2000000 ∧ front t = front l)) (fun sv _ => szOf sv)
  case atStart => exact ⟨l, rfl, rfl, Lib.hid ⟨HL.out, rfl⟩⟩
  case round =>
    obtain ⟨t, rfl, hw, hf⟩ := hrel
    have hw := hw.symm
    subst hw
    have htl := hf.out.1
    obtain ⟨z, hz⟩ : ∃ z, (mkS t).size = z := ⟨_, rfl⟩
    rcases nil_or t with h0 | ⟨c, r, hcr⟩
    · have he : ((mkS t).toList == ([] : List UInt8)) = true := by rw [toList_mkS, h0]; rfl
      have HT0 := Lib.hid (show rear t = trim l by rw [trim_is, ← hf.out.2, h0]; rfl)
      have HLS := Lib.hid htl
      clear hf h0 htl
      go_wp2
      clear he hz
      go_loopw [0] (fun sv wr => ∃ t : L, sv = .string (mkS t) ∧ wr = W ∧ Hid (t.length ≤ 2000000 ∧ rear t = trim l)) (fun sv _ => szOf sv)
      case atStart => exact ⟨t, rfl, rfl, Lib.hid ⟨HLS.out, HT0.out⟩⟩
      case round =>
        obtain ⟨t2, rfl, hw2, hf2⟩ := hrel
        have hw2 := hw2.symm
        subst hw2
        have htl2 := hf2.out.1
        rcases nil_or2 t2 with h0 | ⟨r2, c2, hrc⟩
        · have he2 : ((mkS t2).toList == ([] : List UInt8)) = true := by rw [toList_mkS, h0]; rfl
          have HRES := Lib.hid (show numV l = some 0 by rw [numV_of, ← hf2.out.2, h0]; rfl)
          clear hf2 h0 htl2
          go_wp2
          go_ret2
          rw [HRES.out]
          exact ⟨rfl, by first | rfl | trivial⟩
        · have he2 : ((mkS t2).toList == ([] : List UInt8)) = false := by rw [toList_mkS, hrc]; simp
          obtain ⟨z2, hz2⟩ : ∃ z2, (mkS t2).size = z2 := ⟨_, rfl⟩
          obtain ⟨m, hm⟩ : ∃ m, m = r2.length := ⟨_, rfl⟩
          have hzm : z2 = m + 1 := by rw [← hz2, mkS_size, hrc, hm]; simp
          have hm2 : m ≤ 2000000 := by rw [hrc] at htl2; simp at htl2; omega
          have hsub : (z2 : Int) - 1 = (m : Int) := by omega
          have hmi0 : (0 : Int) ≤ (m : Int) := by omega
          have hmi1 : (m : Int) < (z2 : Int) := by omega
          have hz21 : (1 : Int) ≤ (z2 : Int) := by omega
          have hgx := get_last t2 r2 c2 hrc m hm
          have HX2 := Lib.hid (show (mkS t2).extract 0 m = mkS r2 by rw [hrc, hm]; exact drop_last r2 c2)
          have hbl2 := fun W => blank_v c2 W
          have HLT2 := Lib.hid (show m < z2 by omega)
          have HMR := Lib.hid hm
          cases hb2 : blank c2 with
          | true =>
            rw [hb2] at hbl2
            have HB2 := Lib.hid hbl2
            have HF2 := Lib.hid (show rear r2 = trim l by rw [← hf2.out.2, hrc, rear_snoc, hb2]; rfl)
            have HR2 := Lib.hid (show r2.length ≤ 2000000 by omega)
            clear hf2 hbl2 htl2 hzm hb2 hrc hm
            go_wp2_with (go_at_call 36; (with_reducible refine (HB2.out _).mono ?_); rintro e w5 ⟨rfl, rfl⟩)
            rw [HX2.out]
            refine ⟨⟨r2, rfl, by first | rfl | trivial, Lib.hid ⟨HR2.out, HF2.out⟩⟩, ?_⟩
            have := HLT2.out
            simp only [szOf, hz2, mkS_size]
            rw [← HMR.out]
            exact this
          | false =>
            rw [hb2] at hbl2
            have HB2 := Lib.hid hbl2
            clear hbl2 HX2 HLT2 HMR hm
            rcases nil_or t2 with h0 | ⟨c, r, hcr2⟩
            · exact absurd (h0.symm.trans hrc) (by simp)
            · have hg1 : ∀ h, (mkS t2)[0]'h = c := by have := hcr2; subst this; intro h; rfl
              have HX1 := Lib.hid (show (mkS t2).extract 1 z2 = mkS r by rw [← hz2, drop_text, hcr2]; rfl)
              by_cases h43 : c = 43
              · have e1 : ((c.toNat : Int) == 43) = true := by rw [h43]; rfl
                have HD0 := Lib.hid (fun W => digits_v r (by rw [hcr2] at htl2; simp at htl2; omega) W)
                have hlt := fun n => num_lt (l := r) (n := n)
                have hnv := numV_of l
                rw [← hf2.out.2] at hnv
                rw [show rear t2 = t2 by rw [hrc, rear_snoc, hb2]; rfl] at hnv
                rw [hcr2] at hnv
                unfold numT at hnv
                simp only [h43, if_true] at hnv
                obtain ⟨q, hq⟩ : ∃ q, q = num r := ⟨_, rfl⟩
                rw [← hq] at HD0 hlt hnv
                obtain ⟨a, ha⟩ : ∃ a : Int, a = ((q.getD 0 : Nat) : Int) := ⟨_, rfl⟩
                obtain ⟨ok, hok⟩ : ∃ ok : Bool, ok = q.isSome := ⟨_, rfl⟩
                have ha0 : 0 ≤ a := by omega
                have ha1 : a < 9223372036854775808 := by
                  rw [ha]
                  cases q with
                  | none => simp
                  | some n => have := hlt n rfl; simp; omega
                have HR := Lib.hid (show numI (numV l) = .tuple #[.int .i64 a, .bool ok] by rw [hnv, hok, ha]; cases q <;> rfl)
                unfold numR at HD0
                rw [← ha, ← hok] at HD0
                have HD := HD0
                clear h43
                clear hf2 hb2 hrc hcr2 hlt hnv hq ha hok HD0 hzm htl2
                go_wp2_with (first
                  | (go_at_call 36; (with_reducible refine (HB2.out _).mono ?_); rintro e w5 ⟨rfl, rfl⟩)
                  | (go_at_call 37; (try rw [HX1.out]); (with_reducible refine (HD.out _).mono ?_); rintro e w6 ⟨rfl, rfl⟩))
                go_ret2
                rw [HR.out]
                exact ⟨rfl, by first | rfl | trivial⟩
              · have e1 : ((c.toNat : Int) == 43) = false := by rw [beq_eq_false_iff_ne]; intro e; exact h43 (UInt8.toNat_inj.1 (by have : (43 : UInt8).toNat = 43 := rfl; omega))
                by_cases h45 : c = 45
                · have e2 : ((c.toNat : Int) == 45) = true := by rw [h45]; rfl
                  have HD0 := Lib.hid (fun W => digits_v r (by rw [hcr2] at htl2; simp at htl2; omega) W)
                  have hlt := fun n => num_lt (l := r) (n := n)
                  have hnv := numV_of l
                  rw [← hf2.out.2] at hnv
                  rw [show rear t2 = t2 by rw [hrc, rear_snoc, hb2]; rfl] at hnv
                  rw [hcr2] at hnv
                  unfold numT at hnv
                  simp only [h45, if_true] at hnv
                  obtain ⟨q, hq⟩ : ∃ q, q = num r := ⟨_, rfl⟩
                  rw [← hq] at HD0 hlt hnv
                  obtain ⟨a, ha⟩ : ∃ a : Int, a = ((q.getD 0 : Nat) : Int) := ⟨_, rfl⟩
                  obtain ⟨ok, hok⟩ : ∃ ok : Bool, ok = q.isSome := ⟨_, rfl⟩
                  have ha0 : 0 ≤ a := by omega
                  have ha1 : a < 9223372036854775808 := by
                    rw [ha]
                    cases q with
                    | none => simp
                    | some n => have := hlt n rfl; simp; omega
                  have HR := Lib.hid (show numI (numV l) = .tuple #[.int .i64 (-a), .bool ok] by rw [hnv, hok, ha]; cases q <;> rfl)
                  unfold numR at HD0
                  rw [← ha, ← hok] at HD0
                  have HD := HD0
                  clear h43 h45
                  clear hf2 hb2 hrc hcr2 hlt hnv hq ha hok HD0 hzm htl2
                  go_wp2_with (first
                    | (go_at_call 36; (with_reducible refine (HB2.out _).mono ?_); rintro e w5 ⟨rfl, rfl⟩)
                    | (go_at_call 37; (try rw [HX1.out]); (with_reducible refine (HD.out _).mono ?_); rintro e w6 ⟨rfl, rfl⟩))
                  go_ret2
                  rw [HR.out]
                  exact ⟨rfl, by first | rfl | trivial⟩
                · have e2 : ((c.toNat : Int) == 45) = false := by rw [beq_eq_false_iff_ne]; intro e; exact h45 (UInt8.toNat_inj.1 (by have : (45 : UInt8).toNat = 45 := rfl; omega))
                  have HD0 := Lib.hid (fun W => digits_v (c :: r) (by rw [hcr2] at htl2; exact htl2) W)
                  have hlt := fun n => num_lt (l := (c :: r)) (n := n)
                  have hnv := numV_of l
                  rw [← hf2.out.2] at hnv
                  rw [show rear t2 = t2 by rw [hrc, rear_snoc, hb2]; rfl] at hnv
                  rw [hcr2] at hnv
                  unfold numT at hnv
                  simp only [h43, h45, if_false] at hnv
                  obtain ⟨q, hq⟩ : ∃ q, q = num (c :: r) := ⟨_, rfl⟩
                  rw [← hq] at HD0 hlt hnv
                  obtain ⟨a, ha⟩ : ∃ a : Int, a = ((q.getD 0 : Nat) : Int) := ⟨_, rfl⟩
                  obtain ⟨ok, hok⟩ : ∃ ok : Bool, ok = q.isSome := ⟨_, rfl⟩
                  have ha0 : 0 ≤ a := by omega
                  have ha1 : a < 9223372036854775808 := by
                    rw [ha]
                    cases q with
                    | none => simp
                    | some n => have := hlt n rfl; simp; omega
                  rw [← hcr2] at HD0
                  have HR := Lib.hid (show numI (numV l) = .tuple #[.int .i64 a, .bool ok] by rw [hnv, hok, ha]; cases q <;> rfl)
                  unfold numR at HD0
                  rw [← ha, ← hok] at HD0
                  have HD := HD0
                  clear h43 h45
                  clear hf2 hb2 hrc hcr2 hlt hnv hq ha hok HD0 hzm htl2
                  go_wp2_with (first
                    | (go_at_call 36; (with_reducible refine (HB2.out _).mono ?_); rintro e w5 ⟨rfl, rfl⟩)
                    | (go_at_call 37; (with_reducible refine (HD.out _).mono ?_); rintro e w6 ⟨rfl, rfl⟩))
                  go_ret2
                  rw [HR.out]
                  exact ⟨rfl, by first | rfl | trivial⟩
    · have he : ((mkS t).toList == ([] : List UInt8)) = false := by rw [toList_mkS, hcr]; rfl
      have hg0 : ∀ h, (mkS t)[0]'h = c := by subst hcr; intro h; rfl
      have hzr : z = r.length + 1 := by rw [← hz, mkS_size, hcr]; rfl
      have hz1 : (1 : Int) ≤ (z : Int) := by omega
      have hz2 : (z : Int) ≤ 2000000 := by rw [hcr] at htl; simp at htl; omega
      have HX := Lib.hid (show (mkS t).extract 1 z = mkS r by rw [← hz, drop_text, hcr]; rfl)
      have hbl := fun W => blank_v c W
      cases hb : blank c with
      | true =>
        rw [hb] at hbl
        have HB := Lib.hid hbl
        have HF := Lib.hid (show front r = front l by rw [← hf.out.2, hcr, front_cons, hb]; rfl)
        have HR := Lib.hid (show r.length ≤ 2000000 ∧ r.length < z by rw [hcr] at htl; simp at htl; omega)
        clear hf hbl htl hzr hb hcr
        go_wp2_with (go_at_call 36; (with_reducible refine (HB.out _).mono ?_); rintro e w3 ⟨rfl, rfl⟩)
        rw [HX.out]
        refine ⟨⟨r, rfl, by first | rfl | trivial, Lib.hid ⟨HR.out.1, HF.out⟩⟩, ?_⟩
        have := HR.out.2
        simp only [szOf, hz, mkS_size]
        exact this
      | false =>
        rw [hb] at hbl
        have HB := Lib.hid hbl
        have HT0 := Lib.hid (show rear t = trim l by rw [trim_is, ← hf.out.2, hcr, front_cons, hb]; rfl)
        have HLS := Lib.hid htl
        clear hf hbl htl hzr hb hcr HX
        go_wp2_with (go_at_call 36; (with_reducible refine (HB.out _).mono ?_); rintro e w3 ⟨rfl, rfl⟩)
        clear he hz
        go_loopw [0] (fun sv wr => ∃ t : L, sv = .string (mkS t) ∧ wr = w3 ∧ Hid (t.length ≤ 2000000 ∧ rear t = trim l)) (fun sv _ => szOf sv)
        case atStart => exact ⟨t, rfl, rfl, Lib.hid ⟨HLS.out, HT0.out⟩⟩
        case round =>
          obtain ⟨t2, rfl, hw2, hf2⟩ := hrel
          have hw2 := hw2.symm
          subst hw2
          have htl2 := hf2.out.1
          rcases nil_or2 t2 with h0 | ⟨r2, c2, hrc⟩
          · have he2 : ((mkS t2).toList == ([] : List UInt8)) = true := by rw [toList_mkS, h0]; rfl
            have HRES := Lib.hid (show numV l = some 0 by rw [numV_of, ← hf2.out.2, h0]; rfl)
            clear hf2 h0 htl2
            go_wp2
            go_ret2
            rw [HRES.out]
            exact ⟨rfl, by first | rfl | trivial⟩
          · have he2 : ((mkS t2).toList == ([] : List UInt8)) = false := by rw [toList_mkS, hrc]; simp
            obtain ⟨z2, hz2⟩ : ∃ z2, (mkS t2).size = z2 := ⟨_, rfl⟩
            obtain ⟨m, hm⟩ : ∃ m, m = r2.length := ⟨_, rfl⟩
            have hzm : z2 = m + 1 := by rw [← hz2, mkS_size, hrc, hm]; simp
            have hm2 : m ≤ 2000000 := by rw [hrc] at htl2; simp at htl2; omega
            have hsub : (z2 : Int) - 1 = (m : Int) := by omega
            have hmi0 : (0 : Int) ≤ (m : Int) := by omega
            have hmi1 : (m : Int) < (z2 : Int) := by omega
            have hz21 : (1 : Int) ≤ (z2 : Int) := by omega
            have hgx := get_last t2 r2 c2 hrc m hm
            have HX2 := Lib.hid (show (mkS t2).extract 0 m = mkS r2 by rw [hrc, hm]; exact drop_last r2 c2)
            have hbl2 := fun W => blank_v c2 W
            have HLT2 := Lib.hid (show m < z2 by omega)
            have HMR := Lib.hid hm
            cases hb2 : blank c2 with
            | true =>
              rw [hb2] at hbl2
              have HB2 := Lib.hid hbl2
              have HF2 := Lib.hid (show rear r2 = trim l by rw [← hf2.out.2, hrc, rear_snoc, hb2]; rfl)
              have HR2 := Lib.hid (show r2.length ≤ 2000000 by omega)
              clear hf2 hbl2 htl2 hzm hb2 hrc hm
              go_wp2_with (go_at_call 36; (with_reducible refine (HB2.out _).mono ?_); rintro e w5 ⟨rfl, rfl⟩)
              rw [HX2.out]
              refine ⟨⟨r2, rfl, by first | rfl | trivial, Lib.hid ⟨HR2.out, HF2.out⟩⟩, ?_⟩
              have := HLT2.out
              simp only [szOf, hz2, mkS_size]
              rw [← HMR.out]
              exact this
            | false =>
              rw [hb2] at hbl2
              have HB2 := Lib.hid hbl2
              clear hbl2 HX2 HLT2 HMR hm
              rcases nil_or t2 with h0 | ⟨c, r, hcr2⟩
              · exact absurd (h0.symm.trans hrc) (by simp)
              · have hg1 : ∀ h, (mkS t2)[0]'h = c := by have := hcr2; subst this; intro h; rfl
                have HX1 := Lib.hid (show (mkS t2).extract 1 z2 = mkS r by rw [← hz2, drop_text, hcr2]; rfl)
                by_cases h43 : c = 43
                · have e1 : ((c.toNat : Int) == 43) = true := by rw [h43]; rfl
                  have HD0 := Lib.hid (fun W => digits_v r (by rw [hcr2] at htl2; simp at htl2; omega) W)
                  have hlt := fun n => num_lt (l := r) (n := n)
                  have hnv := numV_of l
                  rw [← hf2.out.2] at hnv
                  rw [show rear t2 = t2 by rw [hrc, rear_snoc, hb2]; rfl] at hnv
                  rw [hcr2] at hnv
                  unfold numT at hnv
                  simp only [h43, if_true] at hnv
                  obtain ⟨q, hq⟩ : ∃ q, q = num r := ⟨_, rfl⟩
                  rw [← hq] at HD0 hlt hnv
                  obtain ⟨a, ha⟩ : ∃ a : Int, a = ((q.getD 0 : Nat) : Int) := ⟨_, rfl⟩
                  obtain ⟨ok, hok⟩ : ∃ ok : Bool, ok = q.isSome := ⟨_, rfl⟩
                  have ha0 : 0 ≤ a := by omega
                  have ha1 : a < 9223372036854775808 := by
                    rw [ha]
                    cases q with
                    | none => simp
                    | some n => have := hlt n rfl; simp; omega
                  have HR := Lib.hid (show numI (numV l) = .tuple #[.int .i64 a, .bool ok] by rw [hnv, hok, ha]; cases q <;> rfl)
                  unfold numR at HD0
                  rw [← ha, ← hok] at HD0
                  have HD := HD0
                  clear h43
                  clear hf2 hb2 hrc hcr2 hlt hnv hq ha hok HD0 hzm htl2
                  go_wp2_with (first
                    | (go_at_call 36; (with_reducible refine (HB2.out _).mono ?_); rintro e w5 ⟨rfl, rfl⟩)
                    | (go_at_call 37; (try rw [HX1.out]); (with_reducible refine (HD.out _).mono ?_); rintro e w6 ⟨rfl, rfl⟩))
                  go_ret2
                  rw [HR.out]
                  exact ⟨rfl, by first | rfl | trivial⟩
                · have e1 : ((c.toNat : Int) == 43) = false := by rw [beq_eq_false_iff_ne]; intro e; exact h43 (UInt8.toNat_inj.1 (by have : (43 : UInt8).toNat = 43 := rfl; omega))
                  by_cases h45 : c = 45
                  · have e2 : ((c.toNat : Int) == 45) = true := by rw [h45]; rfl
                    have HD0 := Lib.hid (fun W => digits_v r (by rw [hcr2] at htl2; simp at htl2; omega) W)
                    have hlt := fun n => num_lt (l := r) (n := n)
                    have hnv := numV_of l
                    rw [← hf2.out.2] at hnv
                    rw [show rear t2 = t2 by rw [hrc, rear_snoc, hb2]; rfl] at hnv
                    rw [hcr2] at hnv
                    unfold numT at hnv
                    simp only [h45, if_true] at hnv
                    obtain ⟨q, hq⟩ : ∃ q, q = num r := ⟨_, rfl⟩
                    rw [← hq] at HD0 hlt hnv
                    obtain ⟨a, ha⟩ : ∃ a : Int, a = ((q.getD 0 : Nat) : Int) := ⟨_, rfl⟩
                    obtain ⟨ok, hok⟩ : ∃ ok : Bool, ok = q.isSome := ⟨_, rfl⟩
                    have ha0 : 0 ≤ a := by omega
                    have ha1 : a < 9223372036854775808 := by
                      rw [ha]
                      cases q with
                      | none => simp
                      | some n => have := hlt n rfl; simp; omega
                    have HR := Lib.hid (show numI (numV l) = .tuple #[.int .i64 (-a), .bool ok] by rw [hnv, hok, ha]; cases q <;> rfl)
                    unfold numR at HD0
                    rw [← ha, ← hok] at HD0
                    have HD := HD0
                    clear h43 h45
                    clear hf2 hb2 hrc hcr2 hlt hnv hq ha hok HD0 hzm htl2
                    go_wp2_with (first
                      | (go_at_call 36; (with_reducible refine (HB2.out _).mono ?_); rintro e w5 ⟨rfl, rfl⟩)
                      | (go_at_call 37; (try rw [HX1.out]); (with_reducible refine (HD.out _).mono ?_); rintro e w6 ⟨rfl, rfl⟩))
                    go_ret2
                    rw [HR.out]
                    exact ⟨rfl, by first | rfl | trivial⟩
                  · have e2 : ((c.toNat : Int) == 45) = false := by rw [beq_eq_false_iff_ne]; intro e; exact h45 (UInt8.toNat_inj.1 (by have : (45 : UInt8).toNat = 45 := rfl; omega))
                    have HD0 := Lib.hid (fun W => digits_v (c :: r) (by rw [hcr2] at htl2; exact htl2) W)
                    have hlt := fun n => num_lt (l := (c :: r)) (n := n)
                    have hnv := numV_of l
                    rw [← hf2.out.2] at hnv
                    rw [show rear t2 = t2 by rw [hrc, rear_snoc, hb2]; rfl] at hnv
                    rw [hcr2] at hnv
                    unfold numT at hnv
                    simp only [h43, h45, if_false] at hnv
                    obtain ⟨q, hq⟩ : ∃ q, q = num (c :: r) := ⟨_, rfl⟩
                    rw [← hq] at HD0 hlt hnv
                    obtain ⟨a, ha⟩ : ∃ a : Int, a = ((q.getD 0 : Nat) : Int) := ⟨_, rfl⟩
                    obtain ⟨ok, hok⟩ : ∃ ok : Bool, ok = q.isSome := ⟨_, rfl⟩
                    have ha0 : 0 ≤ a := by omega
                    have ha1 : a < 9223372036854775808 := by
                      rw [ha]
                      cases q with
                      | none => simp
                      | some n => have := hlt n rfl; simp; omega
                    rw [← hcr2] at HD0
                    have HR := Lib.hid (show numI (numV l) = .tuple #[.int .i64 a, .bool ok] by rw [hnv, hok, ha]; cases q <;> rfl)
                    unfold numR at HD0
                    rw [← ha, ← hok] at HD0
                    have HD := HD0
                    clear h43 h45
                    clear hf2 hb2 hrc hcr2 hlt hnv hq ha hok HD0 hzm htl2
                    go_wp2_with (first
                      | (go_at_call 36; (with_reducible refine (HB2.out _).mono ?_); rintro e w5 ⟨rfl, rfl⟩)
                      | (go_at_call 37; (with_reducible refine (HD.out _).mono ?_); rintro e w6 ⟨rfl, rfl⟩))
                    go_ret2
                    rw [HR.out]
                    exact ⟨rfl, by first | rfl | trivial⟩
end Ar
end Go.Proofs.YtjidclefpmcgoaaDoor
