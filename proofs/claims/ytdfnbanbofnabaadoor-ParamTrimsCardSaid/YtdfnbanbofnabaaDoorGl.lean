/- reach: how far runs, with stars between, tell a text. No premises. -/
import Derived.Test.YtdfnbanbofnabaaDoorGk
namespace Go.Proofs.YtdfnbanbofnabaaDoor
open Go.RowKit Go.Maps
namespace Gs
/-- A slice of slices of signs. -/
def RdR (w : World) (A : Option Addr) (n : Nat) (ls : List (List Gl.Sg)) : Prop :=
  ls.length = n ∧ ∀ (j : Nat) (hj : j < ls.length), ∃ ad A' n' c', A = some ad ∧ ad.block < w.heap.size ∧ w.cell? (ad.add j) = some (.slice A' n' c') ∧ n' ≤ 100000 ∧ RdS w A' n' ls[j]
theorem RdR.later {w w' : World} {A : Option Addr} {n : Nat} {ls : List (List Gl.Sg)} (h : RdR w A n ls) (hl : Later w w') : RdR w' A n ls := by
  refine ⟨h.1, fun j hj => ?_⟩
  obtain ⟨ad, A', n', c', rfl, h1, h2, h3, h4⟩ := h.2 j hj
  exact ⟨ad, A', n', c', rfl, Nat.lt_of_lt_of_le h1 hl.size, (hl.cell (by rw [block_add]; exact h1)).trans h2, h3, h4.later hl⟩
set_option maxRecDepth 100000 in
set_option maxHeartbeats 3200000 in
theorem reach_v (r0 : List Gl.Sg) (rest : List (List Gl.Sg)) (s : L) (l : Bool) (A : Option Addr) (n c : Nat) (w : World) (hr : RdR w A n (r0 :: rest)) (hf : ∀ q ∈ r0 :: rest, Gl.Free q) (hnc : n ≤ c) (hn : n ≤ 100000) (hs : s.length ≤ 100000) : Calls Tryd.prog 21 #[.slice A n c, .string (mkS s), .bool l] w fun e w' => ∃ v, e = .returned (.int .i64 (ov v)) ∧ Gl.Best l (Gl.QB (r0 ++ Gl.tailS rest) s) v ∧ Later w w' := by
  have hst : (mkS s).size = s.length := mkS_size s
  obtain ⟨ad, A0, n0, c0, rfl, hb0, hc0, hn0, hs0⟩ := hr.2 0 (by simp)
  rw [show (ad.add 0) = ad by simp [Addr.add]] at hc0
  have hlen : n = rest.length + 1 := by have := hr.1; simpa using this.symm
  subst hlen
  have hc1 : 1 ≤ c := by omega
  have HF0 := Lib.hid (hf r0 (List.mem_cons_self ..))
  have HFR := Lib.hid (fun q hq => hf q (List.mem_cons_of_mem _ hq))
  have hR : (∀ W, Later w W → ∀ (k : Nat) (hk : k < rest.length), ∃ A' n' c', W.cell? ⟨ad.block, ad.off + 1 + k, none⟩ = some (.slice A' n' c') ∧ n' ≤ 100000 ∧ RdS W A' n' rest[k]) := fun W hl k hk => by
    obtain ⟨ad', A', n', c', e1, h1, h2, h3, h4⟩ := (hr.later hl).2 (k + 1) (by simpa using hk)
    injection e1 with e1
    subst e1
    refine ⟨A', n', c', ?_, h3, h4⟩
    rw [← h2]
    congr 1
    simp [Addr.add]
    omega
  have HR := Lib.hid hR
  have HB := Lib.hid (fun W (h : Later w W) => begins_v r0 s A0 n0 c0 W (hs0.later h) hn0 hs)
  have HL0 := Lib.hid (show r0.length = n0 from hs0.len)
  have HS := Lib.hid hst
  obtain ⟨R, hRR⟩ : ∃ R, R = rest.length := ⟨_, rfl⟩
  rw [← hRR] at hn hnc ⊢
  have HRR := Lib.hid hRR
  have hsi : ((mkS s).size : Int) = (s.length : Int) := by omega
  clear hr hf hRR hst hs0 hR
  have hq1 : ∀ nq, Later w (w.drewN nq) := fun nq => ⟨rfl, rfl, rfl, Nat.le_refl _, fun _ _ => rfl⟩
  cases hb : Gl.bg r0 s with
  | false =>
    have hcon := HB.out
    rw [hb] at hcon
    have HC := Lib.hid hcon
    have HBF := Lib.hid hb
    have HQ1 := Lib.hid hq1
    clear hcon hb hq1
    go_enter Tryd.func21, Tryd.ntmps21
    go_wp2_with fail
    go_quiet (fail)
    go_wp2_with (first
      | (go_at_call 28; (with_reducible refine (HC.out _ (HQ1.out _)).mono ?_); rintro e w3 ⟨rfl, hl3⟩; (have HL3 := Lib.hid ((HQ1.out _).trans hl3)); clear hl3))
    all_goals
      go_ret
      exact ⟨none, rfl, Gl.best_not HF0.out HBF.out, HL3.out⟩
  | true =>
    have hcon := HB.out
    rw [hb] at hcon
    have HC := Lib.hid hcon
    have hnl := Gl.bg_len _ _ hb
    have h0l := HL0.out
    have hn0s : n0 ≤ s.length := by omega
    have HBT := Lib.hid (fun v (hv : Gl.Best l (Gl.PB (rest.drop 0) (s.drop n0)) v) => (by rw [List.drop_zero] at hv; have := Gl.best_first HF0.out hb (by rw [h0l]; exact hv); rwa [h0l] at this : Gl.Best l (Gl.QB (r0 ++ Gl.tailS rest) s) (v.map (· + n0))))
    have HQ1 := Lib.hid hq1
    clear hcon hb hq1 hnl h0l
    by_cases hR0 : R = 0
    · subst hR0
      by_cases hc11 : c = 1
      · subst hc11
        go_enter Tryd.func21, Tryd.ntmps21
        go_wp2_with fail
        go_quiet (fail)
        go_wp2_with (first
          | (go_at_call 28; (with_reducible refine (HC.out _ (HQ1.out _)).mono ?_); rintro e w3 ⟨rfl, hl3⟩; (have HL3 := Lib.hid ((HQ1.out _).trans hl3)); clear hl3))
        go_loopw [9, 26] (fun s9 i wr => s9 = .int .i64 (n0 : Int) ∧ i = .int .i64 0 ∧ Later w wr) (fun _ i _ => 0)
        case atStart => exact ⟨rfl, rfl, HL3.out⟩
        case round =>
          obtain ⟨rfl, rfl, hlr⟩ := hrel
          have HLR := Lib.hid hlr
          clear hlr
          go_wp2
          go_ret
          have hz : rest = [] := List.eq_nil_of_length_eq_zero HRR.out.symm
          refine ⟨some n0, rfl, ?_, HLR.out⟩
          have := HBT.out (some 0) (by rw [hz]; exact ⟨Gl.pb_nil.2 rfl, fun m hm => by rw [Gl.pb_nil.1 hm]; cases l <;> simp⟩)
          simpa using this
      · have hc12 := hc11
        go_enter Tryd.func21, Tryd.ntmps21
        go_wp2_with fail
        go_quiet (fail)
        go_wp2_with (first
          | (go_at_call 28; (with_reducible refine (HC.out _ (HQ1.out _)).mono ?_); rintro e w3 ⟨rfl, hl3⟩; (have HL3 := Lib.hid ((HQ1.out _).trans hl3)); clear hl3))
        go_loopw [9, 26] (fun s9 i wr => s9 = .int .i64 (n0 : Int) ∧ i = .int .i64 0 ∧ Later w wr) (fun _ i _ => 0)
        case atStart => exact ⟨rfl, rfl, HL3.out⟩
        case round =>
          obtain ⟨rfl, rfl, hlr⟩ := hrel
          have HLR := Lib.hid hlr
          clear hlr
          go_wp2
          go_ret
          have hz : rest = [] := List.eq_nil_of_length_eq_zero HRR.out.symm
          refine ⟨some n0, rfl, ?_, HLR.out⟩
          have := HBT.out (some 0) (by rw [hz]; exact ⟨Gl.pb_nil.2 rfl, fun m hm => by rw [Gl.pb_nil.1 hm]; cases l <;> simp⟩)
          simpa using this
    · have hcc : ¬ (c = 1) := by omega
      go_enter Tryd.func21, Tryd.ntmps21
      go_wp2_with fail
      go_quiet (fail)
      go_wp2_with (first
        | (go_at_call 28; (with_reducible refine (HC.out _ (HQ1.out _)).mono ?_); rintro e w3 ⟨rfl, hl3⟩; (have HL3 := Lib.hid ((HQ1.out _).trans hl3)); clear hl3))
      go_loopw [9, 26] (fun s9 i wr => ∃ k a : Nat, i = .int .i64 (k : Int) ∧ s9 = .int .i64 (a : Int) ∧ k ≤ R ∧ a ≤ s.length ∧ (∀ v, Gl.Best l (Gl.PB (rest.drop k) (s.drop a)) v → Gl.Best l (Gl.QB (r0 ++ Gl.tailS rest) s) (v.map (· + a))) ∧ Later w wr) (fun _ i _ => R - (intOf i).toNat)
      case atStart => exact ⟨0, n0, rfl, rfl, by omega, hn0s, HBT.out, HL3.out⟩
      case round =>
        obtain ⟨k, a, rfl, rfl, hk, ha, hinv, hlr⟩ := hrel
        by_cases hkR : k < R
        · have hkr : k < rest.length := by have := HRR.out; omega
          obtain ⟨A1, n1, c1, hcell, hn1, hs1⟩ := HR.out wr hlr k hkr
          obtain ⟨r, hrr⟩ : ∃ r, r = rest[k] := ⟨_, rfl⟩
          rw [← hrr] at hs1
          have HDR := Lib.hid (show rest.drop k = r :: rest.drop (k + 1) by rw [hrr]; exact List.drop_eq_getElem_cons hkr)
          have HFRr := Lib.hid (HFR.out r (by rw [hrr]; exact List.getElem_mem _))
          have HRL := Lib.hid hs1.len
          have hkR2 : (k : Int) < (R : Int) := by omega
          have ha0 : (0 : Int) ≤ (a : Int) := by omega
          have ha1 : (a : Int) ≤ ((mkS s).size : Int) := by omega
          have ha2 : (a : Int) ≤ (s.length : Int) := by omega
          have HFD := Lib.hid (fun (fl : Bool) => (by rw [drop_text]; exact find_v r (s.drop a) fl A1 n1 c1 wr hs1 hn1 (by rw [List.length_drop]; omega) : Calls Tryd.prog 29 #[.slice A1 n1 c1, .string ((mkS s).extract a (mkS s).size), .bool fl] wr fun e w' => ∃ v, e = .returned (.int .i64 (ov v)) ∧ Gl.Best fl (Gl.Occ r (s.drop a)) v ∧ Later wr w'))
          have HINV := Lib.hid hinv
          have HLR := Lib.hid hlr
          clear hinv hlr hrr hs1
          cases l with
          | false =>
            have hfd := HFD.out false
            go_wp2_with (first
              | (go_at_call 29; (with_reducible refine hfd.mono ?_); rintro e w4 ⟨v, rfl, hv, hl4⟩; (have HL4 := Lib.hid (HLR.out.trans hl4)); (have HV := Lib.hid hv); clear hl4 hv; obtain ⟨z, hz⟩ : ∃ z, z = ov v := ⟨_, rfl⟩; rw [← hz]; (have HZ := Lib.hid hz); clear hz hfd; by_cases hzn : z < 0))
            · go_ret
              have hv := HV.out
              have hvn : v = none := by
                cases v with
                | none => rfl
                | some p => (have := HZ.out; simp only [ov] at this; omega)
              refine ⟨none, ?_, ?_, HL4.out⟩
              · rfl
              · have := HINV.out none (by rw [HDR.out]; rw [hvn] at hv; exact Gl.best_none HFRr.out hv)
                simpa using this
            · obtain ⟨p, hp⟩ : ∃ p, v = some p := by
                cases v with
                | none => (have := HZ.out; simp only [ov] at this; omega)
                | some p => exact ⟨p, rfl⟩
              have hzp : z = (p : Int) := by rw [HZ.out, hp]; rfl
              have hoc := HV.out
              rw [hp] at hoc
              have hol := hoc.1.1
              rw [List.length_drop, HRL.out] at hol
              have hz1 : z ≤ 100000 := by omega
              have HZP := Lib.hid hzp
              have HOC := Lib.hid hoc
              have HPL := Lib.hid hol
              clear hzp hoc hol
              go_wp2_with fail
              go_roundw
              case rel =>
                refine ⟨k + 1, a + (p + n1), by go_num, by (have h1 := HZP.out; have h2 := HPL.out; rw [w64 (z + (n1 : Int)) (by omega), w64 _ (by omega)]; exact int_eq (by omega)), by omega, by (have h2 := HPL.out; omega), fun v' hv' => ?_, HL4.out⟩
                have hoc := HOC.out
                have hrl := HRL.out
                have hd : (s.drop a).drop (p + r.length) = s.drop (a + (p + n1)) := by rw [List.drop_drop, hrl]
                have h3 : Gl.Best false (Gl.PB (rest.drop k) (s.drop a)) (v'.map (· + (p + r.length))) := by
                  rw [HDR.out]
                  rw [← hd] at hv'
                  cases hdd : rest.drop (k + 1) with
                  | nil => rw [hdd] at hv'; exact Gl.best_last HFRr.out hoc hv'
                  | cons r2 rest2 => rw [hdd] at hv'; exact Gl.best_more HFRr.out hoc hv'
                have h4 := HINV.out _ h3
                rw [hrl] at h4
                have h5 : v'.map (· + (a + (p + n1))) = (v'.map (· + (p + n1))).map (· + a) := by
                  cases v' with
                  | none => rfl
                  | some y => simp; omega
                rw [h5]
                exact h4
              case measure => simp [intOf]; omega
          | true =>
            by_cases hkl : k + 1 = R
            · have hkl2 : ((k : Int) == (R : Int) - 1) = true := by simp; omega
              have hfd := HFD.out true
              go_wp2_with (first
                | (go_at_call 29; (with_reducible refine hfd.mono ?_); rintro e w4 ⟨v, rfl, hv, hl4⟩; (have HL4 := Lib.hid (HLR.out.trans hl4)); (have HV := Lib.hid hv); clear hl4 hv; obtain ⟨z, hz⟩ : ∃ z, z = ov v := ⟨_, rfl⟩; rw [← hz]; (have HZ := Lib.hid hz); clear hz hfd; by_cases hzn : z < 0))
              · go_ret
                have hv := HV.out
                have hvn : v = none := by
                  cases v with
                  | none => rfl
                  | some p => (have := HZ.out; simp only [ov] at this; omega)
                refine ⟨none, ?_, ?_, HL4.out⟩
                · rfl
                · have := HINV.out none (by rw [HDR.out]; rw [hvn] at hv; exact Gl.best_none HFRr.out hv)
                  simpa using this
              · obtain ⟨p, hp⟩ : ∃ p, v = some p := by
                  cases v with
                  | none => (have := HZ.out; simp only [ov] at this; omega)
                  | some p => exact ⟨p, rfl⟩
                have hzp : z = (p : Int) := by rw [HZ.out, hp]; rfl
                have hoc := HV.out
                rw [hp] at hoc
                have hol := hoc.1.1
                rw [List.length_drop, HRL.out] at hol
                have hz1 : z ≤ 100000 := by omega
                have HZP := Lib.hid hzp
                have HOC := Lib.hid hoc
                have HPL := Lib.hid hol
                clear hzp hoc hol
                go_wp2_with fail
                go_roundw
                case rel =>
                  refine ⟨k + 1, a + (p + n1), by go_num, by (have h1 := HZP.out; have h2 := HPL.out; rw [w64 (z + (n1 : Int)) (by omega), w64 _ (by omega)]; exact int_eq (by omega)), by omega, by (have h2 := HPL.out; omega), fun v' hv' => ?_, HL4.out⟩
                  have hoc := HOC.out
                  have hrl := HRL.out
                  have hd : (s.drop a).drop (p + r.length) = s.drop (a + (p + n1)) := by rw [List.drop_drop, hrl]
                  have h3 : Gl.Best true (Gl.PB (rest.drop k) (s.drop a)) (v'.map (· + (p + r.length))) := by
                    rw [HDR.out]
                    rw [← hd] at hv'
                    have hdd : rest.drop (k + 1) = [] := by rw [List.drop_eq_nil_iff]; have := HRR.out; omega
                    rw [hdd] at hv' ⊢
                    exact Gl.best_last HFRr.out hoc hv'
                  have h4 := HINV.out _ h3
                  rw [hrl] at h4
                  have h5 : v'.map (· + (a + (p + n1))) = (v'.map (· + (p + n1))).map (· + a) := by
                    cases v' with
                    | none => rfl
                    | some y => simp; omega
                  rw [h5]
                  exact h4
                case measure => simp [intOf]; omega
            · have hkl2 : ((k : Int) == (R : Int) - 1) = false := by simp; omega
              have hfd := HFD.out false
              go_wp2_with (first
                | (go_at_call 29; (with_reducible refine hfd.mono ?_); rintro e w4 ⟨v, rfl, hv, hl4⟩; (have HL4 := Lib.hid (HLR.out.trans hl4)); (have HV := Lib.hid hv); clear hl4 hv; obtain ⟨z, hz⟩ : ∃ z, z = ov v := ⟨_, rfl⟩; rw [← hz]; (have HZ := Lib.hid hz); clear hz hfd; by_cases hzn : z < 0))
              · go_ret
                have hv := HV.out
                have hvn : v = none := by
                  cases v with
                  | none => rfl
                  | some p => (have := HZ.out; simp only [ov] at this; omega)
                refine ⟨none, ?_, ?_, HL4.out⟩
                · rfl
                · have := HINV.out none (by rw [HDR.out]; rw [hvn] at hv; exact Gl.best_none HFRr.out hv)
                  simpa using this
              · obtain ⟨p, hp⟩ : ∃ p, v = some p := by
                  cases v with
                  | none => (have := HZ.out; simp only [ov] at this; omega)
                  | some p => exact ⟨p, rfl⟩
                have hzp : z = (p : Int) := by rw [HZ.out, hp]; rfl
                have hoc := HV.out
                rw [hp] at hoc
                have hol := hoc.1.1
                rw [List.length_drop, HRL.out] at hol
                have hz1 : z ≤ 100000 := by omega
                have HZP := Lib.hid hzp
                have HOC := Lib.hid hoc
                have HPL := Lib.hid hol
                clear hzp hoc hol
                go_wp2_with fail
                go_roundw
                case rel =>
                  refine ⟨k + 1, a + (p + n1), by go_num, by (have h1 := HZP.out; have h2 := HPL.out; rw [w64 (z + (n1 : Int)) (by omega), w64 _ (by omega)]; exact int_eq (by omega)), by omega, by (have h2 := HPL.out; omega), fun v' hv' => ?_, HL4.out⟩
                  have hoc := HOC.out
                  have hrl := HRL.out
                  have hd : (s.drop a).drop (p + r.length) = s.drop (a + (p + n1)) := by rw [List.drop_drop, hrl]
                  have h3 : Gl.Best true (Gl.PB (rest.drop k) (s.drop a)) (v'.map (· + (p + r.length))) := by
                    rw [HDR.out]
                    rw [← hd] at hv'
                    obtain ⟨r2, rest2, hdd⟩ : ∃ r2 rest2, rest.drop (k + 1) = r2 :: rest2 := by
                      cases h : rest.drop (k + 1) with
                      | nil => rw [List.drop_eq_nil_iff] at h; have := HRR.out; omega
                      | cons r2 rest2 => exact ⟨r2, rest2, rfl⟩
                    rw [hdd] at hv' ⊢
                    exact Gl.best_more HFRr.out hoc hv'
                  have h4 := HINV.out _ h3
                  rw [hrl] at h4
                  have h5 : v'.map (· + (a + (p + n1))) = (v'.map (· + (p + n1))).map (· + a) := by
                    cases v' with
                    | none => rfl
                    | some y => simp; omega
                  rw [h5]
                  exact h4
                case measure => simp [intOf]; omega
        · have hkR2 : ¬ ((k : Int) < (R : Int)) := by omega
          have HINV := Lib.hid hinv
          have HLR := Lib.hid hlr
          clear hinv hlr
          go_wp2
          go_ret
          have hz : rest.drop k = [] := by rw [List.drop_eq_nil_iff]; have := HRR.out; omega
          refine ⟨some a, rfl, ?_, HLR.out⟩
          have := HINV.out (some 0) (by rw [hz]; exact ⟨Gl.pb_nil.2 rfl, fun m hm => by rw [Gl.pb_nil.1 hm]; cases l <;> simp⟩)
          simpa using this
end Gs
end Go.Proofs.YtdfnbanbofnabaaDoor
