/- match, Match, Plain. No premises. -/
import Derived.Test.YtjjkeajgcdminaaGo
namespace Go.Proofs.Ytjjkeajgcdminaa
open Go.RowKit Go.Maps
namespace Gl
theorem sgs_len (t m : L) : ∀ (f i : Nat), (sgs t m f i).length ≤ f
  | 0, _ => Nat.le_refl _
  | f + 1, i => by
    unfold sgs
    split
    · have := sgs_len t m f (sgAt t m i).2
      simp; omega
    · simp
theorem sgF_len (t m : L) (i : Nat) : (sgF t m i).length ≤ t.length := sgs_len t m _ _
end Gl
namespace Gs
theorem Own.rdS {w : World} {base : Nat} {v : Value} {g : List Gl.Sg} {xs : List Sv} (h : Own w base v g xs) : ∃ A n c, v = .slice A n c ∧ n ≤ c ∧ (A = none → c = 0) ∧ n = g.length ∧ RdS w A n g := by
  obtain ⟨A, c, rfl, h1, h2, _⟩ := own_map (f := Sv.enc) (xs := xs) (by rw [List.length_map]; exact h.own)
  refine ⟨A, xs.length, c, rfl, h1, fun e => ?_, by rw [← h.sg, List.length_map], ⟨xs, h2, h.ok, h.sg⟩⟩
  subst e
  rcases h.own.2 with ⟨h0, _⟩ | ⟨g', cap, cur, h0, _⟩
  · injection h0
  · injection h0 with h0; cases h0
set_option maxRecDepth 100000 in
theorem match_v (g : List Gl.Sg) (s : L) (A : Option Addr) (n c : Nat) (w : World) (hr : RdR w A n (Gl.runsOf g)) (hnc : n ≤ c) (hn : n ≤ 100000) (hs : s.length ≤ 100000) : Calls Try.prog 18 #[.slice A n c, .string (mkS s)] w fun e w' => e = .returned (.bool (Gl.tb g s)) ∧ Later w w' := by
  obtain ⟨r0, rest, h1, h2, h3⟩ := Gl.runsOf_eq g
  rw [h1] at hr
  have HR := Lib.hid (reach_v r0 rest s true A n c w hr h2 hnc hn hs)
  have hsi : ((mkS s).size : Int) = (s.length : Int) := by rw [mkS_size]
  have H3 := Lib.hid h3
  clear hr h1 h2 h3
  go_enter Try.func18, Try.ntmps18
  go_wp2_with (first
    | (go_at_call 25; (with_reducible refine HR.out.mono ?_); rintro e w3 ⟨v, rfl, hv, hl3⟩; (have HV := Lib.hid hv); (have HL := Lib.hid hl3); clear hv hl3; obtain ⟨z, hz⟩ : ∃ z, z = ov v := ⟨_, rfl⟩; rw [← hz]; (have HZ := Lib.hid hz); clear hz))
  go_ret
  refine ⟨ret_bool ?_, HL.out⟩
  have hv := HV.out
  rw [← H3.out] at hv
  have hb := Gl.best_all hv
  rw [HZ.out]
  cases v with
  | none =>
    have : Gl.tb g s = false := by
      rw [Gl.tb_false]
      intro ht
      have := hb.2 ht
      cases this
    rw [this]
    simp [ov]
  | some p =>
    by_cases hp : p = s.length
    · subst hp
      rw [(Gl.tb_iff g s).2 (hb.1 rfl)]
      simp [ov]
    · have : Gl.tb g s = false := by
        rw [Gl.tb_false]
        intro ht
        have := hb.2 ht
        injection this with this
        exact hp this
      rw [this]
      simp [ov]
      omega
set_option maxRecDepth 100000 in
theorem Match_v (t m s : L) (w : World) (ht : t.length ≤ 4096) (hs : s.length ≤ 100000) : Calls Try.prog 10 #[.agg #[.string (mkS t), .string (mkS m)], .string (mkS s)] w fun e w' => e = .returned (.bool (Gl.tb (Gl.sgF t m 0) s)) ∧ Later w w' := by
  have HS := Lib.hid (fun W => signs_v t m W ht)
  have HL := Lib.hid (Later.alloc w (.cells #[.string (mkS t), .string (mkS m)] 23))
  have HGL := Lib.hid (Gl.sgF_len t m 0)
  obtain ⟨g, hg⟩ : ∃ g, g = Gl.sgF t m 0 := ⟨_, rfl⟩
  rw [← hg] at HS HGL ⊢
  clear hg
  go_enter Try.func10, Try.ntmps10
  go_wp2_with (first
    | (go_at_call 20; (with_reducible refine (HS.out _).mono ?_); rintro e w3 ⟨v, rfl, ⟨xs, hx⟩, hl3⟩; obtain ⟨A, n, c, rfl, hnc, hA, hn, hrs⟩ := hx.rdS; (have HRU := Lib.hid (runs_v g A n c w3 hrs hnc (by have := HGL.out; omega) hA)); (have HL3 := Lib.hid (HL.out.trans hl3)); (have HN := Lib.hid hn); clear hl3 hx hrs hA hnc hn)
    | (go_at_call 19; (with_reducible refine HRU.out.mono ?_); rintro e w4 ⟨A', c', n', rfl, ⟨h1, h2, h3⟩, hl4⟩; (have HMA := Lib.hid (match_v g s A' n' c' w4 h3 h1 (by have := HGL.out; have := HN.out; omega) hs)); (have HL4 := Lib.hid (HL3.out.trans hl4)); clear hl4 h1 h2 h3)
    | (go_at_call 18; (with_reducible refine HMA.out.mono ?_); rintro e w5 ⟨rfl, hl5⟩; (have HL5 := Lib.hid (HL4.out.trans hl5)); clear hl5))
  go_ret
  exact ⟨rfl, HL5.out⟩
/-- Which type a sign is of: what the three tests of Plain tell. -/
structure Ta (x : Sv) (ty : TypeId) (va a b c : Value) (p q r : Bool) : Prop where
  enc : x.enc = .iface ty va
  star : ∀ w, (Instr.typeAssert (.iface ty va) 47 49 true).run Try.prog w = .ok (.tuple #[a, .bool p]) w
  one : ∀ w, (Instr.typeAssert (.iface ty va) 47 50 true).run Try.prog w = .ok (.tuple #[b, .bool q]) w
  set : ∀ w, (Instr.typeAssert (.iface ty va) 47 53 true).run Try.prog w = .ok (.tuple #[c, .bool r]) w
  lit : Gl.isLit x.sg = !(p || q || r)
theorem ta (x : Sv) : ∃ ty va a b c p q r, Ta x ty va a b c p q r := by
  cases x with
  | star => exact ⟨49, .agg #[], .agg #[], .agg #[], .agg #[.bool false, .slice none 0 0], true, false, false, rfl, fun _ => by kernel_rfl, fun _ => by kernel_rfl, fun _ => by kernel_rfl, rfl⟩
  | one => exact ⟨50, .agg #[], .agg #[], .agg #[], .agg #[.bool false, .slice none 0 0], false, true, false, rfl, fun _ => by kernel_rfl, fun _ => by kernel_rfl, fun _ => by kernel_rfl, rfl⟩
  | lit b => exact ⟨72, .int .u8 (b.toNat : Int), .agg #[], .agg #[], .agg #[.bool false, .slice none 0 0], false, false, false, rfl, fun _ => by kernel_rfl, fun _ => by kernel_rfl, fun _ => by kernel_rfl, rfl⟩
  | set t v ms => exact ⟨53, .agg #[.bool t, v], .agg #[], .agg #[], .agg #[.bool t, v], false, false, true, rfl, fun _ => by kernel_rfl, fun _ => by kernel_rfl, fun _ => by kernel_rfl, rfl⟩
set_option maxRecDepth 100000 in
set_option maxHeartbeats 1600000 in
theorem Plain_v (t m : L) (w : World) (ht : t.length ≤ 4096) : Calls Try.prog 12 #[.agg #[.string (mkS t), .string (mkS m)]] w fun e w' => e = .returned (.bool ((Gl.sgF t m 0).all Gl.isLit)) ∧ Later w w' := by
  have HS := Lib.hid (fun W => signs_v t m W ht)
  have HL := Lib.hid (Later.alloc w (.cells #[.string (mkS t), .string (mkS m)] 23))
  have hgl := Gl.sgF_len t m 0
  obtain ⟨g, hg⟩ : ∃ g, g = Gl.sgF t m 0 := ⟨_, rfl⟩
  rw [← hg] at HS hgl ⊢
  clear hg
  go_enter Try.func12, Try.ntmps12
  go_wp2_with (first
    | (go_at_call 20; (with_reducible refine (HS.out _).mono ?_); rintro e w3 ⟨v, rfl, ⟨xs, hx⟩, hl3⟩; obtain ⟨A, n, c, rfl, hnc, hA, hn, hrs⟩ := hx.rdS; (have HRS := Lib.hid hrs); (have HL3 := Lib.hid (HL.out.trans hl3)); (have HN := Lib.hid hn); clear hl3 hx hrs hA hnc hn))
  go_loopw [8] (fun i wr => ∃ k : Nat, i = .int .i64 (k : Int) ∧ k ≤ n ∧ (g.take k).all Gl.isLit = true ∧ wr = w3) (fun i _ => n - (intOf i).toNat)
  case atStart => exact ⟨0, rfl, Nat.zero_le _, rfl, rfl⟩
  case round =>
    obtain ⟨k, rfl, hk, hall, hw⟩ := hrel
    subst hw
    have HA := Lib.hid hall
    clear hall
    by_cases hkn : k < n
    · obtain ⟨ad, x, rfl, hb, hcell, hok, hgk⟩ := HRS.out.at_ hkn
      obtain ⟨ty, va, a, b, c', p, q, r, hta⟩ := ta x
      have h1 := hta.star
      have h2 := hta.one
      have h3 := hta.set
      rw [hta.enc] at hcell
      have HLI := Lib.hid hta.lit
      have HGK := Lib.hid hgk
      have hkn2 : (k : Int) < (n : Int) := by omega
      have hn6 : n ≤ 4096 := by have := HN.out; omega
      clear hok hgk hta
      cases hpq : (p || q || r) with
      | true =>
        have HPQ := Lib.hid hpq
        have hbad : g.all Gl.isLit = false := by
          have h5 := HLI.out
          rw [hpq] at h5
          obtain ⟨h6, h7⟩ := List.getElem?_eq_some_iff.1 HGK.out
          cases h : g.all Gl.isLit with
          | false => rfl
          | true =>
            have := List.all_eq_true.1 h g[k] (List.getElem_mem h6)
            rw [h7, h5] at this
            cases this
        have HBAD := Lib.hid hbad
        clear hbad
        cases p <;> cases q <;> cases r <;> simp at hpq
        all_goals
          clear hpq
          go_wp2
          go_ret
          exact ⟨ret_bool HBAD.out.symm, HL3.out⟩
      | false =>
        have h5 := HLI.out
        rw [hpq] at h5
        have HLT := Lib.hid h5
        clear h5
        obtain ⟨rfl, rfl, rfl⟩ : p = false ∧ q = false ∧ r = false := by cases p <;> cases q <;> cases r <;> simp at hpq ⊢
        clear hpq
        go_wp2_with fail
        go_roundw
        case rel =>
          refine ⟨k + 1, by go_num, by omega, ?_, trivial⟩
          obtain ⟨h6, h7⟩ := List.getElem?_eq_some_iff.1 HGK.out
          rw [List.take_succ_eq_append_getElem h6, List.all_append, HA.out, h7]
          simp [HLT.out]
        case measure => simp [intOf]; omega
    · have hkn2 : ¬ ((k : Int) < (n : Int)) := by omega
      have HAA := Lib.hid (show g.all Gl.isLit = true by
        have h1 := HA.out
        rwa [List.take_of_length_le (by have := HN.out; omega)] at h1)
      go_wp2
      go_ret
      exact ⟨ret_bool HAA.out.symm, HL3.out⟩
end Gs
end Go.Proofs.Ytjjkeajgcdminaa
