/- value, Ifs, between. No premises. -/
import Derived.Test.YtmijploffdoenaaDoorNwb
import Derived.Test.YtmijploffdoenaaDoorNh
namespace Go.Proofs.YtmijploffdoenaaDoor
open Go.RowKit Go.Maps
namespace En
set_option maxRecDepth 100000 in
set_option maxHeartbeats 3200000 in
theorem value_v (va : Value) (e : E) (s : B) (W : World) (h : RdE W va e) : Calls Tryd.prog 33 #[va, .string (mkS s)] W fun x W' => x = .returned (tellV (told (var e.vars s))) ∧ Later W W' := by
  obtain ⟨v0, A, n, c, rfl, hv, _, _, _⟩ := h
  obtain ⟨Av, cv, rfl, hcv, hcw, _⟩ := hv.le
  obtain ⟨st, hst⟩ : ∃ st : Int, st = (e.status : Int) := ⟨_, rfl⟩
  obtain ⟨fl, hfl⟩ : ∃ fl, fl = mkS e.flags := ⟨_, rfl⟩
  obtain ⟨vs, hvs⟩ : ∃ vs, vs = e.vars := ⟨_, rfl⟩
  rw [← hst, ← hfl]
  rw [← hvs] at hv hcv ⊢
  have HV := Lib.hid hv
  have hlen : vs.length ≤ 9223372036854775807 := by omega
  have HLA := Lib.hid (Later.alloc W (.cells #[.slice Av vs.length cv, .slice A n c, .int .i64 st, .string fl] 28))
  have HNA := Lib.hid (heap_alloc_new W (.cells #[.slice Av vs.length cv, .slice A n c, .int .i64 st, .string fl] 28))
  clear hv hcv hcw hst hfl hvs
  go_enter Tryd.func33, Tryd.ntmps33
  go_wp2_with fail
  go_loopw [11] (fun s11 wr => ∃ i : Nat, s11 = .int .i64 (i : Int) ∧ i ≤ vs.length ∧ (∀ j (h : j < vs.length), j < i → vs[j].1 ≠ s) ∧ Later (W.alloc (.cells #[.slice Av vs.length cv, .slice A n c, .int .i64 st, .string fl] 28)) wr) (fun i _ => vs.length - (intOf i).toNat)
  case atStart => exact ⟨0, rfl, Nat.zero_le _, fun j _ hj => absurd hj (Nat.not_lt_zero _), Later.refl _⟩
  case round =>
    obtain ⟨i, rfl, hi, hno, hlw⟩ := hrel
    have HNO := Lib.hid hno
    have HLW := Lib.hid (HLA.out.trans hlw)
    have HL1 := Lib.hid hlw
    clear hno hlw
    have hi0 : (0 : Int) ≤ (i : Int) := by omega
    by_cases hlt : i < vs.length
    · have hi1 : (i : Int) < (vs.length : Int) := by omega
      obtain ⟨g, o, c', e1, hg, hcc⟩ := HV.out.at_ (by omega)
      injection e1 with e1 _ e2
      subst e1 e2
      obtain ⟨x, hx⟩ : ∃ x, x = vs[i] := ⟨_, rfl⟩
      have p1 := (HLW.out.cell (p := ⟨g, o + i * 2, none⟩) hg).trans (hcc i hlt).1
      have p2 := (HLW.out.cell (p := ⟨g, o + i * 2 + 1, none⟩) hg).trans (hcc i hlt).2
      rw [← hx] at p1 p2
      have HLD := Lib.hid (load_mid 54 _ Tryd.underlying54 (by kernel_rfl) p1 p2)
      have HN3 := Lib.hid (heap_alloc_new wr (.cells #[.string (mkS x.1), .string (mkS x.2)] 54))
      have HL3 := Lib.hid (Later.alloc wr (.cells #[.string (mkS x.1), .string (mkS x.2)] 54))
      have HX := Lib.hid hx
      have HAG := Lib.hid (fun W => against_v x.1 x.2 s W)
      obtain ⟨k, hk⟩ : ∃ k, k = Lib.compareBytes x.1 s := ⟨_, rfl⟩
      rw [← hk] at HAG
      have HK := Lib.hid hk
      clear hcc hg hx hk p1 p2
      by_cases hk0 : k = 0
      · have f1 : (k == 0) = true := by simpa using hk0
        have HE := Lib.hid ((cmp_eq x.1 s).1 (HK.out.symm.trans hk0))
        clear hk0
        go_wp2_with (first
          | (refine wpList_loadRun rfl 54 (.tmp 13) rfl _ _ rfl HLD.out ?_)
          | (go_at_call 27; (with_reducible refine (HAG.out _).mono ?_); rintro x9 w5 ⟨rfl, hl5⟩; (have HL5 := Lib.hid (HLW.out.trans (HL3.out.trans hl5))); (have q1 : w5.cell? ⟨wr.heap.size, 1, none⟩ = some (.string (mkS x.2)) := (cell_row (later_cells hl5 HN3.out) 1).1); clear hl5))
        go_ret2
        have hva : var vs s = some x.2 := by rw [HX.out]; exact var_at hlt HNO.out (by rw [← HX.out]; exact HE.out)
        exact ⟨by rw [hva]; rfl, HL5.out⟩
      · have f1 : (k == 0) = false := by simpa using hk0
        have HE := Lib.hid (fun e2 => hk0 (HK.out.trans ((cmp_eq x.1 s).2 e2)))
        clear hk0
        go_wp2_with (first
          | (refine wpList_loadRun rfl 54 (.tmp 13) rfl _ _ rfl HLD.out ?_)
          | (go_at_call 27; (with_reducible refine (HAG.out _).mono ?_); rintro x9 w5 ⟨rfl, hl5⟩; (have HL5 := Lib.hid (HL1.out.trans (HL3.out.trans hl5))); clear hl5))
        go_roundw
        case rel =>
          refine ⟨i + 1, by go_num, by omega, ?_, HL5.out⟩
          intro j hj hji
          rcases Nat.lt_succ_iff_lt_or_eq.1 hji with h1 | rfl
          · exact HNO.out j hj h1
          · rw [← HX.out]; exact HE.out
        case measure => simp [intOf]; omega
    · have hva : var vs s = none := none_of fun j hj _ => HNO.out j hj (by omega)
      have HVA := Lib.hid hva
      clear hva
      go_wp2
      go_ret2
      exact ⟨by rw [HVA.out]; rfl, HLW.out⟩
set_option maxRecDepth 100000 in
set_option maxHeartbeats 3200000 in
theorem ifs_v (va : Value) (e : E) (W : World) (h : RdE W va e) : Calls Tryd.prog 17 #[va] W fun x W' => x = .returned (.string (mkS (ifs e.vars))) ∧ Later W W' := by
  have HVA := Lib.hid (show ∀ W', Later W W' → Calls Tryd.prog 33 #[va, .string ⟨#[73, 70, 83]⟩] W' fun x W'' => x = .returned (tellV (told (var e.vars IFS))) ∧ Later W' W'' from fun W' hl => value_v va e IFS W' (h.later hl))
  obtain ⟨v0, A, n, c, rfl, hv, _, _, _⟩ := h
  obtain ⟨Av, cv, rfl, hcv, hcw, _⟩ := hv.le
  obtain ⟨n0, hn0⟩ : ∃ n0, n0 = e.vars.length := ⟨_, rfl⟩
  obtain ⟨st, hst⟩ : ∃ st : Int, st = (e.status : Int) := ⟨_, rfl⟩
  obtain ⟨fl, hfl⟩ : ∃ fl, fl = mkS e.flags := ⟨_, rfl⟩
  rw [← hn0, ← hst, ← hfl] at HVA ⊢
  have HLA := Lib.hid (Later.alloc W (.cells #[.slice Av n0 cv, .slice A n c, .int .i64 st, .string fl] 28))
  have hna := heap_alloc_new W (.cells #[.slice Av n0 cv, .slice A n c, .int .i64 st, .string fl] 28)
  obtain ⟨o, ho⟩ : ∃ o, o = var e.vars IFS := ⟨_, rfl⟩
  rw [← ho] at HVA
  have HO := Lib.hid ho
  clear hv hcv hcw hst hfl hn0 hna ho
  cases o with
  | none =>
    go_enter Tryd.func17, Tryd.ntmps17
    go_wp2_with (go_at_call 33; (with_reducible refine (HVA.out _ HLA.out).mono ?_); rintro x w3 ⟨rfl, hl3⟩; (have HL3 := Lib.hid (HLA.out.trans hl3)); unfold tellV told; dsimp only; clear hl3)
    go_ret
    exact ⟨by unfold ifs; rw [← HO.out]; rfl, HL3.out⟩
  | some t =>
    go_enter Tryd.func17, Tryd.ntmps17
    go_wp2_with (go_at_call 33; (with_reducible refine (HVA.out _ HLA.out).mono ?_); rintro x w3 ⟨rfl, hl3⟩; (have HL3 := Lib.hid (HLA.out.trans hl3)); unfold tellV told; dsimp only; clear hl3)
    go_ret
    exact ⟨by unfold ifs; rw [← HO.out]; rfl, HL3.out⟩
end En
end Go.Proofs.YtmijploffdoenaaDoor
