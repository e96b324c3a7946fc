/- A name's number. No premises. -/
import Derived.Test.YtcidklbeafjmoaaGreatDoorAj
namespace Go.Proofs.YtcidklbeafjmoaaGreatDoor
open Go.RowKit Go.Maps
namespace Ar
theorem flat_at : ∀ (vs : Vars) (i : Nat) (p : L × L), vs[i]? = some p → (flat vs)[i * 2]? = some (sv p.1) ∧ (flat vs)[i * 2 + 1]? = some (sv p.2)
  | [], i, p, h => by simp at h
  | q :: vs, 0, p, h => by simp at h; subst h; exact ⟨rfl, rfl⟩
  | q :: vs, i + 1, p, h => by
    have := flat_at vs i p (by simpa using h)
    have e : flat (q :: vs) = sv q.1 :: sv q.2 :: flat vs := rfl
    rw [e, show (i + 1) * 2 = i * 2 + 2 by omega, show i * 2 + 2 + 1 = (i * 2 + 1) + 2 by omega]
    exact this
def idxV (vs : Vars) (t : L) : Int := match vs.findIdx? (·.1 == t) with
  | some i => i
  | none => -1
theorem idxV_at {vs : Vars} {t : L} {k : Nat} (hk : k < vs.length) (h1 : ∀ j (h : j < k), ((vs[j]'(by omega)).1 == t) = false) (h2 : (vs[k].1 == t) = true) : idxV vs t = k := by
  have : vs.findIdx? (·.1 == t) = some k := by
    rw [List.findIdx?_eq_some_iff_getElem]
    exact ⟨hk, h2, fun j hj => by rw [h1 j hj]; simp⟩
  unfold idxV
  rw [this]
theorem idxV_none {vs : Vars} {t : L} (h1 : ∀ j (h : j < vs.length), (vs[j].1 == t) = false) : idxV vs t = -1 := by
  have : vs.findIdx? (·.1 == t) = none := by
    rw [List.findIdx?_eq_none_iff]
    intro x hx
    obtain ⟨j, hj, rfl⟩ := List.mem_iff_getElem.1 hx
    exact h1 j hj
  unfold idxV
  rw [this]
/-- Where a name is found, and what it comes to. -/
theorem idxV_look {vs : Vars} {t : L} {n : Int} (h : look vs t = some n) : (idxV vs t = -1 ∧ n = 0) ∨ ∃ (k : Nat) (p : L × L), idxV vs t = k ∧ vs[k]? = some p ∧ numV p.2 = some n := by
  unfold look find at h
  cases e : vs.findIdx? (·.1 == t) with
  | none =>
    have e2 : vs.find? (·.1 == t) = none := by
      rw [List.findIdx?_eq_none_iff] at e
      rw [List.find?_eq_none]
      intro x hx
      have := e x hx
      simp at this ⊢
      exact this
    rw [e2] at h
    refine .inl ⟨by unfold idxV; rw [e], ?_⟩
    simp at h
    exact h.symm
  | some k =>
    rw [List.findIdx?_eq_some_iff_getElem] at e
    obtain ⟨hk, h2, h3⟩ := e
    have e2 : vs.find? (·.1 == t) = some vs[k] := by
      rw [List.find?_eq_some_iff_getElem]
      exact ⟨h2, k, hk, rfl, fun j hj => by have := h3 j hj; simpa using this⟩
    rw [e2] at h
    refine .inr ⟨k, vs[k], ?_, List.getElem?_eq_getElem hk, h⟩
    exact idxV_at hk (fun j hj => by have := h3 j hj; simpa using this) h2
set_option maxRecDepth 100000 in
theorem isVar_v (a v t : L) (b : Nat) (W : World) (hb : W.cell? ⟨b, 0, none⟩ = some (.string (mkS t))) : Calls Tryz.prog 103 #[.agg #[.string (mkS a), .string (mkS v)], .pointer (some ⟨b, 0, none⟩)] W fun e W' => e = .returned (.bool (a == t)) ∧ Later W W' := by
  have hlt : b < W.heap.size := World.block_lt_of_cell? W _ hb
  have HE := Lib.hid (show ((mkS a).toList == (mkS t).toList) = (a == t) by rw [toList_mkS, toList_mkS])
  go_enter Tryz.func103, Tryz.ntmps103
  go_wp2
  go_ret
  exact ⟨ret_bool HE.out, by first | exact Later.alloc _ _ | exact (Later.alloc _ _).trans (Later.drew _)⟩
section
variable {W W' : World} {g : Nat} {C : Ct} {s s' : St}
theorem VarsAt.later {v : Value} {vs : Vars} (h : VarsAt W g v vs) (hl : Later W W') : VarsAt W' g v vs := h.kept (grown_of_later hl _)
set_option maxHeartbeats 1600000 in
set_option maxRecDepth 100000 in
theorem indexFunc_v {v : Value} {vs : Vars} (h : VarsAt W g v vs) (hfew : vs.length ≤ 4000) (t : L) (b : Nat) (hb : W.cell? ⟨b, 0, none⟩ = some (.string (mkS t))) : Calls Tryz.prog 102 #[v, .func (.func 103) #[] #[.pointer (some ⟨b, 0, none⟩)]] W fun e W' => e = .returned (.int .i64 (idxV vs t)) ∧ Later W W' := by
  have HH := Lib.hid h
  rcases h with ⟨rfl, rfl⟩ | ⟨vb, _, rfl, _⟩
  · go_enter Tryz.func102, Tryz.ntmps102
    go_wp2
    go_loopw [8] (fun i wr => i = .int .i64 0 ∧ wr = W) (fun i _ => 0)
    case atStart => exact ⟨rfl, rfl⟩
    case round =>
      obtain ⟨rfl, rfl⟩ := hrel
      go_wp2
      go_ret
      exact ⟨rfl, Later.refl _⟩
  · obtain ⟨n, hn⟩ : ∃ n, n = vs.length := ⟨_, rfl⟩
    rw [← hn] at hfew ⊢
    have HN := Lib.hid hn
    have HB := Lib.hid hb
    clear hn hb
    go_enter Tryz.func102, Tryz.ntmps102
    go_wp2
    go_loopw [8] (fun i wr => ∃ k : Nat, k ≤ n ∧ i = .int .i64 (k : Int) ∧ Later W wr ∧ ∀ j (h : j < vs.length), j < k → (vs[j].1 == t) = false) (fun i _ => n - (intOf i).toNat)
    case atStart => exact ⟨0, by omega, rfl, Later.refl _, fun j h hj => by omega⟩
    case round =>
      obtain ⟨k, hk, rfl, hl, hj⟩ := hrel
      have HJ := Lib.hid hj
      have HL := Lib.hid hl
      clear hj hl
      by_cases hkn : k < n
      · have hk0 : (0 : Int) ≤ (k : Int) := by omega
        have hk1 : (k : Int) < (n : Int) := by omega
        have hlk : k < vs.length := by have := HN.out; omega
        rcases HH.out.later HL.out with ⟨e, _⟩ | ⟨vb2, _, ev, hcs⟩
        · rw [e] at hlk; simp at hlk
        injection ev with ev _ _
        injection ev with ev
        injection ev with ev _ _
        subst ev
        obtain ⟨p, hp⟩ : ∃ p, p = vs[k] := ⟨_, rfl⟩
        obtain ⟨f1, f2⟩ := flat_at vs k p (by rw [hp]; exact List.getElem?_eq_getElem hlk)
        have hload : (Instr.loadAt 25 (.pointer (some ⟨vb, k * 2, none⟩))).run Tryz.prog wr = .ok (.agg #[.string (mkS p.1), .string (mkS p.2)]) wr := by
          refine run_loadAt_mid (P := Tryz.prog) wr vb (k * 2) 25 [.string (mkS p.1), .string (mkS p.2)] _ (fun i u hu => ?_) Tryz.underlying25 rfl (by kernel_rfl)
          have hi : i < 2 := (List.getElem?_eq_some_iff.1 hu).1
          match i, hi with
          | 0, _ => cases hu; exact (cell_row hcs (k * 2)).1.trans (by rw [List.getElem?_toArray]; exact f1)
          | 1, _ => cases hu; exact (cell_row hcs (k * 2 + 1)).1.trans (by rw [List.getElem?_toArray]; exact f2)
        have HLD := Lib.hid hload
        have HV := Lib.hid (isVar_v p.1 p.2 t b wr (cell_only (g := b + 1) (grown_of_later HL.out _) (by show b ≠ b + 1; omega) HB.out))
        clear hload hcs f1 f2
        cases hpt : (p.1 == t) with
        | true =>
          rw [hpt] at HV
          have HR := Lib.hid (show idxV vs t = k from idxV_at hlk (fun j hj => HJ.out j (by omega) hj) (by rw [← hp]; exact hpt))
          clear hpt hp
          go_wp2_with (first
            | (refine wpList_loadRun rfl 25 (.tmp 14) rfl _ _ rfl HLD.out ?_)
            | (go_at_call 103; (with_reducible refine HV.out.mono ?_); rintro e w1 ⟨rfl, hl1⟩))
          go_ret
          rw [HR.out]
          exact ⟨rfl, HL.out.trans hl1⟩
        | false =>
          rw [hpt] at HV
          have hw : wrap64 ((k : Int) + 1) = (k : Int) + 1 := w64 _ (by omega)
          have HA := Lib.hid (show ∀ j (h : j < vs.length), j < k + 1 → (vs[j].1 == t) = false from fun j h hj => by
            rcases Nat.lt_succ_iff_lt_or_eq.1 hj with h1 | h1
            · exact HJ.out j h h1
            · subst h1; rw [← hp]; exact hpt)
          clear hpt hp
          go_wp2_with (first
            | (refine wpList_loadRun rfl 25 (.tmp 14) rfl _ _ rfl HLD.out ?_)
            | (go_at_call 103; (with_reducible refine HV.out.mono ?_); rintro e w1 ⟨rfl, hl1⟩))
          go_roundw
          case rel => exact ⟨k + 1, by omega, by go_num, HL.out.trans hl1, HA.out⟩
          case measure => simp [intOf]; omega
      · have HR := Lib.hid (show idxV vs t = -1 from idxV_none fun j h => HJ.out j h (by have := HN.out; omega))
        have hkk : ¬ ((k : Int) < (n : Int)) := by omega
        clear hkn
        go_wp2
        go_ret
        rw [HR.out]
        exact ⟨rfl, HL.out⟩
end
end Ar
end Go.Proofs.YtcidklbeafjmoaaGreatDoor
