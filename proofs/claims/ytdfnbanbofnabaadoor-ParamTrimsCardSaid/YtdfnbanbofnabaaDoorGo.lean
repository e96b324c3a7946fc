/- runs. No premises. -/
import Derived.Test.YtdfnbanbofnabaaDoorGl
namespace Go.Proofs.YtdfnbanbofnabaaDoor
open Go.RowKit Go.Maps
namespace Gs
theorem info_signs : (Tryd.prog.info? 42).map (fun i => (i.zero, i.size, i.bytes)) = some (some (.slice none 0 0), 1, 24) := by kernel_rfl
/-- Slices that read as rows of signs. -/
def Subs (w : World) (vs : List Value) (ls : List (List Gl.Sg)) : Prop :=
  vs.length = ls.length ∧ ∀ (j : Nat) (hj : j < ls.length), ∃ A' n' c', vs[j]? = some (.slice A' n' c') ∧ n' ≤ 100000 ∧ RdS w A' n' ls[j]
theorem Subs.nil (w : World) : Subs w [] [] := ⟨rfl, fun j hj => by simp at hj⟩
theorem Subs.snoc {w : World} {vs : List Value} {ls : List (List Gl.Sg)} (h : Subs w vs ls) {A : Option Addr} {n c : Nat} {g : List Gl.Sg} (hn : n ≤ 100000) (hg : RdS w A n g) : Subs w (vs ++ [.slice A n c]) (ls ++ [g]) := by
  refine ⟨by simp [h.1], fun j hj => ?_⟩
  by_cases hjl : j < ls.length
  · obtain ⟨A', n', c', h1, h2, h3⟩ := h.2 j hjl
    refine ⟨A', n', c', by rw [List.getElem?_append_left (by rw [h.1]; exact hjl)]; exact h1, h2, ?_⟩
    rw [List.getElem_append_left hjl]
    exact h3
  · have hj' : j = ls.length := by simp at hj; omega
    subst hj'
    refine ⟨A, n, c, by rw [← h.1, List.getElem?_concat_length], hn, ?_⟩
    simp only [List.getElem_concat_length]
    exact hg
theorem Subs.one {w : World} {vs : List Value} {ls : List (List Gl.Sg)} (h : Subs w vs ls) : ∀ u ∈ vs, u.oneCell' = true := by
  intro u hu
  obtain ⟨j, hj, rfl⟩ := List.mem_iff_getElem.1 hu
  obtain ⟨A', n', c', h1, _, _⟩ := h.2 j (by rw [← h.1]; exact hj)
  rw [List.getElem?_eq_getElem hj] at h1
  injection h1 with h1
  rw [h1]
  rfl
/-- Which type a sign is of. -/
theorem ta_star (x : Sv) : ∃ va, ∀ w, (Instr.typeAssert x.enc 46 58 true).run Tryd.prog w = .ok (.tuple #[va, .bool (Gl.isStar x.sg)]) w := by
  cases x
  · exact ⟨.agg #[], fun w => by kernel_rfl⟩
  · exact ⟨.agg #[], fun w => by kernel_rfl⟩
  · exact ⟨.agg #[], fun w => by kernel_rfl⟩
  · exact ⟨.agg #[], fun w => by kernel_rfl⟩
set_option maxRecDepth 100000 in
set_option maxHeartbeats 3200000 in
theorem runs_v (g : List Gl.Sg) (A : Option Addr) (n c : Nat) (w : World) (hg : RdS w A n g) (hnc : n ≤ c) (hn : n ≤ 100000) (hA : A = none → c = 0) : Calls Tryd.prog 22 #[.slice A n c] w fun e w' => ∃ A' c' n', e = .returned (.slice A' n' c') ∧ (n' ≤ c' ∧ n' ≤ n + 1 ∧ RdR w' A' n' (Gl.runsOf g)) ∧ Later w w' := by
  have hgl := hg.len
  have HG := Lib.hid hg
  have HGL := Lib.hid hgl
  have HRB := Lib.hid (Gl.runs_begin g)
  have HA := Lib.hid hA
  obtain ⟨i0, hi, hz0, hz1, hz2⟩ := info_parts info_signs
  clear hg hgl hA
  go_enter Tryd.func22, Tryd.ntmps22
  go_wp2_with fail
  go_loopw [3, 4, 9] (fun s3 s4 s9 wr => ∃ (k f : Nat) (vs : List Value) (ls : List (List Gl.Sg)), s9 = .int .i64 (k : Int) ∧ s4 = .int .i64 (f : Int) ∧ f ≤ k ∧ k ≤ n ∧ vs.length ≤ k ∧ wr.ownsRow w.heap.size 42 1 s3 vs.length vs ∧ Subs w vs ls ∧ Gl.runsOf g = ls ++ Gl.joinR ((g.drop f).take (k - f)) (Gl.runsOf (g.drop k)) ∧ Later w wr) (fun _ _ i _ => n - (intOf i).toNat)
  case atStart => exact ⟨0, 0, [], [], rfl, rfl, Nat.le_refl _, Nat.zero_le _, Nat.zero_le _, World.ownsRow_nil _ _ _ 1, Subs.nil w, by simpa using HRB.out, Later.refl _⟩
  case round =>
    obtain ⟨k, f, vs, ls, rfl, rfl, hfk, hk, hvk, hown, hsub, heq, hlr⟩ := hrel
    by_cases hkn : k < n
    · obtain ⟨ad, x, rfl, hb, hcell, hok, hgk⟩ := (HG.out.later hlr).at_ hkn
      have hkn2 : (k : Int) < (n : Int) := by omega
      obtain ⟨ty, va, f0, rv, hd⟩ := disp x
      have hen := hd.enc
      obtain ⟨vb, hta⟩ := ta_star x
      rw [hen] at hcell hta
      have HDK := Lib.hid (show g.drop k = x.sg :: g.drop (k + 1) by
        obtain ⟨h1, h2⟩ := List.getElem?_eq_some_iff.1 hgk
        rw [List.drop_eq_getElem_cons h1, h2])
      have HO := Lib.hid hown
      have HSUB := Lib.hid hsub
      have HE := Lib.hid heq
      have HLR := Lib.hid hlr
      have HGK := Lib.hid hgk
      have hf0 : (0 : Int) ≤ (f : Int) := by omega
      have hfk2 : (f : Int) ≤ (k : Int) := by omega
      have hkc : (k : Int) ≤ (c : Int) := by omega
      clear hown hsub heq hlr hgk hd hen hok
      cases hst : Gl.isStar x.sg with
      | true =>
        rw [hst] at hta
        have HST := Lib.hid hst
        clear hst
        have hcf : ¬ (c = f) := by omega
        go_wp2_with (first
          | (at_builtin; refine wpList_app1 wr (.slice (some (ad.add f)) (k - f) (c - f)) rfl (.tmp 18) (.tmp 23) _ rfl w.heap.size 42 i0 (.slice none 0 0) 24 Tryd.underlying48 hi hz0 hz1 hz2 rfl rfl u3 vs rfl HO.out rfl ?hby ?hle ?hba ?_; (case hby => omega); (case hle => omega); (case hba => have := HLR.out.size; exact this); intro v4 w4 hg4; (have HG4 := Lib.hid hg4); clear hg4))
        go_roundw
        case rel =>
          have hg4 := HG4.out
          refine ⟨k + 1, k + 1, vs ++ [.slice (some (ad.add f)) (k - f) (c - f)], ls ++ [(g.drop f).take (k - f)], by go_num, by go_num, Nat.le_refl _, by omega, by simp; omega, hg4.own, HSUB.out.snoc (by omega) ?_, ?_, Below.grown HLR.out hg4.grown HLR.out.size fun j hj => (HO.out.lt j hj).1⟩
          · have h1 := (HG.out.cut (k := f) (cap := c) (by omega) (by omega)).take_ (k := k - f) (by omega)
            rw [if_neg hcf] at h1
            exact h1
          · rw [HE.out, HDK.out, Gl.runs_star HST.out, List.append_assoc]
            simp
        case measure => simp [intOf]; omega
      | false =>
        rw [hst] at hta
        have HST := Lib.hid hst
        clear hst
        go_wp2_with fail
        go_roundw
        case rel =>
          refine ⟨k + 1, f, vs, ls, by go_num, rfl, by omega, by omega, by omega, HO.out, HSUB.out, ?_, HLR.out⟩
          rw [HE.out, HDK.out, Gl.runs_one HST.out, show k + 1 - f = (k - f) + 1 by omega, List.take_add_one]
          congr 3
          obtain ⟨h1, h2⟩ := List.getElem?_eq_some_iff.1 HGK.out
          rw [List.getElem?_drop, show f + (k - f) = k by omega, HGK.out]
          rfl
        case measure => simp [intOf]; omega
    · have hkn2 : ¬ ((k : Int) < (n : Int)) := by omega
      have hk2 : k = n := by omega
      have HO := Lib.hid hown
      have HSUB := Lib.hid hsub
      have HE := Lib.hid heq
      have HLR := Lib.hid hlr
      clear hown hsub heq hlr
      have HEE := Lib.hid (show Gl.runsOf g = ls ++ [g.drop f] by
        have h1 := HE.out
        rw [List.drop_eq_nil_iff.2 (show g.length ≤ k by have := HGL.out; omega), Gl.runs_end, List.take_of_length_le (by rw [List.length_drop]; have := HGL.out; omega)] at h1
        exact h1)
      rcases A with _ | ad
      · have hc0 := HA.out rfl
        subst hc0
        have hn0 : n = 0 := by omega
        subst hn0
        have hf00 : f = 0 := by omega
        subst hf00
        have hk00 : k = 0 := by omega
        subst hk00
        have HCUT := Lib.hid (show RdS w none 0 (g.drop 0) by rw [List.drop_zero]; exact HG.out)
        go_wp2_with (first
          | (at_builtin; refine wpList_app1 wr (.slice none 0 0) rfl (.tmp 28) (.tmp 32) _ rfl w.heap.size 42 i0 (.slice none 0 0) 24 Tryd.underlying48 hi hz0 hz1 hz2 rfl rfl u3 vs rfl HO.out rfl ?hby ?hle ?hba ?_; (case hby => omega); (case hle => omega); (case hba => have := HLR.out.size; exact this); intro v4 w4 hg4; (have HG4 := Lib.hid hg4); clear hg4))
        go_ret
        have hg4 := HG4.out
        have hsub := HSUB.out.snoc (c := 0) (by omega) HCUT.out
        obtain ⟨A4, c4, hv4, hnc4, hrd, _⟩ := own_slice hg4.own
        have hl4 := Below.grown HLR.out hg4.grown HLR.out.size fun j hj => (HO.out.lt j hj).1
        have hlv : (vs ++ [(Value.slice none 0 0)]).length = vs.length + 1 := by simp
        refine ⟨A4, c4, (vs ++ [(Value.slice none 0 0)]).length, by rw [← hv4]; rfl, ⟨hnc4, by omega, ?_⟩, hl4⟩
        rw [HEE.out]
        refine ⟨by rw [← hsub.1], fun j hj => ?_⟩
        obtain ⟨A', n', c', h1, h2, h3⟩ := hsub.2 j hj
        obtain ⟨ad4, u, e1, e2, e3, e4⟩ := hrd.at_ (k := j) (by rw [hsub.1]; exact hj)
        rw [h1] at e3
        injection e3 with e3
        subst e3
        exact ⟨ad4, A', n', c', e1, e2, e4, h2, h3.later hl4⟩
      · have hf0 : (0 : Int) ≤ (f : Int) := by omega
        have hfc : (f : Int) ≤ (c : Int) := by omega
        have hfn : (f : Int) ≤ (n : Int) := by omega
        by_cases hcf : c = f
        · have hnf : f = n := by omega
          subst hcf
          subst hnf
          have HCUT := Lib.hid (show RdS w (some ad) 0 (g.drop c) by
            have h1 := HG.out.cut (k := c) (cap := c) (by omega) (by omega)
            rw [if_pos rfl, Nat.sub_self] at h1
            exact h1)
          go_wp2_with (first
            | (at_builtin; refine wpList_app1 wr (.slice (some ad) 0 0) rfl (.tmp 28) (.tmp 32) _ rfl w.heap.size 42 i0 (.slice none 0 0) 24 Tryd.underlying48 hi hz0 hz1 hz2 rfl rfl u3 vs rfl HO.out rfl ?hby ?hle ?hba ?_; (case hby => omega); (case hle => omega); (case hba => have := HLR.out.size; exact this); intro v4 w4 hg4; (have HG4 := Lib.hid hg4); clear hg4))
          go_ret
          have hg4 := HG4.out
          have hsub := HSUB.out.snoc (c := 0) (by omega) HCUT.out
          obtain ⟨A4, c4, hv4, hnc4, hrd, _⟩ := own_slice hg4.own
          have hl4 := Below.grown HLR.out hg4.grown HLR.out.size fun j hj => (HO.out.lt j hj).1
          have hlv : (vs ++ [(Value.slice (some ad) 0 0)]).length = vs.length + 1 := by simp
          refine ⟨A4, c4, (vs ++ [(Value.slice (some ad) 0 0)]).length, by rw [← hv4]; rfl, ⟨hnc4, by omega, ?_⟩, hl4⟩
          rw [HEE.out]
          refine ⟨by rw [← hsub.1], fun j hj => ?_⟩
          obtain ⟨A', n', c', h1, h2, h3⟩ := hsub.2 j hj
          obtain ⟨ad4, u, e1, e2, e3, e4⟩ := hrd.at_ (k := j) (by rw [hsub.1]; exact hj)
          rw [h1] at e3
          injection e3 with e3
          subst e3
          exact ⟨ad4, A', n', c', e1, e2, e4, h2, h3.later hl4⟩
        · have HCUT := Lib.hid (show RdS w (some (ad.add f)) (n - f) (g.drop f) by
            have h1 := HG.out.cut (k := f) (cap := c) (by omega) (by omega)
            rw [if_neg hcf] at h1
            exact h1)
          go_wp2_with (first
            | (at_builtin; refine wpList_app1 wr (.slice (some (ad.add f)) (n - f) (c - f)) rfl (.tmp 28) (.tmp 32) _ rfl w.heap.size 42 i0 (.slice none 0 0) 24 Tryd.underlying48 hi hz0 hz1 hz2 rfl rfl u3 vs rfl HO.out rfl ?hby ?hle ?hba ?_; (case hby => omega); (case hle => omega); (case hba => have := HLR.out.size; exact this); intro v4 w4 hg4; (have HG4 := Lib.hid hg4); clear hg4))
          go_ret
          have hg4 := HG4.out
          have hsub := HSUB.out.snoc (c := c - f) (by omega) HCUT.out
          obtain ⟨A4, c4, hv4, hnc4, hrd, _⟩ := own_slice hg4.own
          have hl4 := Below.grown HLR.out hg4.grown HLR.out.size fun j hj => (HO.out.lt j hj).1
          have hlv : (vs ++ [(Value.slice (some (ad.add f)) (n - f) (c - f))]).length = vs.length + 1 := by simp
          refine ⟨A4, c4, (vs ++ [(Value.slice (some (ad.add f)) (n - f) (c - f))]).length, by rw [← hv4]; rfl, ⟨hnc4, by omega, ?_⟩, hl4⟩
          rw [HEE.out]
          refine ⟨by rw [← hsub.1], fun j hj => ?_⟩
          obtain ⟨A', n', c', h1, h2, h3⟩ := hsub.2 j hj
          obtain ⟨ad4, u, e1, e2, e3, e4⟩ := hrd.at_ (k := j) (by rw [hsub.1]; exact hj)
          rw [h1] at e3
          injection e3 with e3
          subst e3
          exact ⟨ad4, A', n', c', e1, e2, e4, h2, h3.later hl4⟩
end Gs
end Go.Proofs.YtdfnbanbofnabaaDoor
