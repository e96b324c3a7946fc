/- THE DOCUMENT'S First, Get, Without, With. No premises. -/
import Derived.Test.YtjijbgogdaafdaaDoorQi
namespace Go.Proofs.YtjijbgogdaafdaaDoor
open Go.RowKit Go.Maps
namespace Fd
set_option maxRecDepth 100000
theorem info_P : (Tryd.prog.info? 45).map (fun i => (i.zero, i.size, i.bytes)) = some (some (.agg #[.int .i64 0, .int .i64 0]), 2, 16) := by kernel_rfl
/-- A row under way. -/
structure Sx (W wr : World) (v : Value) (l : Ps) : Prop where
  own : wr.ownsRow W.heap.size 45 2 v l.length (prs l)
  low : Later W wr
theorem Sx.nil (W : World) : Sx W W (.slice none 0 0) [] := ⟨World.ownsRow_nil _ _ _ _, Later.refl _⟩
theorem Sx.push {W wr wr' : World} {v v' : Value} {l : Ps} {a b : Int} (h : Sx W wr v l) (hg : GrewK wr wr' W.heap.size 45 2 v v' (l.length + 1) (prs l ++ #[Value.int .i64 a, Value.int .i64 b].toList)) : Sx W wr' v' (l ++ [(a, b)]) := by
  refine ⟨?_, h.low.grown hg.grown h.low.size fun k hk => (h.own.lt k hk).1⟩
  rw [prs_app, List.length_append]
  exact hg.own
theorem Sx.told {W wr : World} {v : Value} {l : Ps} (h : Sx W wr v l) : Told W wr (.returned v) l := ⟨⟨v, rfl, RdP.of_own h.own⟩, h.low⟩
theorem rfirst_v (W : World) : Calls Tryd.prog 7 #[] W fun e W' => Told W W' e first := by
  have HB := Lib.hid (heap_alloc_new W (.cells #[.int .i64 0, .int .i64 0, .int .i64 1, .int .i64 1, .int .i64 2, .int .i64 2] 45))
  go_enter Tryd.func7, Tryd.ntmps7
  go_wp2
  go_ret
  exact ⟨⟨_, rfl, PrB.rd (t := 45) (g := W.heap.size) (l := first) (z := []) (c := 3) HB.out (Nat.le_refl _) (by omega)⟩, Later.alloc _ _⟩
theorem rget_v (v : Value) (l : Ps) (x : Int) (W : World) (hp : RdP W W.heap.size v l) : Calls Tryd.prog 15 #[v, .int .i64 x] W fun e W' => e = .returned (.tuple #[.int .i64 (get l x).1, .bool (get l x).2]) ∧ Later W W' := by
  have HP := Lib.hid hp
  obtain ⟨A, c, rfl, hc1, hc2, _⟩ := hp.le
  obtain ⟨n, hnn⟩ : ∃ n, n = l.length := ⟨_, rfl⟩
  rw [← hnn] at hc1 ⊢
  have HN := Lib.hid hnn
  clear hp hnn
  go_enter Tryd.func15, Tryd.ntmps15
  go_wp2_with fail
  go_loopw [6] (fun s6 wr => ∃ i : Nat, s6 = .int .i64 (i : Int) ∧ i ≤ n ∧ Hid (∀ p ∈ l.take i, p.1 ≠ x) ∧ wr = W) (fun i _ => n - (intOf i).toNat)
  case atStart => exact ⟨0, rfl, Nat.zero_le _, Lib.hid (by simp), rfl⟩
  case round =>
    obtain ⟨i, rfl, hi, hin, hw⟩ := hrel
    have hw := hw.symm
    subst hw
    have hi0 : (0 : Int) ≤ (i : Int) := by omega
    by_cases hlt : i < n
    · have hlt1 : (i : Int) < (n : Int) := by omega
      have hml : i < l.length := by rw [← HN.out]; exact hlt
      obtain ⟨g, o, c', e1, hg, hcc⟩ := HP.out.at_ (by omega)
      injection e1 with e1 _ e2
      subst e1 e2
      obtain ⟨p, hp⟩ : ∃ p, p = l[i] := ⟨_, rfl⟩
      obtain ⟨p1, p2⟩ := hcc i hml
      rw [← hp] at p1 p2
      have HX := Lib.hid (And.intro hp (show l.take (i + 1) = l.take i ++ [p] by rw [hp]; exact List.take_succ_eq_append_getElem hml))
      by_cases he : p.1 = x
      · have hq : (p.1 == x) = true := by simpa using he
        have HG := Lib.hid (show get l x = (p.2, true) by rw [hp]; exact get_miss hml hin.out (by rw [← hp]; exact he))
        clear hp hcc he
        go_wp2
        go_ret2
        exact ⟨by rw [HG.out]; rfl, Later.refl _⟩
      · have hq : (p.1 == x) = false := by simpa using he
        have HE := Lib.hid he
        clear hp hcc he
        go_wp2
        go_roundw
        case rel =>
          refine ⟨i + 1, by go_num, by omega, Lib.hid ?_, trivial⟩
          intro q hq
          rw [HX.out.2] at hq
          rcases List.mem_append.1 hq with hq | hq
          · exact hin.out q hq
          · rw [List.mem_singleton.1 hq]; exact HE.out
        case measure => simp [intOf]; omega
    · have hlt2 : ¬ (i : Int) < (n : Int) := by omega
      go_wp2
      go_ret2
      have h := hin.out
      rw [List.take_of_length_le (by rw [← HN.out]; omega)] at h
      exact ⟨by rw [get_none h]; rfl, Later.refl _⟩
set_option maxHeartbeats 3200000 in
theorem rwo_v (v : Value) (l : Ps) (x : Int) (W : World) (hp : RdP W W.heap.size v l) (hn : l.length ≤ 100000) : Calls Tryd.prog 10 #[v, .int .i64 x] W fun e W' => Told W W' e (wo l x) := by
  have HP := Lib.hid hp
  obtain ⟨A, c, rfl, hc1, hc2, _⟩ := hp.le
  obtain ⟨n, hnn⟩ : ∃ n, n = l.length := ⟨_, rfl⟩
  rw [← hnn] at hc1 hn ⊢
  have HN := Lib.hid hnn
  obtain ⟨i0, hif, hz0, hz1, hz2⟩ := info_parts info_P
  clear hp hnn
  go_enter Tryd.func10, Tryd.ntmps10
  go_wp2_with fail
  go_loopw [5, 6] (fun s5 s6 wr => ∃ i : Nat, s6 = .int .i64 (i : Int) ∧ i ≤ n ∧ Hid (Sx W wr s5 (wo (l.take i) x))) (fun _ i _ => n - (intOf i).toNat)
  case atStart => exact ⟨0, rfl, Nat.zero_le _, Lib.hid (Sx.nil W)⟩
  case round =>
    obtain ⟨i, rfl, hi, HS⟩ := hrel
    obtain ⟨out, hout⟩ : ∃ out, out = wo (l.take i) x := ⟨_, rfl⟩
    rw [← hout] at HS
    obtain ⟨A0, c0, hv0, _⟩ := own_any HS.out.own
    subst hv0
    have hi0 : (0 : Int) ≤ (i : Int) := by omega
    have HOL := Lib.hid (show out.length ≤ 100000 by
      have h1 := len_wo (l.take i) x
      rw [List.length_take] at h1
      rw [hout]; omega)
    by_cases hlt : i < n
    · have hlt1 : (i : Int) < (n : Int) := by omega
      have hml : i < l.length := by rw [← HN.out]; exact hlt
      obtain ⟨g, o, c', e1, hg, hcc⟩ := HP.out.at_ (by omega)
      injection e1 with e1 _ e2
      subst e1 e2
      obtain ⟨p, hp⟩ : ∃ p, p = l[i] := ⟨_, rfl⟩
      have p1 := (HS.out.low.cell (p := ⟨g, o + i * 2, none⟩) hg).trans (hcc i hml).1
      have p2 := (HS.out.low.cell (p := ⟨g, o + i * 2 + 1, none⟩) hg).trans (hcc i hml).2
      rw [← hp] at p1 p2
      have HLD := Lib.hid (load_pair 45 _ Tryd.underlying45 (by kernel_rfl) p1 p2)
      have HT := Lib.hid (show wo (l.take (i + 1)) x = out ++ (if p.1 = x then [] else [p]) by rw [List.take_succ_eq_append_getElem hml, wo_step, ← hp, hout])
      clear hp hcc hout hg
      by_cases he : p.1 = x
      · have hq : ¬ p.1 ≠ x := fun h => h he
        have hq2 : (p.1 == x) = true := by simpa using he
        rw [if_pos he, List.append_nil] at HT
        clear he
        go_wp2
        go_roundw
        case rel => exact ⟨i + 1, by go_num, by omega, Lib.hid (by rw [HT.out]; exact HS.out)⟩
        case measure => simp [intOf]; omega
      · have hq2 : (p.1 == x) = false := by simpa using he
        rw [if_neg he] at HT
        clear he
        go_wp2_with (first
          | (refine wpList_loadRun rfl 45 (.tmp 23) rfl _ _ rfl HLD.out ?_)
          | (at_builtin; refine wpList_appK wr #[.int .i64 p.1, .int .i64 p.2] 2 (by omega) rfl (by intro u hu; simp at hu; rcases hu with rfl | rfl <;> rfl) rfl (.tmp 20) (.tmp 25) 28 45 rfl i0 _ 16 Tryd.underlying28 hif hz0 hz1 hz2 rfl W.heap.size (.slice A0 out.length c0) out.length (prs out) rfl HS.out.own _ rfl rfl (by have := HOL.out; omega) (by have := HOL.out; omega) HS.out.low.size ?_; intro v3 w3 hg3; (have HP3 := Lib.hid (HS.out.push hg3)); clear hg3))
        go_roundw
        case rel => exact ⟨i + 1, by go_num, by omega, Lib.hid (by rw [HT.out]; exact HP3.out)⟩
        case measure => simp [intOf]; omega
    · have HO := Lib.hid (show out = wo l x by rw [hout, List.take_of_length_le (by rw [← HN.out]; omega)])
      have hlt2 : ¬ (i : Int) < (n : Int) := by omega
      clear hout
      go_wp2
      go_ret
      rw [← HO.out]
      exact HS.out.told
set_option maxHeartbeats 6400000 in
theorem rwith_v (v : Value) (l : Ps) (x y : Int) (W : World) (hp : RdP W W.heap.size v l) (hr : Rises l) (hn : l.length ≤ 100000) : Calls Tryd.prog 12 #[v, .int .i64 x, .int .i64 y] W fun e W' => Told W W' e (wi l x y) := by
  have HP := Lib.hid hp
  have HR := Lib.hid hr
  obtain ⟨A, c, rfl, hc1, hc2, _⟩ := hp.le
  obtain ⟨n, hnn⟩ : ∃ n, n = l.length := ⟨_, rfl⟩
  rw [← hnn] at hc1 hn ⊢
  have HN := Lib.hid hnn
  obtain ⟨i0, hif, hz0, hz1, hz2⟩ := info_parts info_P
  clear hp hnn hr
  go_enter Tryd.func12, Tryd.ntmps12
  go_wp2_with fail
  go_loopw [7, 8, 9] (fun s7 s8 s9 wr => ∃ i : Nat, s9 = .int .i64 (i : Int) ∧ i ≤ n ∧ s8 = .bool (anyGe (l.take i) x) ∧ Hid (Sx W wr s7 (now (l.take i) x y))) (fun _ _ i _ => n - (intOf i).toNat)
  case atStart => exact ⟨0, rfl, Nat.zero_le _, rfl, Lib.hid (Sx.nil W)⟩
  case round =>
    obtain ⟨i, rfl, hi, rfl, HS⟩ := hrel
    obtain ⟨a, ha⟩ : ∃ a, a = anyGe (l.take i) x := ⟨_, rfl⟩
    obtain ⟨out, hout⟩ : ∃ out, out = now (l.take i) x y := ⟨_, rfl⟩
    rw [← hout] at HS
    rw [← ha]
    obtain ⟨A0, c0, hv0, _⟩ := own_any HS.out.own
    subst hv0
    have hi0 : (0 : Int) ≤ (i : Int) := by omega
    have HOL := Lib.hid (show out.length ≤ 100001 by
      have h1 := len_wi (l.take i) x y
      rw [List.length_take] at h1
      rw [hout]
      unfold now
      split
      · omega
      · rw [List.length_take]; omega)
    by_cases hlt : i < n
    · have hlt1 : (i : Int) < (n : Int) := by omega
      have hml : i < l.length := by rw [← HN.out]; exact hlt
      obtain ⟨g, o, c', e1, hg, hcc⟩ := HP.out.at_ (by omega)
      injection e1 with e1 _ e2
      subst e1 e2
      obtain ⟨p, hp⟩ : ∃ p, p = l[i] := ⟨_, rfl⟩
      have p1 := (HS.out.low.cell (p := ⟨g, o + i * 2, none⟩) hg).trans (hcc i hml).1
      have p2 := (HS.out.low.cell (p := ⟨g, o + i * 2 + 1, none⟩) hg).trans (hcc i hml).2
      rw [← hp] at p1 p2
      have HCC := Lib.hid (show ∀ w, Later W w → w.cell? ⟨g, o + i * 2, none⟩ = some (.int .i64 p.1) ∧ w.cell? ⟨g, o + i * 2 + 1, none⟩ = some (.int .i64 p.2) from fun w hl => by
        have q1 := (hl.cell (p := ⟨g, o + i * 2, none⟩) hg).trans (hcc i hml).1
        have q2 := (hl.cell (p := ⟨g, o + i * 2 + 1, none⟩) hg).trans (hcc i hml).2
        rw [← hp] at q1 q2
        exact ⟨q1, q2⟩)
      have htk : l.take (i + 1) = l.take i ++ [p] := by rw [hp]; exact List.take_succ_eq_append_getElem hml
      have hrt : Rises (l.take i ++ [p]) := by rw [← htk]; exact List.Pairwise.sublist (List.take_sublist _ _) HR.out
      have HT := Lib.hid (show now (l.take (i + 1)) x y = (if a = false ∧ x ≤ p.1 then out ++ [(x, y)] else out) ++ (if p.1 = x then [] else [p]) by rw [htk, now_step hrt, ← hout, ha])
      have HA := Lib.hid (show anyGe (l.take (i + 1)) x = (a || decide (x ≤ p.1)) by rw [htk, anyGe_snoc, ha])
      have HLD := Lib.hid (fun w hl => load_pair (w := w) 45 _ Tryd.underlying45 (by kernel_rfl) (HCC.out w hl).1 (HCC.out w hl).2)
      have hno : a = true → ¬ p.1 = x := fun h1 h2 => by
        rw [ha] at h1
        unfold anyGe at h1
        rw [List.any_eq_true] at h1
        obtain ⟨q, hq, h1⟩ := h1
        have h3 := (List.pairwise_append.1 hrt).2.2 q hq p (by simp)
        simp at h1
        omega
      clear hp hcc hout hg ha htk hrt
      by_cases hge : x ≤ p.1
      · rw [decide_eq_true hge, Bool.or_true] at HA
        cases a with
        | true =>
          have hne := hno rfl
          have hq2 : (p.1 == x) = false := by simpa using hne
          rw [if_neg (by simp), if_neg hne] at HT
          clear hno hne
          go_wp2_with (first
            | (refine wpList_loadRun rfl 45 (.tmp 43) rfl _ _ rfl (HLD.out _ HS.out.low) ?_)
            | (at_builtin; refine wpList_appK wr #[.int .i64 p.1, .int .i64 p.2] 2 (by omega) rfl (by intro u hu; simp at hu; rcases hu with rfl | rfl <;> rfl) rfl (.tmp 40) (.tmp 45) 28 45 rfl i0 _ 16 Tryd.underlying28 hif hz0 hz1 hz2 rfl W.heap.size (.slice A0 out.length c0) out.length (prs out) rfl HS.out.own _ rfl rfl (by have := HOL.out; omega) (by have := HOL.out; omega) HS.out.low.size ?_; intro v3 w3 hg3; (have HP3 := Lib.hid (HS.out.push hg3)); clear hg3))
          go_roundw
          case rel => exact ⟨i + 1, by go_num, by omega, by rw [HA.out], Lib.hid (by rw [HT.out]; exact HP3.out)⟩
          case measure => simp [intOf]; omega
        | false =>
          rw [if_pos ⟨rfl, hge⟩] at HT
          by_cases he : p.1 = x
          · have hq2 : (p.1 == x) = true := by simpa using he
            have hq3 : ¬ p.1 ≠ x := fun h => h he
            rw [if_pos he, List.append_nil] at HT
            clear he hno
            go_wp2_with (first
              | (at_builtin; refine wpList_appK wr #[.int .i64 x, .int .i64 y] 2 (by omega) rfl (by intro u hu; simp at hu; rcases hu with rfl | rfl <;> rfl) rfl (.tmp 27) (.tmp 31) 28 45 rfl i0 _ 16 Tryd.underlying28 hif hz0 hz1 hz2 rfl W.heap.size (.slice A0 out.length c0) out.length (prs out) rfl HS.out.own _ rfl rfl (by have := HOL.out; omega) (by have := HOL.out; omega) HS.out.low.size ?_; intro v3 w3 hg3; (have HP3 := Lib.hid (HS.out.push hg3)); clear hg3; (have p1 := (HCC.out _ HP3.out.low).1)))
            go_roundw
            case rel => exact ⟨i + 1, by go_num, by omega, by rw [HA.out], Lib.hid (by rw [HT.out]; exact HP3.out)⟩
            case measure => simp [intOf]; omega
          · have hq2 : (p.1 == x) = false := by simpa using he
            rw [if_neg he] at HT
            clear he hno
            go_wp2_with (first
              | (at_builtin; refine wpList_appK wr #[.int .i64 x, .int .i64 y] 2 (by omega) rfl (by intro u hu; simp at hu; rcases hu with rfl | rfl <;> rfl) rfl (.tmp 27) (.tmp 31) 28 45 rfl i0 _ 16 Tryd.underlying28 hif hz0 hz1 hz2 rfl W.heap.size (.slice A0 out.length c0) out.length (prs out) rfl HS.out.own _ rfl rfl (by have := HOL.out; omega) (by have := HOL.out; omega) HS.out.low.size ?_; intro v3 w3 hg3; (have HP3 := Lib.hid (HS.out.push hg3)); obtain ⟨A3, c3, hv3, _⟩ := own_any hg3.own; subst hv3; clear hg3; clear p1 p2; (have p1 := (HCC.out _ HP3.out.low).1); (have p2 := (HCC.out _ HP3.out.low).2); (have HL3 := Lib.hid (show (out ++ [(x, y)]).length = out.length + 1 by simp)))
              | (refine wpList_loadRun rfl 45 (.tmp 43) rfl _ _ rfl (HLD.out _ HP3.out.low) ?_)
              | (at_builtin; refine wpList_appK w3 #[.int .i64 p.1, .int .i64 p.2] 2 (by omega) rfl (by intro u hu; simp at hu; rcases hu with rfl | rfl <;> rfl) rfl (.tmp 40) (.tmp 45) 28 45 rfl i0 _ 16 Tryd.underlying28 hif hz0 hz1 hz2 rfl W.heap.size (.slice A3 (out.length + 1) c3) (out ++ [(x, y)]).length (prs (out ++ [(x, y)])) rfl (by have h := HP3.out.own; exact h) _ rfl rfl (by have := HOL.out; have := HL3.out; omega) (by have := HOL.out; have := HL3.out; omega) HP3.out.low.size ?_; intro v4 w4 hg4; (have HP4 := Lib.hid (HP3.out.push hg4)); clear hg4))
            go_roundw
            case rel => exact ⟨i + 1, by go_num, by omega, by rw [HA.out], Lib.hid (by rw [HT.out]; exact HP4.out)⟩
            case measure => simp [intOf]; omega
      · have hne : ¬ p.1 = x := by omega
        have hq2 : (p.1 == x) = false := by simpa using hne
        rw [if_neg (fun h => hge h.2), if_neg hne] at HT
        rw [decide_eq_false hge, Bool.or_false] at HA
        clear hno hne
        go_wp2_with (first
          | (refine wpList_loadRun rfl 45 (.tmp 43) rfl _ _ rfl (HLD.out _ HS.out.low) ?_)
          | (at_builtin; refine wpList_appK wr #[.int .i64 p.1, .int .i64 p.2] 2 (by omega) rfl (by intro u hu; simp at hu; rcases hu with rfl | rfl <;> rfl) rfl (.tmp 40) (.tmp 45) 28 45 rfl i0 _ 16 Tryd.underlying28 hif hz0 hz1 hz2 rfl W.heap.size (.slice A0 out.length c0) out.length (prs out) rfl HS.out.own _ rfl rfl (by have := HOL.out; omega) (by have := HOL.out; omega) HS.out.low.size ?_; intro v3 w3 hg3; (have HP3 := Lib.hid (HS.out.push hg3)); clear hg3))
        go_roundw
        case rel => exact ⟨i + 1, by go_num, by omega, by rw [HA.out], Lib.hid (by rw [HT.out]; exact HP3.out)⟩
        case measure => simp [intOf]; omega
    · have hlt2 : ¬ (i : Int) < (n : Int) := by omega
      have hall : l.take i = l := List.take_of_length_le (by rw [← HN.out]; omega)
      rw [hall] at ha hout
      have HE := Lib.hid (show (if a = true then out else out ++ [(x, y)]) = wi l x y by rw [hout, ha]; exact now_end l x y)
      clear hall ha hout
      cases a with
      | true =>
        go_wp2
        go_ret
        have h : out = wi l x y := by simpa using HE.out
        rw [← h]
        exact HS.out.told
      | false =>
        go_wp2_with (first
          | (at_builtin; refine wpList_appK wr #[.int .i64 x, .int .i64 y] 2 (by omega) rfl (by intro u hu; simp at hu; rcases hu with rfl | rfl <;> rfl) rfl (.tmp 49) (.tmp 53) 28 45 rfl i0 _ 16 Tryd.underlying28 hif hz0 hz1 hz2 rfl W.heap.size (.slice A0 out.length c0) out.length (prs out) rfl HS.out.own _ rfl rfl (by have := HOL.out; omega) (by have := HOL.out; omega) HS.out.low.size ?_; intro v3 w3 hg3; (have HP3 := Lib.hid (HS.out.push hg3)); clear hg3))
        go_ret
        have h := HE.out
        rw [if_neg (by simp)] at h
        rw [← h]
        exact HP3.out.told
end Fd
end Go.Proofs.YtjijbgogdaafdaaDoor
