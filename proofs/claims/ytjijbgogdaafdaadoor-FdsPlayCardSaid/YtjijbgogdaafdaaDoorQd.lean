/- place, Get: a number's place among pairs that rise. No premises. -/
import Derived.Test.YtjijbgogdaafdaaDoorQb
import Derived.Laws.ShiftsVarLaws
import Derived.BigQuiet
namespace Go.Proofs.YtjijbgogdaafdaaDoor
open Go.RowKit Go.Maps
namespace Fd
set_option maxRecDepth 100000
def cmpI (a b : Int) : Int := if a < b then -1 else if b < a then 1 else 0
theorem compare_v (a b : Int) (W : World) : Calls Tryd.prog 28 #[.int .i64 a, .int .i64 b] W fun e W' => e = .returned (.int .i64 (cmpI a b)) ∧ W' = W := by
  have ha : ¬ a ≠ a := fun h => h rfl
  have hb : ¬ b ≠ b := fun h => h rfl
  by_cases h1 : a < b
  · have hc : cmpI a b = -1 := by unfold cmpI; rw [if_pos h1]
    rw [hc]
    clear hc
    go_enter Tryd.func28, Tryd.ntmps28
    go_wp2
    go_ret
    exact ⟨rfl, rfl⟩
  · by_cases h2 : b < a
    · have hc : cmpI a b = 1 := by unfold cmpI; rw [if_neg h1, if_pos h2]
      rw [hc]
      clear hc
      go_enter Tryd.func28, Tryd.ntmps28
      go_wp2
      go_ret
      exact ⟨rfl, rfl⟩
    · have hc : cmpI a b = 0 := by unfold cmpI; rw [if_neg h1, if_neg h2]
      rw [hc]
      clear hc
      go_enter Tryd.func28, Tryd.ntmps28
      go_wp2
      go_ret
      exact ⟨rfl, rfl⟩
theorem cmp_lt (a b : Int) : cmpI a b < 0 ↔ a < b := by unfold cmpI; split <;> (try split) <;> omega
theorem cmp_eq (a b : Int) : cmpI a b = 0 ↔ a = b := by unfold cmpI; split <;> (try split) <;> omega
theorem place1_v (a b x : Int) (W : World) : Calls Tryd.prog 27 #[.agg #[.int .i64 a, .int .i64 b], .int .i64 x] W fun e W' => e = .returned (.int .i64 (cmpI a x)) ∧ Later W W' := by
  have HLA := Lib.hid (Later.alloc W (.cells #[.int .i64 a, .int .i64 b] 44))
  have HC := Lib.hid (compare_v a x)
  go_enter Tryd.func27, Tryd.ntmps27
  go_wp2_with (go_at_call 28; (with_reducible refine (HC.out _).mono ?_); rintro e w' ⟨rfl, hw⟩; subst hw)
  go_ret
  exact ⟨rfl, HLA.out⟩
/-- What the search tells. -/
def SrOk (l : Ps) (x : Int) (e : Ending) : Prop := ∃ (k : Nat) (b : Bool), e = .returned (.tuple #[.int .i64 (k : Int), .bool b]) ∧ Place l x k b
set_option maxHeartbeats 6400000 in
theorem search_v (v : Value) (l : Ps) (x : Int) (W : World) (hp : RdP W W.heap.size v l) (hr : Rises l) (hn : l.length ≤ 1000000) : Calls Tryd.prog 26 #[v, .int .i64 x, .func (.func 27) #[] #[]] W fun e W' => SrOk l x e ∧ Later W W' := by
  obtain ⟨A, c, rfl, hc1, hc2, _⟩ := hp.le
  obtain ⟨n, hnn⟩ : ∃ n, n = l.length := ⟨_, rfl⟩
  have HN := Lib.hid hnn
  have HP := Lib.hid hp
  have HR := Lib.hid hr
  rw [← hnn] at hn hc1 ⊢
  clear hnn hp hr
  go_enter Tryd.func26, Tryd.ntmps26
  go_wp2_with fail
  go_loopw [9, 10] (fun s9 s10 wr => ∃ (i j : Nat), s9 = .int .i64 (i : Int) ∧ s10 = .int .i64 (j : Int) ∧ i ≤ j ∧ j ≤ n ∧ Later W wr ∧ Hid ((∀ t (h : t < l.length), t < i → l[t].1 < x) ∧ (∀ t (h : t < l.length), j ≤ t → x ≤ l[t].1))) (fun i j _ => (intOf j).toNat - (intOf i).toNat)
  case atStart => exact ⟨0, n, rfl, rfl, Nat.zero_le _, Nat.le_refl _, Later.refl _, Lib.hid ⟨fun t _ h => absurd h (Nat.not_lt_zero _), fun t h h2 => absurd h2 (by have := HN.out; omega)⟩⟩
  case round =>
    obtain ⟨i, j, rfl, rfl, hij, hj, hlw, hin⟩ := hrel
    have HLW := Lib.hid hlw
    have hi0 : (0 : Int) ≤ (i : Int) := by omega
    have hj0 : (0 : Int) ≤ (j : Int) := by omega
    clear hlw
    by_cases hlt : i < j
    · have hlt1 : (i : Int) < (j : Int) := by omega
      obtain ⟨m, hm⟩ : ∃ m, m = (i + j) / 2 := ⟨_, rfl⟩
      have hmn : m < n := by omega
      have hml : m < l.length := by rw [← HN.out]; exact hmn
      obtain ⟨g, o, c', e1, hg, hcc⟩ := HP.out.at_ (by omega)
      injection e1 with e1 _ e2
      subst e1 e2
      obtain ⟨p, hp⟩ : ∃ p, p = l[m] := ⟨_, rfl⟩
      have p1 := (HLW.out.cell (p := ⟨g, o + m * 2, none⟩) hg).trans (hcc m hml).1
      have p2 := (HLW.out.cell (p := ⟨g, o + m * 2 + 1, none⟩) hg).trans (hcc m hml).2
      rw [← hp] at p1 p2
      have HLD := Lib.hid (load_pair 44 _ Tryd.underlying44 (by kernel_rfl) p1 p2)
      rw [hm] at HLD
      have HAG := Lib.hid (fun W => place1_v p.1 p.2 x W)
      obtain ⟨k, hk⟩ : ∃ k, k = cmpI p.1 x := ⟨_, rfl⟩
      rw [← hk] at HAG
      have hmi : ((i : Int) + (j : Int)) / 2 = (m : Int) := by omega
      have HM := Lib.hid (And.intro hm hmi)
      have HX := Lib.hid hp
      have HK := Lib.hid hk
      have HML := Lib.hid hml
      have hij2 : i ≤ m ∧ m < j := by omega
      have HIJ := Lib.hid hij2
      clear hm hmi hmn hp hk p1 p2 hij2 hcc hg
      by_cases hk0 : k < 0
      · have HXS := Lib.hid ((cmp_lt p.1 x).1 (by rw [← HK.out]; exact hk0))
        go_wp2_with (first
          | (refine wpList_loadRun rfl 44 (.tmp 27) rfl _ _ rfl HLD.out ?_)
          | (go_at_call 27; (with_reducible refine (HAG.out _).mono ?_); rintro x9 w5 ⟨rfl, hl5⟩; (have HL5 := Lib.hid (HLW.out.trans hl5)); clear hl5))
        have h2 := HM.out.2
        have hml2 := HIJ.out
        have hj9 : j ≤ n := hj
        refine ⟨⟨m + 1, j, congrArg (Value.int .i64) (by omega), rfl, by omega, hj9, HL5.out, Lib.hid ⟨fun t h ht => ?_, hin.out.2⟩⟩, by simp only [intOf]; omega⟩
        by_cases htm : t = m
        · subst htm; rw [← HX.out]; exact HXS.out
        · have h7 := rises_at HR.out h HML.out (by omega)
          have h8 := HXS.out
          rw [HX.out] at h8
          omega
      · have HXS := Lib.hid (show x ≤ p.1 from Int.not_lt.1 fun h2 => hk0 (by rw [HK.out]; exact (cmp_lt p.1 x).2 h2))
        go_wp2_with (first
          | (refine wpList_loadRun rfl 44 (.tmp 27) rfl _ _ rfl HLD.out ?_)
          | (go_at_call 27; (with_reducible refine (HAG.out _).mono ?_); rintro x9 w5 ⟨rfl, hl5⟩; (have HL5 := Lib.hid (HLW.out.trans hl5)); clear hl5))
        have h2 := HM.out.2
        have hml2 := HIJ.out
        refine ⟨⟨i, m, rfl, congrArg (Value.int .i64) (by omega), by omega, by omega, HL5.out, Lib.hid ⟨hin.out.1, fun t h ht => ?_⟩⟩, by simp only [intOf]; omega⟩
        by_cases htm : t = m
        · subst htm; rw [← HX.out]; exact HXS.out
        · have h7 := rises_at HR.out HML.out h (by omega)
          have h8 := HXS.out
          rw [HX.out] at h8
          omega
    · have hije : i = j := by omega
      subst hije
      by_cases hin2 : i < n
      · have hlt2 : (i : Int) < (n : Int) := by omega
        have hml : i < l.length := by rw [← HN.out]; exact hin2
        obtain ⟨g, o, c', e1, hg, hcc⟩ := HP.out.at_ (by omega)
        injection e1 with e1 _ e2
        subst e1 e2
        obtain ⟨p, hp⟩ : ∃ p, p = l[i] := ⟨_, rfl⟩
        have p1 := (HLW.out.cell (p := ⟨g, o + i * 2, none⟩) hg).trans (hcc i hml).1
        have p2 := (HLW.out.cell (p := ⟨g, o + i * 2 + 1, none⟩) hg).trans (hcc i hml).2
        rw [← hp] at p1 p2
        have HAG := Lib.hid (fun W => place1_v p.1 p.2 x W)
        obtain ⟨k, hk⟩ : ∃ k, k = cmpI p.1 x := ⟨_, rfl⟩
        rw [← hk] at HAG
        have HX := Lib.hid hp
        have HK := Lib.hid hk
        have HML := Lib.hid hml
        clear hp hk hcc hg
        obtain ⟨bb, hbb⟩ : ∃ bb, bb = (k == 0) := ⟨_, rfl⟩
        have f1 : (k == 0) = bb := hbb.symm
        have HBB := Lib.hid (show bb = true ↔ ∃ h : i < l.length, l[i].1 = x from by
          rw [hbb, beq_iff_eq, HK.out, cmp_eq, HX.out]
          exact ⟨fun h => ⟨HML.out, h⟩, fun ⟨_, h⟩ => h⟩)
        clear hbb
        cases bb
        all_goals (
          go_wp2_with (first
            | (go_at_call 27; (with_reducible refine (HAG.out _).mono ?_); rintro x9 w5 ⟨rfl, hl5⟩; (have HL5 := Lib.hid (HLW.out.trans hl5)); clear hl5))
          go_ret2
          exact ⟨⟨i, _, rfl, Nat.le_of_lt HML.out, hin.out.1, hin.out.2, by simpa using HBB.out⟩, HL5.out⟩)
      · have hlt2 : ¬ (i : Int) < (n : Int) := by omega
        go_wp2
        go_ret2
        exact ⟨⟨i, false, rfl, by rw [← HN.out]; omega, hin.out.1, hin.out.2, ⟨fun h => (by cases h), fun ⟨h, _⟩ => absurd h (by rw [← HN.out]; exact hin2)⟩⟩, HLW.out⟩
/-- A number's place. -/
theorem place_v (v : Value) (l : Ps) (x : Int) (W : World) (hp : RdP W W.heap.size v l) (hr : Rises l) (hn : l.length ≤ 1000000) : Calls Tryd.prog 20 #[v, .int .i64 x] W fun e W' => SrOk l x e ∧ Later W W' := by
  have HS := Lib.hid (search_v v l x W hp hr hn)
  obtain ⟨A, c, rfl, _⟩ := hp.le
  clear hp hr hn
  go_enter Tryd.func20, Tryd.ntmps20
  go_wp2_with (go_at_call 26; (with_reducible refine HS.out.mono ?_); rintro e w1 ⟨⟨k, b, rfl, hpl⟩, hl⟩; (have HPL := Lib.hid (And.intro hpl hl)); clear hpl hl)
  go_ret2
  exact ⟨⟨k, b, rfl, HPL.out.1⟩, HPL.out.2⟩
/-- Get. -/
theorem get_v (v : Value) (l : Ps) (x : Int) (W : World) (hp : RdP W W.heap.size v l) (hr : Rises l) (hn : l.length ≤ 1000000) : Calls Tryd.prog 14 #[v, .int .i64 x] W fun e W' => e = .returned (.tuple #[.int .i64 (get l x).1, .bool (get l x).2]) ∧ Later W W' := by
  have HS := Lib.hid (place_v v l x W hp hr hn)
  have HP := Lib.hid (And.intro hp hr)
  obtain ⟨A, c, rfl, hc1, hc2, _⟩ := hp.le
  obtain ⟨n, hnn⟩ : ∃ n, n = l.length := ⟨_, rfl⟩
  rw [← hnn] at HS hn ⊢
  have HN := Lib.hid hnn
  clear hp hr hc1 hc2 hnn
  go_enter Tryd.func14, Tryd.ntmps14
  go_wp2_with fail
  go_at_call 20
  with_reducible refine HS.out.mono ?_
  rintro e w1 ⟨⟨k, b, rfl, hpl⟩, hl⟩
  have HG := Lib.hid (get_place hpl HP.out.2)
  have HL := Lib.hid hl
  cases b with
  | false =>
    clear hpl hl
    go_wp2
    go_ret2
    refine ⟨?_, HL.out⟩
    have h := HG.out
    rw [dif_neg (by simp)] at h
    rw [h]
    rfl
  | true =>
    have hk : k < l.length := (hpl.2.2.2.1 rfl).elim fun h _ => h
    obtain ⟨g, o, c', e1, hg, hcc⟩ := HP.out.1.at_ (by omega)
    injection e1 with e1 _ e2
    subst e1 e2
    obtain ⟨y, hy⟩ : ∃ y, y = l[k].2 := ⟨_, rfl⟩
    have p2 := (hl.cell (p := ⟨g, o + k * 2 + 1, none⟩) hg).trans (hcc k hk).2
    rw [← hy] at p2
    have hk1 : (k : Int) < (n : Int) := by have := HN.out; omega
    have hk0 : (0 : Int) ≤ (k : Int) := by omega
    have HGY := Lib.hid (show get l x = (y, true) by rw [HG.out, dif_pos ⟨rfl, hk⟩, hy])
    clear hpl hl hcc hg hy hk
    go_wp2
    go_ret2
    exact ⟨by rw [HGY.out]; rfl, HL.out⟩
end Fd
end Go.Proofs.YtjijbgogdaafdaaDoor
