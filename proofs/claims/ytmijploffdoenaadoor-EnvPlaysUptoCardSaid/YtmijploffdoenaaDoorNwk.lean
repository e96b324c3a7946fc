/- The library's search at variables held against a name. No premises. -/
import Derived.Test.YtmijploffdoenaaDoorNwj
import Derived.Laws.ShiftsVarLaws
namespace Go.Proofs.YtmijploffdoenaaDoor
open Go.RowKit Go.Maps
namespace En
/-- A name's place among variables that rise. -/
def Place (vs : Vs) (s : B) (k : Nat) (b : Bool) : Prop := k ≤ vs.length ∧ (∀ j (h : j < vs.length), j < k → vs[j].1 < s) ∧ (∀ j (h : j < vs.length), k ≤ j → ¬ vs[j].1 < s) ∧ (b = true ↔ ∃ h : k < vs.length, vs[k].1 = s)
theorem rises_at {vs : Vs} (hr : Rises vs) {i j : Nat} (hi : i < vs.length) (hj : j < vs.length) (hij : i < j) : vs[i].1 < vs[j].1 := by
  have := List.pairwise_iff_getElem.1 hr i j (by simpa using hi) (by simpa using hj) hij
  simpa using this
/-- What the search tells. -/
def SrOk (vs : Vs) (s : B) (e : Ending) : Prop := ∃ (k : Nat) (b : Bool), e = .returned (.tuple #[.int .i64 (k : Int), .bool b]) ∧ Place vs s k b
set_option maxRecDepth 100000 in
set_option maxHeartbeats 6400000 in
theorem search_v (g : Nat) (vs : Vs) (s : B) (z : List Value) (W : World) (hp : PrB W g vs z) (hr : Rises vs) (hn : vs.length ≤ 1000000) : Calls Tryd.prog 26 #[.slice (some ⟨g, 0, none⟩) vs.length vs.length, .string (mkS s), .func (.func 27) #[] #[]] W fun e W' => SrOk vs s e ∧ Later W W' := by
  obtain ⟨n, hnn⟩ : ∃ n, n = vs.length := ⟨_, rfl⟩
  have HN := Lib.hid hnn
  rw [← hnn] at hn ⊢
  have HP := Lib.hid hp
  have HR := Lib.hid hr
  clear hnn hp hr
  go_enter Tryd.func26, Tryd.ntmps26
  go_wp2_with fail
  go_loopw [9, 10] (fun s9 s10 wr => ∃ (i j : Nat), s9 = .int .i64 (i : Int) ∧ s10 = .int .i64 (j : Int) ∧ i ≤ j ∧ j ≤ n ∧ Later W wr ∧ Hid ((∀ t (h : t < vs.length), t < i → vs[t].1 < s) ∧ (∀ t (h : t < vs.length), j ≤ t → ¬ vs[t].1 < s))) (fun i j _ => (intOf j).toNat - (intOf i).toNat)
  case atStart => exact ⟨0, n, rfl, rfl, Nat.zero_le _, Nat.le_refl _, Later.refl _, Lib.hid ⟨fun t _ h => absurd h (Nat.not_lt_zero _), fun t h h2 => absurd h2 (by have := HN.out; omega)⟩⟩
  case round =>
    obtain ⟨i, j, rfl, rfl, hij, hj, hlw, hin⟩ := hrel
    have HLW := Lib.hid hlw
    have hi0 : (0 : Int) ≤ (i : Int) := by omega
    have hj0 : (0 : Int) ≤ (j : Int) := by omega
    clear hlw
    by_cases hlt : i < j
    · have hlt1 : (i : Int) < (j : Int) := by omega
      obtain ⟨m, hm⟩ : ∃ m, m = (i + j) / 2 := ⟨_, rfl⟩
      have hmn : m < n := by omega
      have hml : m < vs.length := by rw [← HN.out]; exact hmn
      obtain ⟨x, hx⟩ : ∃ x, x = vs[m] := ⟨_, rfl⟩
      obtain ⟨p1, p2⟩ := (HP.out.later HLW.out).cells m hml
      rw [← hx] at p1 p2
      have HLD := Lib.hid (load_mid 62 _ Tryd.underlying62 (by kernel_rfl) p1 p2)
      rw [hm] at HLD
      have HAG := Lib.hid (fun W => against_v x.1 x.2 s W)
      obtain ⟨k, hk⟩ : ∃ k, k = Lib.compareBytes x.1 s := ⟨_, rfl⟩
      rw [← hk] at HAG
      have hmi : ((i : Int) + (j : Int)) / 2 = (m : Int) := by omega
      have HM := Lib.hid (And.intro hm hmi)
      have HX := Lib.hid hx
      have HK := Lib.hid hk
      have hij2 : i ≤ m ∧ m < j := by omega
      have HIJ := Lib.hid hij2
      clear hm hmi hmn hx hk p1 p2 hij2
      by_cases hk0 : k < 0
      · have hxs := (cmp_lt x.1 s).1 (by rw [← HK.out]; exact hk0)
        have HXS := Lib.hid hxs
        clear hxs
        go_wp2_with (first
          | (refine wpList_loadRun rfl 62 (.tmp 27) rfl _ _ rfl HLD.out ?_)
          | (go_at_call 27; (with_reducible refine (HAG.out _).mono ?_); rintro x9 w5 ⟨rfl, hl5⟩; (have HL5 := Lib.hid (HLW.out.trans hl5)); clear hl5))
        have h2 := HM.out.2
        have hml2 := HIJ.out
        have hj9 : j ≤ n := hj
        refine ⟨⟨m + 1, j, congrArg (Value.int .i64) (by omega), rfl, by omega, hj9, HL5.out, Lib.hid ⟨fun t h ht => ?_, hin.out.2⟩⟩, by simp only [intOf]; omega⟩
        by_cases htm : t = m
        · subst htm; rw [← HX.out]; exact HXS.out
        · exact lt_trans (rises_at HR.out h hml (by omega)) (by rw [← HX.out]; exact HXS.out)
      · have hxs := fun h2 => hk0 (by rw [HK.out]; exact (cmp_lt x.1 s).2 h2)
        have HXS := Lib.hid hxs
        clear hxs
        go_wp2_with (first
          | (refine wpList_loadRun rfl 62 (.tmp 27) rfl _ _ rfl HLD.out ?_)
          | (go_at_call 27; (with_reducible refine (HAG.out _).mono ?_); rintro x9 w5 ⟨rfl, hl5⟩; (have HL5 := Lib.hid (HLW.out.trans hl5)); clear hl5))
        have h2 := HM.out.2
        have hml2 := HIJ.out
        refine ⟨⟨i, m, rfl, congrArg (Value.int .i64) (by omega), by omega, by omega, HL5.out, Lib.hid ⟨hin.out.1, fun t h ht => ?_⟩⟩, by simp only [intOf]; omega⟩
        by_cases htm : t = m
        · subst htm; rw [← HX.out]; exact HXS.out
        · exact fun h3 => HXS.out (lt_trans (by rw [HX.out]; exact rises_at HR.out hml h (by omega)) h3)
    · have hije : i = j := by omega
      subst hije
      by_cases hin2 : i < n
      · have hlt2 : (i : Int) < (n : Int) := by omega
        have hml : i < vs.length := by rw [← HN.out]; exact hin2
        obtain ⟨x, hx⟩ : ∃ x, x = vs[i] := ⟨_, rfl⟩
        obtain ⟨p1, p2⟩ := (HP.out.later HLW.out).cells i hml
        rw [← hx] at p1 p2
        have HAG := Lib.hid (fun W => against_v x.1 x.2 s W)
        obtain ⟨k, hk⟩ : ∃ k, k = Lib.compareBytes x.1 s := ⟨_, rfl⟩
        rw [← hk] at HAG
        have HX := Lib.hid hx
        have HK := Lib.hid hk
        have HML := Lib.hid hml
        clear hx hk
        obtain ⟨bb, hbb⟩ : ∃ bb, bb = (k == 0) := ⟨_, rfl⟩
        have f1 : (k == 0) = bb := hbb.symm
        have HBB := Lib.hid (show bb = true ↔ ∃ h : i < vs.length, vs[i].1 = s from by
          rw [hbb, beq_iff_eq, HK.out, cmp_eq, HX.out]
          exact ⟨fun h => ⟨HML.out, h⟩, fun ⟨_, h⟩ => h⟩)
        clear hbb
        cases bb
        all_goals (
          go_wp2_with (first
            | (go_at_call 27; (with_reducible refine (HAG.out _).mono ?_); rintro x9 w5 ⟨rfl, hl5⟩; (have HL5 := Lib.hid (HLW.out.trans hl5)); clear hl5))
          go_ret2
          exact ⟨⟨i, _, rfl, Nat.le_of_lt HML.out, hin.out.1, hin.out.2, by simpa using HBB.out⟩, HL5.out⟩)
      · have hlt2 : ¬ (i : Int) < (n : Int) := by omega
        go_wp2
        go_ret2
        exact ⟨⟨i, false, rfl, by rw [← HN.out]; omega, hin.out.1, hin.out.2, ⟨fun h => (by cases h), fun ⟨h, _⟩ => absurd h (by rw [← HN.out]; exact hin2)⟩⟩, HLW.out⟩
end En
end Go.Proofs.YtmijploffdoenaaDoor
