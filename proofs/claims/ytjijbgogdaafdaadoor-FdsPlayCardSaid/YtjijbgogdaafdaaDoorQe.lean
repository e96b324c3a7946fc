/- slices.Clone, slices.Insert of one pair: in a row of the call's own, with room or without. No premises. -/
import Derived.Test.YtjijbgogdaafdaaDoorQd
import Derived.Test.YtjijbgogdaafdaaDoorQl
namespace Go.Proofs.YtjijbgogdaafdaaDoor
open Go.RowKit Go.Maps
namespace Fd
set_option maxRecDepth 100000
theorem info_pair : (Tryd.prog.info? 44).map (fun i => (i.zero, i.size, i.bytes)) = some (some (.agg #[.int .i64 0, .int .i64 0]), 2, 16) := by kernel_rfl
theorem add_at (g o j : Nat) : (⟨g, o, none⟩ : Addr).add j = ⟨g, o + j, none⟩ := by unfold Addr.add; split <;> simp_all
/-- A table in memory of the call's own. -/
abbrev Ow (w : World) (base : Nat) (v : Value) (l : Ps) : Prop := w.ownsRow base 44 2 v l.length (prs l)
abbrev PB (w : World) (g : Nat) (l : Ps) (z : List Value) : Prop := PrB 44 w g l z
theorem Ow.prb {w : World} {base : Nat} {v : Value} {l : Ps} (h : Ow w base v l) (h0 : 0 < l.length) : ∃ g c z, v = .slice (some ⟨g, 0, none⟩) l.length c ∧ base ≤ g ∧ PB w g l z ∧ l.length ≤ c ∧ c ≤ maxLen ∧ (prs l ++ z).length = c * 2 := by
  rcases h.2 with ⟨_, e⟩ | ⟨g, cap, cur, e, hb, hh, hnc, hcm, hs, ht⟩
  · omega
  · have hc : cur.toList = prs l ++ cur.toList.drop (l.length * 2) := by rw [← ht, List.take_append_drop]
    refine ⟨g, cap, cur.toList.drop (l.length * 2), e, hb, ?_, hnc, hcm, ?_⟩
    · unfold PB PrB; rw [← hc]; exact hh
    · rw [← hc, Array.length_toList]; exact hs
theorem PrB.own {w : World} {base g c : Nat} {l : Ps} {z : List Value} (h : PB w g l z) (hb : base ≤ g) (hlc : l.length ≤ c) (hcm : c ≤ maxLen) (hs : (prs l ++ z).length = c * 2) : Ow w base (.slice (some ⟨g, 0, none⟩) l.length c) l :=
  ⟨prs_len l, .inr ⟨g, c, _, rfl, hb, h, hlc, hcm, by simpa using hs, by
    rw [show ((prs l ++ z).toArray).toList = prs l ++ z from rfl, ← prs_len l, List.take_left]⟩⟩
theorem clone_v (v : Value) (l : Ps) (W : World) (hp : RdP W W.heap.size v l) (hn : l.length ≤ 1000000) : Calls Tryd.prog 18 #[v] W fun e W' => (∃ v', e = .returned v' ∧ Ow W' W.heap.size v' l) ∧ Later W W' := by
  obtain ⟨A, c, rfl, hc1, hc2, hsp⟩ := hp.le
  obtain ⟨i0, hif, hz0, hz1, hz2⟩ := info_parts info_pair
  rcases A with _ | ⟨b, o, sp⟩
  · have h0 : l = [] := by
      rcases Nat.eq_zero_or_pos l.length with h | h
      · exact List.length_eq_zero_iff.1 h
      · obtain ⟨g, o, c', e, _⟩ := hp.at_ h; cases e
    subst h0
    refine (AnyE.slices_Clone_nil Tryd.laysPairClone 0 c W).mono ?_
    rintro e w' ⟨rfl, rfl⟩
    exact ⟨⟨_, rfl, World.ownsRow_nil _ _ _ _⟩, Later.refl _⟩
  · have hsp := hsp _ rfl
    simp only at hsp
    subst hsp
    refine (AnyE.slices_Clone Tryd.laysPairClone i0 _ 2 16 hif hz0 hz1 hz2 rfl (by omega) Tryd.sizeOf44 b o l.length c (prs l) W (prs_len l) (by unfold maxLen; omega) (by omega) (fun j u hu => ?_) (prs_one_cell l)).mono ?_
    · have hj := (List.getElem?_eq_some_iff.1 hu).1
      rw [prs_len] at hj
      obtain ⟨g, o', c', e, _, hcc⟩ := hp.at_ (by omega)
      injection e with e1
      injection e1 with e1
      injection e1 with e1 e2
      subst e1 e2
      have hk : j / 2 < l.length := by omega
      obtain ⟨h1, h2⟩ := prs_at l (j / 2) hk
      obtain ⟨h3, h4⟩ := hcc (j / 2) hk
      rcases Nat.mod_two_eq_zero_or_one j with e | e
      · rw [show j / 2 * 2 = j by omega] at h1 h3
        rw [hu] at h1
        injection h1 with h1
        rw [h1]; exact h3
      · rw [show j / 2 * 2 + 1 = j by omega] at h2
        rw [show o + j / 2 * 2 + 1 = o + j by omega] at h4
        rw [hu] at h2
        injection h2 with h2
        rw [h2]; exact h4
    · rintro e w' ⟨v', rfl, ho, _, hl⟩
      exact ⟨⟨_, rfl, ho⟩, hl⟩
/-- An append to a named slice's type is as one to its own. -/
theorem app_types {P : Program} {t u ty e e' : TypeId} (ht : P.underlying t = some (.slice e)) (hu : P.underlying u = some (.slice e')) (s x : Value) (w : World) : (Builtin.append_ #[t, u] ty #[s, x]).run P w = (Builtin.append_ #[t, t] ty #[s, x]).run P w := by
  have h1 : (#[t, u] : Array TypeId)[1]? = some u := rfl
  have h2 : (#[t, t] : Array TypeId)[1]? = some t := rfl
  unfold Builtin.append_
  cases s with
  | slice base sLen sCap => simp only [h1, h2, List.getElem?_toArray, List.getElem?_cons_zero, List.getElem?_cons_succ, Sem.run_bind, run_underlying ht, run_underlying hu, Result.andThen_ok, Sem.run_pure, Bool.false_eq_true, if_false]
  | _ => simp [run_underlying ht]
/-- Cells copied into a row of pairs. -/
theorem PrB.copy {w : World} {h : Nat} {l m : Ps} {z : List Value} (hp : PB w h l z) {k : Nat} (hk : k + m.length ≤ l.length) (ta tb ty : TypeId) (hta : Tryd.prog.underlying ta = some (.slice 44)) (dLen dCap sLen sCap : Nat) (ad : Addr) (hn : Nat.min sLen dLen = m.length) (hsrc : ∀ j u, (prs m)[j]? = some u → w.cell? (ad.add j) = some u) :
    ∃ w', (Builtin.copy_ #[ta, tb] ty #[.slice (some ⟨h, k * 2, none⟩) dLen dCap, .slice (some ad) sLen sCap]).run Tryd.prog w = .ok (goInt m.length) w' ∧ PB w' h (l.take k ++ m ++ l.drop (k + m.length)) z ∧ w.grownBy w' (some h) := by
  obtain ⟨i0, hif, hz0, hz1, hz2⟩ := info_parts info_pair
  have hm := prs_len m
  have hl := prs_len l
  have hr := run_copy_row (P := Tryd.prog) w ta tb ty 44 i0 hta hif h (k * 2) dLen dCap _ _ hp ad sLen sCap (prs m) (by rw [hn, hz1, hm]) hsrc (by simp; omega) (prs_one_cell m)
  rw [hn] at hr
  refine ⟨_, hr, ?_, setRow_grown _ _ _⟩
  unfold PB PrB
  rw [setRow_heap _ _ _ _ _ _ hp]
  show some (Obj.cells ((prs l ++ z).take (k * 2) ++ prs m ++ (prs l ++ z).drop (k * 2 + (prs m).length)).toArray _ _) = _
  rw [List.take_append_of_le_length (by omega), List.drop_append_of_le_length (by omega), hm, prs_take_eq (by omega), show k * 2 + m.length * 2 = (k + m.length) * 2 by omega, prs_drop_eq (by omega), prs_app, prs_app]
  simp only [List.append_assoc]
/-- What Insert tells. -/
def InsOk (base : Nat) (W W' : World) (e : Ending) (l : Ps) : Prop := (∃ v', e = .returned v' ∧ Ow W' base v' l) ∧ Below base W W'
theorem arr_make (a : Ps) (j k : Nat) : (prs a).toArray ++ Builtin.zeroCells (Value.agg #[.int .i64 0, .int .i64 0]).cells j ++ Builtin.zeroCells (Value.agg #[.int .i64 0, .int .i64 0]).cells k = (prs (a ++ zs j) ++ prs (zs k)).toArray := by
  apply Array.ext'
  rw [Array.toList_append, Array.toList_append, zero_pairs, zero_pairs, prs_app]
theorem take_one_more {α : Type} {A Z : List α} {x : α} {i : Nat} (h : A.length = i) : (A ++ x :: Z).take (i + 1) = A ++ [x] := by
  subst h
  rw [show A ++ x :: Z = (A ++ [x]) ++ Z by simp, show A.length + 1 = (A ++ [x]).length by simp, List.take_left]
/-- append(s[:i], make(.., n + 1 - i)...): s full. -/
theorem ins_make {w : World} {g : Nat} {vs : Ps} {z0 : List Value} (hp : PB w g vs z0) (hn : vs.length ≤ 1000000) {i : Nat} (hi : i < vs.length) (ty : TypeId) :
    ∃ c w' z, (Builtin.append_ #[26, 3] ty #[.slice (some ⟨g, 0, none⟩) i vs.length, .int .i64 ((vs.length + 1 - i : Nat) : Int)]).run Tryd.prog w = .ok (.slice (some ⟨w.heap.size, 0, none⟩) (vs.length + 1) c) w' ∧ PB w' w.heap.size (vs.take i ++ zs (vs.length + 1 - i)) z ∧ vs.length + 1 ≤ c ∧ c ≤ maxLen ∧ z.length = (c - (vs.length + 1)) * 2 ∧ Later w w' := by
  obtain ⟨i0, hif, hz0, hz1, hz2⟩ := info_parts info_pair
  have hti : (vs.take i).length = i := by rw [List.length_take]; omega
  have hold : (Builtin.firstCells i0.size i (.slice (some ⟨g, 0, none⟩) i vs.length)).run Tryd.prog w.drew = .ok (prs (vs.take i)).toArray w.drew :=
    run_firstCells_some w.drew i0.size i ⟨g, 0, none⟩ i vs.length (prs (vs.take i)) (by rw [hz1, prs_len, hti]) (fun j u hu => by rw [add_lit0]; exact hp.lieT (by omega) hu)
  have hr := Lib.run_append_grow_zeros (P := Tryd.prog) w 26 3 ty 44 i0 _ .i64 .i64 Tryd.underlying26 Tryd.underlying3 hif hz0 (some ⟨g, 0, none⟩) i vs.length (prs (vs.take i)) hold (vs.length + 1 - i) (by omega) (by omega) (by omega) (by omega) (by rw [hz2]; omega) (by rw [hz2]; exact growslice_fits (by omega) (by omega))
  rw [show i + (vs.length + 1 - i) = vs.length + 1 by omega] at hr
  refine ⟨_, _, prs (zs (grownCap w (vs.length + 1) vs.length 44 - (vs.length + 1))), hr, ?_, grownCap_ge w _ _ _, ?_, ?_, (Later.drew w).trans (Later.alloc _ _)⟩
  rotate_left 1
  · exact grownCap_le_maxLen w (vs.length + 1) vs.length 44 (by unfold maxLen; omega)
  · rw [prs_len, zs_len]
  · unfold PB PrB
    rw [show w.heap.size = w.drew.heap.size from rfl, heap_alloc_new w.drew]
    rw [arr_make]
end Fd
end Go.Proofs.YtjijbgogdaafdaaDoor
