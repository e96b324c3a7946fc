/- Appends and copies of rows of pairs, as they are in slices.Insert and slices.Delete. No premises. -/
import Derived.Test.YtmijploffdoenaaDoorNwk
import Derived.Lib.SlFresh
namespace Go.Proofs.YtmijploffdoenaaDoor
open Go.RowKit Go.Maps
namespace En
theorem zero_pairs (n : Nat) : (Builtin.zeroCells (Value.agg #[.string ⟨#[]⟩, .string ⟨#[]⟩]).cells n).toList = prs (zs n) := made_pairs n
theorem PrB.lie {w : World} {g : Nat} {l : Vs} {z : List Value} (h : PrB w g l z) {k j : Nat} {u : Value} (hk : k ≤ l.length) (hu : (prs (l.drop k))[j]? = some u) : w.cell? ⟨g, k * 2 + j, none⟩ = some u := by
  have h1 := prs_drop hk hu
  rw [(cell_row h _).1]
  simp only [List.getElem?_toArray]
  rw [List.getElem?_append_left (List.getElem?_eq_some_iff.1 h1).1]
  exact h1
theorem PrB.lieT {w : World} {g : Nat} {l : Vs} {z : List Value} (h : PrB w g l z) {k j : Nat} {u : Value} (hu : (prs (l.take k))[j]? = some u) : w.cell? ⟨g, j, none⟩ = some u := by
  have h1 := prs_take hu
  have := h.lie (k := 0) (j := j) (Nat.zero_le _) (by rw [List.drop_zero]; exact h1)
  simpa using this
theorem prs_len' (l : Vs) : (prs l).length = l.length * 2 := prs_len l
/-- Cells copied into a row of pairs. -/
theorem PrB.copy {w : World} {h : Nat} {l m : Vs} {z : List Value} (hp : PrB w h l z) {k : Nat} (hk : k + m.length ≤ l.length) (ty : TypeId) (dLen dCap sLen sCap : Nat) (ad : Addr) (hn : Nat.min sLen dLen = m.length) (hsrc : ∀ j u, (prs m)[j]? = some u → w.cell? (ad.add j) = some u) :
    ∃ w', (Builtin.copy_ #[57, 57] ty #[.slice (some ⟨h, k * 2, none⟩) dLen dCap, .slice (some ad) sLen sCap]).run Tryd.prog w = .ok (goInt m.length) w' ∧ PrB w' h (l.take k ++ m ++ l.drop (k + m.length)) z ∧ w.grownBy w' (some h) := by
  obtain ⟨i0, hif, hz0, hz1, hz2⟩ := info_parts info_var
  have hm := prs_len m
  have hl := prs_len l
  have hr := run_copy_row (P := Tryd.prog) w 57 57 ty 62 i0 Tryd.underlying57 hif h (k * 2) dLen dCap _ _ hp ad sLen sCap (prs m) (by rw [hn, hz1, hm]) hsrc (by simp; omega) (prs_one_cell m)
  rw [hn] at hr
  refine ⟨_, hr, ?_, setRow_grown _ _ _⟩
  unfold PrB
  rw [setRow_heap _ _ _ _ _ _ hp]
  show some (Obj.cells ((prs l ++ z).take (k * 2) ++ prs m ++ (prs l ++ z).drop (k * 2 + (prs m).length)).toArray _ _) = _
  rw [List.take_append_of_le_length (by omega), List.drop_append_of_le_length (by omega), hm, prs_take_eq (by omega), show k * 2 + m.length * 2 = (k + m.length) * 2 by omega, prs_drop_eq (by omega), prs_app, prs_app]
  simp only [List.append_assoc]
/-- A pair in a block of its own. -/
theorem lit_pair (w : World) (x : B × B) : PrB (w.alloc (.cells #[.string (mkS x.1), .string (mkS x.2)] 62)) w.heap.size [x] [] := heap_alloc_new w _
theorem arr_end (a b : Vs) (k : Nat) : (prs a).toArray ++ (prs b).toArray ++ Builtin.zeroCells (Value.agg #[.string ⟨#[]⟩, .string ⟨#[]⟩]).cells k = (prs (a ++ b) ++ prs (zs k)).toArray := by
  apply Array.ext'
  rw [Array.toList_append, Array.toList_append, zero_pairs, prs_app]
theorem arr_make (a : Vs) (j k : Nat) : (prs a).toArray ++ Builtin.zeroCells (Value.agg #[.string ⟨#[]⟩, .string ⟨#[]⟩]).cells j ++ Builtin.zeroCells (Value.agg #[.string ⟨#[]⟩, .string ⟨#[]⟩]).cells k = (prs (a ++ zs j) ++ prs (zs k)).toArray := by
  apply Array.ext'
  rw [Array.toList_append, Array.toList_append, zero_pairs, zero_pairs, prs_app]
/-- append(s, v): s full. -/
theorem ins_end {w : World} {g gv : Nat} {vs : Vs} {x : B × B} (hp : PrB w g vs []) (hv : PrB w gv [x] []) (hn : vs.length ≤ 1000000) (ty : TypeId) :
    ∃ c w' z, (Builtin.append_ #[57, 57] ty #[.slice (some ⟨g, 0, none⟩) vs.length vs.length, .slice (some ⟨gv, 0, none⟩) 1 1]).run Tryd.prog w = .ok (.slice (some ⟨w.heap.size, 0, none⟩) (vs.length + 1) c) w' ∧ PrB w' w.heap.size (vs ++ [x]) z ∧ vs.length + 1 ≤ c ∧ c ≤ 9223372036854775807 ∧ Later w w' := by
  obtain ⟨i0, hif, hz0, hz1, hz2⟩ := info_parts info_var
  have hr := run_append_grow (P := Tryd.prog) w 57 ty 62 i0 _ Tryd.underlying57 hif hz0 ⟨g, 0, none⟩ vs.length vs.length (prs vs) (by rw [hz1, prs_len]) (fun j u hu => by rw [add_lit0]; have := hp.lie (k := 0) (Nat.zero_le _) (by rw [List.drop_zero]; exact hu); simpa using this) ⟨gv, 0, none⟩ 1 1 (prs [x]) (by rw [hz1, prs_len]; rfl) (fun j u hu => by rw [add_lit0]; have := hv.lie (k := 0) (Nat.zero_le _) (by rw [List.drop_zero]; exact hu); simpa using this) (by omega) (by omega) (growslice_fits (by omega) (by rw [hz2]; omega))
  refine ⟨_, _, prs (zs (grownCap w (vs.length + 1) vs.length 62 - (vs.length + 1))), hr, ?_, grownCap_ge w _ _ _, ?_, (Later.drew w).trans (Later.alloc _ _)⟩
  rotate_left 1
  · have := grownCap_le_maxLen w (vs.length + 1) vs.length 62 (by unfold maxLen; omega)
    unfold maxLen at this; omega
  · unfold PrB
    rw [show w.heap.size = w.drew.heap.size from rfl, heap_alloc_new w.drew]
    rw [arr_end]
/-- append(s[:i], make(.., n + 1 - i)...): s full. -/
theorem ins_make {w : World} {g : Nat} {vs : Vs} (hp : PrB w g vs []) (hn : vs.length ≤ 1000000) {i : Nat} (hi : i < vs.length) (ty : TypeId) :
    ∃ c w' z, (Builtin.append_ #[57, 3] ty #[.slice (some ⟨g, 0, none⟩) i vs.length, .int .i64 ((vs.length + 1 - i : Nat) : Int)]).run Tryd.prog w = .ok (.slice (some ⟨w.heap.size, 0, none⟩) (vs.length + 1) c) w' ∧ PrB w' w.heap.size (vs.take i ++ zs (vs.length + 1 - i)) z ∧ vs.length + 1 ≤ c ∧ c ≤ 9223372036854775807 ∧ Later w w' := by
  obtain ⟨i0, hif, hz0, hz1, hz2⟩ := info_parts info_var
  have hti : (vs.take i).length = i := by rw [List.length_take]; omega
  have hold : (Builtin.firstCells i0.size i (.slice (some ⟨g, 0, none⟩) i vs.length)).run Tryd.prog w.drew = .ok (prs (vs.take i)).toArray w.drew :=
    run_firstCells_some w.drew i0.size i ⟨g, 0, none⟩ i vs.length (prs (vs.take i)) (by rw [hz1, prs_len, hti]) (fun j u hu => by rw [add_lit0]; exact hp.lieT hu)
  have hr := Lib.run_append_grow_zeros (P := Tryd.prog) w 57 3 ty 62 i0 _ .i64 .i64 Tryd.underlying57 Tryd.underlying3 hif hz0 (some ⟨g, 0, none⟩) i vs.length (prs (vs.take i)) hold (vs.length + 1 - i) (by omega) (by omega) (by omega) (by omega) (by rw [hz2]; omega) (by rw [hz2]; exact growslice_fits (by omega) (by omega))
  rw [show i + (vs.length + 1 - i) = vs.length + 1 by omega] at hr
  refine ⟨_, _, prs (zs (grownCap w (vs.length + 1) vs.length 62 - (vs.length + 1))), hr, ?_, grownCap_ge w _ _ _, ?_, (Later.drew w).trans (Later.alloc _ _)⟩
  rotate_left 1
  · have := grownCap_le_maxLen w (vs.length + 1) vs.length 62 (by unfold maxLen; omega)
    unfold maxLen at this; omega
  · unfold PrB
    rw [show w.heap.size = w.drew.heap.size from rfl, heap_alloc_new w.drew]
    rw [arr_make]
end En
end Go.Proofs.YtmijploffdoenaaDoor
/- slices.Insert of one variable, the row full. No premises. -/
namespace Go.Proofs.YtmijploffdoenaaDoor
open Go.RowKit Go.Maps
namespace En
/-- A row that is told, with a variable put in. -/
def InsOk (W W' : World) (e : Ending) (l : Vs) : Prop := (∃ (g c : Nat) (z : List Value), e = .returned (.slice (some ⟨g, 0, none⟩) l.length c) ∧ PrB W' g l z ∧ l.length ≤ c ∧ c ≤ 9223372036854775807 ∧ W.heap.size ≤ g) ∧ Later W W'
set_option maxRecDepth 100000 in
set_option maxHeartbeats 6400000 in
theorem insert_end (g gv : Nat) (vs : Vs) (x : B × B) (W : World) (hp : PrB W g vs []) (hv : PrB W gv [x] []) (hn : vs.length ≤ 1000000) : Calls Tryd.prog 28 #[.slice (some ⟨g, 0, none⟩) vs.length vs.length, .int .i64 (vs.length : Int), .slice (some ⟨gv, 0, none⟩) 1 1] W fun e W' => InsOk W W' e (vs ++ [x]) := by
  have HINS := Lib.hid (fun ty => ins_end hp hv hn ty)
  obtain ⟨n, hnn⟩ : ∃ n, n = vs.length := ⟨_, rfl⟩
  have HN := Lib.hid hnn
  rw [← hnn] at HINS hn ⊢
  have hnn1 : n ≤ n := Nat.le_refl _
  obtain ⟨A', hA'⟩ : ∃ A' : Option Addr, A' = if n = n then some ⟨g, 0, none⟩ else some ⟨g, n * 2, none⟩ := ⟨_, rfl⟩
  clear hp hv hnn
  go_enter Tryd.func28, Tryd.ntmps28
  go_wp2_with (at_builtin; obtain ⟨c, w', z, hr, hp', h1, h2, h3⟩ := HINS.out _; refine Lib.wpList_append_run _ rfl _ _ _ _ rfl _ _ rfl rfl _ _ hr ?_; (have HP := Lib.hid (And.intro hp' (And.intro h1 (And.intro h2 h3)))); clear hr hp' h1 h2 h3)
  go_ret
  obtain ⟨h1, h2, h3, h4⟩ := HP.out
  refine ⟨⟨W.heap.size, c, z, ?_, h1, ?_, h3, Nat.le_refl _⟩, h4⟩
  · rw [List.length_append, ← HN.out]; rfl
  · rw [List.length_append, ← HN.out]; exact h2
theorem take_one_more {α : Type} {A Z : List α} {x : α} {i : Nat} (h : A.length = i) : (A ++ x :: Z).take (i + 1) = A ++ [x] := by
  subst h
  rw [show A ++ x :: Z = (A ++ [x]) ++ Z by simp, show A.length + 1 = (A ++ [x]).length by simp, List.take_left]
set_option maxRecDepth 100000 in
set_option maxHeartbeats 12800000 in
theorem insert_mid (g gv : Nat) (vs : Vs) (x : B × B) (i : Nat) (hi : i < vs.length) (W : World) (hp : PrB W g vs []) (hv : PrB W gv [x] []) (hn : vs.length ≤ 1000000) : Calls Tryd.prog 28 #[.slice (some ⟨g, 0, none⟩) vs.length vs.length, .int .i64 (i : Int), .slice (some ⟨gv, 0, none⟩) 1 1] W fun e W' => InsOk W W' e (vs.take i ++ x :: vs.drop i) := by
  have HMK := Lib.hid (fun ty => ins_make hp hn hi ty)
  have HGN := Lib.hid (And.intro (lt_of_block hp) (lt_of_block hv))
  have HPP := Lib.hid (And.intro hp hv)
  obtain ⟨n, hnn⟩ : ∃ n, n = vs.length := ⟨_, rfl⟩
  have HN := Lib.hid hnn
  rw [← hnn] at HMK hn hi ⊢
  have hi0 : (0 : Int) ≤ (i : Int) := by omega
  have hi1 : (i : Int) ≤ (n : Int) := by omega
  have hi2 : ¬ (i : Int) = (n : Int) := by omega
  have hi3 : (n : Int) < (n : Int) + 1 := by omega
  have hi4 : (n : Int) + 1 - (i : Int) = ((n + 1 - i : Nat) : Int) := by omega
  clear hp hv hnn
  go_enter Tryd.func28, Tryd.ntmps28
  go_wp2_with (at_builtin; obtain ⟨c, w1, z, hr1, hp1, hc1, hc2, hl1⟩ := HMK.out _; refine Lib.wpList_append_run _ rfl _ _ _ _ rfl _ _ rfl rfl _ _ hr1 ?_; (have HP1 := Lib.hid (And.intro hp1 hl1)); (have hci : ¬ c = i := by omega); (have hic : (i : Int) ≤ (c : Int) := by omega); (have hci1 : ¬ c = i + 1 := by omega); (have HCC := Lib.hid (And.intro hc1 hc2)); (have hc1' : n + 1 ≤ c := hc1); clear hr1 hp1 hl1 hc1 hc2; obtain ⟨w2, hr2, hp2, hg2⟩ := HP1.out.1.copy (k := i) (m := [x]) (by rw [List.length_append, List.length_take, zs_len, ← HN.out]; show i + 1 ≤ _; omega) 3 (n + 1 - i) (c - i) 1 1 ⟨gv, 0, none⟩ (by show Nat.min 1 (n + 1 - i) = 1; simp only [Nat.min_def]; split <;> omega) (fun j u hu => by rw [add_lit0]; have := (HPP.out.2.later HP1.out.2).lie (k := 0) (Nat.zero_le _) (by rw [List.drop_zero]; exact hu); simpa using this); (have HP2 := Lib.hid (And.intro hp2 (later_of_new HP1.out.2 hg2 (Nat.le_refl _)))); clear hp2 hg2)
  have hrow : (vs.take i ++ zs (n + 1 - i)).take i ++ [x] ++ (vs.take i ++ zs (n + 1 - i)).drop (i + [x].length) = vs.take i ++ x :: zs (n - i) := by
    have h1 : (vs.take i).length = i := by rw [List.length_take, ← HN.out]; omega
    rw [List.take_append_of_le_length (by omega), List.take_of_length_le (by omega), List.drop_append, List.drop_of_length_le (by simp; omega), List.nil_append, h1]
    show vs.take i ++ [x] ++ (zs (n + 1 - i)).drop (i + 1 - i) = _
    rw [show i + 1 - i = 1 by omega, show n + 1 - i = (n - i) + 1 by omega, zs, List.replicate_succ, List.drop_succ_cons, List.drop_zero, List.append_assoc]
    rfl
  have hlen : (vs.take i ++ x :: zs (n - i)).length = n + 1 := by rw [List.length_append, List.length_cons, zs_len, List.length_take, ← HN.out]; omega
  have hp2 := HP2.out.1
  rw [hrow] at hp2
  have hp2d : PrB w2.drew W.heap.size (vs.take i ++ x :: zs (n - i)) z := hp2
  obtain ⟨w3, hr3, hp3, hg3⟩ := hp2d.copy (k := i + 1) (m := vs.drop i) (by rw [hlen, List.length_drop, ← HN.out]; omega) 3 (n + 1 - (i + 1)) (c - (i + 1)) (n - i) (n - i) ⟨g, i * 2, none⟩ (by rw [List.length_drop, ← HN.out]; simp only [Nat.min_def]; split <;> omega) (fun j u hu => by rw [add_at]; exact (HPP.out.1.later (HP2.out.2.trans (Later.drew w2))).lie (by rw [← HN.out]; omega) hu)
  have hrow3 : (vs.take i ++ x :: zs (n - i)).take (i + 1) ++ vs.drop i ++ (vs.take i ++ x :: zs (n - i)).drop (i + 1 + (vs.drop i).length) = vs.take i ++ x :: vs.drop i := by
    have hd : n + 1 ≤ i + 1 + (vs.drop i).length := by rw [List.length_drop, ← HN.out]; omega
    rw [List.drop_of_length_le (Nat.le_trans (Nat.le_of_eq hlen) hd), List.append_nil, take_one_more (by rw [List.length_take, ← HN.out]; omega)]
    simp
  rw [hrow3] at hp3
  have HP3 := Lib.hid (And.intro hp3 (later_of_new (HP2.out.2.trans (Later.drew w2)) hg3 (Nat.le_refl _)))
  clear hrow hlen hp2 hp2d hp3 hg3 hrow3 hr2
  have mixed : Tryd.prog.follows .mixedOrders = true := by kernel_rfl
  have hw1 : IntKind.i64.wrap ((i : Int) + 1) = (i : Int) + 1 := by rw [IntKind.wrap_i64]; omega
  have hb1 : (0 : Int) ≤ (i : Int) + 1 := by omega
  have hb2 : (i : Int) + 1 ≤ (n : Int) + 1 := by omega
  have hb3 : (i : Int) ≤ (n : Int) := hi1
  have htn : ((i : Int) + 1).toNat = i + 1 := by omega
  have hin : i ≤ n := by omega
  have hni : ¬ n = i := by omega
  go_region_law_o (refine step_copy_runI rfl _ _ 57 57 rfl (.slice (some ⟨W.heap.size, (i + 1) * 2, none⟩) (n + 1 - (i + 1)) (c - (i + 1))) (.slice (some ⟨g, i * 2, none⟩) (n - i) (n - i)) (by simp [Act.eval, Act.put]) (by simp [Act.eval, Act.put]) hr3 ?_)
  go_wp2
  go_ret
  refine ⟨⟨W.heap.size, c, z, ?_, HP3.out.1, ?_, HCC.out.2, Nat.le_refl _⟩, HP3.out.2⟩
  · rw [show (vs.take i ++ x :: vs.drop i).length = n + 1 by rw [List.length_append, List.length_cons, List.length_take, List.length_drop, ← HN.out]; omega]; rfl
  · rw [show (vs.take i ++ x :: vs.drop i).length = n + 1 by rw [List.length_append, List.length_cons, List.length_take, List.length_drop, ← HN.out]; omega]; exact HCC.out.1
/-- Insert, at any place. -/
theorem insert_v (g gv : Nat) (vs : Vs) (x : B × B) (i : Nat) (hi : i ≤ vs.length) (W : World) (hp : PrB W g vs []) (hv : PrB W gv [x] []) (hn : vs.length ≤ 1000000) : Calls Tryd.prog 28 #[.slice (some ⟨g, 0, none⟩) vs.length vs.length, .int .i64 (i : Int), .slice (some ⟨gv, 0, none⟩) 1 1] W fun e W' => InsOk W W' e (vs.take i ++ x :: vs.drop i) := by
  by_cases h : i < vs.length
  · exact insert_mid g gv vs x i h W hp hv hn
  · have e : i = vs.length := by omega
    subst e
    rw [List.take_length, List.drop_length]
    exact insert_end g gv vs x W hp hv hn
end En
end Go.Proofs.YtmijploffdoenaaDoor
/- slices.Delete of one variable. No premises. -/
namespace Go.Proofs.YtmijploffdoenaaDoor
open Go.RowKit Go.Maps
namespace En
/-- append(s[:i], s[i+1:]...): in place. -/
theorem del_app {w : World} {g : Nat} {vs : Vs} (hp : PrB w g vs []) {i : Nat} (hi : i < vs.length) (ty : TypeId) (c2 : Nat) (A : Option Addr) (hA : A = if vs.length = i + 1 then some ⟨g, 0, none⟩ else some ⟨g, (i + 1) * 2, none⟩) :
    ∃ w' x, (Builtin.append_ #[57, 57] ty #[.slice (some ⟨g, 0, none⟩) i vs.length, .slice A (vs.length - (i + 1)) c2]).run Tryd.prog w = .ok (.slice (some ⟨g, 0, none⟩) (vs.length - 1) vs.length) w' ∧ PrB w' g (vs.take i ++ vs.drop (i + 1)) (prs [x]) ∧ w.grownBy w' (some g) := by
  obtain ⟨i0, hif, hz0, hz1, hz2⟩ := info_parts info_var
  obtain ⟨ad, had⟩ : ∃ ad, A = some ad := by rw [hA]; split <;> exact ⟨_, rfl⟩
  have hsrc : ∀ j u, (prs (vs.drop (i + 1)))[j]? = some u → w.cell? (ad.add j) = some u := by
    intro j u hu
    by_cases h : vs.length = i + 1
    · have e : vs.drop (i + 1) = [] := List.drop_of_length_le (by omega)
      rw [e] at hu
      cases hu
    · rw [if_neg h, had] at hA
      have e : ad = ⟨g, (i + 1) * 2, none⟩ := Option.some.inj hA
      rw [e, add_at]
      exact hp.lie (by omega) hu
  have hl := prs_len vs
  have hd := prs_len (vs.drop (i + 1))
  rw [List.length_drop] at hd
  have hti : (vs.take i).length = i := by rw [List.length_take]; omega
  have hr := run_append_room (P := Tryd.prog) w 57 ty 62 i0 Tryd.underlying57 hif g i vs.length _ hp ad (vs.length - (i + 1)) c2 (prs (vs.drop (i + 1))) (by rw [hz1, hd]) hsrc (prs_one_cell _) (by omega) (by rw [hz1]; simp; omega)
  rw [hz1, show i + (vs.length - (i + 1)) = vs.length - 1 by omega] at hr
  rw [had]
  refine ⟨_, vs[vs.length - 1], hr, ?_, setRow_grown _ _ _⟩
  unfold PrB
  rw [setRow_heap _ _ _ _ _ _ hp]
  show some (Obj.cells ((prs vs ++ []).take (i * 2) ++ prs (vs.drop (i + 1)) ++ (prs vs ++ []).drop (i * 2 + (prs (vs.drop (i + 1))).length)).toArray _ _) = _
  rw [List.append_nil, hd, prs_take_eq (by omega), show i * 2 + (vs.length - (i + 1)) * 2 = (vs.length - 1) * 2 by omega, prs_drop_eq (by omega), prs_app]
  rw [show vs.drop (vs.length - 1) = [vs[vs.length - 1]] by
    rw [List.drop_eq_getElem_cons (by omega), List.drop_of_length_le (by omega)]]
theorem step_append_runI {P : Program} {ops : Array Oper} {o : Oper} {a : Act} {w : World} {K : Act → World → Prop} {Q : Exit → Act → World → Prop} {E : Prop}
    (hg : o.guard = none) (d x : Operand) (dT sT : TypeId) (hop : o.op = Op.call { callee := Callee.builtin Builtin.append, args := #[d, x], argTypes := #[dT, sT] })
    (v u : Value) (hd : a.eval d = v) (hx : a.eval x = u) {v' : Value} {w' : World} (hr : (Builtin.append_ #[dT, sT] o.type #[v, u]).run P w = .ok v' w') (hK : K (a.put o.dst v') w') :
    if Region.wanted o (yielded ops a.tmps) = true then Oper.wp P o a w K Q else E := by
  have hw : Region.wanted o (yielded ops a.tmps) = true := by simp [Region.wanted, hg]
  rw [if_pos hw]
  unfold Oper.wp
  simp [execOp, hop, resolve, invoke, builtin, hd, hx, hr, Result.andThen]
  exact hK
theorem del_clear {w : World} {g : Nat} {l : Vs} {x : B × B} (hp : PrB w g l (prs [x])) (ty : TypeId) (c : Nat) :
    ∃ w' z, (Builtin.clear_ #[57] ty #[.slice (some ⟨g, l.length * 2, none⟩) 1 c]).run Tryd.prog w = .ok (.tuple #[]) w' ∧ PrB w' g l z ∧ w.grownBy w' (some g) := by
  have hl := prs_len l
  obtain ⟨cur, h1, h2, h3⟩ := run_clear_row (P := Tryd.prog) w 57 ty 62 _ Tryd.underlying57 Tryd.zeroValue62 g (l.length * 2) 1 c _ _ hp (by omega) (by show l.length * 2 + 1 * 2 ≤ (prs l ++ prs [x]).length; rw [List.length_append, prs_len, prs_len]; exact Nat.le_refl _) (by rw [zero_pairs]; exact prs_one_cell _)
  refine ⟨_, cur.toList.drop (l.length * 2), h3, ?_, setRow_grown _ _ _⟩
  unfold PrB
  rw [setRow_heap _ _ _ _ _ _ hp]
  have h4 : cur.toList = prs l ++ cur.toList.drop (l.length * 2) := by
    have h5 : (prs l ++ prs [x]).take (l.length * 2) = prs l := by rw [List.take_append_of_le_length (by omega), List.take_of_length_le (by omega)]
    have h6 : cur.toList.take (l.length * 2) = prs l := h2.trans h5
    rw [← h6, List.take_append_drop]
  rw [← h4]
set_option maxRecDepth 100000 in
set_option maxHeartbeats 12800000 in
theorem delete_v (g : Nat) (vs : Vs) (i : Nat) (hi : i < vs.length) (W0 : World) (hp : PrB W0 g vs []) (hn : vs.length ≤ 1000000) : Calls Tryd.prog 31 #[.slice (some ⟨g, 0, none⟩) vs.length vs.length, .int .i64 (i : Int), .int .i64 ((i : Int) + 1)] W0 fun e W' => (∃ z, e = .returned (.slice (some ⟨g, 0, none⟩) (vs.length - 1) vs.length) ∧ PrB W' g (vs.take i ++ vs.drop (i + 1)) z) ∧ W0.grownBy W' (some g) := by
  obtain ⟨A, hA⟩ : ∃ A : Option Addr, A = if vs.length = i + 1 then some ⟨g, 0, none⟩ else some ⟨g, (i + 1) * 2, none⟩ := ⟨_, rfl⟩
  have hpd : PrB W0.drew g vs [] := hp
  obtain ⟨w1, x, hr1, hp1, hg1⟩ := del_app hpd hi 57 (vs.length - (i + 1)) A hA
  have hl1 : (vs.take i ++ vs.drop (i + 1)).length = vs.length - 1 := by rw [List.length_append, List.length_take, List.length_drop]; omega
  obtain ⟨w2, z, hr2, hp2, hg2⟩ := del_clear hp1 0 1
  rw [hl1] at hr2
  obtain ⟨n, hnn⟩ : ∃ n, n = vs.length := ⟨_, rfl⟩
  have HN := Lib.hid hnn
  rw [← hnn] at hr1 hr2 hn hi hA ⊢
  have HP := Lib.hid (And.intro hp2 (And.intro hg1 hg2))
  obtain ⟨m, rfl⟩ : ∃ m, n = m + 1 := ⟨n - 1, by omega⟩
  rw [show m + 1 - 1 = m by omega] at hr1 hr2 ⊢
  have HR1 := Lib.hid hr1
  have hi0 : (0 : Int) ≤ (i : Int) := by omega
  have hi1 : (i : Int) + 1 ≤ (m : Int) + 1 := by omega
  have hi2 : ¬ (i : Int) = (i : Int) + 1 := by omega
  have hi3 : (i : Int) ≤ (m : Int) + 1 := by omega
  have hi4 : (i : Int) ≤ (i : Int) + 1 := by omega
  have hi5 : (0 : Int) ≤ (i : Int) + 1 := by omega
  have htn : ((i : Int) + 1).toNat = i + 1 := by omega
  have hw1 : IntKind.i64.wrap ((i : Int) + 1) = (i : Int) + 1 := by rw [IntKind.wrap_i64]; omega
  have mixed : Tryd.prog.follows .mixedOrders = true := by kernel_rfl
  clear hp hpd hp1 hg1 hp2 hg2 hnn hr1 hl1
  go_enter Tryd.func31, Tryd.ntmps31
  go_wp2_with fail
  subst hA
  have hr1 := HR1.out
  have hin : i ≤ m + 1 := by omega
  go_region_law_o (refine step_append_runI rfl (.tmp 22) (.tmp 25) 57 57 rfl (.slice (some ⟨g, 0, none⟩) i (m + 1)) (.slice (if m + 1 = i + 1 then some ⟨g, 0, none⟩ else some ⟨g, (i + 1) * 2, none⟩) (m + 1 - (i + 1)) (m + 1 - (i + 1))) (by simp [Act.eval, Act.put]) (by simp [Act.eval, Act.put]) hr1 ?_)
  all_goals (
    go_wp2
    all_goals (
      go_ret
      refine ⟨⟨rfl, z, HP.out.1⟩, ?_⟩
      obtain ⟨_, g1, g2⟩ := HP.out
      exact ⟨g2.os.trans g1.os, g2.tape.trans g1.tape, g2.output.trans g1.output, Nat.le_trans g1.size g2.size, fun k hk hne => (g2.block k (Nat.lt_of_lt_of_le hk g1.size) hne).trans (g1.block k hk hne)⟩))
end En
end Go.Proofs.YtmijploffdoenaaDoor
