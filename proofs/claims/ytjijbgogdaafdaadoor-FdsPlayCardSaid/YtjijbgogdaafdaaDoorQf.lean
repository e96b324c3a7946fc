/- slices.Insert of one pair: at the end, without room, in place. No premises. -/
import Derived.Test.YtjijbgogdaafdaaDoorQe
namespace Go.Proofs.YtjijbgogdaafdaaDoor
open Go.RowKit Go.Maps
namespace Fd
set_option maxRecDepth 100000
set_option maxHeartbeats 6400000 in
theorem insert_end (base gv : Nat) (v : Value) (vs : Ps) (x : Int × Int) (W : World) (ho : Ow W base v vs) (hv : PB W gv [x] []) (hb : base ≤ W.heap.size) (hn : vs.length ≤ 1000000) : Calls Tryd.prog 21 #[v, .int .i64 (vs.length : Int), .slice (some ⟨gv, 0, none⟩) 1 1] W fun e W' => InsOk base W W' e (vs ++ [x]) := by
  obtain ⟨i0, hif, hz0, hz1, hz2⟩ := info_parts info_pair
  have hap : ∀ ty, ∃ v' w', (Builtin.append_ #[26, 25] ty #[v, .slice (some ⟨gv, 0, none⟩) 1 1]).run Tryd.prog W = .ok v' w' ∧ Ow w' base v' (vs ++ [x]) ∧ Below base W w' := fun ty => by
    obtain ⟨v', w', hr, h1, h2, _⟩ := run_append_own (P := Tryd.prog) W base 26 ty 44 i0 _ 2 16 Tryd.underlying26 hif hz0 hz1 hz2 rfl (by omega) v vs.length (prs vs) ho ⟨gv, 0, none⟩ 1 1 (prs [x]) rfl (fun j u hu => by rw [add_lit0]; exact hv.lie0 hu) (prs_one_cell _) (by unfold maxLen; omega) (by omega) hb
    refine ⟨v', w', (app_types Tryd.underlying26 Tryd.underlying25 _ _ W).trans hr, ?_, below_of_grown h2 hb fun k hk => (ho.lt k hk).1⟩
    unfold Ow
    rw [prs_app, List.length_append]
    exact h1
  have HINS := Lib.hid hap
  obtain ⟨A, c, rfl, hnc⟩ := own_any ho
  obtain ⟨n, hnn⟩ : ∃ n, n = vs.length := ⟨_, rfl⟩
  rw [← hnn] at HINS hn ⊢
  have hnn1 : n ≤ n := Nat.le_refl _
  have hnc' : n ≤ c := by rw [hnn]; exact hnc
  clear ho hv hnn hap hnc hif
  go_enter Tryd.func21, Tryd.ntmps21
  cases A with
  | none =>
    go_wp2_with (at_builtin; obtain ⟨v', w', hr, h1, h2⟩ := HINS.out _; refine Lib.wpList_append_run _ rfl _ _ _ _ rfl _ _ rfl rfl _ _ hr ?_; (have HP := Lib.hid (And.intro h1 h2)); clear hr h1 h2)
    go_ret
    exact ⟨⟨v', rfl, HP.out.1⟩, HP.out.2⟩
  | some ad =>
    go_wp2_with (at_builtin; obtain ⟨v', w', hr, h1, h2⟩ := HINS.out _; refine Lib.wpList_append_run _ rfl _ _ _ _ rfl _ _ rfl rfl _ _ hr ?_; (have HP := Lib.hid (And.intro h1 h2)); clear hr h1 h2)
    all_goals (
      go_ret
      exact ⟨⟨v', rfl, HP.out.1⟩, HP.out.2⟩)
set_option maxHeartbeats 12800000 in
theorem insert_full (base g gv : Nat) (vs : Ps) (z0 : List Value) (x : Int × Int) (i : Nat) (hi : i < vs.length) (W : World) (hp : PB W g vs z0) (hv : PB W gv [x] []) (hb : base ≤ W.heap.size) (hn : vs.length ≤ 1000000) : Calls Tryd.prog 21 #[.slice (some ⟨g, 0, none⟩) vs.length vs.length, .int .i64 (i : Int), .slice (some ⟨gv, 0, none⟩) 1 1] W fun e W' => InsOk base W W' e (vs.take i ++ x :: vs.drop i) := by
  have HMK := Lib.hid (fun ty => ins_make hp hn hi ty)
  have HPP := Lib.hid (And.intro hp hv)
  have HB := Lib.hid hb
  obtain ⟨n, hnn⟩ : ∃ n, n = vs.length := ⟨_, rfl⟩
  have HN := Lib.hid hnn
  rw [← hnn] at HMK hn hi ⊢
  have hi0 : (0 : Int) ≤ (i : Int) := by omega
  have hi1 : (i : Int) ≤ (n : Int) := by omega
  have hi2 : ¬ (i : Int) = (n : Int) := by omega
  have hi3 : (n : Int) < (n : Int) + 1 := by omega
  have hi4 : (n : Int) + 1 - (i : Int) = ((n + 1 - i : Nat) : Int) := by omega
  clear hp hv hnn hb
  go_enter Tryd.func21, Tryd.ntmps21
  go_wp2_with (at_builtin; obtain ⟨c, w1, z, hr1, hp1, hc1, hc2, hzl, hl1⟩ := HMK.out _; refine Lib.wpList_append_run _ rfl _ _ _ _ rfl _ _ rfl rfl _ _ hr1 ?_; (have HP1 := Lib.hid (And.intro hp1 hl1)); (have hci : ¬ c = i := by omega); (have hic : (i : Int) ≤ (c : Int) := by omega); (have hci1 : ¬ c = i + 1 := by omega); (have HCC := Lib.hid (And.intro hc1 (And.intro hc2 hzl))); (have hc1' : n + 1 ≤ c := hc1); clear hr1 hp1 hl1 hc1 hc2 hzl; obtain ⟨w2, hr2, hp2, hg2⟩ := HP1.out.1.copy (k := i) (m := [x]) (by rw [List.length_append, List.length_take, zs_len, ← HN.out]; show i + 1 ≤ _; omega) 26 25 3 Tryd.underlying26 (n + 1 - i) (c - i) 1 1 ⟨gv, 0, none⟩ (by show Nat.min 1 (n + 1 - i) = 1; simp only [Nat.min_def]; split <;> omega) (fun j u hu => by rw [add_lit0]; exact (HPP.out.2.later HP1.out.2).lie0 hu); (have HP2 := Lib.hid (And.intro hp2 (later_of_new HP1.out.2 hg2 (Nat.le_refl _)))); clear hp2 hg2)
  have hrow : (vs.take i ++ zs (n + 1 - i)).take i ++ [x] ++ (vs.take i ++ zs (n + 1 - i)).drop (i + [x].length) = vs.take i ++ x :: zs (n - i) := by
    have h1 : (vs.take i).length = i := by rw [List.length_take, ← HN.out]; omega
    rw [List.take_append_of_le_length (by omega), List.take_of_length_le (by omega), List.drop_append, List.drop_of_length_le (by simp; omega), List.nil_append, h1]
    show vs.take i ++ [x] ++ (zs (n + 1 - i)).drop (i + 1 - i) = _
    rw [show i + 1 - i = 1 by omega, show n + 1 - i = (n - i) + 1 by omega, zs, List.replicate_succ, List.drop_succ_cons, List.drop_zero, List.append_assoc]
    rfl
  have hlen : (vs.take i ++ x :: zs (n - i)).length = n + 1 := by rw [List.length_append, List.length_cons, zs_len, List.length_take, ← HN.out]; omega
  have hp2 := HP2.out.1
  rw [hrow] at hp2
  have hp2d : PB w2.drew W.heap.size (vs.take i ++ x :: zs (n - i)) z := hp2
  obtain ⟨w3, hr3, hp3, hg3⟩ := hp2d.copy (k := i + 1) (m := vs.drop i) (by rw [hlen, List.length_drop, ← HN.out]; omega) 26 26 3 Tryd.underlying26 (n + 1 - (i + 1)) (c - (i + 1)) (n - i) (n - i) ⟨g, i * 2, none⟩ (by rw [List.length_drop, ← HN.out]; simp only [Nat.min_def]; split <;> omega) (fun j u hu => by rw [add_at]; exact (HPP.out.1.later (HP2.out.2.trans (Later.drew w2))).lie (by rw [← HN.out]; omega) hu)
  have hrow3 : (vs.take i ++ x :: zs (n - i)).take (i + 1) ++ vs.drop i ++ (vs.take i ++ x :: zs (n - i)).drop (i + 1 + (vs.drop i).length) = vs.take i ++ x :: vs.drop i := by
    have hd : n + 1 ≤ i + 1 + (vs.drop i).length := by rw [List.length_drop, ← HN.out]; omega
    rw [List.drop_of_length_le (Nat.le_trans (Nat.le_of_eq hlen) hd), List.append_nil, take_one_more (by rw [List.length_take, ← HN.out]; omega)]
    simp
  rw [hrow3] at hp3
  have HP3 := Lib.hid (And.intro hp3 (later_of_new (HP2.out.2.trans (Later.drew w2)) hg3 (Nat.le_refl _)))
  clear hrow hlen hp2 hp2d hp3 hg3 hrow3 hr2
  have mixed : Tryd.prog.follows .mixedOrders = true := by kernel_rfl
  have hw1 : IntKind.i64.wrap ((i : Int) + 1) = (i : Int) + 1 := by rw [IntKind.wrap_i64]; omega
  have hb1 : (0 : Int) ≤ (i : Int) + 1 := by omega
  have hb2 : (i : Int) + 1 ≤ (n : Int) + 1 := by omega
  have hb3 : (i : Int) ≤ (n : Int) := hi1
  have htn : ((i : Int) + 1).toNat = i + 1 := by omega
  have hin : i ≤ n := by omega
  have hni : ¬ n = i := by omega
  go_region_law_o (refine step_copy_runI rfl _ _ 26 26 rfl (.slice (some ⟨W.heap.size, (i + 1) * 2, none⟩) (n + 1 - (i + 1)) (c - (i + 1))) (.slice (some ⟨g, i * 2, none⟩) (n - i) (n - i)) (by simp [Act.eval, Act.put]) (by simp [Act.eval, Act.put]) hr3 ?_)
  go_wp2
  go_ret
  have hll : (vs.take i ++ x :: vs.drop i).length = n + 1 := by rw [List.length_append, List.length_cons, List.length_take, List.length_drop, ← HN.out]; omega
  refine ⟨⟨.slice (some ⟨W.heap.size, 0, none⟩) (n + 1) c, rfl, ?_⟩, HP3.out.2.mono HB.out⟩
  obtain ⟨h1, h2, h3⟩ := HCC.out
  have h4 := HP3.out.1.own (base := base) (c := c) HB.out (by rw [hll]; exact h1) h2 (by rw [List.length_append, prs_len, hll, h3]; omega)
  rw [hll] at h4
  exact h4
set_option maxHeartbeats 12800000 in
theorem insert_room (base g gv c : Nat) (vs : Ps) (z0 : List Value) (x : Int × Int) (i : Nat) (hi : i < vs.length) (W : World) (hp : PB W g vs z0) (hv : PB W gv [x] []) (hbg : base ≤ g) (hbs : base ≤ W.heap.size) (hne : gv ≠ g) (hn : vs.length ≤ 1000000) (hc : vs.length < c) (hcm : c ≤ maxLen) (hs : (prs vs ++ z0).length = c * 2) : Calls Tryd.prog 21 #[.slice (some ⟨g, 0, none⟩) vs.length c, .int .i64 (i : Int), .slice (some ⟨gv, 0, none⟩) 1 1] W fun e W' => InsOk base W W' e (vs.take i ++ x :: vs.drop i) := by
  obtain ⟨n, hnn⟩ : ∃ n, n = vs.length := ⟨_, rfl⟩
  have HN := Lib.hid hnn
  -- one more pair, of what lay behind
  have hlz : z0.length = (c - n) * 2 := by rw [List.length_append, prs_len, ← hnn] at hs; omega
  have hov : ∀ lb cb, (callFunc 29 #[.slice (some ⟨gv, 0, none⟩) 1 1, .slice (some ⟨g, (i + 1) * 2, none⟩) lb cb]).run Tryd.prog W = .ok (.value (.bool false)) W := fun lb cb => by
    rw [run_callFunc_extern Tryd.func29 (by kernel_rfl) (by kernel_rfl) (by kernel_rfl) (e := Extern.SlicesOverlaps.overlaps #[25, 25] #[4]) (by kernel_rfl),
      Lib.run_overlaps_apart W 25 4 44 Tryd.underlying25 2 Tryd.sizeOf44 ⟨gv, 0, none⟩ ⟨g, (i + 1) * 2, none⟩ 1 1 lb cb hne _ _ _ (c * 2) (show W.shape? gv = some (44, 2) by unfold World.shape?; rw [show W.heap[gv]? = _ from hv]; rfl) (show W.shape? g = some (44, c * 2) by unfold World.shape?; rw [show W.heap[g]? = _ from hp]; simp only [List.size_toArray]; rw [hs]) (by omega) (cell_row hv 0).2 (cell_row hv 2).2]
    rfl
  have hdl : (vs.drop i).length = n - i := by rw [List.length_drop, hnn]
  have hl0 := prs_len vs
  obtain ⟨i0, hif, hz0, hz1, hz2⟩ := info_parts info_pair
  have hr1 := fun ty => run_copy_row (P := Tryd.prog) W.drew 26 26 ty 44 i0 Tryd.underlying26 hif g ((i + 1) * 2) (n + 1 - (i + 1)) (c - (i + 1)) _ _ hp ⟨g, i * 2, none⟩ (n + 1 - i) (c - i) (prs (vs.drop i)) (by rw [hz1, prs_len, hdl]; congr 1; simp only [Nat.min_def]; split <;> omega) (fun j u hu => by rw [add_at]; exact (hp.later (Later.drew W)).lie (by omega) hu) (by rw [prs_len, hdl]; simp only [List.size_toArray]; omega) (prs_one_cell _)
  obtain ⟨W1, hW1⟩ : ∃ W1, W1 = W.drew.setRow g (((prs vs ++ z0).toArray.toList.take ((i + 1) * 2) ++ prs (vs.drop i) ++ (prs vs ++ z0).toArray.toList.drop ((i + 1) * 2 + (prs (vs.drop i)).length)).toArray) := ⟨_, rfl⟩
  have hp1 : PB W1 g (vs.take (i + 1) ++ vs.drop i) (z0.drop 2) := by
    unfold PB PrB
    rw [hW1, setRow_heap _ _ _ _ _ _ (show W.drew.heap[g]? = _ from hp)]
    show some (Obj.cells ((prs vs ++ z0).take ((i + 1) * 2) ++ prs (vs.drop i) ++ (prs vs ++ z0).drop ((i + 1) * 2 + (prs (vs.drop i)).length)).toArray _ _) = _
    rw [prs_len, hdl, List.take_append_of_le_length (by omega), prs_take_eq (by omega), show (i + 1) * 2 + (n - i) * 2 = (prs vs).length + 2 by omega, List.drop_append, List.drop_of_length_le (l := prs vs) (by omega), List.nil_append, show (prs vs).length + 2 - (prs vs).length = 2 by omega, prs_app]
  have hg1 : W.grownBy W1 (some g) := by rw [hW1]; exact later_grown (Later.drew W) (setRow_grown _ _ _)
  have hl1 : (vs.take (i + 1) ++ vs.drop i).length = n + 1 := by rw [List.length_append, List.length_take, List.length_drop, ← hnn]; omega
  have hv1 : PB W1 gv [x] [] := grown_cells hg1 hv hne
  obtain ⟨w2, hr2, hp2, hg2⟩ := PrB.copy (w := W1) hp1 (k := i) (m := [x]) (by rw [hl1]; show i + 1 ≤ _; omega) 26 25 3 Tryd.underlying26 (n + 1 - i) (c - i) 1 1 ⟨gv, 0, none⟩ (by show Nat.min 1 (n + 1 - i) = 1; simp only [Nat.min_def]; split <;> omega) (fun j u hu => by rw [add_lit0]; exact PrB.lie0 (w := W1) hv1 hu)
  have hrow : (vs.take (i + 1) ++ vs.drop i).take i ++ [x] ++ (vs.take (i + 1) ++ vs.drop i).drop (i + [x].length) = vs.take i ++ x :: vs.drop i := by
    have h1 : (vs.take (i + 1)).length = i + 1 := by rw [List.length_take]; omega
    rw [List.take_append_of_le_length (by omega), List.take_take, Nat.min_eq_left (by omega), List.drop_append, List.drop_of_length_le (by simp; omega), List.nil_append, h1]
    show _ ++ [x] ++ (vs.drop i).drop (i + 1 - (i + 1)) = _
    rw [Nat.sub_self, List.drop_zero, List.append_assoc]
    rfl
  rw [hrow] at hp2
  have hll : (vs.take i ++ x :: vs.drop i).length = n + 1 := by rw [List.length_append, List.length_cons, List.length_take, List.length_drop, ← hnn]; omega
  have how : Ow w2 base (.slice (some ⟨g, 0, none⟩) (n + 1) c) (vs.take i ++ x :: vs.drop i) := by
    have h4 := hp2.own (base := base) (c := c) hbg (by rw [hll]; omega) hcm (by rw [List.length_append, prs_len, hll, List.length_drop]; omega)
    rw [hll] at h4
    exact h4
  have HEND := Lib.hid (And.intro how ((below_of_grown hg1 hbs fun k e => by cases e; exact hbg).trans (below_of_grown hg2 (Nat.le_trans hbs hg1.size) fun k e => by cases e; exact hbg)))
  have HR1 := Lib.hid (fun ty => (hr1 ty).trans (congrArg (Result.ok (goInt _)) hW1.symm))
  have HR2 := Lib.hid hr2
  rw [← hnn] at hi hn hc ⊢
  have hi0 : (0 : Int) ≤ (i : Int) := by omega
  have hi1 : (i : Int) ≤ (n : Int) := by omega
  have hi2 : ¬ (i : Int) = (n : Int) := by omega
  have hi3 : ¬ (c : Int) < (n : Int) + 1 := by omega
  have hcn : (n : Int) + 1 ≤ (c : Int) := by omega
  have hn0 : (0 : Int) ≤ (n : Int) + 1 := by omega
  have htm : ((n : Int) + 1).toNat = n + 1 := by omega
  have hcmx : c ≤ 9223372036854775807 := by unfold maxLen at hcm; omega
  have hw1 : IntKind.i64.wrap ((i : Int) + 1) = (i : Int) + 1 := by rw [IntKind.wrap_i64]; omega
  have hb1 : (0 : Int) ≤ (i : Int) + 1 := by omega
  have hb2 : (i : Int) + 1 ≤ (n : Int) + 1 := by omega
  have hb3 : (i : Int) ≤ (n : Int) + 1 := by omega
  have htn : ((i : Int) + 1).toNat = i + 1 := by omega
  have hci1 : ¬ c = i + 1 := by omega
  have hci : ¬ c = i := by omega
  have mixed : Tryd.prog.follows .mixedOrders = true := by kernel_rfl
  clear hp hv hbg hbs hcm hs hlz hdl hl0 hif hz0 hz1 hz2 hp1 hg1 hl1 hv1 hp2 hg2 hrow hll how hr1 hr2 hnn hW1
  go_enter Tryd.func21, Tryd.ntmps21
  go_wp2_with (simp only [hov])
  have hr1 := HR1.out
  go_region_law_o (refine step_copy_runI rfl _ _ 26 26 rfl (.slice (some ⟨g, (i + 1) * 2, none⟩) (n + 1 - (i + 1)) (c - (i + 1))) (.slice (some ⟨g, i * 2, none⟩) (n + 1 - i) (c - i)) (by simp [Act.eval, Act.put]) (by simp [Act.eval, Act.put]) (hr1 _) ?_)
  clear hr1
  have hr2 := HR2.out
  go_wp2
  go_ret
  exact ⟨⟨_, rfl, HEND.out.1⟩, HEND.out.2⟩
/-- Insert, at any place. -/
theorem insert_v (base gv : Nat) (v : Value) (vs : Ps) (x : Int × Int) (i : Nat) (hi : i ≤ vs.length) (W : World) (ho : Ow W base v vs) (hv : PB W gv [x] []) (hne : v.ownBlock ≠ some gv) (hb : base ≤ W.heap.size) (hn : vs.length ≤ 1000000) : Calls Tryd.prog 21 #[v, .int .i64 (i : Int), .slice (some ⟨gv, 0, none⟩) 1 1] W fun e W' => InsOk base W W' e (vs.take i ++ x :: vs.drop i) := by
  by_cases h : i < vs.length
  · obtain ⟨g, c, z, rfl, hbg, hp, h1, h2, h3⟩ := ho.prb (by omega)
    have hgn : gv ≠ g := fun e => hne (by rw [e]; rfl)
    by_cases hc : c = vs.length
    · subst hc
      exact insert_full base g gv vs z x i h W hp hv hb hn
    · exact insert_room base g gv c vs z x i h W hp hv hbg hb hgn hn (by omega) h2 h3
  · have e : i = vs.length := by omega
    subst e
    rw [List.take_length, List.drop_length]
    exact insert_end base gv v vs x W ho hv hb hn
end Fd
end Go.Proofs.YtjijbgogdaafdaaDoor
