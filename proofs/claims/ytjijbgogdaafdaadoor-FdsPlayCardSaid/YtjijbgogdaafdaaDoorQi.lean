/- With, Without, First. No premises. -/
import Derived.Test.YtjijbgogdaafdaaDoorQh
namespace Go.Proofs.YtjijbgogdaafdaaDoor
open Go.RowKit Go.Maps
namespace Fd
set_option maxRecDepth 100000
/-- The number at a place is written. -/
theorem PrB.value {w : World} {g : Nat} {l : Ps} {z : List Value} (h : PB w g l z) {k : Nat} (hk : k < l.length) (y : Int) : PB (w.setCell ⟨g, k * 2 + 1, none⟩ (.int .i64 y)) g (l.take k ++ (l[k].1, y) :: l.drop (k + 1)) z := by
  unfold PB PrB
  rw [set_row h]
  have hA : (prs (l.take k)).length = k * 2 := by rw [prs_len, List.length_take]; omega
  have hl : l = l.take k ++ l[k] :: l.drop (k + 1) := by
    rw [← List.drop_eq_getElem_cons hk, List.take_append_drop]
  have e : ∀ b : Int, prs (l.take k ++ (l[k].1, b) :: l.drop (k + 1)) = prs (l.take k) ++ ([.int .i64 l[k].1, .int .i64 b] ++ prs (l.drop (k + 1))) := fun b => by
    rw [prs_app]; rfl
  have e0 : prs l = prs (l.take k) ++ ([.int .i64 l[k].1, .int .i64 l[k].2] ++ prs (l.drop (k + 1))) := (congrArg prs hl).trans (e l[k].2)
  rw [e y, e0]
  congr 2
  apply Array.ext'
  rw [Array.toList_setIfInBounds]
  show List.set _ _ _ = _
  rw [List.append_assoc, List.set_append_right _ _ (by omega), hA, show k * 2 + 1 - k * 2 = 1 by omega, List.append_assoc]
  show _ = prs (l.take k) ++ ([.int .i64 l[k].1, .int .i64 y] ++ prs (l.drop (k + 1))) ++ z
  rw [List.append_assoc, List.append_assoc]
  rfl
/-- A table that is told. -/
def Told (W W' : World) (e : Ending) (l : Ps) : Prop := (∃ v, e = .returned v ∧ RdP W' W'.heap.size v l) ∧ Later W W'
theorem lit_pair (w : World) (x : Int × Int) : PB (w.alloc (.cells #[.int .i64 x.1, .int .i64 x.2] 44)) w.heap.size [x] [] := heap_alloc_new w _
set_option maxHeartbeats 6400000 in
theorem with_v (v : Value) (l : Ps) (x y : Int) (W : World) (hp : RdP W W.heap.size v l) (hr : Rises l) (hn : l.length ≤ 100000) : Calls Tryd.prog 11 #[v, .int .i64 x, .int .i64 y] W fun e W' => Told W W' e (wi l x y) := by
  have HS := Lib.hid (place_v v l x W hp hr (by omega))
  have HC := Lib.hid (fun w (hl : Later W w) => clone_v v l w (hp.later hl) (by omega))
  have HP := Lib.hid (And.intro hp (And.intro hr hn))
  obtain ⟨A, c, rfl, _⟩ := hp.le
  obtain ⟨n, hnn⟩ : ∃ n, n = l.length := ⟨_, rfl⟩
  rw [← hnn] at HS HC hn ⊢
  have HN := Lib.hid hnn
  clear hp hr hnn
  go_enter Tryd.func11, Tryd.ntmps11
  go_wp2_with fail
  go_at_call 20
  with_reducible refine HS.out.mono ?_
  rintro e w1 ⟨⟨k, b, rfl, hpl⟩, hl1⟩
  have HL1 := Lib.hid hl1
  have HPL := Lib.hid hpl
  have hk0 : (0 : Int) ≤ (k : Int) := by omega
  have hkn : k ≤ n := by have := hpl.1; have := HN.out; omega
  clear hl1 hpl
  cases b with
  | true =>
    obtain ⟨hk, hkx, hwi⟩ := place_old HPL.out HP.out.2.1 y
    have HWI := Lib.hid hwi
    have HK := Lib.hid hk
    have hk1 : (k : Int) < (n : Int) := by have := HN.out; omega
    clear hkx hwi
    go_wp2_with fail
    go_at_call 18
    with_reducible refine (HC.out _ HL1.out).mono ?_
    rintro e w2 ⟨⟨v2, rfl, ho⟩, hl2⟩
    obtain ⟨g, c2, z, rfl, hbg, hpb, hc1, hc2, _⟩ := ho.prb (by have := HK.out; omega)
    have hpv := PrB.value hpb HK.out y
    rw [← HWI.out] at hpv
    have hlen : (wi l x y).length = n := by rw [HWI.out, List.length_append, List.length_cons, List.length_take, List.length_drop, HN.out]; have := HK.out; omega
    have hrd := hpv.rd (c := c2) (by rw [hlen, HN.out]; exact hc1) (by unfold maxLen at hc2; omega)
    rw [hlen] at hrd
    have HE := Lib.hid (And.intro hrd (later_of_new (HL1.out.trans hl2) (set_only w2 g (k * 2 + 1) (.int .i64 y)) (Nat.le_trans HL1.out.size hbg)))
    obtain ⟨yv, qv⟩ : ∃ yv, w2.cell? ⟨g, k * 2 + 1, none⟩ = some (.int .i64 yv) := ⟨_, (hpb.cells k HK.out).2⟩
    have qz : w2.frozen? ⟨g, k * 2 + 1, none⟩ = false := (cell_row hpb _).2
    rw [← HN.out]
    clear ho hbg hpb hc1 hc2 hpv hlen hrd hl2
    go_wp2
    go_ret
    exact ⟨⟨_, rfl, HE.out.1⟩, HE.out.2⟩
  | false =>
    have HWI := Lib.hid (place_new HPL.out HP.out.2.1 y)
    go_wp2_with fail
    go_at_call 18
    with_reducible refine (HC.out _ HL1.out).mono ?_
    rintro e w2 ⟨⟨v2, rfl, ho⟩, hl2⟩
    have HO := Lib.hid (And.intro ho hl2)
    have HIN := Lib.hid (insert_v w1.heap.size w2.heap.size v2 l (x, 0) k (by rw [← HN.out]; exact hkn) (w2.alloc (.cells #[.int .i64 x, .int .i64 0] 44)) (ho.alloc _) (lit_pair w2 (x, 0)) (fun e => by have := (ho.lt _ e).2; omega) (Nat.le_trans hl2.size (Later.alloc _ _).size) (by rw [← HN.out]; omega))
    clear ho hl2
    go_wp2_with fail
    go_at_call 21
    with_reducible refine HIN.out.mono ?_
    rintro e w3 ⟨⟨v3, rfl, ho3⟩, hb3⟩
    have hlen3 : (l.take k ++ (x, 0) :: l.drop k).length = n + 1 := by rw [List.length_append, List.length_cons, List.length_take, List.length_drop, ← HN.out]; omega
    obtain ⟨g, c2, z, rfl, hbg, hpb, hc1, hc2, _⟩ := ho3.prb (by omega)
    have hk3 : k < (l.take k ++ (x, 0) :: l.drop k).length := by omega
    have hpv := PrB.value hpb hk3 y
    have htk : (l.take k).length = k := by rw [List.length_take, ← HN.out]; omega
    have hrow : (l.take k ++ (x, 0) :: l.drop k).take k ++ ((l.take k ++ (x, 0) :: l.drop k)[k].1, y) :: (l.take k ++ (x, 0) :: l.drop k).drop (k + 1) = wi l x y := by
      have h1 : (l.take k ++ (x, 0) :: l.drop k).take k = l.take k := by rw [List.take_append_of_le_length (by omega), List.take_of_length_le (by omega)]
      have h2 : (l.take k ++ (x, 0) :: l.drop k)[k].1 = x := by
        have h3 : (l.take k ++ (x, 0) :: l.drop k)[k]? = some (x, 0) := by rw [List.getElem?_append_right (by omega), htk, Nat.sub_self]; rfl
        rw [List.getElem?_eq_getElem hk3] at h3
        injection h3 with h3
        rw [h3]
      have h4 : (l.take k ++ (x, 0) :: l.drop k).drop (k + 1) = l.drop k := by
        rw [List.drop_append, List.drop_of_length_le (by omega), List.nil_append, htk, show k + 1 - k = 1 by omega]
        rfl
      rw [h1, h2, h4, HWI.out]
    rw [hrow] at hpv
    have hlen : (wi l x y).length = n + 1 := by rw [HWI.out, List.length_append, List.length_cons, List.length_take, List.length_drop, ← HN.out]; omega
    have hrd := hpv.rd (c := c2) (by rw [hlen, ← hlen3]; exact hc1) (by unfold maxLen at hc2; omega)
    rw [hlen] at hrd
    have hl3 : Later W w3 := by
      have h1 : Later W (w2.alloc (.cells #[.int .i64 x, .int .i64 0] 44)) := HL1.out.trans (HO.out.2.trans (Later.alloc _ _))
      exact Below.trans h1 (hb3.mono HL1.out.size)
    have HE := Lib.hid (And.intro hrd (later_of_new hl3 (set_only w3 g (k * 2 + 1) (.int .i64 y)) (Nat.le_trans HL1.out.size hbg)))
    obtain ⟨yv, qv⟩ : ∃ yv, w3.cell? ⟨g, k * 2 + 1, none⟩ = some (.int .i64 yv) := ⟨_, (hpb.cells k hk3).2⟩
    have qz : w3.frozen? ⟨g, k * 2 + 1, none⟩ = false := (cell_row hpb _).2
    rw [hlen3]
    have hk1 : (k : Int) < (n : Int) + 1 := by omega
    clear ho3 hb3 hlen3 hbg hpb hc1 hc2 hk3 hpv htk hrow hlen hrd hl3
    go_wp2
    go_ret
    exact ⟨⟨_, rfl, HE.out.1⟩, HE.out.2⟩
theorem delete0_v (A : Option Addr) (c : Nat) (fv : Value) (W : World) : Calls Tryd.prog 17 #[.slice A 0 c, fv] W fun e W' => e = .returned (.slice A 0 c) ∧ W' = W := by
  have HI := Lib.hid (index0_v A c fv W)
  go_enter Tryd.func17, Tryd.ntmps17
  go_wp2_with (go_at_call 25; (with_reducible refine HI.out.mono ?_); rintro e w1 ⟨rfl, hw⟩; subst hw)
  go_ret
  exact ⟨rfl, rfl⟩
set_option maxHeartbeats 3200000 in
theorem without_v (v : Value) (l : Ps) (x : Int) (W : World) (hp : RdP W W.heap.size v l) (hn : l.length ≤ 100000) : Calls Tryd.prog 9 #[v, .int .i64 x] W fun e W' => Told W W' e (wo l x) := by
  have hla := Later.alloc W (.cells #[.int .i64 x] 3)
  have HC := Lib.hid (clone_v v l (W.alloc (.cells #[.int .i64 x] 3)) (hp.later hla) (by omega))
  have HB := Lib.hid (heap_alloc_new W (.cells #[.int .i64 x] 3))
  have HLA := Lib.hid hla
  obtain ⟨A, c, rfl, _⟩ := hp.le
  have HN := Lib.hid hn
  clear hp hn hla
  go_enter Tryd.func9, Tryd.ntmps9
  go_wp2_with fail
  go_at_call 18
  with_reducible refine HC.out.mono ?_
  rintro e w2 ⟨⟨v2, rfl, ho⟩, hl2⟩
  have HL2 := Lib.hid hl2
  have hcell : w2.cell? ⟨W.heap.size, 0, none⟩ = some (.int .i64 x) := (cell_row (later_cells hl2 HB.out) 0).1
  rcases Nat.eq_zero_or_pos l.length with h0 | h0
  · have HRD := Lib.hid (RdP.of_own ho)
    have e0 : l = [] := List.length_eq_zero_iff.1 h0
    subst e0
    obtain ⟨A2, c2, rfl, _⟩ := own_any ho
    have HD := Lib.hid (fun fv => delete0_v A2 c2 fv w2)
    clear ho hl2 hcell h0
    go_wp2_with (go_at_call 17; (with_reducible refine (HD.out _).mono ?_); rintro e w3 ⟨rfl, hw⟩; subst hw)
    go_ret
    exact ⟨⟨_, rfl, HRD.out⟩, HLA.out.trans HL2.out⟩
  · obtain ⟨g, c2, z, rfl, hbg, hpb, hc1, hc2, _⟩ := ho.prb h0
    have hs1 : (W.alloc (.cells #[.int .i64 x] 3)).heap.size = W.heap.size + 1 := World.size_alloc _ _
    have HD := Lib.hid (delete_v (W.alloc (.cells #[.int .i64 x] 3)).heap.size g c2 l z x W.heap.size w2 hpb hbg hl2.size (by omega) hcell (by have := HN.out; omega) hc1)
    have HCC := Lib.hid (And.intro hc1 hc2)
    clear ho hl2 hcell h0 hbg hpb hc1 hc2 hs1
    go_wp2_with (go_at_call 17; (with_reducible refine HD.out.mono ?_); rintro e w3 ⟨⟨z3, rfl, hp3⟩, hb3⟩; (have HE := Lib.hid (And.intro hp3 hb3)); clear hp3 hb3)
    go_ret
    obtain ⟨hp3, hb3⟩ := HE.out
    obtain ⟨hc1, hc2⟩ := HCC.out
    refine ⟨⟨_, rfl, hp3.rd (Nat.le_trans (len_wo l x) hc1) (by unfold maxLen at hc2; omega)⟩, ?_⟩
    exact Below.trans (HLA.out.trans HL2.out) (hb3.mono HLA.out.size)
set_option maxHeartbeats 3200000 in
theorem first_v (W : World) : Calls Tryd.prog 6 #[] W fun e W' => Told W W' e first := by
  obtain ⟨i0, hif, hz0, hz1, hz2⟩ := info_parts info_pair
  go_enter Tryd.func6, Tryd.ntmps6
  go_wp2_with fail
  go_loopw [1, 3] (fun s1 s3 wr => ∃ i : Nat, s3 = .int .i64 (i : Int) ∧ i ≤ 3 ∧ Hid (Ow wr W.heap.size s1 (first.take i) ∧ Later W wr)) (fun _ i _ => 3 - (intOf i).toNat)
  case atStart => exact ⟨0, rfl, by omega, Lib.hid ⟨World.ownsRow_nil _ _ _ _, Later.refl _⟩⟩
  case round =>
    obtain ⟨i, rfl, hi, HO⟩ := hrel
    obtain ⟨A0, c0, hv0, _⟩ := own_any HO.out.1
    subst hv0
    have hfl : (first.take i).length = i := by rw [List.length_take]; show min i 3 = i; omega
    rw [hfl] at HO ⊢
    by_cases hlt : i < 3
    · have hi1 : (i : Int) < 3 := by omega
      have HFT := Lib.hid (show first.take (i + 1) = first.take i ++ [((i : Int), (i : Int))] by
        match i, hlt with
        | 0, _ => rfl
        | 1, _ => rfl
        | 2, _ => rfl)
      have HFL := Lib.hid hfl
      clear hfl
      go_wp2_with (at_builtin; refine wpList_appK wr #[.int .i64 (i : Int), .int .i64 (i : Int)] 2 (by omega) rfl (by intro u hu; simp at hu; rw [hu]; rfl) rfl (.tmp 6) (.tmp 10) 26 44 rfl i0 _ 16 Tryd.underlying26 hif hz0 hz1 hz2 rfl W.heap.size (.slice A0 i c0) i (prs (first.take i)) rfl (by have h := HO.out.1; unfold Ow at h; rw [HFL.out] at h; exact h) _ rfl rfl (by omega) (by omega) HO.out.2.size ?_; intro v3 w3 hg3; (have HG := Lib.hid hg3); clear hg3)
      go_roundw
      case rel =>
        refine ⟨i + 1, by go_num, by omega, Lib.hid ⟨?_, ?_⟩⟩
        · unfold Ow
          rw [HFT.out, prs_app, List.length_append, HFL.out]
          exact HG.out.own
        · exact HO.out.2.grown HG.out.grown HO.out.2.size fun k hk => by
            have h := HO.out.1
            exact (h.lt k hk).1
      case measure => simp [intOf]; omega
    · have hi1 : ¬ (i : Int) < 3 := by omega
      have e3 : i = 3 := by omega
      subst e3
      go_wp2
      go_ret
      exact ⟨⟨_, rfl, RdP.of_own HO.out.1⟩, HO.out.2⟩
end Fd
end Go.Proofs.YtjijbgogdaafdaaDoor
