/- The document's Read: the tape of any bytes. -/
import Derived.Test.YtemokpnepnmmkaaMu
import Derived.Test.YtemokpnepnmmkaaMq
namespace Go.Proofs.Ytemokpnepnmmkaa
open Go.RowKit
/-- Two cells of a struct lie in block b. -/
def BoxT (T : TypeId) (w : World) (b : Nat) (x y : Value) : Prop := w.heap[b]? = some (.cells #[x, y] T (0, 0))
section
variable {T : TypeId} {W W' : World} {b : Nat} {x y : Value}
theorem BoxT.lt (h : BoxT T W b x y) : b < W.heap.size := (Array.getElem?_eq_some_iff.1 h).1
theorem BoxT.only {S : Nat → Prop} (h : BoxT T W b x y) (ho : Only S W W') (hn : ¬ S b) : BoxT T W' b x y := (ho.block b h.lt hn).trans h
theorem BoxT.later (h : BoxT T W b x y) (hl : Later W W') : BoxT T W' b x y := (hl.block b h.lt).trans h
theorem BoxT.facts (h : BoxT T W b x y) : W.cell? ⟨b, 0, none⟩ = some x ∧ W.cell? ⟨b, 1, none⟩ = some y ∧ W.frozen? ⟨b, 0, none⟩ = false ∧ W.frozen? ⟨b, 1, none⟩ = false := ⟨(cell_row h 0).1, (cell_row h 1).1, (cell_row h 0).2, (cell_row h 1).2⟩
theorem BoxT.set1 (h : BoxT T W b x y) (y' : Value) : BoxT T (W.setCell ⟨b, 1, none⟩ y') b x y' := set_row h 1 y'
theorem BoxT.new (W : World) (T : TypeId) (x y : Value) {W' : World} (h : Later (W.alloc (.cells #[x, y] T)) W') : BoxT T W' W.heap.size x y := (h.block _ (by simp)).trans (heap_alloc_new W _)
theorem only_set (W : World) (b i : Nat) (u : Value) : Only (fun k => k = b) W (W.setCell ⟨b, i, none⟩ u) :=
  ⟨rfl, rfl, rfl, by simp, fun k _ hn => Below.heap_setCell _ _ _ _ hn⟩
theorem only_set2 (W : World) (b : Nat) (x' y' : Value) : Only (fun i => i = b) W ((W.setCell ⟨b, 0, none⟩ x').setCell ⟨b, 1, none⟩ y') := (only_set W b 0 x').trans (only_set _ b 1 y')
theorem only_low {w : World} {g : Nat} (hl : Later w W) (h : Only (fun i => i = g) W W') (hg : w.heap.size ≤ g) : Later w W' := Below.trans hl (h.below hl.size fun i e => by rw [e]; exact hg)
end
theorem wrapi64_v {x : Int} (h0 : 0 ≤ x) (h1 : x ≤ 4611686018427387904) : Value.int .i64 (IntKind.i64.wrap x) = Value.int .i64 x := by rw [IntKind.wrap_i64]; congr 1; omega
/-- The document's Read under way: the result's struct, the tape's, its answers. -/
structure RT (w w2 W : World) (b : Nat) (s : List UInt8) (v : Value) (zs : List AnsP) : Prop where
  bel : Later w W
  old : Below b w2 W
  b2 : BoxT 45 W w.heap.size (.string ⟨#[]⟩) (.slice none 0 0)
  b9 : BoxT 45 W b (.string (mkS s)) v
  own : OwnA W (b + 1) v zs
  lo : w.heap.size < b
section
variable {w w2 W W' : World} {b : Nat} {s : List UInt8} {v : Value} {zs : List AnsP}
theorem RT.later (h : RT w w2 W b s v zs) (hl : Later W W') : RT w w2 W' b s v zs := ⟨Later.trans h.bel hl, h.old.trans (Below.mono hl (Nat.le_of_lt h.b9.lt)), h.b2.later hl, h.b9.later hl, h.own.later hl, h.lo⟩
/-- One answer more, that is stored. -/
theorem RT.push (h : RT w w2 W b s v zs) {z : AnsP} {v' : Value} (hr : Rd W W.heap.size z.2.1 z.1.l.length (z.1.l.map sv)) (hm : z.1.l.length ≤ maxLen) (hap : 0 < z.1.l.length → ∀ ad, z.2.1 = some ad → v.ownBlock ≠ some ad.block) (hlow : 0 < z.1.l.length → ∀ ad, z.2.1 = some ad → b + 1 ≤ ad.block)
    (hg : Grew7 W W' (b + 1) v v' (zs.length + 1) (cellsA zs ++ (z.1.cs z.2.1 z.2.2).toList)) :
    BoxT 45 W' b (.string (mkS s)) v ∧ RT w w2 (W'.setCell ⟨b, 1, none⟩ v') b s v' (zs ++ [z]) := by
  have ho : Only (fun i => v.ownBlock = some i) W W' := Only.grown hg.grown fun i e => e
  have hvb : ∀ i, v.ownBlock = some i → b + 1 ≤ i := fun i e => (h.own.own.lt i e).1
  have h9 := h.b9.only ho (fun e => by have := hvb _ e; omega)
  have h2 := h.b2.only ho (fun e => by have := hvb _ e; have := h.lo; omega)
  have hp := h.own.push hr hm hap hlow hg
  have hs := only_set W' b 1 v'
  refine ⟨h9, ⟨only_low (Below.trans h.bel (ho.below h.bel.size fun i e => by have := hvb i e; have := h.lo; omega)) hs (Nat.le_of_lt h.lo), (h.old.trans (ho.below (Nat.le_of_lt h.b9.lt) fun i e => by have := hvb i e; omega)).trans (hs.below (Nat.le_trans (Nat.le_of_lt h.b9.lt) ho.size) fun i e => by rw [e]; exact Nat.le_refl _), h2.only hs (fun e => by have := h.lo; omega), h9.set1 v', hp.only hs (fun i e => by omega), h.lo⟩⟩
end
set_option maxRecDepth 100000 in
set_option maxHeartbeats 1000000 in
theorem refReadT_w (bs : List UInt8) (n : Nat) (hlen : bs.length = n) (w : World) (hn : n ≤ 100000000) (S : List UInt8) (R : List Ans) (m e : Nat) (hres : tapeM bs = (S, R, m, e)) :
    Calls Try.prog 19 #[.string (mkS bs)] w fun r w' => ∃ v zs, r = .returned (.tuple #[.agg #[.string (mkS S), v], .int .i64 (m : Int), .int .i64 (e : Int)]) ∧ Later w w' ∧ OwnA w' w.heap.size v zs ∧ zs.map (·.1) = R := by
  have hla := Lib.hid (Later.alloc w (.cells #[.string ⟨#[]⟩, .slice none 0 0] 45))
  obtain ⟨⟨rows, m0, e0⟩, hsc⟩ : ∃ z, scanF bs.length bs = z := ⟨_, rfl⟩
  have hsm := scan_small bs.length bs
  have hct := scan_count bs.length bs
  unfold tapeM at hres
  rw [hsc] at hsm hct hres
  dsimp only at hsm hct hres
  rw [hlen] at hct hsc
  have CS := Lib.hid (fun W => refScan_w bs n hlen W (by omega) rows m0 e0 hsc)
  clear hsc hlen
  rcases rows with _ | ⟨hr0, rows⟩
  · clear hsm hct
    dsimp only at hres
    by_cases he0 : e0 = 0
    · subst he0
      rw [if_pos rfl] at hres
      simp only [Prod.mk.injEq] at hres
      obtain ⟨rfl, rfl, rfl, rfl⟩ := hres
      go_enter Try.func19, Try.ntmps19
      go_wp2_with (go_at_call 35; (with_reducible refine (CS.out _).mono ?_); rintro r w2 ⟨A5, c5, rfl, hl2, hr2, hc2⟩; have B2 := Lib.hid (BoxT.new w _ _ _ hl2); have L2 := Lib.hid (Later.trans hla.out hl2); obtain ⟨p0, p1, p2, p3⟩ := B2.out.facts; clear hl2 hr2 hc2)
      refine bodyPost_ret (v := .tuple #[.agg #[.string ⟨#[]⟩, .slice none 0 0], .int .i64 0, .int .i64 10]) (by simp [results, Try.results19, go_sem, p0, p1]) rfl ⟨.slice none 0 0, [], rfl, only_low L2.out (only_set2 w2 _ _ _) (Nat.le_refl _), OwnA.nil _ _, rfl⟩
    · have hei : ((e0 : Int) == 0) = false := by simp; exact he0
      rw [if_neg he0] at hres
      simp only [Prod.mk.injEq] at hres
      obtain ⟨rfl, rfl, rfl, rfl⟩ := hres
      go_enter Try.func19, Try.ntmps19
      go_wp2_with (go_at_call 35; (with_reducible refine (CS.out _).mono ?_); rintro r w2 ⟨A5, c5, rfl, hl2, hr2, hc2⟩; have B2 := Lib.hid (BoxT.new w _ _ _ hl2); have L2 := Lib.hid (Later.trans hla.out hl2); obtain ⟨p0, p1, p2, p3⟩ := B2.out.facts; clear hl2 hr2 hc2)
      refine bodyPost_ret (v := .tuple #[.agg #[.string ⟨#[]⟩, .slice none 0 0], .int .i64 0, .int .i64 (e0 : Int)]) (by simp [results, Try.results19, go_sem, p0, p1]) rfl ⟨.slice none 0 0, [], rfl, only_low L2.out (only_set2 w2 _ _ _) (Nat.le_refl _), OwnA.nil _ _, rfl⟩
  dsimp only at hres
  obtain ⟨q, hq⟩ : ∃ q, (hr0 :: rows).length = q := ⟨_, rfl⟩
  have hq2 : rows.length + 1 = q := by rw [← hq]; simp
  have hqz : ((q : Int) == 0) = false := by simp; omega
  have hqp : (0 : Int) < (q : Int) := by omega
  rw [hq] at hct CS
  have HQ := Lib.hid (And.intro hq hq2)
  have HSM := Lib.hid hsm
  have hz := mkS_size hr0
  have htk := mkS_take hr0 14
  have hdr := mkS_drop hr0 14
  rw [hz] at hdr
  have hmk := mkS_mark
  have hlen0 := hsm hr0 (List.mem_cons_self ..)
  obtain ⟨n0, hn0⟩ : ∃ n0, n0 = hr0.length := ⟨_, rfl⟩
  rw [← hn0] at hz hdr hlen0
  clear hq hq2 hsm
  by_cases hb : headB hr0 = true
  case neg =>
    have hbf : headB hr0 = false := by simpa using hb
    rw [if_neg hb] at hres
    simp only [Prod.mk.injEq] at hres
    obtain ⟨rfl, rfl, rfl, rfl⟩ := hres
    have hcase : n0 < 14 ∨ (¬ n0 < 14 ∧ 4110 < n0) ∨ (¬ n0 < 14 ∧ ¬ 4110 < n0 ∧ ((mkS (hr0.take 14)).toList == (mkS markL).toList) = false) := by
      by_cases h1 : n0 < 14
      · exact .inl h1
      by_cases h2 : 4110 < n0
      · exact .inr (.inl ⟨h1, h2⟩)
      exact .inr (.inr ⟨h1, h2, mkS_ne fun e => hb (decide_eq_true ⟨e, by omega⟩)⟩)
    clear hb hbf hn0
    rcases hcase with h1 | ⟨h1, h2⟩ | ⟨h1, h2, h3⟩
    all_goals
      go_enter Try.func19, Try.ntmps19
      go_wp2_with (go_at_call 35; (with_reducible refine (CS.out _).mono ?_); rintro r w2 ⟨A5, c5, rfl, hl2, hr2, hc2⟩; obtain ⟨ad, hl1, rfl, _, hcell⟩ := hr2.at_map (k := 0) (by omega); rw [Addr.add_zero'] at hcell; have hcell' : w2.cell? ad = some (.string (mkS hr0)) := hcell; have B2 := Lib.hid (BoxT.new w _ _ _ hl2); have L2 := Lib.hid (Later.trans hla.out hl2); obtain ⟨p0, p1, p2, p3⟩ := B2.out.facts; clear hl2 hr2 hc2 hcell)
      have hX := only_low L2.out (only_set2 w2 w.heap.size (.string ⟨#[]⟩) (.slice none 0 0)) (Nat.le_refl _)
      refine bodyPost_ret (v := .tuple #[.agg #[.string ⟨#[]⟩, .slice none 0 0], .int .i64 0, .int .i64 11]) (by simp [results, Try.results19, go_sem, p0, p1]) rfl (by first | exact ⟨.slice none 0 0, [], rfl, hX, OwnA.nil _ _, rfl⟩ | exact ⟨.slice none 0 0, rfl, hX, OwnA.nil _ _⟩)
  rw [if_pos hb] at hres
  have hb2 := of_decide_eq_true hb
  have h14 := take_mark hb2.1
  rw [← hn0] at hb2 h14
  have htk2 : ((mkS (hr0.take 14)).toList == (mkS markL).toList) = true := by rw [hb2.1]; simp
  have hh1 : (14 : Int) ≤ (n0 : Int) := by omega
  have hh2 : (n0 : Int) ≤ 4110 := by omega
  obtain ⟨s, hs⟩ : ∃ s, s = hr0.drop 14 := ⟨_, rfl⟩
  rw [← hs] at hdr hres
  have c1 := fun W => refOne_v hr0 W (by rw [← hn0]; omega)
  obtain ⟨f0, hf0⟩ : ∃ f0, f0 = (frameL hr0).length := ⟨_, rfl⟩
  obtain ⟨T0, hT0⟩ : ∃ T, T = mkS (frameL hr0) := ⟨_, rfl⟩
  have zT0 : T0.size = f0 := by rw [hT0, mkS_size, hf0]
  rw [← hT0] at c1
  have C1 := Lib.hid c1
  have HF0 := Lib.hid hf0
  clear c1 hb2 h14 hs hf0 hT0 hb hn0
  go_enter Try.func19, Try.ntmps19
  go_wp2_with (first
    | (go_at_call 35; (with_reducible refine (CS.out _).mono ?_); rintro r w2 ⟨A5, c5, rfl, hl2, hr2, hc2⟩; have R2 := Lib.hid hr2; obtain ⟨ad, hl1, rfl, _, hcell⟩ := hr2.at_map (k := 0) (by omega); rw [Addr.add_zero'] at hcell; have hcell' : w2.cell? ad = some (.string (mkS hr0)) := hcell; have B2 := Lib.hid (BoxT.new w _ _ _ hl2); have L2 := Lib.hid (Later.trans hla.out hl2); clear hl2 hr2 hc2 hcell)
    | (go_at_call 15; (with_reducible refine (C1.out _).mono ?_); rintro r w3 ⟨rfl, hl3⟩; have L3 := Lib.hid hl3; clear hl3))
  have hl23 := Later.trans (Later.alloc w2 (.cells #[.string (mkS s), .slice none 0 0] 45)) L3.out
  have hrt : RT w w2 w3 w2.heap.size s (.slice none 0 0) [] := ⟨Later.trans L2.out hl23, hl23, B2.out.later hl23, BoxT.new w2 _ _ _ L3.out, OwnA.nil _ _, B2.out.lt⟩
  have HRT := Lib.hid hrt
  obtain ⟨b9, hb9⟩ : ∃ b, w2.heap.size = b := ⟨_, rfl⟩
  rw [hb9] at HRT R2 ⊢
  clear hrt hcell' hb9 hl23 htk hmk hdr hz htk2 C1
  have h00 : (hr0 :: rows.take 0).flatMap frameL = frameL hr0 := by simp
  go_loopw [10, 11] (fun x i wr => ∃ (k : Nat) (zs : List AnsP) (v : Value), k ≤ rows.length ∧ i = .int .i64 ((k : Int) + 1) ∧ x = .int .i64 (((hr0 :: rows.take k).flatMap frameL).length : Int) ∧ zs.length = k ∧ zs.map (·.1) = (rows.take k).map (fun r => ansT (toldM r).1) ∧ (∀ (j : Nat) (h : j < rows.length), j < k → (toldM rows[j]).2 = 0) ∧ RT w w2 wr b9 s v zs) (fun _ i _ => q - (intOf i).toNat)
  case atStart => exact ⟨0, [], .slice none 0 0, by omega, by simp, by rw [h00, ← HF0.out], rfl, by simp, fun j _ h => by omega, HRT.out⟩
  case round =>
    obtain ⟨k, zs, v, hk, rfl, rfl, hzl, hzm, hall, hrt⟩ := hrel
    obtain ⟨wh, hwh⟩ : ∃ wh, wh = ((hr0 :: rows.take k).flatMap frameL).length := ⟨_, rfl⟩
    rw [← hwh]
    have HZL := Lib.hid hzl
    have HZM := Lib.hid hzm
    have HALL := Lib.hid hall
    have HR1 := Lib.hid hrt
    have HWH := Lib.hid hwh
    obtain ⟨p0, p1, p2, p3⟩ := hrt.b2.facts
    obtain ⟨A4, c4, rfl, h41, h42⟩ := own_slice7 hrt.own.own
    obtain ⟨q0, q1, q2, q3⟩ := hrt.b9.facts
    rw [hzl] at HR1 q1
    clear hzl hzm hall hrt h41 h42 hwh HRT
    by_cases hkn : k < rows.length
    · obtain ⟨ad', hl1', e', hbb, hcell⟩ := (R2.out.below HR1.out.old).at_map (k := k + 1) (by have := HQ.out.2; omega)
      cases e'
      obtain ⟨r, hrr⟩ : ∃ r, r = rows[k] := ⟨_, rfl⟩
      have hcells : ∀ W, Below b9 w2 W → W.cell? ⟨ad.block, ad.off + (k + 1), none⟩ = some (.string (mkS r)) := by
        intro W hW
        obtain ⟨ad2, _, e2, _, hc2⟩ := (R2.out.below hW).at_map (k := k + 1) (by have := HQ.out.2; omega)
        cases e2
        rw [add_ne _ _ (by omega)] at hc2
        rw [hrr]
        exact hc2
      have hcell' := hcells wr HR1.out.old
      have HCELLS := Lib.hid hcells
      have hrl : r.length ≤ 65536 := by rw [hrr]; exact HSM.out _ (List.mem_cons_of_mem _ (List.getElem_mem hkn))
      obtain ⟨⟨⟨kk, ee, nn, mm, tt, ll, ss⟩, f⟩, hto⟩ : ∃ x, toldM r = x := ⟨_, rfl⟩
      have ct := fun W => refToldK2 hto W (by omega)
      have hll := told_len hto
      have CT := Lib.hid ct
      have HRR := Lib.hid hrr
      have HTO := Lib.hid hto
      have HLL := Lib.hid hll
      have hk0 : (0 : Int) ≤ (k : Int) + 1 := by omega
      have hk1 : (k : Int) + 1 < (q : Int) := by have := HQ.out.2; omega
      have hkt : ((k : Int) + 1).toNat = k + 1 := by omega
      clear ct hrr hto hll hcell hbb hl1' hcells
      have hwb : wh ≤ 10000000000000 := by
        rw [HWH.out]
        have h1 := frames_le (ls := hr0 :: rows.take k) fun r hr => HSM.out r (by
          rcases List.mem_cons.1 hr with rfl | hr
          · exact List.mem_cons_self ..
          · exact List.mem_cons_of_mem _ (List.mem_of_mem_take hr))
        have h2 : (hr0 :: rows.take k).length = k + 1 := by rw [List.length_cons, List.length_take]; omega
        have := HQ.out.2
        rw [h2] at h1; omega
      by_cases hf : f = 0
      · subst hf
        have co := fun W => refOne_v r W (by omega)
        obtain ⟨fl, hfl⟩ : ∃ fl, fl = (frameL r).length := ⟨_, rfl⟩
        have hflb : fl ≤ 65550 := by rw [hfl, frameL_len]; have := numL_ten (show r.length < 18446744073709551616 by omega); omega
        obtain ⟨T9, hT9⟩ : ∃ T, T = mkS (frameL r) := ⟨_, rfl⟩
        have zT9 : T9.size = fl := by rw [hT9, mkS_size, hfl]
        rw [← hT9] at co
        have CO := Lib.hid co
        have HFL := Lib.hid hfl
        have hs0 : (0 : Int) ≤ (wh : Int) + (fl : Int) := by omega
        have hs1 : (wh : Int) + (fl : Int) ≤ 4611686018427387904 := by omega
        have hww := wrap64_v hs0 hs1
        have hww2 := wrapi64_v hs0 hs1
        clear hs0 hs1
        clear co hfl hT9 hwb hflb hrl
        go_wp2_with (first
          | (go_at_call 36; (with_reducible refine (CT.out _).mono ?_); rintro e w4 ⟨A2, c2, rfl, hr2, hl4, hf2⟩; have HR4 := Lib.hid (HR1.out.later (Later.trans hl4 (Later.alloc w4 (.cells #[.int .i64 (kk : Int), .int .i64 (ee : Int), .int .i64 nn, .int .i64 mm, .string (mkS tt), .slice A2 ll.length c2, .int .i64 (ss : Int)] 34)))); have RR2 := Lib.hid (rd_later hr2 (Later.alloc w4 (.cells #[.int .i64 (kk : Int), .int .i64 (ee : Int), .int .i64 nn, .int .i64 mm, .string (mkS tt), .slice A2 ll.length c2, .int .i64 (ss : Int)] 34))); have F2 := Lib.hid hf2; have H9 : Hid ((w4.alloc (.cells #[.int .i64 (kk : Int), .int .i64 (ee : Int), .int .i64 nn, .int .i64 mm, .string (mkS tt), .slice A2 ll.length c2, .int .i64 (ss : Int)] 34)).ownsRow (b9 + 1) 34 7 (.slice A4 k c4) k (cellsA zs)) := Lib.hid (by have h9 := HR4.out.own.own; rw [HZL.out] at h9; exact h9); have HS9 : Hid (b9 + 1 ≤ (w4.alloc (.cells #[.int .i64 (kk : Int), .int .i64 (ee : Int), .int .i64 nn, .int .i64 mm, .string (mkS tt), .slice A2 ll.length c2, .int .i64 (ss : Int)] 34)).heap.size) := Lib.hid HR4.out.b9.lt; clear q0 q1 q2 q3 p0 p1 p2 p3; obtain ⟨q0, q1, q2, q3⟩ := HR4.out.b9.facts; obtain ⟨p0, p1, p2, p3⟩ := HR4.out.b2.facts; clear hr2 hl4 hf2)
          | (at_builtin; refine wpList_app7 (w4.alloc (.cells #[.int .i64 (kk : Int), .int .i64 (ee : Int), .int .i64 nn, .int .i64 mm, .string (mkS tt), .slice A2 ll.length c2, .int .i64 (ss : Int)] 34)) #[.int .i64 (kk : Int), .int .i64 (ee : Int), .int .i64 nn, .int .i64 mm, .string (mkS tt), .slice A2 ll.length c2, .int .i64 (ss : Int)] rfl (cs_one ⟨kk, ee, nn, mm, tt, ll, ss⟩ A2 c2) rfl (.tmp 71) (.tmp 73) rfl (b9 + 1) (.slice A4 k c4) k (cellsA zs) rfl H9.out (w4.heap.size + 1) ?hN rfl ?hn HS9.out ?_; (case hN => simp); (case hn => have := HQ.out.2; omega); intro v3 w5 hg3; obtain ⟨A3, c3, rfl, h31, h32⟩ := own_slice7 hg3.own; have HG3 := Lib.hid hg3; have hpush := HR4.out.push (z := (⟨kk, ee, nn, mm, tt, ll, ss⟩, A2, c2)) RR2.out (show ll.length ≤ maxLen by have := HLL.out; unfold maxLen; omega) (fun _ a2 e2 hb => by have h3 := (HR1.out.own.own.lt a2.block hb).2; have := F2.out a2 e2; omega) (fun _ a2 e2 => Nat.le_trans HR1.out.b9.lt (F2.out a2 e2)) (by rw [HZL.out]; exact HG3.out); have HP := Lib.hid hpush; clear q0 q1 q2 q3 p0 p1 p2 p3; obtain ⟨q0, q1, q2, q3⟩ := hpush.1.facts; have hcell2 := HCELLS.out _ hpush.2.old; clear hpush hg3 h31 h32)
          | (go_at_call 15; (with_reducible refine (CO.out _).mono ?_); rintro e w6 ⟨rfl, hl6⟩; have HR6 := Lib.hid (HP.out.2.later hl6); clear hl6))
        have hflat : ((hr0 :: rows.take (k + 1)).flatMap frameL).length = wh + fl := by
          rw [List.take_succ_eq_append_getElem hkn, ← HRR.out, ← List.cons_append, List.flatMap_append, List.length_append, ← HWH.out, HFL.out]; simp
        have HFLAT := Lib.hid hflat
        clear hflat
        go_roundw
        case rel =>
          refine ⟨k + 1, zs ++ [(⟨kk, ee, nn, mm, tt, ll, ss⟩, A2, c2)], _, by omega, int_eq (by omega), int_eq (by rw [HFLAT.out]; omega), by rw [List.length_append, HZL.out]; rfl, ?_, fun j hj hjk => ?_, HR6.out⟩
          · rw [List.map_append, HZM.out, List.take_succ_eq_append_getElem hkn, List.map_append, ← HRR.out]
            simp only [List.map_cons, List.map_nil]
            rw [HTO.out]
            rfl
          · by_cases e : j = k
            · subst e; rw [← HRR.out, HTO.out]
            · exact HALL.out j hj (by omega)
        case measure => simp only [intOf]; omega
      · have hne : ((f : Int) != 0) = true := by simp; exact hf
        have hst := tolds_stop hkn HALL.out (by rw [← HRR.out, HTO.out]; exact hf)
        rw [← HRR.out, HTO.out] at hst
        dsimp only at hst
        rw [hst] at hres
        dsimp only at hres
        rw [if_neg hf] at hres
        have hmin : ((rows.take k).map (fun r => ansT (toldM r).1)).length = k := by rw [List.length_map, List.length_take]; omega
        rw [hmin, ← HWH.out] at hres
        simp only [Prod.mk.injEq] at hres
        obtain ⟨rfl, rfl, rfl, rfl⟩ := hres
        clear hst hf hwb hmin
        go_wp2_with (go_at_call 36; (with_reducible refine (CT.out _).mono ?_); rintro e w4 ⟨A2, c2, rfl, hr2, hl4, hf2⟩; have HR4 := Lib.hid (HR1.out.later (Later.trans hl4 (Later.alloc w4 (.cells #[.int .i64 (kk : Int), .int .i64 (ee : Int), .int .i64 nn, .int .i64 mm, .string (mkS tt), .slice A2 ll.length c2, .int .i64 (ss : Int)] 34)))); clear q0 q1 q2 q3 p0 p1 p2 p3; obtain ⟨q0, q1, q2, q3⟩ := HR4.out.b9.facts; obtain ⟨p0, p1, p2, p3⟩ := HR4.out.b2.facts; clear hr2 hl4 hf2)
        have hX := only_low HR4.out.bel (only_set2 (w4.alloc (.cells #[.int .i64 (kk : Int), .int .i64 (ee : Int), .int .i64 nn, .int .i64 mm, .string (mkS tt), .slice A2 ll.length c2, .int .i64 (ss : Int)] 34)) w.heap.size (.string (mkS s)) (.slice A4 k c4)) (Nat.le_refl _)
        have hY := (HR4.out.own.only (only_set2 (w4.alloc (.cells #[.int .i64 (kk : Int), .int .i64 (ee : Int), .int .i64 nn, .int .i64 mm, .string (mkS tt), .slice A2 ll.length c2, .int .i64 (ss : Int)] 34)) w.heap.size (.string (mkS s)) (.slice A4 k c4)) (fun i e => by rw [e]; exact Nat.lt_succ_of_lt HR4.out.lo)).mono (show w.heap.size ≤ b9 + 1 from Nat.le_succ_of_le (Nat.le_of_lt HR4.out.lo))
        refine bodyPost_ret (v := .tuple #[.agg #[.string (mkS s), .slice A4 k c4], .int .i64 (wh : Int), .int .i64 (f : Int)]) (by simp [results, Try.results19, go_sem, p0, p1]) rfl (by first | exact ⟨.slice A4 k c4, zs, rfl, hX, hY, HZM.out⟩ | exact ⟨.slice A4 k c4, rfl, hX, zs, hY, HZM.out⟩)
    · have hke : k = rows.length := by omega
      have hal := tolds_all (ls := rows) fun j hj => HALL.out j hj (by omega)
      have he : rows.take k = rows := List.take_of_length_le (by omega)
      rw [he] at HZM
      rw [hal] at hres
      dsimp only at hres
      rw [if_pos rfl] at hres
      simp only [Prod.mk.injEq] at hres
      obtain ⟨rfl, rfl, rfl, rfl⟩ := hres
      have hkq : ¬ (k : Int) + 1 < (q : Int) := by have := HQ.out.2; omega
      clear hal he hke
      go_wp2
      have hX := only_low HR1.out.bel (only_set2 wr w.heap.size (.string (mkS s)) (.slice A4 k c4)) (Nat.le_refl _)
      have hY := (HR1.out.own.only (only_set2 wr w.heap.size (.string (mkS s)) (.slice A4 k c4)) (fun i e => by rw [e]; exact Nat.lt_succ_of_lt HR1.out.lo)).mono (show w.heap.size ≤ b9 + 1 from Nat.le_succ_of_le (Nat.le_of_lt HR1.out.lo))
      refine bodyPost_ret (v := .tuple #[.agg #[.string (mkS s), .slice A4 k c4], .int .i64 (m0 : Int), .int .i64 (e0 : Int)]) (by simp [results, Try.results19, go_sem, p0, p1]) rfl (by first | exact ⟨.slice A4 k c4, zs, rfl, hX, hY, HZM.out⟩ | exact ⟨.slice A4 k c4, rfl, hX, zs, hY, HZM.out⟩)
end Go.Proofs.Ytemokpnepnmmkaa
