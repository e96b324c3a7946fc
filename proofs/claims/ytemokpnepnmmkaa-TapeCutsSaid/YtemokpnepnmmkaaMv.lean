/- tape's Read: the tape of any bytes. -/
import Derived.Test.YtemokpnepnmmkaaMu
namespace Go.Proofs.Ytemokpnepnmmkaa
open Go.RowKit
theorem RdL.cut {w : World} {B n k cap : Nat} {A : Option Addr} {ls : List (List UInt8)} (h : RdL w B A n ls) (hk : k ≤ n) (hc : n ≤ cap) : RdL w B (if cap = k then A else A.map (·.add k)) (n - k) (ls.drop k) := by
  refine ⟨by rw [List.length_drop, h.1], fun j hj => ?_⟩
  rw [List.length_drop] at hj
  obtain ⟨ad, A', n', c', rfl, h1, h2, h3, h4⟩ := h.2 (k + j) (by omega)
  rw [if_neg (by have := h.1; omega)]
  refine ⟨ad.add k, A', n', c', rfl, by rw [block_add]; exact h1, by rw [add_add]; exact h2, ?_, h4⟩
  rw [List.getElem_drop]
  exact h3
theorem RdL.take {w : World} {B n k : Nat} {A : Option Addr} {ls : List (List UInt8)} (h : RdL w B A n ls) (hk : k ≤ n) : RdL w B A k (ls.take k) := by
  refine ⟨by rw [List.length_take, h.1]; omega, fun j hj => ?_⟩
  rw [List.length_take] at hj
  obtain ⟨ad, A', n', c', rfl, h1, h2, h3, h4⟩ := h.2 j (by omega)
  exact ⟨ad, A', n', c', rfl, h1, h2, by rw [List.getElem_take]; exact h3, h4⟩
theorem RdL.later {w w' : World} {n : Nat} {A : Option Addr} {ls : List (List UInt8)} (h : RdL w w.heap.size A n ls) (hl : Later w w') : RdL w' w'.heap.size A n ls := by
  refine ⟨h.1, fun j hj => ?_⟩
  obtain ⟨ad, A', n', c', rfl, h3, h4, h5, h6⟩ := (RdL.keep h hl).2 j hj
  exact ⟨ad, A', n', c', rfl, Nat.lt_of_lt_of_le h3 hl.size, h4, h5.more hl.size, h6⟩
/-- A tape's two cells lie in block b. -/
def Boxed2 (w : World) (b : Nat) (x y : Value) : Prop := w.heap[b]? = some (.cells #[x, y] 41 (0, 0))
section
variable {W W' : World} {b : Nat} {x y : Value}
theorem Boxed2.later (h : Boxed2 W b x y) (hl : Later W W') : Boxed2 W' b x y := (hl.block b (Array.getElem?_eq_some_iff.1 h).1).trans h
theorem Boxed2.facts (h : Boxed2 W b x y) : W.cell? ⟨b, 0, none⟩ = some x ∧ W.cell? ⟨b, 1, none⟩ = some y ∧ W.frozen? ⟨b, 0, none⟩ = false ∧ W.frozen? ⟨b, 1, none⟩ = false := ⟨(cell_row h 0).1, (cell_row h 1).1, (cell_row h 0).2, (cell_row h 1).2⟩
theorem Boxed2.set (h : Boxed2 W b x y) (x' y' : Value) : Boxed2 ((W.setCell ⟨b, 0, none⟩ x').setCell ⟨b, 1, none⟩ y') b x' y' := by
  have h1 := set_row h 0 x'
  exact set_row h1 1 y'
theorem Boxed2.only (W : World) (b : Nat) (x' y' : Value) : Only (fun i => i = b) W ((W.setCell ⟨b, 0, none⟩ x').setCell ⟨b, 1, none⟩ y') := by
  refine ⟨rfl, rfl, rfl, by simp, fun i _ hn => ?_⟩
  rw [Below.heap_setCell _ _ _ _ hn, Below.heap_setCell _ _ _ _ hn]
theorem Only.base {w : World} (hl : Later w W) (h : Only (fun i => i = w.heap.size) W W') : Later w W' := Below.trans hl (h.below hl.size fun i e => by rw [e]; exact Nat.le_refl _)
end
abbrev ZT : Array Value := #[.string ⟨#[]⟩, .slice none 0 0]
theorem tape_zero (w : World) {W : World} (h : Later (w.alloc (.cells ZT 41)) W) : Boxed2 W w.heap.size (.string ⟨#[]⟩) (.slice none 0 0) := (h.block _ (by simp)).trans (heap_alloc_new w _)
theorem tape_cells (w : World) (x y : Value) : ∀ W, Later (w.alloc (.cells #[x, y] 41)) W → W.cell? ⟨w.heap.size, 0, none⟩ = some x ∧ W.cell? ⟨w.heap.size, 1, none⟩ = some y := by
  intro W h
  have hb : Boxed2 W w.heap.size x y := (h.block _ (by simp)).trans (heap_alloc_new w _)
  exact ⟨hb.facts.1, hb.facts.2.1⟩
/-- A slice of so many elements. -/
def spSome {G : World → World → Prop} (n : Nat) : Sp G := ⟨fun v _ => ∃ A c, v = .slice A n c, fun _ _ _ _ h => h⟩
set_option maxRecDepth 100000 in
set_option maxHeartbeats 1000000 in
theorem readT_w (A : Option Addr) (n c : Nat) (bs : List UInt8) (hlen : bs.length = n) (w : World) (hr : Rd w w.heap.size A n (bs.map bv)) (hn : n ≤ 100000000) (hc : n ≤ c) (hcm : c ≤ maxLen) (S : List UInt8) (R : List Ans) (m e : Nat) (hres : tapeM bs = (S, R, m, e)) :
    Calls Try.prog 18 #[.slice A n c] w fun r w' => ∃ v zs, r = .returned (.tuple #[.agg #[.string (mkS S), v], .int .i64 (m : Int), .int .i64 (e : Int)]) ∧ Later w w' ∧ OwnA w' w.heap.size v zs ∧ zs.map (·.1) = R := by
  have hla := Lib.hid (Later.alloc w (.cells ZT 41))
  by_cases h0 : n = 0
  · subst h0
    obtain rfl : bs = [] := List.length_eq_zero_iff.1 hlen
    obtain ⟨rfl, rfl, rfl, rfl⟩ : [] = S ∧ [] = R ∧ 0 = m ∧ 10 = e := by simpa [tapeM, scanF] using hres
    clear hres hr hlen
    go_enter Try.func18, Try.ntmps18
    go_wp2
    refine bodyPost_ret (v := .tuple #[.agg #[.string ⟨#[]⟩, .slice none 0 0], .int .i64 0, .int .i64 10]) (by simp [results, Try.results18, go_sem]) rfl ⟨.slice none 0 0, [], rfl, hla.out, OwnA.nil _ _, rfl⟩
  obtain ⟨⟨rows, m0, e0⟩, hsc⟩ : ∃ z, scanF bs.length bs = z := ⟨_, rfl⟩
  have hne : bs ≠ [] := fun h => h0 (by rw [← hlen, h]; rfl)
  have hsm := scan_small bs.length bs
  have hct := scan_count bs.length bs
  have hno := scan_none hne
  unfold tapeM at hres
  rw [hsc] at hsm hct hno hres
  dsimp only at hsm hct hno hres
  rw [hlen] at hct
  have cs : ∀ W, Later w W → Calls Try.prog 32 #[.slice A n c] W fun r W' => ∃ A5 c5, r = .returned (.tuple #[.slice A5 rows.length c5, .int .i64 (m0 : Int), .int .i64 (e0 : Int)]) ∧ Later W W' ∧ RdL W' W'.heap.size A5 rows.length rows ∧ rows.length ≤ c5 := by
    intro W hW
    refine (scan_v A n c _ bs W (rd_later hr hW) (Nat.le_refl _) (by omega) hc hcm).mono ?_
    rintro r W' ⟨v, rs, rfl, hb, hm⟩
    rw [← hlen, hsc] at hm ⊢
    obtain ⟨A5, c5, rfl, h5, h6⟩ := hm.rdL
    exact ⟨A5, c5, rfl, hb, h6, h5⟩
  have CS := Lib.hid cs
  have h0i : ((n : Int) == 0) = false := by simp; exact h0
  clear cs hsc hr hlen hne
  unfold maxLen at hcm
  rcases rows with _ | ⟨hr0, rows⟩
  · have he0 := hno rfl
    simp only [if_neg he0, Prod.mk.injEq] at hres
    obtain ⟨rfl, rfl, rfl, rfl⟩ := hres
    clear hno hsm hct
    go_enter Try.func18, Try.ntmps18
    go_wp2_with (go_at_call 32; (with_reducible refine (CS.out _ hla.out).mono ?_); rintro r w2 ⟨A5, c5, rfl, hl2, hr2, hc2⟩; have B2 := Lib.hid (tape_zero w hl2); have L2 := Lib.hid (Later.trans hla.out hl2); obtain ⟨p0, p1, p2, p3⟩ := B2.out.facts; clear hl2 hr2 hc2)
    refine bodyPost_ret (v := .tuple #[.agg #[.string ⟨#[]⟩, .slice none 0 0], .int .i64 0, .int .i64 (e0 : Int)]) (by simp [results, Try.results18, go_sem, p0, p1]) rfl ⟨.slice none 0 0, [], rfl, Only.base L2.out (Boxed2.only w2 _ _ _), OwnA.nil _ _, rfl⟩
  clear hno
  dsimp only at hres
  obtain ⟨q, hq⟩ : ∃ q, (hr0 :: rows).length = q := ⟨_, rfl⟩
  have hq1 : 1 ≤ q := by rw [← hq]; simp
  have hq2 : rows.length = q - 1 := by rw [← hq]; simp
  have hqz : ((q : Int) == 0) = false := by simp; omega
  have hq1i : (1 : Int) ≤ (q : Int) := by omega
  have hqp : (0 : Int) < (q : Int) := by omega
  rw [hq] at hct CS
  have HQ := Lib.hid (And.intro hq hq2)
  have HSM := Lib.hid hsm
  clear hq hq2 hsm
  by_cases hb : headB hr0 = true
  case neg =>
    have hbf : headB hr0 = false := by simpa using hb
    rw [if_neg hb] at hres
    simp only [Prod.mk.injEq] at hres
    obtain ⟨rfl, rfl, rfl, rfl⟩ := hres
    have csc := fun (A' : Option Addr) (n' c' : Nat) W (hrd : Rd W W.heap.size A' n' (hr0.map bv)) => scriptOf_v A' n' c' hr0 W hrd
    rw [hbf] at csc
    have CC := Lib.hid csc
    clear csc hb hbf
    go_enter Try.func18, Try.ntmps18
    go_wp2_with (first
      | (go_at_call 32; (with_reducible refine (CS.out _ hla.out).mono ?_); rintro r w2 ⟨A5, c5, rfl, hl2, hr2, hc2⟩; obtain ⟨ad, A', n', c', rfl, hb5, hcell, hrow, hmx⟩ := hr2.2 0 (by simp); rw [Addr.add_zero'] at hcell; have R2 := Lib.hid hrow; have B2 := Lib.hid (tape_zero w hl2); have L2 := Lib.hid (Later.trans hla.out hl2); obtain ⟨p0, p1, p2, p3⟩ := B2.out.facts; clear hl2 hr2 hc2 hmx hrow)
      | (go_at_call 33; (with_reducible refine (CC.out A' n' c' _ R2.out).mono ?_); rintro r w' ⟨rfl, rfl⟩))
    refine bodyPost_ret (v := .tuple #[.agg #[.string ⟨#[]⟩, .slice none 0 0], .int .i64 0, .int .i64 11]) (by simp [results, Try.results18, go_sem, p0, p1]) rfl ⟨.slice none 0 0, [], rfl, Only.base L2.out (Boxed2.only w2 _ _ _), OwnA.nil _ _, rfl⟩
  rw [if_pos hb] at hres
  have csc := fun (A' : Option Addr) (n' c' : Nat) W (hrd : Rd W W.heap.size A' n' (hr0.map bv)) => scriptOf_v A' n' c' hr0 W hrd
  rw [hb] at csc
  rw [if_pos rfl] at csc
  obtain ⟨s, hs⟩ : ∃ s, s = hr0.drop 14 := ⟨_, rfl⟩
  obtain ⟨⟨xs, f⟩, hto⟩ : ∃ z, toldsM rows = z := ⟨_, rfl⟩
  have hal := toldsM_len rows
  rw [← hs] at csc hres
  rw [hto] at hres hal
  dsimp only at hres hal
  have ct := fun (A' : Option Addr) (k c' : Nat) W (hrd : RdL W W.heap.size A' k rows) (hk : k ≤ 1000000000000) => told_w A' k c' rows W hrd hk (fun r hr => HSM.out r (List.mem_cons_of_mem _ hr))
  rw [hto] at ct
  have CC := Lib.hid csc
  have CT := Lib.hid ct
  have HAL := Lib.hid hal
  have HS := Lib.hid (And.intro hs (And.intro hto hb))
  clear csc ct hs hto hb hal
  by_cases hf : f = 0
  · subst hf
    rw [if_pos rfl] at hres
    simp only [Prod.mk.injEq] at hres
    obtain ⟨rfl, rfl, rfl, rfl⟩ := hres
    go_enter Try.func18, Try.ntmps18
    go_wp2_with (first
      | (go_at_call 32; (with_reducible refine (CS.out _ hla.out).mono ?_); rintro r w2 ⟨A5, c5, rfl, hl2, hr2, hc2⟩; obtain ⟨ad, A', n', c', rfl, hb5, hcell, hrow, hmx⟩ := hr2.2 0 (by simp); rw [Addr.add_zero'] at hcell; have R7a : Hid (c5 = 1 → RdL w2 w2.heap.size (some ad) (q - 1) rows) := Lib.hid (fun h1 => by have := hr2.cut hq1 hc2; rw [if_pos h1] at this; exact this); have R7b : Hid (¬ c5 = 1 → RdL w2 w2.heap.size (some ⟨ad.block, ad.off + 1, none⟩) (q - 1) rows) := Lib.hid (fun h1 => by have := hr2.cut hq1 hc2; rw [if_neg h1] at this; exact this); have R2 := Lib.hid hrow; have B2 := Lib.hid (tape_zero w hl2); have L2 := Lib.hid (Later.trans hla.out hl2); have hc1i : (1 : Int) ≤ (c5 : Int) := (by omega); have hqci : (q : Int) ≤ (c5 : Int) := (by omega); clear hl2 hr2 hmx hrow)
      | (go_at_call 33; (with_reducible refine (CC.out A' n' c' _ R2.out).mono ?_); rintro r w' ⟨rfl, rfl⟩)
      | (go_at_call 34; (first | (with_reducible refine (CT.out (some ad) (q - 1) _ _ (R7a.out (by assumption)) (by omega)).mono ?_) | (with_reducible refine (CT.out (some ⟨ad.block, ad.off + 1, none⟩) (q - 1) _ _ (R7b.out (by assumption)) (by omega)).mono ?_)); rintro r w3 ⟨v3, zs, rfl, hl3, ho3, hm3⟩; have B3 := Lib.hid (B2.out.later hl3); have L3 := Lib.hid (Later.trans L2.out hl3); have O3 := Lib.hid (ho3.mono (show w.heap.size + 1 ≤ w2.heap.size from (Array.getElem?_eq_some_iff.1 B2.out).1)); have M3 := Lib.hid hm3; obtain ⟨A3, c3, rfl, h31, h32⟩ := own_slice7 ho3.own; have B4 := Lib.hid (B3.out.later (Later.alloc w3 (.cells #[.string (mkS s), .slice A3 zs.length c3] 41))); obtain ⟨p0, p1, p2, p3⟩ := B4.out.facts; clear hl3 ho3 hm3 h31 h32))
    all_goals
      refine bodyPost_ret (v := .tuple #[.agg #[.string (mkS s), .slice A3 zs.length c3], .int .i64 (m0 : Int), .int .i64 (e0 : Int)]) (by simp [results, Try.results18, go_sem, p0, p1]) rfl ⟨.slice A3 zs.length c3, zs, rfl, Only.base (Later.trans L3.out (Later.alloc w3 _)) (Boxed2.only _ _ _ _), ?_, M3.out⟩
      exact ((O3.out.later (Later.alloc w3 _)).only (Boxed2.only _ _ _ _) (fun i e => by omega)).mono (Nat.le_succ _)
  · rw [if_neg hf] at hres
    simp only [Prod.mk.injEq] at hres
    obtain ⟨rfl, rfl, rfl, rfl⟩ := hres
    have hfn : ((f : Int) != 0) = true := by simp; exact hf
    go_enter Try.func18, Try.ntmps18
    go_wp2_with (first
      | (go_at_call 32; (with_reducible refine (CS.out _ hla.out).mono ?_); rintro r w2 ⟨A5, c5, rfl, hl2, hr2, hc2⟩; obtain ⟨ad, A', n', c', rfl, hb5, hcell, hrow, hmx⟩ := hr2.2 0 (by simp); rw [Addr.add_zero'] at hcell; have R7a : Hid (c5 = 1 → RdL w2 w2.heap.size (some ad) (q - 1) rows) := Lib.hid (fun h1 => by have := hr2.cut hq1 hc2; rw [if_pos h1] at this; exact this); have R7b : Hid (¬ c5 = 1 → RdL w2 w2.heap.size (some ⟨ad.block, ad.off + 1, none⟩) (q - 1) rows) := Lib.hid (fun h1 => by have := hr2.cut hq1 hc2; rw [if_neg h1] at this; exact this); have RLL := Lib.hid hr2; have R2 := Lib.hid hrow; have B2 := Lib.hid (tape_zero w hl2); have L2 := Lib.hid (Later.trans hla.out hl2); have hc1i : (1 : Int) ≤ (c5 : Int) := (by omega); have hqci : (q : Int) ≤ (c5 : Int) := (by omega); clear hl2 hr2 hmx hrow)
      | (go_at_call 33; (with_reducible refine (CC.out A' n' c' _ R2.out).mono ?_); rintro r w' ⟨rfl, rfl⟩)
      | (go_at_call 34; (first | (with_reducible refine (CT.out (some ad) (q - 1) _ _ (R7a.out (by assumption)) (by omega)).mono ?_) | (with_reducible refine (CT.out (some ⟨ad.block, ad.off + 1, none⟩) (q - 1) _ _ (R7b.out (by assumption)) (by omega)).mono ?_)); rintro r w3 ⟨v3, zs, rfl, hl3, ho3, hm3⟩; have B3 := Lib.hid (B2.out.later hl3); have L3 := Lib.hid (Later.trans L2.out hl3); have O3 := Lib.hid (ho3.mono (show w.heap.size + 1 ≤ w2.heap.size from (Array.getElem?_eq_some_iff.1 B2.out).1)); have M3 := Lib.hid hm3; obtain ⟨A3, c3, rfl, h31, h32⟩ := own_slice7 ho3.own; have B4 := Lib.hid (B3.out.later (Later.alloc w3 (.cells #[.string (mkS s), .slice A3 zs.length c3] 41))); obtain ⟨p0, p1, p2, p3⟩ := B4.out.facts; have hzq : zs.length + 1 ≤ q := (by have h1 := congrArg List.length hm3; rw [List.length_map] at h1; have := HAL.out; have := HQ.out.2; omega); obtain ⟨k, hk⟩ : ∃ k, zs.length = k := ⟨_, rfl⟩; rw [hk] at hzq O3 B4 p0 p1 p2 p3 ⊢; have HK := Lib.hid hk; have hkw : wrap64 (1 + (k : Int)) = 1 + (k : Int) := (by unfold wrap64; omega); have hkw2 : IntKind.i64.wrap (1 + (k : Int)) = 1 + (k : Int) := (by rw [IntKind.wrap_i64]; omega); have hk0 : (0 : Int) ≤ 1 + (k : Int) := (by omega); have hk1 : 1 + (k : Int) ≤ (c5 : Int) := (by omega); have hkt : (1 + (k : Int)).toNat = 1 + k := (by omega); have LL3 := Lib.hid hl3; obtain ⟨wz, hwz⟩ : ∃ wz, w.heap.size = wz := ⟨_, rfl⟩; clear hl3 ho3 hm3 h31 h32 hk))
    · skip
      skip
      have hzl : wz < w3.heap.size := by rw [← hwz]; exact (Array.getElem?_eq_some_iff.1 B3.out).1
      have HC12 := Lib.hid (tape_cells w3 (.string (mkS s)) (.slice A3 k c3))
      obtain ⟨w4, hw4⟩ : ∃ w4, w4 = w3.alloc (.cells #[.string (mkS s), .slice A3 k c3] 41) := ⟨_, rfl⟩
      rw [← hw4] at HC12 B4 ⊢
      have HL4 := Lib.hid (show Later w3 w4 by rw [hw4]; exact Later.alloc _ _)
      rw [hwz] at B4
      have HB2 := B4
      obtain ⟨fl, hfl⟩ : ∃ fl, fl = ((hr0 :: rows.take xs.length).flatMap frameL).length := ⟨_, rfl⟩
      have cp : ∀ (cc : Nat) w, Later w4 w → Calls Try.prog 17 #[.slice (some ad) (1 + k) cc] w fun r w' => ∃ A c, r = .returned (.slice A fl c) ∧ Later w w' := by
        intro cc w hw
        have hkx : k = xs.length := by rw [← HK.out, ← M3.out, List.length_map]
        have h5 := (RLL.out.take (k := 1 + k) (by omega)).later (Later.trans LL3.out (Later.trans HL4.out hw))
        have e5 : (hr0 :: rows).take (1 + k) = hr0 :: rows.take xs.length := by rw [Nat.add_comm, List.take_succ_cons, hkx]
        rw [e5] at h5
        have hsm5 : ∀ r ∈ hr0 :: rows.take xs.length, r.length ≤ 65536 := fun r hr => HSM.out r (by
          rcases List.mem_cons.1 hr with rfl | hr
          · exact List.mem_cons_self ..
          · exact List.mem_cons_of_mem _ (List.mem_of_mem_take hr))
        have hfr := frames_le hsm5
        have hcl : (hr0 :: rows.take xs.length).length = 1 + k := by rw [List.length_cons, List.length_take, ← hkx]; have := HQ.out.2; omega
        refine (putF_v (some ad) (1 + k) cc _ _ w h5 (Nat.le_refl _) (by omega) hsm5 (by rw [hcl] at hfr; omega)).mono ?_
        rintro r w' ⟨v', rfl, hg⟩
        obtain ⟨A, c, rfl, _, _, _⟩ := own_map hg.own
        rw [← hfl]
        exact ⟨A, c, rfl, hg.belowNil⟩
      have CP := Lib.hid cp
      have HFL := Lib.hid hfl
      have HOR : ∀ w w', (Later w4 w ∨ (Boxed2 w wz (.string (mkS s)) (.slice A3 k c3) ∧ Only (fun i => i = wz) w4 w)) → Later w w' → (Later w4 w' ∨ (Boxed2 w' wz (.string (mkS s)) (.slice A3 k c3) ∧ Only (fun i => i = wz) w4 w')) := fun w w' h hl => h.elim (fun h => .inl (Later.trans h hl)) (fun h => .inr ⟨h.1.later hl, h.2.trans (Only.later hl)⟩)
      have HWZ := Lib.hid hwz
      clear cp hfl hw4 hwz
      refine wp_region_writes (by kernel_rfl) 5 (fun W => Later w4 W) (fun W => Boxed2 W wz (.string (mkS s)) (.slice A3 k c3) ∧ Only (fun i => i = wz) w4 W) (Only (fun i => i = wz)) [Sp.val ((.agg #[.string (mkS s), .slice A3 k c3])), Sp.val (.slice (some ad) (1 + k) 1), spSome fl, Sp.val (.int .i64 (fl : Int)), Sp.val (.int .i64 (f : Int)), Sp.any, Sp.val (.int .i64 (fl : Int)), Sp.val (.int .i64 (f : Int))] (by decide) (by kernel_rfl) (Later.drew w4) (fun _ _ h hl => Later.trans h hl) (fun _ _ h hl => ⟨h.1.later hl, h.2.trans (Only.later hl)⟩) (fun _ _ h => Only.later h) ?_ ?_
      · refine ⟨?_, ?_, ?_, ?_, ?_, ?_, ?_, ?_, trivial⟩
        · -- 0: slot 55 := Op.load 41 t12
          unfold OwesP
          rw [if_neg (by decide)]
          refine fun a w hD hC hs => .inl ⟨?_, ?_⟩
          · rfl
          have e12 : a.tmps.getD 12 undef = .pointer (some ⟨w3.heap.size, 0, none⟩) := hs.free 12 rfl
          obtain ⟨q0, q1⟩ := HC12.out w (hD (by decide))
          refine ValWp.pure (v := (.agg #[.string (mkS s), .slice A3 k c3])) (fun K' hK' => ?_) ⟨rfl, hC, Later.refl _⟩
          simp only [ValWp, execOp, Act.eval, e12]
          go_simp
          all_goals exact hK'
        · -- 1: slot 56 := Op.move t13
          unfold OwesP
          rw [if_neg (by decide)]
          refine fun a w hD hC hs => .inl ⟨?_, ?_⟩
          · rfl
          have e13 : a.tmps.getD 13 undef = .slice (some ad) (1 + k) 1 := hs.free 13 rfl
          exact ⟨e13, hC, Later.refl _⟩
        · -- 2: slot 57 := Op.call { value (Operand.func 17), args := #[t56], argTypes := #[38] }
          unfold OwesP
          rw [if_neg (by decide)]
          refine fun a w hD hC hs => .inl ⟨?_, ?_⟩
          · rfl
          have e56 : a.tmps.getD 56 undef = .slice (some ad) (1 + k) 1 := hs.dep 1 _ rfl rfl
          refine ValWp.call #[.slice (some ad) (1 + k) 1] rfl rfl Try.func17 rfl rfl (by simp only [List.map_toArray, List.map_cons, List.map_nil, Act.eval, e56]) ?_
          refine (CP.out 1 w (hD (by decide))).mono ?_
          rintro r w' ⟨A, c, rfl, hb⟩
          exact ⟨_, rfl, ⟨A, c, rfl⟩, HOR w w' hC hb, hb⟩
        · -- 3: slot 58 := Op.call { builtin len, args := #[t57], argTypes := #[28] }
          unfold OwesP
          rw [if_neg (by decide)]
          refine fun a w hD hC hs => .inl ⟨?_, ?_⟩
          · rfl
          obtain ⟨A57, c57, e57⟩ := hs.dep 2 _ rfl rfl
          change a.tmps.getD 57 undef = _ at e57
          refine ValWp.pure (v := .int .i64 (fl : Int)) (fun K' hK' => ?_) ⟨rfl, hC, Later.refl _⟩
          simp only [ValWp, execOp]
          go_simp
          all_goals exact hK'
        · -- 4: slot 59 := Op.move t11
          unfold OwesP
          rw [if_neg (by decide)]
          refine fun a w hD hC hs => .inl ⟨?_, ?_⟩
          · rfl
          have e11 : a.tmps.getD 11 undef = .int .i64 (f : Int) := hs.free 11 rfl
          exact ⟨e11, hC, Later.refl _⟩
        · -- 5: slot None := Op.store 41 t2 t55
          unfold OwesP
          rw [if_pos rfl]
          refine fun a w hC hs => ⟨?_, ?_⟩
          · rfl
          have e2 : a.tmps.getD 2 undef = .pointer (some ⟨wz, 0, none⟩) := hs.free 2 rfl
          have e55 : a.tmps.getD 55 undef = (.agg #[.string (mkS s), .slice A3 k c3]) := hs.dep 0 _ rfl rfl
          have hbx := HB2.out.later hC
          obtain ⟨p0, p1, p2, p3⟩ := hbx.facts
          refine ValWp.pure (v := undef) (w' := (w.setCell ⟨wz, 0, none⟩ (.string (mkS s))).setCell ⟨wz, 1, none⟩ (.slice A3 k c3)) (fun K' hK' => ?_) ⟨trivial, ⟨hbx.set _ _, (Only.later hC).trans (Boxed2.only _ _ _ _)⟩, Boxed2.only _ _ _ _⟩
          simp only [ValWp, execOp, Act.eval, e2, e55]
          go_simp
          all_goals exact hK'
        · -- 6: slot 3 := Op.assign t58
          unfold OwesP
          rw [if_neg (by decide)]
          refine fun a w hD hC hs => .inl ⟨?_, ?_⟩
          · rfl
          have e58 : a.tmps.getD 58 undef = .int .i64 (fl : Int) := hs.dep 3 _ rfl rfl
          exact ⟨e58, hC, Later.refl _⟩
        · -- 7: slot 4 := Op.assign t59
          unfold OwesP
          rw [if_neg (by decide)]
          refine fun a w hD hC hs => .inl ⟨?_, ?_⟩
          · rfl
          have e59 : a.tmps.getD 59 undef = .int .i64 (f : Int) := hs.dep 4 _ rfl rfl
          exact ⟨e59, hC, Later.refl _⟩

      · intro a W hC hd hsz hfree hs
        have e2 : a.tmps.getD 2 undef = .pointer (some ⟨wz, 0, none⟩) := hfree 2 rfl
        have e3 : a.tmps.getD 3 undef = .int .i64 (fl : Int) := hs 6 _ rfl
        have e4 : a.tmps.getD 4 undef = .int .i64 (f : Int) := hs 7 _ rfl
        have hd' : a.defers = [] := hd
        rw [Array.getD_eq_getD_getElem?] at e2 e3 e4
        obtain ⟨hbx, hon⟩ := hC
        obtain ⟨p0, p1, _, _⟩ := hbx.facts
        clear hd hsz hfree hs
        go_wp2
        refine bodyPost_ret (v := .tuple #[.agg #[.string (mkS s), .slice A3 k c3], .int .i64 (fl : Int), .int .i64 (f : Int)]) (by simp [results, Try.results18, go_sem, e2, e3, e4, p0, p1]) hd' ⟨.slice A3 k c3, zs, by rw [HFL.out], ?_, ?_, M3.out⟩
        · exact Only.base (Later.trans L3.out HL4.out) (HWZ.out ▸ hon)
        · exact ((O3.out.later HL4.out).only hon (fun i e => by have := HWZ.out; omega)).mono (Nat.le_succ _)
    · skip
      skip
      have hzl : wz < w3.heap.size := by rw [← hwz]; exact (Array.getElem?_eq_some_iff.1 B3.out).1
      have HC12 := Lib.hid (tape_cells w3 (.string (mkS s)) (.slice A3 k c3))
      obtain ⟨w4, hw4⟩ : ∃ w4, w4 = w3.alloc (.cells #[.string (mkS s), .slice A3 k c3] 41) := ⟨_, rfl⟩
      rw [← hw4] at HC12 B4 ⊢
      have HL4 := Lib.hid (show Later w3 w4 by rw [hw4]; exact Later.alloc _ _)
      rw [hwz] at B4
      have HB2 := B4
      obtain ⟨fl, hfl⟩ : ∃ fl, fl = ((hr0 :: rows.take xs.length).flatMap frameL).length := ⟨_, rfl⟩
      have cp : ∀ (cc : Nat) w, Later w4 w → Calls Try.prog 17 #[.slice (some ad) (1 + k) cc] w fun r w' => ∃ A c, r = .returned (.slice A fl c) ∧ Later w w' := by
        intro cc w hw
        have hkx : k = xs.length := by rw [← HK.out, ← M3.out, List.length_map]
        have h5 := (RLL.out.take (k := 1 + k) (by omega)).later (Later.trans LL3.out (Later.trans HL4.out hw))
        have e5 : (hr0 :: rows).take (1 + k) = hr0 :: rows.take xs.length := by rw [Nat.add_comm, List.take_succ_cons, hkx]
        rw [e5] at h5
        have hsm5 : ∀ r ∈ hr0 :: rows.take xs.length, r.length ≤ 65536 := fun r hr => HSM.out r (by
          rcases List.mem_cons.1 hr with rfl | hr
          · exact List.mem_cons_self ..
          · exact List.mem_cons_of_mem _ (List.mem_of_mem_take hr))
        have hfr := frames_le hsm5
        have hcl : (hr0 :: rows.take xs.length).length = 1 + k := by rw [List.length_cons, List.length_take, ← hkx]; have := HQ.out.2; omega
        refine (putF_v (some ad) (1 + k) cc _ _ w h5 (Nat.le_refl _) (by omega) hsm5 (by rw [hcl] at hfr; omega)).mono ?_
        rintro r w' ⟨v', rfl, hg⟩
        obtain ⟨A, c, rfl, _, _, _⟩ := own_map hg.own
        rw [← hfl]
        exact ⟨A, c, rfl, hg.belowNil⟩
      have CP := Lib.hid cp
      have HFL := Lib.hid hfl
      have HOR : ∀ w w', (Later w4 w ∨ (Boxed2 w wz (.string (mkS s)) (.slice A3 k c3) ∧ Only (fun i => i = wz) w4 w)) → Later w w' → (Later w4 w' ∨ (Boxed2 w' wz (.string (mkS s)) (.slice A3 k c3) ∧ Only (fun i => i = wz) w4 w')) := fun w w' h hl => h.elim (fun h => .inl (Later.trans h hl)) (fun h => .inr ⟨h.1.later hl, h.2.trans (Only.later hl)⟩)
      have HWZ := Lib.hid hwz
      clear cp hfl hw4 hwz
      refine wp_region_writes (by kernel_rfl) 5 (fun W => Later w4 W) (fun W => Boxed2 W wz (.string (mkS s)) (.slice A3 k c3) ∧ Only (fun i => i = wz) w4 W) (Only (fun i => i = wz)) [Sp.val ((.agg #[.string (mkS s), .slice A3 k c3])), Sp.val (.slice (some ad) (1 + k) c5), spSome fl, Sp.val (.int .i64 (fl : Int)), Sp.val (.int .i64 (f : Int)), Sp.any, Sp.val (.int .i64 (fl : Int)), Sp.val (.int .i64 (f : Int))] (by decide) (by kernel_rfl) (Later.drew w4) (fun _ _ h hl => Later.trans h hl) (fun _ _ h hl => ⟨h.1.later hl, h.2.trans (Only.later hl)⟩) (fun _ _ h => Only.later h) ?_ ?_
      · refine ⟨?_, ?_, ?_, ?_, ?_, ?_, ?_, ?_, trivial⟩
        · -- 0: slot 55 := Op.load 41 t12
          unfold OwesP
          rw [if_neg (by decide)]
          refine fun a w hD hC hs => .inl ⟨?_, ?_⟩
          · rfl
          have e12 : a.tmps.getD 12 undef = .pointer (some ⟨w3.heap.size, 0, none⟩) := hs.free 12 rfl
          obtain ⟨q0, q1⟩ := HC12.out w (hD (by decide))
          refine ValWp.pure (v := (.agg #[.string (mkS s), .slice A3 k c3])) (fun K' hK' => ?_) ⟨rfl, hC, Later.refl _⟩
          simp only [ValWp, execOp, Act.eval, e12]
          go_simp
          all_goals exact hK'
        · -- 1: slot 56 := Op.move t13
          unfold OwesP
          rw [if_neg (by decide)]
          refine fun a w hD hC hs => .inl ⟨?_, ?_⟩
          · rfl
          have e13 : a.tmps.getD 13 undef = .slice (some ad) (1 + k) c5 := hs.free 13 rfl
          exact ⟨e13, hC, Later.refl _⟩
        · -- 2: slot 57 := Op.call { value (Operand.func 17), args := #[t56], argTypes := #[38] }
          unfold OwesP
          rw [if_neg (by decide)]
          refine fun a w hD hC hs => .inl ⟨?_, ?_⟩
          · rfl
          have e56 : a.tmps.getD 56 undef = .slice (some ad) (1 + k) c5 := hs.dep 1 _ rfl rfl
          refine ValWp.call #[.slice (some ad) (1 + k) c5] rfl rfl Try.func17 rfl rfl (by simp only [List.map_toArray, List.map_cons, List.map_nil, Act.eval, e56]) ?_
          refine (CP.out c5 w (hD (by decide))).mono ?_
          rintro r w' ⟨A, c, rfl, hb⟩
          exact ⟨_, rfl, ⟨A, c, rfl⟩, HOR w w' hC hb, hb⟩
        · -- 3: slot 58 := Op.call { builtin len, args := #[t57], argTypes := #[28] }
          unfold OwesP
          rw [if_neg (by decide)]
          refine fun a w hD hC hs => .inl ⟨?_, ?_⟩
          · rfl
          obtain ⟨A57, c57, e57⟩ := hs.dep 2 _ rfl rfl
          change a.tmps.getD 57 undef = _ at e57
          refine ValWp.pure (v := .int .i64 (fl : Int)) (fun K' hK' => ?_) ⟨rfl, hC, Later.refl _⟩
          simp only [ValWp, execOp]
          go_simp
          all_goals exact hK'
        · -- 4: slot 59 := Op.move t11
          unfold OwesP
          rw [if_neg (by decide)]
          refine fun a w hD hC hs => .inl ⟨?_, ?_⟩
          · rfl
          have e11 : a.tmps.getD 11 undef = .int .i64 (f : Int) := hs.free 11 rfl
          exact ⟨e11, hC, Later.refl _⟩
        · -- 5: slot None := Op.store 41 t2 t55
          unfold OwesP
          rw [if_pos rfl]
          refine fun a w hC hs => ⟨?_, ?_⟩
          · rfl
          have e2 : a.tmps.getD 2 undef = .pointer (some ⟨wz, 0, none⟩) := hs.free 2 rfl
          have e55 : a.tmps.getD 55 undef = (.agg #[.string (mkS s), .slice A3 k c3]) := hs.dep 0 _ rfl rfl
          have hbx := HB2.out.later hC
          obtain ⟨p0, p1, p2, p3⟩ := hbx.facts
          refine ValWp.pure (v := undef) (w' := (w.setCell ⟨wz, 0, none⟩ (.string (mkS s))).setCell ⟨wz, 1, none⟩ (.slice A3 k c3)) (fun K' hK' => ?_) ⟨trivial, ⟨hbx.set _ _, (Only.later hC).trans (Boxed2.only _ _ _ _)⟩, Boxed2.only _ _ _ _⟩
          simp only [ValWp, execOp, Act.eval, e2, e55]
          go_simp
          all_goals exact hK'
        · -- 6: slot 3 := Op.assign t58
          unfold OwesP
          rw [if_neg (by decide)]
          refine fun a w hD hC hs => .inl ⟨?_, ?_⟩
          · rfl
          have e58 : a.tmps.getD 58 undef = .int .i64 (fl : Int) := hs.dep 3 _ rfl rfl
          exact ⟨e58, hC, Later.refl _⟩
        · -- 7: slot 4 := Op.assign t59
          unfold OwesP
          rw [if_neg (by decide)]
          refine fun a w hD hC hs => .inl ⟨?_, ?_⟩
          · rfl
          have e59 : a.tmps.getD 59 undef = .int .i64 (f : Int) := hs.dep 4 _ rfl rfl
          exact ⟨e59, hC, Later.refl _⟩

      · intro a W hC hd hsz hfree hs
        have e2 : a.tmps.getD 2 undef = .pointer (some ⟨wz, 0, none⟩) := hfree 2 rfl
        have e3 : a.tmps.getD 3 undef = .int .i64 (fl : Int) := hs 6 _ rfl
        have e4 : a.tmps.getD 4 undef = .int .i64 (f : Int) := hs 7 _ rfl
        have hd' : a.defers = [] := hd
        rw [Array.getD_eq_getD_getElem?] at e2 e3 e4
        obtain ⟨hbx, hon⟩ := hC
        obtain ⟨p0, p1, _, _⟩ := hbx.facts
        clear hd hsz hfree hs
        go_wp2
        refine bodyPost_ret (v := .tuple #[.agg #[.string (mkS s), .slice A3 k c3], .int .i64 (fl : Int), .int .i64 (f : Int)]) (by simp [results, Try.results18, go_sem, e2, e3, e4, p0, p1]) hd' ⟨.slice A3 k c3, zs, by rw [HFL.out], ?_, ?_, M3.out⟩
        · exact Only.base (Later.trans L3.out HL4.out) (HWZ.out ▸ hon)
        · exact ((O3.out.later HL4.out).only hon (fun i e => by have := HWZ.out; omega)).mono (Nat.le_succ _)
end Go.Proofs.Ytemokpnepnmmkaa
