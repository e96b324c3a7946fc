/- The walk of SyntaxQuoted. -/
import Derived.Test.YtipojbknkfkgoaaDoorSQuotT
namespace Go.Proofs.YtipojbknkfkgoaaDoor
open Go.RowKit Go.Maps
open Lx (nl Tok)
open Pz
namespace syntaxQuoted
theorem one_at {w : World} {N c : Nat} {A : Option Addr} {ws : List L} {st : Nat} {rs : List Sx.Arw} (h : TreeM w N (.slice A 2 c) (One ws st rs)) : ∃ g v, A = some ⟨g, 0, none⟩ ∧ NodeAt w N g 0 { kind := 1, words := ws, sets := st, redirs := rs } v ∧ Nest w { kind := 1, words := ws, sets := st, redirs := rs } v := by
  rcases h.at_ with h | ⟨g, h, hat⟩
  · cases h
  · obtain ⟨v, h1, h2⟩ := hat 0 (by show 0 < 2; omega)
    exact ⟨g, v, h, h1, h2⟩
theorem lt_cell {w : World} {g o : Nat} {v : Value} (h : w.cell? ⟨g, o, none⟩ = some v) : g < w.heap.size := World.block_lt_of_cell? w _ h
/-- What a tree of one simple command shows. -/
theorem one_w {w : World} {N c : Nat} {A : Option Addr} {ws : List L} {st : Nat} {rs : List Sx.Arw} (h : TreeM w N (.slice A 2 c) (One ws st rs)) {k : Nat} {u : L} (hk : ws[k]? = some u) : ∃ g gw cw, A = some ⟨g, 0, none⟩ ∧ ∀ w', Later w w' → w'.cell? ⟨g, 3, none⟩ = some (.slice (some ⟨gw, 0, none⟩) ws.length cw) ∧ w'.cell? ⟨gw, k, none⟩ = some (.string (mkS u)) ∧ g < w'.heap.size ∧ gw < w'.heap.size := by
  obtain ⟨g, v, e, h1, h2⟩ := one_at h
  obtain ⟨Aw, cw, ew, _⟩ := own_any h2.w
  have hw := h2.w
  rw [ew] at hw
  obtain ⟨gw, rfl, hc⟩ := row_cell hw (i := k) (u := sv u) (by simp [hk])
  refine ⟨g, gw, cw, e, fun w' hl => ?_⟩
  have x1 := cell_keeps hl (h1.c3.trans (congrArg some ew))
  have x2 := cell_keeps hl hc
  exact ⟨x1, x2, lt_cell x1, lt_cell x2⟩
theorem one_r {w : World} {N c : Nat} {A : Option Addr} {ws : List L} {st : Nat} {x : Sx.Arw} (h : TreeM w N (.slice A 2 c) (One ws st [x])) : ∃ g gr cr cw Aw, A = some ⟨g, 0, none⟩ ∧ ∀ w', Later w w' → w'.cell? ⟨g, 3, none⟩ = some (.slice Aw ws.length cw) ∧ w'.cell? ⟨g, 4, none⟩ = some (.int .i64 (st : Int)) ∧ w'.cell? ⟨g, 5, none⟩ = some (.slice (some ⟨gr, 0, none⟩) 1 cr) ∧ w'.cell? ⟨gr, 2, none⟩ = some (.string (mkS x.word)) ∧ g < w'.heap.size ∧ gr < w'.heap.size := by
  obtain ⟨g, v, e, h1, h2⟩ := one_at h
  obtain ⟨Aw, cw, ew, _⟩ := own_any h2.w
  obtain ⟨Ar, cr, er, _⟩ := own_any h2.r
  have hr := h2.r
  rw [er] at hr
  obtain ⟨gr, rfl, hc⟩ : ∃ gr, Ar = some ⟨gr, 0, none⟩ ∧ w.cell? ⟨gr, 2, none⟩ = some (.string (mkS x.word)) := by
    rcases hr.2 with ⟨hv, hn⟩ | ⟨g', cap, cur, hv, hb, hh, hnc, hcm, hcs, htake⟩
    · cases hn
    · injection hv with e1 _ _
      subst e1
      have hc := hr.cells (g := g') rfl 2 (sv x.word) rfl
      rw [add_lit0] at hc
      exact ⟨g', rfl, hc⟩
  refine ⟨g, gr, cr, cw, Aw, e, fun w' hl => ?_⟩
  have x1 := cell_keeps hl (h1.c3.trans (congrArg some ew))
  have x2 := cell_keeps hl (h1.c5.trans (congrArg some er))
  have x3 := cell_keeps hl hc
  exact ⟨x1, cell_keeps hl h1.c4, x2, x3, lt_cell x1, lt_cell x3⟩
theorem W16_short : ∀ w ∈ W16, w.length ≤ 5 := by decide
set_option maxHeartbeats 3200000 in
set_option maxRecDepth 100000 in
theorem walkG (w : World) (hg : Sgn w) (x y : Int) (i : Nat) (hi : i < 16) (hx0 : 0 ≤ x) (hx1 : x ≤ 255) (hy0 : 0 ≤ y) (hy1 : y ≤ 255) (hxi : x.tmod 16 = (i : Int)) (j : Nat) (hj : j < 3) (hyj : y.tmod 3 = (j : Int)) (u r : L) (hu : W16[i]? = some u) (hr : (raws u)[j]? = some r) :
    Calls Tryd.prog 6 #[.int .u8 x, .int .u8 y] w fun e w' => e = .returned (.bool true) ∧ Below w.heap.size w w' := by
  have HA := Lib.hid (awake_v w hg)
  have hmem : u ∈ W16 := List.mem_of_getElem? hu
  have hsh := W16_short u hmem
  have hrl : r.length ≤ 7 := by
    have hm := List.mem_of_getElem? hr
    simp only [raws, List.mem_cons, List.not_mem_nil, or_false] at hm
    rcases hm with rfl | rfl | rfl <;> simp <;> omega
  obtain ⟨T1, T2, T3, T4, T5⟩ := trees u hmem
  have T : Sx.tree (r ++ [32, 120]) = .ok (One [r, [120]] 0 []) := by
    have hm := List.mem_of_getElem? hr
    simp only [raws, List.mem_cons, List.not_mem_nil, or_false] at hm
    rcases hm with rfl | rfl | rfl
    · exact T1
    · exact T2
    · exact T3
  have hL : ∀ h, ([.string ⟨#[33]⟩, .string ⟨#[123]⟩, .string ⟨#[125]⟩, .string ⟨#[99, 97, 115, 101]⟩, .string ⟨#[100, 111]⟩, .string ⟨#[100, 111, 110, 101]⟩, .string ⟨#[101, 108, 105, 102]⟩, .string ⟨#[101, 108, 115, 101]⟩, .string ⟨#[101, 115, 97, 99]⟩, .string ⟨#[102, 105]⟩, .string ⟨#[102, 111, 114]⟩, .string ⟨#[105, 102]⟩, .string ⟨#[116, 104, 101, 110]⟩, .string ⟨#[117, 110, 116, 105, 108]⟩, .string ⟨#[119, 104, 105, 108, 101]⟩, .string ⟨#[105, 110]⟩] : List Value)[i]'h = .string (mkS u) := fun h => by
    have e : ([.string ⟨#[33]⟩, .string ⟨#[123]⟩, .string ⟨#[125]⟩, .string ⟨#[99, 97, 115, 101]⟩, .string ⟨#[100, 111]⟩, .string ⟨#[100, 111, 110, 101]⟩, .string ⟨#[101, 108, 105, 102]⟩, .string ⟨#[101, 108, 115, 101]⟩, .string ⟨#[101, 115, 97, 99]⟩, .string ⟨#[102, 105]⟩, .string ⟨#[102, 111, 114]⟩, .string ⟨#[105, 102]⟩, .string ⟨#[116, 104, 101, 110]⟩, .string ⟨#[117, 110, 116, 105, 108]⟩, .string ⟨#[119, 104, 105, 108, 101]⟩, .string ⟨#[105, 110]⟩] : List Value) = W16.map (fun z => .string (mkS z)) := rfl
    have h2 : (([.string ⟨#[33]⟩, .string ⟨#[123]⟩, .string ⟨#[125]⟩, .string ⟨#[99, 97, 115, 101]⟩, .string ⟨#[100, 111]⟩, .string ⟨#[100, 111, 110, 101]⟩, .string ⟨#[101, 108, 105, 102]⟩, .string ⟨#[101, 108, 115, 101]⟩, .string ⟨#[101, 115, 97, 99]⟩, .string ⟨#[102, 105]⟩, .string ⟨#[102, 111, 114]⟩, .string ⟨#[105, 102]⟩, .string ⟨#[116, 104, 101, 110]⟩, .string ⟨#[117, 110, 116, 105, 108]⟩, .string ⟨#[119, 104, 105, 108, 101]⟩, .string ⟨#[105, 110]⟩] : List Value))[i]? = some (.string (mkS u)) := by rw [e, List.getElem?_map, hu]; rfl
    rw [List.getElem?_eq_getElem h] at h2
    injection h2
  have hR : ∀ h, ([.string (mkS (39 :: u ++ [39])), .string (mkS (92 :: u)), .string (mkS (34 :: u ++ [34]))] : List Value)[j]'h = .string (mkS r) := fun h => by
    have e : ([.string (mkS (39 :: u ++ [39])), .string (mkS (92 :: u)), .string (mkS (34 :: u ++ [34]))] : List Value) = (raws u).map (fun z => .string (mkS z)) := rfl
    have h2 : ([.string (mkS (39 :: u ++ [39])), .string (mkS (92 :: u)), .string (mkS (34 :: u ++ [34]))] : List Value)[j]? = some (.string (mkS r)) := by rw [e, List.getElem?_map, hr]; rfl
    rw [List.getElem?_eq_getElem h] at h2
    injection h2
  obtain ⟨q1, hq1⟩ : ∃ q, q = mkS (39 :: u) := ⟨_, rfl⟩
  obtain ⟨p1, hp1⟩ : ∃ q, q = mkS (39 :: u ++ [39]) := ⟨_, rfl⟩
  obtain ⟨p2, hp2⟩ : ∃ q, q = mkS (92 :: u) := ⟨_, rfl⟩
  obtain ⟨q3, hq3⟩ : ∃ q, q = mkS (34 :: u) := ⟨_, rfl⟩
  obtain ⟨p3, hp3⟩ : ∃ q, q = mkS (34 :: u ++ [34]) := ⟨_, rfl⟩
  obtain ⟨s1, hs1⟩ : ∃ q, q = mkS (r ++ [32, 120]) := ⟨_, rfl⟩
  obtain ⟨s2, hs2⟩ : ∃ q, q = mkS ([120, 32] ++ u) := ⟨_, rfl⟩
  obtain ⟨t1, ht1⟩ : ∃ q, q = mkS ([121, 61, 49, 32] ++ u) := ⟨_, rfl⟩
  obtain ⟨t2, ht2⟩ : ∃ q, q = mkS ([121, 61, 49, 32] ++ u ++ [32, 62]) := ⟨_, rfl⟩
  obtain ⟨s3, hs3⟩ : ∃ q, q = mkS ([121, 61, 49, 32] ++ u ++ [32, 62] ++ u) := ⟨_, rfl⟩
  obtain ⟨U, hU⟩ : ∃ q, q = mkS u := ⟨_, rfl⟩
  obtain ⟨R, hRr⟩ : ∃ q, q = mkS r := ⟨_, rfl⟩
  have a1 : (⟨#[39]⟩ : ByteArray) ++ U = q1 := by rw [hU, hq1]; exact mkS_add [39] u
  have a2 : q1 ++ (⟨#[39]⟩ : ByteArray) = p1 := by rw [hq1, hp1]; exact mkS_add (39 :: u) [39]
  have a3 : (⟨#[92]⟩ : ByteArray) ++ U = p2 := by rw [hU, hp2]; exact mkS_add [92] u
  have a4 : (⟨#[34]⟩ : ByteArray) ++ U = q3 := by rw [hU, hq3]; exact mkS_add [34] u
  have a5 : q3 ++ (⟨#[34]⟩ : ByteArray) = p3 := by rw [hq3, hp3]; exact mkS_add (34 :: u) [34]
  have a6 : R ++ (⟨#[32, 120]⟩ : ByteArray) = s1 := by rw [hRr, hs1]; exact mkS_add r [32, 120]
  have a7 : (⟨#[120, 32]⟩ : ByteArray) ++ U = s2 := by rw [hU, hs2]; exact mkS_add [120, 32] u
  have a8 : (⟨#[121, 61, 49, 32]⟩ : ByteArray) ++ U = t1 := by rw [hU, ht1]; exact mkS_add [121, 61, 49, 32] u
  have a9 : t1 ++ (⟨#[32, 62]⟩ : ByteArray) = t2 := by rw [ht1, ht2]; exact mkS_add ([121, 61, 49, 32] ++ u) [32, 62]
  have a10 : t2 ++ U = s3 := by rw [hU, ht2, hs3]; exact mkS_add ([121, 61, 49, 32] ++ u ++ [32, 62]) u
  have z1 : U.size ≤ 70 := by rw [hU, mkS_size]; omega
  have z2 : R.size ≤ 70 := by rw [hRr, mkS_size]; omega
  have z3 : q1.size ≤ 70 := by rw [hq1, mkS_size]; simp; omega
  have z4 : q3.size ≤ 70 := by rw [hq3, mkS_size]; simp; omega
  have z5 : t1.size ≤ 70 := by rw [ht1, mkS_size]; simp; omega
  have z6 : t2.size ≤ 70 := by rw [ht2, mkS_size]; simp; omega
  have HP1 := Lib.hid (show ∀ W, Later w W → Calls Tryd.prog 8 #[.string s1] W fun e W' => ∃ A c, e = .returned (.tuple #[.agg #[.slice A 2 c], .int .i64 0, .int .i64 0]) ∧ 2 ≤ c ∧ TreeM W' (nl (r ++ [32, 120])) (.slice A 2 c) (One [r, [120]] 0 []) ∧ Later W W' from fun W hW => by rw [hs1]; exact parse_ok (by simp; omega) T W (Sgn.later' hg hW))
  have HP2 := Lib.hid (show ∀ W, Later w W → Calls Tryd.prog 8 #[.string s2] W fun e W' => ∃ A c, e = .returned (.tuple #[.agg #[.slice A 2 c], .int .i64 0, .int .i64 0]) ∧ 2 ≤ c ∧ TreeM W' (nl ([120, 32] ++ u)) (.slice A 2 c) (One [[120], u] 0 []) ∧ Later W W' from fun W hW => by rw [hs2]; exact parse_ok (by simp; omega) T4 W (Sgn.later' hg hW))
  have HP3 := Lib.hid (show ∀ W, Later w W → Calls Tryd.prog 8 #[.string s3] W fun e W' => ∃ A c, e = .returned (.tuple #[.agg #[.slice A 2 c], .int .i64 0, .int .i64 0]) ∧ 2 ≤ c ∧ TreeM W' (nl ([121, 61, 49, 32] ++ u ++ [32, 62] ++ u)) (.slice A 2 c) (One [[121, 61, 49], u] 1 [⟨1, [62], u, []⟩]) ∧ Later W W' from fun W hW => by rw [hs3]; exact parse_ok (by simp; omega) T5 W (Sgn.later' hg hW))
  rw [← hp1, ← hp2, ← hp3, ← hRr] at hR
  rw [← hU] at hL
  have HU := Lib.hid hU
  have HR := Lib.hid hRr
  clear hg T T1 T2 T3 T4 T5 hq1 hp1 hp2 hq3 hp3 hs1 hs2 ht1 ht2 hs3 hU hRr hu hr hmem hsh hrl
  go_enter Tryd.func6, Tryd.ntmps6
  go_wp2_with (first
    | (go_at_call 7; (with_reducible refine HA.out.mono ?_); rintro e w1 ⟨rfl, hb1⟩; have HB1 := Lib.hid hb1; clear hb1)
    | (go_at_call 8; first
      | ((with_reducible refine (HP1.out _ ((HB1.out.trans (Later.alloc _ _)).trans (Later.alloc _ _))).mono ?_); rintro e w2 ⟨A, c2, rfl, _, hm, hl⟩; obtain ⟨g2, v2, k2, rfl, hf⟩ := one_w hm (k := 0) rfl; have HF2 := Lib.hid hf; have HL2 := Lib.hid (((HB1.out.trans (Later.alloc _ _)).trans (Later.alloc _ _)).trans hl); clear hm hf hl)
      | ((with_reducible refine (HP2.out _ (HL2.out.trans (Later.alloc _ _))).mono ?_); rintro e w3 ⟨A, c3, rfl, _, hm, hl⟩; obtain ⟨g3, v3, k3, rfl, hf⟩ := one_w hm (k := 1) rfl; have HF3 := Lib.hid hf; have Q2 := Lib.hid (later_cells hl (heap_alloc_new w2 (.cells #[.slice (some ⟨g2, 0, none⟩) 2 c2] 25))); have HL23 := Lib.hid ((Later.alloc w2 (.cells #[.slice (some ⟨g2, 0, none⟩) 2 c2] 25)).trans hl); clear hm hf hl)))
  · go_at_call 8
    (with_reducible refine (HP3.out _ ((HL2.out.trans HL23.out).trans (Later.alloc _ _))).mono ?_)
    rintro e w4 ⟨A, c4, rfl, _, hm, hl⟩
    obtain ⟨g4, r4, k4, k5, A5, rfl, hf⟩ := one_r hm
    have hl34 := (Later.alloc w3 (.cells #[.slice (some ⟨g3, 0, none⟩) 2 c3] 25)).trans hl
    have y2 := later_cells hl34 Q2.out
    have y3 := later_cells hl (heap_alloc_new w3 (.cells #[.slice (some ⟨g3, 0, none⟩) 2 c3] 25))
    have n2 := lt_of_block y2
    have n3 := lt_of_block y3
    have d2 : w4.cell? ⟨w2.heap.size, 0, none⟩ = some (.slice (some ⟨g2, 0, none⟩) 2 c2) := (cell_row y2 0).1
    have d3 : w4.cell? ⟨w3.heap.size, 0, none⟩ = some (.slice (some ⟨g3, 0, none⟩) 2 c3) := (cell_row y3 0).1
    obtain ⟨b1', b2', b3, b4⟩ := HF2.out w4 (HL23.out.trans hl34)
    obtain ⟨e1', e2', e3, e4⟩ := HF3.out w4 hl34
    obtain ⟨f1', f2', f3, f4', f5, f6⟩ := hf w4 (Later.refl _)
    have b1 : w4.cell? ⟨g2, 3, none⟩ = some (.slice (some ⟨v2, 0, none⟩) 2 k2) := b1'
    have e1 : w4.cell? ⟨g3, 3, none⟩ = some (.slice (some ⟨v3, 0, none⟩) 2 k3) := e1'
    have f1 : w4.cell? ⟨g4, 3, none⟩ = some (.slice A5 2 k5) := f1'
    have f2 : w4.cell? ⟨g4, 4, none⟩ = some (.int .i64 1) := f2'
    have b2 : w4.cell? ⟨v2, 0, none⟩ = some (.string R) := by (rw [HR.out]; exact b2')
    have e2 : w4.cell? ⟨v3, 1, none⟩ = some (.string U) := by (rw [HU.out]; exact e2')
    have f4 : w4.cell? ⟨r4, 2, none⟩ = some (.string U) := by (rw [HU.out]; exact f4')
    have HL4 := Lib.hid ((HL2.out.trans HL23.out).trans hl34)
    clear hm hf hl hl34 y2 y3 b1' b2' e1' e2' f1' f2' f4'
    go_wp2
    go_ret
    exact ⟨rfl, HL4.out.trans (Later.alloc _ _)⟩
theorem walk (w : World) (hg : Sgn w) (x : Int) (hx : (Lit.int .u8 x).wf = true) (y : Int) (hy : (Lit.int .u8 y).wf = true) :
    Calls Tryd.prog 6 #[.int .u8 x, .int .u8 y] w fun e w' => e = .returned (.bool true) ∧ Below w.heap.size w w' := by
  have hx := bounds_u8 hx
  have hy := bounds_u8 hy
  have h1 : x.tmod 16 = ((x % 16).toNat : Int) := by rw [Int.tmod_eq_emod_of_nonneg (by omega)]; omega
  have h2 : y.tmod 3 = ((y % 3).toNat : Int) := by rw [Int.tmod_eq_emod_of_nonneg (by omega)]; omega
  have hi : (x % 16).toNat < 16 := by omega
  have hj : (y % 3).toNat < 3 := by omega
  obtain ⟨u, hu⟩ : ∃ u, W16[(x % 16).toNat]? = some u := ⟨_, List.getElem?_eq_getElem hi⟩
  obtain ⟨r, hr⟩ : ∃ r, (raws u)[(y % 3).toNat]? = some r := ⟨_, List.getElem?_eq_getElem hj⟩
  exact walkG w hg x y _ hi (by omega) (by omega) (by omega) (by omega) h1 _ hj h2 u r hu hr
end syntaxQuoted
end Go.Proofs.YtipojbknkfkgoaaDoor
