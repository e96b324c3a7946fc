/- The walk of SyntaxLeft. -/
import Derived.Test.YtipojbknkfkgoaaDoorSLeftT
import Derived.Test.YtipojbknkfkgoaaDoorOa
import Derived.Deep.RegionHeld
namespace Go.Proofs.YtipojbknkfkgoaaDoor
open Go.RowKit Go.Maps
open Lx (nl Tok)
open Pz
namespace syntaxLeft
abbrev Args (w : World) (A1 : Option Addr) (n1 c1 : Nat) (l : List Bool) : Prop := Rd w w.heap.size A1 n1 (l.map Value.bool) ∧ n1 ≤ c1 ∧ c1 ≤ maxLen
theorem bool_at {w : World} {B n : Nat} {A : Option Addr} {l : List Bool} (h : Rd w B A n (l.map Value.bool)) {k : Nat} (hk : k < n) : ∃ ad, A = some ad ∧ ∃ h : k < l.length, w.cell? (ad.add k) = some (.bool l[k]) := by
  obtain ⟨ad, hl, e, _, hc⟩ := h.at_map hk
  exact ⟨ad, e, hl, hc⟩
theorem wraps {a : Nat} (h : a ≤ 200) : wrap64 ((a : Int) + 1) = ((a + 1 : Nat) : Int) ∧ IntKind.i64.wrap ((a : Int) + 1) = ((a + 1 : Nat) : Int) ∧ wrap64 (2 * (a : Int)) = ((2 * a : Nat) : Int) ∧ IntKind.i64.wrap (2 * (a : Int)) = ((2 * a : Nat) : Int) ∧ wrap64 (((2 * a : Nat) : Int) + 2) = ((2 * a + 2 : Nat) : Int) ∧ IntKind.i64.wrap (((2 * a : Nat) : Int) + 2) = ((2 * a + 2 : Nat) : Int) ∧ wrap64 ((a : Int) - 1) = (a : Int) - 1 ∧ IntKind.i64.wrap ((a : Int) - 1) = (a : Int) - 1 := by
  refine ⟨?_, ?_, ?_, ?_, ?_, ?_, ?_, ?_⟩
  · unfold wrap64; omega
  · rw [IntKind.wrap_i64]; omega
  · unfold wrap64; omega
  · rw [IntKind.wrap_i64]; omega
  · unfold wrap64; omega
  · rw [IntKind.wrap_i64]; omega
  · unfold wrap64; omega
  · rw [IntKind.wrap_i64]; omega
theorem NodeAt.later {w w' : World} {N g o : Nat} {n : Sx.Node} {v : Vals} (h : NodeAt w N g o n v) (hl : Later w w') : NodeAt w' N g o n v := ⟨cell_keeps hl h.c0, cell_keeps hl h.c1, cell_keeps hl h.c2, cell_keeps hl h.c3, cell_keeps hl h.c4, cell_keeps hl h.c5, cell_keeps hl h.c6, cell_keeps hl h.c7⟩
theorem node_load {w : World} {N g o : Nat} {n : Sx.Node} {v : Vals} (h : NodeAt w N g o n v) : (Instr.loadAt 33 (.pointer (some ⟨g, o, none⟩))).run Tryd.prog w = .ok (.agg (ncs n v (lnv N n.left)).toArray) w := by
  refine run_loadAt_mid (P := Tryd.prog) w g o 33 (ncs n v (lnv N n.left)) _ (fun j u hu => ?_) Tryd.underlying33 rfl (by kernel_rfl)
  have hj : j < 8 := (List.getElem?_eq_some_iff.1 hu).1
  match j, hj with
  | 0, _ => cases hu; exact h.c0
  | 1, _ => cases hu; exact h.c1
  | 2, _ => cases hu; exact h.c2
  | 3, _ => cases hu; exact h.c3
  | 4, _ => cases hu; exact h.c4
  | 5, _ => cases hu; exact h.c5
  | 6, _ => cases hu; exact h.c6
  | 7, _ => cases hu; exact h.c7
theorem kids_at {W : World} {n : Sx.Node} {v : Vals} (hn : Nest W n v) {ks : List Nat} (hk : n.kids = ks) (h0 : 0 < ks.length) : ∃ gk ck, v.k = .slice (some ⟨gk, 0, none⟩) ks.length ck ∧ ∀ (i x : Nat), ks[i]? = some x → W.cell? ⟨gk, i, none⟩ = some (.int .i64 (x : Int)) := by
  subst hk
  obtain ⟨Ak, ck, e3, _⟩ := own_any hn.k
  have hr := hn.k
  rw [e3] at hr
  obtain ⟨gk, rfl, _⟩ := row_cell hr (i := 0) (u := iv n.kids[0]) (by rw [List.getElem?_map, List.getElem?_eq_getElem h0]; rfl)
  refine ⟨gk, ck, e3, fun i x hx => ?_⟩
  obtain ⟨gk', e, hc⟩ := row_cell hr (i := i) (u := iv x) (by rw [List.getElem?_map, hx]; rfl)
  cases e
  exact hc
theorem words_at {W : World} {n : Sx.Node} {v : Vals} (hn : Nest W n v) {u : L} (hk : n.words = [u]) : ∃ gw cw, v.w = .slice (some ⟨gw, 0, none⟩) 1 cw ∧ W.cell? ⟨gw, 0, none⟩ = some (.string (mkS u)) := by
  obtain ⟨Ak, ck, e3, _⟩ := own_any hn.w
  have hr := hn.w
  rw [e3] at hr
  obtain ⟨gk, rfl, hc⟩ := row_cell hr (i := 0) (u := sv u) (by rw [hk]; rfl)
  refine ⟨gk, ck, ?_, hc⟩
  rw [e3, hk]; rfl
/-- What the walk reads at a node of two kids. -/
structure BinAt (W : World) (g : Nat) (m : Nat) (b : Bool) (gk ck gw cw : Nat) (Aw Ar : Option Addr) (cww crr : Nat) (t : ByteArray) (ln : Int) : Prop where
  load : ∀ W', Later W W' → (Instr.loadAt 33 (.pointer (some ⟨g, (2 * m + 2) * 8, none⟩))).run Tryd.prog W' = .ok (.agg #[.int .i64 (if b then 3 else 4), .string t, .bool false, .slice Aw 0 cww, .int .i64 0, .slice Ar 0 crr, .slice (some ⟨gk, 0, none⟩) 2 ck, .int .i64 ln]) W'
  k0 : W.cell? ⟨gk, 0, none⟩ = some (.int .i64 ((2 * m : Nat) : Int))
  k1 : W.cell? ⟨gk, 1, none⟩ = some (.int .i64 ((2 * m + 1 : Nat) : Int))
  w : W.cell? ⟨g, (2 * m + 1) * 8 + 3, none⟩ = some (.slice (some ⟨gw, 0, none⟩) 1 cw)
  w0 : W.cell? ⟨gw, 0, none⟩ = some (.string ⟨#[98]⟩)
theorem bin_at {W : World} {N g : Nat} {l : List Bool} (hat : ∀ (i : Nat) (hi : i < (nodes l).length), ∃ v, NodeAt W N g (i * 8) (nodes l)[i] v ∧ Nest W (nodes l)[i] v) (m : Nat) (b : Bool) (hb : l[m]? = some b) :
    ∃ gk ck gw cw Aw Ar cww crr t ln, BinAt W g m b gk ck gw cw Aw Ar cww crr t ln := by
  obtain ⟨⟨k1, h1⟩, ⟨k2, h2⟩⟩ := nodes_bin l m b hb
  obtain ⟨p1, e1⟩ := List.getElem?_eq_some_iff.1 h1
  obtain ⟨p2, e2⟩ := List.getElem?_eq_some_iff.1 h2
  obtain ⟨v1, a1, b1⟩ := hat _ p1
  obtain ⟨v2, a2, b2⟩ := hat _ p2
  rw [e1] at a1 b1
  rw [e2] at a2 b2
  obtain ⟨gk, ck, f1, f2⟩ := kids_at b2 (ks := [2 * m, 2 * m + 1]) rfl (by simp)
  obtain ⟨gw, cw, f3, f4⟩ := words_at b1 (u := [98]) rfl
  obtain ⟨Aw, cww, f5, _⟩ := own_any b2.w
  obtain ⟨Ar, crr, f6, _⟩ := own_any b2.r
  obtain ⟨ln, hln⟩ : ∃ ln : Int, lnv N (bin b (2 * m) (2 * m + 1) k2).left = .int .i64 ln := ⟨_, rfl⟩
  refine ⟨gk, ck, gw, cw, Aw, Ar, cww, crr, mkS [], ln, fun W' hW => ?_, f2 0 _ rfl, f2 1 _ rfl, by rw [a1.c3, f3], f4⟩
  rw [node_load (NodeAt.later a2 hW)]
  unfold ncs
  rw [f1, f5, f6, hln]
  cases b <;> rfl
theorem fixed_tree : ∃ ns n2 n4, Sx.tree [33, 32, 97, 32, 124, 32, 98, 32, 38, 38, 32, 99] = .ok ns ∧ ns.length = 6 ∧ ns[2]? = some n2 ∧ n2.kind = 2 ∧ n2.flag = true ∧ n2.kids.length = 2 ∧ ns[4]? = some n4 ∧ n4.kind = 3 := by
  have h := fixed1
  unfold fixedB at h
  cases e : Sx.tree [33, 32, 97, 32, 124, 32, 98, 32, 38, 38, 32, 99] with
  | error x => rw [e] at h; cases h
  | ok ns =>
    rw [e] at h
    simp only [Bool.and_eq_true, beq_iff_eq] at h
    obtain ⟨⟨h0, h1⟩, h2⟩ := h
    cases e2 : ns[2]? with
    | none => rw [e2] at h1; cases h1
    | some n2 =>
      cases e4 : ns[4]? with
      | none => rw [e4] at h2; cases h2
      | some n4 =>
        rw [e2] at h1
        rw [e4] at h2
        simp only [Bool.and_eq_true, beq_iff_eq] at h1 h2
        exact ⟨ns, n2, n4, rfl, h0, e2, h1.1.1, h1.1.2, h1.2, e4, h2⟩
theorem fixed_v (w : World) (hg : Sgn w) : Calls Tryd.prog 8 #[.string ⟨#[33, 32, 97, 32, 124, 32, 98, 32, 38, 38, 32, 99]⟩] w fun e W' => ∃ g c Ak ck, e = .returned (.tuple #[.agg #[.slice (some ⟨g, 0, none⟩) 6 c], .int .i64 0, .int .i64 0]) ∧ Later w W' ∧ W'.cell? ⟨g, 16, none⟩ = some (.int .i64 2) ∧ W'.cell? ⟨g, 18, none⟩ = some (.bool true) ∧ W'.cell? ⟨g, 22, none⟩ = some (.slice Ak 2 ck) ∧ W'.cell? ⟨g, 32, none⟩ = some (.int .i64 3) := by
  obtain ⟨ns, n2, n4, ht, hl, e2, k2, f2, c2, e4, k4⟩ := fixed_tree
  refine (parse_ok (by decide) ht w hg).mono ?_
  rintro e W' ⟨A, c, rfl, _, hm, hlt⟩
  rcases hm.at_ with h | ⟨g, h, hat⟩
  · rw [h] at hl; cases hl
  · subst h
    obtain ⟨p2, q2⟩ := List.getElem?_eq_some_iff.1 e2
    obtain ⟨p4, q4⟩ := List.getElem?_eq_some_iff.1 e4
    obtain ⟨v2, a2, b2⟩ := hat 2 p2
    obtain ⟨v4, a4, b4⟩ := hat 4 p4
    rw [q2] at a2 b2
    rw [q4] at a4
    obtain ⟨Ak, ck, f3, _⟩ := own_any b2.k
    refine ⟨g, c, Ak, ck, by rw [hl], hlt, ?_, ?_, ?_, ?_⟩
    · have := a2.c0; rw [k2] at this; exact this
    · have := a2.c2; rw [f2] at this; exact this
    · have := a2.c6; rw [f3, c2] at this; exact this
    · have := a4.c0; rw [k4] at this; exact this
theorem parse_left {l : List Bool} {n1 : Nat} (hn : l.length = n1) (h30 : n1 ≤ 30) (w : World) (hg : Sgn w) : Calls Tryd.prog 8 #[.string (mkS (script l))] w fun e W' => ∃ g c gk ck ga ca, e = .returned (.tuple #[.agg #[.slice (some ⟨g, 0, none⟩) (2 * n1 + 2) c], .int .i64 0, .int .i64 0]) ∧ Later w W' ∧ 2 * n1 + 2 ≤ c ∧
    W'.cell? ⟨g, (2 * n1 + 1) * 8 + 6, none⟩ = some (.slice (some ⟨gk, 0, none⟩) 1 ck) ∧ W'.cell? ⟨gk, 0, none⟩ = some (.int .i64 ((2 * n1 : Nat) : Int)) ∧
    W'.cell? ⟨g, 3, none⟩ = some (.slice (some ⟨ga, 0, none⟩) 1 ca) ∧ W'.cell? ⟨ga, 0, none⟩ = some (.string ⟨#[97, 48]⟩) ∧
    ∀ m b, l[m]? = some b → ∃ gk ck gw cw Aw Ar cww crr t ln, BinAt W' g m b gk ck gw cw Aw Ar cww crr t ln := by
  have hlen : (script l).length ≤ 4096 := by unfold script; rw [List.length_append]; have := txt_len l; simp; omega
  have h := parse_ok hlen (tree_script l) w hg
  rw [nodes_len, hn] at h
  refine h.mono ?_
  rintro e W' ⟨A, c, rfl, hc, hm, hlt⟩
  rcases hm.at_ with h | ⟨g, h, hat⟩
  · have := nodes_len l; rw [h] at this; cases this
  · subst h
    obtain ⟨k3, e3⟩ := nodes_last l
    obtain ⟨k0, e0⟩ := nodes_first l
    rw [hn] at e3
    obtain ⟨p3, q3⟩ := List.getElem?_eq_some_iff.1 e3
    obtain ⟨p0, q0⟩ := List.getElem?_eq_some_iff.1 e0
    obtain ⟨v3, a3, b3⟩ := hat _ p3
    obtain ⟨v0, a0, b0⟩ := hat 0 p0
    rw [q3] at a3 b3
    rw [q0] at a0 b0
    obtain ⟨gk, ck, f1, f2⟩ := kids_at b3 (ks := [2 * n1]) rfl (by simp)
    obtain ⟨ga, ca, f3, f4⟩ := words_at b0 (u := [97, 48]) rfl
    exact ⟨g, c, gk, ck, ga, ca, rfl, hlt, hc, by rw [a3.c6, f1]; rfl, f2 0 _ rfl, by have := a0.c3; rw [f3] at this; exact this, f4, fun m b hb => bin_at hat m b hb⟩
end syntaxLeft
end Go.Proofs.YtipojbknkfkgoaaDoor
