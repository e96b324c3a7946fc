/- The walk of SyntaxKids. -/
import Derived.Test.YtipojbknkfkgoaaDoorOa
import Derived.Test.YtipojbknkfkgoaaDoorNz
import Derived.Deep.RegionHeld
namespace Go.Proofs.YtipojbknkfkgoaaDoor
open Go.RowKit Go.Maps
open Lx (nl Tok)
namespace Sx
theorem tree_forest {S : L} {ns : List Node} (h : tree S = .ok ns) : Forest 0 ns [ns.length - 1] ∧ 0 < ns.length ∧ (∀ n, ns[ns.length - 1]? = some n → n.kind = 5) ∧ ns.length ≤ 8 * S.length + 9 := by
  unfold tree at h
  cases hx : Lx.all S with
  | error e => rw [hx] at h; cases h
  | ok ts =>
    rw [hx] at h
    have h : parse ts = .ok ns := h
    unfold parse at h
    cases hs : script (ts.length + 1) ⟨ts, 0, []⟩ with
    | error e => rw [hs] at h; cases h
    | ok x =>
      obtain ⟨u, s'⟩ := x
      rw [hs] at h
      have h : (Except.ok s'.ns : Except Er (List Node)) = .ok ns := h
      injection h with h
      subst h
      unfold script at hs
      obtain ⟨i, s1, h1, h2⟩ := bnd_inv hs
      have hw := anyF_un (ts.length + 1) ⟨ts, 0, []⟩ i s1 (Lx.all_good hx) h1
      have e1 : s1 = s' := by
        by_cases e : (hd s1).kind = 4
        · rw [if_pos e] at h2; cases h2; rfl
        · rw [if_neg e] at h2; cases h2
      subst e1
      rw [show anyF (ts.length + 1) = anyL (anyF ts.length) (ts.length + 1) from rfl] at h1
      unfold anyL at h1
      obtain ⟨_, s2, h3, h4⟩ := bnd_inv h1
      obtain ⟨ks, s3, h5, h6⟩ := bnd_inv h4
      unfold add at h6
      injection h6 with h6
      injection h6 with h7 h8
      obtain ⟨ms, e2, f⟩ := hw.fo
      simp only [List.nil_append] at e2
      have hp := hw.pot
      have hsm := (Lx.all_small hx).1
      rw [← e2] at f
      have hl : s1.ns.length = i + 1 := by rw [← h8, ← h7]; simp
      refine ⟨by rw [hl]; exact f, by omega, fun n hn => ?_, by simp only [List.length_nil] at hp; omega⟩
      rw [hl, Nat.add_sub_cancel, ← h8, ← h7] at hn
      simp only [List.getElem?_append_right (Nat.le_refl _), Nat.sub_self, List.getElem?_cons_zero, Option.some.injEq] at hn
      rw [← hn]
theorem Forest.count_le {ns : List Node} {r : List Nat} (h : Forest 0 ns r) (j : Nat) (hj : j < ns.length) : (ns.flatMap Node.kids).count j ≤ 1 := by have := h.one j (Nat.zero_le _) (by omega); omega
theorem kids_take (ns : List Node) (i j : Nat) (hi : i < ns.length) (x : Nat) : ((ns.take i).flatMap Node.kids ++ ns[i].kids.take j).count x ≤ (ns.flatMap Node.kids).count x := by
  have e : ns = ns.take i ++ (ns[i] :: ns.drop (i + 1)) := by rw [← List.drop_eq_getElem_cons hi, List.take_append_drop]
  have e2 : ns[i].kids = ns[i].kids.take j ++ ns[i].kids.drop j := (List.take_append_drop _ _).symm
  have : ns.flatMap Node.kids = ((ns.take i).flatMap Node.kids ++ ns[i].kids.take j) ++ (ns[i].kids.drop j ++ (ns.drop (i + 1)).flatMap Node.kids) := by
    conv => lhs; rw [e]
    rw [List.flatMap_append, List.flatMap_cons, List.append_assoc, ← List.append_assoc (ns[i].kids.take j), ← e2]
  rw [this]
  simp only [List.count_append]
  omega
theorem kids_next (ns : List Node) (i : Nat) (hi : i < ns.length) : (ns.take (i + 1)).flatMap Node.kids = (ns.take i).flatMap Node.kids ++ ns[i].kids := by
  rw [List.take_succ_eq_append_getElem hi, List.flatMap_append]; simp
end Sx
namespace syntaxKids
open Pz
/-- Block h holds how often each place below n stands in l. -/
def Cn (w : World) (h n : Nat) (l : List Nat) : Prop := w.heap[h]? = some (.cells ((List.range n).map fun j => iv (l.count j)).toArray 3 (0, 0))
theorem Cn.cell {w : World} {h n : Nat} {l : List Nat} (hc : Cn w h n l) {k : Nat} (hk : k < n) : w.cell? ⟨h, k, none⟩ = some (iv (l.count k)) ∧ w.frozen? ⟨h, k, none⟩ = false := by
  refine ⟨?_, (cell_row hc k).2⟩
  rw [(cell_row hc k).1]
  simp [hk]
theorem Cn.next {w : World} {h n : Nat} {l : List Nat} (hc : Cn w h n l) {k : Nat} (hk : k < n) : Cn (w.setCell ⟨h, k, none⟩ (iv (l.count k + 1))) h n (l ++ [k]) := by
  have h1 := set_row hc k (iv (l.count k + 1))
  unfold Cn
  rw [h1]
  congr 2
  apply Array.ext
  · simp
  · intro i h1 h2
    simp only [List.setIfInBounds_toArray, List.getElem_toArray, List.getElem_set, List.getElem_map, List.getElem_range, List.count_append]
    by_cases e : k = i
    · subst e
      rw [if_pos rfl]
      simp
    · rw [if_neg e]
      have : [k].count i = 0 := List.count_eq_zero.2 (by simp; exact fun h => e h.symm)
      rw [this]
      rfl
theorem Cn.later {w w' : World} {h n : Nat} {l : List Nat} (hc : Cn w h n l) (hl : Later w w') : Cn w' h n l := later_cells hl hc
theorem madeI (m : Nat) : madeCells (#[.int .i64 0] : Array Value) m = ((List.range m).map fun _ => iv 0).toArray := by
  apply Array.ext
  · simp [madeCells]
  · intro i h1 h2
    simp [madeCells, iv, Nat.mod_one]
theorem make_ints (w : World) (m : Nat) (hm : m ≤ 40000) : (Instr.makeSlice 29 (.int .i64 (m : Int)) (.int .i64 (m : Int))).run Tryd.prog w = .ok (.slice (some ⟨w.heap.size, 0, none⟩) m m) (w.alloc (.cells ((List.range m).map fun _ => iv 0).toArray 3)) := by
  obtain ⟨i0, hi, hz0, hz1, hz2⟩ := info_parts info_int3
  have := run_make (P := Tryd.prog) w 29 3 i0 (.int .i64 0) Tryd.underlying29 hi hz0 .i64 .i64 (m : Int) (m : Int) (by omega) (by omega) (by rw [hz2]; omega) (by omega)
  simp only [Int.toNat_natCast, hz1, Nat.mul_one] at this
  rw [this]
  show _ = Result.ok _ (w.alloc (.cells _ 3))
  rw [← madeI m]
  rfl
theorem NodeAt.later {w w' : World} {N g o : Nat} {n : Sx.Node} {v : Vals} (h : NodeAt w N g o n v) (hl : Later w w') : NodeAt w' N g o n v := ⟨cell_keeps hl h.c0, cell_keeps hl h.c1, cell_keeps hl h.c2, cell_keeps hl h.c3, cell_keeps hl h.c4, cell_keeps hl h.c5, cell_keeps hl h.c6, cell_keeps hl h.c7⟩
theorem node_load {w : World} {N g o : Nat} {n : Sx.Node} {v : Vals} (h : NodeAt w N g o n v) : (Instr.loadAt 33 (.pointer (some ⟨g, o, none⟩))).run Tryd.prog w = .ok (.agg (ncs n v (lnv N n.left)).toArray) w := by
  refine run_loadAt_mid (P := Tryd.prog) w g o 33 (ncs n v (lnv N n.left)) _ (fun j u hu => ?_) Tryd.underlying33 rfl (by kernel_rfl)
  have hj : j < 8 := (List.getElem?_eq_some_iff.1 hu).1
  match j, hj with
  | 0, _ => cases hu; exact h.c0
  | 1, _ => cases hu; exact h.c1
  | 2, _ => cases hu; exact h.c2
  | 3, _ => cases hu; exact h.c3
  | 4, _ => cases hu; exact h.c4
  | 5, _ => cases hu; exact h.c5
  | 6, _ => cases hu; exact h.c6
  | 7, _ => cases hu; exact h.c7
theorem wrap_small {a b : Nat} (h : a + b ≤ 100000) : wrap64 ((a : Int) + (b : Int)) = (a : Int) + (b : Int) ∧ IntKind.i64.wrap ((a : Int) + (b : Int)) = (a : Int) + (b : Int) := by
  refine ⟨?_, ?_⟩
  · unfold wrap64; omega
  · rw [IntKind.wrap_i64]; omega
theorem wrap_inc {a : Nat} (h : a ≤ 1) : wrap64 ((a : Int) + 1) = ((a + 1 : Nat) : Int) ∧ IntKind.i64.wrap ((a : Int) + 1) = ((a + 1 : Nat) : Int) := by
  refine ⟨?_, ?_⟩
  · unfold wrap64; omega
  · rw [IntKind.wrap_i64]; omega
theorem wrap_dec {a : Nat} (h : a ≤ 20000) : wrap64 ((a : Int) - 1) = (a : Int) - 1 ∧ IntKind.i64.wrap ((a : Int) - 1) = (a : Int) - 1 := by
  refine ⟨?_, ?_⟩
  · unfold wrap64; omega
  · rw [IntKind.wrap_i64]; omega
theorem own_max {w : World} {base size n : Nat} {e : TypeId} {v : Value} {xs : List Value} (h : w.ownsRow base e size v n xs) : n ≤ maxLen := by
  rcases h.2 with ⟨_, h0⟩ | ⟨g, cap, cur, _, _, _, hnc, hcm, _⟩
  · rw [h0]; exact Nat.zero_le _
  · exact Nat.le_trans hnc hcm
theorem kinds {kd nk nw nr st : Nat} {fl : Bool} (h : (if kd = 1 then nk == 0 && decide (0 < nw + nr) && decide (st ≤ nw)
    else if kd = 2 then decide (1 < nk) || (nk == 1 && fl)
    else if kd = 3 ∨ kd = 4 ∨ kd = 7 then nk == 2
    else if kd = 6 then nk == 2 || nk == 3
    else if kd = 8 ∨ kd = 11 ∨ kd = 12 ∨ kd = 13 ∨ kd = 10 then nk == 1
    else kd == 9 || kd == 5) = true) :
    (kd = 1 ∧ nk = 0 ∧ 0 < nw + nr ∧ st ≤ nw) ∨ (kd = 2 ∧ 1 < nk) ∨ (kd = 2 ∧ nk = 1 ∧ fl = true) ∨ (kd = 3 ∧ nk = 2) ∨ (kd = 4 ∧ nk = 2) ∨ (kd = 7 ∧ nk = 2) ∨ (kd = 6 ∧ nk = 2) ∨ (kd = 6 ∧ nk = 3) ∨ (kd = 8 ∧ nk = 1) ∨ (kd = 11 ∧ nk = 1) ∨ (kd = 12 ∧ nk = 1) ∨ (kd = 13 ∧ nk = 1) ∨ (kd = 10 ∧ nk = 1) ∨ kd = 9 ∨ kd = 5 := by
  by_cases h1 : kd = 1
  · rw [if_pos h1] at h
    simp only [Bool.and_eq_true, decide_eq_true_eq, beq_iff_eq] at h
    exact .inl ⟨h1, h.1.1, h.1.2, h.2⟩
  rw [if_neg h1] at h
  refine .inr ?_
  by_cases h2 : kd = 2
  · rw [if_pos h2] at h
    simp only [Bool.or_eq_true, Bool.and_eq_true, decide_eq_true_eq, beq_iff_eq] at h
    rcases h with h | ⟨h, h'⟩
    · exact .inl ⟨h2, h⟩
    · exact .inr (.inl ⟨h2, h, h'⟩)
  rw [if_neg h2] at h
  refine .inr (.inr ?_)
  by_cases h3 : kd = 3 ∨ kd = 4 ∨ kd = 7
  · rw [if_pos h3] at h
    simp only [beq_iff_eq] at h
    rcases h3 with e | e | e
    · exact .inl ⟨e, h⟩
    · exact .inr (.inl ⟨e, h⟩)
    · exact .inr (.inr (.inl ⟨e, h⟩))
  rw [if_neg h3] at h
  refine .inr (.inr (.inr ?_))
  by_cases h4 : kd = 6
  · rw [if_pos h4] at h
    simp only [Bool.or_eq_true, beq_iff_eq] at h
    rcases h with h | h
    · exact .inl ⟨h4, h⟩
    · exact .inr (.inl ⟨h4, h⟩)
  rw [if_neg h4] at h
  refine .inr (.inr ?_)
  by_cases h5 : kd = 8 ∨ kd = 11 ∨ kd = 12 ∨ kd = 13 ∨ kd = 10
  · rw [if_pos h5] at h
    simp only [beq_iff_eq] at h
    rcases h5 with e | e | e | e | e
    · exact .inl ⟨e, h⟩
    · exact .inr (.inl ⟨e, h⟩)
    · exact .inr (.inr (.inl ⟨e, h⟩))
    · exact .inr (.inr (.inr (.inl ⟨e, h⟩)))
    · exact .inr (.inr (.inr (.inr (.inl ⟨e, h⟩))))
  rw [if_neg h5] at h
  simp only [Bool.or_eq_true, beq_iff_eq] at h
  exact .inr (.inr (.inr (.inr (.inr h))))
set_option maxHeartbeats 1600000 in
set_option maxRecDepth 100000 in
theorem walkX (w : World) (hg : Sgn w) (s : List UInt8) (h : (2000 : Int) < ((mkS s).size : Int)) :
    Calls Tryd.prog 3 #[.string (mkS s)] w fun e w' => e = .returned (.bool true) ∧ Below w.heap.size w w' := by
  have HA := Lib.hid (awake_v w hg)
  clear hg
  go_enter Tryd.func3, Tryd.ntmps3
  go_wp2_with (go_at_call 7; (with_reducible refine HA.out.mono ?_); rintro e w1 ⟨rfl, hb1⟩; have HB1 := Lib.hid hb1; clear hb1)
  go_ret
  exact ⟨rfl, HB1.out⟩
set_option maxHeartbeats 1600000 in
set_option maxRecDepth 100000 in
theorem walkE (w : World) (hg : Sgn w) (s : List UInt8) (h : ¬ (2000 : Int) < ((mkS s).size : Int)) (n k : Nat) (hall : Sx.tree s = .error (n, k)) (hn : n ≠ 0) :
    Calls Tryd.prog 3 #[.string (mkS s)] w fun e w' => e = .returned (.bool true) ∧ Below w.heap.size w w' := by
  have HA := Lib.hid (awake_v w hg)
  have hz := mkS_size s
  have HAL := Lib.hid (show ∀ W, Later w W → Calls Tryd.prog 8 #[.string (mkS s)] W fun e W' => e = .returned (.tuple #[.agg #[.slice none 0 0], .int .i64 (n : Int), .int .i64 ((1 + nl s - k : Nat) : Int)]) ∧ Later W W' from fun W hW => parse_err (by omega) hall W (Sgn.later' hg hW))
  have e1 : ((n : Int) != 0) = true := by simp; omega
  clear hg hall hz
  go_enter Tryd.func3, Tryd.ntmps3
  go_wp2_with (first
    | (go_at_call 7; (with_reducible refine HA.out.mono ?_); rintro e w1 ⟨rfl, hb1⟩; have HB1 := Lib.hid hb1; clear hb1)
    | (go_at_call 8; (with_reducible refine (HAL.out _ HB1.out).mono ?_); rintro e w2 ⟨rfl, hl2⟩; have HL2 := Lib.hid ((HB1.out.trans hl2).trans (Later.alloc w2 (.cells #[.slice none 0 0] 25))); clear hl2))
  go_ret
  exact ⟨rfl, HL2.out⟩
set_option maxHeartbeats 3200000 in
set_option maxRecDepth 100000 in
theorem walkO (w : World) (hg : Sgn w) (s : List UInt8) (h : ¬ (2000 : Int) < ((mkS s).size : Int)) (ns : List Sx.Node) (hall : Sx.tree s = .ok ns) :
    Calls Tryd.prog 3 #[.string (mkS s)] w fun e w' => e = .returned (.bool true) ∧ Below w.heap.size w w' := by
  have HA := Lib.hid (awake_v w hg)
  have hz := mkS_size s
  have hf := Sx.tree_forest hall
  have HF := Lib.hid hf
  obtain ⟨n, hn⟩ : ∃ n, n = ns.length := ⟨_, rfl⟩
  have hn1 : n ≤ 20000 := by omega
  have hn0 : 0 < n := by omega
  have HNS := Lib.hid hn
  have HAL := Lib.hid (show ∀ W, Later w W → Calls Tryd.prog 8 #[.string (mkS s)] W fun e W' => ∃ g c, e = .returned (.tuple #[.agg #[.slice (some ⟨g, 0, none⟩) n c], .int .i64 0, .int .i64 0]) ∧ n ≤ c ∧ TreeM W' (nl s) (.slice (some ⟨g, 0, none⟩) n c) ns ∧ Later W W' from fun W hW => (parse_ok (by omega) hall W (Sgn.later' hg hW)).mono fun e W' h => by
    obtain ⟨A, c, e1, h1, h2, h3⟩ := h
    rcases h2.at_ with h4 | ⟨g, h4, _⟩
    · rw [h4] at hn; simp at hn; omega
    · subst h4
      rw [hn]
      exact ⟨g, c, e1, h1, h2, h3⟩)
  have HMK := Lib.hid (show ∀ w, (Instr.makeSlice 29 (.int .i64 (n : Int)) (.int .i64 (n : Int))).run Tryd.prog w = .ok (.slice (some ⟨w.heap.size, 0, none⟩) n n) (w.alloc (.cells ((List.range n).map fun _ => iv 0).toArray 3)) from fun w => make_ints w n (by omega))
  have hall0 := Lib.hid hall
  clear hg hall hz hf hn
  go_enter Tryd.func3, Tryd.ntmps3
  go_wp2_with (first
    | (go_at_call 7; (with_reducible refine HA.out.mono ?_); rintro e w1 ⟨rfl, hb1⟩; have HB1 := Lib.hid hb1; clear hb1)
    | (go_at_call 8; (with_reducible refine (HAL.out _ HB1.out).mono ?_); rintro e w2 ⟨g, c, rfl, hc, hm, hl2⟩; have HL2 := Lib.hid (HB1.out.trans hl2); have HM2 := Lib.hid hm; have HC := Lib.hid hc; have hmk := HMK.out (w2.alloc (.cells #[.slice (some ⟨g, 0, none⟩) n c] 25)); clear hl2 hm hc))
  clear hmk
  obtain ⟨wt, hwt⟩ : ∃ wt, wt = w2.alloc (.cells #[.slice (some ⟨g, 0, none⟩) n c] 25) := ⟨_, rfl⟩
  rw [← hwt]
  have HT := Lib.hid (show Later w2 wt by rw [hwt]; exact Later.alloc _ _)
  have QT := Lib.hid (show wt.heap[w2.heap.size]? = some (.cells #[.slice (some ⟨g, 0, none⟩) n c] 25 (0, 0)) by rw [hwt]; exact heap_alloc_new w2 _)
  obtain ⟨q, hq⟩ : ∃ q, q = w2.heap.size + 1 := ⟨_, rfl⟩
  rw [← hq]
  have HQ := Lib.hid (show q = wt.heap.size by rw [hq, hwt]; simp)
  obtain ⟨w3, hw3⟩ : ∃ w3, w3 = wt.alloc (.cells ((List.range n).map fun _ => iv 0).toArray 3) := ⟨_, rfl⟩
  rw [← hw3]
  have HL3 := Lib.hid (show Later wt w3 by rw [hw3]; exact Later.alloc _ _)
  have HC3 := Lib.hid (show Cn w3 q n [] by rw [hw3, HQ.out]; exact heap_alloc_new wt _)
  have HMT := Lib.hid (HM2.out.later HT.out)
  clear hwt hq hw3
  go_loopw [8] (fun i wr => ∃ k : Nat, k ≤ n ∧ i = .int .i64 (k : Int) ∧ Later wt wr ∧ Cn wr q n ((ns.take k).flatMap Sx.Node.kids)) (fun i _ => n - (intOf i).toNat)
  case atStart => exact ⟨0, by omega, rfl, HL3.out, by simpa using HC3.out⟩
  case round =>
    obtain ⟨k, hk, rfl, hlr, hcn⟩ := hrel
    obtain ⟨wo, rfl⟩ : ∃ wo, wo = wr := ⟨_, rfl⟩
    have HLR := Lib.hid hlr
    have HCN := Lib.hid hcn
    have d4 : wo.cell? ⟨w2.heap.size, 0, none⟩ = some (.slice (some ⟨g, 0, none⟩) n c) := (cell_row (later_cells hlr QT.out) 0).1
    have hk0 : (0 : Int) ≤ (k : Int) := by omega
    clear hlr hcn
    by_cases hkn : k < n
    · have hk1 : (k : Int) < (n : Int) := by omega
      have hkl : k < ns.length := by rw [← HNS.out]; exact hkn
      obtain ⟨v, hva, hnv⟩ : ∃ v, NodeAt wt (nl s) g (k * 8) ns[k] v ∧ Nest wt ns[k] v := by
        rcases HMT.out.at_ with h | ⟨g', eg, hat⟩
        · rw [h] at hkl; cases hkl
        · injection eg with eg
          injection eg with eg _ _
          subst eg
          exact hat k hkl
      obtain ⟨Aw, cw, e1, _⟩ := own_any hnv.w
      obtain ⟨Ar, cr, e2, _⟩ := own_any hnv.r
      obtain ⟨Ak, ck, e3, hck⟩ := own_any hnv.k
      have HSH := Lib.hid (HF.out.1.shape ns[k] (List.getElem_mem hkl))
      have HKD := Lib.hid (show ∀ j ∈ ns[k].kids, j < k from fun j hj => by have := HF.out.1.kid k hkl j hj; omega)
      have hfew := Sx.tree_few hall0.out ns[k] (List.getElem_mem hkl)
      have HCT := Lib.hid (show ∀ m x, x < n → ((ns.take k).flatMap Sx.Node.kids ++ ns[k].kids.take m).count x ≤ 1 from fun m x hx => Nat.le_trans (Sx.kids_take ns k m hkl x) (HF.out.1.count_le x (by rw [← HNS.out]; exact hx)))
      have HNX := Lib.hid (Sx.kids_next ns k hkl)
      obtain ⟨nd, hnd⟩ : ∃ nd, nd = ns[k] := ⟨_, rfl⟩
      rw [← hnd] at hva hnv e1 e2 e3 hck HSH HKD HCT HNX hfew
      obtain ⟨L, hL⟩ : ∃ L, L = (ns.take k).flatMap Sx.Node.kids := ⟨_, rfl⟩
      rw [← hL] at HCN HCT HNX
      have hsh := HSH.out
      unfold Sx.shapeB at hsh
      obtain ⟨nw, hnw⟩ : ∃ nw, nw = nd.words.length := ⟨_, rfl⟩
      obtain ⟨nr, hnr⟩ : ∃ nr, nr = nd.redirs.length := ⟨_, rfl⟩
      obtain ⟨nk, hnk⟩ : ∃ nk, nk = nd.kids.length := ⟨_, rfl⟩
      obtain ⟨kd, hkd⟩ : ∃ kd, kd = nd.kind := ⟨_, rfl⟩
      obtain ⟨fl, hfl⟩ : ∃ fl, fl = nd.flag := ⟨_, rfl⟩
      obtain ⟨st, hst⟩ : ∃ st, st = nd.sets := ⟨_, rfl⟩
      obtain ⟨ln, hln⟩ : ∃ ln : Int, lnv (nl s) nd.left = .int .i64 ln := ⟨_, rfl⟩
      rw [← hnw] at e1
      rw [← hnr] at e2
      rw [← hnk] at e3 hck
      rw [← hnw, ← hnr, ← hnk, ← hkd, ← hfl, ← hst] at hsh
      rw [← hnw, ← hnr, ← hkd] at hfew
      have hz2 := mkS_size s
      have HFEW := Lib.hid (show kd = 1 → nw + nr ≤ 100000 from fun h => by have := hfew h; omega)
      clear hfew hz2
      have hld := node_load (NodeAt.later hva HLR.out)
      rw [show (ncs nd v (lnv (nl s) nd.left)).toArray = #[.int .i64 (kd : Int), .string (mkS nd.text), .bool fl, .slice Aw nw cw, .int .i64 (st : Int), .slice Ar nr cr, .slice Ak nk ck, .int .i64 ln] by unfold ncs; rw [e1, e2, e3, hln, ← hkd, ← hfl, ← hst]; rfl] at hld
      have HLD := Lib.hid hld
      have HNV := Lib.hid hnv
      have HSB := Lib.hid hsh
      have E3 := Lib.hid e3
      have HNK := Lib.hid hnk
      have HCK := Lib.hid hck
      have hnk1 : nk ≤ maxLen := by rw [hnk]; exact own_max hnv.k
      have hnw1 : nw ≤ maxLen := by rw [hnw]; exact own_max hnv.w
      have hnr1 : nr ≤ maxLen := by rw [hnr]; exact own_max hnv.r
      unfold maxLen at hnk1 hnw1 hnr1
      have HALL := Lib.hid (show (#[.int .i64 (kd : Int), .string (mkS nd.text), .bool fl, .slice Aw nw cw, .int .i64 (st : Int), .slice Ar nr cr, .slice Ak nk ck, .int .i64 ln] : Array Value).all (·.oneCell') = true by simp [Value.oneCell'])
      clear hsh hld hnv hva e1 e2 e3 hnw hnr hnk hkd hfl hst hln hnd hL hck
      go_wp2_with (first
        | (refine wpList_loadRun rfl 33 (.tmp 47) rfl _ _ rfl HLD.out ?_)
        | (refine wpList_allocO 9 rfl rfl 33 rfl _ _ info_node ?_; intro w4 hb hl hz; have HB4 := Lib.hid (hb); have HL4 := Lib.hid (hl); clear hb hl hz)
        | (refine wpList_storeO rfl 33 (.tmp 9) (.tmp 48) rfl wo.heap.size _ #[.int .i64 (kd : Int), .string (mkS nd.text), .bool fl, .slice Aw nw cw, .int .i64 (st : Int), .slice Ar nr cr, .slice Ak nk ck, .int .i64 ln] rfl rfl HB4.out size_node rfl HALL.out ?_; intro w5 hb5 hg5 hz5; have x6 : w5.cell? ⟨wo.heap.size, 6, none⟩ = some (.slice Ak nk ck) := (cell_row hb5 6).1; have HB5 := Lib.hid hb5; have HL5 := Lib.hid (later_of_new HL4.out hg5 (Nat.le_refl _)); clear hb5 hg5 hz5))
      go_loopw [11] (fun j wx => ∃ m : Nat, m ≤ nk ∧ j = .int .i64 (m : Int) ∧ Later wt wx ∧ Cn wx q n (L ++ nd.kids.take m) ∧ wx.heap[wo.heap.size]? = some (.cells #[.int .i64 (kd : Int), .string (mkS nd.text), .bool fl, .slice Aw nw cw, .int .i64 (st : Int), .slice Ar nr cr, .slice Ak nk ck, .int .i64 ln] 33 (0, 0))) (fun j _ => nk - (intOf j).toNat)
      case atStart => exact ⟨0, by omega, rfl, HLR.out.trans HL5.out, by rw [List.take_zero, List.append_nil]; exact Cn.later HCN.out HL5.out, HB5.out⟩
      case round =>
        obtain ⟨m, hm, rfl, hlx, hcx, hbx⟩ := hrel
        have HLX := Lib.hid hlx
        have HCX := Lib.hid hcx
        have HBX := Lib.hid hbx
        have hm0 : (0 : Int) ≤ (m : Int) := by omega
        clear hlx hcx hbx x6
        by_cases hmn : m < nk
        · have x6 : wr.cell? ⟨wo.heap.size, 6, none⟩ = some (.slice Ak nk ck) := (cell_row HBX.out 6).1
          have hmk : m < nd.kids.length := by rw [← HNK.out]; exact hmn
          obtain ⟨x, hx⟩ : ∃ x, x = nd.kids[m] := ⟨_, rfl⟩
          have hkk := (HNV.out.later HLX.out).k
          rw [E3.out, ← HNK.out] at hkk
          obtain ⟨gk, hgk, hcl⟩ := row_cell hkk (i := m) (u := iv x) (by rw [List.getElem?_map, List.getElem?_eq_getElem hmk, hx]; rfl)
          subst hgk
          have hxk : x < k := HKD.out x (by rw [hx]; exact List.getElem_mem hmk)
          have hcc := HCX.out.cell (k := x) (by omega)
          have hne := HCX.out.next (k := x) (by omega)
          obtain ⟨ct, hct⟩ : ∃ ct, ct = (L ++ nd.kids.take m).count x := ⟨_, rfl⟩
          have hct1 : ct ≤ 1 := by rw [hct]; exact HCT.out m x (by omega)
          rw [← hct] at hcc hne
          have y1 : wr.cell? ⟨gk, m, none⟩ = some (.int .i64 (x : Int)) := hcl
          have y2 : wr.cell? ⟨q, x, none⟩ = some (.int .i64 (ct : Int)) := hcc.1
          have y3 : wr.frozen? ⟨q, x, none⟩ = false := hcc.2
          have i0 : (0 : Int) ≤ (x : Int) := by omega
          have i1 : ¬ (x : Int) < 0 := by omega
          have i2 : (x : Int) < (k : Int) := by omega
          have i3 : ¬ (k : Int) ≤ (x : Int) := by omega
          have i4 : (x : Int) < (n : Int) := by omega
          have i5 : (m : Int) < (nk : Int) := by omega
          obtain ⟨hwr, hwi⟩ := wrap_inc hct1
          have HNE := Lib.hid (show Cn (wr.setCell ⟨q, x, none⟩ (.int .i64 ((ct + 1 : Nat) : Int))) q n (L ++ nd.kids.take (m + 1)) by
            rw [List.take_succ_eq_append_getElem hmk, ← List.append_assoc, ← hx]; exact hne)
          have HKB := Lib.hid (show (wr.setCell ⟨q, x, none⟩ (.int .i64 ((ct + 1 : Nat) : Int))).heap[wo.heap.size]? = some (.cells #[.int .i64 (kd : Int), .string (mkS nd.text), .bool fl, .slice Aw nw cw, .int .i64 (st : Int), .slice Ar nr cr, .slice (some ⟨gk, 0, none⟩) nk ck, .int .i64 ln] 33 (0, 0)) from
            (Below.heap_setCell _ ⟨q, x, none⟩ _ wo.heap.size (by have := lt_of_block HCN.out; show wo.heap.size ≠ q; omega)).trans HBX.out)
          have HLL := Lib.hid (later_of_new HLX.out (set_only wr q x (.int .i64 ((ct + 1 : Nat) : Int))) (by rw [HQ.out]; exact Nat.le_refl _))
          clear hcc hne hkk hcl hct hx hmk
          go_wp2
          go_roundw
          case rel => exact ⟨m + 1, by omega, by go_num, HLL.out, HNE.out, HKB.out⟩
          case measure => simp [intOf]; omega
        · have hme : m = nk := by omega
          have htk : nd.kids.take m = nd.kids := List.take_of_length_le (by rw [← HNK.out]; omega)
          have HCE := Lib.hid (show Cn wr q n ((ns.take (k + 1)).flatMap Sx.Node.kids) by rw [HNX.out]; have := HCX.out; rw [htk] at this; exact this)
          have hms : ¬ (m : Int) < (nk : Int) := by omega
          have x1 : wr.cell? ⟨wo.heap.size, 2, none⟩ = some (.bool fl) := (cell_row HBX.out 2).1
          have x3 : wr.cell? ⟨wo.heap.size, 3, none⟩ = some (.slice Aw nw cw) := (cell_row HBX.out 3).1
          have x4 : wr.cell? ⟨wo.heap.size, 4, none⟩ = some (.int .i64 (st : Int)) := (cell_row HBX.out 4).1
          have x5 : wr.cell? ⟨wo.heap.size, 5, none⟩ = some (.slice Ar nr cr) := (cell_row HBX.out 5).1
          have hsb := HSB.out
          clear htk hme
          have HC0 := Lib.hid (cell_row HBX.out 0).1
          clear HBX HB4 HALL HB5 HCX
          rcases kinds hsb with ⟨rfl, h0, h1, h2⟩ | ⟨rfl, h0⟩ | ⟨rfl, h0, h1⟩ | ⟨rfl, h0⟩ | ⟨rfl, h0⟩ | ⟨rfl, h0⟩ | ⟨rfl, h0⟩ | ⟨rfl, h0⟩ | ⟨rfl, h0⟩ | ⟨rfl, h0⟩ | ⟨rfl, h0⟩ | ⟨rfl, h0⟩ | ⟨rfl, h0⟩ | rfl | rfl
          · have x0 : wr.cell? ⟨wo.heap.size, 0, none⟩ = some (.int .i64 1) := HC0.out
            have z0 : ((nk : Int) == 0) = true := by simp; omega
            have hfew := HFEW.out rfl
            have z1 : (0 : Int) < (nw : Int) + (nr : Int) := by omega
            have z2 : (st : Int) ≤ (nw : Int) := by omega
            obtain ⟨z3, z4⟩ := wrap_small (a := nw) (b := nr) hfew
            go_wp2
            go_roundw
            case rel => exact ⟨k + 1, by omega, by go_num, HLX.out, HCE.out⟩
            case measure => simp [intOf]; omega
          · have x0 : wr.cell? ⟨wo.heap.size, 0, none⟩ = some (.int .i64 2) := HC0.out
            have z0 : (1 : Int) < (nk : Int) := by omega
            go_wp2
            go_roundw
            case rel => exact ⟨k + 1, by omega, by go_num, HLX.out, HCE.out⟩
            case measure => simp [intOf]; omega
          · have x0 : wr.cell? ⟨wo.heap.size, 0, none⟩ = some (.int .i64 2) := HC0.out
            have z0 : ¬ (1 : Int) < (nk : Int) := by omega
            have z1 : ((nk : Int) == 1) = true := by simp; omega
            subst h1
            go_wp2
            go_roundw
            case rel => exact ⟨k + 1, by omega, by go_num, HLX.out, HCE.out⟩
            case measure => simp [intOf]; omega
          · have x0 : wr.cell? ⟨wo.heap.size, 0, none⟩ = some (.int .i64 3) := HC0.out
            have z0 : ((nk : Int) == 2) = true := by simp; omega
            go_wp2
            go_roundw
            case rel => exact ⟨k + 1, by omega, by go_num, HLX.out, HCE.out⟩
            case measure => simp [intOf]; omega
          · have x0 : wr.cell? ⟨wo.heap.size, 0, none⟩ = some (.int .i64 4) := HC0.out
            have z0 : ((nk : Int) == 2) = true := by simp; omega
            go_wp2
            go_roundw
            case rel => exact ⟨k + 1, by omega, by go_num, HLX.out, HCE.out⟩
            case measure => simp [intOf]; omega
          · have x0 : wr.cell? ⟨wo.heap.size, 0, none⟩ = some (.int .i64 7) := HC0.out
            have z0 : ((nk : Int) == 2) = true := by simp; omega
            go_wp2
            go_roundw
            case rel => exact ⟨k + 1, by omega, by go_num, HLX.out, HCE.out⟩
            case measure => simp [intOf]; omega
          · have x0 : wr.cell? ⟨wo.heap.size, 0, none⟩ = some (.int .i64 6) := HC0.out
            have z0 : ((nk : Int) == 2) = true := by simp; omega
            go_wp2
            go_roundw
            case rel => exact ⟨k + 1, by omega, by go_num, HLX.out, HCE.out⟩
            case measure => simp [intOf]; omega
          · have x0 : wr.cell? ⟨wo.heap.size, 0, none⟩ = some (.int .i64 6) := HC0.out
            have z0 : ((nk : Int) == 2) = false := by simp; omega
            have z1 : ((nk : Int) == 3) = true := by simp; omega
            go_wp2
            go_roundw
            case rel => exact ⟨k + 1, by omega, by go_num, HLX.out, HCE.out⟩
            case measure => simp [intOf]; omega
          · have x0 : wr.cell? ⟨wo.heap.size, 0, none⟩ = some (.int .i64 8) := HC0.out
            have z0 : ((nk : Int) == 1) = true := by simp; omega
            go_wp2
            go_roundw
            case rel => exact ⟨k + 1, by omega, by go_num, HLX.out, HCE.out⟩
            case measure => simp [intOf]; omega
          · have x0 : wr.cell? ⟨wo.heap.size, 0, none⟩ = some (.int .i64 11) := HC0.out
            have z0 : ((nk : Int) == 1) = true := by simp; omega
            go_wp2
            go_roundw
            case rel => exact ⟨k + 1, by omega, by go_num, HLX.out, HCE.out⟩
            case measure => simp [intOf]; omega
          · have x0 : wr.cell? ⟨wo.heap.size, 0, none⟩ = some (.int .i64 12) := HC0.out
            have z0 : ((nk : Int) == 1) = true := by simp; omega
            go_wp2
            go_roundw
            case rel => exact ⟨k + 1, by omega, by go_num, HLX.out, HCE.out⟩
            case measure => simp [intOf]; omega
          · have x0 : wr.cell? ⟨wo.heap.size, 0, none⟩ = some (.int .i64 13) := HC0.out
            have z0 : ((nk : Int) == 1) = true := by simp; omega
            go_wp2
            go_roundw
            case rel => exact ⟨k + 1, by omega, by go_num, HLX.out, HCE.out⟩
            case measure => simp [intOf]; omega
          · have x0 : wr.cell? ⟨wo.heap.size, 0, none⟩ = some (.int .i64 10) := HC0.out
            have z0 : ((nk : Int) == 1) = true := by simp; omega
            go_wp2
            go_roundw
            case rel => exact ⟨k + 1, by omega, by go_num, HLX.out, HCE.out⟩
            case measure => simp [intOf]; omega
          · have x0 : wr.cell? ⟨wo.heap.size, 0, none⟩ = some (.int .i64 9) := HC0.out
            go_wp2
            go_roundw
            case rel => exact ⟨k + 1, by omega, by go_num, HLX.out, HCE.out⟩
            case measure => simp [intOf]; omega
          · have x0 : wr.cell? ⟨wo.heap.size, 0, none⟩ = some (.int .i64 5) := HC0.out
            go_wp2
            go_roundw
            case rel => exact ⟨k + 1, by omega, by go_num, HLX.out, HCE.out⟩
            case measure => simp [intOf]; omega
    · have hkn' : ¬ (k : Int) < (n : Int) := by omega
      have htk : ns.take k = ns := List.take_of_length_le (by rw [← HNS.out]; omega)
      have HCA := Lib.hid (show Cn wo q n (ns.flatMap Sx.Node.kids) by have := HCN.out; rw [htk] at this; exact this)
      obtain ⟨hw1, hw2⟩ := wrap_dec hn1
      clear htk
      go_wp2
      go_loopw [13] (fun i wy => ∃ m : Nat, m ≤ n ∧ i = .int .i64 (m : Int) ∧ wy = wo) (fun i _ => n - (intOf i).toNat)
      case atStart => exact ⟨0, by omega, rfl, rfl⟩
      case round =>
        obtain ⟨m, hm, rfl, rfl⟩ := hrel
        have hm0 : (0 : Int) ≤ (m : Int) := by omega
        by_cases hmn : m < n
        · have hm1 : (m : Int) < (n : Int) := by omega
          have hml : m < ns.length := by rw [← HNS.out]; exact hmn
          have hcm := (HCA.out.cell hmn).1
          have hone := HF.out.1.one m (Nat.zero_le _) (by omega)
          obtain ⟨v, hva, _⟩ : ∃ v, NodeAt wt (nl s) g (m * 8) ns[m] v ∧ Nest wt ns[m] v := by
            rcases HMT.out.at_ with h | ⟨g', eg, hat⟩
            · rw [h] at hml; cases hml
            · injection eg with eg
              injection eg with eg _ _
              subst eg
              exact hat m hml
          have hk5 := (NodeAt.later hva HLR.out).c0
          by_cases hme : m + 1 = n
          · have y0 : wr.cell? ⟨q, m, none⟩ = some (.int .i64 0) := by
              rw [hcm, show (ns.flatMap Sx.Node.kids).count m = 0 by rw [← HNS.out, show n - 1 = m by omega] at hone; simp at hone; omega]; rfl
            have y1 : wr.cell? ⟨g, m * 8, none⟩ = some (.int .i64 5) := by
              rw [hk5, HF.out.2.2.1 ns[m] (by rw [← HNS.out, show n - 1 = m by omega]; exact List.getElem?_eq_getElem hml)]; rfl
            have y2 : ((m : Int) == (n : Int) - 1) = true := by simp; omega
            clear hcm hone hva hk5
            go_wp2
            go_roundw
            case rel => exact ⟨m + 1, by omega, by go_num, by first | rfl | trivial⟩
            case measure => simp [intOf]; omega
          · have y0 : wr.cell? ⟨q, m, none⟩ = some (.int .i64 1) := by
              rw [hcm, show (ns.flatMap Sx.Node.kids).count m = 1 by
                have hnn := HNS.out
                have h0 : [ns.length - 1].count m = 0 := List.count_eq_zero.2 (by simp; omega)
                omega]; rfl
            have y2 : ((m : Int) == (n : Int) - 1) = false := by rw [beq_eq_false_iff_ne]; omega
            clear hcm hone hva hk5
            go_wp2
            go_roundw
            case rel => exact ⟨m + 1, by omega, by go_num, by first | rfl | trivial⟩
            case measure => simp [intOf]; omega
        · have hmn' : ¬ (m : Int) < (n : Int) := by omega
          have HRT := Lib.hid (show ∀ W, Later wr W → Calls Tryd.prog 9 #[.agg #[.slice (some ⟨g, 0, none⟩) n c]] W fun e W' => e = .returned (.int .i64 ((n : Int) - 1)) ∧ Later W W' from fun W _ => root_v W _ n c (by omega))
          have HKK := Lib.hid (show ∀ W, Later wr W → Hid (Later wr W) ∧ W.cell? ⟨w2.heap.size, 0, none⟩ = some (.slice (some ⟨g, 0, none⟩) n c) from fun W hW => ⟨hW, cell_keeps hW d4⟩)
          have HL0 := Lib.hid (Later.refl wr)
          go_wp2
          go_region_held (fun W => Hid (Later wr W) ∧ W.cell? ⟨w2.heap.size, 0, none⟩ = some (.slice (some ⟨g, 0, none⟩) n c)) (first | assumption | exact HKK.out _ HL0.out | exact HKK.out _ HL9.out | exact HKK.out _ (Later.drew _)) (first
            | (go_at_call 9; (with_reducible refine (root_v _ _ n c ?hNN).mono ?_); (case hNN => omega); rintro e w9 ⟨rfl, hl9⟩; have HL9 := Lib.hid ((Later.drew wr).trans hl9); clear hl9))
          go_wp2
          go_ret
          exact ⟨rfl, ((HL2.out.trans HT.out).trans HLR.out).trans HL9.out⟩
end syntaxKids
end Go.Proofs.YtipojbknkfkgoaaDoor
