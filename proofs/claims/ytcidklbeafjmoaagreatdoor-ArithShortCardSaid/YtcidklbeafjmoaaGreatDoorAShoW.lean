/- ArithShort: its walk. No premises. -/
import Derived.Test.YtcidklbeafjmoaaGreatDoorALawW
namespace Go.Proofs.YtcidklbeafjmoaaGreatDoor
open Go.RowKit Go.Maps
namespace Ar
namespace Sho
def sgs : List L := [[43], [45], [42], [47], [37], [60, 60], [62, 62], [38], [124], [94], [60], [61, 61]]
def sg (i : Nat) : L := sgs.getD i []
/-- A number, written out. -/
def lit (x : Int) : E := if x < 0 then .un [45] (.num (decL (-x).toNat) (-x).toNat) else .num (decL x.toNat) x.toNat
def vsab (n m : Int) : Vars := [([97], numT n), ([98], [32] ++ numT m ++ [9]), ([97], [120])]
theorem size_one (c : UInt8) (r : L) (h1 : ([124, 38, 61, 33, 60, 62, 36] : L).contains c = false) (h2 : nm c = false) : size (c :: r) = 1 := by
  have hn : ∀ t ∈ longs, Lib.hasPrefix (c :: r) t = false := by
    intro t ht
    have : ∃ x u, t = x :: u ∧ x ∈ ([124, 38, 61, 33, 60, 62, 36] : L) := by
      have : ∀ t ∈ longs, ∃ x u, t = x :: u ∧ x ∈ ([124, 38, 61, 33, 60, 62, 36] : L) := by
        intro t ht
        simp only [longs, List.mem_cons, List.not_mem_nil, or_false] at ht
        rcases ht with rfl | rfl | rfl | rfl | rfl | rfl | rfl | rfl | rfl <;> exact ⟨_, _, rfl, by decide⟩
      exact this t ht
    obtain ⟨x, u, rfl, hx⟩ := this
    unfold Lib.hasPrefix
    rw [List.isPrefixOf_cons_cons]
    have hne : (x == c) = false := by
      rw [beq_eq_false_iff_ne]
      rintro rfl
      rw [List.contains_iff_mem.2 hx] at h1
      cases h1
    rw [hne]
    rfl
  have ha : longs.any (Lib.hasPrefix (c :: r) ·) = false := by
    rw [List.any_eq_false]
    intro t ht
    rw [hn t ht]
    simp
  unfold size
  rw [ha, List.takeWhile_cons, h2]
  simp
theorem size_dec (a : Nat) (r : L) : size (decL a ++ 41 :: r) = (decL a).length := by
  obtain ⟨c, u, e, h1, h2, _⟩ := dec_head a
  have hall := dec_all (q := nm) (fun d => (digit_is d).2.2.1) a
  have hn : ∀ t ∈ longs, Lib.hasPrefix (decL a ++ 41 :: r) t = false := by
    intro t ht
    rw [e]
    simp only [longs, List.mem_cons, List.not_mem_nil, or_false] at ht
    have hk : ∀ (x : UInt8) (v : L), (x.toNat < 48 ∨ 57 < x.toNat) → Lib.hasPrefix (c :: u ++ 41 :: r) (x :: v) = false := by
      intro x v hx
      unfold Lib.hasPrefix
      rw [List.cons_append, List.isPrefixOf_cons_cons, show (x == c) = false from beq_eq_false_iff_ne.2 (fun e => by rw [e] at hx; omega)]
      rfl
    rcases ht with rfl | rfl | rfl | rfl | rfl | rfl | rfl | rfl | rfl <;> exact hk _ _ (by decide)
  have ha : longs.any (Lib.hasPrefix (decL a ++ 41 :: r) ·) = false := by
    rw [List.any_eq_false]
    intro t ht
    rw [hn t ht]
    simp
  have htw : (decL a ++ 41 :: r).takeWhile nm = decL a := by
    rw [List.takeWhile_append_of_pos (fun x hx => List.all_eq_true.1 hall x hx)]
    rw [List.takeWhile_cons, show nm 41 = false by decide]
    simp
  have hlen : 1 ≤ (decL a).length := by rw [e]; simp
  unfold size
  rw [ha, htw]
  simp only [Bool.false_eq_true, if_false, List.length_append, List.length_cons]
  omega
theorem size_op : ∀ (i : Fin 12) (r : L), size (sg i.1 ++ 40 :: r) = (sg i.1).length := by
  intro i r
  match i with
  | 0 => exact size_one _ _ (by decide) (by decide)
  | 1 => exact size_one _ _ (by decide) (by decide)
  | 2 => exact size_one _ _ (by decide) (by decide)
  | 3 => exact size_one _ _ (by decide) (by decide)
  | 4 => exact size_one _ _ (by decide) (by decide)
  | 5 => rfl
  | 6 => rfl
  | 7 => show size (38 :: 40 :: r) = 1; unfold size; rw [show longs.any (Lib.hasPrefix (38 :: 40 :: r) ·) = false from rfl, List.takeWhile_cons, show nm 38 = false by decide]; simp
  | 8 => show size (124 :: 40 :: r) = 1; unfold size; rw [show longs.any (Lib.hasPrefix (124 :: 40 :: r) ·) = false from rfl, List.takeWhile_cons, show nm 124 = false by decide]; simp
  | 9 => exact size_one _ _ (by decide) (by decide)
  | 10 => show size (60 :: 40 :: r) = 1; unfold size; rw [show longs.any (Lib.hasPrefix (60 :: 40 :: r) ·) = false from rfl, List.takeWhile_cons, show nm 60 = false by decide]; simp
  | 11 => rfl
theorem sg_facts : ∀ i : Fin 12, sg i.1 ≠ [] ∧ (sg i.1).all (fun c => !blank c) = true ∧ (sg i.1).length ≤ 2 ∧ 0 ≤ rowOf (sg i.1) ∧ rowOf (sg i.1) ≤ 9 := by decide
theorem lx_one (c : UInt8) (r : L) (ts : List L) (h1 : ([124, 38, 61, 33, 60, 62, 36] : L).contains c = false) (h2 : nm c = false) (h3 : blank c = false) (h : Lx r ts) : Lx (c :: r) ([c] :: ts) :=
  lx_cons (b := []) (t := [c]) rfl (by simp) (fun x u e => by injection e with e; rw [← e]; exact h3) (size_one c r h1 h2) h
theorem lx_dec (a : Nat) (r : L) (ts : List L) (h : Lx (41 :: r) ts) : Lx (decL a ++ 41 :: r) (decL a :: ts) := by
  obtain ⟨c, u, e, h1, h2, _⟩ := dec_head a
  refine lx_cons (b := []) (t := decL a) rfl (by rw [e]; simp) (fun x v e2 => ?_) (size_dec a r) h
  have := List.all_eq_true.1 (dec_all (q := fun c => !blank c) (fun d => by rw [(digit_is d).2.2.2]; rfl) a) x (by rw [e2]; simp)
  simpa using this
theorem lx_lit (x : Int) (r : L) (ts : List L) (h : Lx (41 :: r) ts) : Lx (numT x ++ 41 :: r) (toks (lit x) ++ ts) := by
  unfold numT lit
  by_cases hx : x < 0
  · rw [if_pos hx, if_pos hx]
    exact lx_one 45 _ _ (by decide) (by decide) (by decide) (lx_dec _ r ts h)
  · rw [if_neg hx, if_neg hx]
    exact lx_dec _ r ts h
def ea (i : Nat) : E := .bin (sg i) (.var [97]) (.var [98])
def eb (i : Nat) : E := .bin (sg i) (.dol [97]) (.brc [98])
def ec (i : Nat) (n m : Int) : E := .bin (sg i) (.par (lit n)) (.par (lit m))
def ed : E := .bin [43] (.var [99]) (.var [100])
def ta (i : Nat) : L := [97, 32] ++ sg i ++ [32, 98]
def tb (i : Nat) : L := [36, 97] ++ sg i ++ [36, 123, 98, 125]
def tc (i : Nat) (n m : Int) : L := [40] ++ numT n ++ [41] ++ sg i ++ [40] ++ numT m ++ [41]
theorem lx_a : ∀ i : Fin 12, lexF 9 (ta i.1) = some (toks (ea i.1)) := by decide +kernel
theorem lx_b : ∀ i : Fin 12, lexF 9 (tb i.1) = some (toks (eb i.1)) := by decide +kernel
theorem lx_c (i : Fin 12) (n m : Int) : Lx (tc i.1 n m) (toks (ec i.1 n m)) := by
  have e0 : Lx [] [] := ⟨1, rfl⟩
  have e1 : Lx [41] [[41]] := lx_one 41 [] [] (by decide) (by decide) (by decide) e0
  have e2 := lx_one 40 _ _ (by decide) (by decide) (by decide) (lx_lit m [] _ e1)
  have f := sg_facts i
  have e3 : Lx (sg i.1 ++ 40 :: (numT m ++ [41])) (sg i.1 :: [40] :: (toks (lit m) ++ [[41]])) :=
    lx_cons (b := []) (t := sg i.1) rfl f.1 (fun c u e => by have := List.all_eq_true.1 f.2.1 c (by rw [e]; simp); simpa using this) (size_op i _) e2
  have e4 := lx_one 41 _ _ (by decide) (by decide) (by decide) e3
  have e5 := lx_one 40 _ _ (by decide) (by decide) (by decide) (lx_lit n _ _ e4)
  have h1 : tc i.1 n m = 40 :: (numT n ++ 41 :: (sg i.1 ++ 40 :: (numT m ++ [41]))) := by unfold tc; simp
  have h2 : toks (ec i.1 n m) = [40] :: (toks (lit n) ++ [41] :: (sg i.1 :: [40] :: (toks (lit m) ++ [[41]]))) := by unfold ec; simp [toks]
  rw [h1, h2]
  exact e5
theorem ok_lit (vs : Vars) (x : Int) (h0 : -9223372036854775808 < x) (h1 : x < 9223372036854775808) (d l : Nat) (hd : d < 40) : ok vs (lit x) d l := by
  unfold lit
  split
  · exact ⟨by decide, hd, num_dec _ (by omega)⟩
  · exact num_dec _ (by omega)
theorem ev_lit (vs : Vars) (x : Int) (h0 : -9223372036854775808 < x) (h1 : x < 9223372036854775808) (i f : Nat) : ev vs (lit x) i f = (x, f) := by
  unfold lit
  split
  · next h =>
    show (wrap64 (-(((-x).toNat : Nat) : Int)), f) = _
    rw [w64 _ (by omega)]
    congr 1
    omega
  · next h =>
    show (((x.toNat : Nat) : Int), f) = _
    congr 1
    omega
theorem ev_leaf {vs : Vars} {o : L} {a b : E} {n m : Int} (ha : ∀ i f, ev vs a i f = (n, f)) (hb : ∀ i f, ev vs b i f = (m, f)) : ev vs (.bin o a b) 0 0 = (op2 o n m, if (o = [47] ∨ o = [37]) ∧ m = 0 then 22 else 0) := by
  show (op2 o (ev vs a 0 0).1 (ev vs b _ (ev vs a 0 0).2).1, if ((o = [47] ∨ o = [37]) ∧ (ev vs b _ (ev vs a 0 0).2).1 = 0) ∧ (0 : Nat) = 0 ∧ (ev vs b _ (ev vs a 0 0).2).2 = 0 then 22 else (ev vs b _ (ev vs a 0 0).2).2) = _
  rw [ha, hb]
  simp
theorem look_ab {n m : Int} (hn : In n) (hm : In m) : look (vsab n m) [97] = some n ∧ look (vsab n m) [98] = some m ∧ look (vsab n m) [99] = some 0 ∧ look (vsab n m) [100] = some 0 :=
  ⟨numV_own n hn.1 hn.2, numV_numT m hm.1 hm.2 [32] [9] rfl rfl, rfl, rfl⟩
theorem vars_ab (W : World) (N : Nat) (hN : N = W.heap.size) {n m : Int} (hn : In n) (hm : In m) : Vars0 (W.alloc (.cells #[.string ⟨#[97]⟩, .string (mkS (numT n)), .string ⟨#[98]⟩, .string (mkS ([32] ++ numT m ++ [9])), .string ⟨#[97]⟩, .string ⟨#[120]⟩] 25)) (.slice (some ⟨N, 0, none⟩) 3 3) (vsab n m) := by
  subst hN
  refine ⟨.inr ⟨W.heap.size, rfl, heap_alloc_new W _⟩, fun p hp => ?_, by show (3 : Nat) ≤ 4000; omega⟩
  have hl := fun (a : Int) (ha : In a) => (numT_ok a ha.1 ha.2).2
  simp only [vsab, List.mem_cons, List.not_mem_nil, or_false] at hp
  rcases hp with rfl | rfl | rfl
  · have := hl n hn; exact ⟨by show (1 : Nat) ≤ 4000; omega, by dsimp only; omega⟩
  · have := hl m hm; exact ⟨by show (1 : Nat) ≤ 4000; omega, by dsimp only; simp only [List.length_append, List.length_cons, List.length_nil]; omega⟩
  · exact ⟨by show (1 : Nat) ≤ 4000; omega, by show (1 : Nat) ≤ 4000; omega⟩
/-- All three ways to write it come to the same; what is not there is 0. -/
theorem three_ways {n m : Int} (hn : In n) (hm : In m) (i : Fin 12) : ∃ (r : Int) (f : Nat), ∀ (W : World) (v : Value), Tb0 W → Vars0 W v (vsab n m) → EvalIs W (ta i.1) v r f ∧ EvalIs W (tb i.1) v r f ∧ EvalIs W (tc i.1 n m) v r f ∧ EvalIs W [99, 43, 100] v 0 0 := by
  obtain ⟨l1, l2, l3, l4⟩ := look_ab hn hm
  obtain ⟨q, hq⟩ : ∃ q : Int × Nat, q = (op2 (sg i.1) n m, if (sg i.1 = [47] ∨ sg i.1 = [37]) ∧ m = 0 then 22 else 0) := ⟨_, rfl⟩
  have f := sg_facts i
  have hln := (numT_ok n hn.1 hn.2).2
  have hlm := (numT_ok m hm.1 hm.2).2
  have va : ∀ (x y : Nat), ev (vsab n m) (.var [97]) x y = (n, y) := fun x y => by show ((look (vsab n m) [97]).getD 0, y) = _; rw [l1]; rfl
  have vb : ∀ (x y : Nat), ev (vsab n m) (.var [98]) x y = (m, y) := fun x y => by show ((look (vsab n m) [98]).getD 0, y) = _; rw [l2]; rfl
  have ok2 : ∀ a b : E, ok (vsab n m) a 0 ((rowOf (sg i.1)).toNat + 1) → ok (vsab n m) b 0 ((rowOf (sg i.1)).toNat + 2) → ok (vsab n m) (.bin (sg i.1) a b) 0 0 := fun a b h1 h2 => ⟨f.2.2.2.1, by have := f.2.2.2.1; show ((0 : Nat) : Int) ≤ _; omega, h1, h2⟩
  have nv : nameB [97] = true ∧ nameB [98] = true ∧ nameB [99] = true ∧ nameB [100] = true := by decide
  have a1 : nameB [97] = true ∧ (look (vsab n m) [97]).isSome = true := ⟨nv.1, by rw [l1]; rfl⟩
  have b1 : nameB [98] = true ∧ (look (vsab n m) [98]).isSome = true := ⟨nv.2.1, by rw [l2]; rfl⟩
  have c1 : nameB [99] = true ∧ (look (vsab n m) [99]).isSome = true := ⟨nv.2.2.1, by rw [l3]; rfl⟩
  have d1 : nameB [100] = true ∧ (look (vsab n m) [100]).isSome = true := ⟨nv.2.2.2, by rw [l4]; rfl⟩
  refine ⟨if q.2 = 0 then q.1 else 0, q.2, fun W v hT hV => ⟨?_, ?_, ?_, ?_⟩⟩
  · exact eval_is hT hV (by unfold ta; simp only [List.length_append, List.length_cons, List.length_nil]; omega) (ea i.1) (lx_of (lx_a i)) (ok2 _ _ a1 b1) ((ev_leaf va vb).trans hq.symm)
  · exact eval_is hT hV (by unfold tb; simp only [List.length_append, List.length_cons, List.length_nil]; omega) (eb i.1) (lx_of (lx_b i)) (ok2 _ _ a1 b1) ((ev_leaf (a := .dol [97]) (b := .brc [98]) va vb).trans hq.symm)
  · exact eval_is hT hV (by unfold tc; simp only [List.length_append, List.length_cons, List.length_nil]; omega) (ec i.1 n m) (lx_c i n m) (ok2 _ _ ⟨by omega, ok_lit _ n hn.1 hn.2 1 0 (by omega)⟩ ⟨by omega, ok_lit _ m hm.1 hm.2 1 0 (by omega)⟩) ((ev_leaf (a := .par (lit n)) (b := .par (lit m)) (fun x y => ev_lit _ n hn.1 hn.2 x y) (fun x y => ev_lit _ m hm.1 hm.2 x y)).trans hq.symm)
  · exact eval_is hT hV (by decide) ed (n := 0) (f := 0) (lx_of (n := 9) (by decide +kernel)) ⟨by decide, by decide, c1, d1⟩ (by show (op2 [43] ((look (vsab n m) [99]).getD 0) ((look (vsab n m) [100]).getD 0), 0) = _; rw [l3, l4]; show (op2 [43] 0 0, (0 : Nat)) = (0, 0); rw [show op2 [43] 0 0 = 0 by decide +kernel])
theorem ops_at (W : World) : ∀ i : Nat, i < 12 → (W.alloc (.cells #[.string ⟨#[43]⟩, .string ⟨#[45]⟩, .string ⟨#[42]⟩, .string ⟨#[47]⟩, .string ⟨#[37]⟩, .string ⟨#[60, 60]⟩, .string ⟨#[62, 62]⟩, .string ⟨#[38]⟩, .string ⟨#[124]⟩, .string ⟨#[94]⟩, .string ⟨#[60]⟩, .string ⟨#[61, 61]⟩] 9)).cell? ⟨W.heap.size, i, none⟩ = some (.string (mkS (sg i))) := by
  intro i hi
  rw [(cell_row (heap_alloc_new W _) i).1]
  have hkk : i = 0 ∨ i = 1 ∨ i = 2 ∨ i = 3 ∨ i = 4 ∨ i = 5 ∨ i = 6 ∨ i = 7 ∨ i = 8 ∨ i = 9 ∨ i = 10 ∨ i = 11 := by omega
  clear hi
  rcases hkk with rfl | rfl | rfl | rfl | rfl | rfl | rfl | rfl | rfl | rfl | rfl | rfl
  all_goals rfl
end Sho
end Ar
namespace arithShort
open Ar
set_option maxHeartbeats 6400000 in
set_option maxRecDepth 100000 in
theorem walkIn (w : World) (hg : Tb0 w) (n m : Int) (hn : In n) (hm : In m) (a : Int) (i : Fin 12) (ha0 : 0 ≤ a) (ha1 : a ≤ 255) (hai : a.tmod 12 = (i.1 : Int)) : Calls Tryz.prog 5 #[.int .i64 n, .int .u8 a, .int .i64 m] w fun e w' => e = .returned (.bool true) ∧ Below w.heap.size w w' := by
  obtain ⟨r, f, h3⟩ := Sho.three_ways hn hm i
  obtain ⟨fi, hfi⟩ : ∃ fi : Int, fi = (f : Int) := ⟨_, rfl⟩
  have HB := Lib.hid h3
  have HFI := Lib.hid hfi
  have HA := Lib.hid (awake_v w hg)
  have HG := Lib.hid hg
  have HN := Lib.hid (numT_ok n hn.1 hn.2).1
  have HM := Lib.hid (numT_ok m hm.1 hm.2).1
  have HI := Lib.hid (And.intro hn hm)
  have HL12 := Lib.hid i.2
  have n1 : (n == -9223372036854775808) = false := by unfold In at hn; simp; omega
  have n2 : (m == -9223372036854775808) = false := by unfold In at hm; simp; omega
  have zn : (mkS (numT n)).size ≤ 40 := by rw [mkS_size]; exact (numT_ok n hn.1 hn.2).2
  have zm : (mkS (numT m)).size ≤ 40 := by rw [mkS_size]; exact (numT_ok m hm.1 hm.2).2
  obtain ⟨ii, hii⟩ : ∃ ii : Nat, ii = i.1 := ⟨_, rfl⟩
  rw [← hii] at hai HL12 HB
  have hi0 : (0 : Int) ≤ (ii : Int) := by omega
  have hi1 : (ii : Int) < 12 := by have := HL12.out; omega
  obtain ⟨si, hsi⟩ : ∃ si, si = Ar.Sho.sg ii := ⟨_, rfl⟩
  have zi : (mkS si).size ≤ 2 := by rw [mkS_size, hsi]; exact (Sho.sg_facts ⟨ii, HL12.out⟩).2.2.1
  have HSI := Lib.hid hsi
  have HOP := Lib.hid (fun W => Sho.ops_at W ii HL12.out)
  rw [← hsi] at HOP
  obtain ⟨tn, htn⟩ : ∃ tn, tn = mkS (numT n) := ⟨_, rfl⟩
  obtain ⟨tm, htm⟩ : ∃ tm, tm = mkS (numT m) := ⟨_, rfl⟩
  obtain ⟨so, hso⟩ : ∃ so, so = mkS si := ⟨_, rfl⟩
  rw [← hso] at HOP zi
  rw [← htn] at zn
  rw [← htm] at zm
  have HN2 := Lib.hid (show ∀ W, Calls Tryz.prog 7 #[.int .i64 n] W fun e W' => e = .returned (.string tn) ∧ Later W W' by rw [htn]; exact HN.out)
  have HM2 := Lib.hid (show ∀ W, Calls Tryz.prog 7 #[.int .i64 m] W fun e W' => e = .returned (.string tm) ∧ Later W W' by rw [htm]; exact HM.out)
  -- the texts, as they are put
  have HTB := Lib.hid (show (⟨#[32]⟩ : ByteArray) ++ tm ++ ⟨#[9]⟩ = mkS ([32] ++ numT m ++ [9]) by rw [htm]; show mkS [32] ++ mkS _ ++ mkS [9] = _; rw [mkS_add, mkS_add])
  have T1 := Lib.hid (show (⟨#[97, 32]⟩ : ByteArray) ++ so ++ ⟨#[32, 98]⟩ = mkS (Sho.ta ii) by rw [hso, hsi]; show mkS [97, 32] ++ mkS _ ++ mkS [32, 98] = _; rw [mkS_add, mkS_add]; rfl)
  have T2 := Lib.hid (show (⟨#[36, 97]⟩ : ByteArray) ++ so ++ ⟨#[36, 123, 98, 125]⟩ = mkS (Sho.tb ii) by rw [hso, hsi]; show mkS [36, 97] ++ mkS _ ++ mkS [36, 123, 98, 125] = _; rw [mkS_add, mkS_add]; rfl)
  have T3 := Lib.hid (show (⟨#[40]⟩ : ByteArray) ++ tn ++ ⟨#[41]⟩ ++ so ++ ⟨#[40]⟩ ++ tm ++ ⟨#[41]⟩ = mkS (Sho.tc ii n m) by rw [hso, hsi, htn, htm]; show mkS [40] ++ mkS _ ++ mkS [41] ++ mkS _ ++ mkS [40] ++ mkS _ ++ mkS [41] = _; rw [mkS_add, mkS_add, mkS_add, mkS_add, mkS_add, mkS_add]; rfl)
  have HVA := Lib.hid (show ∀ W : World, Vars0 (W.alloc (.cells #[.string ⟨#[97]⟩, .string tn, .string ⟨#[98]⟩, .string ((⟨#[32]⟩ : ByteArray) ++ tm ++ ⟨#[9]⟩), .string ⟨#[97]⟩, .string ⟨#[120]⟩] 25)) (.slice (some ⟨W.heap.size, 0, none⟩) 3 3) (Sho.vsab n m) from fun W => by rw [HTB.out, htn]; exact Sho.vars_ab W _ rfl HI.out.1 HI.out.2)
  clear hg hn hm hii hsi htn htm hso hfi
  go_enter Tryz.func5, Tryz.ntmps5
  go_wp2_with (first
    | (go_at_call 6; (with_reducible refine HA.out.mono ?_); rintro e w1 ⟨rfl, hl1⟩; have hcell := HOP.out w1; have HL1 := Lib.hid hl1; clear hl1)
    | (go_at_call 7; (with_reducible refine (HN2.out _).mono ?_); rintro e w2 ⟨rfl, hl2⟩; have HL2 := Lib.hid (HL1.out.trans ((Later.alloc _ _).trans hl2)); clear hl2)
    | (go_at_call 7; (with_reducible refine (HM2.out _).mono ?_); rintro e w3 ⟨rfl, hl3⟩; have HL3 := Lib.hid (HL2.out.trans hl3); clear hl3)
    | (go_at_call 8; have hv4 := HVA.out w3; have hl4 := HL3.out.trans (Later.alloc w3 (.cells #[.string ⟨#[97]⟩, .string tn, .string ⟨#[98]⟩, .string ((⟨#[32]⟩ : ByteArray) ++ tm ++ ⟨#[9]⟩), .string ⟨#[97]⟩, .string ⟨#[120]⟩] 25)); (with_reducible refine (evalC (HB.out _ _ (HG.out.later hl4) hv4).1 ((⟨#[97, 32]⟩ : ByteArray) ++ so ++ ⟨#[32, 98]⟩) T1.out fi HFI.out).mono ?_); rintro e w5 ⟨rfl, hl5⟩; have HL5 := Lib.hid (hl4.trans hl5); have HV5 := Lib.hid (hv4.later hl5); clear hl4 hl5 hv4)
    | (go_at_call 8; (with_reducible refine (evalC (HB.out _ _ (HG.out.later HL5.out) HV5.out).2.1 ((⟨#[36, 97]⟩ : ByteArray) ++ so ++ ⟨#[36, 123, 98, 125]⟩) T2.out fi HFI.out).mono ?_); rintro e w6 ⟨rfl, hl6⟩; have HL6 := Lib.hid (HL5.out.trans hl6); have HV6 := Lib.hid (HV5.out.later hl6); clear hl6)
    | (go_at_call 7; (with_reducible refine (HN2.out _).mono ?_); rintro e w7 ⟨rfl, hl7⟩; have HL7 := Lib.hid (HL6.out.trans hl7); have HV7 := Lib.hid (HV6.out.later hl7); clear hl7)
    | (go_at_call 7; (with_reducible refine (HM2.out _).mono ?_); rintro e w8 ⟨rfl, hl8⟩; have HL8 := Lib.hid (HL7.out.trans hl8); have HV8 := Lib.hid (HV7.out.later hl8); clear hl8)
    | (go_at_call 8; (with_reducible refine (evalC (HB.out _ _ (HG.out.later HL8.out) HV8.out).2.2.1 ((⟨#[40]⟩ : ByteArray) ++ tn ++ ⟨#[41]⟩ ++ so ++ ⟨#[40]⟩ ++ tm ++ ⟨#[41]⟩) T3.out fi HFI.out).mono ?_); rintro e w9 ⟨rfl, hl9⟩; have HL9 := Lib.hid (HL8.out.trans hl9); have HV9 := Lib.hid (HV8.out.later hl9); clear hl9)
    | (go_at_call 8; (with_reducible refine (evalC (HB.out _ _ (HG.out.later HL9.out) HV9.out).2.2.2 ⟨#[99, 43, 100]⟩ rfl 0 rfl).mono ?_); rintro e w10 ⟨rfl, hl10⟩; have HL10 := Lib.hid (HL9.out.trans hl10); clear hl10))
  go_ret
  exact ⟨rfl, HL10.out⟩
set_option maxHeartbeats 1600000 in
set_option maxRecDepth 100000 in
theorem walk (w : World) (hg : Tb0 w) (n : Int) (hn : (Lit.int .i64 n).wf = true) (a : Int) (ha : (Lit.int .u8 a).wf = true) (m : Int) (hm : (Lit.int .i64 m).wf = true) :
    Calls Tryz.prog 5 #[.int .i64 n, .int .u8 a, .int .i64 m] w fun e w' => e = .returned (.bool true) ∧ Below w.heap.size w w' := by
  obtain ⟨x0, x1⟩ := bounds_i64 hn
  obtain ⟨y0, y1⟩ := bounds_i64 hm
  obtain ⟨a0, a1⟩ := bounds_u8 ha
  clear hn hm ha
  by_cases hnm : n = -9223372036854775808 ∨ m = -9223372036854775808
  · have HA := Lib.hid (awake_v w hg)
    clear hg
    by_cases hx : n = -9223372036854775808
    · have n1 : (n == -9223372036854775808) = true := by simp [hx]
      clear hnm x0 x1 y0 y1 hx
      go_enter Tryz.func5, Tryz.ntmps5
      go_wp2_with (go_at_call 6; (with_reducible refine HA.out.mono ?_); rintro e w1 ⟨rfl, hl1⟩)
      go_ret
      exact ⟨rfl, hl1⟩
    · have n1 : (n == -9223372036854775808) = false := by simp [hx]
      have n2 : (m == -9223372036854775808) = true := by simp; omega
      clear hnm x0 x1 y0 y1 hx
      go_enter Tryz.func5, Tryz.ntmps5
      go_wp2_with (go_at_call 6; (with_reducible refine HA.out.mono ?_); rintro e w1 ⟨rfl, hl1⟩)
      go_ret
      exact ⟨rfl, hl1⟩
  · have ea : a.tmod 12 = (((a.toNat % 12 : Nat)) : Int) := by
      rw [show a = ((a.toNat : Nat) : Int) by omega]; rfl
    exact walkIn w hg n m (by unfold In; omega) (by unfold In; omega) a ⟨a.toNat % 12, Nat.mod_lt _ (by omega)⟩ a0 a1 ea
end arithShort
end Go.Proofs.YtcidklbeafjmoaaGreatDoor
