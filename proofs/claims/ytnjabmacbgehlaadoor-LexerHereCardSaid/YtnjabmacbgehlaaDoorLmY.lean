/- lexer's open: a reader is laid. No premises. -/
import Derived.Test.YtnjabmacbgehlaaDoorLmX
namespace Go.Proofs.YtnjabmacbgehlaaDoor
open Go.RowKit Go.Maps
open Lx (nl Tok)
/-- A table that is filled: at most k entries. -/
def TabN (W : World) (m k : Nat) (f : UInt8 → Option Value) : Prop :=
  ∃ D n, W.ownsMap Tryd.prog 5 heldR m n D ∧ n ≤ k ∧ ∀ c, Maps.has D (keyL c) = (f c).isSome ∧ ∀ z, D.atKey (keyL c) (.held z) = .held ((f c).getD z)
theorem TabN.tab {W : World} {m k : Nat} {f : UInt8 → Option Value} (h : TabN W m k f) (hk : k ≤ 30) : Tab W m f := by
  obtain ⟨D, n, h1, h2, h3⟩ := h
  exact ⟨D, n, h1, by omega, h3⟩
theorem TabN.made (W : World) : TabN (W.alloc (.map #[] 0)) W.heap.size 0 fun _ => none :=
  ⟨.map [], 0, World.ownsMap_made W _ _ _, by omega, fun c => ⟨rfl, fun z => rfl⟩⟩
theorem TabN.kept {W W' : World} {m k : Nat} {f : UInt8 → Option Value} {row : Option Nat} (h : TabN W m k f) (hg : W.grownBy W' row) (hne : some m ≠ row) : TabN W' m k f := by
  obtain ⟨D, n, h1, h2, h3⟩ := h
  exact ⟨D, n, h1.kept hg hne, h2, h3⟩
theorem TabN.lt {W : World} {m k : Nat} {f : UInt8 → Option Value} (h : TabN W m k f) : m < W.heap.size := by
  obtain ⟨D, n, h1, _⟩ := h
  exact h1.lt
def putT (f : UInt8 → Option Value) (c : UInt8) (v : Value) : UInt8 → Option Value := fun x => if x = c then some v else f x
theorem TabN.put {W : World} {m k : Nat} {f : UInt8 → Option Value} (h : TabN W m k f) (hk : k ≤ 29) (c : UInt8) (v : Value) : ∃ W', (Instr.mapUpdate 49 (.map (some m)) (.int .u8 (c.toNat : Int)) v).run Tryd.prog W = .ok () W' ∧ TabN W' m (k + 1) (putT f c v) ∧ W.grownBy W' (some m) := by
  obtain ⟨D, n, h1, h2, h3⟩ := h
  obtain ⟨W', hr, h4, h5⟩ := h1.update u8_keyed Tryd.underlying49 (by unfold maxLen; omega) (keyOf_u8 c) (val := v) (d := .held v) (ps := []) rfl
  refine ⟨W', hr, ⟨_, n + 1, h4, by omega, fun x => ?_⟩, h5⟩
  unfold putT
  by_cases hx : x = c
  · subst hx
    rw [if_pos rfl]
    exact ⟨has_put_same h1.isMap (show WideAt.IsKeyLit (keyL x) from trivial) _, fun z => atKey_put_same h1.isMap (show WideAt.IsKeyLit (keyL x) from trivial) _ _⟩
  · rw [if_neg hx, has_put_other (key_ne hx)]
    exact ⟨(h3 x).1, fun z => by rw [atKey_put_other (key_ne hx)]; exact (h3 x).2 z⟩
section
variable {ops : Array Oper} {rest : List Oper} {o : Oper} {a : Act} {Q : Exit → Act → World → Prop}
theorem wpList_tabUpd (w : World) (hgd : o.guard = none) (mo xo vo : Operand) (hop : o.op = .mapUpdate 49 mo xo vo) (m k : Nat) (f : UInt8 → Option Value) (c : UInt8) (v : Value) (hm : a.eval mo = .map (some m)) (hx : a.eval xo = .int .u8 (c.toNat : Int)) (hv : a.eval vo = v)
    (h : TabN w m k f) (hk : k ≤ 29) (hK : ∀ w', TabN w' m (k + 1) (putT f c v) → w.grownBy w' (some m) → wpList Tryd.prog ops Q rest (a.put o.dst undef) w') : wpList Tryd.prog ops Q (o :: rest) a w := by
  refine wpList_plain hgd fun K' hK' => ?_
  obtain ⟨w', hrun, r1, r2⟩ := h.put hk c v
  unfold Oper.wp
  simp [execOp, hop, hm, hx, hv, hrun, Result.andThen]
  exact hK' _ _ (hK w' r1 r2)
theorem wpList_tabIns (w : World) (hgd : o.guard = none) (mo xo vo : Operand) (hop : o.op = .insert 49 mo xo vo) (m k : Nat) (f : UInt8 → Option Value) (c : UInt8) (v : Value) (hm : a.eval mo = .map (some m)) (hx : a.eval xo = .int .u8 (c.toNat : Int)) (hv : a.eval vo = v)
    (h : TabN w m k f) (hk : k ≤ 29) (hK : ∀ w', TabN w' m (k + 1) (putT f c v) → w.grownBy w' (some m) → wpList Tryd.prog ops Q rest (a.put o.dst undef) w') : wpList Tryd.prog ops Q (o :: rest) a w := by
  refine wpList_plain hgd fun K' hK' => ?_
  obtain ⟨w', hrun, r1, r2⟩ := h.put hk c v
  unfold Oper.wp
  simp [execOp, hop, hm, hx, hv, hrun, Result.andThen]
  exact hK' _ _ (hK w' r1 r2)
end
/-- The reader that is laid: its struct, its tables' places. -/
structure Opn (W : World) (S : L) (st pa : Option Nat) (w : World) : Prop where
  box : w.heap[W.heap.size]? = some (.cells #[.string (mkS S), .int .i64 0, .int .i64 1, .int .i64 0, .slice none 0 0, .slice none 0 0, .slice none 0 0, .bool false, .int .i64 0, .map st, .map pa] 51 (0, 0))
  bel : Below W.heap.size W w
  lt : W.heap.size < w.heap.size
theorem Opn.grown {W w w' : World} {S : L} {st pa : Option Nat} {m : Nat} (h : Opn W S st pa w) (hg : w.grownBy w' (some m)) (hm : W.heap.size < m) : Opn W S st pa w' :=
  ⟨(hg.block _ h.lt (fun e => by injection e with e; omega)).trans h.box, h.bel.grown hg (Nat.le_of_lt h.lt) (fun k e => by injection e with e; omega), Nat.lt_of_lt_of_le h.lt hg.size⟩
theorem Opn.later {W w w' : World} {S : L} {st pa : Option Nat} (h : Opn W S st pa w) (hl : Later w w') : Opn W S st pa w' :=
  ⟨(hl.block _ h.lt).trans h.box, h.bel.trans (hl.mono (Nat.le_of_lt h.lt)), Nat.lt_of_lt_of_le h.lt hl.size⟩
theorem Opn.cells {W w : World} {S : L} {st pa : Option Nat} (h : Opn W S st pa w) : w.cell? ⟨W.heap.size, 9, none⟩ = some (.map st) ∧ w.cell? ⟨W.heap.size, 10, none⟩ = some (.map pa) ∧ w.frozen? ⟨W.heap.size, 9, none⟩ = false ∧ w.frozen? ⟨W.heap.size, 10, none⟩ = false :=
  ⟨(cell_row h.box 9).1, (cell_row h.box 10).1, (cell_row h.box 9).2, (cell_row h.box 10).2⟩
theorem Opn.set9 {W w : World} {S : L} {st pa : Option Nat} (h : Opn W S st pa w) (m : Nat) : Opn W S (some m) pa (w.setCell ⟨W.heap.size, 9, none⟩ (.map (some m))) :=
  ⟨by rw [set_row h.box 9]; rfl, h.bel.setCell (Nat.le_refl _) _, by rw [World.size_setCell]; exact h.lt⟩
theorem Opn.set10 {W w : World} {S : L} {st pa : Option Nat} (h : Opn W S st pa w) (m : Nat) : Opn W S st (some m) (w.setCell ⟨W.heap.size, 10, none⟩ (.map (some m))) :=
  ⟨by rw [set_row h.box 10]; rfl, h.bel.setCell (Nat.le_refl _) _, by rw [World.size_setCell]; exact h.lt⟩
theorem TabN.later {W W' : World} {m k : Nat} {f : UInt8 → Option Value} (h : TabN W m k f) (hl : Later W W') : TabN W' m k f := h.kept (row := none) ⟨hl.os, hl.tape, hl.output, hl.size, fun k hk _ => hl.block k hk⟩ nofun
def putL (f : UInt8 → Option Value) (v : Value) (l : L) : UInt8 → Option Value := l.foldl (fun f c => putT f c v) f
theorem putL_snoc (f : UInt8 → Option Value) (v : Value) (l : L) (c : UInt8) : putL f v (l ++ [c]) = putT (putL f v l) c v := by simp [putL]
theorem TabN.congr {W : World} {m k : Nat} {f f' : UInt8 → Option Value} (h : TabN W m k f) (he : ∀ c, f c = f' c) : TabN W m k f' := by
  obtain ⟨D, n, h1, h2, h3⟩ := h
  exact ⟨D, n, h1, h2, fun c => by rw [← he c]; exact h3 c⟩
theorem starts_eq (g : Nat) (c : UInt8) : putL (putL (putT (putT (putT (fun _ => none) 92 (fnv 27 g)) 35 (fnv 28 g)) 10 (fnv 29 g)) (fnv 30 g) (([32, 9] : L).take 2)) (fnv 31 g) (([59, 38, 124, 40, 41, 60, 62] : L).take 7) c = startsT g c := by
  simp only [List.take, putL, List.foldl_cons, List.foldl_nil, putT, startsT]
  by_cases h1 : c = 92
  · subst h1; rfl
  by_cases h2 : c = 35
  · subst h2; rfl
  by_cases h3 : c = 10
  · subst h3; rfl
  by_cases h4 : c = 32
  · subst h4; rfl
  by_cases h5 : c = 9
  · subst h5; rfl
  by_cases h6 : c = 59
  · subst h6; rfl
  by_cases h7 : c = 38
  · subst h7; rfl
  by_cases h8 : c = 124
  · subst h8; rfl
  by_cases h9 : c = 40
  · subst h9; rfl
  by_cases h10 : c = 41
  · subst h10; rfl
  by_cases h11 : c = 60
  · subst h11; rfl
  by_cases h12 : c = 62
  · subst h12; rfl
  simp [h1, h2, h3, h4, h5, h6, h7, h8, h9, h10, h11, h12]
theorem parts_eq (g : Nat) (c : UInt8) : putT (putT (putT (putT (putT (fun _ => none) 92 (fnv 32 g)) 39 (fnv 33 g)) 34 (fnv 34 g)) 36 (fnv 35 g)) 96 (fnv 36 g) c = partsT g c := by
  simp only [putT, partsT]
  by_cases h1 : c = 92
  · subst h1; rfl
  by_cases h2 : c = 39
  · subst h2; rfl
  by_cases h3 : c = 34
  · subst h3; rfl
  by_cases h4 : c = 36
  · subst h4; rfl
  by_cases h5 : c = 96
  · subst h5; rfl
  simp [h1, h2, h3, h4, h5]
set_option maxHeartbeats 3200000 in
set_option maxRecDepth 100000 in
theorem open_v (S : L) (W : World) (hS : S.length ≤ 4096) : Calls Tryd.prog 23 #[.string (mkS S)] W fun e W' => ∃ g σ, e = .returned (.pointer (some ⟨g, 0, none⟩)) ∧ Mem W' W.heap.size g S σ ∧ σ.l = S ∧ σ.ts = [] ∧ σ.hs = [] ∧ σ.d = 0 ∧ Below W.heap.size W W' := by
  have hmf : ∀ (fn : Fn) (first cap : Array Value) (w : World), (Instr.makeFunc fn first cap).run Tryd.prog w = .ok (.func fn first cap) w := fun _ _ _ _ => rfl
  have hmm := @run_makeMap Tryd.prog
  obtain ⟨G, hG⟩ : ∃ G, G = W.heap.size := ⟨_, rfl⟩
  obtain ⟨ob, hob⟩ : ∃ ob, ob = Obj.cells #[.string (mkS S), .int .i64 0, .int .i64 1, .int .i64 0, .slice none 0 0, .slice none 0 0, .slice none 0 0, .bool false, .int .i64 0, .map none, .map none] 51 (0, 0) := ⟨_, rfl⟩
  have ht0 : TabN ((W.alloc ob).alloc (.map #[] 0)) (W.heap.size + 1) 0 fun _ => none := by
    have := TabN.made (W.alloc ob)
    rwa [World.size_alloc] at this
  have ho0 : Opn W S none none ((W.alloc ob).alloc (.map #[] 0)) := by
    refine Opn.later (w := W.alloc ob) ⟨by rw [hob]; exact heap_alloc_new W _, (Below.refl _ _).alloc (Nat.le_refl _) _, by simp⟩ (Later.alloc _ _)
  rw [hob] at ht0 ho0
  have HT0 := Lib.hid ht0
  have HO0 := Lib.hid ho0
  have HS := Lib.hid hS
  clear ht0 ho0 hob hS
  go_enter Tryd.func23, Tryd.ntmps23
  go_wp2_with (first
    | (refine wpList_tabIns _ rfl (.tmp 12) (.const (.int .u8 92)) (.tmp 14) rfl (W.heap.size + 1) 0 _ 92 (fnv 27 W.heap.size) rfl rfl rfl HT0.out (by omega) ?_; intro w1 ht1 hg1; have HT1 := Lib.hid ht1; have HO1 := Lib.hid (HO0.out.grown hg1 (by omega)); clear ht1 hg1)
    | (refine wpList_tabIns _ rfl (.tmp 12) (.const (.int .u8 35)) (.tmp 16) rfl (W.heap.size + 1) 1 _ 35 (fnv 28 W.heap.size) rfl rfl rfl HT1.out (by omega) ?_; intro w2 ht2 hg2; have HT2 := Lib.hid ht2; have HO2 := Lib.hid (HO1.out.grown hg2 (by omega)); clear ht2 hg2)
    | (refine wpList_tabIns _ rfl (.tmp 12) (.const (.int .u8 10)) (.tmp 18) rfl (W.heap.size + 1) 2 _ 10 (fnv 29 W.heap.size) rfl rfl rfl HT2.out (by omega) ?_; intro w3 ht3 hg3; have ho3 := HO2.out.grown hg3 (by omega); obtain ⟨k9, k10, z9, z10⟩ := ho3.cells; have HO3 := Lib.hid (ho3.set9 (W.heap.size + 1)); have HT3 := Lib.hid (ht3.kept (set_only w3 W.heap.size 9 (.map (some (W.heap.size + 1)))) (fun e => by injection e with e; omega)); have hl4 := Later.alloc (w3.setCell ⟨W.heap.size, 9, none⟩ (.map (some (W.heap.size + 1)))) (.cells #[.int .u8 32, .int .u8 9] 5 (2, 3)); have hcv := conv_const (w3.setCell ⟨W.heap.size, 9, none⟩ (.map (some (W.heap.size + 1)))) #[.int .u8 32, .int .u8 9] 2 2 w3.heap.size (by simp); have HRD := Lib.hid (Rd.litF (w3.setCell ⟨W.heap.size, 9, none⟩ (.map (some (W.heap.size + 1)))) 5 (2, 3) [.int .u8 32, .int .u8 9]); have HL4 := Lib.hid hl4; have hm3 := ht3.lt; clear ht3 hg3 ho3 hl4))
  obtain ⟨w4, hw4⟩ : ∃ w4, w4 = (w3.setCell ⟨W.heap.size, 9, none⟩ (.map (some (W.heap.size + 1)))).alloc (.cells #[.int .u8 32, .int .u8 9] 5 (2, 3)) := ⟨_, rfl⟩
  have HO4 := Lib.hid (show Opn W S (some (W.heap.size + 1)) none w4 by rw [hw4]; exact HO3.out.later HL4.out)
  have HT4 := Lib.hid (show TabN w4 (W.heap.size + 1) 3 _ by rw [hw4]; exact HT3.out.later HL4.out)
  have HR4 := Lib.hid (show Rd w4 w4.heap.size (some ⟨w3.heap.size, 0, none⟩) 2 (([32, 9] : L).map bv) by
    have h := HRD.out
    rw [World.size_setCell] at h
    rw [hw4]
    exact h.more (by simp))
  have HZ4 := Lib.hid (show w3.heap.size < w4.heap.size by rw [hw4]; simp)
  clear HO3 HT3 HRD HL4 hcv
  rw [← hw4]
  have HM3 := Lib.hid (show W.heap.size + 1 < w3.heap.size from hm3)
  clear hw4 hm3 k9 k10 z9 z10
  go_loopw [25] (fun i wr => ∃ k : Nat, k ≤ 2 ∧ i = .int .i64 (k : Int) ∧ TabN wr (W.heap.size + 1) (3 + k) (putL (putT (putT (putT (fun _ => none) 92 (fnv 27 W.heap.size)) 35 (fnv 28 W.heap.size)) 10 (fnv 29 W.heap.size)) (fnv 30 W.heap.size) (([32, 9] : L).take k)) ∧ Opn W S (some (W.heap.size + 1)) none wr ∧ Rd wr wr.heap.size (some ⟨w3.heap.size, 0, none⟩) 2 (([32, 9] : L).map bv)) (fun i _ => 2 - (intOf i).toNat)
  case atStart => exact ⟨0, by omega, rfl, HT4.out, HO4.out, HR4.out⟩
  case round =>
    obtain ⟨k, hk, rfl, ht, ho, hr⟩ := hrel
    have HT := Lib.hid ht
    have HO := Lib.hid ho
    have HR := Lib.hid hr
    clear ht ho hr
    by_cases hkn : k < 2
    · obtain ⟨ad, hlk, had, _, hcell⟩ := HR.out.byte hkn
      obtain ⟨c, hc⟩ : ∃ c, c = ([32, 9] : L)[k] := ⟨_, rfl⟩
      rw [← hc] at hcell
      injection had with had
      have hcell2 : wr.cell? ((⟨w3.heap.size, 0, none⟩ : Addr).add k) = some (.int .u8 (c.toNat : Int)) := by rw [had]; exact hcell
      rw [add_lit0] at hcell2
      have hk0 : (0 : Int) ≤ (k : Int) := by omega
      have HTK := Lib.hid (show ([32, 9] : L).take (k + 1) = ([32, 9] : L).take k ++ [c] by rw [List.take_succ_eq_append_getElem hlk, hc])
      obtain ⟨k9, k10, z9, z10⟩ := HO.out.cells
      clear hcell hc had hlk
      go_wp2_with (first
        | (at_mapUpdate; refine wpList_tabUpd _ rfl (.tmp 32) (.tmp 33) (.tmp 35) rfl (W.heap.size + 1) (3 + k) _ c (fnv 30 W.heap.size) rfl rfl rfl HT.out (by omega) ?_; intro w9 ht9 hg9; have HT9 := Lib.hid ht9; have HG9 := Lib.hid hg9; clear ht9 hg9))
      go_roundw
      case rel =>
        refine ⟨k + 1, by omega, by go_num, by rw [HTK.out, putL_snoc]; exact HT9.out, HO.out.grown HG9.out (by omega), ?_⟩
        refine ⟨HR.out.1, fun h0 => ?_⟩
        obtain ⟨ad2, e2, hb2, hc2⟩ := HR.out.2 h0
        refine ⟨ad2, e2, Nat.lt_of_lt_of_le hb2 HG9.out.size, fun j u hu => ?_⟩
        have hc3 := hc2 j u hu
        injection e2 with e2
        rw [← e2, add_lit0] at hc3 ⊢
        rw [← hc3]
        exact World.cell?_of_block (HG9.out.block _ (by rw [← e2] at hb2; exact hb2) (fun e => by have e' : w3.heap.size = W.heap.size + 1 := Option.some.inj e; have := HM3.out; omega))
      case measure => simp [intOf]; omega
    · obtain hke : k = 2 := by omega
      have HT5 := Lib.hid (show TabN wr (W.heap.size + 1) 5 _ by have h := HT.out; rw [hke] at h; exact h)
      have hlt5 := HT5.out.lt
      clear hke HT HR
      have hcv := conv_const wr #[.int .u8 59, .int .u8 38, .int .u8 124, .int .u8 40, .int .u8 41, .int .u8 60, .int .u8 62] 7 7 wr.heap.size rfl
      have HL6 := Lib.hid (Later.alloc wr (.cells #[.int .u8 59, .int .u8 38, .int .u8 124, .int .u8 40, .int .u8 41, .int .u8 60, .int .u8 62] 5 (7, 8)))
      have HR6 := Lib.hid (show Rd (wr.alloc (.cells #[.int .u8 59, .int .u8 38, .int .u8 124, .int .u8 40, .int .u8 41, .int .u8 60, .int .u8 62] 5 (7, 8))) (wr.alloc (.cells #[.int .u8 59, .int .u8 38, .int .u8 124, .int .u8 40, .int .u8 41, .int .u8 60, .int .u8 62] 5 (7, 8))).heap.size (some ⟨wr.heap.size, 0, none⟩) 7 (([59, 38, 124, 40, 41, 60, 62] : L).map bv) from (Rd.litF wr 5 (7, 8) (([59, 38, 124, 40, 41, 60, 62] : L).map bv)).more (by simp))
      have HM6 := Lib.hid (show W.heap.size + 1 < wr.heap.size from hlt5)
      go_wp2
      obtain ⟨w6, hw6⟩ : ∃ w6, w6 = wr.alloc (.cells #[.int .u8 59, .int .u8 38, .int .u8 124, .int .u8 40, .int .u8 41, .int .u8 60, .int .u8 62] 5 (7, 8)) := ⟨_, rfl⟩
      rw [← hw6] at HR6 HL6 ⊢
      obtain ⟨N6, hN6⟩ : ∃ N6, N6 = wr.heap.size := ⟨_, rfl⟩
      rw [← hN6] at HR6 HM6 ⊢
      have HO6 := Lib.hid (HO.out.later HL6.out)
      have HT6 := Lib.hid (HT5.out.later HL6.out)
      clear HO HT5 HL6 hw6 hN6 hcv HM3 hlt5
      have HM3 := HM6
      go_loopw [40] (fun i wr => ∃ k : Nat, k ≤ 7 ∧ i = .int .i64 (k : Int) ∧ TabN wr (W.heap.size + 1) (5 + k) (putL (putL (putT (putT (putT (fun _ => none) 92 (fnv 27 W.heap.size)) 35 (fnv 28 W.heap.size)) 10 (fnv 29 W.heap.size)) (fnv 30 W.heap.size) (([32, 9] : L).take 2)) (fnv 31 W.heap.size) (([59, 38, 124, 40, 41, 60, 62] : L).take k)) ∧ Opn W S (some (W.heap.size + 1)) none wr ∧ Rd wr wr.heap.size (some ⟨N6, 0, none⟩) 7 (([59, 38, 124, 40, 41, 60, 62] : L).map bv)) (fun i _ => 7 - (intOf i).toNat)
      case atStart => exact ⟨0, by omega, rfl, HT6.out, HO6.out, HR6.out⟩
      case round =>
        obtain ⟨k, hk, rfl, ht, ho, hr⟩ := hrel
        have HT := Lib.hid ht
        have HO := Lib.hid ho
        have HR := Lib.hid hr
        clear ht ho hr
        by_cases hkn : k < 7
        · obtain ⟨ad, hlk, had, _, hcell⟩ := HR.out.byte hkn
          obtain ⟨c, hc⟩ : ∃ c, c = ([59, 38, 124, 40, 41, 60, 62] : L)[k] := ⟨_, rfl⟩
          rw [← hc] at hcell
          injection had with had
          have hcell2 : wr.cell? ((⟨N6, 0, none⟩ : Addr).add k) = some (.int .u8 (c.toNat : Int)) := by rw [had]; exact hcell
          rw [add_lit0] at hcell2
          have hk0 : (0 : Int) ≤ (k : Int) := by omega
          have HTK := Lib.hid (show ([59, 38, 124, 40, 41, 60, 62] : L).take (k + 1) = ([59, 38, 124, 40, 41, 60, 62] : L).take k ++ [c] by rw [List.take_succ_eq_append_getElem hlk, hc])
          obtain ⟨k9, k10, z9, z10⟩ := HO.out.cells
          clear hcell hc had hlk
          go_wp2_with (first
            | (at_mapUpdate; refine wpList_tabUpd _ rfl (.tmp 47) (.tmp 48) (.tmp 50) rfl (W.heap.size + 1) (5 + k) _ c (fnv 31 W.heap.size) rfl rfl rfl HT.out (by omega) ?_; intro w9 ht9 hg9; have HT9 := Lib.hid ht9; have HG9 := Lib.hid hg9; clear ht9 hg9))
          go_roundw
          case rel =>
            refine ⟨k + 1, by omega, by go_num, by rw [HTK.out, putL_snoc]; exact HT9.out, HO.out.grown HG9.out (by omega), ?_⟩
            refine ⟨HR.out.1, fun h0 => ?_⟩
            obtain ⟨ad2, e2, hb2, hc2⟩ := HR.out.2 h0
            refine ⟨ad2, e2, Nat.lt_of_lt_of_le hb2 HG9.out.size, fun j u hu => ?_⟩
            have hc3 := hc2 j u hu
            injection e2 with e2
            rw [← e2, add_lit0] at hc3 ⊢
            rw [← hc3]
            exact World.cell?_of_block (HG9.out.block _ (by rw [← e2] at hb2; exact hb2) (fun e => by have e' : N6 = W.heap.size + 1 := Option.some.inj e; have := HM3.out; omega))
          case measure => simp [intOf]; omega
        · obtain hke : k = 7 := by omega
          have HT7 := Lib.hid (show TabN wr (W.heap.size + 1) 12 _ by have h := HT.out; rw [hke] at h; exact h)
          have hlt7 := HT7.out.lt
          have HST := Lib.hid (show Tab (wr.alloc (.map #[] 0)) (W.heap.size + 1) (startsT W.heap.size) from ((HT7.out.later (Later.alloc _ _)).congr (starts_eq W.heap.size)).tab (by omega))
          have HO7 := Lib.hid (HO.out.later (Later.alloc wr (.map #[] 0)))
          have HP0 := Lib.hid (TabN.made wr)
          have HM7 := Lib.hid (show W.heap.size + 1 < wr.heap.size from hlt7)
          have HW7 := Lib.hid (Nat.lt_of_succ_lt hlt7)
          clear hke HT HR HT7 HO hlt7
          go_wp2_with (first
            | (refine wpList_tabIns _ rfl (.tmp 53) (.const (.int .u8 92)) (.tmp 55) rfl wr.heap.size 0 _ 92 (fnv 32 W.heap.size) rfl rfl rfl HP0.out (by omega) ?_; intro w1 ht1 hg1; have HP1 := Lib.hid ht1; have HG1 := Lib.hid hg1; clear ht1 hg1)
            | (refine wpList_tabIns _ rfl (.tmp 53) (.const (.int .u8 39)) (.tmp 57) rfl wr.heap.size 1 _ 39 (fnv 33 W.heap.size) rfl rfl rfl HP1.out (by omega) ?_; intro w2 ht2 hg2; have HP2 := Lib.hid ht2; have HG2 := Lib.hid (only_trans HG1.out hg2); clear ht2 hg2)
            | (refine wpList_tabIns _ rfl (.tmp 53) (.const (.int .u8 34)) (.tmp 59) rfl wr.heap.size 2 _ 34 (fnv 34 W.heap.size) rfl rfl rfl HP2.out (by omega) ?_; intro w3 ht3 hg3; have HP3 := Lib.hid ht3; have HG3 := Lib.hid (only_trans HG2.out hg3); clear ht3 hg3)
            | (refine wpList_tabIns _ rfl (.tmp 53) (.const (.int .u8 36)) (.tmp 61) rfl wr.heap.size 3 _ 36 (fnv 35 W.heap.size) rfl rfl rfl HP3.out (by omega) ?_; intro w4 ht4 hg4; have HP4 := Lib.hid ht4; have HG4 := Lib.hid (only_trans HG3.out hg4); clear ht4 hg4)
            | (refine wpList_tabIns _ rfl (.tmp 53) (.const (.int .u8 96)) (.tmp 63) rfl wr.heap.size 4 _ 96 (fnv 36 W.heap.size) rfl rfl rfl HP4.out (by omega) ?_; intro w5 ht5 hg5; have HP5 := Lib.hid ht5; have HG5 := Lib.hid (only_trans HG4.out hg5); have ho5 := HO7.out.grown (only_trans HG4.out hg5) (by have := HW7.out; omega); obtain ⟨k9, k10, z9, z10⟩ := ho5.cells; have HO8 := Lib.hid (ho5.set10 wr.heap.size); clear ht5 hg5 ho5))
          go_ret
          have hgs := set_only w5 W.heap.size 10 (.map (some wr.heap.size))
          have hst := HST.out.kept HG5.out (fun e => by have e' := Option.some.inj e; have := HM7.out; omega)
          have hst2 := hst.kept hgs (fun e => by have e' := Option.some.inj e; omega)
          have hpa2 := ((HP5.out.congr (parts_eq W.heap.size)).tab (by omega)).kept hgs (fun e => by have e' := Option.some.inj e; have := HW7.out; omega)
          refine ⟨W.heap.size, ⟨S, [], false, 0, 0, [], []⟩, rfl, ⟨0, 1, .slice none 0 0, .slice none 0 0, .slice none 0 0, W.heap.size + 1, wr.heap.size, ⟨HO8.out.box, Nat.le_refl _, HS.out, by simp, by simp, rfl, World.ownsRow_nil _ _ _ _, World.ownsRow_nil _ _ _ _, World.ownsRow_nil _ _ _ _, by omega, by have := HW7.out; omega, hst2, hpa2⟩⟩, rfl, rfl, rfl, rfl, HO8.out.bel⟩
end Go.Proofs.YtnjabmacbgehlaaDoor
