/- ArithOrder: its walk. No premises. -/
import Derived.Test.YtcidklbeafjmoaaGreatDoorALawW
import Derived.BigQuiet
namespace Go.Proofs.YtcidklbeafjmoaaGreatDoor
open Go.RowKit Go.Maps
namespace Ar
namespace Ord
def sgs : List L := [[124, 124], [38, 38], [124], [94], [38], [61, 61], [33, 61], [60], [60, 61], [62], [62, 61], [60, 60], [62, 62], [43], [45], [42], [47], [37]]
def sg (i : Nat) : L := sgs.getD i []
def bds : List Nat := [0, 1, 2, 3, 4, 5, 5, 6, 6, 6, 6, 7, 7, 8, 8, 9, 9, 9]
def bd (i : Nat) : Nat := bds.getD i 0
theorem sg_row : ∀ i : Fin 18, rowOf (sg i.1) = bd i.1 ∧ (sg i.1).length ≤ 2 := by decide
def ex : E := .var [120]
def ey : E := .var [121]
def ez : E := .var [122]
/-- As it is read, without parentheses; and with them. -/
def plainE (i k : Nat) : E := if bd i < bd k then .bin (sg i) ex (.bin (sg k) ey ez) else .bin (sg k) (.bin (sg i) ex ey) ez
def parE (i k : Nat) : E := if bd i < bd k then .bin (sg i) ex (.par (.bin (sg k) ey ez)) else .bin (sg k) (.par (.bin (sg i) ex ey)) ez
def plainT (i k : Nat) : L := [120, 32] ++ sg i ++ [9, 121, 10] ++ sg k ++ [32, 122]
def leftT (i k : Nat) : L := [40, 120, 32] ++ sg i ++ [32, 121, 41, 32] ++ sg k ++ [32, 122]
def rightT (i k : Nat) : L := [120, 32] ++ sg i ++ [32, 40, 121, 32] ++ sg k ++ [32, 122, 41]
theorem lx_plain : ∀ i k : Fin 18, lexF 12 (plainT i.1 k.1) = some (toks (plainE i.1 k.1)) := by decide +kernel
theorem lx_par : ∀ i k : Fin 18, lexF 12 (if bd i.1 < bd k.1 then rightT i.1 k.1 else leftT i.1 k.1) = some (toks (parE i.1 k.1)) := by decide +kernel
theorem ok_plain : ∀ i k : Fin 18, okB [[120], [121], [122]] (plainE i.1 k.1) 0 0 = true := by decide +kernel
theorem ok_par : ∀ i k : Fin 18, okB [[120], [121], [122]] (parE i.1 k.1) 0 0 = true := by decide +kernel
theorem ev_same (vs : Vars) (i k : Nat) : ev vs (plainE i k) 0 0 = ev vs (parE i k) 0 0 := by
  unfold plainE parE
  split <;> rfl
theorem len_T (i k : Fin 18) : (plainT i.1 k.1).length ≤ 4000 ∧ (leftT i.1 k.1).length ≤ 4000 ∧ (rightT i.1 k.1).length ≤ 4000 := by
  have h1 := (sg_row i).2
  have h2 := (sg_row k).2
  unfold plainT leftT rightT
  simp only [List.length_append, List.length_cons, List.length_nil]
  omega
/-- Both ways to write it come to the same. -/
theorem both_ways {x y z : Int} (hx : In x) (hy : In y) (hz : In z) (i k : Fin 18) : ∃ (n : Int) (f : Nat), (f = 0 ∨ f = 22) ∧ ∀ {W : World} {v : Value}, Tb0 W → Vars0 W v (vs3 x y z) → EvalIs W (plainT i.1 k.1) v n f ∧ EvalIs W (if bd i.1 < bd k.1 then rightT i.1 k.1 else leftT i.1 k.1) v n f := by
  obtain ⟨q, hq⟩ : ∃ q, q = ev (vs3 x y z) (plainE i.1 k.1) 0 0 := ⟨_, rfl⟩
  refine ⟨if q.2 = 0 then q.1 else 0, q.2, by rw [hq]; exact ev_two _ _ 0 0 (.inl rfl), fun {W v} hT hV => ⟨?_, ?_⟩⟩
  · exact eval_is hT hV (len_T i k).1 (plainE i.1 k.1) (lx_of (lx_plain i k)) (ok_of (Laws.names_ok hx hy hz) _ 0 0 (ok_plain i k)) hq.symm
  · refine eval_is hT hV ?_ (parE i.1 k.1) (lx_of (lx_par i k)) (ok_of (Laws.names_ok hx hy hz) _ 0 0 (ok_par i k)) ((ev_same _ _ _).symm.trans hq.symm)
    split
    · exact (len_T i k).2.2
    · exact (len_T i k).2.1
theorem ops_at (W : World) : ∀ i : Nat, i < 18 → (W.alloc (.cells #[.string ⟨#[124, 124]⟩, .string ⟨#[38, 38]⟩, .string ⟨#[124]⟩, .string ⟨#[94]⟩, .string ⟨#[38]⟩, .string ⟨#[61, 61]⟩, .string ⟨#[33, 61]⟩, .string ⟨#[60]⟩, .string ⟨#[60, 61]⟩, .string ⟨#[62]⟩, .string ⟨#[62, 61]⟩, .string ⟨#[60, 60]⟩, .string ⟨#[62, 62]⟩, .string ⟨#[43]⟩, .string ⟨#[45]⟩, .string ⟨#[42]⟩, .string ⟨#[47]⟩, .string ⟨#[37]⟩] 9)).cell? ⟨W.heap.size, i, none⟩ = some (.string (mkS (sg i))) := by
  intro i hi
  rw [(cell_row (heap_alloc_new W _) i).1]
  have hkk : i = 0 ∨ i = 1 ∨ i = 2 ∨ i = 3 ∨ i = 4 ∨ i = 5 ∨ i = 6 ∨ i = 7 ∨ i = 8 ∨ i = 9 ∨ i = 10 ∨ i = 11 ∨ i = 12 ∨ i = 13 ∨ i = 14 ∨ i = 15 ∨ i = 16 ∨ i = 17 := by omega
  clear hi
  rcases hkk with rfl | rfl | rfl | rfl | rfl | rfl | rfl | rfl | rfl | rfl | rfl | rfl | rfl | rfl | rfl | rfl | rfl | rfl
  all_goals rfl
theorem binds_at (W : World) : ∀ i : Nat, i < 18 → (W.alloc (.cells #[.int .i64 0, .int .i64 1, .int .i64 2, .int .i64 3, .int .i64 4, .int .i64 5, .int .i64 5, .int .i64 6, .int .i64 6, .int .i64 6, .int .i64 6, .int .i64 7, .int .i64 7, .int .i64 8, .int .i64 8, .int .i64 9, .int .i64 9, .int .i64 9] 3)).cell? ⟨W.heap.size, i, none⟩ = some (.int .i64 (bd i : Nat)) := by
  intro i hi
  rw [(cell_row (heap_alloc_new W _) i).1]
  have hkk : i = 0 ∨ i = 1 ∨ i = 2 ∨ i = 3 ∨ i = 4 ∨ i = 5 ∨ i = 6 ∨ i = 7 ∨ i = 8 ∨ i = 9 ∨ i = 10 ∨ i = 11 ∨ i = 12 ∨ i = 13 ∨ i = 14 ∨ i = 15 ∨ i = 16 ∨ i = 17 := by omega
  clear hi
  rcases hkk with rfl | rfl | rfl | rfl | rfl | rfl | rfl | rfl | rfl | rfl | rfl | rfl | rfl | rfl | rfl | rfl | rfl | rfl
  all_goals rfl
structure Mem4 (W : World) (b ii kk : Nat) (si sk : L) (bi bk : Nat) : Prop where
  c1 : W.cell? ⟨b, ii, none⟩ = some (.string (mkS si))
  c2 : W.cell? ⟨b, kk, none⟩ = some (.string (mkS sk))
  c3 : W.cell? ⟨b + 1, ii, none⟩ = some (.int .i64 (bi : Int))
  c4 : W.cell? ⟨b + 1, kk, none⟩ = some (.int .i64 (bk : Int))
theorem Mem4.later {W W' : World} {b ii kk : Nat} {si sk : L} {bi bk : Nat} (h : Mem4 W b ii kk si sk bi bk) (hl : Later W W') : Mem4 W' b ii kk si sk bi bk := ⟨cell_later hl h.c1, cell_later hl h.c2, cell_later hl h.c3, cell_later hl h.c4⟩
/-- What Eval gives of a text, from a world on. -/
abbrev EvOk (w0 : World) (t : L) (v : Value) (n fi : Int) : Prop := ∀ w, Later w0 w → Calls Tryz.prog 8 #[.string (mkS t), v] w fun r w' => r = .returned (.tuple #[.int .i64 n, .int .i64 fi]) ∧ Later w w'
theorem EvOk.later {w0 w1 : World} {t : L} {v : Value} {n fi : Int} (h : EvOk w0 t v n fi) (hl : Later w0 w1) : EvOk w1 t v n fi := fun w hw => h w (hl.trans hw)
theorem mem_of {w wo : World} (h : wo = (w.alloc (.cells #[.string ⟨#[124, 124]⟩, .string ⟨#[38, 38]⟩, .string ⟨#[124]⟩, .string ⟨#[94]⟩, .string ⟨#[38]⟩, .string ⟨#[61, 61]⟩, .string ⟨#[33, 61]⟩, .string ⟨#[60]⟩, .string ⟨#[60, 61]⟩, .string ⟨#[62]⟩, .string ⟨#[62, 61]⟩, .string ⟨#[60, 60]⟩, .string ⟨#[62, 62]⟩, .string ⟨#[43]⟩, .string ⟨#[45]⟩, .string ⟨#[42]⟩, .string ⟨#[47]⟩, .string ⟨#[37]⟩] 9)).alloc (.cells #[.int .i64 0, .int .i64 1, .int .i64 2, .int .i64 3, .int .i64 4, .int .i64 5, .int .i64 5, .int .i64 6, .int .i64 6, .int .i64 6, .int .i64 6, .int .i64 7, .int .i64 7, .int .i64 8, .int .i64 8, .int .i64 9, .int .i64 9, .int .i64 9] 3)) : Later w wo ∧ (∀ i : Nat, i < 18 → wo.cell? ⟨w.heap.size, i, none⟩ = some (.string (mkS (sg i)))) ∧ ∀ i : Nat, i < 18 → wo.cell? ⟨w.heap.size + 1, i, none⟩ = some (.int .i64 (bd i : Nat)) := by
  subst h
  refine ⟨(Later.alloc _ _).trans (Later.alloc _ _), fun i hi => cell_later (Later.alloc _ _) (ops_at w i hi), fun i hi => ?_⟩
  have := binds_at (w.alloc (.cells #[.string ⟨#[124, 124]⟩, .string ⟨#[38, 38]⟩, .string ⟨#[124]⟩, .string ⟨#[94]⟩, .string ⟨#[38]⟩, .string ⟨#[61, 61]⟩, .string ⟨#[33, 61]⟩, .string ⟨#[60]⟩, .string ⟨#[60, 61]⟩, .string ⟨#[62]⟩, .string ⟨#[62, 61]⟩, .string ⟨#[60, 60]⟩, .string ⟨#[62, 62]⟩, .string ⟨#[43]⟩, .string ⟨#[45]⟩, .string ⟨#[42]⟩, .string ⟨#[47]⟩, .string ⟨#[37]⟩] 9)) i hi
  rwa [World.size_alloc] at this
end Ord
end Ar
namespace arithOrder
open Ar
set_option maxHeartbeats 6400000 in
set_option maxRecDepth 100000 in
theorem walkIn (w : World) (hg : Tb0 w) (x y z : Int) (hx : In x) (hy : In y) (hz : In z) (a b : Int) (i k : Fin 18) (ha0 : 0 ≤ a) (ha1 : a ≤ 255) (hb0 : 0 ≤ b) (hb1 : b ≤ 255) (hai : a.tmod 18 = (i.1 : Int)) (hbk : b.tmod 18 = (k.1 : Int)) : Calls Tryz.prog 4 #[.int .i64 x, .int .i64 y, .int .i64 z, .int .u8 a, .int .u8 b] w fun e w' => e = .returned (.bool true) ∧ Below w.heap.size w w' := by
  obtain ⟨n, f, hf, hboth⟩ := Ord.both_ways hx hy hz i k
  obtain ⟨fi, hfi⟩ : ∃ fi : Int, fi = (f : Int) := ⟨_, rfl⟩
  have HB := Lib.hid (fun (W : World) (v : Value) => @hboth W v)
  have HF := Lib.hid (show fi = 0 ∨ fi = 22 by omega)
  have HA := Lib.hid (awake_v w hg)
  have HG := Lib.hid hg
  have HX := Lib.hid (numT_ok x hx.1 hx.2).1
  have HY := Lib.hid (numT_ok y hy.1 hy.2).1
  have HZ := Lib.hid (numT_ok z hz.1 hz.2).1
  have HI := Lib.hid (And.intro hx (And.intro hy hz))
  have HL18 := Lib.hid (And.intro i.2 k.2)
  have n1 : (x == -9223372036854775808) = false := by unfold In at hx; simp; omega
  have n2 : (y == -9223372036854775808) = false := by unfold In at hy; simp; omega
  have n3 : (z == -9223372036854775808) = false := by unfold In at hz; simp; omega
  obtain ⟨ii, hii⟩ : ∃ ii : Nat, ii = i.1 := ⟨_, rfl⟩
  obtain ⟨kk, hkk⟩ : ∃ kk : Nat, kk = k.1 := ⟨_, rfl⟩
  rw [← hii] at hai HL18 HB
  rw [← hkk] at hbk HL18 HB
  have hi0 : (0 : Int) ≤ (ii : Int) := by omega
  have hi1 : (ii : Int) < 18 := by have := HL18.out; omega
  have hk0 : (0 : Int) ≤ (kk : Int) := by omega
  have hk1 : (kk : Int) < 18 := by have := HL18.out; omega
  clear hg hx hy hz hf hboth hii hkk
  go_enter Tryz.func4, Tryz.ntmps4
  go_wp2_with (first
    | (go_at_call 6; (with_reducible refine HA.out.mono ?_); rintro e w1 ⟨rfl, hl1⟩; have HL1 := Lib.hid hl1; clear hl1)
    | (go_at_call 7; obtain ⟨wo, hwo⟩ : ∃ wo, wo = (w1.alloc (.cells #[.string ⟨#[124, 124]⟩, .string ⟨#[38, 38]⟩, .string ⟨#[124]⟩, .string ⟨#[94]⟩, .string ⟨#[38]⟩, .string ⟨#[61, 61]⟩, .string ⟨#[33, 61]⟩, .string ⟨#[60]⟩, .string ⟨#[60, 61]⟩, .string ⟨#[62]⟩, .string ⟨#[62, 61]⟩, .string ⟨#[60, 60]⟩, .string ⟨#[62, 62]⟩, .string ⟨#[43]⟩, .string ⟨#[45]⟩, .string ⟨#[42]⟩, .string ⟨#[47]⟩, .string ⟨#[37]⟩] 9)).alloc (.cells #[.int .i64 0, .int .i64 1, .int .i64 2, .int .i64 3, .int .i64 4, .int .i64 5, .int .i64 5, .int .i64 6, .int .i64 6, .int .i64 6, .int .i64 6, .int .i64 7, .int .i64 7, .int .i64 8, .int .i64 8, .int .i64 9, .int .i64 9, .int .i64 9] 3) := ⟨_, rfl⟩; rw [← hwo]; have HO := Lib.hid (Ord.mem_of hwo); (with_reducible refine (HX.out _).mono ?_); rintro e w2 ⟨rfl, hl2⟩; have HL2 := Lib.hid hl2; clear hl2 hwo)
    | (go_at_call 7; (with_reducible refine (HY.out _).mono ?_); rintro e w3 ⟨rfl, hl3⟩; have HL3 := Lib.hid (HL2.out.trans hl3); clear hl3)
    | (go_at_call 7; (with_reducible refine (HZ.out _).mono ?_); rintro e w4 ⟨rfl, hl4⟩; have HL4 := Lib.hid (HL3.out.trans hl4); clear hl4))
  obtain ⟨w5, hw5⟩ : ∃ w5, w5 = w4.alloc (.cells #[.string ⟨#[120]⟩, .string (mkS (numT x)), .string ⟨#[121]⟩, .string (mkS (numT y)), .string ⟨#[122]⟩, .string (mkS (numT z))] 25) := ⟨_, rfl⟩
  rw [← hw5]
  have HV5 := Lib.hid (show Vars0 w5 (.slice (some ⟨w4.heap.size, 0, none⟩) 3 3) (vs3 x y z) by rw [hw5]; exact vars3 w4 _ rfl HI.out.1 HI.out.2.1 HI.out.2.2)
  have HL5 := Lib.hid (show Later wo w5 by rw [hw5]; exact HL4.out.trans (Later.alloc _ _))
  clear hw5
  obtain ⟨si, hsi⟩ : ∃ si, si = Ord.sg ii := ⟨_, rfl⟩
  obtain ⟨sk, hsk⟩ : ∃ sk, sk = Ord.sg kk := ⟨_, rfl⟩
  obtain ⟨bi, hbi⟩ : ∃ bi, bi = Ord.bd ii := ⟨_, rfl⟩
  obtain ⟨bk, hbk2⟩ : ∃ bk, bk = Ord.bd kk := ⟨_, rfl⟩
  have hc5 : Ord.Mem4 w5 w1.heap.size ii kk si sk bi bk := by
    rw [hsi, hsk, hbi, hbk2]
    exact ⟨cell_later HL5.out (HO.out.2.1 ii HL18.out.1), cell_later HL5.out (HO.out.2.1 kk HL18.out.2), cell_later HL5.out (HO.out.2.2 ii HL18.out.1), cell_later HL5.out (HO.out.2.2 kk HL18.out.2)⟩
  have HC := Lib.hid hc5
  have hz1 : si.length ≤ 2 := by rw [hsi]; exact (Ord.sg_row ⟨ii, HL18.out.1⟩).2
  have hz2 : sk.length ≤ 2 := by rw [hsk]; exact (Ord.sg_row ⟨kk, HL18.out.2⟩).2
  -- what Eval gives, of the plain text, and of the other one
  have HEV := Lib.hid (show Ord.EvOk w5 (120 :: 32 :: (si ++ 9 :: 121 :: 10 :: (sk ++ [32, 122]))) (.slice (some ⟨w4.heap.size, 0, none⟩) 3 3) n fi from fun w hl => by
    have := (HB.out w _ ((HG.out.later HL1.out).later ((HO.out.1.trans HL5.out).trans hl)) (HV5.out.later hl)).1
    rw [hfi]
    have e : Ord.plainT ii kk = 120 :: 32 :: (si ++ 9 :: 121 :: 10 :: (sk ++ [32, 122])) := by rw [hsi, hsk]; unfold Ord.plainT; simp
    rw [← e]
    exact this)
  have HER := Lib.hid (show bi < bk → Ord.EvOk w5 (120 :: 32 :: (si ++ 32 :: 40 :: 121 :: 32 :: (sk ++ [32, 122, 41]))) (.slice (some ⟨w4.heap.size, 0, none⟩) 3 3) n fi from fun hlt w hl => by
    have := (HB.out w _ ((HG.out.later HL1.out).later ((HO.out.1.trans HL5.out).trans hl)) (HV5.out.later hl)).2
    rw [← hbi, ← hbk2, if_pos hlt] at this
    rw [hfi]
    have e : Ord.rightT ii kk = 120 :: 32 :: (si ++ 32 :: 40 :: 121 :: 32 :: (sk ++ [32, 122, 41])) := by rw [hsi, hsk]; unfold Ord.rightT; simp
    rw [← e]
    exact this)
  have HEL := Lib.hid (show ¬ bi < bk → Ord.EvOk w5 (40 :: 120 :: 32 :: (si ++ 32 :: 121 :: 41 :: 32 :: (sk ++ [32, 122]))) (.slice (some ⟨w4.heap.size, 0, none⟩) 3 3) n fi from fun hlt w hl => by
    have := (HB.out w _ ((HG.out.later HL1.out).later ((HO.out.1.trans HL5.out).trans hl)) (HV5.out.later hl)).2
    rw [← hbi, ← hbk2, if_neg hlt] at this
    rw [hfi]
    have e : Ord.leftT ii kk = 40 :: 120 :: 32 :: (si ++ 32 :: 121 :: 41 :: 32 :: (sk ++ [32, 122])) := by rw [hsi, hsk]; unfold Ord.leftT; simp
    rw [← e]
    exact this)
  have HLW := Lib.hid (show Later w w5 from (HL1.out.trans HO.out.1).trans HL5.out)
  clear hsi hsk hbi hbk2 hc5 hfi hai hbk ha0 ha1 hb0 hb1
  refine wp_region_seq (by kernel_rfl) [] (fun _ _ w => Hid (Later w5 w)) [some (.slice (some ⟨w1.heap.size, 0, none⟩) 18 18), some (.int .i64 (ii : Int)), some (.pointer (some ⟨w1.heap.size, ii, none⟩)), some (.string (mkS si)), some (.string (mkS (40 :: 120 :: 32 :: si))), some (.string (mkS (40 :: 120 :: 32 :: (si ++ [32, 121, 41, 32])))), some (.slice (some ⟨w1.heap.size, 0, none⟩) 18 18), some (.int .i64 (kk : Int)), some (.pointer (some ⟨w1.heap.size, kk, none⟩)), some (.string (mkS sk)), some (.string (mkS (40 :: 120 :: 32 :: (si ++ 32 :: 121 :: 41 :: 32 :: sk)))), some (.string (mkS (40 :: 120 :: 32 :: (si ++ 32 :: 121 :: 41 :: 32 :: (sk ++ [32, 122]))))), some (.string (mkS (40 :: 120 :: 32 :: (si ++ 32 :: 121 :: 41 :: 32 :: (sk ++ [32, 122])))))] (by decide) (by decide) (by kernel_rfl) (by kernel_rfl) (Lib.hid (Later.drew _)) ?_ ?_
  · refine ⟨?_, ?_, ?_, ?_, ?_, ?_, ?_, ?_, ?_, ?_, ?_, ?_, ?_, trivial⟩
    · -- 0: slot 57 := Op.move t12
      refine OwesS.q rfl fun a w j u hC hb hs => ⟨rfl, ?_⟩
      have e12 : a.tmps.getD 12 undef = .slice (some ⟨w1.heap.size, 0, none⟩) 18 18 := hs.free 12 rfl
      refine ValWp.pure (v := .slice (some ⟨w1.heap.size, 0, none⟩) 18 18) (fun K' hK' => ?_) ⟨rfl, rfl⟩
      simp only [ValWp, execOp, Act.eval, e12]
      go_simp
      all_goals exact hK'
    · -- 1: slot 58 := Op.move t14
      refine OwesS.q rfl fun a w j u hC hb hs => ⟨rfl, ?_⟩
      have e14 : a.tmps.getD 14 undef = .int .i64 (ii : Int) := hs.free 14 rfl
      refine ValWp.pure (v := .int .i64 (ii : Int)) (fun K' hK' => ?_) ⟨rfl, rfl⟩
      simp only [ValWp, execOp, Act.eval, e14]
      go_simp
      all_goals exact hK'
    · -- 2: slot 59 := Op.indexAddr 31 t57 t58
      refine OwesS.q rfl fun a w j u hC hb hs => ⟨rfl, ?_⟩
      have e57 : a.tmps.getD 57 undef = .slice (some ⟨w1.heap.size, 0, none⟩) 18 18 := hs.dep 0 _ rfl rfl
      have e58 : a.tmps.getD 58 undef = .int .i64 (ii : Int) := hs.dep 1 _ rfl rfl
      refine ValWp.pure (v := .pointer (some ⟨w1.heap.size, ii, none⟩)) (fun K' hK' => ?_) ⟨rfl, rfl⟩
      simp only [ValWp, execOp, Act.eval, e57, e58]
      go_simp
      all_goals exact hK'
    · -- 3: slot 60 := Op.load 9 t59
      refine OwesS.q rfl fun a w j u hC hb hs => ⟨rfl, ?_⟩
      have e59 : a.tmps.getD 59 undef = .pointer (some ⟨w1.heap.size, ii, none⟩) := hs.dep 2 _ rfl rfl
      have q1 := cell_later hC.out HC.out.c1
      refine ValWp.pure (v := .string (mkS si)) (fun K' hK' => ?_) ⟨rfl, rfl⟩
      simp only [ValWp, execOp, Act.eval, e59]
      go_simp
      all_goals exact hK'
    · -- 4: slot 61 := Op.binOp BinOp.add 9 (const (Value.string { data := #[40, 120, 32] })) t60 9
      refine OwesS.q rfl fun a w j u hC hb hs => ⟨rfl, ?_⟩
      have e60 : a.tmps.getD 60 undef = .string (mkS si) := hs.dep 3 _ rfl rfl
      refine ValWp.pure (v := .string (mkS (40 :: 120 :: 32 :: si))) (fun K' hK' => ?_) ⟨rfl, rfl⟩
      have hcs : ¬ 9223372036854775807 < 3 + (mkS si).size := by simp only [mkS_size]; omega
      have hcc : mkS (40 :: 120 :: 32 :: si) = (⟨#[40, 120, 32]⟩ : ByteArray) ++ mkS si := by rw [show (40 :: 120 :: 32 :: si : L) = ([40, 120, 32]) ++ (si) by simp]; exact (mkS_add _ _).symm
      rw [hcc] at hK'
      clear hcc
      simp only [ValWp, execOp, Act.eval, e60]
      go_simp
      all_goals exact hK'
    · -- 5: slot 62 := Op.binOp BinOp.add 9 t61 (const (Value.string { data := #[32, 121, 41, 32] })) 9
      refine OwesS.q rfl fun a w j u hC hb hs => ⟨rfl, ?_⟩
      have e61 : a.tmps.getD 61 undef = .string (mkS (40 :: 120 :: 32 :: si)) := hs.dep 4 _ rfl rfl
      refine ValWp.pure (v := .string (mkS (40 :: 120 :: 32 :: (si ++ [32, 121, 41, 32])))) (fun K' hK' => ?_) ⟨rfl, rfl⟩
      have hcs : ¬ 9223372036854775807 < (mkS (40 :: 120 :: 32 :: si)).size + 4 := by simp only [mkS_size, List.length_cons]; omega
      have hcc : mkS (40 :: 120 :: 32 :: (si ++ [32, 121, 41, 32])) = mkS (40 :: 120 :: 32 :: si) ++ (⟨#[32, 121, 41, 32]⟩ : ByteArray) := by rw [show (40 :: 120 :: 32 :: (si ++ [32, 121, 41, 32]) : L) = (40 :: 120 :: 32 :: si) ++ ([32, 121, 41, 32]) by simp]; exact (mkS_add _ _).symm
      rw [hcc] at hK'
      clear hcc
      simp only [ValWp, execOp, Act.eval, e61]
      go_simp
      all_goals exact hK'
    · -- 6: slot 63 := Op.move t12
      refine OwesS.q rfl fun a w j u hC hb hs => ⟨rfl, ?_⟩
      have e12 : a.tmps.getD 12 undef = .slice (some ⟨w1.heap.size, 0, none⟩) 18 18 := hs.free 12 rfl
      refine ValWp.pure (v := .slice (some ⟨w1.heap.size, 0, none⟩) 18 18) (fun K' hK' => ?_) ⟨rfl, rfl⟩
      simp only [ValWp, execOp, Act.eval, e12]
      go_simp
      all_goals exact hK'
    · -- 7: slot 64 := Op.move t15
      refine OwesS.q rfl fun a w j u hC hb hs => ⟨rfl, ?_⟩
      have e15 : a.tmps.getD 15 undef = .int .i64 (kk : Int) := hs.free 15 rfl
      refine ValWp.pure (v := .int .i64 (kk : Int)) (fun K' hK' => ?_) ⟨rfl, rfl⟩
      simp only [ValWp, execOp, Act.eval, e15]
      go_simp
      all_goals exact hK'
    · -- 8: slot 65 := Op.indexAddr 31 t63 t64
      refine OwesS.q rfl fun a w j u hC hb hs => ⟨rfl, ?_⟩
      have e63 : a.tmps.getD 63 undef = .slice (some ⟨w1.heap.size, 0, none⟩) 18 18 := hs.dep 6 _ rfl rfl
      have e64 : a.tmps.getD 64 undef = .int .i64 (kk : Int) := hs.dep 7 _ rfl rfl
      refine ValWp.pure (v := .pointer (some ⟨w1.heap.size, kk, none⟩)) (fun K' hK' => ?_) ⟨rfl, rfl⟩
      simp only [ValWp, execOp, Act.eval, e63, e64]
      go_simp
      all_goals exact hK'
    · -- 9: slot 66 := Op.load 9 t65
      refine OwesS.q rfl fun a w j u hC hb hs => ⟨rfl, ?_⟩
      have e65 : a.tmps.getD 65 undef = .pointer (some ⟨w1.heap.size, kk, none⟩) := hs.dep 8 _ rfl rfl
      have q1 := cell_later hC.out HC.out.c2
      refine ValWp.pure (v := .string (mkS sk)) (fun K' hK' => ?_) ⟨rfl, rfl⟩
      simp only [ValWp, execOp, Act.eval, e65]
      go_simp
      all_goals exact hK'
    · -- 10: slot 67 := Op.binOp BinOp.add 9 t62 t66 9
      refine OwesS.q rfl fun a w j u hC hb hs => ⟨rfl, ?_⟩
      have e62 : a.tmps.getD 62 undef = .string (mkS (40 :: 120 :: 32 :: (si ++ [32, 121, 41, 32]))) := hs.dep 5 _ rfl rfl
      have e66 : a.tmps.getD 66 undef = .string (mkS sk) := hs.dep 9 _ rfl rfl
      refine ValWp.pure (v := .string (mkS (40 :: 120 :: 32 :: (si ++ 32 :: 121 :: 41 :: 32 :: sk)))) (fun K' hK' => ?_) ⟨rfl, rfl⟩
      have hcs : ¬ 9223372036854775807 < (mkS (40 :: 120 :: 32 :: (si ++ [32, 121, 41, 32]))).size + (mkS sk).size := by simp only [mkS_size, List.length_cons, List.length_append, List.length_nil]; omega
      have hcc : mkS (40 :: 120 :: 32 :: (si ++ 32 :: 121 :: 41 :: 32 :: sk)) = mkS (40 :: 120 :: 32 :: (si ++ [32, 121, 41, 32])) ++ mkS sk := by rw [show (40 :: 120 :: 32 :: (si ++ 32 :: 121 :: 41 :: 32 :: sk) : L) = (40 :: 120 :: 32 :: (si ++ [32, 121, 41, 32])) ++ (sk) by simp]; exact (mkS_add _ _).symm
      rw [hcc] at hK'
      clear hcc
      simp only [ValWp, execOp, Act.eval, e62, e66]
      go_simp
      all_goals exact hK'
    · -- 11: slot 68 := Op.binOp BinOp.add 9 t67 (const (Value.string { data := #[32, 122] })) 9
      refine OwesS.q rfl fun a w j u hC hb hs => ⟨rfl, ?_⟩
      have e67 : a.tmps.getD 67 undef = .string (mkS (40 :: 120 :: 32 :: (si ++ 32 :: 121 :: 41 :: 32 :: sk))) := hs.dep 10 _ rfl rfl
      refine ValWp.pure (v := .string (mkS (40 :: 120 :: 32 :: (si ++ 32 :: 121 :: 41 :: 32 :: (sk ++ [32, 122]))))) (fun K' hK' => ?_) ⟨rfl, rfl⟩
      have hcs : ¬ 9223372036854775807 < (mkS (40 :: 120 :: 32 :: (si ++ 32 :: 121 :: 41 :: 32 :: sk))).size + 2 := by simp only [mkS_size, List.length_cons, List.length_append]; omega
      have hcc : mkS (40 :: 120 :: 32 :: (si ++ 32 :: 121 :: 41 :: 32 :: (sk ++ [32, 122]))) = mkS (40 :: 120 :: 32 :: (si ++ 32 :: 121 :: 41 :: 32 :: sk)) ++ (⟨#[32, 122]⟩ : ByteArray) := by rw [show (40 :: 120 :: 32 :: (si ++ 32 :: 121 :: 41 :: 32 :: (sk ++ [32, 122])) : L) = (40 :: 120 :: 32 :: (si ++ 32 :: 121 :: 41 :: 32 :: sk)) ++ ([32, 122]) by simp]; exact (mkS_add _ _).symm
      rw [hcc] at hK'
      clear hcc
      simp only [ValWp, execOp, Act.eval, e67]
      go_simp
      all_goals exact hK'
    · -- 12: slot 17 := Op.assign t68
      refine OwesS.q rfl fun a w j u hC hb hs => ⟨rfl, ?_⟩
      have e68 : a.tmps.getD 68 undef = .string (mkS (40 :: 120 :: 32 :: (si ++ 32 :: 121 :: 41 :: 32 :: (sk ++ [32, 122])))) := hs.dep 11 _ rfl rfl
      refine ValWp.pure (v := .string (mkS (40 :: 120 :: 32 :: (si ++ 32 :: 121 :: 41 :: 32 :: (sk ++ [32, 122]))))) (fun K' hK' => ?_) ⟨rfl, rfl⟩
      simp only [ValWp, execOp, Act.eval, e68]
      go_simp
      all_goals exact hK'
  · intro a w u hC hl hd hsz hfree hs
    obtain ⟨u0, hu0⟩ : ∃ u, u = a.tmps.getD 0 undef := ⟨_, rfl⟩
    obtain ⟨u1, hu1⟩ : ∃ u, u = a.tmps.getD 1 undef := ⟨_, rfl⟩
    obtain ⟨u2, hu2⟩ : ∃ u, u = a.tmps.getD 2 undef := ⟨_, rfl⟩
    obtain ⟨u3, hu3⟩ : ∃ u, u = a.tmps.getD 3 undef := ⟨_, rfl⟩
    obtain ⟨u4, hu4⟩ : ∃ u, u = a.tmps.getD 4 undef := ⟨_, rfl⟩
    obtain ⟨u5, hu5⟩ : ∃ u, u = a.tmps.getD 5 undef := ⟨_, rfl⟩
    obtain ⟨u6, hu6⟩ : ∃ u, u = a.tmps.getD 6 undef := ⟨_, rfl⟩
    obtain ⟨u7, hu7⟩ : ∃ u, u = a.tmps.getD 7 undef := ⟨_, rfl⟩
    obtain ⟨u8, hu8⟩ : ∃ u, u = a.tmps.getD 8 undef := ⟨_, rfl⟩
    obtain ⟨u9, hu9⟩ : ∃ u, u = a.tmps.getD 9 undef := ⟨_, rfl⟩
    obtain ⟨u11, hu11⟩ : ∃ u, u = a.tmps.getD 11 undef := ⟨_, rfl⟩
    obtain ⟨u18, hu18⟩ : ∃ u, u = a.tmps.getD 18 undef := ⟨_, rfl⟩
    obtain ⟨u19, hu19⟩ : ∃ u, u = a.tmps.getD 19 undef := ⟨_, rfl⟩
    obtain ⟨u20, hu20⟩ : ∃ u, u = a.tmps.getD 20 undef := ⟨_, rfl⟩
    obtain ⟨u21, hu21⟩ : ∃ u, u = a.tmps.getD 21 undef := ⟨_, rfl⟩
    obtain ⟨u22, hu22⟩ : ∃ u, u = a.tmps.getD 22 undef := ⟨_, rfl⟩
    obtain ⟨u23, hu23⟩ : ∃ u, u = a.tmps.getD 23 undef := ⟨_, rfl⟩
    obtain ⟨u24, hu24⟩ : ∃ u, u = a.tmps.getD 24 undef := ⟨_, rfl⟩
    obtain ⟨u25, hu25⟩ : ∃ u, u = a.tmps.getD 25 undef := ⟨_, rfl⟩
    obtain ⟨u26, hu26⟩ : ∃ u, u = a.tmps.getD 26 undef := ⟨_, rfl⟩
    obtain ⟨u27, hu27⟩ : ∃ u, u = a.tmps.getD 27 undef := ⟨_, rfl⟩
    obtain ⟨u28, hu28⟩ : ∃ u, u = a.tmps.getD 28 undef := ⟨_, rfl⟩
    obtain ⟨u29, hu29⟩ : ∃ u, u = a.tmps.getD 29 undef := ⟨_, rfl⟩
    obtain ⟨u30, hu30⟩ : ∃ u, u = a.tmps.getD 30 undef := ⟨_, rfl⟩
    obtain ⟨u31, hu31⟩ : ∃ u, u = a.tmps.getD 31 undef := ⟨_, rfl⟩
    obtain ⟨u32, hu32⟩ : ∃ u, u = a.tmps.getD 32 undef := ⟨_, rfl⟩
    obtain ⟨u33, hu33⟩ : ∃ u, u = a.tmps.getD 33 undef := ⟨_, rfl⟩
    obtain ⟨u34, hu34⟩ : ∃ u, u = a.tmps.getD 34 undef := ⟨_, rfl⟩
    obtain ⟨u35, hu35⟩ : ∃ u, u = a.tmps.getD 35 undef := ⟨_, rfl⟩
    obtain ⟨u36, hu36⟩ : ∃ u, u = a.tmps.getD 36 undef := ⟨_, rfl⟩
    obtain ⟨u37, hu37⟩ : ∃ u, u = a.tmps.getD 37 undef := ⟨_, rfl⟩
    obtain ⟨u38, hu38⟩ : ∃ u, u = a.tmps.getD 38 undef := ⟨_, rfl⟩
    obtain ⟨u39, hu39⟩ : ∃ u, u = a.tmps.getD 39 undef := ⟨_, rfl⟩
    obtain ⟨u40, hu40⟩ : ∃ u, u = a.tmps.getD 40 undef := ⟨_, rfl⟩
    obtain ⟨u41, hu41⟩ : ∃ u, u = a.tmps.getD 41 undef := ⟨_, rfl⟩
    obtain ⟨u42, hu42⟩ : ∃ u, u = a.tmps.getD 42 undef := ⟨_, rfl⟩
    obtain ⟨u43, hu43⟩ : ∃ u, u = a.tmps.getD 43 undef := ⟨_, rfl⟩
    obtain ⟨u44, hu44⟩ : ∃ u, u = a.tmps.getD 44 undef := ⟨_, rfl⟩
    obtain ⟨u45, hu45⟩ : ∃ u, u = a.tmps.getD 45 undef := ⟨_, rfl⟩
    obtain ⟨u46, hu46⟩ : ∃ u, u = a.tmps.getD 46 undef := ⟨_, rfl⟩
    obtain ⟨u47, hu47⟩ : ∃ u, u = a.tmps.getD 47 undef := ⟨_, rfl⟩
    obtain ⟨u48, hu48⟩ : ∃ u, u = a.tmps.getD 48 undef := ⟨_, rfl⟩
    obtain ⟨u49, hu49⟩ : ∃ u, u = a.tmps.getD 49 undef := ⟨_, rfl⟩
    obtain ⟨u50, hu50⟩ : ∃ u, u = a.tmps.getD 50 undef := ⟨_, rfl⟩
    obtain ⟨u51, hu51⟩ : ∃ u, u = a.tmps.getD 51 undef := ⟨_, rfl⟩
    obtain ⟨u52, hu52⟩ : ∃ u, u = a.tmps.getD 52 undef := ⟨_, rfl⟩
    obtain ⟨u53, hu53⟩ : ∃ u, u = a.tmps.getD 53 undef := ⟨_, rfl⟩
    obtain ⟨u54, hu54⟩ : ∃ u, u = a.tmps.getD 54 undef := ⟨_, rfl⟩
    obtain ⟨u55, hu55⟩ : ∃ u, u = a.tmps.getD 55 undef := ⟨_, rfl⟩
    obtain ⟨u56, hu56⟩ : ∃ u, u = a.tmps.getD 56 undef := ⟨_, rfl⟩
    obtain ⟨u57, hu57⟩ : ∃ u, u = a.tmps.getD 57 undef := ⟨_, rfl⟩
    obtain ⟨u58, hu58⟩ : ∃ u, u = a.tmps.getD 58 undef := ⟨_, rfl⟩
    obtain ⟨u59, hu59⟩ : ∃ u, u = a.tmps.getD 59 undef := ⟨_, rfl⟩
    obtain ⟨u60, hu60⟩ : ∃ u, u = a.tmps.getD 60 undef := ⟨_, rfl⟩
    obtain ⟨u61, hu61⟩ : ∃ u, u = a.tmps.getD 61 undef := ⟨_, rfl⟩
    obtain ⟨u62, hu62⟩ : ∃ u, u = a.tmps.getD 62 undef := ⟨_, rfl⟩
    obtain ⟨u63, hu63⟩ : ∃ u, u = a.tmps.getD 63 undef := ⟨_, rfl⟩
    obtain ⟨u64, hu64⟩ : ∃ u, u = a.tmps.getD 64 undef := ⟨_, rfl⟩
    obtain ⟨u65, hu65⟩ : ∃ u, u = a.tmps.getD 65 undef := ⟨_, rfl⟩
    obtain ⟨u66, hu66⟩ : ∃ u, u = a.tmps.getD 66 undef := ⟨_, rfl⟩
    obtain ⟨u67, hu67⟩ : ∃ u, u = a.tmps.getD 67 undef := ⟨_, rfl⟩
    obtain ⟨u68, hu68⟩ : ∃ u, u = a.tmps.getD 68 undef := ⟨_, rfl⟩
    obtain ⟨u69, hu69⟩ : ∃ u, u = a.tmps.getD 69 undef := ⟨_, rfl⟩
    obtain ⟨u70, hu70⟩ : ∃ u, u = a.tmps.getD 70 undef := ⟨_, rfl⟩
    obtain ⟨u71, hu71⟩ : ∃ u, u = a.tmps.getD 71 undef := ⟨_, rfl⟩
    obtain ⟨u72, hu72⟩ : ∃ u, u = a.tmps.getD 72 undef := ⟨_, rfl⟩
    obtain ⟨u73, hu73⟩ : ∃ u, u = a.tmps.getD 73 undef := ⟨_, rfl⟩
    obtain ⟨u74, hu74⟩ : ∃ u, u = a.tmps.getD 74 undef := ⟨_, rfl⟩
    obtain ⟨u75, hu75⟩ : ∃ u, u = a.tmps.getD 75 undef := ⟨_, rfl⟩
    obtain ⟨u76, hu76⟩ : ∃ u, u = a.tmps.getD 76 undef := ⟨_, rfl⟩
    obtain ⟨u77, hu77⟩ : ∃ u, u = a.tmps.getD 77 undef := ⟨_, rfl⟩
    obtain ⟨u78, hu78⟩ : ∃ u, u = a.tmps.getD 78 undef := ⟨_, rfl⟩
    obtain ⟨u79, hu79⟩ : ∃ u, u = a.tmps.getD 79 undef := ⟨_, rfl⟩
    obtain ⟨u80, hu80⟩ : ∃ u, u = a.tmps.getD 80 undef := ⟨_, rfl⟩
    obtain ⟨u81, hu81⟩ : ∃ u, u = a.tmps.getD 81 undef := ⟨_, rfl⟩
    obtain ⟨u82, hu82⟩ : ∃ u, u = a.tmps.getD 82 undef := ⟨_, rfl⟩
    obtain ⟨u83, hu83⟩ : ∃ u, u = a.tmps.getD 83 undef := ⟨_, rfl⟩
    obtain ⟨u84, hu84⟩ : ∃ u, u = a.tmps.getD 84 undef := ⟨_, rfl⟩
    obtain ⟨u85, hu85⟩ : ∃ u, u = a.tmps.getD 85 undef := ⟨_, rfl⟩
    obtain ⟨u86, hu86⟩ : ∃ u, u = a.tmps.getD 86 undef := ⟨_, rfl⟩
    obtain ⟨u87, hu87⟩ : ∃ u, u = a.tmps.getD 87 undef := ⟨_, rfl⟩
    obtain ⟨u88, hu88⟩ : ∃ u, u = a.tmps.getD 88 undef := ⟨_, rfl⟩
    obtain ⟨u89, hu89⟩ : ∃ u, u = a.tmps.getD 89 undef := ⟨_, rfl⟩
    obtain ⟨u90, hu90⟩ : ∃ u, u = a.tmps.getD 90 undef := ⟨_, rfl⟩
    obtain ⟨u91, hu91⟩ : ∃ u, u = a.tmps.getD 91 undef := ⟨_, rfl⟩
    obtain ⟨u92, hu92⟩ : ∃ u, u = a.tmps.getD 92 undef := ⟨_, rfl⟩
    obtain ⟨u93, hu93⟩ : ∃ u, u = a.tmps.getD 93 undef := ⟨_, rfl⟩
    obtain ⟨u94, hu94⟩ : ∃ u, u = a.tmps.getD 94 undef := ⟨_, rfl⟩
    obtain ⟨u95, hu95⟩ : ∃ u, u = a.tmps.getD 95 undef := ⟨_, rfl⟩
    obtain ⟨u96, hu96⟩ : ∃ u, u = a.tmps.getD 96 undef := ⟨_, rfl⟩
    obtain ⟨u97, hu97⟩ : ∃ u, u = a.tmps.getD 97 undef := ⟨_, rfl⟩
    obtain ⟨u98, hu98⟩ : ∃ u, u = a.tmps.getD 98 undef := ⟨_, rfl⟩
    obtain ⟨u99, hu99⟩ : ∃ u, u = a.tmps.getD 99 undef := ⟨_, rfl⟩
    obtain ⟨u100, hu100⟩ : ∃ u, u = a.tmps.getD 100 undef := ⟨_, rfl⟩
    obtain ⟨u101, hu101⟩ : ∃ u, u = a.tmps.getD 101 undef := ⟨_, rfl⟩
    obtain ⟨u102, hu102⟩ : ∃ u, u = a.tmps.getD 102 undef := ⟨_, rfl⟩
    obtain ⟨u103, hu103⟩ : ∃ u, u = a.tmps.getD 103 undef := ⟨_, rfl⟩
    obtain ⟨u104, hu104⟩ : ∃ u, u = a.tmps.getD 104 undef := ⟨_, rfl⟩
    obtain ⟨u105, hu105⟩ : ∃ u, u = a.tmps.getD 105 undef := ⟨_, rfl⟩
    obtain ⟨u106, hu106⟩ : ∃ u, u = a.tmps.getD 106 undef := ⟨_, rfl⟩
    obtain ⟨u107, hu107⟩ : ∃ u, u = a.tmps.getD 107 undef := ⟨_, rfl⟩
    obtain ⟨u108, hu108⟩ : ∃ u, u = a.tmps.getD 108 undef := ⟨_, rfl⟩
    obtain ⟨u109, hu109⟩ : ∃ u, u = a.tmps.getD 109 undef := ⟨_, rfl⟩
    obtain ⟨u110, hu110⟩ : ∃ u, u = a.tmps.getD 110 undef := ⟨_, rfl⟩
    obtain ⟨u111, hu111⟩ : ∃ u, u = a.tmps.getD 111 undef := ⟨_, rfl⟩
    obtain ⟨u112, hu112⟩ : ∃ u, u = a.tmps.getD 112 undef := ⟨_, rfl⟩
    obtain ⟨u113, hu113⟩ : ∃ u, u = a.tmps.getD 113 undef := ⟨_, rfl⟩
    obtain ⟨u114, hu114⟩ : ∃ u, u = a.tmps.getD 114 undef := ⟨_, rfl⟩
    obtain ⟨u115, hu115⟩ : ∃ u, u = a.tmps.getD 115 undef := ⟨_, rfl⟩
    obtain ⟨u116, hu116⟩ : ∃ u, u = a.tmps.getD 116 undef := ⟨_, rfl⟩
    obtain ⟨u117, hu117⟩ : ∃ u, u = a.tmps.getD 117 undef := ⟨_, rfl⟩
    obtain ⟨u118, hu118⟩ : ∃ u, u = a.tmps.getD 118 undef := ⟨_, rfl⟩
    obtain ⟨u119, hu119⟩ : ∃ u, u = a.tmps.getD 119 undef := ⟨_, rfl⟩
    obtain ⟨u120, hu120⟩ : ∃ u, u = a.tmps.getD 120 undef := ⟨_, rfl⟩
    obtain ⟨u121, hu121⟩ : ∃ u, u = a.tmps.getD 121 undef := ⟨_, rfl⟩
    obtain ⟨u122, hu122⟩ : ∃ u, u = a.tmps.getD 122 undef := ⟨_, rfl⟩
    obtain ⟨u123, hu123⟩ : ∃ u, u = a.tmps.getD 123 undef := ⟨_, rfl⟩
    obtain ⟨u124, hu124⟩ : ∃ u, u = a.tmps.getD 124 undef := ⟨_, rfl⟩
    obtain ⟨u125, hu125⟩ : ∃ u, u = a.tmps.getD 125 undef := ⟨_, rfl⟩
    obtain ⟨u126, hu126⟩ : ∃ u, u = a.tmps.getD 126 undef := ⟨_, rfl⟩
    obtain ⟨u127, hu127⟩ : ∃ u, u = a.tmps.getD 127 undef := ⟨_, rfl⟩
    obtain ⟨u128, hu128⟩ : ∃ u, u = a.tmps.getD 128 undef := ⟨_, rfl⟩
    have hal : AllAt a 0 [u0, u1, u2, u3, u4, u5, u6, u7, u8, u9, .bool false, u11, .slice (some ⟨w1.heap.size, 0, none⟩) 18 18, .slice (some ⟨w1.heap.size + 1, 0, none⟩) 18 18, .int .i64 (ii : Int), .int .i64 (kk : Int), .slice (some ⟨w4.heap.size, 0, none⟩) 3 3, .string (mkS (40 :: 120 :: 32 :: (si ++ 32 :: 121 :: 41 :: 32 :: (sk ++ [32, 122])))), u18, u19, u20, u21, u22, u23, u24, u25, u26, u27, u28, u29, u30, u31, u32, u33, u34, u35, u36, u37, u38, u39, u40, u41, u42, u43, u44, u45, u46, u47, u48, u49, u50, u51, u52, u53, u54, u55, u56, u57, u58, u59, u60, u61, u62, u63, u64, u65, u66, u67, u68, u69, u70, u71, u72, u73, u74, u75, u76, u77, u78, u79, u80, u81, u82, u83, u84, u85, u86, u87, u88, u89, u90, u91, u92, u93, u94, u95, u96, u97, u98, u99, u100, u101, u102, u103, u104, u105, u106, u107, u108, u109, u110, u111, u112, u113, u114, u115, u116, u117, u118, u119, u120, u121, u122, u123, u124, u125, u126, u127, u128] := ⟨hu0.symm, hu1.symm, hu2.symm, hu3.symm, hu4.symm, hu5.symm, hu6.symm, hu7.symm, hu8.symm, hu9.symm, hfree 10 rfl, hu11.symm, hfree 12 rfl, hfree 13 rfl, hfree 14 rfl, hfree 15 rfl, hfree 16 rfl, hs 12 _ rfl, hu18.symm, hu19.symm, hu20.symm, hu21.symm, hu22.symm, hu23.symm, hu24.symm, hu25.symm, hu26.symm, hu27.symm, hu28.symm, hu29.symm, hu30.symm, hu31.symm, hu32.symm, hu33.symm, hu34.symm, hu35.symm, hu36.symm, hu37.symm, hu38.symm, hu39.symm, hu40.symm, hu41.symm, hu42.symm, hu43.symm, hu44.symm, hu45.symm, hu46.symm, hu47.symm, hu48.symm, hu49.symm, hu50.symm, hu51.symm, hu52.symm, hu53.symm, hu54.symm, hu55.symm, hu56.symm, hu57.symm, hu58.symm, hu59.symm, hu60.symm, hu61.symm, hu62.symm, hu63.symm, hu64.symm, hu65.symm, hu66.symm, hu67.symm, hu68.symm, hu69.symm, hu70.symm, hu71.symm, hu72.symm, hu73.symm, hu74.symm, hu75.symm, hu76.symm, hu77.symm, hu78.symm, hu79.symm, hu80.symm, hu81.symm, hu82.symm, hu83.symm, hu84.symm, hu85.symm, hu86.symm, hu87.symm, hu88.symm, hu89.symm, hu90.symm, hu91.symm, hu92.symm, hu93.symm, hu94.symm, hu95.symm, hu96.symm, hu97.symm, hu98.symm, hu99.symm, hu100.symm, hu101.symm, hu102.symm, hu103.symm, hu104.symm, hu105.symm, hu106.symm, hu107.symm, hu108.symm, hu109.symm, hu110.symm, hu111.symm, hu112.symm, hu113.symm, hu114.symm, hu115.symm, hu116.symm, hu117.symm, hu118.symm, hu119.symm, hu120.symm, hu121.symm, hu122.symm, hu123.symm, hu124.symm, hu125.symm, hu126.symm, hu127.symm, hu128.symm, trivial⟩
    have hlit := fun h => act_lit hd h hal
    rw [hlit hsz]
    clear hlit hal hd hsz hfree hs hu0 hu1 hu2 hu3 hu4 hu5 hu6 hu7 hu8 hu9 hu11 hu18 hu19 hu20 hu21 hu22 hu23 hu24 hu25 hu26 hu27 hu28 hu29 hu30 hu31 hu32 hu33 hu34 hu35 hu36 hu37 hu38 hu39 hu40 hu41 hu42 hu43 hu44 hu45 hu46 hu47 hu48 hu49 hu50 hu51 hu52 hu53 hu54 hu55 hu56 hu57 hu58 hu59 hu60 hu61 hu62 hu63 hu64 hu65 hu66 hu67 hu68 hu69 hu70 hu71 hu72 hu73 hu74 hu75 hu76 hu77 hu78 hu79 hu80 hu81 hu82 hu83 hu84 hu85 hu86 hu87 hu88 hu89 hu90 hu91 hu92 hu93 hu94 hu95 hu96 hu97 hu98 hu99 hu100 hu101 hu102 hu103 hu104 hu105 hu106 hu107 hu108 hu109 hu110 hu111 hu112 hu113 hu114 hu115 hu116 hu117 hu118 hu119 hu120 hu121 hu122 hu123 hu124 hu125 hu126 hu127 hu128
    clear hl
    obtain ⟨w6, hw6⟩ : ∃ u, u = w := ⟨_, rfl⟩
    rw [← hw6] at hC ⊢
    clear hw6
    have HLW := Lib.hid (HLW.out.trans hC.out)
    have HC := Lib.hid (HC.out.later hC.out)
    have HEV := Lib.hid (HEV.out.later hC.out)
    have HER := Lib.hid (fun h => (HER.out h).later hC.out)
    have HEL := Lib.hid (fun h => (HEL.out h).later hC.out)
    clear hC
    by_cases hlt : bi < bk
    · have HBT := Lib.hid (show decide (bi < bk) = true by simp [hlt])
      have HER := Lib.hid (HER.out hlt)
      clear hlt HEL
      go_wp2_with (fail)
      refine wp_region_seq (by kernel_rfl) [] (fun _ _ w => Hid (Later w6 w)) [some (.slice (some ⟨w1.heap.size + 1, 0, none⟩) 18 18), some (.int .i64 (kk : Int)), some (.pointer (some ⟨w1.heap.size + 1, kk, none⟩)), some (.int .i64 (bk : Int)), some (.slice (some ⟨w1.heap.size + 1, 0, none⟩) 18 18), some (.int .i64 (ii : Int)), some (.pointer (some ⟨w1.heap.size + 1, ii, none⟩)), some (.int .i64 (bi : Int)), some (.bool true)] (by decide) (by decide) (by kernel_rfl) (by kernel_rfl) (Lib.hid (Later.drew _)) ?_ ?_
      · refine ⟨?_, ?_, ?_, ?_, ?_, ?_, ?_, ?_, ?_, trivial⟩
        · -- 0: slot 69 := Op.move t13
          refine OwesS.q rfl fun a w j u hC hb hs => ⟨rfl, ?_⟩
          have e13 : a.tmps.getD 13 undef = .slice (some ⟨w1.heap.size + 1, 0, none⟩) 18 18 := hs.free 13 rfl
          refine ValWp.pure (v := .slice (some ⟨w1.heap.size + 1, 0, none⟩) 18 18) (fun K' hK' => ?_) ⟨rfl, rfl⟩
          simp only [ValWp, execOp, Act.eval, e13]
          go_simp
          all_goals exact hK'
        · -- 1: slot 70 := Op.move t15
          refine OwesS.q rfl fun a w j u hC hb hs => ⟨rfl, ?_⟩
          have e15 : a.tmps.getD 15 undef = .int .i64 (kk : Int) := hs.free 15 rfl
          refine ValWp.pure (v := .int .i64 (kk : Int)) (fun K' hK' => ?_) ⟨rfl, rfl⟩
          simp only [ValWp, execOp, Act.eval, e15]
          go_simp
          all_goals exact hK'
        · -- 2: slot 71 := Op.indexAddr 32 t69 t70
          refine OwesS.q rfl fun a w j u hC hb hs => ⟨rfl, ?_⟩
          have e69 : a.tmps.getD 69 undef = .slice (some ⟨w1.heap.size + 1, 0, none⟩) 18 18 := hs.dep 0 _ rfl rfl
          have e70 : a.tmps.getD 70 undef = .int .i64 (kk : Int) := hs.dep 1 _ rfl rfl
          refine ValWp.pure (v := .pointer (some ⟨w1.heap.size + 1, kk, none⟩)) (fun K' hK' => ?_) ⟨rfl, rfl⟩
          simp only [ValWp, execOp, Act.eval, e69, e70]
          go_simp
          all_goals exact hK'
        · -- 3: slot 72 := Op.load 3 t71
          refine OwesS.q rfl fun a w j u hC hb hs => ⟨rfl, ?_⟩
          have e71 : a.tmps.getD 71 undef = .pointer (some ⟨w1.heap.size + 1, kk, none⟩) := hs.dep 2 _ rfl rfl
          have q1 := cell_later hC.out HC.out.c4
          refine ValWp.pure (v := .int .i64 (bk : Int)) (fun K' hK' => ?_) ⟨rfl, rfl⟩
          simp only [ValWp, execOp, Act.eval, e71]
          go_simp
          all_goals exact hK'
        · -- 4: slot 73 := Op.move t13
          refine OwesS.q rfl fun a w j u hC hb hs => ⟨rfl, ?_⟩
          have e13 : a.tmps.getD 13 undef = .slice (some ⟨w1.heap.size + 1, 0, none⟩) 18 18 := hs.free 13 rfl
          refine ValWp.pure (v := .slice (some ⟨w1.heap.size + 1, 0, none⟩) 18 18) (fun K' hK' => ?_) ⟨rfl, rfl⟩
          simp only [ValWp, execOp, Act.eval, e13]
          go_simp
          all_goals exact hK'
        · -- 5: slot 74 := Op.move t14
          refine OwesS.q rfl fun a w j u hC hb hs => ⟨rfl, ?_⟩
          have e14 : a.tmps.getD 14 undef = .int .i64 (ii : Int) := hs.free 14 rfl
          refine ValWp.pure (v := .int .i64 (ii : Int)) (fun K' hK' => ?_) ⟨rfl, rfl⟩
          simp only [ValWp, execOp, Act.eval, e14]
          go_simp
          all_goals exact hK'
        · -- 6: slot 75 := Op.indexAddr 32 t73 t74
          refine OwesS.q rfl fun a w j u hC hb hs => ⟨rfl, ?_⟩
          have e73 : a.tmps.getD 73 undef = .slice (some ⟨w1.heap.size + 1, 0, none⟩) 18 18 := hs.dep 4 _ rfl rfl
          have e74 : a.tmps.getD 74 undef = .int .i64 (ii : Int) := hs.dep 5 _ rfl rfl
          refine ValWp.pure (v := .pointer (some ⟨w1.heap.size + 1, ii, none⟩)) (fun K' hK' => ?_) ⟨rfl, rfl⟩
          simp only [ValWp, execOp, Act.eval, e73, e74]
          go_simp
          all_goals exact hK'
        · -- 7: slot 76 := Op.load 3 t75
          refine OwesS.q rfl fun a w j u hC hb hs => ⟨rfl, ?_⟩
          have e75 : a.tmps.getD 75 undef = .pointer (some ⟨w1.heap.size + 1, ii, none⟩) := hs.dep 6 _ rfl rfl
          have q1 := cell_later hC.out HC.out.c3
          refine ValWp.pure (v := .int .i64 (bi : Int)) (fun K' hK' => ?_) ⟨rfl, rfl⟩
          simp only [ValWp, execOp, Act.eval, e75]
          go_simp
          all_goals exact hK'
        · -- 8: slot 77 := Op.binOp BinOp.gtr 3 t72 t76 3
          refine OwesS.q rfl fun a w j u hC hb hs => ⟨rfl, ?_⟩
          have e72 : a.tmps.getD 72 undef = .int .i64 (bk : Int) := hs.dep 3 _ rfl rfl
          have e76 : a.tmps.getD 76 undef = .int .i64 (bi : Int) := hs.dep 7 _ rfl rfl
          refine ValWp.pure (v := .bool true) (fun K' hK' => ?_) ⟨rfl, rfl⟩
          simp only [ValWp, execOp, Act.eval, e72, e76]
          go_simp
          all_goals (first | exact hK' | (simp only [HBT.out]; exact hK'))
      · intro a w u hC hl hd hsz hfree hs
        obtain ⟨u0, hu0⟩ : ∃ u, u = a.tmps.getD 0 undef := ⟨_, rfl⟩
        obtain ⟨u1, hu1⟩ : ∃ u, u = a.tmps.getD 1 undef := ⟨_, rfl⟩
        obtain ⟨u2, hu2⟩ : ∃ u, u = a.tmps.getD 2 undef := ⟨_, rfl⟩
        obtain ⟨u3, hu3⟩ : ∃ u, u = a.tmps.getD 3 undef := ⟨_, rfl⟩
        obtain ⟨u4, hu4⟩ : ∃ u, u = a.tmps.getD 4 undef := ⟨_, rfl⟩
        obtain ⟨u5, hu5⟩ : ∃ u, u = a.tmps.getD 5 undef := ⟨_, rfl⟩
        obtain ⟨u6, hu6⟩ : ∃ u, u = a.tmps.getD 6 undef := ⟨_, rfl⟩
        obtain ⟨u7, hu7⟩ : ∃ u, u = a.tmps.getD 7 undef := ⟨_, rfl⟩
        obtain ⟨u8, hu8⟩ : ∃ u, u = a.tmps.getD 8 undef := ⟨_, rfl⟩
        obtain ⟨u9, hu9⟩ : ∃ u, u = a.tmps.getD 9 undef := ⟨_, rfl⟩
        obtain ⟨u11, hu11⟩ : ∃ u, u = a.tmps.getD 11 undef := ⟨_, rfl⟩
        obtain ⟨u18, hu18⟩ : ∃ u, u = a.tmps.getD 18 undef := ⟨_, rfl⟩
        obtain ⟨u19, hu19⟩ : ∃ u, u = a.tmps.getD 19 undef := ⟨_, rfl⟩
        obtain ⟨u20, hu20⟩ : ∃ u, u = a.tmps.getD 20 undef := ⟨_, rfl⟩
        obtain ⟨u21, hu21⟩ : ∃ u, u = a.tmps.getD 21 undef := ⟨_, rfl⟩
        obtain ⟨u22, hu22⟩ : ∃ u, u = a.tmps.getD 22 undef := ⟨_, rfl⟩
        obtain ⟨u23, hu23⟩ : ∃ u, u = a.tmps.getD 23 undef := ⟨_, rfl⟩
        obtain ⟨u24, hu24⟩ : ∃ u, u = a.tmps.getD 24 undef := ⟨_, rfl⟩
        obtain ⟨u25, hu25⟩ : ∃ u, u = a.tmps.getD 25 undef := ⟨_, rfl⟩
        obtain ⟨u26, hu26⟩ : ∃ u, u = a.tmps.getD 26 undef := ⟨_, rfl⟩
        obtain ⟨u27, hu27⟩ : ∃ u, u = a.tmps.getD 27 undef := ⟨_, rfl⟩
        obtain ⟨u28, hu28⟩ : ∃ u, u = a.tmps.getD 28 undef := ⟨_, rfl⟩
        obtain ⟨u29, hu29⟩ : ∃ u, u = a.tmps.getD 29 undef := ⟨_, rfl⟩
        obtain ⟨u30, hu30⟩ : ∃ u, u = a.tmps.getD 30 undef := ⟨_, rfl⟩
        obtain ⟨u31, hu31⟩ : ∃ u, u = a.tmps.getD 31 undef := ⟨_, rfl⟩
        obtain ⟨u32, hu32⟩ : ∃ u, u = a.tmps.getD 32 undef := ⟨_, rfl⟩
        obtain ⟨u33, hu33⟩ : ∃ u, u = a.tmps.getD 33 undef := ⟨_, rfl⟩
        obtain ⟨u34, hu34⟩ : ∃ u, u = a.tmps.getD 34 undef := ⟨_, rfl⟩
        obtain ⟨u35, hu35⟩ : ∃ u, u = a.tmps.getD 35 undef := ⟨_, rfl⟩
        obtain ⟨u36, hu36⟩ : ∃ u, u = a.tmps.getD 36 undef := ⟨_, rfl⟩
        obtain ⟨u37, hu37⟩ : ∃ u, u = a.tmps.getD 37 undef := ⟨_, rfl⟩
        obtain ⟨u38, hu38⟩ : ∃ u, u = a.tmps.getD 38 undef := ⟨_, rfl⟩
        obtain ⟨u39, hu39⟩ : ∃ u, u = a.tmps.getD 39 undef := ⟨_, rfl⟩
        obtain ⟨u40, hu40⟩ : ∃ u, u = a.tmps.getD 40 undef := ⟨_, rfl⟩
        obtain ⟨u41, hu41⟩ : ∃ u, u = a.tmps.getD 41 undef := ⟨_, rfl⟩
        obtain ⟨u42, hu42⟩ : ∃ u, u = a.tmps.getD 42 undef := ⟨_, rfl⟩
        obtain ⟨u43, hu43⟩ : ∃ u, u = a.tmps.getD 43 undef := ⟨_, rfl⟩
        obtain ⟨u44, hu44⟩ : ∃ u, u = a.tmps.getD 44 undef := ⟨_, rfl⟩
        obtain ⟨u45, hu45⟩ : ∃ u, u = a.tmps.getD 45 undef := ⟨_, rfl⟩
        obtain ⟨u46, hu46⟩ : ∃ u, u = a.tmps.getD 46 undef := ⟨_, rfl⟩
        obtain ⟨u47, hu47⟩ : ∃ u, u = a.tmps.getD 47 undef := ⟨_, rfl⟩
        obtain ⟨u48, hu48⟩ : ∃ u, u = a.tmps.getD 48 undef := ⟨_, rfl⟩
        obtain ⟨u49, hu49⟩ : ∃ u, u = a.tmps.getD 49 undef := ⟨_, rfl⟩
        obtain ⟨u50, hu50⟩ : ∃ u, u = a.tmps.getD 50 undef := ⟨_, rfl⟩
        obtain ⟨u51, hu51⟩ : ∃ u, u = a.tmps.getD 51 undef := ⟨_, rfl⟩
        obtain ⟨u52, hu52⟩ : ∃ u, u = a.tmps.getD 52 undef := ⟨_, rfl⟩
        obtain ⟨u53, hu53⟩ : ∃ u, u = a.tmps.getD 53 undef := ⟨_, rfl⟩
        obtain ⟨u54, hu54⟩ : ∃ u, u = a.tmps.getD 54 undef := ⟨_, rfl⟩
        obtain ⟨u55, hu55⟩ : ∃ u, u = a.tmps.getD 55 undef := ⟨_, rfl⟩
        obtain ⟨u56, hu56⟩ : ∃ u, u = a.tmps.getD 56 undef := ⟨_, rfl⟩
        obtain ⟨u57, hu57⟩ : ∃ u, u = a.tmps.getD 57 undef := ⟨_, rfl⟩
        obtain ⟨u58, hu58⟩ : ∃ u, u = a.tmps.getD 58 undef := ⟨_, rfl⟩
        obtain ⟨u59, hu59⟩ : ∃ u, u = a.tmps.getD 59 undef := ⟨_, rfl⟩
        obtain ⟨u60, hu60⟩ : ∃ u, u = a.tmps.getD 60 undef := ⟨_, rfl⟩
        obtain ⟨u61, hu61⟩ : ∃ u, u = a.tmps.getD 61 undef := ⟨_, rfl⟩
        obtain ⟨u62, hu62⟩ : ∃ u, u = a.tmps.getD 62 undef := ⟨_, rfl⟩
        obtain ⟨u63, hu63⟩ : ∃ u, u = a.tmps.getD 63 undef := ⟨_, rfl⟩
        obtain ⟨u64, hu64⟩ : ∃ u, u = a.tmps.getD 64 undef := ⟨_, rfl⟩
        obtain ⟨u65, hu65⟩ : ∃ u, u = a.tmps.getD 65 undef := ⟨_, rfl⟩
        obtain ⟨u66, hu66⟩ : ∃ u, u = a.tmps.getD 66 undef := ⟨_, rfl⟩
        obtain ⟨u67, hu67⟩ : ∃ u, u = a.tmps.getD 67 undef := ⟨_, rfl⟩
        obtain ⟨u68, hu68⟩ : ∃ u, u = a.tmps.getD 68 undef := ⟨_, rfl⟩
        obtain ⟨u69, hu69⟩ : ∃ u, u = a.tmps.getD 69 undef := ⟨_, rfl⟩
        obtain ⟨u70, hu70⟩ : ∃ u, u = a.tmps.getD 70 undef := ⟨_, rfl⟩
        obtain ⟨u71, hu71⟩ : ∃ u, u = a.tmps.getD 71 undef := ⟨_, rfl⟩
        obtain ⟨u72, hu72⟩ : ∃ u, u = a.tmps.getD 72 undef := ⟨_, rfl⟩
        obtain ⟨u73, hu73⟩ : ∃ u, u = a.tmps.getD 73 undef := ⟨_, rfl⟩
        obtain ⟨u74, hu74⟩ : ∃ u, u = a.tmps.getD 74 undef := ⟨_, rfl⟩
        obtain ⟨u75, hu75⟩ : ∃ u, u = a.tmps.getD 75 undef := ⟨_, rfl⟩
        obtain ⟨u76, hu76⟩ : ∃ u, u = a.tmps.getD 76 undef := ⟨_, rfl⟩
        obtain ⟨u78, hu78⟩ : ∃ u, u = a.tmps.getD 78 undef := ⟨_, rfl⟩
        obtain ⟨u79, hu79⟩ : ∃ u, u = a.tmps.getD 79 undef := ⟨_, rfl⟩
        obtain ⟨u80, hu80⟩ : ∃ u, u = a.tmps.getD 80 undef := ⟨_, rfl⟩
        obtain ⟨u81, hu81⟩ : ∃ u, u = a.tmps.getD 81 undef := ⟨_, rfl⟩
        obtain ⟨u82, hu82⟩ : ∃ u, u = a.tmps.getD 82 undef := ⟨_, rfl⟩
        obtain ⟨u83, hu83⟩ : ∃ u, u = a.tmps.getD 83 undef := ⟨_, rfl⟩
        obtain ⟨u84, hu84⟩ : ∃ u, u = a.tmps.getD 84 undef := ⟨_, rfl⟩
        obtain ⟨u85, hu85⟩ : ∃ u, u = a.tmps.getD 85 undef := ⟨_, rfl⟩
        obtain ⟨u86, hu86⟩ : ∃ u, u = a.tmps.getD 86 undef := ⟨_, rfl⟩
        obtain ⟨u87, hu87⟩ : ∃ u, u = a.tmps.getD 87 undef := ⟨_, rfl⟩
        obtain ⟨u88, hu88⟩ : ∃ u, u = a.tmps.getD 88 undef := ⟨_, rfl⟩
        obtain ⟨u89, hu89⟩ : ∃ u, u = a.tmps.getD 89 undef := ⟨_, rfl⟩
        obtain ⟨u90, hu90⟩ : ∃ u, u = a.tmps.getD 90 undef := ⟨_, rfl⟩
        obtain ⟨u91, hu91⟩ : ∃ u, u = a.tmps.getD 91 undef := ⟨_, rfl⟩
        obtain ⟨u92, hu92⟩ : ∃ u, u = a.tmps.getD 92 undef := ⟨_, rfl⟩
        obtain ⟨u93, hu93⟩ : ∃ u, u = a.tmps.getD 93 undef := ⟨_, rfl⟩
        obtain ⟨u94, hu94⟩ : ∃ u, u = a.tmps.getD 94 undef := ⟨_, rfl⟩
        obtain ⟨u95, hu95⟩ : ∃ u, u = a.tmps.getD 95 undef := ⟨_, rfl⟩
        obtain ⟨u96, hu96⟩ : ∃ u, u = a.tmps.getD 96 undef := ⟨_, rfl⟩
        obtain ⟨u97, hu97⟩ : ∃ u, u = a.tmps.getD 97 undef := ⟨_, rfl⟩
        obtain ⟨u98, hu98⟩ : ∃ u, u = a.tmps.getD 98 undef := ⟨_, rfl⟩
        obtain ⟨u99, hu99⟩ : ∃ u, u = a.tmps.getD 99 undef := ⟨_, rfl⟩
        obtain ⟨u100, hu100⟩ : ∃ u, u = a.tmps.getD 100 undef := ⟨_, rfl⟩
        obtain ⟨u101, hu101⟩ : ∃ u, u = a.tmps.getD 101 undef := ⟨_, rfl⟩
        obtain ⟨u102, hu102⟩ : ∃ u, u = a.tmps.getD 102 undef := ⟨_, rfl⟩
        obtain ⟨u103, hu103⟩ : ∃ u, u = a.tmps.getD 103 undef := ⟨_, rfl⟩
        obtain ⟨u104, hu104⟩ : ∃ u, u = a.tmps.getD 104 undef := ⟨_, rfl⟩
        obtain ⟨u105, hu105⟩ : ∃ u, u = a.tmps.getD 105 undef := ⟨_, rfl⟩
        obtain ⟨u106, hu106⟩ : ∃ u, u = a.tmps.getD 106 undef := ⟨_, rfl⟩
        obtain ⟨u107, hu107⟩ : ∃ u, u = a.tmps.getD 107 undef := ⟨_, rfl⟩
        obtain ⟨u108, hu108⟩ : ∃ u, u = a.tmps.getD 108 undef := ⟨_, rfl⟩
        obtain ⟨u109, hu109⟩ : ∃ u, u = a.tmps.getD 109 undef := ⟨_, rfl⟩
        obtain ⟨u110, hu110⟩ : ∃ u, u = a.tmps.getD 110 undef := ⟨_, rfl⟩
        obtain ⟨u111, hu111⟩ : ∃ u, u = a.tmps.getD 111 undef := ⟨_, rfl⟩
        obtain ⟨u112, hu112⟩ : ∃ u, u = a.tmps.getD 112 undef := ⟨_, rfl⟩
        obtain ⟨u113, hu113⟩ : ∃ u, u = a.tmps.getD 113 undef := ⟨_, rfl⟩
        obtain ⟨u114, hu114⟩ : ∃ u, u = a.tmps.getD 114 undef := ⟨_, rfl⟩
        obtain ⟨u115, hu115⟩ : ∃ u, u = a.tmps.getD 115 undef := ⟨_, rfl⟩
        obtain ⟨u116, hu116⟩ : ∃ u, u = a.tmps.getD 116 undef := ⟨_, rfl⟩
        obtain ⟨u117, hu117⟩ : ∃ u, u = a.tmps.getD 117 undef := ⟨_, rfl⟩
        obtain ⟨u118, hu118⟩ : ∃ u, u = a.tmps.getD 118 undef := ⟨_, rfl⟩
        obtain ⟨u119, hu119⟩ : ∃ u, u = a.tmps.getD 119 undef := ⟨_, rfl⟩
        obtain ⟨u120, hu120⟩ : ∃ u, u = a.tmps.getD 120 undef := ⟨_, rfl⟩
        obtain ⟨u121, hu121⟩ : ∃ u, u = a.tmps.getD 121 undef := ⟨_, rfl⟩
        obtain ⟨u122, hu122⟩ : ∃ u, u = a.tmps.getD 122 undef := ⟨_, rfl⟩
        obtain ⟨u123, hu123⟩ : ∃ u, u = a.tmps.getD 123 undef := ⟨_, rfl⟩
        obtain ⟨u124, hu124⟩ : ∃ u, u = a.tmps.getD 124 undef := ⟨_, rfl⟩
        obtain ⟨u125, hu125⟩ : ∃ u, u = a.tmps.getD 125 undef := ⟨_, rfl⟩
        obtain ⟨u126, hu126⟩ : ∃ u, u = a.tmps.getD 126 undef := ⟨_, rfl⟩
        obtain ⟨u127, hu127⟩ : ∃ u, u = a.tmps.getD 127 undef := ⟨_, rfl⟩
        obtain ⟨u128, hu128⟩ : ∃ u, u = a.tmps.getD 128 undef := ⟨_, rfl⟩
        have hal : AllAt a 0 [u0, u1, u2, u3, u4, u5, u6, u7, u8, u9, .bool false, u11, .slice (some ⟨w1.heap.size, 0, none⟩) 18 18, .slice (some ⟨w1.heap.size + 1, 0, none⟩) 18 18, .int .i64 (ii : Int), .int .i64 (kk : Int), .slice (some ⟨w4.heap.size, 0, none⟩) 3 3, .string (mkS (40 :: 120 :: 32 :: (si ++ 32 :: 121 :: 41 :: 32 :: (sk ++ [32, 122])))), u18, u19, u20, u21, u22, u23, u24, u25, u26, u27, u28, u29, u30, u31, u32, u33, u34, u35, u36, u37, u38, u39, u40, u41, u42, u43, u44, u45, u46, u47, u48, u49, u50, u51, u52, u53, u54, u55, u56, u57, u58, u59, u60, u61, u62, u63, u64, u65, u66, u67, u68, u69, u70, u71, u72, u73, u74, u75, u76, .bool true, u78, u79, u80, u81, u82, u83, u84, u85, u86, u87, u88, u89, u90, u91, u92, u93, u94, u95, u96, u97, u98, u99, u100, u101, u102, u103, u104, u105, u106, u107, u108, u109, u110, u111, u112, u113, u114, u115, u116, u117, u118, u119, u120, u121, u122, u123, u124, u125, u126, u127, u128] := ⟨hu0.symm, hu1.symm, hu2.symm, hu3.symm, hu4.symm, hu5.symm, hu6.symm, hu7.symm, hu8.symm, hu9.symm, hfree 10 rfl, hu11.symm, hfree 12 rfl, hfree 13 rfl, hfree 14 rfl, hfree 15 rfl, hfree 16 rfl, hfree 17 rfl, hu18.symm, hu19.symm, hu20.symm, hu21.symm, hu22.symm, hu23.symm, hu24.symm, hu25.symm, hu26.symm, hu27.symm, hu28.symm, hu29.symm, hu30.symm, hu31.symm, hu32.symm, hu33.symm, hu34.symm, hu35.symm, hu36.symm, hu37.symm, hu38.symm, hu39.symm, hu40.symm, hu41.symm, hu42.symm, hu43.symm, hu44.symm, hu45.symm, hu46.symm, hu47.symm, hu48.symm, hu49.symm, hu50.symm, hu51.symm, hu52.symm, hu53.symm, hu54.symm, hu55.symm, hu56.symm, hu57.symm, hu58.symm, hu59.symm, hu60.symm, hu61.symm, hu62.symm, hu63.symm, hu64.symm, hu65.symm, hu66.symm, hu67.symm, hu68.symm, hu69.symm, hu70.symm, hu71.symm, hu72.symm, hu73.symm, hu74.symm, hu75.symm, hu76.symm, hs 8 _ rfl, hu78.symm, hu79.symm, hu80.symm, hu81.symm, hu82.symm, hu83.symm, hu84.symm, hu85.symm, hu86.symm, hu87.symm, hu88.symm, hu89.symm, hu90.symm, hu91.symm, hu92.symm, hu93.symm, hu94.symm, hu95.symm, hu96.symm, hu97.symm, hu98.symm, hu99.symm, hu100.symm, hu101.symm, hu102.symm, hu103.symm, hu104.symm, hu105.symm, hu106.symm, hu107.symm, hu108.symm, hu109.symm, hu110.symm, hu111.symm, hu112.symm, hu113.symm, hu114.symm, hu115.symm, hu116.symm, hu117.symm, hu118.symm, hu119.symm, hu120.symm, hu121.symm, hu122.symm, hu123.symm, hu124.symm, hu125.symm, hu126.symm, hu127.symm, hu128.symm, trivial⟩
        have hlit := fun h => act_lit hd h hal
        rw [hlit hsz]
        clear hlit hal hd hsz hfree hs hu0 hu1 hu2 hu3 hu4 hu5 hu6 hu7 hu8 hu9 hu11 hu18 hu19 hu20 hu21 hu22 hu23 hu24 hu25 hu26 hu27 hu28 hu29 hu30 hu31 hu32 hu33 hu34 hu35 hu36 hu37 hu38 hu39 hu40 hu41 hu42 hu43 hu44 hu45 hu46 hu47 hu48 hu49 hu50 hu51 hu52 hu53 hu54 hu55 hu56 hu57 hu58 hu59 hu60 hu61 hu62 hu63 hu64 hu65 hu66 hu67 hu68 hu69 hu70 hu71 hu72 hu73 hu74 hu75 hu76 hu78 hu79 hu80 hu81 hu82 hu83 hu84 hu85 hu86 hu87 hu88 hu89 hu90 hu91 hu92 hu93 hu94 hu95 hu96 hu97 hu98 hu99 hu100 hu101 hu102 hu103 hu104 hu105 hu106 hu107 hu108 hu109 hu110 hu111 hu112 hu113 hu114 hu115 hu116 hu117 hu118 hu119 hu120 hu121 hu122 hu123 hu124 hu125 hu126 hu127 hu128
        clear hl
        obtain ⟨w7, hw7⟩ : ∃ u, u = w := ⟨_, rfl⟩
        rw [← hw7] at hC ⊢
        clear hw7
        have HLW := Lib.hid (HLW.out.trans hC.out)
        have HC := Lib.hid (HC.out.later hC.out)
        have HEV := Lib.hid (HEV.out.later hC.out)
        have HER := Lib.hid (HER.out.later hC.out)
        clear hC
        go_wp2_with (fail)
        refine wp_region_seq (by kernel_rfl) [] (fun _ _ w => Hid (Later w7 w)) [some (.slice (some ⟨w1.heap.size, 0, none⟩) 18 18), some (.int .i64 (ii : Int)), some (.pointer (some ⟨w1.heap.size, ii, none⟩)), some (.string (mkS si)), some (.string (mkS (120 :: 32 :: si))), some (.string (mkS (120 :: 32 :: (si ++ [32, 40, 121, 32])))), some (.slice (some ⟨w1.heap.size, 0, none⟩) 18 18), some (.int .i64 (kk : Int)), some (.pointer (some ⟨w1.heap.size, kk, none⟩)), some (.string (mkS sk)), some (.string (mkS (120 :: 32 :: (si ++ 32 :: 40 :: 121 :: 32 :: sk)))), some (.string (mkS (120 :: 32 :: (si ++ 32 :: 40 :: 121 :: 32 :: (sk ++ [32, 122, 41]))))), some (.string (mkS (120 :: 32 :: (si ++ 32 :: 40 :: 121 :: 32 :: (sk ++ [32, 122, 41])))))] (by decide) (by decide) (by kernel_rfl) (by kernel_rfl) (Lib.hid (Later.drew _)) ?_ ?_
        · refine ⟨?_, ?_, ?_, ?_, ?_, ?_, ?_, ?_, ?_, ?_, ?_, ?_, ?_, trivial⟩
          · -- 0: slot 78 := Op.move t12
            refine OwesS.q rfl fun a w j u hC hb hs => ⟨rfl, ?_⟩
            have e12 : a.tmps.getD 12 undef = .slice (some ⟨w1.heap.size, 0, none⟩) 18 18 := hs.free 12 rfl
            refine ValWp.pure (v := .slice (some ⟨w1.heap.size, 0, none⟩) 18 18) (fun K' hK' => ?_) ⟨rfl, rfl⟩
            simp only [ValWp, execOp, Act.eval, e12]
            go_simp
            all_goals exact hK'
          · -- 1: slot 79 := Op.move t14
            refine OwesS.q rfl fun a w j u hC hb hs => ⟨rfl, ?_⟩
            have e14 : a.tmps.getD 14 undef = .int .i64 (ii : Int) := hs.free 14 rfl
            refine ValWp.pure (v := .int .i64 (ii : Int)) (fun K' hK' => ?_) ⟨rfl, rfl⟩
            simp only [ValWp, execOp, Act.eval, e14]
            go_simp
            all_goals exact hK'
          · -- 2: slot 80 := Op.indexAddr 31 t78 t79
            refine OwesS.q rfl fun a w j u hC hb hs => ⟨rfl, ?_⟩
            have e78 : a.tmps.getD 78 undef = .slice (some ⟨w1.heap.size, 0, none⟩) 18 18 := hs.dep 0 _ rfl rfl
            have e79 : a.tmps.getD 79 undef = .int .i64 (ii : Int) := hs.dep 1 _ rfl rfl
            refine ValWp.pure (v := .pointer (some ⟨w1.heap.size, ii, none⟩)) (fun K' hK' => ?_) ⟨rfl, rfl⟩
            simp only [ValWp, execOp, Act.eval, e78, e79]
            go_simp
            all_goals exact hK'
          · -- 3: slot 81 := Op.load 9 t80
            refine OwesS.q rfl fun a w j u hC hb hs => ⟨rfl, ?_⟩
            have e80 : a.tmps.getD 80 undef = .pointer (some ⟨w1.heap.size, ii, none⟩) := hs.dep 2 _ rfl rfl
            have q1 := cell_later hC.out HC.out.c1
            refine ValWp.pure (v := .string (mkS si)) (fun K' hK' => ?_) ⟨rfl, rfl⟩
            simp only [ValWp, execOp, Act.eval, e80]
            go_simp
            all_goals exact hK'
          · -- 4: slot 82 := Op.binOp BinOp.add 9 (const (Value.string { data := #[120, 32] })) t81 9
            refine OwesS.q rfl fun a w j u hC hb hs => ⟨rfl, ?_⟩
            have e81 : a.tmps.getD 81 undef = .string (mkS si) := hs.dep 3 _ rfl rfl
            refine ValWp.pure (v := .string (mkS (120 :: 32 :: si))) (fun K' hK' => ?_) ⟨rfl, rfl⟩
            have hcs : ¬ 9223372036854775807 < 2 + (mkS si).size := by simp only [mkS_size]; omega
            have hcc : mkS (120 :: 32 :: si) = (⟨#[120, 32]⟩ : ByteArray) ++ mkS si := by rw [show (120 :: 32 :: si : L) = ([120, 32]) ++ (si) by simp]; exact (mkS_add _ _).symm
            rw [hcc] at hK'
            clear hcc
            simp only [ValWp, execOp, Act.eval, e81]
            go_simp
            all_goals exact hK'
          · -- 5: slot 83 := Op.binOp BinOp.add 9 t82 (const (Value.string { data := #[32, 40, 121, 32] })) 9
            refine OwesS.q rfl fun a w j u hC hb hs => ⟨rfl, ?_⟩
            have e82 : a.tmps.getD 82 undef = .string (mkS (120 :: 32 :: si)) := hs.dep 4 _ rfl rfl
            refine ValWp.pure (v := .string (mkS (120 :: 32 :: (si ++ [32, 40, 121, 32])))) (fun K' hK' => ?_) ⟨rfl, rfl⟩
            have hcs : ¬ 9223372036854775807 < (mkS (120 :: 32 :: si)).size + 4 := by simp only [mkS_size, List.length_cons]; omega
            have hcc : mkS (120 :: 32 :: (si ++ [32, 40, 121, 32])) = mkS (120 :: 32 :: si) ++ (⟨#[32, 40, 121, 32]⟩ : ByteArray) := by rw [show (120 :: 32 :: (si ++ [32, 40, 121, 32]) : L) = (120 :: 32 :: si) ++ ([32, 40, 121, 32]) by simp]; exact (mkS_add _ _).symm
            rw [hcc] at hK'
            clear hcc
            simp only [ValWp, execOp, Act.eval, e82]
            go_simp
            all_goals exact hK'
          · -- 6: slot 84 := Op.move t12
            refine OwesS.q rfl fun a w j u hC hb hs => ⟨rfl, ?_⟩
            have e12 : a.tmps.getD 12 undef = .slice (some ⟨w1.heap.size, 0, none⟩) 18 18 := hs.free 12 rfl
            refine ValWp.pure (v := .slice (some ⟨w1.heap.size, 0, none⟩) 18 18) (fun K' hK' => ?_) ⟨rfl, rfl⟩
            simp only [ValWp, execOp, Act.eval, e12]
            go_simp
            all_goals exact hK'
          · -- 7: slot 85 := Op.move t15
            refine OwesS.q rfl fun a w j u hC hb hs => ⟨rfl, ?_⟩
            have e15 : a.tmps.getD 15 undef = .int .i64 (kk : Int) := hs.free 15 rfl
            refine ValWp.pure (v := .int .i64 (kk : Int)) (fun K' hK' => ?_) ⟨rfl, rfl⟩
            simp only [ValWp, execOp, Act.eval, e15]
            go_simp
            all_goals exact hK'
          · -- 8: slot 86 := Op.indexAddr 31 t84 t85
            refine OwesS.q rfl fun a w j u hC hb hs => ⟨rfl, ?_⟩
            have e84 : a.tmps.getD 84 undef = .slice (some ⟨w1.heap.size, 0, none⟩) 18 18 := hs.dep 6 _ rfl rfl
            have e85 : a.tmps.getD 85 undef = .int .i64 (kk : Int) := hs.dep 7 _ rfl rfl
            refine ValWp.pure (v := .pointer (some ⟨w1.heap.size, kk, none⟩)) (fun K' hK' => ?_) ⟨rfl, rfl⟩
            simp only [ValWp, execOp, Act.eval, e84, e85]
            go_simp
            all_goals exact hK'
          · -- 9: slot 87 := Op.load 9 t86
            refine OwesS.q rfl fun a w j u hC hb hs => ⟨rfl, ?_⟩
            have e86 : a.tmps.getD 86 undef = .pointer (some ⟨w1.heap.size, kk, none⟩) := hs.dep 8 _ rfl rfl
            have q1 := cell_later hC.out HC.out.c2
            refine ValWp.pure (v := .string (mkS sk)) (fun K' hK' => ?_) ⟨rfl, rfl⟩
            simp only [ValWp, execOp, Act.eval, e86]
            go_simp
            all_goals exact hK'
          · -- 10: slot 88 := Op.binOp BinOp.add 9 t83 t87 9
            refine OwesS.q rfl fun a w j u hC hb hs => ⟨rfl, ?_⟩
            have e83 : a.tmps.getD 83 undef = .string (mkS (120 :: 32 :: (si ++ [32, 40, 121, 32]))) := hs.dep 5 _ rfl rfl
            have e87 : a.tmps.getD 87 undef = .string (mkS sk) := hs.dep 9 _ rfl rfl
            refine ValWp.pure (v := .string (mkS (120 :: 32 :: (si ++ 32 :: 40 :: 121 :: 32 :: sk)))) (fun K' hK' => ?_) ⟨rfl, rfl⟩
            have hcs : ¬ 9223372036854775807 < (mkS (120 :: 32 :: (si ++ [32, 40, 121, 32]))).size + (mkS sk).size := by simp only [mkS_size, List.length_cons, List.length_append, List.length_nil]; omega
            have hcc : mkS (120 :: 32 :: (si ++ 32 :: 40 :: 121 :: 32 :: sk)) = mkS (120 :: 32 :: (si ++ [32, 40, 121, 32])) ++ mkS sk := by rw [show (120 :: 32 :: (si ++ 32 :: 40 :: 121 :: 32 :: sk) : L) = (120 :: 32 :: (si ++ [32, 40, 121, 32])) ++ (sk) by simp]; exact (mkS_add _ _).symm
            rw [hcc] at hK'
            clear hcc
            simp only [ValWp, execOp, Act.eval, e83, e87]
            go_simp
            all_goals exact hK'
          · -- 11: slot 89 := Op.binOp BinOp.add 9 t88 (const (Value.string { data := #[32, 122, 41] })) 9
            refine OwesS.q rfl fun a w j u hC hb hs => ⟨rfl, ?_⟩
            have e88 : a.tmps.getD 88 undef = .string (mkS (120 :: 32 :: (si ++ 32 :: 40 :: 121 :: 32 :: sk))) := hs.dep 10 _ rfl rfl
            refine ValWp.pure (v := .string (mkS (120 :: 32 :: (si ++ 32 :: 40 :: 121 :: 32 :: (sk ++ [32, 122, 41]))))) (fun K' hK' => ?_) ⟨rfl, rfl⟩
            have hcs : ¬ 9223372036854775807 < (mkS (120 :: 32 :: (si ++ 32 :: 40 :: 121 :: 32 :: sk))).size + 3 := by simp only [mkS_size, List.length_cons, List.length_append]; omega
            have hcc : mkS (120 :: 32 :: (si ++ 32 :: 40 :: 121 :: 32 :: (sk ++ [32, 122, 41]))) = mkS (120 :: 32 :: (si ++ 32 :: 40 :: 121 :: 32 :: sk)) ++ (⟨#[32, 122, 41]⟩ : ByteArray) := by rw [show (120 :: 32 :: (si ++ 32 :: 40 :: 121 :: 32 :: (sk ++ [32, 122, 41])) : L) = (120 :: 32 :: (si ++ 32 :: 40 :: 121 :: 32 :: sk)) ++ ([32, 122, 41]) by simp]; exact (mkS_add _ _).symm
            rw [hcc] at hK'
            clear hcc
            simp only [ValWp, execOp, Act.eval, e88]
            go_simp
            all_goals exact hK'
          · -- 12: slot 17 := Op.assign t89
            refine OwesS.q rfl fun a w j u hC hb hs => ⟨rfl, ?_⟩
            have e89 : a.tmps.getD 89 undef = .string (mkS (120 :: 32 :: (si ++ 32 :: 40 :: 121 :: 32 :: (sk ++ [32, 122, 41])))) := hs.dep 11 _ rfl rfl
            refine ValWp.pure (v := .string (mkS (120 :: 32 :: (si ++ 32 :: 40 :: 121 :: 32 :: (sk ++ [32, 122, 41]))))) (fun K' hK' => ?_) ⟨rfl, rfl⟩
            simp only [ValWp, execOp, Act.eval, e89]
            go_simp
            all_goals exact hK'
        · intro a w u hC hl hd hsz hfree hs
          obtain ⟨u0, hu0⟩ : ∃ u, u = a.tmps.getD 0 undef := ⟨_, rfl⟩
          obtain ⟨u1, hu1⟩ : ∃ u, u = a.tmps.getD 1 undef := ⟨_, rfl⟩
          obtain ⟨u2, hu2⟩ : ∃ u, u = a.tmps.getD 2 undef := ⟨_, rfl⟩
          obtain ⟨u3, hu3⟩ : ∃ u, u = a.tmps.getD 3 undef := ⟨_, rfl⟩
          obtain ⟨u4, hu4⟩ : ∃ u, u = a.tmps.getD 4 undef := ⟨_, rfl⟩
          obtain ⟨u5, hu5⟩ : ∃ u, u = a.tmps.getD 5 undef := ⟨_, rfl⟩
          obtain ⟨u6, hu6⟩ : ∃ u, u = a.tmps.getD 6 undef := ⟨_, rfl⟩
          obtain ⟨u7, hu7⟩ : ∃ u, u = a.tmps.getD 7 undef := ⟨_, rfl⟩
          obtain ⟨u8, hu8⟩ : ∃ u, u = a.tmps.getD 8 undef := ⟨_, rfl⟩
          obtain ⟨u9, hu9⟩ : ∃ u, u = a.tmps.getD 9 undef := ⟨_, rfl⟩
          obtain ⟨u11, hu11⟩ : ∃ u, u = a.tmps.getD 11 undef := ⟨_, rfl⟩
          obtain ⟨u18, hu18⟩ : ∃ u, u = a.tmps.getD 18 undef := ⟨_, rfl⟩
          obtain ⟨u19, hu19⟩ : ∃ u, u = a.tmps.getD 19 undef := ⟨_, rfl⟩
          obtain ⟨u20, hu20⟩ : ∃ u, u = a.tmps.getD 20 undef := ⟨_, rfl⟩
          obtain ⟨u21, hu21⟩ : ∃ u, u = a.tmps.getD 21 undef := ⟨_, rfl⟩
          obtain ⟨u22, hu22⟩ : ∃ u, u = a.tmps.getD 22 undef := ⟨_, rfl⟩
          obtain ⟨u23, hu23⟩ : ∃ u, u = a.tmps.getD 23 undef := ⟨_, rfl⟩
          obtain ⟨u24, hu24⟩ : ∃ u, u = a.tmps.getD 24 undef := ⟨_, rfl⟩
          obtain ⟨u25, hu25⟩ : ∃ u, u = a.tmps.getD 25 undef := ⟨_, rfl⟩
          obtain ⟨u26, hu26⟩ : ∃ u, u = a.tmps.getD 26 undef := ⟨_, rfl⟩
          obtain ⟨u27, hu27⟩ : ∃ u, u = a.tmps.getD 27 undef := ⟨_, rfl⟩
          obtain ⟨u28, hu28⟩ : ∃ u, u = a.tmps.getD 28 undef := ⟨_, rfl⟩
          obtain ⟨u29, hu29⟩ : ∃ u, u = a.tmps.getD 29 undef := ⟨_, rfl⟩
          obtain ⟨u30, hu30⟩ : ∃ u, u = a.tmps.getD 30 undef := ⟨_, rfl⟩
          obtain ⟨u31, hu31⟩ : ∃ u, u = a.tmps.getD 31 undef := ⟨_, rfl⟩
          obtain ⟨u32, hu32⟩ : ∃ u, u = a.tmps.getD 32 undef := ⟨_, rfl⟩
          obtain ⟨u33, hu33⟩ : ∃ u, u = a.tmps.getD 33 undef := ⟨_, rfl⟩
          obtain ⟨u34, hu34⟩ : ∃ u, u = a.tmps.getD 34 undef := ⟨_, rfl⟩
          obtain ⟨u35, hu35⟩ : ∃ u, u = a.tmps.getD 35 undef := ⟨_, rfl⟩
          obtain ⟨u36, hu36⟩ : ∃ u, u = a.tmps.getD 36 undef := ⟨_, rfl⟩
          obtain ⟨u37, hu37⟩ : ∃ u, u = a.tmps.getD 37 undef := ⟨_, rfl⟩
          obtain ⟨u38, hu38⟩ : ∃ u, u = a.tmps.getD 38 undef := ⟨_, rfl⟩
          obtain ⟨u39, hu39⟩ : ∃ u, u = a.tmps.getD 39 undef := ⟨_, rfl⟩
          obtain ⟨u40, hu40⟩ : ∃ u, u = a.tmps.getD 40 undef := ⟨_, rfl⟩
          obtain ⟨u41, hu41⟩ : ∃ u, u = a.tmps.getD 41 undef := ⟨_, rfl⟩
          obtain ⟨u42, hu42⟩ : ∃ u, u = a.tmps.getD 42 undef := ⟨_, rfl⟩
          obtain ⟨u43, hu43⟩ : ∃ u, u = a.tmps.getD 43 undef := ⟨_, rfl⟩
          obtain ⟨u44, hu44⟩ : ∃ u, u = a.tmps.getD 44 undef := ⟨_, rfl⟩
          obtain ⟨u45, hu45⟩ : ∃ u, u = a.tmps.getD 45 undef := ⟨_, rfl⟩
          obtain ⟨u46, hu46⟩ : ∃ u, u = a.tmps.getD 46 undef := ⟨_, rfl⟩
          obtain ⟨u47, hu47⟩ : ∃ u, u = a.tmps.getD 47 undef := ⟨_, rfl⟩
          obtain ⟨u48, hu48⟩ : ∃ u, u = a.tmps.getD 48 undef := ⟨_, rfl⟩
          obtain ⟨u49, hu49⟩ : ∃ u, u = a.tmps.getD 49 undef := ⟨_, rfl⟩
          obtain ⟨u50, hu50⟩ : ∃ u, u = a.tmps.getD 50 undef := ⟨_, rfl⟩
          obtain ⟨u51, hu51⟩ : ∃ u, u = a.tmps.getD 51 undef := ⟨_, rfl⟩
          obtain ⟨u52, hu52⟩ : ∃ u, u = a.tmps.getD 52 undef := ⟨_, rfl⟩
          obtain ⟨u53, hu53⟩ : ∃ u, u = a.tmps.getD 53 undef := ⟨_, rfl⟩
          obtain ⟨u54, hu54⟩ : ∃ u, u = a.tmps.getD 54 undef := ⟨_, rfl⟩
          obtain ⟨u55, hu55⟩ : ∃ u, u = a.tmps.getD 55 undef := ⟨_, rfl⟩
          obtain ⟨u56, hu56⟩ : ∃ u, u = a.tmps.getD 56 undef := ⟨_, rfl⟩
          obtain ⟨u57, hu57⟩ : ∃ u, u = a.tmps.getD 57 undef := ⟨_, rfl⟩
          obtain ⟨u58, hu58⟩ : ∃ u, u = a.tmps.getD 58 undef := ⟨_, rfl⟩
          obtain ⟨u59, hu59⟩ : ∃ u, u = a.tmps.getD 59 undef := ⟨_, rfl⟩
          obtain ⟨u60, hu60⟩ : ∃ u, u = a.tmps.getD 60 undef := ⟨_, rfl⟩
          obtain ⟨u61, hu61⟩ : ∃ u, u = a.tmps.getD 61 undef := ⟨_, rfl⟩
          obtain ⟨u62, hu62⟩ : ∃ u, u = a.tmps.getD 62 undef := ⟨_, rfl⟩
          obtain ⟨u63, hu63⟩ : ∃ u, u = a.tmps.getD 63 undef := ⟨_, rfl⟩
          obtain ⟨u64, hu64⟩ : ∃ u, u = a.tmps.getD 64 undef := ⟨_, rfl⟩
          obtain ⟨u65, hu65⟩ : ∃ u, u = a.tmps.getD 65 undef := ⟨_, rfl⟩
          obtain ⟨u66, hu66⟩ : ∃ u, u = a.tmps.getD 66 undef := ⟨_, rfl⟩
          obtain ⟨u67, hu67⟩ : ∃ u, u = a.tmps.getD 67 undef := ⟨_, rfl⟩
          obtain ⟨u68, hu68⟩ : ∃ u, u = a.tmps.getD 68 undef := ⟨_, rfl⟩
          obtain ⟨u69, hu69⟩ : ∃ u, u = a.tmps.getD 69 undef := ⟨_, rfl⟩
          obtain ⟨u70, hu70⟩ : ∃ u, u = a.tmps.getD 70 undef := ⟨_, rfl⟩
          obtain ⟨u71, hu71⟩ : ∃ u, u = a.tmps.getD 71 undef := ⟨_, rfl⟩
          obtain ⟨u72, hu72⟩ : ∃ u, u = a.tmps.getD 72 undef := ⟨_, rfl⟩
          obtain ⟨u73, hu73⟩ : ∃ u, u = a.tmps.getD 73 undef := ⟨_, rfl⟩
          obtain ⟨u74, hu74⟩ : ∃ u, u = a.tmps.getD 74 undef := ⟨_, rfl⟩
          obtain ⟨u75, hu75⟩ : ∃ u, u = a.tmps.getD 75 undef := ⟨_, rfl⟩
          obtain ⟨u76, hu76⟩ : ∃ u, u = a.tmps.getD 76 undef := ⟨_, rfl⟩
          obtain ⟨u77, hu77⟩ : ∃ u, u = a.tmps.getD 77 undef := ⟨_, rfl⟩
          obtain ⟨u78, hu78⟩ : ∃ u, u = a.tmps.getD 78 undef := ⟨_, rfl⟩
          obtain ⟨u79, hu79⟩ : ∃ u, u = a.tmps.getD 79 undef := ⟨_, rfl⟩
          obtain ⟨u80, hu80⟩ : ∃ u, u = a.tmps.getD 80 undef := ⟨_, rfl⟩
          obtain ⟨u81, hu81⟩ : ∃ u, u = a.tmps.getD 81 undef := ⟨_, rfl⟩
          obtain ⟨u82, hu82⟩ : ∃ u, u = a.tmps.getD 82 undef := ⟨_, rfl⟩
          obtain ⟨u83, hu83⟩ : ∃ u, u = a.tmps.getD 83 undef := ⟨_, rfl⟩
          obtain ⟨u84, hu84⟩ : ∃ u, u = a.tmps.getD 84 undef := ⟨_, rfl⟩
          obtain ⟨u85, hu85⟩ : ∃ u, u = a.tmps.getD 85 undef := ⟨_, rfl⟩
          obtain ⟨u86, hu86⟩ : ∃ u, u = a.tmps.getD 86 undef := ⟨_, rfl⟩
          obtain ⟨u87, hu87⟩ : ∃ u, u = a.tmps.getD 87 undef := ⟨_, rfl⟩
          obtain ⟨u88, hu88⟩ : ∃ u, u = a.tmps.getD 88 undef := ⟨_, rfl⟩
          obtain ⟨u89, hu89⟩ : ∃ u, u = a.tmps.getD 89 undef := ⟨_, rfl⟩
          obtain ⟨u90, hu90⟩ : ∃ u, u = a.tmps.getD 90 undef := ⟨_, rfl⟩
          obtain ⟨u91, hu91⟩ : ∃ u, u = a.tmps.getD 91 undef := ⟨_, rfl⟩
          obtain ⟨u92, hu92⟩ : ∃ u, u = a.tmps.getD 92 undef := ⟨_, rfl⟩
          obtain ⟨u93, hu93⟩ : ∃ u, u = a.tmps.getD 93 undef := ⟨_, rfl⟩
          obtain ⟨u94, hu94⟩ : ∃ u, u = a.tmps.getD 94 undef := ⟨_, rfl⟩
          obtain ⟨u95, hu95⟩ : ∃ u, u = a.tmps.getD 95 undef := ⟨_, rfl⟩
          obtain ⟨u96, hu96⟩ : ∃ u, u = a.tmps.getD 96 undef := ⟨_, rfl⟩
          obtain ⟨u97, hu97⟩ : ∃ u, u = a.tmps.getD 97 undef := ⟨_, rfl⟩
          obtain ⟨u98, hu98⟩ : ∃ u, u = a.tmps.getD 98 undef := ⟨_, rfl⟩
          obtain ⟨u99, hu99⟩ : ∃ u, u = a.tmps.getD 99 undef := ⟨_, rfl⟩
          obtain ⟨u100, hu100⟩ : ∃ u, u = a.tmps.getD 100 undef := ⟨_, rfl⟩
          obtain ⟨u101, hu101⟩ : ∃ u, u = a.tmps.getD 101 undef := ⟨_, rfl⟩
          obtain ⟨u102, hu102⟩ : ∃ u, u = a.tmps.getD 102 undef := ⟨_, rfl⟩
          obtain ⟨u103, hu103⟩ : ∃ u, u = a.tmps.getD 103 undef := ⟨_, rfl⟩
          obtain ⟨u104, hu104⟩ : ∃ u, u = a.tmps.getD 104 undef := ⟨_, rfl⟩
          obtain ⟨u105, hu105⟩ : ∃ u, u = a.tmps.getD 105 undef := ⟨_, rfl⟩
          obtain ⟨u106, hu106⟩ : ∃ u, u = a.tmps.getD 106 undef := ⟨_, rfl⟩
          obtain ⟨u107, hu107⟩ : ∃ u, u = a.tmps.getD 107 undef := ⟨_, rfl⟩
          obtain ⟨u108, hu108⟩ : ∃ u, u = a.tmps.getD 108 undef := ⟨_, rfl⟩
          obtain ⟨u109, hu109⟩ : ∃ u, u = a.tmps.getD 109 undef := ⟨_, rfl⟩
          obtain ⟨u110, hu110⟩ : ∃ u, u = a.tmps.getD 110 undef := ⟨_, rfl⟩
          obtain ⟨u111, hu111⟩ : ∃ u, u = a.tmps.getD 111 undef := ⟨_, rfl⟩
          obtain ⟨u112, hu112⟩ : ∃ u, u = a.tmps.getD 112 undef := ⟨_, rfl⟩
          obtain ⟨u113, hu113⟩ : ∃ u, u = a.tmps.getD 113 undef := ⟨_, rfl⟩
          obtain ⟨u114, hu114⟩ : ∃ u, u = a.tmps.getD 114 undef := ⟨_, rfl⟩
          obtain ⟨u115, hu115⟩ : ∃ u, u = a.tmps.getD 115 undef := ⟨_, rfl⟩
          obtain ⟨u116, hu116⟩ : ∃ u, u = a.tmps.getD 116 undef := ⟨_, rfl⟩
          obtain ⟨u117, hu117⟩ : ∃ u, u = a.tmps.getD 117 undef := ⟨_, rfl⟩
          obtain ⟨u118, hu118⟩ : ∃ u, u = a.tmps.getD 118 undef := ⟨_, rfl⟩
          obtain ⟨u119, hu119⟩ : ∃ u, u = a.tmps.getD 119 undef := ⟨_, rfl⟩
          obtain ⟨u120, hu120⟩ : ∃ u, u = a.tmps.getD 120 undef := ⟨_, rfl⟩
          obtain ⟨u121, hu121⟩ : ∃ u, u = a.tmps.getD 121 undef := ⟨_, rfl⟩
          obtain ⟨u122, hu122⟩ : ∃ u, u = a.tmps.getD 122 undef := ⟨_, rfl⟩
          obtain ⟨u123, hu123⟩ : ∃ u, u = a.tmps.getD 123 undef := ⟨_, rfl⟩
          obtain ⟨u124, hu124⟩ : ∃ u, u = a.tmps.getD 124 undef := ⟨_, rfl⟩
          obtain ⟨u125, hu125⟩ : ∃ u, u = a.tmps.getD 125 undef := ⟨_, rfl⟩
          obtain ⟨u126, hu126⟩ : ∃ u, u = a.tmps.getD 126 undef := ⟨_, rfl⟩
          obtain ⟨u127, hu127⟩ : ∃ u, u = a.tmps.getD 127 undef := ⟨_, rfl⟩
          obtain ⟨u128, hu128⟩ : ∃ u, u = a.tmps.getD 128 undef := ⟨_, rfl⟩
          have hal : AllAt a 0 [u0, u1, u2, u3, u4, u5, u6, u7, u8, u9, .bool false, u11, .slice (some ⟨w1.heap.size, 0, none⟩) 18 18, .slice (some ⟨w1.heap.size + 1, 0, none⟩) 18 18, .int .i64 (ii : Int), .int .i64 (kk : Int), .slice (some ⟨w4.heap.size, 0, none⟩) 3 3, .string (mkS (120 :: 32 :: (si ++ 32 :: 40 :: 121 :: 32 :: (sk ++ [32, 122, 41])))), u18, u19, u20, u21, u22, u23, u24, u25, u26, u27, u28, u29, u30, u31, u32, u33, u34, u35, u36, u37, u38, u39, u40, u41, u42, u43, u44, u45, u46, u47, u48, u49, u50, u51, u52, u53, u54, u55, u56, u57, u58, u59, u60, u61, u62, u63, u64, u65, u66, u67, u68, u69, u70, u71, u72, u73, u74, u75, u76, u77, u78, u79, u80, u81, u82, u83, u84, u85, u86, u87, u88, u89, u90, u91, u92, u93, u94, u95, u96, u97, u98, u99, u100, u101, u102, u103, u104, u105, u106, u107, u108, u109, u110, u111, u112, u113, u114, u115, u116, u117, u118, u119, u120, u121, u122, u123, u124, u125, u126, u127, u128] := ⟨hu0.symm, hu1.symm, hu2.symm, hu3.symm, hu4.symm, hu5.symm, hu6.symm, hu7.symm, hu8.symm, hu9.symm, hfree 10 rfl, hu11.symm, hfree 12 rfl, hfree 13 rfl, hfree 14 rfl, hfree 15 rfl, hfree 16 rfl, hs 12 _ rfl, hu18.symm, hu19.symm, hu20.symm, hu21.symm, hu22.symm, hu23.symm, hu24.symm, hu25.symm, hu26.symm, hu27.symm, hu28.symm, hu29.symm, hu30.symm, hu31.symm, hu32.symm, hu33.symm, hu34.symm, hu35.symm, hu36.symm, hu37.symm, hu38.symm, hu39.symm, hu40.symm, hu41.symm, hu42.symm, hu43.symm, hu44.symm, hu45.symm, hu46.symm, hu47.symm, hu48.symm, hu49.symm, hu50.symm, hu51.symm, hu52.symm, hu53.symm, hu54.symm, hu55.symm, hu56.symm, hu57.symm, hu58.symm, hu59.symm, hu60.symm, hu61.symm, hu62.symm, hu63.symm, hu64.symm, hu65.symm, hu66.symm, hu67.symm, hu68.symm, hu69.symm, hu70.symm, hu71.symm, hu72.symm, hu73.symm, hu74.symm, hu75.symm, hu76.symm, hu77.symm, hu78.symm, hu79.symm, hu80.symm, hu81.symm, hu82.symm, hu83.symm, hu84.symm, hu85.symm, hu86.symm, hu87.symm, hu88.symm, hu89.symm, hu90.symm, hu91.symm, hu92.symm, hu93.symm, hu94.symm, hu95.symm, hu96.symm, hu97.symm, hu98.symm, hu99.symm, hu100.symm, hu101.symm, hu102.symm, hu103.symm, hu104.symm, hu105.symm, hu106.symm, hu107.symm, hu108.symm, hu109.symm, hu110.symm, hu111.symm, hu112.symm, hu113.symm, hu114.symm, hu115.symm, hu116.symm, hu117.symm, hu118.symm, hu119.symm, hu120.symm, hu121.symm, hu122.symm, hu123.symm, hu124.symm, hu125.symm, hu126.symm, hu127.symm, hu128.symm, trivial⟩
          have hlit := fun h => act_lit hd h hal
          rw [hlit hsz]
          clear hlit hal hd hsz hfree hs hu0 hu1 hu2 hu3 hu4 hu5 hu6 hu7 hu8 hu9 hu11 hu18 hu19 hu20 hu21 hu22 hu23 hu24 hu25 hu26 hu27 hu28 hu29 hu30 hu31 hu32 hu33 hu34 hu35 hu36 hu37 hu38 hu39 hu40 hu41 hu42 hu43 hu44 hu45 hu46 hu47 hu48 hu49 hu50 hu51 hu52 hu53 hu54 hu55 hu56 hu57 hu58 hu59 hu60 hu61 hu62 hu63 hu64 hu65 hu66 hu67 hu68 hu69 hu70 hu71 hu72 hu73 hu74 hu75 hu76 hu77 hu78 hu79 hu80 hu81 hu82 hu83 hu84 hu85 hu86 hu87 hu88 hu89 hu90 hu91 hu92 hu93 hu94 hu95 hu96 hu97 hu98 hu99 hu100 hu101 hu102 hu103 hu104 hu105 hu106 hu107 hu108 hu109 hu110 hu111 hu112 hu113 hu114 hu115 hu116 hu117 hu118 hu119 hu120 hu121 hu122 hu123 hu124 hu125 hu126 hu127 hu128
          clear hl
          obtain ⟨w8, hw8⟩ : ∃ u, u = w := ⟨_, rfl⟩
          rw [← hw8] at hC ⊢
          clear hw8
          have HLW := Lib.hid (HLW.out.trans hC.out)
          have HC := Lib.hid (HC.out.later hC.out)
          have HEV := Lib.hid (HEV.out.later hC.out)
          have HER := Lib.hid (HER.out.later hC.out)
          clear hC
          go_wp2_with (fail)
          refine wp_region_seq (by kernel_rfl) [13] (fun _ _ w => Hid (Later w8 w)) [some (.slice (some ⟨w1.heap.size, 0, none⟩) 18 18), some (.int .i64 (ii : Int)), some (.pointer (some ⟨w1.heap.size, ii, none⟩)), some (.string (mkS si)), some (.string (mkS (120 :: 32 :: si))), some (.string (mkS (120 :: 32 :: (si ++ [9, 121, 10])))), some (.slice (some ⟨w1.heap.size, 0, none⟩) 18 18), some (.int .i64 (kk : Int)), some (.pointer (some ⟨w1.heap.size, kk, none⟩)), some (.string (mkS sk)), some (.string (mkS (120 :: 32 :: (si ++ 9 :: 121 :: 10 :: sk)))), some (.string (mkS (120 :: 32 :: (si ++ 9 :: 121 :: 10 :: (sk ++ [32, 122]))))), some (.slice (some ⟨w4.heap.size, 0, none⟩) 3 3), some (.tuple #[.int .i64 n, .int .i64 fi]), some (.tuple #[.int .i64 n, .int .i64 fi]), some (.int .i64 n), some (.int .i64 fi), some (.int .i64 n), some (.int .i64 fi)] (by decide) (by decide) (by kernel_rfl) (by kernel_rfl) (Lib.hid (Later.drew _)) ?_ ?_
          · refine ⟨?_, ?_, ?_, ?_, ?_, ?_, ?_, ?_, ?_, ?_, ?_, ?_, ?_, ?_, ?_, ?_, ?_, ?_, ?_, trivial⟩
            · -- 0: slot 91 := Op.move t12
              refine OwesS.q rfl fun a w j u hC hb hs => ⟨rfl, ?_⟩
              have e12 : a.tmps.getD 12 undef = .slice (some ⟨w1.heap.size, 0, none⟩) 18 18 := hs.free 12 rfl
              refine ValWp.pure (v := .slice (some ⟨w1.heap.size, 0, none⟩) 18 18) (fun K' hK' => ?_) ⟨rfl, rfl⟩
              simp only [ValWp, execOp, Act.eval, e12]
              go_simp
              all_goals exact hK'
            · -- 1: slot 92 := Op.move t14
              refine OwesS.q rfl fun a w j u hC hb hs => ⟨rfl, ?_⟩
              have e14 : a.tmps.getD 14 undef = .int .i64 (ii : Int) := hs.free 14 rfl
              refine ValWp.pure (v := .int .i64 (ii : Int)) (fun K' hK' => ?_) ⟨rfl, rfl⟩
              simp only [ValWp, execOp, Act.eval, e14]
              go_simp
              all_goals exact hK'
            · -- 2: slot 93 := Op.indexAddr 31 t91 t92
              refine OwesS.q rfl fun a w j u hC hb hs => ⟨rfl, ?_⟩
              have e91 : a.tmps.getD 91 undef = .slice (some ⟨w1.heap.size, 0, none⟩) 18 18 := hs.dep 0 _ rfl rfl
              have e92 : a.tmps.getD 92 undef = .int .i64 (ii : Int) := hs.dep 1 _ rfl rfl
              refine ValWp.pure (v := .pointer (some ⟨w1.heap.size, ii, none⟩)) (fun K' hK' => ?_) ⟨rfl, rfl⟩
              simp only [ValWp, execOp, Act.eval, e91, e92]
              go_simp
              all_goals exact hK'
            · -- 3: slot 94 := Op.load 9 t93
              refine OwesS.q rfl fun a w j u hC hb hs => ⟨rfl, ?_⟩
              have e93 : a.tmps.getD 93 undef = .pointer (some ⟨w1.heap.size, ii, none⟩) := hs.dep 2 _ rfl rfl
              have q1 := cell_later hC.out HC.out.c1
              refine ValWp.pure (v := .string (mkS si)) (fun K' hK' => ?_) ⟨rfl, rfl⟩
              simp only [ValWp, execOp, Act.eval, e93]
              go_simp
              all_goals exact hK'
            · -- 4: slot 95 := Op.binOp BinOp.add 9 (const (Value.string { data := #[120, 32] })) t94 9
              refine OwesS.q rfl fun a w j u hC hb hs => ⟨rfl, ?_⟩
              have e94 : a.tmps.getD 94 undef = .string (mkS si) := hs.dep 3 _ rfl rfl
              refine ValWp.pure (v := .string (mkS (120 :: 32 :: si))) (fun K' hK' => ?_) ⟨rfl, rfl⟩
              have hcs : ¬ 9223372036854775807 < 2 + (mkS si).size := by simp only [mkS_size]; omega
              have hcc : mkS (120 :: 32 :: si) = (⟨#[120, 32]⟩ : ByteArray) ++ mkS si := by rw [show (120 :: 32 :: si : L) = ([120, 32]) ++ (si) by simp]; exact (mkS_add _ _).symm
              rw [hcc] at hK'
              clear hcc
              simp only [ValWp, execOp, Act.eval, e94]
              go_simp
              all_goals exact hK'
            · -- 5: slot 96 := Op.binOp BinOp.add 9 t95 (const (Value.string { data := #[9, 121, 10] })) 9
              refine OwesS.q rfl fun a w j u hC hb hs => ⟨rfl, ?_⟩
              have e95 : a.tmps.getD 95 undef = .string (mkS (120 :: 32 :: si)) := hs.dep 4 _ rfl rfl
              refine ValWp.pure (v := .string (mkS (120 :: 32 :: (si ++ [9, 121, 10])))) (fun K' hK' => ?_) ⟨rfl, rfl⟩
              have hcs : ¬ 9223372036854775807 < (mkS (120 :: 32 :: si)).size + 3 := by simp only [mkS_size, List.length_cons]; omega
              have hcc : mkS (120 :: 32 :: (si ++ [9, 121, 10])) = mkS (120 :: 32 :: si) ++ (⟨#[9, 121, 10]⟩ : ByteArray) := by rw [show (120 :: 32 :: (si ++ [9, 121, 10]) : L) = (120 :: 32 :: si) ++ ([9, 121, 10]) by simp]; exact (mkS_add _ _).symm
              rw [hcc] at hK'
              clear hcc
              simp only [ValWp, execOp, Act.eval, e95]
              go_simp
              all_goals exact hK'
            · -- 6: slot 97 := Op.move t12
              refine OwesS.q rfl fun a w j u hC hb hs => ⟨rfl, ?_⟩
              have e12 : a.tmps.getD 12 undef = .slice (some ⟨w1.heap.size, 0, none⟩) 18 18 := hs.free 12 rfl
              refine ValWp.pure (v := .slice (some ⟨w1.heap.size, 0, none⟩) 18 18) (fun K' hK' => ?_) ⟨rfl, rfl⟩
              simp only [ValWp, execOp, Act.eval, e12]
              go_simp
              all_goals exact hK'
            · -- 7: slot 98 := Op.move t15
              refine OwesS.q rfl fun a w j u hC hb hs => ⟨rfl, ?_⟩
              have e15 : a.tmps.getD 15 undef = .int .i64 (kk : Int) := hs.free 15 rfl
              refine ValWp.pure (v := .int .i64 (kk : Int)) (fun K' hK' => ?_) ⟨rfl, rfl⟩
              simp only [ValWp, execOp, Act.eval, e15]
              go_simp
              all_goals exact hK'
            · -- 8: slot 99 := Op.indexAddr 31 t97 t98
              refine OwesS.q rfl fun a w j u hC hb hs => ⟨rfl, ?_⟩
              have e97 : a.tmps.getD 97 undef = .slice (some ⟨w1.heap.size, 0, none⟩) 18 18 := hs.dep 6 _ rfl rfl
              have e98 : a.tmps.getD 98 undef = .int .i64 (kk : Int) := hs.dep 7 _ rfl rfl
              refine ValWp.pure (v := .pointer (some ⟨w1.heap.size, kk, none⟩)) (fun K' hK' => ?_) ⟨rfl, rfl⟩
              simp only [ValWp, execOp, Act.eval, e97, e98]
              go_simp
              all_goals exact hK'
            · -- 9: slot 100 := Op.load 9 t99
              refine OwesS.q rfl fun a w j u hC hb hs => ⟨rfl, ?_⟩
              have e99 : a.tmps.getD 99 undef = .pointer (some ⟨w1.heap.size, kk, none⟩) := hs.dep 8 _ rfl rfl
              have q1 := cell_later hC.out HC.out.c2
              refine ValWp.pure (v := .string (mkS sk)) (fun K' hK' => ?_) ⟨rfl, rfl⟩
              simp only [ValWp, execOp, Act.eval, e99]
              go_simp
              all_goals exact hK'
            · -- 10: slot 101 := Op.binOp BinOp.add 9 t96 t100 9
              refine OwesS.q rfl fun a w j u hC hb hs => ⟨rfl, ?_⟩
              have e96 : a.tmps.getD 96 undef = .string (mkS (120 :: 32 :: (si ++ [9, 121, 10]))) := hs.dep 5 _ rfl rfl
              have e100 : a.tmps.getD 100 undef = .string (mkS sk) := hs.dep 9 _ rfl rfl
              refine ValWp.pure (v := .string (mkS (120 :: 32 :: (si ++ 9 :: 121 :: 10 :: sk)))) (fun K' hK' => ?_) ⟨rfl, rfl⟩
              have hcs : ¬ 9223372036854775807 < (mkS (120 :: 32 :: (si ++ [9, 121, 10]))).size + (mkS sk).size := by simp only [mkS_size, List.length_cons, List.length_append, List.length_nil]; omega
              have hcc : mkS (120 :: 32 :: (si ++ 9 :: 121 :: 10 :: sk)) = mkS (120 :: 32 :: (si ++ [9, 121, 10])) ++ mkS sk := by rw [show (120 :: 32 :: (si ++ 9 :: 121 :: 10 :: sk) : L) = (120 :: 32 :: (si ++ [9, 121, 10])) ++ (sk) by simp]; exact (mkS_add _ _).symm
              rw [hcc] at hK'
              clear hcc
              simp only [ValWp, execOp, Act.eval, e96, e100]
              go_simp
              all_goals exact hK'
            · -- 11: slot 102 := Op.binOp BinOp.add 9 t101 (const (Value.string { data := #[32, 122] })) 9
              refine OwesS.q rfl fun a w j u hC hb hs => ⟨rfl, ?_⟩
              have e101 : a.tmps.getD 101 undef = .string (mkS (120 :: 32 :: (si ++ 9 :: 121 :: 10 :: sk))) := hs.dep 10 _ rfl rfl
              refine ValWp.pure (v := .string (mkS (120 :: 32 :: (si ++ 9 :: 121 :: 10 :: (sk ++ [32, 122]))))) (fun K' hK' => ?_) ⟨rfl, rfl⟩
              have hcs : ¬ 9223372036854775807 < (mkS (120 :: 32 :: (si ++ 9 :: 121 :: 10 :: sk))).size + 2 := by simp only [mkS_size, List.length_cons, List.length_append]; omega
              have hcc : mkS (120 :: 32 :: (si ++ 9 :: 121 :: 10 :: (sk ++ [32, 122]))) = mkS (120 :: 32 :: (si ++ 9 :: 121 :: 10 :: sk)) ++ (⟨#[32, 122]⟩ : ByteArray) := by rw [show (120 :: 32 :: (si ++ 9 :: 121 :: 10 :: (sk ++ [32, 122])) : L) = (120 :: 32 :: (si ++ 9 :: 121 :: 10 :: sk)) ++ ([32, 122]) by simp]; exact (mkS_add _ _).symm
              rw [hcc] at hK'
              clear hcc
              simp only [ValWp, execOp, Act.eval, e101]
              go_simp
              all_goals exact hK'
            · -- 12: slot 103 := Op.move t16
              refine OwesS.q rfl fun a w j u hC hb hs => ⟨rfl, ?_⟩
              have e16 : a.tmps.getD 16 undef = .slice (some ⟨w4.heap.size, 0, none⟩) 3 3 := hs.free 16 rfl
              refine ValWp.pure (v := .slice (some ⟨w4.heap.size, 0, none⟩) 3 3) (fun K' hK' => ?_) ⟨rfl, rfl⟩
              simp only [ValWp, execOp, Act.eval, e16]
              go_simp
              all_goals exact hK'
            · -- 13: slot 104 := Op.call { value (Operand.func 8), args := #[t102, t103], argTypes := #[9, 26] }
              refine OwesS.w rfl fun a w u hC hl hs => ⟨rfl, fun K hK => ?_⟩
              have e102 : a.tmps.getD 102 undef = .string (mkS (120 :: 32 :: (si ++ 9 :: 121 :: 10 :: (sk ++ [32, 122])))) := hs.dep 11 _ rfl rfl
              have e103 : a.tmps.getD 103 undef = .slice (some ⟨w4.heap.size, 0, none⟩) 3 3 := hs.dep 12 _ rfl rfl
              refine wp_of_val ?_
              refine ValWp.call #[.string (mkS (120 :: 32 :: (si ++ 9 :: 121 :: 10 :: (sk ++ [32, 122])))), .slice (some ⟨w4.heap.size, 0, none⟩) 3 3] rfl rfl Tryz.func8 rfl rfl (by simp only [List.map_toArray, List.map_cons, List.map_nil, Act.eval, e102, e103]) ?_
              refine (HEV.out w hC.out).mono ?_
              rintro e w' ⟨rfl, hl⟩
              exact ⟨_, rfl, hK _ _ rfl (Lib.hid (hC.out.trans hl))⟩
            · -- 14: slot 90 := Op.move t104
              refine OwesS.q rfl fun a w j u hC hb hs => ⟨rfl, ?_⟩
              have e104 : a.tmps.getD 104 undef = .tuple #[.int .i64 n, .int .i64 fi] := hs.dep 13 _ rfl rfl
              refine ValWp.pure (v := .tuple #[.int .i64 n, .int .i64 fi]) (fun K' hK' => ?_) ⟨rfl, rfl⟩
              simp only [ValWp, execOp, Act.eval, e104]
              go_simp
              all_goals exact hK'
            · -- 15: slot 105 := Op.extract t90 0
              refine OwesS.q rfl fun a w j u hC hb hs => ⟨rfl, ?_⟩
              have e90 : a.tmps.getD 90 undef = .tuple #[.int .i64 n, .int .i64 fi] := hs.dep 14 _ rfl rfl
              refine ValWp.pure (v := .int .i64 n) (fun K' hK' => ?_) ⟨rfl, rfl⟩
              simp only [ValWp, execOp, Act.eval, e90]
              go_simp
              all_goals exact hK'
            · -- 16: slot 106 := Op.extract t90 1
              refine OwesS.q rfl fun a w j u hC hb hs => ⟨rfl, ?_⟩
              have e90 : a.tmps.getD 90 undef = .tuple #[.int .i64 n, .int .i64 fi] := hs.dep 14 _ rfl rfl
              refine ValWp.pure (v := .int .i64 fi) (fun K' hK' => ?_) ⟨rfl, rfl⟩
              simp only [ValWp, execOp, Act.eval, e90]
              go_simp
              all_goals exact hK'
            · -- 17: slot 18 := Op.assign t105
              refine OwesS.q rfl fun a w j u hC hb hs => ⟨rfl, ?_⟩
              have e105 : a.tmps.getD 105 undef = .int .i64 n := hs.dep 15 _ rfl rfl
              refine ValWp.pure (v := .int .i64 n) (fun K' hK' => ?_) ⟨rfl, rfl⟩
              simp only [ValWp, execOp, Act.eval, e105]
              go_simp
              all_goals exact hK'
            · -- 18: slot 19 := Op.assign t106
              refine OwesS.q rfl fun a w j u hC hb hs => ⟨rfl, ?_⟩
              have e106 : a.tmps.getD 106 undef = .int .i64 fi := hs.dep 16 _ rfl rfl
              refine ValWp.pure (v := .int .i64 fi) (fun K' hK' => ?_) ⟨rfl, rfl⟩
              simp only [ValWp, execOp, Act.eval, e106]
              go_simp
              all_goals exact hK'
          · intro a w u hC hl hd hsz hfree hs
            obtain ⟨u0, hu0⟩ : ∃ u, u = a.tmps.getD 0 undef := ⟨_, rfl⟩
            obtain ⟨u1, hu1⟩ : ∃ u, u = a.tmps.getD 1 undef := ⟨_, rfl⟩
            obtain ⟨u2, hu2⟩ : ∃ u, u = a.tmps.getD 2 undef := ⟨_, rfl⟩
            obtain ⟨u3, hu3⟩ : ∃ u, u = a.tmps.getD 3 undef := ⟨_, rfl⟩
            obtain ⟨u4, hu4⟩ : ∃ u, u = a.tmps.getD 4 undef := ⟨_, rfl⟩
            obtain ⟨u5, hu5⟩ : ∃ u, u = a.tmps.getD 5 undef := ⟨_, rfl⟩
            obtain ⟨u6, hu6⟩ : ∃ u, u = a.tmps.getD 6 undef := ⟨_, rfl⟩
            obtain ⟨u7, hu7⟩ : ∃ u, u = a.tmps.getD 7 undef := ⟨_, rfl⟩
            obtain ⟨u8, hu8⟩ : ∃ u, u = a.tmps.getD 8 undef := ⟨_, rfl⟩
            obtain ⟨u9, hu9⟩ : ∃ u, u = a.tmps.getD 9 undef := ⟨_, rfl⟩
            obtain ⟨u11, hu11⟩ : ∃ u, u = a.tmps.getD 11 undef := ⟨_, rfl⟩
            obtain ⟨u20, hu20⟩ : ∃ u, u = a.tmps.getD 20 undef := ⟨_, rfl⟩
            obtain ⟨u21, hu21⟩ : ∃ u, u = a.tmps.getD 21 undef := ⟨_, rfl⟩
            obtain ⟨u22, hu22⟩ : ∃ u, u = a.tmps.getD 22 undef := ⟨_, rfl⟩
            obtain ⟨u23, hu23⟩ : ∃ u, u = a.tmps.getD 23 undef := ⟨_, rfl⟩
            obtain ⟨u24, hu24⟩ : ∃ u, u = a.tmps.getD 24 undef := ⟨_, rfl⟩
            obtain ⟨u25, hu25⟩ : ∃ u, u = a.tmps.getD 25 undef := ⟨_, rfl⟩
            obtain ⟨u26, hu26⟩ : ∃ u, u = a.tmps.getD 26 undef := ⟨_, rfl⟩
            obtain ⟨u27, hu27⟩ : ∃ u, u = a.tmps.getD 27 undef := ⟨_, rfl⟩
            obtain ⟨u28, hu28⟩ : ∃ u, u = a.tmps.getD 28 undef := ⟨_, rfl⟩
            obtain ⟨u29, hu29⟩ : ∃ u, u = a.tmps.getD 29 undef := ⟨_, rfl⟩
            obtain ⟨u30, hu30⟩ : ∃ u, u = a.tmps.getD 30 undef := ⟨_, rfl⟩
            obtain ⟨u31, hu31⟩ : ∃ u, u = a.tmps.getD 31 undef := ⟨_, rfl⟩
            obtain ⟨u32, hu32⟩ : ∃ u, u = a.tmps.getD 32 undef := ⟨_, rfl⟩
            obtain ⟨u33, hu33⟩ : ∃ u, u = a.tmps.getD 33 undef := ⟨_, rfl⟩
            obtain ⟨u34, hu34⟩ : ∃ u, u = a.tmps.getD 34 undef := ⟨_, rfl⟩
            obtain ⟨u35, hu35⟩ : ∃ u, u = a.tmps.getD 35 undef := ⟨_, rfl⟩
            obtain ⟨u36, hu36⟩ : ∃ u, u = a.tmps.getD 36 undef := ⟨_, rfl⟩
            obtain ⟨u37, hu37⟩ : ∃ u, u = a.tmps.getD 37 undef := ⟨_, rfl⟩
            obtain ⟨u38, hu38⟩ : ∃ u, u = a.tmps.getD 38 undef := ⟨_, rfl⟩
            obtain ⟨u39, hu39⟩ : ∃ u, u = a.tmps.getD 39 undef := ⟨_, rfl⟩
            obtain ⟨u40, hu40⟩ : ∃ u, u = a.tmps.getD 40 undef := ⟨_, rfl⟩
            obtain ⟨u41, hu41⟩ : ∃ u, u = a.tmps.getD 41 undef := ⟨_, rfl⟩
            obtain ⟨u42, hu42⟩ : ∃ u, u = a.tmps.getD 42 undef := ⟨_, rfl⟩
            obtain ⟨u43, hu43⟩ : ∃ u, u = a.tmps.getD 43 undef := ⟨_, rfl⟩
            obtain ⟨u44, hu44⟩ : ∃ u, u = a.tmps.getD 44 undef := ⟨_, rfl⟩
            obtain ⟨u45, hu45⟩ : ∃ u, u = a.tmps.getD 45 undef := ⟨_, rfl⟩
            obtain ⟨u46, hu46⟩ : ∃ u, u = a.tmps.getD 46 undef := ⟨_, rfl⟩
            obtain ⟨u47, hu47⟩ : ∃ u, u = a.tmps.getD 47 undef := ⟨_, rfl⟩
            obtain ⟨u48, hu48⟩ : ∃ u, u = a.tmps.getD 48 undef := ⟨_, rfl⟩
            obtain ⟨u49, hu49⟩ : ∃ u, u = a.tmps.getD 49 undef := ⟨_, rfl⟩
            obtain ⟨u50, hu50⟩ : ∃ u, u = a.tmps.getD 50 undef := ⟨_, rfl⟩
            obtain ⟨u51, hu51⟩ : ∃ u, u = a.tmps.getD 51 undef := ⟨_, rfl⟩
            obtain ⟨u52, hu52⟩ : ∃ u, u = a.tmps.getD 52 undef := ⟨_, rfl⟩
            obtain ⟨u53, hu53⟩ : ∃ u, u = a.tmps.getD 53 undef := ⟨_, rfl⟩
            obtain ⟨u54, hu54⟩ : ∃ u, u = a.tmps.getD 54 undef := ⟨_, rfl⟩
            obtain ⟨u55, hu55⟩ : ∃ u, u = a.tmps.getD 55 undef := ⟨_, rfl⟩
            obtain ⟨u56, hu56⟩ : ∃ u, u = a.tmps.getD 56 undef := ⟨_, rfl⟩
            obtain ⟨u57, hu57⟩ : ∃ u, u = a.tmps.getD 57 undef := ⟨_, rfl⟩
            obtain ⟨u58, hu58⟩ : ∃ u, u = a.tmps.getD 58 undef := ⟨_, rfl⟩
            obtain ⟨u59, hu59⟩ : ∃ u, u = a.tmps.getD 59 undef := ⟨_, rfl⟩
            obtain ⟨u60, hu60⟩ : ∃ u, u = a.tmps.getD 60 undef := ⟨_, rfl⟩
            obtain ⟨u61, hu61⟩ : ∃ u, u = a.tmps.getD 61 undef := ⟨_, rfl⟩
            obtain ⟨u62, hu62⟩ : ∃ u, u = a.tmps.getD 62 undef := ⟨_, rfl⟩
            obtain ⟨u63, hu63⟩ : ∃ u, u = a.tmps.getD 63 undef := ⟨_, rfl⟩
            obtain ⟨u64, hu64⟩ : ∃ u, u = a.tmps.getD 64 undef := ⟨_, rfl⟩
            obtain ⟨u65, hu65⟩ : ∃ u, u = a.tmps.getD 65 undef := ⟨_, rfl⟩
            obtain ⟨u66, hu66⟩ : ∃ u, u = a.tmps.getD 66 undef := ⟨_, rfl⟩
            obtain ⟨u67, hu67⟩ : ∃ u, u = a.tmps.getD 67 undef := ⟨_, rfl⟩
            obtain ⟨u68, hu68⟩ : ∃ u, u = a.tmps.getD 68 undef := ⟨_, rfl⟩
            obtain ⟨u69, hu69⟩ : ∃ u, u = a.tmps.getD 69 undef := ⟨_, rfl⟩
            obtain ⟨u70, hu70⟩ : ∃ u, u = a.tmps.getD 70 undef := ⟨_, rfl⟩
            obtain ⟨u71, hu71⟩ : ∃ u, u = a.tmps.getD 71 undef := ⟨_, rfl⟩
            obtain ⟨u72, hu72⟩ : ∃ u, u = a.tmps.getD 72 undef := ⟨_, rfl⟩
            obtain ⟨u73, hu73⟩ : ∃ u, u = a.tmps.getD 73 undef := ⟨_, rfl⟩
            obtain ⟨u74, hu74⟩ : ∃ u, u = a.tmps.getD 74 undef := ⟨_, rfl⟩
            obtain ⟨u75, hu75⟩ : ∃ u, u = a.tmps.getD 75 undef := ⟨_, rfl⟩
            obtain ⟨u76, hu76⟩ : ∃ u, u = a.tmps.getD 76 undef := ⟨_, rfl⟩
            obtain ⟨u77, hu77⟩ : ∃ u, u = a.tmps.getD 77 undef := ⟨_, rfl⟩
            obtain ⟨u78, hu78⟩ : ∃ u, u = a.tmps.getD 78 undef := ⟨_, rfl⟩
            obtain ⟨u79, hu79⟩ : ∃ u, u = a.tmps.getD 79 undef := ⟨_, rfl⟩
            obtain ⟨u80, hu80⟩ : ∃ u, u = a.tmps.getD 80 undef := ⟨_, rfl⟩
            obtain ⟨u81, hu81⟩ : ∃ u, u = a.tmps.getD 81 undef := ⟨_, rfl⟩
            obtain ⟨u82, hu82⟩ : ∃ u, u = a.tmps.getD 82 undef := ⟨_, rfl⟩
            obtain ⟨u83, hu83⟩ : ∃ u, u = a.tmps.getD 83 undef := ⟨_, rfl⟩
            obtain ⟨u84, hu84⟩ : ∃ u, u = a.tmps.getD 84 undef := ⟨_, rfl⟩
            obtain ⟨u85, hu85⟩ : ∃ u, u = a.tmps.getD 85 undef := ⟨_, rfl⟩
            obtain ⟨u86, hu86⟩ : ∃ u, u = a.tmps.getD 86 undef := ⟨_, rfl⟩
            obtain ⟨u87, hu87⟩ : ∃ u, u = a.tmps.getD 87 undef := ⟨_, rfl⟩
            obtain ⟨u88, hu88⟩ : ∃ u, u = a.tmps.getD 88 undef := ⟨_, rfl⟩
            obtain ⟨u89, hu89⟩ : ∃ u, u = a.tmps.getD 89 undef := ⟨_, rfl⟩
            obtain ⟨u90, hu90⟩ : ∃ u, u = a.tmps.getD 90 undef := ⟨_, rfl⟩
            obtain ⟨u91, hu91⟩ : ∃ u, u = a.tmps.getD 91 undef := ⟨_, rfl⟩
            obtain ⟨u92, hu92⟩ : ∃ u, u = a.tmps.getD 92 undef := ⟨_, rfl⟩
            obtain ⟨u93, hu93⟩ : ∃ u, u = a.tmps.getD 93 undef := ⟨_, rfl⟩
            obtain ⟨u94, hu94⟩ : ∃ u, u = a.tmps.getD 94 undef := ⟨_, rfl⟩
            obtain ⟨u95, hu95⟩ : ∃ u, u = a.tmps.getD 95 undef := ⟨_, rfl⟩
            obtain ⟨u96, hu96⟩ : ∃ u, u = a.tmps.getD 96 undef := ⟨_, rfl⟩
            obtain ⟨u97, hu97⟩ : ∃ u, u = a.tmps.getD 97 undef := ⟨_, rfl⟩
            obtain ⟨u98, hu98⟩ : ∃ u, u = a.tmps.getD 98 undef := ⟨_, rfl⟩
            obtain ⟨u99, hu99⟩ : ∃ u, u = a.tmps.getD 99 undef := ⟨_, rfl⟩
            obtain ⟨u100, hu100⟩ : ∃ u, u = a.tmps.getD 100 undef := ⟨_, rfl⟩
            obtain ⟨u101, hu101⟩ : ∃ u, u = a.tmps.getD 101 undef := ⟨_, rfl⟩
            obtain ⟨u102, hu102⟩ : ∃ u, u = a.tmps.getD 102 undef := ⟨_, rfl⟩
            obtain ⟨u103, hu103⟩ : ∃ u, u = a.tmps.getD 103 undef := ⟨_, rfl⟩
            obtain ⟨u104, hu104⟩ : ∃ u, u = a.tmps.getD 104 undef := ⟨_, rfl⟩
            obtain ⟨u105, hu105⟩ : ∃ u, u = a.tmps.getD 105 undef := ⟨_, rfl⟩
            obtain ⟨u106, hu106⟩ : ∃ u, u = a.tmps.getD 106 undef := ⟨_, rfl⟩
            obtain ⟨u107, hu107⟩ : ∃ u, u = a.tmps.getD 107 undef := ⟨_, rfl⟩
            obtain ⟨u108, hu108⟩ : ∃ u, u = a.tmps.getD 108 undef := ⟨_, rfl⟩
            obtain ⟨u109, hu109⟩ : ∃ u, u = a.tmps.getD 109 undef := ⟨_, rfl⟩
            obtain ⟨u110, hu110⟩ : ∃ u, u = a.tmps.getD 110 undef := ⟨_, rfl⟩
            obtain ⟨u111, hu111⟩ : ∃ u, u = a.tmps.getD 111 undef := ⟨_, rfl⟩
            obtain ⟨u112, hu112⟩ : ∃ u, u = a.tmps.getD 112 undef := ⟨_, rfl⟩
            obtain ⟨u113, hu113⟩ : ∃ u, u = a.tmps.getD 113 undef := ⟨_, rfl⟩
            obtain ⟨u114, hu114⟩ : ∃ u, u = a.tmps.getD 114 undef := ⟨_, rfl⟩
            obtain ⟨u115, hu115⟩ : ∃ u, u = a.tmps.getD 115 undef := ⟨_, rfl⟩
            obtain ⟨u116, hu116⟩ : ∃ u, u = a.tmps.getD 116 undef := ⟨_, rfl⟩
            obtain ⟨u117, hu117⟩ : ∃ u, u = a.tmps.getD 117 undef := ⟨_, rfl⟩
            obtain ⟨u118, hu118⟩ : ∃ u, u = a.tmps.getD 118 undef := ⟨_, rfl⟩
            obtain ⟨u119, hu119⟩ : ∃ u, u = a.tmps.getD 119 undef := ⟨_, rfl⟩
            obtain ⟨u120, hu120⟩ : ∃ u, u = a.tmps.getD 120 undef := ⟨_, rfl⟩
            obtain ⟨u121, hu121⟩ : ∃ u, u = a.tmps.getD 121 undef := ⟨_, rfl⟩
            obtain ⟨u122, hu122⟩ : ∃ u, u = a.tmps.getD 122 undef := ⟨_, rfl⟩
            obtain ⟨u123, hu123⟩ : ∃ u, u = a.tmps.getD 123 undef := ⟨_, rfl⟩
            obtain ⟨u124, hu124⟩ : ∃ u, u = a.tmps.getD 124 undef := ⟨_, rfl⟩
            obtain ⟨u125, hu125⟩ : ∃ u, u = a.tmps.getD 125 undef := ⟨_, rfl⟩
            obtain ⟨u126, hu126⟩ : ∃ u, u = a.tmps.getD 126 undef := ⟨_, rfl⟩
            obtain ⟨u127, hu127⟩ : ∃ u, u = a.tmps.getD 127 undef := ⟨_, rfl⟩
            obtain ⟨u128, hu128⟩ : ∃ u, u = a.tmps.getD 128 undef := ⟨_, rfl⟩
            have hal : AllAt a 0 [u0, u1, u2, u3, u4, u5, u6, u7, u8, u9, .bool false, u11, .slice (some ⟨w1.heap.size, 0, none⟩) 18 18, .slice (some ⟨w1.heap.size + 1, 0, none⟩) 18 18, .int .i64 (ii : Int), .int .i64 (kk : Int), .slice (some ⟨w4.heap.size, 0, none⟩) 3 3, .string (mkS (120 :: 32 :: (si ++ 32 :: 40 :: 121 :: 32 :: (sk ++ [32, 122, 41])))), .int .i64 n, .int .i64 fi, u20, u21, u22, u23, u24, u25, u26, u27, u28, u29, u30, u31, u32, u33, u34, u35, u36, u37, u38, u39, u40, u41, u42, u43, u44, u45, u46, u47, u48, u49, u50, u51, u52, u53, u54, u55, u56, u57, u58, u59, u60, u61, u62, u63, u64, u65, u66, u67, u68, u69, u70, u71, u72, u73, u74, u75, u76, u77, u78, u79, u80, u81, u82, u83, u84, u85, u86, u87, u88, u89, u90, u91, u92, u93, u94, u95, u96, u97, u98, u99, u100, u101, u102, u103, u104, u105, u106, u107, u108, u109, u110, u111, u112, u113, u114, u115, u116, u117, u118, u119, u120, u121, u122, u123, u124, u125, u126, u127, u128] := ⟨hu0.symm, hu1.symm, hu2.symm, hu3.symm, hu4.symm, hu5.symm, hu6.symm, hu7.symm, hu8.symm, hu9.symm, hfree 10 rfl, hu11.symm, hfree 12 rfl, hfree 13 rfl, hfree 14 rfl, hfree 15 rfl, hfree 16 rfl, hfree 17 rfl, hs 17 _ rfl, hs 18 _ rfl, hu20.symm, hu21.symm, hu22.symm, hu23.symm, hu24.symm, hu25.symm, hu26.symm, hu27.symm, hu28.symm, hu29.symm, hu30.symm, hu31.symm, hu32.symm, hu33.symm, hu34.symm, hu35.symm, hu36.symm, hu37.symm, hu38.symm, hu39.symm, hu40.symm, hu41.symm, hu42.symm, hu43.symm, hu44.symm, hu45.symm, hu46.symm, hu47.symm, hu48.symm, hu49.symm, hu50.symm, hu51.symm, hu52.symm, hu53.symm, hu54.symm, hu55.symm, hu56.symm, hu57.symm, hu58.symm, hu59.symm, hu60.symm, hu61.symm, hu62.symm, hu63.symm, hu64.symm, hu65.symm, hu66.symm, hu67.symm, hu68.symm, hu69.symm, hu70.symm, hu71.symm, hu72.symm, hu73.symm, hu74.symm, hu75.symm, hu76.symm, hu77.symm, hu78.symm, hu79.symm, hu80.symm, hu81.symm, hu82.symm, hu83.symm, hu84.symm, hu85.symm, hu86.symm, hu87.symm, hu88.symm, hu89.symm, hu90.symm, hu91.symm, hu92.symm, hu93.symm, hu94.symm, hu95.symm, hu96.symm, hu97.symm, hu98.symm, hu99.symm, hu100.symm, hu101.symm, hu102.symm, hu103.symm, hu104.symm, hu105.symm, hu106.symm, hu107.symm, hu108.symm, hu109.symm, hu110.symm, hu111.symm, hu112.symm, hu113.symm, hu114.symm, hu115.symm, hu116.symm, hu117.symm, hu118.symm, hu119.symm, hu120.symm, hu121.symm, hu122.symm, hu123.symm, hu124.symm, hu125.symm, hu126.symm, hu127.symm, hu128.symm, trivial⟩
            have hlit := fun h => act_lit hd h hal
            rw [hlit hsz]
            clear hlit hal hd hsz hfree hs hu0 hu1 hu2 hu3 hu4 hu5 hu6 hu7 hu8 hu9 hu11 hu20 hu21 hu22 hu23 hu24 hu25 hu26 hu27 hu28 hu29 hu30 hu31 hu32 hu33 hu34 hu35 hu36 hu37 hu38 hu39 hu40 hu41 hu42 hu43 hu44 hu45 hu46 hu47 hu48 hu49 hu50 hu51 hu52 hu53 hu54 hu55 hu56 hu57 hu58 hu59 hu60 hu61 hu62 hu63 hu64 hu65 hu66 hu67 hu68 hu69 hu70 hu71 hu72 hu73 hu74 hu75 hu76 hu77 hu78 hu79 hu80 hu81 hu82 hu83 hu84 hu85 hu86 hu87 hu88 hu89 hu90 hu91 hu92 hu93 hu94 hu95 hu96 hu97 hu98 hu99 hu100 hu101 hu102 hu103 hu104 hu105 hu106 hu107 hu108 hu109 hu110 hu111 hu112 hu113 hu114 hu115 hu116 hu117 hu118 hu119 hu120 hu121 hu122 hu123 hu124 hu125 hu126 hu127 hu128
            clear hl
            obtain ⟨w9, hw9⟩ : ∃ u, u = w := ⟨_, rfl⟩
            rw [← hw9] at hC ⊢
            clear hw9
            have HLW := Lib.hid (HLW.out.trans hC.out)
            have HC := Lib.hid (HC.out.later hC.out)
            have HEV := Lib.hid (HEV.out.later hC.out)
            have HER := Lib.hid (HER.out.later hC.out)
            clear hC
            have HW9 := HER
            rcases HF.out with h0 | h0
            · subst h0
              go_wp2_with (go_at_call 8; (with_reducible refine (HW9.out _ (Later.refl _)).mono ?_); rintro e w10 ⟨rfl, hl10⟩)
              go_ret
              exact ⟨rfl, HLW.out.trans hl10⟩
            · subst h0
              go_wp2_with (go_at_call 8; (with_reducible refine (HW9.out _ (Later.refl _)).mono ?_); rintro e w10 ⟨rfl, hl10⟩)
              go_ret
              exact ⟨rfl, HLW.out.trans hl10⟩
    · have HBT := Lib.hid (show decide (bi < bk) = false by simp; omega)
      have HEL := Lib.hid (HEL.out hlt)
      clear hlt HER
      go_wp2_with (fail)
      refine wp_region_seq (by kernel_rfl) [] (fun _ _ w => Hid (Later w6 w)) [some (.slice (some ⟨w1.heap.size + 1, 0, none⟩) 18 18), some (.int .i64 (kk : Int)), some (.pointer (some ⟨w1.heap.size + 1, kk, none⟩)), some (.int .i64 (bk : Int)), some (.slice (some ⟨w1.heap.size + 1, 0, none⟩) 18 18), some (.int .i64 (ii : Int)), some (.pointer (some ⟨w1.heap.size + 1, ii, none⟩)), some (.int .i64 (bi : Int)), some (.bool false)] (by decide) (by decide) (by kernel_rfl) (by kernel_rfl) (Lib.hid (Later.drew _)) ?_ ?_
      · refine ⟨?_, ?_, ?_, ?_, ?_, ?_, ?_, ?_, ?_, trivial⟩
        · -- 0: slot 69 := Op.move t13
          refine OwesS.q rfl fun a w j u hC hb hs => ⟨rfl, ?_⟩
          have e13 : a.tmps.getD 13 undef = .slice (some ⟨w1.heap.size + 1, 0, none⟩) 18 18 := hs.free 13 rfl
          refine ValWp.pure (v := .slice (some ⟨w1.heap.size + 1, 0, none⟩) 18 18) (fun K' hK' => ?_) ⟨rfl, rfl⟩
          simp only [ValWp, execOp, Act.eval, e13]
          go_simp
          all_goals exact hK'
        · -- 1: slot 70 := Op.move t15
          refine OwesS.q rfl fun a w j u hC hb hs => ⟨rfl, ?_⟩
          have e15 : a.tmps.getD 15 undef = .int .i64 (kk : Int) := hs.free 15 rfl
          refine ValWp.pure (v := .int .i64 (kk : Int)) (fun K' hK' => ?_) ⟨rfl, rfl⟩
          simp only [ValWp, execOp, Act.eval, e15]
          go_simp
          all_goals exact hK'
        · -- 2: slot 71 := Op.indexAddr 32 t69 t70
          refine OwesS.q rfl fun a w j u hC hb hs => ⟨rfl, ?_⟩
          have e69 : a.tmps.getD 69 undef = .slice (some ⟨w1.heap.size + 1, 0, none⟩) 18 18 := hs.dep 0 _ rfl rfl
          have e70 : a.tmps.getD 70 undef = .int .i64 (kk : Int) := hs.dep 1 _ rfl rfl
          refine ValWp.pure (v := .pointer (some ⟨w1.heap.size + 1, kk, none⟩)) (fun K' hK' => ?_) ⟨rfl, rfl⟩
          simp only [ValWp, execOp, Act.eval, e69, e70]
          go_simp
          all_goals exact hK'
        · -- 3: slot 72 := Op.load 3 t71
          refine OwesS.q rfl fun a w j u hC hb hs => ⟨rfl, ?_⟩
          have e71 : a.tmps.getD 71 undef = .pointer (some ⟨w1.heap.size + 1, kk, none⟩) := hs.dep 2 _ rfl rfl
          have q1 := cell_later hC.out HC.out.c4
          refine ValWp.pure (v := .int .i64 (bk : Int)) (fun K' hK' => ?_) ⟨rfl, rfl⟩
          simp only [ValWp, execOp, Act.eval, e71]
          go_simp
          all_goals exact hK'
        · -- 4: slot 73 := Op.move t13
          refine OwesS.q rfl fun a w j u hC hb hs => ⟨rfl, ?_⟩
          have e13 : a.tmps.getD 13 undef = .slice (some ⟨w1.heap.size + 1, 0, none⟩) 18 18 := hs.free 13 rfl
          refine ValWp.pure (v := .slice (some ⟨w1.heap.size + 1, 0, none⟩) 18 18) (fun K' hK' => ?_) ⟨rfl, rfl⟩
          simp only [ValWp, execOp, Act.eval, e13]
          go_simp
          all_goals exact hK'
        · -- 5: slot 74 := Op.move t14
          refine OwesS.q rfl fun a w j u hC hb hs => ⟨rfl, ?_⟩
          have e14 : a.tmps.getD 14 undef = .int .i64 (ii : Int) := hs.free 14 rfl
          refine ValWp.pure (v := .int .i64 (ii : Int)) (fun K' hK' => ?_) ⟨rfl, rfl⟩
          simp only [ValWp, execOp, Act.eval, e14]
          go_simp
          all_goals exact hK'
        · -- 6: slot 75 := Op.indexAddr 32 t73 t74
          refine OwesS.q rfl fun a w j u hC hb hs => ⟨rfl, ?_⟩
          have e73 : a.tmps.getD 73 undef = .slice (some ⟨w1.heap.size + 1, 0, none⟩) 18 18 := hs.dep 4 _ rfl rfl
          have e74 : a.tmps.getD 74 undef = .int .i64 (ii : Int) := hs.dep 5 _ rfl rfl
          refine ValWp.pure (v := .pointer (some ⟨w1.heap.size + 1, ii, none⟩)) (fun K' hK' => ?_) ⟨rfl, rfl⟩
          simp only [ValWp, execOp, Act.eval, e73, e74]
          go_simp
          all_goals exact hK'
        · -- 7: slot 76 := Op.load 3 t75
          refine OwesS.q rfl fun a w j u hC hb hs => ⟨rfl, ?_⟩
          have e75 : a.tmps.getD 75 undef = .pointer (some ⟨w1.heap.size + 1, ii, none⟩) := hs.dep 6 _ rfl rfl
          have q1 := cell_later hC.out HC.out.c3
          refine ValWp.pure (v := .int .i64 (bi : Int)) (fun K' hK' => ?_) ⟨rfl, rfl⟩
          simp only [ValWp, execOp, Act.eval, e75]
          go_simp
          all_goals exact hK'
        · -- 8: slot 77 := Op.binOp BinOp.gtr 3 t72 t76 3
          refine OwesS.q rfl fun a w j u hC hb hs => ⟨rfl, ?_⟩
          have e72 : a.tmps.getD 72 undef = .int .i64 (bk : Int) := hs.dep 3 _ rfl rfl
          have e76 : a.tmps.getD 76 undef = .int .i64 (bi : Int) := hs.dep 7 _ rfl rfl
          refine ValWp.pure (v := .bool false) (fun K' hK' => ?_) ⟨rfl, rfl⟩
          simp only [ValWp, execOp, Act.eval, e72, e76]
          go_simp
          all_goals (first | exact hK' | (simp only [HBT.out]; exact hK'))
      · intro a w u hC hl hd hsz hfree hs
        obtain ⟨u0, hu0⟩ : ∃ u, u = a.tmps.getD 0 undef := ⟨_, rfl⟩
        obtain ⟨u1, hu1⟩ : ∃ u, u = a.tmps.getD 1 undef := ⟨_, rfl⟩
        obtain ⟨u2, hu2⟩ : ∃ u, u = a.tmps.getD 2 undef := ⟨_, rfl⟩
        obtain ⟨u3, hu3⟩ : ∃ u, u = a.tmps.getD 3 undef := ⟨_, rfl⟩
        obtain ⟨u4, hu4⟩ : ∃ u, u = a.tmps.getD 4 undef := ⟨_, rfl⟩
        obtain ⟨u5, hu5⟩ : ∃ u, u = a.tmps.getD 5 undef := ⟨_, rfl⟩
        obtain ⟨u6, hu6⟩ : ∃ u, u = a.tmps.getD 6 undef := ⟨_, rfl⟩
        obtain ⟨u7, hu7⟩ : ∃ u, u = a.tmps.getD 7 undef := ⟨_, rfl⟩
        obtain ⟨u8, hu8⟩ : ∃ u, u = a.tmps.getD 8 undef := ⟨_, rfl⟩
        obtain ⟨u9, hu9⟩ : ∃ u, u = a.tmps.getD 9 undef := ⟨_, rfl⟩
        obtain ⟨u11, hu11⟩ : ∃ u, u = a.tmps.getD 11 undef := ⟨_, rfl⟩
        obtain ⟨u18, hu18⟩ : ∃ u, u = a.tmps.getD 18 undef := ⟨_, rfl⟩
        obtain ⟨u19, hu19⟩ : ∃ u, u = a.tmps.getD 19 undef := ⟨_, rfl⟩
        obtain ⟨u20, hu20⟩ : ∃ u, u = a.tmps.getD 20 undef := ⟨_, rfl⟩
        obtain ⟨u21, hu21⟩ : ∃ u, u = a.tmps.getD 21 undef := ⟨_, rfl⟩
        obtain ⟨u22, hu22⟩ : ∃ u, u = a.tmps.getD 22 undef := ⟨_, rfl⟩
        obtain ⟨u23, hu23⟩ : ∃ u, u = a.tmps.getD 23 undef := ⟨_, rfl⟩
        obtain ⟨u24, hu24⟩ : ∃ u, u = a.tmps.getD 24 undef := ⟨_, rfl⟩
        obtain ⟨u25, hu25⟩ : ∃ u, u = a.tmps.getD 25 undef := ⟨_, rfl⟩
        obtain ⟨u26, hu26⟩ : ∃ u, u = a.tmps.getD 26 undef := ⟨_, rfl⟩
        obtain ⟨u27, hu27⟩ : ∃ u, u = a.tmps.getD 27 undef := ⟨_, rfl⟩
        obtain ⟨u28, hu28⟩ : ∃ u, u = a.tmps.getD 28 undef := ⟨_, rfl⟩
        obtain ⟨u29, hu29⟩ : ∃ u, u = a.tmps.getD 29 undef := ⟨_, rfl⟩
        obtain ⟨u30, hu30⟩ : ∃ u, u = a.tmps.getD 30 undef := ⟨_, rfl⟩
        obtain ⟨u31, hu31⟩ : ∃ u, u = a.tmps.getD 31 undef := ⟨_, rfl⟩
        obtain ⟨u32, hu32⟩ : ∃ u, u = a.tmps.getD 32 undef := ⟨_, rfl⟩
        obtain ⟨u33, hu33⟩ : ∃ u, u = a.tmps.getD 33 undef := ⟨_, rfl⟩
        obtain ⟨u34, hu34⟩ : ∃ u, u = a.tmps.getD 34 undef := ⟨_, rfl⟩
        obtain ⟨u35, hu35⟩ : ∃ u, u = a.tmps.getD 35 undef := ⟨_, rfl⟩
        obtain ⟨u36, hu36⟩ : ∃ u, u = a.tmps.getD 36 undef := ⟨_, rfl⟩
        obtain ⟨u37, hu37⟩ : ∃ u, u = a.tmps.getD 37 undef := ⟨_, rfl⟩
        obtain ⟨u38, hu38⟩ : ∃ u, u = a.tmps.getD 38 undef := ⟨_, rfl⟩
        obtain ⟨u39, hu39⟩ : ∃ u, u = a.tmps.getD 39 undef := ⟨_, rfl⟩
        obtain ⟨u40, hu40⟩ : ∃ u, u = a.tmps.getD 40 undef := ⟨_, rfl⟩
        obtain ⟨u41, hu41⟩ : ∃ u, u = a.tmps.getD 41 undef := ⟨_, rfl⟩
        obtain ⟨u42, hu42⟩ : ∃ u, u = a.tmps.getD 42 undef := ⟨_, rfl⟩
        obtain ⟨u43, hu43⟩ : ∃ u, u = a.tmps.getD 43 undef := ⟨_, rfl⟩
        obtain ⟨u44, hu44⟩ : ∃ u, u = a.tmps.getD 44 undef := ⟨_, rfl⟩
        obtain ⟨u45, hu45⟩ : ∃ u, u = a.tmps.getD 45 undef := ⟨_, rfl⟩
        obtain ⟨u46, hu46⟩ : ∃ u, u = a.tmps.getD 46 undef := ⟨_, rfl⟩
        obtain ⟨u47, hu47⟩ : ∃ u, u = a.tmps.getD 47 undef := ⟨_, rfl⟩
        obtain ⟨u48, hu48⟩ : ∃ u, u = a.tmps.getD 48 undef := ⟨_, rfl⟩
        obtain ⟨u49, hu49⟩ : ∃ u, u = a.tmps.getD 49 undef := ⟨_, rfl⟩
        obtain ⟨u50, hu50⟩ : ∃ u, u = a.tmps.getD 50 undef := ⟨_, rfl⟩
        obtain ⟨u51, hu51⟩ : ∃ u, u = a.tmps.getD 51 undef := ⟨_, rfl⟩
        obtain ⟨u52, hu52⟩ : ∃ u, u = a.tmps.getD 52 undef := ⟨_, rfl⟩
        obtain ⟨u53, hu53⟩ : ∃ u, u = a.tmps.getD 53 undef := ⟨_, rfl⟩
        obtain ⟨u54, hu54⟩ : ∃ u, u = a.tmps.getD 54 undef := ⟨_, rfl⟩
        obtain ⟨u55, hu55⟩ : ∃ u, u = a.tmps.getD 55 undef := ⟨_, rfl⟩
        obtain ⟨u56, hu56⟩ : ∃ u, u = a.tmps.getD 56 undef := ⟨_, rfl⟩
        obtain ⟨u57, hu57⟩ : ∃ u, u = a.tmps.getD 57 undef := ⟨_, rfl⟩
        obtain ⟨u58, hu58⟩ : ∃ u, u = a.tmps.getD 58 undef := ⟨_, rfl⟩
        obtain ⟨u59, hu59⟩ : ∃ u, u = a.tmps.getD 59 undef := ⟨_, rfl⟩
        obtain ⟨u60, hu60⟩ : ∃ u, u = a.tmps.getD 60 undef := ⟨_, rfl⟩
        obtain ⟨u61, hu61⟩ : ∃ u, u = a.tmps.getD 61 undef := ⟨_, rfl⟩
        obtain ⟨u62, hu62⟩ : ∃ u, u = a.tmps.getD 62 undef := ⟨_, rfl⟩
        obtain ⟨u63, hu63⟩ : ∃ u, u = a.tmps.getD 63 undef := ⟨_, rfl⟩
        obtain ⟨u64, hu64⟩ : ∃ u, u = a.tmps.getD 64 undef := ⟨_, rfl⟩
        obtain ⟨u65, hu65⟩ : ∃ u, u = a.tmps.getD 65 undef := ⟨_, rfl⟩
        obtain ⟨u66, hu66⟩ : ∃ u, u = a.tmps.getD 66 undef := ⟨_, rfl⟩
        obtain ⟨u67, hu67⟩ : ∃ u, u = a.tmps.getD 67 undef := ⟨_, rfl⟩
        obtain ⟨u68, hu68⟩ : ∃ u, u = a.tmps.getD 68 undef := ⟨_, rfl⟩
        obtain ⟨u69, hu69⟩ : ∃ u, u = a.tmps.getD 69 undef := ⟨_, rfl⟩
        obtain ⟨u70, hu70⟩ : ∃ u, u = a.tmps.getD 70 undef := ⟨_, rfl⟩
        obtain ⟨u71, hu71⟩ : ∃ u, u = a.tmps.getD 71 undef := ⟨_, rfl⟩
        obtain ⟨u72, hu72⟩ : ∃ u, u = a.tmps.getD 72 undef := ⟨_, rfl⟩
        obtain ⟨u73, hu73⟩ : ∃ u, u = a.tmps.getD 73 undef := ⟨_, rfl⟩
        obtain ⟨u74, hu74⟩ : ∃ u, u = a.tmps.getD 74 undef := ⟨_, rfl⟩
        obtain ⟨u75, hu75⟩ : ∃ u, u = a.tmps.getD 75 undef := ⟨_, rfl⟩
        obtain ⟨u76, hu76⟩ : ∃ u, u = a.tmps.getD 76 undef := ⟨_, rfl⟩
        obtain ⟨u78, hu78⟩ : ∃ u, u = a.tmps.getD 78 undef := ⟨_, rfl⟩
        obtain ⟨u79, hu79⟩ : ∃ u, u = a.tmps.getD 79 undef := ⟨_, rfl⟩
        obtain ⟨u80, hu80⟩ : ∃ u, u = a.tmps.getD 80 undef := ⟨_, rfl⟩
        obtain ⟨u81, hu81⟩ : ∃ u, u = a.tmps.getD 81 undef := ⟨_, rfl⟩
        obtain ⟨u82, hu82⟩ : ∃ u, u = a.tmps.getD 82 undef := ⟨_, rfl⟩
        obtain ⟨u83, hu83⟩ : ∃ u, u = a.tmps.getD 83 undef := ⟨_, rfl⟩
        obtain ⟨u84, hu84⟩ : ∃ u, u = a.tmps.getD 84 undef := ⟨_, rfl⟩
        obtain ⟨u85, hu85⟩ : ∃ u, u = a.tmps.getD 85 undef := ⟨_, rfl⟩
        obtain ⟨u86, hu86⟩ : ∃ u, u = a.tmps.getD 86 undef := ⟨_, rfl⟩
        obtain ⟨u87, hu87⟩ : ∃ u, u = a.tmps.getD 87 undef := ⟨_, rfl⟩
        obtain ⟨u88, hu88⟩ : ∃ u, u = a.tmps.getD 88 undef := ⟨_, rfl⟩
        obtain ⟨u89, hu89⟩ : ∃ u, u = a.tmps.getD 89 undef := ⟨_, rfl⟩
        obtain ⟨u90, hu90⟩ : ∃ u, u = a.tmps.getD 90 undef := ⟨_, rfl⟩
        obtain ⟨u91, hu91⟩ : ∃ u, u = a.tmps.getD 91 undef := ⟨_, rfl⟩
        obtain ⟨u92, hu92⟩ : ∃ u, u = a.tmps.getD 92 undef := ⟨_, rfl⟩
        obtain ⟨u93, hu93⟩ : ∃ u, u = a.tmps.getD 93 undef := ⟨_, rfl⟩
        obtain ⟨u94, hu94⟩ : ∃ u, u = a.tmps.getD 94 undef := ⟨_, rfl⟩
        obtain ⟨u95, hu95⟩ : ∃ u, u = a.tmps.getD 95 undef := ⟨_, rfl⟩
        obtain ⟨u96, hu96⟩ : ∃ u, u = a.tmps.getD 96 undef := ⟨_, rfl⟩
        obtain ⟨u97, hu97⟩ : ∃ u, u = a.tmps.getD 97 undef := ⟨_, rfl⟩
        obtain ⟨u98, hu98⟩ : ∃ u, u = a.tmps.getD 98 undef := ⟨_, rfl⟩
        obtain ⟨u99, hu99⟩ : ∃ u, u = a.tmps.getD 99 undef := ⟨_, rfl⟩
        obtain ⟨u100, hu100⟩ : ∃ u, u = a.tmps.getD 100 undef := ⟨_, rfl⟩
        obtain ⟨u101, hu101⟩ : ∃ u, u = a.tmps.getD 101 undef := ⟨_, rfl⟩
        obtain ⟨u102, hu102⟩ : ∃ u, u = a.tmps.getD 102 undef := ⟨_, rfl⟩
        obtain ⟨u103, hu103⟩ : ∃ u, u = a.tmps.getD 103 undef := ⟨_, rfl⟩
        obtain ⟨u104, hu104⟩ : ∃ u, u = a.tmps.getD 104 undef := ⟨_, rfl⟩
        obtain ⟨u105, hu105⟩ : ∃ u, u = a.tmps.getD 105 undef := ⟨_, rfl⟩
        obtain ⟨u106, hu106⟩ : ∃ u, u = a.tmps.getD 106 undef := ⟨_, rfl⟩
        obtain ⟨u107, hu107⟩ : ∃ u, u = a.tmps.getD 107 undef := ⟨_, rfl⟩
        obtain ⟨u108, hu108⟩ : ∃ u, u = a.tmps.getD 108 undef := ⟨_, rfl⟩
        obtain ⟨u109, hu109⟩ : ∃ u, u = a.tmps.getD 109 undef := ⟨_, rfl⟩
        obtain ⟨u110, hu110⟩ : ∃ u, u = a.tmps.getD 110 undef := ⟨_, rfl⟩
        obtain ⟨u111, hu111⟩ : ∃ u, u = a.tmps.getD 111 undef := ⟨_, rfl⟩
        obtain ⟨u112, hu112⟩ : ∃ u, u = a.tmps.getD 112 undef := ⟨_, rfl⟩
        obtain ⟨u113, hu113⟩ : ∃ u, u = a.tmps.getD 113 undef := ⟨_, rfl⟩
        obtain ⟨u114, hu114⟩ : ∃ u, u = a.tmps.getD 114 undef := ⟨_, rfl⟩
        obtain ⟨u115, hu115⟩ : ∃ u, u = a.tmps.getD 115 undef := ⟨_, rfl⟩
        obtain ⟨u116, hu116⟩ : ∃ u, u = a.tmps.getD 116 undef := ⟨_, rfl⟩
        obtain ⟨u117, hu117⟩ : ∃ u, u = a.tmps.getD 117 undef := ⟨_, rfl⟩
        obtain ⟨u118, hu118⟩ : ∃ u, u = a.tmps.getD 118 undef := ⟨_, rfl⟩
        obtain ⟨u119, hu119⟩ : ∃ u, u = a.tmps.getD 119 undef := ⟨_, rfl⟩
        obtain ⟨u120, hu120⟩ : ∃ u, u = a.tmps.getD 120 undef := ⟨_, rfl⟩
        obtain ⟨u121, hu121⟩ : ∃ u, u = a.tmps.getD 121 undef := ⟨_, rfl⟩
        obtain ⟨u122, hu122⟩ : ∃ u, u = a.tmps.getD 122 undef := ⟨_, rfl⟩
        obtain ⟨u123, hu123⟩ : ∃ u, u = a.tmps.getD 123 undef := ⟨_, rfl⟩
        obtain ⟨u124, hu124⟩ : ∃ u, u = a.tmps.getD 124 undef := ⟨_, rfl⟩
        obtain ⟨u125, hu125⟩ : ∃ u, u = a.tmps.getD 125 undef := ⟨_, rfl⟩
        obtain ⟨u126, hu126⟩ : ∃ u, u = a.tmps.getD 126 undef := ⟨_, rfl⟩
        obtain ⟨u127, hu127⟩ : ∃ u, u = a.tmps.getD 127 undef := ⟨_, rfl⟩
        obtain ⟨u128, hu128⟩ : ∃ u, u = a.tmps.getD 128 undef := ⟨_, rfl⟩
        have hal : AllAt a 0 [u0, u1, u2, u3, u4, u5, u6, u7, u8, u9, .bool false, u11, .slice (some ⟨w1.heap.size, 0, none⟩) 18 18, .slice (some ⟨w1.heap.size + 1, 0, none⟩) 18 18, .int .i64 (ii : Int), .int .i64 (kk : Int), .slice (some ⟨w4.heap.size, 0, none⟩) 3 3, .string (mkS (40 :: 120 :: 32 :: (si ++ 32 :: 121 :: 41 :: 32 :: (sk ++ [32, 122])))), u18, u19, u20, u21, u22, u23, u24, u25, u26, u27, u28, u29, u30, u31, u32, u33, u34, u35, u36, u37, u38, u39, u40, u41, u42, u43, u44, u45, u46, u47, u48, u49, u50, u51, u52, u53, u54, u55, u56, u57, u58, u59, u60, u61, u62, u63, u64, u65, u66, u67, u68, u69, u70, u71, u72, u73, u74, u75, u76, .bool false, u78, u79, u80, u81, u82, u83, u84, u85, u86, u87, u88, u89, u90, u91, u92, u93, u94, u95, u96, u97, u98, u99, u100, u101, u102, u103, u104, u105, u106, u107, u108, u109, u110, u111, u112, u113, u114, u115, u116, u117, u118, u119, u120, u121, u122, u123, u124, u125, u126, u127, u128] := ⟨hu0.symm, hu1.symm, hu2.symm, hu3.symm, hu4.symm, hu5.symm, hu6.symm, hu7.symm, hu8.symm, hu9.symm, hfree 10 rfl, hu11.symm, hfree 12 rfl, hfree 13 rfl, hfree 14 rfl, hfree 15 rfl, hfree 16 rfl, hfree 17 rfl, hu18.symm, hu19.symm, hu20.symm, hu21.symm, hu22.symm, hu23.symm, hu24.symm, hu25.symm, hu26.symm, hu27.symm, hu28.symm, hu29.symm, hu30.symm, hu31.symm, hu32.symm, hu33.symm, hu34.symm, hu35.symm, hu36.symm, hu37.symm, hu38.symm, hu39.symm, hu40.symm, hu41.symm, hu42.symm, hu43.symm, hu44.symm, hu45.symm, hu46.symm, hu47.symm, hu48.symm, hu49.symm, hu50.symm, hu51.symm, hu52.symm, hu53.symm, hu54.symm, hu55.symm, hu56.symm, hu57.symm, hu58.symm, hu59.symm, hu60.symm, hu61.symm, hu62.symm, hu63.symm, hu64.symm, hu65.symm, hu66.symm, hu67.symm, hu68.symm, hu69.symm, hu70.symm, hu71.symm, hu72.symm, hu73.symm, hu74.symm, hu75.symm, hu76.symm, hs 8 _ rfl, hu78.symm, hu79.symm, hu80.symm, hu81.symm, hu82.symm, hu83.symm, hu84.symm, hu85.symm, hu86.symm, hu87.symm, hu88.symm, hu89.symm, hu90.symm, hu91.symm, hu92.symm, hu93.symm, hu94.symm, hu95.symm, hu96.symm, hu97.symm, hu98.symm, hu99.symm, hu100.symm, hu101.symm, hu102.symm, hu103.symm, hu104.symm, hu105.symm, hu106.symm, hu107.symm, hu108.symm, hu109.symm, hu110.symm, hu111.symm, hu112.symm, hu113.symm, hu114.symm, hu115.symm, hu116.symm, hu117.symm, hu118.symm, hu119.symm, hu120.symm, hu121.symm, hu122.symm, hu123.symm, hu124.symm, hu125.symm, hu126.symm, hu127.symm, hu128.symm, trivial⟩
        have hlit := fun h => act_lit hd h hal
        rw [hlit hsz]
        clear hlit hal hd hsz hfree hs hu0 hu1 hu2 hu3 hu4 hu5 hu6 hu7 hu8 hu9 hu11 hu18 hu19 hu20 hu21 hu22 hu23 hu24 hu25 hu26 hu27 hu28 hu29 hu30 hu31 hu32 hu33 hu34 hu35 hu36 hu37 hu38 hu39 hu40 hu41 hu42 hu43 hu44 hu45 hu46 hu47 hu48 hu49 hu50 hu51 hu52 hu53 hu54 hu55 hu56 hu57 hu58 hu59 hu60 hu61 hu62 hu63 hu64 hu65 hu66 hu67 hu68 hu69 hu70 hu71 hu72 hu73 hu74 hu75 hu76 hu78 hu79 hu80 hu81 hu82 hu83 hu84 hu85 hu86 hu87 hu88 hu89 hu90 hu91 hu92 hu93 hu94 hu95 hu96 hu97 hu98 hu99 hu100 hu101 hu102 hu103 hu104 hu105 hu106 hu107 hu108 hu109 hu110 hu111 hu112 hu113 hu114 hu115 hu116 hu117 hu118 hu119 hu120 hu121 hu122 hu123 hu124 hu125 hu126 hu127 hu128
        clear hl
        obtain ⟨w8, hw8⟩ : ∃ u, u = w := ⟨_, rfl⟩
        rw [← hw8] at hC ⊢
        clear hw8
        have HLW := Lib.hid (HLW.out.trans hC.out)
        have HC := Lib.hid (HC.out.later hC.out)
        have HEV := Lib.hid (HEV.out.later hC.out)
        have HEL := Lib.hid (HEL.out.later hC.out)
        clear hC
        go_wp2_with (fail)
        refine wp_region_seq (by kernel_rfl) [13] (fun _ _ w => Hid (Later w8 w)) [some (.slice (some ⟨w1.heap.size, 0, none⟩) 18 18), some (.int .i64 (ii : Int)), some (.pointer (some ⟨w1.heap.size, ii, none⟩)), some (.string (mkS si)), some (.string (mkS (120 :: 32 :: si))), some (.string (mkS (120 :: 32 :: (si ++ [9, 121, 10])))), some (.slice (some ⟨w1.heap.size, 0, none⟩) 18 18), some (.int .i64 (kk : Int)), some (.pointer (some ⟨w1.heap.size, kk, none⟩)), some (.string (mkS sk)), some (.string (mkS (120 :: 32 :: (si ++ 9 :: 121 :: 10 :: sk)))), some (.string (mkS (120 :: 32 :: (si ++ 9 :: 121 :: 10 :: (sk ++ [32, 122]))))), some (.slice (some ⟨w4.heap.size, 0, none⟩) 3 3), some (.tuple #[.int .i64 n, .int .i64 fi]), some (.tuple #[.int .i64 n, .int .i64 fi]), some (.int .i64 n), some (.int .i64 fi), some (.int .i64 n), some (.int .i64 fi)] (by decide) (by decide) (by kernel_rfl) (by kernel_rfl) (Lib.hid (Later.drew _)) ?_ ?_
        · refine ⟨?_, ?_, ?_, ?_, ?_, ?_, ?_, ?_, ?_, ?_, ?_, ?_, ?_, ?_, ?_, ?_, ?_, ?_, ?_, trivial⟩
          · -- 0: slot 91 := Op.move t12
            refine OwesS.q rfl fun a w j u hC hb hs => ⟨rfl, ?_⟩
            have e12 : a.tmps.getD 12 undef = .slice (some ⟨w1.heap.size, 0, none⟩) 18 18 := hs.free 12 rfl
            refine ValWp.pure (v := .slice (some ⟨w1.heap.size, 0, none⟩) 18 18) (fun K' hK' => ?_) ⟨rfl, rfl⟩
            simp only [ValWp, execOp, Act.eval, e12]
            go_simp
            all_goals exact hK'
          · -- 1: slot 92 := Op.move t14
            refine OwesS.q rfl fun a w j u hC hb hs => ⟨rfl, ?_⟩
            have e14 : a.tmps.getD 14 undef = .int .i64 (ii : Int) := hs.free 14 rfl
            refine ValWp.pure (v := .int .i64 (ii : Int)) (fun K' hK' => ?_) ⟨rfl, rfl⟩
            simp only [ValWp, execOp, Act.eval, e14]
            go_simp
            all_goals exact hK'
          · -- 2: slot 93 := Op.indexAddr 31 t91 t92
            refine OwesS.q rfl fun a w j u hC hb hs => ⟨rfl, ?_⟩
            have e91 : a.tmps.getD 91 undef = .slice (some ⟨w1.heap.size, 0, none⟩) 18 18 := hs.dep 0 _ rfl rfl
            have e92 : a.tmps.getD 92 undef = .int .i64 (ii : Int) := hs.dep 1 _ rfl rfl
            refine ValWp.pure (v := .pointer (some ⟨w1.heap.size, ii, none⟩)) (fun K' hK' => ?_) ⟨rfl, rfl⟩
            simp only [ValWp, execOp, Act.eval, e91, e92]
            go_simp
            all_goals exact hK'
          · -- 3: slot 94 := Op.load 9 t93
            refine OwesS.q rfl fun a w j u hC hb hs => ⟨rfl, ?_⟩
            have e93 : a.tmps.getD 93 undef = .pointer (some ⟨w1.heap.size, ii, none⟩) := hs.dep 2 _ rfl rfl
            have q1 := cell_later hC.out HC.out.c1
            refine ValWp.pure (v := .string (mkS si)) (fun K' hK' => ?_) ⟨rfl, rfl⟩
            simp only [ValWp, execOp, Act.eval, e93]
            go_simp
            all_goals exact hK'
          · -- 4: slot 95 := Op.binOp BinOp.add 9 (const (Value.string { data := #[120, 32] })) t94 9
            refine OwesS.q rfl fun a w j u hC hb hs => ⟨rfl, ?_⟩
            have e94 : a.tmps.getD 94 undef = .string (mkS si) := hs.dep 3 _ rfl rfl
            refine ValWp.pure (v := .string (mkS (120 :: 32 :: si))) (fun K' hK' => ?_) ⟨rfl, rfl⟩
            have hcs : ¬ 9223372036854775807 < 2 + (mkS si).size := by simp only [mkS_size]; omega
            have hcc : mkS (120 :: 32 :: si) = (⟨#[120, 32]⟩ : ByteArray) ++ mkS si := by rw [show (120 :: 32 :: si : L) = ([120, 32]) ++ (si) by simp]; exact (mkS_add _ _).symm
            rw [hcc] at hK'
            clear hcc
            simp only [ValWp, execOp, Act.eval, e94]
            go_simp
            all_goals exact hK'
          · -- 5: slot 96 := Op.binOp BinOp.add 9 t95 (const (Value.string { data := #[9, 121, 10] })) 9
            refine OwesS.q rfl fun a w j u hC hb hs => ⟨rfl, ?_⟩
            have e95 : a.tmps.getD 95 undef = .string (mkS (120 :: 32 :: si)) := hs.dep 4 _ rfl rfl
            refine ValWp.pure (v := .string (mkS (120 :: 32 :: (si ++ [9, 121, 10])))) (fun K' hK' => ?_) ⟨rfl, rfl⟩
            have hcs : ¬ 9223372036854775807 < (mkS (120 :: 32 :: si)).size + 3 := by simp only [mkS_size, List.length_cons]; omega
            have hcc : mkS (120 :: 32 :: (si ++ [9, 121, 10])) = mkS (120 :: 32 :: si) ++ (⟨#[9, 121, 10]⟩ : ByteArray) := by rw [show (120 :: 32 :: (si ++ [9, 121, 10]) : L) = (120 :: 32 :: si) ++ ([9, 121, 10]) by simp]; exact (mkS_add _ _).symm
            rw [hcc] at hK'
            clear hcc
            simp only [ValWp, execOp, Act.eval, e95]
            go_simp
            all_goals exact hK'
          · -- 6: slot 97 := Op.move t12
            refine OwesS.q rfl fun a w j u hC hb hs => ⟨rfl, ?_⟩
            have e12 : a.tmps.getD 12 undef = .slice (some ⟨w1.heap.size, 0, none⟩) 18 18 := hs.free 12 rfl
            refine ValWp.pure (v := .slice (some ⟨w1.heap.size, 0, none⟩) 18 18) (fun K' hK' => ?_) ⟨rfl, rfl⟩
            simp only [ValWp, execOp, Act.eval, e12]
            go_simp
            all_goals exact hK'
          · -- 7: slot 98 := Op.move t15
            refine OwesS.q rfl fun a w j u hC hb hs => ⟨rfl, ?_⟩
            have e15 : a.tmps.getD 15 undef = .int .i64 (kk : Int) := hs.free 15 rfl
            refine ValWp.pure (v := .int .i64 (kk : Int)) (fun K' hK' => ?_) ⟨rfl, rfl⟩
            simp only [ValWp, execOp, Act.eval, e15]
            go_simp
            all_goals exact hK'
          · -- 8: slot 99 := Op.indexAddr 31 t97 t98
            refine OwesS.q rfl fun a w j u hC hb hs => ⟨rfl, ?_⟩
            have e97 : a.tmps.getD 97 undef = .slice (some ⟨w1.heap.size, 0, none⟩) 18 18 := hs.dep 6 _ rfl rfl
            have e98 : a.tmps.getD 98 undef = .int .i64 (kk : Int) := hs.dep 7 _ rfl rfl
            refine ValWp.pure (v := .pointer (some ⟨w1.heap.size, kk, none⟩)) (fun K' hK' => ?_) ⟨rfl, rfl⟩
            simp only [ValWp, execOp, Act.eval, e97, e98]
            go_simp
            all_goals exact hK'
          · -- 9: slot 100 := Op.load 9 t99
            refine OwesS.q rfl fun a w j u hC hb hs => ⟨rfl, ?_⟩
            have e99 : a.tmps.getD 99 undef = .pointer (some ⟨w1.heap.size, kk, none⟩) := hs.dep 8 _ rfl rfl
            have q1 := cell_later hC.out HC.out.c2
            refine ValWp.pure (v := .string (mkS sk)) (fun K' hK' => ?_) ⟨rfl, rfl⟩
            simp only [ValWp, execOp, Act.eval, e99]
            go_simp
            all_goals exact hK'
          · -- 10: slot 101 := Op.binOp BinOp.add 9 t96 t100 9
            refine OwesS.q rfl fun a w j u hC hb hs => ⟨rfl, ?_⟩
            have e96 : a.tmps.getD 96 undef = .string (mkS (120 :: 32 :: (si ++ [9, 121, 10]))) := hs.dep 5 _ rfl rfl
            have e100 : a.tmps.getD 100 undef = .string (mkS sk) := hs.dep 9 _ rfl rfl
            refine ValWp.pure (v := .string (mkS (120 :: 32 :: (si ++ 9 :: 121 :: 10 :: sk)))) (fun K' hK' => ?_) ⟨rfl, rfl⟩
            have hcs : ¬ 9223372036854775807 < (mkS (120 :: 32 :: (si ++ [9, 121, 10]))).size + (mkS sk).size := by simp only [mkS_size, List.length_cons, List.length_append, List.length_nil]; omega
            have hcc : mkS (120 :: 32 :: (si ++ 9 :: 121 :: 10 :: sk)) = mkS (120 :: 32 :: (si ++ [9, 121, 10])) ++ mkS sk := by rw [show (120 :: 32 :: (si ++ 9 :: 121 :: 10 :: sk) : L) = (120 :: 32 :: (si ++ [9, 121, 10])) ++ (sk) by simp]; exact (mkS_add _ _).symm
            rw [hcc] at hK'
            clear hcc
            simp only [ValWp, execOp, Act.eval, e96, e100]
            go_simp
            all_goals exact hK'
          · -- 11: slot 102 := Op.binOp BinOp.add 9 t101 (const (Value.string { data := #[32, 122] })) 9
            refine OwesS.q rfl fun a w j u hC hb hs => ⟨rfl, ?_⟩
            have e101 : a.tmps.getD 101 undef = .string (mkS (120 :: 32 :: (si ++ 9 :: 121 :: 10 :: sk))) := hs.dep 10 _ rfl rfl
            refine ValWp.pure (v := .string (mkS (120 :: 32 :: (si ++ 9 :: 121 :: 10 :: (sk ++ [32, 122]))))) (fun K' hK' => ?_) ⟨rfl, rfl⟩
            have hcs : ¬ 9223372036854775807 < (mkS (120 :: 32 :: (si ++ 9 :: 121 :: 10 :: sk))).size + 2 := by simp only [mkS_size, List.length_cons, List.length_append]; omega
            have hcc : mkS (120 :: 32 :: (si ++ 9 :: 121 :: 10 :: (sk ++ [32, 122]))) = mkS (120 :: 32 :: (si ++ 9 :: 121 :: 10 :: sk)) ++ (⟨#[32, 122]⟩ : ByteArray) := by rw [show (120 :: 32 :: (si ++ 9 :: 121 :: 10 :: (sk ++ [32, 122])) : L) = (120 :: 32 :: (si ++ 9 :: 121 :: 10 :: sk)) ++ ([32, 122]) by simp]; exact (mkS_add _ _).symm
            rw [hcc] at hK'
            clear hcc
            simp only [ValWp, execOp, Act.eval, e101]
            go_simp
            all_goals exact hK'
          · -- 12: slot 103 := Op.move t16
            refine OwesS.q rfl fun a w j u hC hb hs => ⟨rfl, ?_⟩
            have e16 : a.tmps.getD 16 undef = .slice (some ⟨w4.heap.size, 0, none⟩) 3 3 := hs.free 16 rfl
            refine ValWp.pure (v := .slice (some ⟨w4.heap.size, 0, none⟩) 3 3) (fun K' hK' => ?_) ⟨rfl, rfl⟩
            simp only [ValWp, execOp, Act.eval, e16]
            go_simp
            all_goals exact hK'
          · -- 13: slot 104 := Op.call { value (Operand.func 8), args := #[t102, t103], argTypes := #[9, 26] }
            refine OwesS.w rfl fun a w u hC hl hs => ⟨rfl, fun K hK => ?_⟩
            have e102 : a.tmps.getD 102 undef = .string (mkS (120 :: 32 :: (si ++ 9 :: 121 :: 10 :: (sk ++ [32, 122])))) := hs.dep 11 _ rfl rfl
            have e103 : a.tmps.getD 103 undef = .slice (some ⟨w4.heap.size, 0, none⟩) 3 3 := hs.dep 12 _ rfl rfl
            refine wp_of_val ?_
            refine ValWp.call #[.string (mkS (120 :: 32 :: (si ++ 9 :: 121 :: 10 :: (sk ++ [32, 122])))), .slice (some ⟨w4.heap.size, 0, none⟩) 3 3] rfl rfl Tryz.func8 rfl rfl (by simp only [List.map_toArray, List.map_cons, List.map_nil, Act.eval, e102, e103]) ?_
            refine (HEV.out w hC.out).mono ?_
            rintro e w' ⟨rfl, hl⟩
            exact ⟨_, rfl, hK _ _ rfl (Lib.hid (hC.out.trans hl))⟩
          · -- 14: slot 90 := Op.move t104
            refine OwesS.q rfl fun a w j u hC hb hs => ⟨rfl, ?_⟩
            have e104 : a.tmps.getD 104 undef = .tuple #[.int .i64 n, .int .i64 fi] := hs.dep 13 _ rfl rfl
            refine ValWp.pure (v := .tuple #[.int .i64 n, .int .i64 fi]) (fun K' hK' => ?_) ⟨rfl, rfl⟩
            simp only [ValWp, execOp, Act.eval, e104]
            go_simp
            all_goals exact hK'
          · -- 15: slot 105 := Op.extract t90 0
            refine OwesS.q rfl fun a w j u hC hb hs => ⟨rfl, ?_⟩
            have e90 : a.tmps.getD 90 undef = .tuple #[.int .i64 n, .int .i64 fi] := hs.dep 14 _ rfl rfl
            refine ValWp.pure (v := .int .i64 n) (fun K' hK' => ?_) ⟨rfl, rfl⟩
            simp only [ValWp, execOp, Act.eval, e90]
            go_simp
            all_goals exact hK'
          · -- 16: slot 106 := Op.extract t90 1
            refine OwesS.q rfl fun a w j u hC hb hs => ⟨rfl, ?_⟩
            have e90 : a.tmps.getD 90 undef = .tuple #[.int .i64 n, .int .i64 fi] := hs.dep 14 _ rfl rfl
            refine ValWp.pure (v := .int .i64 fi) (fun K' hK' => ?_) ⟨rfl, rfl⟩
            simp only [ValWp, execOp, Act.eval, e90]
            go_simp
            all_goals exact hK'
          · -- 17: slot 18 := Op.assign t105
            refine OwesS.q rfl fun a w j u hC hb hs => ⟨rfl, ?_⟩
            have e105 : a.tmps.getD 105 undef = .int .i64 n := hs.dep 15 _ rfl rfl
            refine ValWp.pure (v := .int .i64 n) (fun K' hK' => ?_) ⟨rfl, rfl⟩
            simp only [ValWp, execOp, Act.eval, e105]
            go_simp
            all_goals exact hK'
          · -- 18: slot 19 := Op.assign t106
            refine OwesS.q rfl fun a w j u hC hb hs => ⟨rfl, ?_⟩
            have e106 : a.tmps.getD 106 undef = .int .i64 fi := hs.dep 16 _ rfl rfl
            refine ValWp.pure (v := .int .i64 fi) (fun K' hK' => ?_) ⟨rfl, rfl⟩
            simp only [ValWp, execOp, Act.eval, e106]
            go_simp
            all_goals exact hK'
        · intro a w u hC hl hd hsz hfree hs
          obtain ⟨u0, hu0⟩ : ∃ u, u = a.tmps.getD 0 undef := ⟨_, rfl⟩
          obtain ⟨u1, hu1⟩ : ∃ u, u = a.tmps.getD 1 undef := ⟨_, rfl⟩
          obtain ⟨u2, hu2⟩ : ∃ u, u = a.tmps.getD 2 undef := ⟨_, rfl⟩
          obtain ⟨u3, hu3⟩ : ∃ u, u = a.tmps.getD 3 undef := ⟨_, rfl⟩
          obtain ⟨u4, hu4⟩ : ∃ u, u = a.tmps.getD 4 undef := ⟨_, rfl⟩
          obtain ⟨u5, hu5⟩ : ∃ u, u = a.tmps.getD 5 undef := ⟨_, rfl⟩
          obtain ⟨u6, hu6⟩ : ∃ u, u = a.tmps.getD 6 undef := ⟨_, rfl⟩
          obtain ⟨u7, hu7⟩ : ∃ u, u = a.tmps.getD 7 undef := ⟨_, rfl⟩
          obtain ⟨u8, hu8⟩ : ∃ u, u = a.tmps.getD 8 undef := ⟨_, rfl⟩
          obtain ⟨u9, hu9⟩ : ∃ u, u = a.tmps.getD 9 undef := ⟨_, rfl⟩
          obtain ⟨u11, hu11⟩ : ∃ u, u = a.tmps.getD 11 undef := ⟨_, rfl⟩
          obtain ⟨u20, hu20⟩ : ∃ u, u = a.tmps.getD 20 undef := ⟨_, rfl⟩
          obtain ⟨u21, hu21⟩ : ∃ u, u = a.tmps.getD 21 undef := ⟨_, rfl⟩
          obtain ⟨u22, hu22⟩ : ∃ u, u = a.tmps.getD 22 undef := ⟨_, rfl⟩
          obtain ⟨u23, hu23⟩ : ∃ u, u = a.tmps.getD 23 undef := ⟨_, rfl⟩
          obtain ⟨u24, hu24⟩ : ∃ u, u = a.tmps.getD 24 undef := ⟨_, rfl⟩
          obtain ⟨u25, hu25⟩ : ∃ u, u = a.tmps.getD 25 undef := ⟨_, rfl⟩
          obtain ⟨u26, hu26⟩ : ∃ u, u = a.tmps.getD 26 undef := ⟨_, rfl⟩
          obtain ⟨u27, hu27⟩ : ∃ u, u = a.tmps.getD 27 undef := ⟨_, rfl⟩
          obtain ⟨u28, hu28⟩ : ∃ u, u = a.tmps.getD 28 undef := ⟨_, rfl⟩
          obtain ⟨u29, hu29⟩ : ∃ u, u = a.tmps.getD 29 undef := ⟨_, rfl⟩
          obtain ⟨u30, hu30⟩ : ∃ u, u = a.tmps.getD 30 undef := ⟨_, rfl⟩
          obtain ⟨u31, hu31⟩ : ∃ u, u = a.tmps.getD 31 undef := ⟨_, rfl⟩
          obtain ⟨u32, hu32⟩ : ∃ u, u = a.tmps.getD 32 undef := ⟨_, rfl⟩
          obtain ⟨u33, hu33⟩ : ∃ u, u = a.tmps.getD 33 undef := ⟨_, rfl⟩
          obtain ⟨u34, hu34⟩ : ∃ u, u = a.tmps.getD 34 undef := ⟨_, rfl⟩
          obtain ⟨u35, hu35⟩ : ∃ u, u = a.tmps.getD 35 undef := ⟨_, rfl⟩
          obtain ⟨u36, hu36⟩ : ∃ u, u = a.tmps.getD 36 undef := ⟨_, rfl⟩
          obtain ⟨u37, hu37⟩ : ∃ u, u = a.tmps.getD 37 undef := ⟨_, rfl⟩
          obtain ⟨u38, hu38⟩ : ∃ u, u = a.tmps.getD 38 undef := ⟨_, rfl⟩
          obtain ⟨u39, hu39⟩ : ∃ u, u = a.tmps.getD 39 undef := ⟨_, rfl⟩
          obtain ⟨u40, hu40⟩ : ∃ u, u = a.tmps.getD 40 undef := ⟨_, rfl⟩
          obtain ⟨u41, hu41⟩ : ∃ u, u = a.tmps.getD 41 undef := ⟨_, rfl⟩
          obtain ⟨u42, hu42⟩ : ∃ u, u = a.tmps.getD 42 undef := ⟨_, rfl⟩
          obtain ⟨u43, hu43⟩ : ∃ u, u = a.tmps.getD 43 undef := ⟨_, rfl⟩
          obtain ⟨u44, hu44⟩ : ∃ u, u = a.tmps.getD 44 undef := ⟨_, rfl⟩
          obtain ⟨u45, hu45⟩ : ∃ u, u = a.tmps.getD 45 undef := ⟨_, rfl⟩
          obtain ⟨u46, hu46⟩ : ∃ u, u = a.tmps.getD 46 undef := ⟨_, rfl⟩
          obtain ⟨u47, hu47⟩ : ∃ u, u = a.tmps.getD 47 undef := ⟨_, rfl⟩
          obtain ⟨u48, hu48⟩ : ∃ u, u = a.tmps.getD 48 undef := ⟨_, rfl⟩
          obtain ⟨u49, hu49⟩ : ∃ u, u = a.tmps.getD 49 undef := ⟨_, rfl⟩
          obtain ⟨u50, hu50⟩ : ∃ u, u = a.tmps.getD 50 undef := ⟨_, rfl⟩
          obtain ⟨u51, hu51⟩ : ∃ u, u = a.tmps.getD 51 undef := ⟨_, rfl⟩
          obtain ⟨u52, hu52⟩ : ∃ u, u = a.tmps.getD 52 undef := ⟨_, rfl⟩
          obtain ⟨u53, hu53⟩ : ∃ u, u = a.tmps.getD 53 undef := ⟨_, rfl⟩
          obtain ⟨u54, hu54⟩ : ∃ u, u = a.tmps.getD 54 undef := ⟨_, rfl⟩
          obtain ⟨u55, hu55⟩ : ∃ u, u = a.tmps.getD 55 undef := ⟨_, rfl⟩
          obtain ⟨u56, hu56⟩ : ∃ u, u = a.tmps.getD 56 undef := ⟨_, rfl⟩
          obtain ⟨u57, hu57⟩ : ∃ u, u = a.tmps.getD 57 undef := ⟨_, rfl⟩
          obtain ⟨u58, hu58⟩ : ∃ u, u = a.tmps.getD 58 undef := ⟨_, rfl⟩
          obtain ⟨u59, hu59⟩ : ∃ u, u = a.tmps.getD 59 undef := ⟨_, rfl⟩
          obtain ⟨u60, hu60⟩ : ∃ u, u = a.tmps.getD 60 undef := ⟨_, rfl⟩
          obtain ⟨u61, hu61⟩ : ∃ u, u = a.tmps.getD 61 undef := ⟨_, rfl⟩
          obtain ⟨u62, hu62⟩ : ∃ u, u = a.tmps.getD 62 undef := ⟨_, rfl⟩
          obtain ⟨u63, hu63⟩ : ∃ u, u = a.tmps.getD 63 undef := ⟨_, rfl⟩
          obtain ⟨u64, hu64⟩ : ∃ u, u = a.tmps.getD 64 undef := ⟨_, rfl⟩
          obtain ⟨u65, hu65⟩ : ∃ u, u = a.tmps.getD 65 undef := ⟨_, rfl⟩
          obtain ⟨u66, hu66⟩ : ∃ u, u = a.tmps.getD 66 undef := ⟨_, rfl⟩
          obtain ⟨u67, hu67⟩ : ∃ u, u = a.tmps.getD 67 undef := ⟨_, rfl⟩
          obtain ⟨u68, hu68⟩ : ∃ u, u = a.tmps.getD 68 undef := ⟨_, rfl⟩
          obtain ⟨u69, hu69⟩ : ∃ u, u = a.tmps.getD 69 undef := ⟨_, rfl⟩
          obtain ⟨u70, hu70⟩ : ∃ u, u = a.tmps.getD 70 undef := ⟨_, rfl⟩
          obtain ⟨u71, hu71⟩ : ∃ u, u = a.tmps.getD 71 undef := ⟨_, rfl⟩
          obtain ⟨u72, hu72⟩ : ∃ u, u = a.tmps.getD 72 undef := ⟨_, rfl⟩
          obtain ⟨u73, hu73⟩ : ∃ u, u = a.tmps.getD 73 undef := ⟨_, rfl⟩
          obtain ⟨u74, hu74⟩ : ∃ u, u = a.tmps.getD 74 undef := ⟨_, rfl⟩
          obtain ⟨u75, hu75⟩ : ∃ u, u = a.tmps.getD 75 undef := ⟨_, rfl⟩
          obtain ⟨u76, hu76⟩ : ∃ u, u = a.tmps.getD 76 undef := ⟨_, rfl⟩
          obtain ⟨u77, hu77⟩ : ∃ u, u = a.tmps.getD 77 undef := ⟨_, rfl⟩
          obtain ⟨u78, hu78⟩ : ∃ u, u = a.tmps.getD 78 undef := ⟨_, rfl⟩
          obtain ⟨u79, hu79⟩ : ∃ u, u = a.tmps.getD 79 undef := ⟨_, rfl⟩
          obtain ⟨u80, hu80⟩ : ∃ u, u = a.tmps.getD 80 undef := ⟨_, rfl⟩
          obtain ⟨u81, hu81⟩ : ∃ u, u = a.tmps.getD 81 undef := ⟨_, rfl⟩
          obtain ⟨u82, hu82⟩ : ∃ u, u = a.tmps.getD 82 undef := ⟨_, rfl⟩
          obtain ⟨u83, hu83⟩ : ∃ u, u = a.tmps.getD 83 undef := ⟨_, rfl⟩
          obtain ⟨u84, hu84⟩ : ∃ u, u = a.tmps.getD 84 undef := ⟨_, rfl⟩
          obtain ⟨u85, hu85⟩ : ∃ u, u = a.tmps.getD 85 undef := ⟨_, rfl⟩
          obtain ⟨u86, hu86⟩ : ∃ u, u = a.tmps.getD 86 undef := ⟨_, rfl⟩
          obtain ⟨u87, hu87⟩ : ∃ u, u = a.tmps.getD 87 undef := ⟨_, rfl⟩
          obtain ⟨u88, hu88⟩ : ∃ u, u = a.tmps.getD 88 undef := ⟨_, rfl⟩
          obtain ⟨u89, hu89⟩ : ∃ u, u = a.tmps.getD 89 undef := ⟨_, rfl⟩
          obtain ⟨u90, hu90⟩ : ∃ u, u = a.tmps.getD 90 undef := ⟨_, rfl⟩
          obtain ⟨u91, hu91⟩ : ∃ u, u = a.tmps.getD 91 undef := ⟨_, rfl⟩
          obtain ⟨u92, hu92⟩ : ∃ u, u = a.tmps.getD 92 undef := ⟨_, rfl⟩
          obtain ⟨u93, hu93⟩ : ∃ u, u = a.tmps.getD 93 undef := ⟨_, rfl⟩
          obtain ⟨u94, hu94⟩ : ∃ u, u = a.tmps.getD 94 undef := ⟨_, rfl⟩
          obtain ⟨u95, hu95⟩ : ∃ u, u = a.tmps.getD 95 undef := ⟨_, rfl⟩
          obtain ⟨u96, hu96⟩ : ∃ u, u = a.tmps.getD 96 undef := ⟨_, rfl⟩
          obtain ⟨u97, hu97⟩ : ∃ u, u = a.tmps.getD 97 undef := ⟨_, rfl⟩
          obtain ⟨u98, hu98⟩ : ∃ u, u = a.tmps.getD 98 undef := ⟨_, rfl⟩
          obtain ⟨u99, hu99⟩ : ∃ u, u = a.tmps.getD 99 undef := ⟨_, rfl⟩
          obtain ⟨u100, hu100⟩ : ∃ u, u = a.tmps.getD 100 undef := ⟨_, rfl⟩
          obtain ⟨u101, hu101⟩ : ∃ u, u = a.tmps.getD 101 undef := ⟨_, rfl⟩
          obtain ⟨u102, hu102⟩ : ∃ u, u = a.tmps.getD 102 undef := ⟨_, rfl⟩
          obtain ⟨u103, hu103⟩ : ∃ u, u = a.tmps.getD 103 undef := ⟨_, rfl⟩
          obtain ⟨u104, hu104⟩ : ∃ u, u = a.tmps.getD 104 undef := ⟨_, rfl⟩
          obtain ⟨u105, hu105⟩ : ∃ u, u = a.tmps.getD 105 undef := ⟨_, rfl⟩
          obtain ⟨u106, hu106⟩ : ∃ u, u = a.tmps.getD 106 undef := ⟨_, rfl⟩
          obtain ⟨u107, hu107⟩ : ∃ u, u = a.tmps.getD 107 undef := ⟨_, rfl⟩
          obtain ⟨u108, hu108⟩ : ∃ u, u = a.tmps.getD 108 undef := ⟨_, rfl⟩
          obtain ⟨u109, hu109⟩ : ∃ u, u = a.tmps.getD 109 undef := ⟨_, rfl⟩
          obtain ⟨u110, hu110⟩ : ∃ u, u = a.tmps.getD 110 undef := ⟨_, rfl⟩
          obtain ⟨u111, hu111⟩ : ∃ u, u = a.tmps.getD 111 undef := ⟨_, rfl⟩
          obtain ⟨u112, hu112⟩ : ∃ u, u = a.tmps.getD 112 undef := ⟨_, rfl⟩
          obtain ⟨u113, hu113⟩ : ∃ u, u = a.tmps.getD 113 undef := ⟨_, rfl⟩
          obtain ⟨u114, hu114⟩ : ∃ u, u = a.tmps.getD 114 undef := ⟨_, rfl⟩
          obtain ⟨u115, hu115⟩ : ∃ u, u = a.tmps.getD 115 undef := ⟨_, rfl⟩
          obtain ⟨u116, hu116⟩ : ∃ u, u = a.tmps.getD 116 undef := ⟨_, rfl⟩
          obtain ⟨u117, hu117⟩ : ∃ u, u = a.tmps.getD 117 undef := ⟨_, rfl⟩
          obtain ⟨u118, hu118⟩ : ∃ u, u = a.tmps.getD 118 undef := ⟨_, rfl⟩
          obtain ⟨u119, hu119⟩ : ∃ u, u = a.tmps.getD 119 undef := ⟨_, rfl⟩
          obtain ⟨u120, hu120⟩ : ∃ u, u = a.tmps.getD 120 undef := ⟨_, rfl⟩
          obtain ⟨u121, hu121⟩ : ∃ u, u = a.tmps.getD 121 undef := ⟨_, rfl⟩
          obtain ⟨u122, hu122⟩ : ∃ u, u = a.tmps.getD 122 undef := ⟨_, rfl⟩
          obtain ⟨u123, hu123⟩ : ∃ u, u = a.tmps.getD 123 undef := ⟨_, rfl⟩
          obtain ⟨u124, hu124⟩ : ∃ u, u = a.tmps.getD 124 undef := ⟨_, rfl⟩
          obtain ⟨u125, hu125⟩ : ∃ u, u = a.tmps.getD 125 undef := ⟨_, rfl⟩
          obtain ⟨u126, hu126⟩ : ∃ u, u = a.tmps.getD 126 undef := ⟨_, rfl⟩
          obtain ⟨u127, hu127⟩ : ∃ u, u = a.tmps.getD 127 undef := ⟨_, rfl⟩
          obtain ⟨u128, hu128⟩ : ∃ u, u = a.tmps.getD 128 undef := ⟨_, rfl⟩
          have hal : AllAt a 0 [u0, u1, u2, u3, u4, u5, u6, u7, u8, u9, .bool false, u11, .slice (some ⟨w1.heap.size, 0, none⟩) 18 18, .slice (some ⟨w1.heap.size + 1, 0, none⟩) 18 18, .int .i64 (ii : Int), .int .i64 (kk : Int), .slice (some ⟨w4.heap.size, 0, none⟩) 3 3, .string (mkS (40 :: 120 :: 32 :: (si ++ 32 :: 121 :: 41 :: 32 :: (sk ++ [32, 122])))), .int .i64 n, .int .i64 fi, u20, u21, u22, u23, u24, u25, u26, u27, u28, u29, u30, u31, u32, u33, u34, u35, u36, u37, u38, u39, u40, u41, u42, u43, u44, u45, u46, u47, u48, u49, u50, u51, u52, u53, u54, u55, u56, u57, u58, u59, u60, u61, u62, u63, u64, u65, u66, u67, u68, u69, u70, u71, u72, u73, u74, u75, u76, u77, u78, u79, u80, u81, u82, u83, u84, u85, u86, u87, u88, u89, u90, u91, u92, u93, u94, u95, u96, u97, u98, u99, u100, u101, u102, u103, u104, u105, u106, u107, u108, u109, u110, u111, u112, u113, u114, u115, u116, u117, u118, u119, u120, u121, u122, u123, u124, u125, u126, u127, u128] := ⟨hu0.symm, hu1.symm, hu2.symm, hu3.symm, hu4.symm, hu5.symm, hu6.symm, hu7.symm, hu8.symm, hu9.symm, hfree 10 rfl, hu11.symm, hfree 12 rfl, hfree 13 rfl, hfree 14 rfl, hfree 15 rfl, hfree 16 rfl, hfree 17 rfl, hs 17 _ rfl, hs 18 _ rfl, hu20.symm, hu21.symm, hu22.symm, hu23.symm, hu24.symm, hu25.symm, hu26.symm, hu27.symm, hu28.symm, hu29.symm, hu30.symm, hu31.symm, hu32.symm, hu33.symm, hu34.symm, hu35.symm, hu36.symm, hu37.symm, hu38.symm, hu39.symm, hu40.symm, hu41.symm, hu42.symm, hu43.symm, hu44.symm, hu45.symm, hu46.symm, hu47.symm, hu48.symm, hu49.symm, hu50.symm, hu51.symm, hu52.symm, hu53.symm, hu54.symm, hu55.symm, hu56.symm, hu57.symm, hu58.symm, hu59.symm, hu60.symm, hu61.symm, hu62.symm, hu63.symm, hu64.symm, hu65.symm, hu66.symm, hu67.symm, hu68.symm, hu69.symm, hu70.symm, hu71.symm, hu72.symm, hu73.symm, hu74.symm, hu75.symm, hu76.symm, hu77.symm, hu78.symm, hu79.symm, hu80.symm, hu81.symm, hu82.symm, hu83.symm, hu84.symm, hu85.symm, hu86.symm, hu87.symm, hu88.symm, hu89.symm, hu90.symm, hu91.symm, hu92.symm, hu93.symm, hu94.symm, hu95.symm, hu96.symm, hu97.symm, hu98.symm, hu99.symm, hu100.symm, hu101.symm, hu102.symm, hu103.symm, hu104.symm, hu105.symm, hu106.symm, hu107.symm, hu108.symm, hu109.symm, hu110.symm, hu111.symm, hu112.symm, hu113.symm, hu114.symm, hu115.symm, hu116.symm, hu117.symm, hu118.symm, hu119.symm, hu120.symm, hu121.symm, hu122.symm, hu123.symm, hu124.symm, hu125.symm, hu126.symm, hu127.symm, hu128.symm, trivial⟩
          have hlit := fun h => act_lit hd h hal
          rw [hlit hsz]
          clear hlit hal hd hsz hfree hs hu0 hu1 hu2 hu3 hu4 hu5 hu6 hu7 hu8 hu9 hu11 hu20 hu21 hu22 hu23 hu24 hu25 hu26 hu27 hu28 hu29 hu30 hu31 hu32 hu33 hu34 hu35 hu36 hu37 hu38 hu39 hu40 hu41 hu42 hu43 hu44 hu45 hu46 hu47 hu48 hu49 hu50 hu51 hu52 hu53 hu54 hu55 hu56 hu57 hu58 hu59 hu60 hu61 hu62 hu63 hu64 hu65 hu66 hu67 hu68 hu69 hu70 hu71 hu72 hu73 hu74 hu75 hu76 hu77 hu78 hu79 hu80 hu81 hu82 hu83 hu84 hu85 hu86 hu87 hu88 hu89 hu90 hu91 hu92 hu93 hu94 hu95 hu96 hu97 hu98 hu99 hu100 hu101 hu102 hu103 hu104 hu105 hu106 hu107 hu108 hu109 hu110 hu111 hu112 hu113 hu114 hu115 hu116 hu117 hu118 hu119 hu120 hu121 hu122 hu123 hu124 hu125 hu126 hu127 hu128
          clear hl
          obtain ⟨w9, hw9⟩ : ∃ u, u = w := ⟨_, rfl⟩
          rw [← hw9] at hC ⊢
          clear hw9
          have HLW := Lib.hid (HLW.out.trans hC.out)
          have HC := Lib.hid (HC.out.later hC.out)
          have HEV := Lib.hid (HEV.out.later hC.out)
          have HEL := Lib.hid (HEL.out.later hC.out)
          clear hC
          have HW9 := HEL
          rcases HF.out with h0 | h0
          · subst h0
            go_wp2_with (go_at_call 8; (with_reducible refine (HW9.out _ (Later.refl _)).mono ?_); rintro e w10 ⟨rfl, hl10⟩)
            go_ret
            exact ⟨rfl, HLW.out.trans hl10⟩
          · subst h0
            go_wp2_with (go_at_call 8; (with_reducible refine (HW9.out _ (Later.refl _)).mono ?_); rintro e w10 ⟨rfl, hl10⟩)
            go_ret
            exact ⟨rfl, HLW.out.trans hl10⟩
set_option maxHeartbeats 1600000 in
set_option maxRecDepth 100000 in
theorem walk (w : World) (hg : Tb0 w) (x : Int) (hx : (Lit.int .i64 x).wf = true) (y : Int) (hy : (Lit.int .i64 y).wf = true) (z : Int) (hz : (Lit.int .i64 z).wf = true) (a : Int) (ha : (Lit.int .u8 a).wf = true) (b : Int) (hb : (Lit.int .u8 b).wf = true) :
    Calls Tryz.prog 4 #[.int .i64 x, .int .i64 y, .int .i64 z, .int .u8 a, .int .u8 b] w fun e w' => e = .returned (.bool true) ∧ Below w.heap.size w w' := by
  obtain ⟨x0, x1⟩ := bounds_i64 hx
  obtain ⟨y0, y1⟩ := bounds_i64 hy
  obtain ⟨z0, z1⟩ := bounds_i64 hz
  obtain ⟨a0, a1⟩ := bounds_u8 ha
  obtain ⟨b0, b1⟩ := bounds_u8 hb
  clear hx hy hz ha hb
  by_cases hn : x = -9223372036854775808 ∨ y = -9223372036854775808 ∨ z = -9223372036854775808
  · have HA := Lib.hid (awake_v w hg)
    clear hg
    by_cases hx : x = -9223372036854775808
    · have n1 : (x == -9223372036854775808) = true := by simp [hx]
      clear hn x0 x1 y0 y1 z0 z1 hx
      go_enter Tryz.func4, Tryz.ntmps4
      go_wp2_with (go_at_call 6; (with_reducible refine HA.out.mono ?_); rintro e w1 ⟨rfl, hl1⟩)
      go_ret
      exact ⟨rfl, hl1⟩
    · have n1 : (x == -9223372036854775808) = false := by simp [hx]
      by_cases hy : y = -9223372036854775808
      · have n2 : (y == -9223372036854775808) = true := by simp [hy]
        clear hn x0 x1 y0 y1 z0 z1 hx hy
        go_enter Tryz.func4, Tryz.ntmps4
        go_wp2_with (go_at_call 6; (with_reducible refine HA.out.mono ?_); rintro e w1 ⟨rfl, hl1⟩)
        go_ret
        exact ⟨rfl, hl1⟩
      · have n2 : (y == -9223372036854775808) = false := by simp [hy]
        have n3 : (z == -9223372036854775808) = true := by simp; omega
        clear hn x0 x1 y0 y1 z0 z1 hx hy
        go_enter Tryz.func4, Tryz.ntmps4
        go_wp2_with (go_at_call 6; (with_reducible refine HA.out.mono ?_); rintro e w1 ⟨rfl, hl1⟩)
        go_ret
        exact ⟨rfl, hl1⟩
  · have ea : a.tmod 18 = (((a.toNat % 18 : Nat)) : Int) := by
      rw [show a = ((a.toNat : Nat) : Int) by omega]; rfl
    have eb : b.tmod 18 = (((b.toNat % 18 : Nat)) : Int) := by
      rw [show b = ((b.toNat : Nat) : Int) by omega]; rfl
    exact walkIn w hg x y z (by unfold In; omega) (by unfold In; omega) (by unfold In; omega) a b ⟨a.toNat % 18, Nat.mod_lt _ (by omega)⟩ ⟨b.toNat % 18, Nat.mod_lt _ (by omega)⟩ a0 a1 b0 b1 ea eb
end arithOrder
end Go.Proofs.YtcidklbeafjmoaaGreatDoor
