/- The document's examples. No premises. -/
import Derived.Test.YtcidklbeafjmoaaGreatDoorAw
import Derived.Test.YtcidklbeafjmoaaGreatDoorAx
namespace Go.Proofs.YtcidklbeafjmoaaGreatDoor
open Go.RowKit Go.Maps
namespace Ar
instance okDec (vs : Vars) : ∀ (e : E) (d l : Nat), Decidable (ok vs e d l)
  | .num t n, _, _ => inferInstanceAs (Decidable (num t = some n))
  | .var t, _, _ => inferInstanceAs (Decidable (nameB t = true ∧ (look vs t).isSome = true))
  | .dol t, _, _ => inferInstanceAs (Decidable (nameB t = true ∧ (look vs t).isSome = true))
  | .brc t, _, _ => inferInstanceAs (Decidable (nameB t = true ∧ (look vs t).isSome = true))
  | .un t a, d, _ => @instDecidableAnd _ _ (inferInstanceAs (Decidable (t ∈ [[33], [126], [43], [45]]))) (@instDecidableAnd _ _ (inferInstanceAs (Decidable (d < 40))) (okDec vs a (d + 1) 11))
  | .bin t a b, d, l => @instDecidableAnd _ _ (inferInstanceAs (Decidable (0 ≤ rowOf t))) (@instDecidableAnd _ _ (inferInstanceAs (Decidable ((l : Int) ≤ rowOf t + 1))) (@instDecidableAnd _ _ (okDec vs a d _) (okDec vs b d _)))
  | .par a, d, _ => @instDecidableAnd _ _ (inferInstanceAs (Decidable (d < 40))) (okDec vs a (d + 1) 0)
  | .cond a b c, d, l => @instDecidableAnd _ _ (inferInstanceAs (Decidable (l = 0))) (@instDecidableAnd _ _ (inferInstanceAs (Decidable (d < 40))) (@instDecidableAnd _ _ (okDec vs a d 1) (@instDecidableAnd _ _ (okDec vs b (d + 1) 0) (okDec vs c (d + 1) 0))))
theorem lx_of {n : Nat} {l : L} {ts : List L} (h : lexF n l = some ts) : Lx l ts := ⟨n, h⟩
/-- What Eval gives. -/
def EvalIs (W : World) (l : L) (v : Value) (n : Int) (e : Nat) : Prop := Calls Tryz.prog 8 #[.string (mkS l), v] W fun r W' => r = .returned (.tuple #[.int .i64 n, .int .i64 (e : Int)]) ∧ Later W W'
theorem eval_is {W : World} (hT : Tb0 W) {v : Value} {vs : Vars} (hV : Vars0 W v vs) {l : L} (hl : l.length ≤ 4000) (e : E) {n : Int} {f : Nat} (hx : Lx l (toks e)) (ho : ok vs e 0 0) (he : ev vs e 0 0 = (n, f)) : EvalIs W l v (if f = 0 then n else 0) f := by
  have := eval_of hT hV hl e hx ho
  rw [he] at this
  exact this
theorem no_vars (W : World) : Vars0 W (.slice none 0 0) [] := ⟨.inl ⟨rfl, rfl⟩, fun p h => by simp at h, by simp⟩
def e1 : E := .bin [43] (.num [49] 1) (.bin [42] (.num [50] 2) (.num [51] 3))
def e2 : E := .cond (.var [120]) (.bin [47] (.num [49] 1) (.num [48] 0)) (.num [53] 5)
def e3 : E := .bin [47] (.num [49] 1) (.num [48] 0)
def e4 : E := .bin [43] (.dol [120]) (.var [120])
def v4 : Vars := [([120], [32, 45, 52])]
theorem ex1 {W : World} (hT : Tb0 W) : EvalIs W [49, 43, 50, 42, 51] (.slice none 0 0) 7 0 :=
  eval_is hT (no_vars W) (by decide) e1 (n := 7) (f := 0) (lx_of (n := 9) (by decide +kernel)) (by decide +kernel) (by decide +kernel)
theorem ex2 {W : World} (hT : Tb0 W) : EvalIs W [120, 32, 63, 32, 49, 47, 48, 32, 58, 32, 53] (.slice none 0 0) 5 0 :=
  eval_is hT (no_vars W) (by decide) e2 (n := 5) (f := 0) (lx_of (n := 20) (by decide +kernel)) (by decide +kernel) (by decide +kernel)
theorem ex3 {W : World} (hT : Tb0 W) : EvalIs W [49, 47, 48] (.slice none 0 0) 0 22 :=
  eval_is hT (no_vars W) (by decide) e3 (n := 1) (f := 22) (lx_of (n := 9) (by decide +kernel)) (by decide +kernel) (by decide +kernel)
theorem one_var (W : World) (N : Nat) (hN : N = W.heap.size) : Vars0 (W.alloc (.cells #[.string ⟨#[120]⟩, .string ⟨#[32, 45, 52]⟩] 25)) (.slice (some ⟨N, 0, none⟩) 1 1) v4 := by
  subst hN
  exact ⟨.inr ⟨W.heap.size, rfl, heap_alloc_new W _⟩, by decide, by decide⟩
theorem ex4 {W : World} (hT : Tb0 W) {v : Value} (hV : Vars0 W v v4) : EvalIs W [36, 120, 43, 120] v (-8) 0 :=
  eval_is hT hV (by decide) e4 (n := -8) (f := 0) (lx_of (n := 9) (by decide +kernel)) (by decide +kernel) (by decide +kernel)
theorem ex5 (W : World) : Calls Tryz.prog 9 #[.string ⟨#[48, 120, 49, 70]⟩] W fun e W' => e = .returned (.tuple #[.int .i64 31, .bool true]) ∧ Later W W' :=
  numV_v [48, 120, 49, 70] 31 (by decide +kernel) (by decide) W
theorem evalC {W : World} {l : L} {v : Value} {n : Int} {e : Nat} (h : EvalIs W l v n e) (s : ByteArray) (hs : s = mkS l) (ei : Int) (hei : ei = (e : Int)) : Calls Tryz.prog 8 #[.string s, v] W fun r W' => r = .returned (.tuple #[.int .i64 n, .int .i64 ei]) ∧ Later W W' := by subst hs; subst hei; exact h
set_option maxHeartbeats 1600000 in
set_option maxRecDepth 100000 in
theorem awake_v (W : World) (hT : Tb0 W) : Calls Tryz.prog 6 #[] W fun e W' => e = .returned (.bool true) ∧ Later W W' := by
  have HT := Lib.hid hT
  clear hT
  go_enter Tryz.func6, Tryz.ntmps6
  go_wp2_with (first
    | (go_at_call 8; (with_reducible refine (evalC (ex1 HT.out) ⟨#[49, 43, 50, 42, 51]⟩ rfl 0 rfl).mono ?_); rintro e w1 ⟨rfl, hl1⟩; have HL1 := Lib.hid hl1; have HT1 := Lib.hid (HT.out.later hl1); clear hl1)
    | (go_at_call 8; (with_reducible refine (evalC (ex2 HT1.out) ⟨#[120, 32, 63, 32, 49, 47, 48, 32, 58, 32, 53]⟩ rfl 0 rfl).mono ?_); rintro e w2 ⟨rfl, hl2⟩; have HL2 := Lib.hid hl2; have HT2 := Lib.hid (HT1.out.later hl2); clear hl2)
    | (go_at_call 8; (with_reducible refine (evalC (ex3 HT2.out) ⟨#[49, 47, 48]⟩ rfl 22 rfl).mono ?_); rintro e w3 ⟨rfl, hl3⟩; have HL3 := Lib.hid hl3; have HT3 := Lib.hid (HT2.out.later hl3); clear hl3)
    | (go_at_call 8; (with_reducible refine (evalC (ex4 (HT3.out.later (Later.alloc w3 (.cells #[.string ⟨#[120]⟩, .string ⟨#[32, 45, 52]⟩] 25))) (one_var w3 _ rfl)) ⟨#[36, 120, 43, 120]⟩ rfl 0 rfl).mono ?_); rintro e w4 ⟨rfl, hl4⟩; have HL4 := Lib.hid hl4; clear hl4)
    | (go_at_call 9; (with_reducible refine (ex5 _).mono ?_); rintro e w5 ⟨rfl, hl5⟩; have HL5 := Lib.hid hl5; clear hl5))
  go_ret
  exact ⟨rfl, HL1.out.trans (HL2.out.trans (HL3.out.trans ((Later.alloc _ _).trans (HL4.out.trans HL5.out))))⟩
end Ar
end Go.Proofs.YtcidklbeafjmoaaGreatDoor
