/- A number's digits are that number. No program. -/
import Derived.Test.YtcidklbeafjmoaaGreatDoorAz
namespace Go.Proofs.YtcidklbeafjmoaaGreatDoor
open Go.RowKit Go.Maps
namespace Ar
theorem digit_is : ∀ d : Fin 10, isD 10 (UInt8.ofNat (48 + d.1)) = true ∧ dv (UInt8.ofNat (48 + d.1)) = d.1 ∧ nm (UInt8.ofNat (48 + d.1)) = true ∧ blank (UInt8.ofNat (48 + d.1)) = false := by decide
theorem dec_ind {p : Nat → L → Prop} (h0 : ∀ n, n < 10 → p n [UInt8.ofNat (48 + n)]) (h1 : ∀ n, ¬ n < 10 → p (n / 10) (decL (n / 10)) → p n (decL (n / 10) ++ [UInt8.ofNat (48 + n % 10)])) : ∀ n, p n (decL n) := by
  intro n
  induction n using Nat.strongRecOn with
  | ind n ih =>
    by_cases h : n < 10
    · rw [dec_small h]; exact h0 n h
    · rw [dec_big h]; exact h1 n h (ih (n / 10) (by omega))
theorem dec_all {q : UInt8 → Bool} (hq : ∀ d : Fin 10, q (UInt8.ofNat (48 + d.1)) = true) (n : Nat) : (decL n).all q = true :=
  dec_ind (p := fun _ l => l.all q = true) (fun n h => by rw [List.all_cons, show q (UInt8.ofNat (48 + n)) = true from hq ⟨n, h⟩]; rfl) (fun n _ ih => by rw [List.all_append, ih, List.all_cons, show q (UInt8.ofNat (48 + n % 10)) = true from hq ⟨n % 10, Nat.mod_lt _ (by omega)⟩]; rfl) n
theorem dec_val (n : Nat) : val 10 (decL n) = n :=
  dec_ind (p := fun n l => val 10 l = n) (fun n h => by unfold val; simp only [List.foldl_cons, List.foldl_nil]; rw [(digit_is ⟨n, h⟩).2.1]; simp) (fun n _ ih => by rw [val_snoc, ih, (digit_is ⟨n % 10, Nat.mod_lt _ (by omega)⟩).2.1]; dsimp only; omega) n
theorem dec_head (n : Nat) : ∃ c r, decL n = c :: r ∧ 48 ≤ c.toNat ∧ c.toNat ≤ 57 ∧ (1 ≤ n → 49 ≤ c.toNat) :=
  dec_ind (p := fun n l => ∃ c r, l = c :: r ∧ 48 ≤ c.toNat ∧ c.toNat ≤ 57 ∧ (1 ≤ n → 49 ≤ c.toNat)) (fun n h => by
    have := byte_of n h
    exact ⟨_, _, rfl, by omega, by omega, fun _ => by omega⟩) (fun n h ih => by
    obtain ⟨c, r, e, h1, h2, h3⟩ := ih
    exact ⟨c, r ++ [_], by rw [e]; rfl, h1, h2, fun _ => h3 (by omega)⟩) n
theorem num_dec (a : Nat) (ha : a < 9223372036854775808) : num (decL a) = some a := by
  by_cases h0 : a = 0
  · subst h0
    rw [dec_small (by omega)]
    decide
  · obtain ⟨c, r, e, h1, h2, h3⟩ := dec_head a
    have h3 := h3 (by omega)
    have hc : (48 : UInt8) ≠ c := fun e => by rw [← e] at h3; exact absurd h3 (by decide)
    have p0 : ∀ u, Lib.hasPrefix (decL a) (48 :: u) = false := fun u => by
      rw [e]
      unfold Lib.hasPrefix
      rw [List.isPrefixOf_cons_cons, show ((48 : UInt8) == c) = false from beq_eq_false_iff_ne.2 hc]
      rfl
    unfold num
    rw [p0, p0, p0]
    simp only [Bool.or_false, Bool.false_eq_true, if_false]
    rw [if_pos ⟨by rw [e]; simp, dec_all (fun d => (digit_is d).1) a, by rw [dec_val]; exact ha⟩, dec_val]
theorem trim_pad (p l q : L) (hp : p.all blank = true) (hq : q.all blank = true) (hl : l.all (fun c => !blank c) = true) (h0 : l ≠ []) : trim (p ++ l ++ q) = l := by
  have hall := List.all_eq_true.1 hl
  have e : trim (p ++ l ++ q) = (((p ++ l ++ q).reverse.dropWhile blank).reverse).dropWhile blank := rfl
  rw [e, List.reverse_append, List.reverse_append]
  have h1 : (q.reverse ++ (l.reverse ++ p.reverse)).dropWhile blank = l.reverse ++ p.reverse := by
    rw [List.dropWhile_append_of_pos (fun a ha => List.all_eq_true.1 hq a (List.mem_reverse.1 ha))]
    cases hr : l.reverse with
    | nil => rw [List.reverse_eq_nil_iff] at hr; exact absurd hr h0
    | cons c r =>
      have hc : blank c = false := by
        have := hall c (by rw [← List.mem_reverse, hr]; simp)
        simpa using this
      rw [List.cons_append, List.dropWhile_cons, hc]
      rfl
  rw [h1, List.reverse_append, List.reverse_reverse, List.reverse_reverse]
  rw [List.dropWhile_append_of_pos (fun a ha => List.all_eq_true.1 hp a ha)]
  cases l with
  | nil => exact absurd rfl h0
  | cons c r =>
    have hc : blank c = false := by simpa using hall c (by simp)
    rw [List.dropWhile_cons, hc]
    rfl
theorem numT_plain (x : Int) : (numT x).all (fun c => !blank c) = true ∧ numT x ≠ [] := by
  have hd : ∀ n, (decL n).all (fun c => !blank c) = true := fun n => dec_all (fun d => by rw [(digit_is d).2.2.2]; rfl) n
  unfold numT
  split
  · exact ⟨by rw [List.all_cons, hd]; decide, by simp⟩
  · obtain ⟨c, r, e, _⟩ := dec_head x.toNat
    exact ⟨hd _, by rw [e]; simp⟩
theorem numV_numT (x : Int) (h0 : -9223372036854775808 < x) (h1 : x < 9223372036854775808) (p q : L) (hp : p.all blank = true) (hq : q.all blank = true) : numV (p ++ numT x ++ q) = some x := by
  have ht := trim_pad p (numT x) q hp hq (numT_plain x).1 (numT_plain x).2
  unfold numV
  rw [ht]
  dsimp only
  rw [if_neg (numT_plain x).2]
  unfold numT
  by_cases hx : x < 0
  · rw [if_pos hx]
    have hpre : Lib.hasPrefix (45 :: decL (-x).toNat) [45] = true := rfl
    rw [if_pos hpre]
    have htr : Lib.trimPrefix (45 :: decL (-x).toNat) [45] = decL (-x).toNat := by unfold Lib.trimPrefix; rw [if_pos hpre]; rfl
    rw [htr, num_dec _ (by omega)]
    simp only [Option.map_some]
    rw [w64 _ (by omega)]
    congr 1
    omega
  · rw [if_neg hx]
    obtain ⟨c, r, e, h2, h3, _⟩ := dec_head x.toNat
    have hn : ∀ k : UInt8, k.toNat < 48 → Lib.hasPrefix (decL x.toNat) [k] = false := fun k hk => by
      rw [e]
      unfold Lib.hasPrefix
      rw [List.isPrefixOf_cons_cons, show (k == c) = false from beq_eq_false_iff_ne.2 (fun e => by rw [e] at hk; omega)]
      rfl
    rw [hn 45 (by decide)]
    simp only [Bool.false_eq_true, if_false]
    have htr : Lib.trimPrefix (decL x.toNat) [43] = decL x.toNat := by unfold Lib.trimPrefix; rw [hn 43 (by decide)]; rfl
    rw [htr, num_dec _ (by omega)]
    simp only [Option.map_some]
    congr 1
    omega
theorem numV_own (x : Int) (h0 : -9223372036854775808 < x) (h1 : x < 9223372036854775808) : numV (numT x) = some x := by
  have := numV_numT x h0 h1 [] [] rfl rfl
  rwa [List.nil_append, List.append_nil] at this
/-- As ok, by program; the names that may stand in it. -/
def okB (ns : List L) : E → Nat → Nat → Bool
  | .num t n, _, _ => num t == some n
  | .var t, _, _ => ns.contains t
  | .dol t, _, _ => ns.contains t
  | .brc t, _, _ => ns.contains t
  | .un t a, d, _ => ([[33], [126], [43], [45]] : List L).contains t && decide (d < 40) && okB ns a (d + 1) 11
  | .bin t a b, d, l => decide (0 ≤ rowOf t) && decide ((l : Int) ≤ rowOf t + 1) && okB ns a d ((rowOf t).toNat + 1) && okB ns b d ((rowOf t).toNat + 2)
  | .par a, d, _ => decide (d < 40) && okB ns a (d + 1) 0
  | .cond a b c, d, l => l == 0 && decide (d < 40) && okB ns a d 1 && okB ns b (d + 1) 0 && okB ns c (d + 1) 0
theorem ok_of {vs : Vars} {ns : List L} (hn : ∀ t ∈ ns, nameB t = true ∧ (look vs t).isSome = true) : ∀ (e : E) (d l : Nat), okB ns e d l = true → ok vs e d l := by
  intro e
  induction e with
  | num t n => intro d l h; exact eq_of_beq h
  | var t => intro d l h; exact hn t (List.contains_iff_mem.1 h)
  | dol t => intro d l h; exact hn t (List.contains_iff_mem.1 h)
  | brc t => intro d l h; exact hn t (List.contains_iff_mem.1 h)
  | un t a ih =>
    intro d l h
    simp only [okB, Bool.and_eq_true, decide_eq_true_eq] at h
    exact ⟨List.contains_iff_mem.1 h.1.1, h.1.2, ih _ _ h.2⟩
  | bin t a b iha ihb =>
    intro d l h
    simp only [okB, Bool.and_eq_true, decide_eq_true_eq] at h
    exact ⟨h.1.1.1, h.1.1.2, iha _ _ h.1.2, ihb _ _ h.2⟩
  | par a ih =>
    intro d l h
    simp only [okB, Bool.and_eq_true, decide_eq_true_eq] at h
    exact ⟨h.1, ih _ _ h.2⟩
  | cond a b c iha ihb ihc =>
    intro d l h
    simp only [okB, Bool.and_eq_true, decide_eq_true_eq, beq_iff_eq] at h
    exact ⟨h.1.1.1.1, h.1.1.1.2, iha _ _ h.1.1.2, ihb _ _ h.1.2, ihc _ _ h.2⟩
end Ar
end Go.Proofs.YtcidklbeafjmoaaGreatDoor
