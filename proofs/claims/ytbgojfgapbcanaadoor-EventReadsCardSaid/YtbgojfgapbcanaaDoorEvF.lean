/- Layer 4's few; what an append leaves; bounds of rows. -/
import Derived.Test.YtbgojfgapbcanaaDoorEvJ
namespace Go.Proofs.YtbgojfgapbcanaaDoor
open Go.RowKit
def fewB (n : Nat) (l : List (List UInt8)) : Bool := l.all (fun r => decide (r.length ≤ 200)) && decide (n ≤ 30)
set_option maxRecDepth 100000 in
theorem few_v (A : Option Addr) (n cap B : Nat) (l : List (List UInt8)) (w : World) (hr : Rd w B A n (l.map sv)) (hn : n ≤ 9223372036854775807) :
    Calls Tryd.prog 9 #[.slice A n cap] w fun e w' => e = .returned (.bool (fewB n l)) ∧ w = w' := by
  have HL := Lib.hid hr.len_map
  have HR := Lib.hid hr
  clear hr
  go_enter Tryd.func9, Tryd.ntmps9
  go_wp2
  go_loop [3] (fun i => ∃ k : Nat, k ≤ n ∧ i = .int .i64 (k : Int) ∧ ∀ (j : Nat) (h : j < l.length), j < k → l[j].length ≤ 200) (fun i => n - (intOf i).toNat)
  case atStart => exact ⟨0, by omega, rfl, fun j _ h => by omega⟩
  case round =>
    obtain ⟨k, hk, rfl, hall⟩ := hrel
    have HALL := Lib.hid hall
    clear hall
    by_cases hkn : k < n
    · obtain ⟨ad, hl1, rfl, _, hc⟩ := HR.out.at_map (k := k) hkn
      obtain ⟨x, hx⟩ : ∃ x, x = l[k] := ⟨_, rfl⟩
      rw [← hx] at hc
      have hc1 : w.cell? (ad.add k) = some (.string (mkS x)) := hc
      have hs := mkS_size x
      obtain ⟨z, hz⟩ : ∃ z, z = x.length := ⟨_, rfl⟩
      rw [← hz] at hs
      have HX := Lib.hid hx
      have HZ := Lib.hid hz
      clear hc hx hz
      by_cases h6 : 200 < z
      · have hf : fewB n l = false := by
          unfold fewB
          rw [Bool.and_eq_false_iff]
          left
          rw [List.all_eq_false]
          exact ⟨_, List.getElem_mem hl1, by rw [← HX.out, ← HZ.out]; simp; omega⟩
        have HF := Lib.hid hf
        clear hf
        go_wp2
        go_ret
        exact ⟨by rw [HF.out]; rfl, rfl⟩
      · go_wp2
        go_round
        case rel => exact ⟨k + 1, by omega, by go_num, fun j hj hjk => by
          by_cases e : j = k
          · subst e; rw [← HX.out, ← HZ.out]; omega
          · exact HALL.out j hj (by omega)⟩
        case measure => simp [intOf]; omega
    · have hf : fewB n l = decide ((n : Int) ≤ 30) := by
        unfold fewB
        rw [List.all_eq_true.2 fun r hr => ?_, Bool.true_and, decide_eq_decide]
        · omega
        · obtain ⟨j, hj, rfl⟩ := List.getElem_of_mem hr
          exact decide_eq_true (HALL.out j hj (by have := HL.out; omega))
      have HF := Lib.hid hf
      clear hf
      go_wp2
      go_ret
      exact ⟨by rw [HF.out]; rfl, rfl⟩
theorem few_of {n : Nat} {l : List (List UInt8)} (h : fewB n l = true) : n ≤ 30 ∧ ∀ x ∈ l, x.length ≤ 200 := by
  unfold fewB at h
  rw [Bool.and_eq_true, List.all_eq_true] at h
  exact ⟨by simpa using h.2, fun x hx => by simpa using h.1 x hx⟩
theorem textsB_le {l : List (List UInt8)} {M : Nat} (hM : M < 18446744073709551616) (h : ∀ x ∈ l, x.length ≤ M) : (textsB l).length ≤ l.length * (10 + M) := by
  induction l with
  | nil => simp [textsB]
  | cons x l ih =>
    have h1 := ih (fun y hy => h y (List.mem_cons_of_mem _ hy))
    have h2 := h x (List.mem_cons_self ..)
    have h3 : (textB x).length ≤ 10 + M := by
      rcases textB_len x with h | h
      · omega
      · omega
    rw [textsB_cons, List.length_append, List.length_cons, Nat.succ_mul]
    omega
/-- All blocks that were there are as they were, but those of S. -/
structure Keeps (S : Nat → Prop) (W W' : World) : Prop where
  size : W.heap.size ≤ W'.heap.size
  block : ∀ i, i < W.heap.size → ¬ S i → W'.heap[i]? = W.heap[i]?
section
variable {S : Nat → Prop} {W W' W'' : World}
theorem Keeps.of (h : Later W W') : Keeps S W W' := ⟨h.size, fun i hi _ => h.block i hi⟩
theorem Keeps.trans (h : Keeps S W W') (k : Keeps S W' W'') : Keeps S W W'' := ⟨Nat.le_trans h.size k.size, fun i hi hs => (k.block i (Nat.lt_of_lt_of_le hi h.size) hs).trans (h.block i hi hs)⟩
theorem Keeps.grew {base : Nat} {e : TypeId} {v v' : Value} {xs : List Value} (h : Grew W W' base e v v' xs) (hs : ∀ k, v.ownBlock = some k → S k) : Keeps S W W' :=
  ⟨h.grown.size, fun i hi hn => h.grown.block i hi (fun e => hn (hs i e.symm))⟩
theorem Keeps.cell (h : Keeps S W W') {p : Addr} {u : Value} (hn : ¬ S p.block) (hc : W.cell? p = some u) : W'.cell? p = some u := by
  have := h.block p.block (World.block_lt_of_cell? W p hc) hn
  rw [← hc]
  unfold World.cell?
  rw [this]
theorem Keeps.rd (h : Keeps S W W') {A : Option Addr} {n : Nat} {xs : List Value} (hr : Rd W W.heap.size A n xs) (hn : ∀ ad, A = some ad → ¬ S ad.block) : Rd W' W'.heap.size A n xs := by
  refine ⟨hr.1, fun h0 => ?_⟩
  obtain ⟨ad, e1, hb, hc⟩ := hr.2 h0
  exact ⟨ad, e1, Nat.lt_of_lt_of_le hb h.size, fun j u hu => h.cell (by rw [block_add]; exact hn ad e1) (hc j u hu)⟩
end
end Go.Proofs.YtbgojfgapbcanaaDoor
