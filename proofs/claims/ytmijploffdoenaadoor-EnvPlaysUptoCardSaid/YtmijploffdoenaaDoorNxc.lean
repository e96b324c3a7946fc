/- What EnvPlays keeps: two Envs in variables whose texts lie elsewhere; what a doing does to an Env. No premises. -/
import Derived.Test.YtmijploffdoenaaDoorEh
import Derived.Test.YtmijploffdoenaaDoorNq
import Derived.Test.YtmijploffdoenaaDoorNx
import Derived.Test.YtmijploffdoenaaDoorNy
import Derived.Test.YtmijploffdoenaaDoorNz
import Derived.Test.YtmijploffdoenaaDoorNh
import Derived.Test.YtmijploffdoenaaDoorNwu
import Derived.Test.YtmijploffdoenaaDoorEf
import Derived.Test.YtmijploffdoenaaDoorNwj
namespace Go.Proofs.YtmijploffdoenaaDoor
open Go.RowKit Go.Maps
namespace En
/-- An Env whose texts lie in neither of two blocks. -/
def Ap (g h : Nat) (w : World) (v : Value) (e : E) : Prop := ∀ w' : World, w.heap.size ≤ w'.heap.size → (∀ k, k < w.heap.size → k ≠ g → k ≠ h → w'.heap[k]? = w.heap[k]?) → RdE w' v e
section
variable {g h base : Nat} {w w' : World} {v : Value} {e : E}
theorem Ap.rd (a : Ap g h w v e) : RdE w v e := a w (Nat.le_refl _) fun _ _ _ _ => rfl
theorem Ap.later (a : Ap g h w v e) (hl : Later w w') : Ap g h w' v e := fun w1 h1 h2 => a w1 (Nat.le_trans hl.size h1) fun k hk hg hh => (h2 k (Nat.lt_of_lt_of_le hk hl.size) hg hh).trans (hl.block k hk)
theorem Ap.grown {x : Nat} (a : Ap g h w v e) (hx : x = g ∨ x = h) (hg : w.grownBy w' (some x)) : Ap g h w' v e := fun w1 h1 h2 => a w1 (Nat.le_trans hg.size h1) fun k hk k1 k2 => (h2 k (Nat.lt_of_lt_of_le hk hg.size) k1 k2).trans (hg.block k hk fun e => by injection e with e; rcases hx with rfl | rfl <;> omega)
theorem Ap.of_fre (f : FrE base w v e) (h1 : g < base) (h2 : h < base) : Ap g h w v e := fun w1 k1 k2 => f w1 k1 fun k hb hk => k2 k hk (by omega) (by omega)
theorem Ap.zero (g h : Nat) (w : World) : Ap g h w (.agg #[.slice none 0 0, .slice none 0 0, .int .i64 0, .string ⟨#[]⟩]) ⟨[], [], 0, []⟩ := fun w1 _ _ => RdE.zero w1
/-- Rows of pairs lie in no block whose first three cells are no texts. -/
theorem RdP.away {l : Vs} {B b : Nat} {c0 c1 c2 c3 : Value} {t : TypeId} (r : RdP w B v l) (hb : w.heap[b]? = some (.cells #[c0, c1, c2, c3] t (0, 0))) (n0 : ∀ s, c0 ≠ .string s) (n1 : ∀ s, c1 ≠ .string s) (n2 : ∀ s, c2 ≠ .string s) (hl : 0 < l.length) : ∀ gg o c, v = .slice (some ⟨gg, o, none⟩) l.length c → gg ≠ b := by
  intro gg o c hv e
  obtain ⟨g', o', c', hv', _, hc⟩ := r.at_ hl
  rw [hv] at hv'
  injection hv' with h1 _ _
  injection h1 with h1
  injection h1 with h1 h2 _
  subst h1; subst h2; subst e
  have k0 := (hc 0 hl).1
  have k1 := (hc 0 hl).2
  rw [Nat.zero_mul, Nat.add_zero] at k0 k1
  rw [(cell_row hb _).1] at k0 k1
  match o, k0, k1 with
  | 0, k0, _ => simp at k0; exact n0 _ k0
  | 1, k0, _ => simp at k0; exact n1 _ k0
  | 2, k0, _ => simp at k0; exact n2 _ k0
  | o + 3, _, k1 => simp at k1
/-- Other variables. -/
theorem Ap.vars {va vb : Value} {A : Option Addr} {n c : Nat} {st : Int} {fl : ByteArray} {vs : Vs} {g0 g1 g2 g3 h0 h1 h2 h3 : Value} {tg th : TypeId} (a : Ap g h w (.agg #[va, .slice A n c, .int .i64 st, .string fl]) e) (hl : Later w w') (hv : RdP w' w'.heap.size vb vs)
    (hg : w'.heap[g]? = some (.cells #[g0, g1, g2, g3] tg (0, 0))) (hh : w'.heap[h]? = some (.cells #[h0, h1, h2, h3] th (0, 0)))
    (ng : ∀ s, g0 ≠ .string s ∧ g1 ≠ .string s ∧ g2 ≠ .string s) (nh : ∀ s, h0 ≠ .string s ∧ h1 ≠ .string s ∧ h2 ≠ .string s) :
    Ap g h w' (.agg #[vb, .slice A n c, .int .i64 st, .string fl]) { e with vars := vs } := by
  intro w1 k1 k2
  obtain ⟨va0, A0, n0, c0, e1, _, r1, r2, r3⟩ := (a.later hl) w1 k1 k2
  injection e1 with e1
  simp only [Array.mk.injEq, List.cons.injEq, and_true] at e1
  obtain ⟨_, e2, e3, e4⟩ := e1
  refine ⟨vb, A0, n0, c0, by rw [e2, e3, e4], ⟨hv.le, fun h0 => ?_⟩, r1, r2, r3⟩
  obtain ⟨gg, o, c, hvb, hlt, hc⟩ := hv.at_ h0
  have o1 := hv.away hg (fun s => (ng s).1) (fun s => (ng s).2.1) (fun s => (ng s).2.2) h0 gg o c hvb
  have o2 := hv.away hh (fun s => (nh s).1) (fun s => (nh s).2.1) (fun s => (nh s).2.2) h0 gg o c hvb
  have hbk := k2 gg hlt o1 o2
  exact ⟨gg, o, c, hvb, Nat.lt_of_lt_of_le hlt k1, fun k hk => ⟨(World.cell?_of_block hbk).trans (hc k hk).1, (World.cell?_of_block hbk).trans (hc k hk).2⟩⟩
/-- Other flags. -/
theorem Ap.flags {va : Value} {A : Option Addr} {n c : Nat} {st : Int} {fl : ByteArray} (a : Ap g h w (.agg #[va, .slice A n c, .int .i64 st, .string fl]) e) (f : B) :
    Ap g h w (.agg #[va, .slice A n c, .int .i64 st, .string (mkS f)]) { e with flags := f } := by
  intro w1 k1 k2
  obtain ⟨va0, A0, n0, c0, e1, r0, r1, r2, r3⟩ := a w1 k1 k2
  injection e1 with e1
  simp only [Array.mk.injEq, List.cons.injEq, and_true] at e1
  obtain ⟨e0, e2, e3, _⟩ := e1
  exact ⟨va0, A0, n0, c0, by rw [e0, e2, e3], r0, r1, r2, r3⟩
/-- Other arguments. -/
theorem Ap.args {va : Value} {A A' : Option Addr} {n c n' c' : Nat} {st : Int} {fl : ByteArray} {l : List B} (a : Ap g h w (.agg #[va, .slice A n c, .int .i64 st, .string fl]) e) (hn : n' ≤ c') (hc : c' ≤ 9223372036854775807)
    (hr : ∀ w1 : World, w.heap.size ≤ w1.heap.size → (∀ k, k < w.heap.size → k ≠ g → k ≠ h → w1.heap[k]? = w.heap[k]?) → Rd w1 w1.heap.size A' n' (l.map fun x => .string (mkS x))) :
    Ap g h w (.agg #[va, .slice A' n' c', .int .i64 st, .string fl]) { e with args := l } := by
  intro w1 k1 k2
  obtain ⟨va0, A0, n0, c0, e1, r0, r1, r2, r3⟩ := a w1 k1 k2
  injection e1 with e1
  simp only [Array.mk.injEq, List.cons.injEq, and_true] at e1
  obtain ⟨e0, _, e3, e4⟩ := e1
  exact ⟨va0, A', n', c', by rw [e0, e3, e4], r0, hr w1 k1 k2, hn, hc⟩
/-- .. a part of them. -/
theorem Ap.drop {va : Value} {A : Option Addr} {n c : Nat} {st : Int} {fl : ByteArray} (a : Ap g h w (.agg #[va, .slice A n c, .int .i64 st, .string fl]) e) (j : Nat) (hj : j ≤ n) :
    Ap g h w (.agg #[va, .slice (if c = j then A else A.map (·.add j)) (n - j) (c - j), .int .i64 st, .string fl]) { e with args := e.args.drop j } := by
  obtain ⟨va0, A0, n0, c0, e1, _, r1, r2, r3⟩ := a.rd
  injection e1 with e1
  simp only [Array.mk.injEq, List.cons.injEq, and_true] at e1
  obtain ⟨_, e2, _, _⟩ := e1
  injection e2 with e2 e4 e5
  subst e2; subst e4; subst e5
  refine a.args (by omega) (by omega) fun w1 k1 k2 => ?_
  obtain ⟨va1, A1, n1, c1, f1, _, s1, s2, s3⟩ := a w1 k1 k2
  injection f1 with f1
  simp only [Array.mk.injEq, List.cons.injEq, and_true] at f1
  obtain ⟨_, f2, _, _⟩ := f1
  injection f2 with f2 f4 f5
  subst f2; subst f4; subst f5
  rw [List.map_drop]
  exact s1.cut hj r2
/-- .. two new ones. -/
theorem two_at (w : World) (x y : B) (hg : g < w.heap.size) (hh : h < w.heap.size) : ∀ w1 : World, (w.alloc (.cells #[.string (mkS x), .string (mkS y)] 9)).heap.size ≤ w1.heap.size → (∀ k, k < (w.alloc (.cells #[.string (mkS x), .string (mkS y)] 9)).heap.size → k ≠ g → k ≠ h → w1.heap[k]? = (w.alloc (.cells #[.string (mkS x), .string (mkS y)] 9)).heap[k]?) → Rd w1 w1.heap.size (some ⟨w.heap.size, 0, none⟩) 2 ([x, y].map fun x => .string (mkS x)) := by
  intro w1 k1 k2
  rw [World.size_alloc] at k1 k2
  have hb := (k2 w.heap.size (by omega) (by omega) (by omega)).trans (heap_alloc_new w _)
  refine ⟨rfl, fun _ => ⟨_, rfl, by show w.heap.size < _; omega, fun j u hu => ?_⟩⟩
  match j, hu with
  | 0, hu => simp at hu; rw [show (⟨w.heap.size, 0, none⟩ : Addr).add 0 = ⟨w.heap.size, 0, none⟩ from rfl, (cell_row hb 0).1, ← hu]; rfl
  | 1, hu => simp at hu; rw [show (⟨w.heap.size, 0, none⟩ : Addr).add 1 = ⟨w.heap.size, 1, none⟩ from rfl, (cell_row hb 1).1, ← hu]; rfl
  | j + 2, hu => simp at hu
end
/-- What a doing does. -/
def step (e : E) (x : Doing) : E :=
  if x.kind = 0 then set nm e x.name x.value else if x.kind = 1 then unsetE e x.name else if x.kind = 2 then { e with flags := flag e.flags (UInt8.ofNat (x.n % 256).toNat) x.on } else if x.kind = 3 then shiftE e x.n else { e with args := [x.name, x.value] }
/-- What holds of an Env after so many. -/
structure St (i : Nat) (e : E) : Prop where
  up : Rises e.vars
  few : e.vars.length ≤ i
  two : e.args.length ≤ 2
  each : ∀ x ∈ e.args, x.length ≤ 60
  zero : e.status = 0
  vle : Vle e.vars 60
  fl : e.flags.length ≤ 4
theorem St.start : St 0 ⟨[], [], 0, []⟩ := ⟨Rises.nil, Nat.le_refl _, by decide, by simp, rfl, (fun _ hq => by cases hq), by decide⟩
theorem St.step {i : Nat} {e : E} (h : St i e) {x : Doing} (hx : x.name.length ≤ 30 ∧ x.value.length ≤ 60) : St (i + 1) (step e x) := by
  unfold En.step
  split
  · refine ⟨set_rises h.up _ _, by have := set_len_le e x.name x.value; have := h.few; omega, by rw [set_args]; exact h.two, by rw [set_args]; exact h.each, by rw [(set_status _ _ _).1]; exact h.zero, h.vle.set hx.2, by rw [(set_status _ _ _).2]; exact h.fl⟩
  split
  · exact ⟨h.up.unset _, Nat.le_trans (List.length_filter_le _ _) (Nat.le_succ_of_le h.few), h.two, h.each, h.zero, h.vle.unset _, h.fl⟩
  split
  · exact ⟨h.up, Nat.le_succ_of_le h.few, h.two, h.each, h.zero, h.vle, by show (flag e.flags (UInt8.ofNat (x.n % 256).toNat) x.on).length ≤ 4; unfold flag; exact Nat.le_trans (List.length_filter_le _ _) (by decide)⟩
  split
  · unfold shiftE
    split
    · exact ⟨h.up, Nat.le_succ_of_le h.few, by show (e.args.drop _).length ≤ 2; rw [List.length_drop]; have := h.two; omega, fun y hy => h.each y (List.mem_of_mem_drop hy), h.zero, h.vle, h.fl⟩
    · exact ⟨h.up, Nat.le_succ_of_le h.few, h.two, h.each, h.zero, h.vle, h.fl⟩
  · exact ⟨h.up, Nat.le_succ_of_le h.few, Nat.le_refl 2, fun y hy => by
      simp only [List.mem_cons, List.not_mem_nil, or_false] at hy
      rcases hy with rfl | rfl <;> omega, h.zero, h.vle, h.fl⟩
theorem St.small {i : Nat} {e : E} (h : St i e) : Small e := ⟨by have := h.two; omega, fun x hx => by have := h.each x hx; omega, by rw [h.zero]; decide, by have := h.vle.ifs; omega⟩
end En
end Go.Proofs.YtmijploffdoenaaDoor
