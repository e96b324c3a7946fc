/- How things lie in memory: cells, one behind the other, of fixed number; rows of such. What an argument's reading gives of them. No premises. -/
import Derived.Test.YteljmlodbnfhbaaKm
import Derived.Test.YteljmlodbnfhbaaWm
import Derived.Test.YteljmlodbnfhbaaArgs
import Derived.Test.YteljmlodbnfhbaaUpto
import Derived.ChangeArms
namespace Go.Proofs.Yteljmlodbnfhbaa
open Go.RowKit Go.ChangeShapes Go.WideShapes Go.ChangeAt
namespace Ks
/-- Cells that bear a thing of a kind; slices in them read below B. -/
structure Rp (α : Type) where
  wd : Nat
  C : World → Nat → List Value → α → Prop
  len : ∀ {w : World} {n : Nat} {cs : List Value} {a : α}, C w n cs a → cs.length = wd
  keep : ∀ {w w' : World} {n : Nat} {cs : List Value} {a : α}, C w n cs a → (∀ p : Addr, p.block < n → w'.cell? p = w.cell? p) → C w' n cs a
  more : ∀ {w : World} {n n' : Nat} {cs : List Value} {a : α}, C w n cs a → n ≤ n' → C w n' cs a
def rnum : Rp Int where
  wd := 1
  C _ _ cs x := cs = [.int .i64 x] ∧ I64 x
  len h := by rw [h.1]; rfl
  keep h _ := h
  more h _ := h
def rbit : Rp Bool where
  wd := 1
  C _ _ cs x := cs = [.bool x]
  len h := by rw [h]; rfl
  keep h _ := h
  more h _ := h
def rtxt : Rp B where
  wd := 1
  C _ _ cs x := cs = [.string (mkS x)] ∧ x.length ≤ 9223372036854775807
  len h := by rw [h.1]; rfl
  keep h _ := h
  more h _ := h
def rseq {α β : Type} (r : Rp α) (s : Rp β) : Rp (α × β) where
  wd := r.wd + s.wd
  C w n cs x := ∃ c1 c2, cs = c1 ++ c2 ∧ r.C w n c1 x.1 ∧ s.C w n c2 x.2
  len h := by
    obtain ⟨c1, c2, rfl, h1, h2⟩ := h
    rw [List.length_append, r.len h1, s.len h2]
  keep h hk := by
    obtain ⟨c1, c2, e, h1, h2⟩ := h
    exact ⟨c1, c2, e, r.keep h1 hk, s.keep h2 hk⟩
  more h hn := by
    obtain ⟨c1, c2, e, h1, h2⟩ := h
    exact ⟨c1, c2, e, r.more h1 hn, s.more h2 hn⟩
/-- Cells that a row has, and what each of its things is. -/
def Row {α : Type} (r : Rp α) (w : World) (n : Nat) (A : Option Addr) (l : List α) : Prop :=
  ∃ xs : List (List Value), xs.length = l.length ∧ Rd w n A (l.length * r.wd) xs.flatten ∧ ∀ (k : Nat) (x : List Value) (a : α), xs[k]? = some x → l[k]? = some a → r.C w n x a
theorem Row.nil {α : Type} (r : Rp α) (w : World) (n : Nat) : Row r w n none [] := ⟨[], rfl, by simpa using Rd.nil_, fun k x a h _ => by simp at h⟩
theorem Row.keep {α : Type} {r : Rp α} {w w' : World} {n : Nat} {A : Option Addr} {l : List α} (h : Row r w n A l) (hk : ∀ p : Addr, p.block < n → w'.cell? p = w.cell? p) : Row r w' n A l := by
  obtain ⟨xs, h1, h2, h3⟩ := h
  exact ⟨xs, h1, h2.keep hk, fun k x a hx ha => r.keep (h3 k x a hx ha) hk⟩
theorem Rd.wide {w : World} {m m' n : Nat} {A : Option Addr} {xs : List Value} (h : Rd w m A n xs) (hm : m ≤ m') : Rd w m' A n xs :=
  ⟨h.1, fun hn => by obtain ⟨ad, e, hb, hc⟩ := h.2 hn; exact ⟨ad, e, by omega, hc⟩⟩
theorem Row.more {α : Type} {r : Rp α} {w : World} {n n' : Nat} {A : Option Addr} {l : List α} (h : Row r w n A l) (hn : n ≤ n') : Row r w n' A l := by
  obtain ⟨xs, h1, h2, h3⟩ := h
  exact ⟨xs, h1, Rd.wide h2 hn, fun k x a hx ha => r.more (h3 k x a hx ha) hn⟩
def rrow {α : Type} (r : Rp α) : Rp (List α) where
  wd := 1
  C w n cs l := ∃ A c, cs = [.slice A l.length c] ∧ l.length ≤ c ∧ c ≤ 9223372036854775807 ∧ Row r w n A l
  len h := by
    obtain ⟨A, c, rfl, _⟩ := h
    rfl
  keep h hk := by
    obtain ⟨A, c, e, h1, h2, h3⟩ := h
    exact ⟨A, c, e, h1, h2, h3.keep hk⟩
  more h hn := by
    obtain ⟨A, c, e, h1, h2, h3⟩ := h
    exact ⟨A, c, e, h1, h2, h3.more hn⟩
/-- A thing of a row: where it lies, and what it is. -/
theorem Row.at_ {α : Type} {r : Rp α} {w : World} {n : Nat} {A : Option Addr} {l : List α} (h : Row r w n A l) {k : Nat} (hk : k < l.length) (hw : 0 < r.wd) :
    ∃ ad cs, A = some ad ∧ ad.block < n ∧ r.C w n cs l[k] ∧ ∀ (j : Nat) (u : Value), cs[j]? = some u → w.cell? (ad.add (k * r.wd + j)) = some u := by
  obtain ⟨xs, h1, h2, h3⟩ := h
  obtain ⟨ad, e, hb, hc⟩ := h2.2 (Nat.mul_pos (by omega) hw)
  have hkx : k < xs.length := by omega
  refine ⟨ad, xs[k], e, hb, h3 k _ _ (List.getElem?_eq_getElem hkx) (List.getElem?_eq_getElem hk), fun j u hu => hc _ u ?_⟩
  have hall : ∀ x ∈ xs, x.length = r.wd := by
    intro x hx
    obtain ⟨i, hi, rfl⟩ := List.getElem_of_mem hx
    exact r.len (h3 i _ _ (List.getElem?_eq_getElem hi) (List.getElem?_eq_getElem (by omega)))
  have hj : j < r.wd := by
    have := (List.getElem?_eq_some_iff.1 hu).1
    rw [hall _ (List.getElem_mem hkx)] at this
    exact this
  clear h2 h3 hc h1
  revert k
  induction xs with
  | nil => intro k _ hkx; exact absurd hkx (by simp)
  | cons x xs ih =>
    intro k hk hkx hu
    have hx := hall x (List.mem_cons_self ..)
    cases k with
    | zero =>
      rw [List.flatten_cons, List.getElem?_append_left (by omega)]
      simpa using hu
    | succ k =>
      rw [List.flatten_cons, List.getElem?_append_right (by rw [hx, Nat.succ_mul]; omega), hx, show (k + 1) * r.wd + j - r.wd = k * r.wd + j by rw [Nat.succ_mul]; omega]
      exact ih (fun x h => hall x (List.mem_cons_of_mem _ h)) (by simp at hkx; omega) (by simp at hkx; omega) (by simpa using hu)
/-- The same cells under another name. -/
def riso {α β : Type} (r : Rp α) (g : β → α) : Rp β where
  wd := r.wd
  C w n cs x := r.C w n cs (g x)
  len h := r.len h
  keep h hk := r.keep h hk
  more h hn := r.more h hn
section
variable {H : Type} {enc : TypeId × Value → H} {w : World} {base : Nat} {spare : Nat → Bool} {held : Bool} {P : Program}
/-- What is read of cells of a type is such a thing; its bytes are bounded by the reading's bulk. -/
def Takes {α : Type} (P : Program) (t : TypeId) (r : Rp α) (c : Cd α) : Prop :=
  P.cellsOf t = r.wd ∧ ∀ {H : Type} {enc : TypeId × Value → H} {w : World} {base : Nat} {spare : Nat → Bool} {held : Bool} {fuel : Nat} {cs : List Value} {y : DataW H × List MemPlace}, DataW.trod enc P w base spare held fuel t cs = some y →
    ∃ a, r.C w w.heap.size cs a ∧ (c.put a).length ≤ 10 * Rows.uptoBulk y.1
theorem takes_num {t : TypeId} (ht : P.underlying t = some (.int .i64)) (hc : P.cellsOf t = 1) : Takes P t rnum num := by
  refine ⟨hc, fun h => ?_⟩
  obtain ⟨n, rfl, rfl, hw⟩ := DataW.trod_int ht h
  have hw2 : I64 n := bounds_i64 hw
  exact ⟨n, ⟨rfl, hw2⟩, numL_ten (zig_nat hw2.1 hw2.2)⟩
theorem takes_bit {t : TypeId} (ht : P.underlying t = some .bool) (hc : P.cellsOf t = 1) : Takes P t rbit bit := by
  refine ⟨hc, fun h => ?_⟩
  obtain ⟨b, rfl, rfl⟩ := DataW.trod_bool ht h
  exact ⟨b, rfl, numL_ten (zig_nat (bit_ok b).1 (bit_ok b).2)⟩
theorem takes_txt {t : TypeId} (ht : P.underlying t = some .string) (hc : P.cellsOf t = 1) : Takes P t rtxt txt := by
  refine ⟨hc, fun h => ?_⟩
  obtain ⟨s, rfl, rfl, hs⟩ := DataW.trod_string ht h
  have hl : s.data.toList.length = s.size := rfl
  have hm : s.size ≤ 9223372036854775807 := hs
  refine ⟨s.data.toList, ⟨by rw [mkS_of], by rw [hl]; exact hm⟩, ?_⟩
  show (textB s.data.toList).length ≤ _
  have := numL_ten (x := s.data.toList.length) (by omega)
  rw [textB, List.length_append]
  simp only [Rows.uptoBulk]
  omega
/-- Fields, from one place on. -/
structure TakesF {α : Type} (P : Program) (fs : List Field) (o : Nat) (r : Rp α) (c : Cd α) : Prop where
  out : ∀ {H : Type} {enc : TypeId × Value → H} {w : World} {base : Nat} {spare : Nat → Bool} {held : Bool} {fuel : Nat} {cs : List Value} {ys : List (DataW H × List MemPlace)}, cs.length = o + r.wd → ys.length = fs.length →
    (∀ (i : Nat) (f : Field), fs[i]? = some f → DataW.trod enc P w base spare held fuel f.type ((cs.drop f.offset).take (P.cellsOf f.type)) = ys[i]?) →
    ∃ a, r.C w w.heap.size (cs.drop o) a ∧ (c.put a).length ≤ 10 * Rows.uptoBulkAll (ys.map (·.1))
theorem takesF_one {α : Type} {f : Field} {r : Rp α} {c : Cd α} (h : Takes P f.type r c) : TakesF P [f] f.offset r c := by
  refine ⟨?_⟩
  intro H enc w base spare held fuel cs ys hl hy hf
  match ys, hy with
  | [y], _ =>
    have h1 := hf 0 f rfl
    rw [h.1, List.take_of_length_le (by rw [List.length_drop]; omega)] at h1
    obtain ⟨a, h2, h3⟩ := h.2 h1
    exact ⟨a, h2, by simpa [Rows.uptoBulkAll] using h3⟩
theorem takesF_cons {α β : Type} {f : Field} {fs : List Field} {o : Nat} {r : Rp α} {c : Cd α} {s : Rp β} {d : Cd β} (h : Takes P f.type r c) (ho : o = f.offset + r.wd) (hs : TakesF P fs o s d) : TakesF P (f :: fs) f.offset (rseq r s) (seq c d) := by
  refine ⟨?_⟩
  intro H enc w base spare held fuel cs ys hl hy hf
  match ys, hy with
  | y :: ys, hy =>
    have hl2 : cs.length = f.offset + (r.wd + s.wd) := hl
    have h1 := hf 0 f rfl
    rw [h.1] at h1
    obtain ⟨a, h2, h3⟩ := h.2 h1
    obtain ⟨b, h4, h5⟩ := hs.out (enc := enc) (base := base) (spare := spare) (held := held) (fuel := fuel) (cs := cs) (ys := ys) (by omega) (by simpa using hy) fun i g hg => by
      have := hf (i + 1) g (by simpa using hg)
      simpa using this
    refine ⟨(a, b), ⟨_, _, ?_, h2, h4⟩, ?_⟩
    · rw [ho, ← List.drop_drop, List.take_append_drop]
    · show (c.put a ++ d.put b).length ≤ _
      rw [List.length_append, List.map_cons, Rows.uptoBulkAll]
      omega
theorem takes_struct {α : Type} {t : TypeId} {fs : Array Field} {r : Rp α} {c : Cd α} (ht : P.underlying t = some (.struct fs)) (hc : P.cellsOf t = r.wd) (h : TakesF P fs.toList 0 r c) : Takes P t r c := by
  refine ⟨hc, fun {H enc w base spare held fuel cs y} hy => ?_⟩
  obtain ⟨xs, n, _, rfl, hl, hx, hf⟩ := DataW.trod_struct ht hy
  obtain ⟨a, h1, h2⟩ := h.out (enc := enc) (base := base) (spare := spare) (held := held) (fuel := n) (cs := cs) (ys := xs) (by omega) (by simpa using hx) fun i f hi => hf i f (by simpa using hi)
  refine ⟨a, by simpa using h1, ?_⟩
  show _ ≤ 10 * Rows.uptoBulk (.agg _)
  rw [Rows.uptoBulk]
  omega
theorem takes_iso {α β : Type} {t : TypeId} {r : Rp α} {c : Cd α} (f : α → β) (g : β → α) (h1 : ∀ a, g (f a) = a) (h2 : ∀ b, f (g b) = b) (h : Takes P t r c) : Takes P t (riso r g) (iso c f g h1 h2) := by
  refine ⟨h.1, fun hy => ?_⟩
  obtain ⟨a, h3, h4⟩ := h.2 hy
  refine ⟨f a, ?_, ?_⟩
  · show r.C _ _ _ (g (f a))
    rw [h1]; exact h3
  · show (c.put (g (f a))).length ≤ _
    rw [h1]; exact h4
theorem bulk_many {α : Type} (c : Cd α) : ∀ (l : List α) (ds : List (DataW H)), l.length = ds.length → (∀ (k : Nat) (a : α) (d : DataW H), l[k]? = some a → ds[k]? = some d → (c.put a).length ≤ 10 * Rows.uptoBulk d) → (manyP c l).length ≤ 10 * Rows.uptoBulkAll ds
  | [], _, _, _ => by simp [manyP]
  | a :: l, [], h, _ => by simp at h
  | a :: l, d :: ds, h, hk => by
    have h1 := hk 0 a d rfl rfl
    have h2 := bulk_many c l ds (by simpa using h) fun k a d ha hd => hk (k + 1) a d (by simpa using ha) (by simpa using hd)
    rw [manyP_cons, List.length_append, Rows.uptoBulkAll]
    omega
theorem lists_of {α β : Type} {Q : Nat → α → β → Prop} : ∀ n : Nat, (∀ i, i < n → ∃ a b, Q i a b) → ∃ (l : List α) (m : List β), l.length = n ∧ m.length = n ∧ ∀ (i : Nat) (a : α) (b : β), l[i]? = some a → m[i]? = some b → Q i a b
  | 0, _ => ⟨[], [], rfl, rfl, fun i a b h _ => by simp at h⟩
  | n + 1, h => by
    obtain ⟨l, m, h1, h2, h3⟩ := lists_of n fun i hi => h i (by omega)
    obtain ⟨a, b, hq⟩ := h n (by omega)
    refine ⟨l ++ [a], m ++ [b], by simp [h1], by simp [h2], fun i x y hx hy => ?_⟩
    rw [List.getElem?_append] at hx hy
    split at hx
    · rename_i hi
      rw [if_pos (by omega)] at hy
      exact h3 i x y hx hy
    · rename_i hi
      rw [if_neg (by omega)] at hy
      have hz : i - l.length = 0 := by
        have := (List.getElem?_eq_some_iff.1 hx).1
        simp at this; omega
      rw [hz] at hx
      rw [show i - m.length = 0 by omega] at hy
      simp at hx hy
      rw [← hx, ← hy, show i = n by omega]
      exact hq
theorem cells_at {a : Addr} {n : Nat} {cs : List Value} (h : w.cells? base a n = some cs) : cs.length = n ∧ ∀ (j : Nat) (u : Value), cs[j]? = some u → w.cell? (a.add j) = some u := by
  obtain ⟨h1, h2, h3⟩ := World.cells?_some h
  refine ⟨h2, fun j u hu => ?_⟩
  rw [h3 j (by have := (List.getElem?_eq_some_iff.1 hu).1; omega), hu]
theorem takes_row {α : Type} {t e : TypeId} {r : Rp α} {c : Cd α} (ht : P.underlying t = some (.slice e)) (hc : P.cellsOf t = 1) (hw : 0 < r.wd) (h : Takes P e r c) : Takes P t (rrow r) (row c) := by
  refine ⟨hc, fun {H enc w base spare held fuel cs y} hy => ?_⟩
  rcases DataW.trod_slice ht hy with ⟨rfl, rfl⟩ | ⟨ad, len, cap, elems, rest, n, _, rfl, rfl, _, hlc, hcm, hel, hat, _⟩
  · refine ⟨[], ⟨none, 0, rfl, Nat.le_refl _, by omega, Row.nil _ _ _⟩, ?_⟩
    show (numP _ ++ manyP c []).length ≤ _
    rw [List.length_append]
    have := numL_ten (x := (zig (([] : List α).length : Int)).toNat) (zig_nat (by simp) (by simp))
    simp only [Rows.uptoBulk, manyP, List.flatMap_nil, List.length_nil, numP]
    exact this
  · rw [h.1] at hat
    have hone : ∀ i, i < len → ∃ (ci : List Value) (a : α), r.C w w.heap.size ci a ∧ (∀ (j : Nat) (u : Value), ci[j]? = some u → w.cell? (ad.add (i * r.wd + j)) = some u) ∧ ∀ d, elems[i]? = some d → (c.put a).length ≤ 10 * Rows.uptoBulk d.1 := by
      intro i hi
      have h1 := hat i hi
      rw [List.getElem?_eq_getElem (show i < elems.length by omega)] at h1
      obtain ⟨ci, h2, h3⟩ := Option.bind_eq_some_iff.1 h1
      obtain ⟨a, h4, h5⟩ := h.2 h3
      obtain ⟨_, h7⟩ := cells_at h2
      refine ⟨ci, a, h4, fun j u hu => ?_, fun d hd => ?_⟩
      · have := h7 j u hu
        rwa [Addr.add_add] at this
      · rw [List.getElem?_eq_getElem (show i < elems.length by omega)] at hd
        cases hd
        exact h5
    obtain ⟨xs, l, hxl, hll, hq⟩ := lists_of len hone
    have hall : ∀ x ∈ xs, x.length = r.wd := by
      intro x hx
      obtain ⟨i, hi, rfl⟩ := List.getElem_of_mem hx
      exact r.len (hq i _ _ (List.getElem?_eq_getElem hi) (List.getElem?_eq_getElem (show i < l.length by omega))).1
    refine ⟨l, ⟨some ad, cap, by rw [hll], by omega, hcm, xs, by omega, ⟨?_, fun hn => ⟨ad, rfl, ?_, ?_⟩⟩, fun k x a hx ha => (hq k x a hx ha).1⟩, ?_⟩
    · rw [hll, ← hxl]
      clear hq hxl
      induction xs with
      | nil => simp
      | cons x xs ih => rw [List.flatten_cons, List.length_append, hall x (List.mem_cons_self ..), ih fun x h => hall x (List.mem_cons_of_mem _ h), List.length_cons, Nat.succ_mul, Nat.add_comm]
    · have h0 : 0 < len := by
        rcases Nat.eq_zero_or_pos len with h | h
        · rw [hll, h] at hn; simp at hn
        · exact h
      have h1 := hat 0 h0
      rw [List.getElem?_eq_getElem (show 0 < elems.length by omega)] at h1
      obtain ⟨ci, h2, _⟩ := Option.bind_eq_some_iff.1 h1
      have := World.cells?_block h2 hw
      rwa [block_add] at this
    · intro j u hu
      have hq2 : ∀ (i : Nat) (x : List Value), xs[i]? = some x → ∀ (j : Nat) (u : Value), x[j]? = some u → w.cell? (ad.add (i * r.wd + j)) = some u := fun i x hx =>
        (hq i x _ hx (List.getElem?_eq_getElem (show i < l.length by have := (List.getElem?_eq_some_iff.1 hx).1; omega))).2.1
      clear hq hxl hat hone
      have hgen : ∀ (xs : List (List Value)) (s : Nat), (∀ x ∈ xs, x.length = r.wd) → (∀ (i : Nat) (x : List Value), xs[i]? = some x → ∀ (j : Nat) (u : Value), x[j]? = some u → w.cell? (ad.add ((s + i) * r.wd + j)) = some u) → ∀ (j : Nat) (u : Value), xs.flatten[j]? = some u → w.cell? (ad.add (s * r.wd + j)) = some u := by
        intro xs
        induction xs with
        | nil => intro s _ _ j u hu; simp at hu
        | cons x xs ih =>
          intro s hall hx j u hu
          have hxl := hall x (List.mem_cons_self ..)
          by_cases hj : j < r.wd
          · rw [List.flatten_cons, List.getElem?_append_left (by omega)] at hu
            exact hx 0 x rfl j u hu
          · rw [List.flatten_cons, List.getElem?_append_right (by omega), hxl] at hu
            have := ih (s + 1) (fun x h => hall x (List.mem_cons_of_mem _ h)) (fun i y hy j u hu => by
              have := hx (i + 1) y (by simpa using hy) j u hu
              rwa [show s + (i + 1) = s + 1 + i by omega] at this) (j - r.wd) u hu
            rwa [Nat.succ_mul, show s * r.wd + r.wd + (j - r.wd) = s * r.wd + j by omega] at this
      have := hgen xs 0 hall (fun i x hx j u hu => by rw [Nat.zero_add]; exact hq2 i x hx j u hu) j u hu
      simpa using this
    · show (numP _ ++ manyP c l).length ≤ _
      have hm : cap ≤ 9223372036854775807 := hcm
      have h1 := numL_ten (x := (zig (l.length : Int)).toNat) (zig_nat (by omega) (by omega))
      have h2 := bulk_many c l (elems.map (·.1)) (by simp; omega) fun k a d ha hd => by
        obtain ⟨e1, he1, rfl⟩ : ∃ e1, elems[k]? = some e1 ∧ e1.1 = d := by simpa using hd
        exact (hq k _ a (List.getElem?_eq_getElem (show k < xs.length by have := (List.getElem?_eq_some_iff.1 ha).1; omega)) ha).2.2 e1 he1
      rw [List.length_append, numP]
      simp only [Rows.uptoBulk]
      omega
end
end Ks
end Go.Proofs.Yteljmlodbnfhbaa
