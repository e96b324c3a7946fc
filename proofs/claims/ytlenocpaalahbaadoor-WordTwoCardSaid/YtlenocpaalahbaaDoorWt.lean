/- A part is appended: what the world is like between the steps of the statement. No premises. -/
import Derived.Test.YtlenocpaalahbaaDoorWr
namespace Go.Proofs.YtlenocpaalahbaaDoor
open Go.RowKit Go.Maps
theorem modify_comm {α : Type} (A : Array α) (i j : Nat) (f f2 : α → α) (h : i ≠ j) : (A.modify i f).modify j f2 = (A.modify j f2).modify i f := by
  apply Array.ext
  · simp
  · intro k h1 h2
    simp only [Array.getElem_modify]
    by_cases e1 : i = k <;> by_cases e2 : j = k <;> simp_all
theorem set_comm (w : World) (a b : Addr) (u v : Value) (h : a.block ≠ b.block) : (w.setCell a u).setCell b v = (w.setCell b v).setCell a u := by
  unfold World.setCell
  simp only [World.mk.injEq, true_and]
  exact ⟨modify_comm _ _ _ _ _ h, trivial⟩
theorem sets_comm (b : Nat) (a : Addr) (u : Value) (h : a.block ≠ b) : ∀ (vs : List Value) (o : Nat) (w : World), (w.setCell a u).setCells b o vs = (w.setCells b o vs).setCell a u
  | [], _, _ => rfl
  | v :: r, o, w => by
    rw [World.setCells, World.setCells, set_comm w a ⟨b, o, none⟩ u v h, sets_comm b a u h r (o + 1)]
/-- Cells of an own row are written. -/
theorem sets_own {b c n base size : Nat} {e : TypeId} : ∀ (vs : List Value) (o : Nat) (w : World) (xs : List Value), w.ownsRow base e size (.slice (some ⟨b, 0, none⟩) n c) n xs → o + vs.length = xs.length → (w.setCells b o vs).ownsRow base e size (.slice (some ⟨b, 0, none⟩) n c) n (xs.take o ++ vs) ∧ w.grownBy (w.setCells b o vs) (some b)
  | [], o, w, xs, h, hl => by
    rw [List.append_nil, List.take_of_length_le (by simp at hl; omega)]
    exact ⟨h, World.grownBy.refl _ _⟩
  | v :: r, o, w, xs, h, hl => by
    rw [World.setCells]
    obtain ⟨h1, h2⟩ := h.stored o v
    obtain ⟨h3, h4⟩ := sets_own r (o + 1) (w.setCell ⟨b, o, none⟩ v) (xs.set o v) h1 (by rw [List.length_set]; simp at hl; omega)
    refine ⟨?_, only_trans h2 h4⟩
    have e1 : (xs.set o v).take (o + 1) ++ r = xs.take o ++ v :: r := by
      have ho : o < xs.length := by simp at hl; omega
      rw [List.take_succ_eq_append_getElem (by rw [List.length_set]; exact ho), List.getElem_set_self, List.take_set_of_le (Nat.le_refl _)]
      simp
    rw [e1] at h3
    exact h3
theorem sets_cell {b : Nat} {a : Addr} (h : a.block ≠ b) (vs : List Value) (o : Nat) (w : World) : (w.setCells b o vs).cell? a = w.cell? a := World.cell?_setCells_out b vs o w a (fun e => absurd e h)
theorem sets_frozen {b : Nat} {a : Addr} : ∀ (vs : List Value) (o : Nat) (w : World), (w.setCells b o vs).frozen? a = w.frozen? a
  | [], _, _ => rfl
  | v :: r, o, w => by rw [World.setCells, sets_frozen r (o + 1), World.frozen?_setCell]
def zp : List Value := [.int .i64 0, .string ⟨#[]⟩, .string ⟨#[]⟩, .bool false, .slice none 0 0]
/-- What an append of a part goes through. -/
structure Push (W : World) (g : Nat) (vp v' : Value) (b n : Nat) (cs : List Value) (C : List Bool → World → Prop) (F : World → Prop) : Prop where
  c0 : C [false, false, false, false] W.drew
  a0 : ∀ w, C [false, false, false, false] w → w = W.drew
  c1 : C [true, false, false, false] (W.drew.alloc (.cells zp.toArray 28))
  a1 : ∀ w, C [true, false, false, false] w → ∃ w', (Builtin.append_ #[23, 23] 23 #[vp, .slice (some ⟨W.drew.heap.size, 0, none⟩) 1 1]).run Tryd.prog w = .ok v' w' ∧ C [true, true, false, false] w'
  s2 : ∀ w y, C [true, true, false, y] w → w.there b (n * 5) 5 ∧ C [true, true, true, y] (w.setCells b (n * 5) cs)
  s3 : ∀ w y, C [true, true, y, false] w → (w.cell? ⟨g, 0, none⟩ = some vp ∧ w.frozen? ⟨g, 0, none⟩ = false) ∧ C [true, true, y, true] (w.setCell ⟨g, 0, none⟩ v')
  q : ∀ bits w, C bits w → bits[1]? = some false → Later W w
  len : ∀ bits w, C bits w → ∃ a b c d, bits = [a, b, c, d] ∧ (c = true → b = true) ∧ (d = true → b = true) ∧ (b = true → a = true)
  v : ∃ k, v' = .slice (some ⟨b, 0, none⟩) (n + 1) k ∧ n + 1 ≤ k
  f : ∀ w, C [true, true, true, true] w → F w
theorem push {W : World} {X T : Nat → Prop} {g s dp : Nat} {raw : L} {r : Wd.R} {x : Wd.S} {vp vt : Value} {nd : List (Wd.P × Value)} (h : RMx W X T g s raw dp r x vp vt nd) (y : Wd.P × Value) (hy : PsAt W T y.2 y.1.w) (hlen : nd.length ≤ 1000000000) :
    ∃ v' b C, Push W g vp v' b nd.length (pcs y) C fun w => RMx w X T g s raw dp ⟨r.ps ++ [y.1], r.k, r.t⟩ x v' vt (nd ++ [y]) ∧ Fr (un X T) W w := by
  obtain ⟨i0, hi, hz0, hz1, hz2⟩ := info_parts info_part3
  obtain ⟨wa, hwa⟩ : ∃ wa, wa = W.drew.alloc (.cells zp.toArray 28) := ⟨_, rfl⟩
  have hla : Later W wa := by rw [hwa]; exact (Later.drew W).trans (Later.alloc _ _)
  have hba : wa.heap[W.drew.heap.size]? = some (.cells zp.toArray 28 (0, 0)) := by rw [hwa]; exact heap_alloc_new W.drew _
  obtain ⟨v', w2, hrun, h2, h3, h4, h5⟩ := run_append_own_at (P := Tryd.prog) wa 0 23 23 28 i0 _ 5 72 Tryd.underlying23 hi hz0 hz1 hz2 rfl (by omega) vp nd.length (cellsP nd) (own_below h.row hla) ⟨W.drew.heap.size, 0, none⟩ 1 1 zp rfl
    (fun j u hj => by rw [add_lit0, (cell_row hba j).1]; simpa using hj) (by intro u hu; simp only [zp, List.mem_cons, List.not_mem_nil, or_false] at hu; rcases hu with rfl | rfl | rfl | rfl | rfl <;> rfl) (by unfold maxLen; omega) (by omega) (Nat.zero_le _)
  obtain ⟨b, k, hv, hk⟩ : ∃ b k, v' = .slice (some ⟨b, 0, none⟩) (nd.length + 1) k ∧ nd.length + 1 ≤ k := by
    rcases h2.2 with ⟨_, h0⟩ | ⟨g', cap, cur, hv, _, _, hnc, _⟩
    · omega
    · exact ⟨g', cap, hv, hnc⟩
  have hg2 : W.grownBy w2 vp.ownBlock := later_grown hla h3
  have hm : Moved W vp v' := by
    rcases h5 with h5 | h5
    · exact .inl h5
    · exact .inr ⟨_, h5, hla.size⟩
  subst hv
  have hpl : (pcs y).length = 5 := rfl
  have hcl := cellsP_len nd
  have hw3 := sets_own (pcs y) (nd.length * 5) w2 _ h2 (by rw [List.length_append, hcl, hpl]; rfl)
  rw [← hcl, List.take_left, hcl] at hw3
  have hg3 : W.grownBy (w2.setCells b (nd.length * 5) (pcs y)) vp.ownBlock := by
    refine ⟨hw3.2.os.trans hg2.os, hw3.2.tape.trans hg2.tape, hw3.2.output.trans hg2.output, Nat.le_trans hg2.size hw3.2.size, fun i hi hne => ?_⟩
    refine (hw3.2.block i (Nat.lt_of_lt_of_le hi hg2.size) fun e => ?_).trans (hg2.block i hi hne)
    rcases hm with e1 | ⟨j, e1, hj⟩
    · exact hne (by rw [← e1]; exact e)
    · injection e1 with e1
      have e1 : b = j := e1
      injection e with e
      omega
  have hgb : w2.heap[g]? = W.heap[g]? := hg2.block g h.lt fun e => row_ne h.box h.row (by decide) e.symm
  have hbg : b ≠ g := fun e => by
    obtain ⟨cs', hb'⟩ := own_type h2 (b := b) rfl
    rw [e, hgb, h.box] at hb'
    injection hb' with hb'
    injection hb' with _ hb' _
    revert hb'
    decide
  have hth : ∀ w : World, (∀ j, w.cell? ⟨b, j, none⟩ = w2.cell? ⟨b, j, none⟩) → (∀ j, w.frozen? ⟨b, j, none⟩ = w2.frozen? ⟨b, j, none⟩) → w.there b (nd.length * 5) 5 := fun w hc hf j hj => by
    rw [hc, hf]
    refine ⟨?_, h2.frozenAt _⟩
    have hl2 : nd.length * 5 + j < (cellsP nd ++ zp).length := by rw [List.length_append, hcl]; show _ < _ + 5; omega
    have h8 := h2.cells (g := b) rfl (nd.length * 5 + j) _ (List.getElem?_eq_getElem hl2)
    rw [add_lit0] at h8
    rw [h8]; rfl
  have hc0 : ∀ w : World, w.heap[g]? = W.heap[g]? → w.cell? ⟨g, 0, none⟩ = some vp ∧ w.frozen? ⟨g, 0, none⟩ = false := fun w e => by
    have h9 := cell_row (e.trans h.box) 0
    exact ⟨h9.1, h9.2⟩
  have hfin := h.added (W1 := w2.setCells b (nd.length * 5) (pcs y)) (y := y) hw3.1 hg3 hm hy
  have hbs : ∀ (u : Value) (w : World), (w.setCell ⟨g, 0, none⟩ u).setCells b (nd.length * 5) (pcs y) = (w.setCells b (nd.length * 5) (pcs y)).setCell ⟨g, 0, none⟩ u := fun u w => sets_comm b ⟨g, 0, none⟩ u (fun e => hbg e.symm) (pcs y) (nd.length * 5) w
  let C : List Bool → World → Prop := fun bits w => match bits with
    | [false, false, false, false] => w = W.drew
    | [true, false, false, false] => w = wa
    | [true, true, false, false] => w = w2
    | [true, true, true, false] => w = w2.setCells b (nd.length * 5) (pcs y)
    | [true, true, false, true] => w = w2.setCell ⟨g, 0, none⟩ (.slice (some ⟨b, 0, none⟩) (nd.length + 1) k)
    | [true, true, true, true] => w = (w2.setCells b (nd.length * 5) (pcs y)).setCell ⟨g, 0, none⟩ (.slice (some ⟨b, 0, none⟩) (nd.length + 1) k)
    | _ => False
  refine ⟨.slice (some ⟨b, 0, none⟩) (nd.length + 1) k, b, C, ⟨rfl, fun w hw => hw, hwa.symm, fun w hw => ⟨w2, by rw [show w = wa from hw]; exact hrun, rfl⟩, fun w yb hw => ?_, fun w yb hw => ?_, fun bits w hw hb => ?_, fun bits w hw => ?_, ⟨k, rfl, hk⟩, fun w hw => ?_⟩⟩
  · cases yb with
    | false =>
      have e1 : w = w2 := hw
      subst e1
      exact ⟨hth _ (fun _ => rfl) (fun _ => rfl), rfl⟩
    | true =>
      have e1 : w = w2.setCell ⟨g, 0, none⟩ (.slice (some ⟨b, 0, none⟩) (nd.length + 1) k) := hw
      subst e1
      exact ⟨hth _ (fun j => World.cell?_setCell_other _ _ _ _ (by simp [hbg])) (fun j => World.frozen?_setCell _ _ _ _), hbs _ _⟩
  · cases yb with
    | false =>
      have e1 : w = w2 := hw
      subst e1
      exact ⟨hc0 _ hgb, rfl⟩
    | true =>
      have e1 : w = w2.setCells b (nd.length * 5) (pcs y) := hw
      subst e1
      exact ⟨hc0 _ ((hw3.2.block g (Nat.lt_of_lt_of_le h.lt hg2.size) (fun e => hbg (by injection e with e; exact e.symm))).trans hgb), rfl⟩
  · match bits, hw, hb with
    | [false, false, false, false], hw, _ => rw [show w = W.drew from hw]; exact Later.drew W
    | [true, false, false, false], hw, _ => rw [show w = wa from hw]; exact hla
    | [true, true, false, false], _, hb => cases hb
    | [true, true, true, false], _, hb => cases hb
    | [true, true, false, true], _, hb => cases hb
    | [true, true, true, true], _, hb => cases hb
  · match bits, hw with
    | [false, false, false, false], _ => exact ⟨_, _, _, _, rfl, by simp⟩
    | [true, false, false, false], _ => exact ⟨_, _, _, _, rfl, by simp⟩
    | [true, true, false, false], _ => exact ⟨_, _, _, _, rfl, by simp⟩
    | [true, true, true, false], _ => exact ⟨_, _, _, _, rfl, by simp⟩
    | [true, true, false, true], _ => exact ⟨_, _, _, _, rfl, by simp⟩
    | [true, true, true, true], _ => exact ⟨_, _, _, _, rfl, by simp⟩
  · rw [show w = _ from hw]
    exact hfin
end Go.Proofs.YtlenocpaalahbaaDoor
