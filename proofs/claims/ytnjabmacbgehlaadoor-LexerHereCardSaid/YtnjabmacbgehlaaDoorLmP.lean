/- The lexer's reader: a here-document's place is noted. No premises. -/
import Derived.Test.YtnjabmacbgehlaaDoorLmO
namespace Go.Proofs.YtnjabmacbgehlaaDoor
open Go.RowKit Go.Maps
open Lx (nl Tok)
theorem info_int : (Tryd.prog.info? 3).map (fun i => (i.zero, i.size, i.bytes)) = some (some (.int .i64 0), 1, 8) := by kernel_rfl
/-- What the walk of 'r.heres = append(r.heres, len(r.tokens))' goes by: the reader ahead of it, between the append and the store, and behind it. -/
structure Noted (W : World) (B g : Nat) (S : L) (σ : St) (A0 : Option Addr) (n0 k0 : Nat) (A1 : Option Addr) (n1 k1 : Nat) (C1 : Value → World → Prop) (C2 : World → Prop) : Prop where
  c5 : ∀ w, Later W w → w.cell? ⟨g, 5, none⟩ = some (.slice A0 n0 k0)
  c4 : ∀ w, (Later W w ∨ (∃ u, C1 u w) ∨ C2 w) → w.cell? ⟨g, 4, none⟩ = some (.slice A1 n1 k1)
  len : n1 = σ.ts.length
  sz : ∀ w, (Later W w ∨ (∃ u, C1 u w) ∨ C2 w) → W.heap.size ≤ w.heap.size
  l1 : ∀ u w w', C1 u w → Later w w' → C1 u w'
  l2 : ∀ w w', C2 w → Later w w' → C2 w'
  or : ∀ w w', (Later W w ∨ (∃ u, C1 u w) ∨ C2 w) → Later w w' → (Later W w' ∨ (∃ u, C1 u w') ∨ C2 w')
  ap : ∀ w, Later W w → ∀ N, w.heap[N]? = some (.cells #[.int .i64 (n1 : Int)] 3 (0, 0)) → ∃ v' w', (Builtin.append_ #[48, 48] 48 #[.slice A0 n0 k0, .slice (some ⟨N, 0, none⟩) 1 1]).run Tryd.prog w = .ok v' w' ∧ C1 v' w' ∧ High W.heap.size w w'
  u : ∀ w u, C1 u w → ∃ A n k, u = .slice A n k
  q5 : ∀ w u, C1 u w → w.cell? ⟨g, 5, none⟩ = some (.slice A0 n0 k0) ∧ w.frozen? ⟨g, 5, none⟩ = false
  c2 : ∀ w u, C1 u w → C2 (w.setCell ⟨g, 5, none⟩ u)
  gq : ∀ w u, C1 u w → High W.heap.size w (w.setCell ⟨g, 5, none⟩ u)
  ce : ∀ w, C2 w → Mem w B g S { σ with hs := σ.hs ++ [σ.ts.length] } ∧ Below B W w
theorem noted (B g : Nat) (S : L) (σ : St) (hn : σ.hs.length ≤ 5000) (W : World) (h : Mem W B g S σ) : ∃ A0 n0 k0 A1 n1 k1 C1 C2, Noted W B g S σ A0 n0 k0 A1 n1 k1 C1 C2 := by
  obtain ⟨i0, hi, hz0, hz1, hz2⟩ := info_parts info_int
  obtain ⟨p, n, vt, vh, vx, ms, mp, h⟩ := h
  obtain ⟨A1, k1, rfl, _⟩ := own_slice4 h.tok
  obtain ⟨A0, k0, rfl, hk0, _⟩ := own_map h.her
  obtain ⟨hs', hhs⟩ : ∃ hs', hs' = σ.hs ++ [σ.ts.length] := ⟨_, rfl⟩
  have hmap : hs'.map iv = σ.hs.map iv ++ [iv σ.ts.length] := by rw [hhs]; simp
  let C1 : Value → World → Prop := fun v w => w.ownsRow B 3 1 v (hs'.map iv).length (hs'.map iv) ∧ W.grownBy w (Value.slice A0 σ.hs.length k0).ownBlock
  let C2 : World → Prop := fun w => (∃ v', MemX w B g S { σ with hs := hs' } p n (.slice A1 σ.ts.length k1) v' vx ms mp) ∧ Below B W w
  have hlt := h.lt
  have hBW : B ≤ W.heap.size := Nat.le_trans h.low (Nat.le_of_lt hlt)
  have hob : ∀ i, (Value.slice A0 σ.hs.length k0).ownBlock = some i → B ≤ i ∧ i < W.heap.size := fun i e => h.her.lt i e
  have hg0 : ∀ w v, C1 v w → w.heap[g]? = W.heap[g]? := fun w v hc => hc.2.block g hlt fun e => apart_block h.her h.box (by decide) e.symm
  have hl1 : ∀ u w w', C1 u w → Later w w' → C1 u w' := fun u w w' hc hl => ⟨own_below hc.1 hl, grown_later hc.2 hl⟩
  have hl2 : ∀ w w', C2 w → Later w w' → C2 w' := fun w w' hc hl => by
    obtain ⟨⟨v', hm⟩, hb⟩ := hc
    exact ⟨⟨v', hm.kept hl⟩, hb.trans (hl.mono (Nat.le_trans hBW hb.size))⟩
  refine ⟨A0, σ.hs.length, k0, A1, σ.ts.length, k1, C1, C2, fun w hw => (cell_row ((hw.block g hlt).trans h.box) 5).1, fun w hw => ?_, rfl, fun w hw => ?_, hl1, hl2, fun w w' hc hl => ?_, fun w hw N hN => ?_, fun w u hc => ?_, fun w u hc => cell_row ((hg0 w u hc).trans h.box) 5, fun w u hc => ?_, fun w u hc => High.grown (set_only w g 5 u) fun i e => by cases e; exact hlt, fun w hc => ?_⟩
  · rcases hw with hw | ⟨u, hw⟩ | ⟨⟨_, hw⟩, _⟩
    · exact (cell_row ((hw.block g hlt).trans h.box) 4).1
    · exact (cell_row ((hg0 w u hw).trans h.box) 4).1
    · exact (cell_row hw.box 4).1
  · rcases hw with hw | ⟨u, hw⟩ | ⟨_, hw⟩
    · exact hw.size
    · exact hw.2.size
    · exact hw.size
  · rcases hc with hc | ⟨u, hc⟩ | hc
    · exact .inl (hc.trans hl)
    · exact .inr (.inl ⟨u, hl1 u w w' hc hl⟩)
    · exact .inr (.inr (hl2 w w' hc hl))
  · have ho := own_below h.her hw
    obtain ⟨v', w', hrun, h2, h3, _, _⟩ := run_append_own_at (P := Tryd.prog) w B 48 48 3 i0 _ 1 8 Tryd.underlying48 hi hz0 hz1 hz2 rfl (by omega) (.slice A0 σ.hs.length k0) (σ.hs.map iv).length (σ.hs.map iv) ho ⟨N, 0, none⟩ 1 1 [iv σ.ts.length] rfl
      (fun j u hj => by rw [add_lit0, (cell_row hN j).1]; simpa [iv] using hj) (fun u hu => by simp at hu; subst hu; rfl) (by rw [List.length_map]; unfold maxLen; omega) (by rw [List.length_map]; omega) (Nat.le_trans hBW hw.size)
    refine ⟨v', w', hrun, ⟨by rw [hmap, List.length_append]; exact h2, later_grown hw h3⟩, High.grown h3 fun i e => (hob i e).2⟩
  · obtain ⟨A, c, e, _⟩ := own_map hc.1
    exact ⟨A, _, c, e⟩
  · refine ⟨⟨u, ?_⟩, ((Below.refl B W).grown hc.2 hBW fun i e => (hob i e).1).setCell h.low u⟩
    have hgn := hc.2
    have hbx : w.heap[g]? = some (.cells (RC S p n σ.b (.slice A1 σ.ts.length k1) (.slice A0 σ.hs.length k0) vx σ.j σ.d ms mp) 51 (0, 0)) := (hg0 w u hc).trans h.box
    have k1' := h.tok.kept hgn (apart_types h.tok h.her (by decide))
    have k2 := h.txt.kept hgn (apart_types h.txt h.her (by decide))
    have k3 := h.st.kept hgn (h.st.apart_row h.her)
    have k4 := h.pa.kept hgn (h.pa.apart_row h.her)
    have hs := set_only w g 5 u
    exact ⟨set_row hbx 5 u, h.low, h.big, h.cut, h.at_, h.ln, k1'.kept hs (.inr (apart_block k1' hbx (by decide))), hc.1.kept hs (.inr (apart_block hc.1 hbx (by decide))), k2.kept hs (.inr (apart_block k2 hbx (by decide))), h.ls, h.lp, k3.kept hs (fun e => k3.apart hbx (Option.some.inj e)), k4.kept hs (fun e => k4.apart hbx (Option.some.inj e))⟩
  · obtain ⟨⟨v', hm⟩, hb⟩ := hc
    rw [hhs] at hm
    exact ⟨hm.mem, hb⟩
/-- The word's row and mark are begun anew. -/
theorem MemX.reset {W : World} {B g p n ms mp : Nat} {S : L} {σ : St} {vt vh vx : Value} (h : MemX W B g S σ p n vt vh vx ms mp) : Mem ((W.setCell ⟨g, 6, none⟩ (.slice none 0 0)).setCell ⟨g, 7, none⟩ (.bool false)) B g S { σ with q := [], j := false } := by
  have hg := only_trans (set_only W g 6 (.slice none 0 0)) (set_only _ g 7 (.bool false))
  refine ⟨p, n, vt, vh, .slice none 0 0, ms, mp, by rw [set_row (set_row h.box 6 _)]; rfl, h.low, h.big, h.cut, h.at_, h.ln, h.tok.kept hg (.inr (apart_block h.tok h.box (by decide))), h.her.kept hg (.inr (apart_block h.her h.box (by decide))), World.ownsRow_nil _ _ _ _, h.ls, h.lp, h.st.kept hg (fun e => h.st.apart h.box (Option.some.inj e)), h.pa.kept hg (fun e => h.pa.apart h.box (Option.some.inj e))⟩
end Go.Proofs.YtnjabmacbgehlaaDoor
