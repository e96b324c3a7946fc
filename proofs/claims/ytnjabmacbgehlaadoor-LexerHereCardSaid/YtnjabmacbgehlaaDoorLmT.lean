/- The lexer's reader: a token's body is laid. No premises. -/
import Derived.Test.YtnjabmacbgehlaaDoorLmS
import Derived.Test.YtnjabmacbgehlaaDoorLmP
namespace Go.Proofs.YtnjabmacbgehlaaDoor
open Go.RowKit Go.Maps
open Lx (nl Tok lay)
theorem cellsT_lay (N : Nat) (b : L) : ∀ (ts : List Tok) (k : Nat), k < ts.length → cellsT N (lay k b ts) = (cellsT N ts).set (k * 4 + 2) (.string (mkS b))
  | [], k, h => by simp at h
  | z :: ts, 0, _ => by
    have e : cellsT N (z :: ts) = (tcs N z).toList ++ cellsT N ts := by simp [cellsT]
    have e2 : cellsT N (lay 0 b (z :: ts)) = (tcs N { z with body := b }).toList ++ cellsT N ts := by simp [cellsT, lay]
    rw [e, e2, List.set_append_left _ _ (by simp [tcs])]
    rfl
  | z :: ts, k + 1, h => by
    have e : cellsT N (z :: ts) = (tcs N z).toList ++ cellsT N ts := by simp [cellsT]
    have e2 : cellsT N (lay (k + 1) b (z :: ts)) = (tcs N z).toList ++ cellsT N (lay k b ts) := by simp [cellsT, lay]
    have hl : (tcs N z).toList.length = 4 := rfl
    rw [e, e2, List.set_append_right _ _ (by omega), hl, show (k + 1) * 4 + 2 - 4 = k * 4 + 2 by omega, cellsT_lay N b ts k (by simpa using h)]
/-- Where a token's body lies. -/
abbrev bodyAt (ad : Addr) (k : Nat) : Addr := ⟨(ad.add (k * 4)).block, (ad.add (k * 4)).off + 2, none⟩
section
variable {W W' : World} {B g p n ms mp : Nat} {S : L} {σ : St} {vt vh vx : Value}
theorem MemX.body (h : MemX W B g S σ p n vt vh vx ms mp) {k : Nat} (hk : k < σ.ts.length) {ad : Addr} {c m : Nat} (hv : vt = .slice (some ad) m c) (b : L) :
    (∃ v0, W.cell? (bodyAt ad k) = some v0) ∧ W.frozen? (bodyAt ad k) = false ∧ MemX (W.setCell (bodyAt ad k) (.string (mkS b))) B g S { σ with ts := lay k b σ.ts } p n vt vh vx ms mp ∧ B ≤ (bodyAt ad k).block ∧ (bodyAt ad k).block ≠ g := by
  have ht := h.tok
  rcases ht.2 with ⟨h0, h1⟩ | ⟨gt, cap, cur, h0, hb, hh, hnc, hcm, hcs, htake⟩
  · omega
  · rw [hv] at h0
    simp only [Value.slice.injEq, Option.some.injEq] at h0
    obtain ⟨rfl, rfl, rfl⟩ := h0
    have e1 : bodyAt ⟨gt, 0, none⟩ k = ⟨gt, k * 4 + 2, none⟩ := by unfold bodyAt; rw [add_lit0]
    rw [e1]
    have hne : gt ≠ g := fun e => by
      rw [e, h.box] at hh
      simp only [Option.some.injEq, Obj.cells.injEq] at hh
      exact absurd hh.2.1 (by decide)
    have hsz : k * 4 + 2 < cur.size := by rw [hcs]; have : σ.ts.length * 4 ≤ c * 4 := Nat.mul_le_mul_right 4 hnc; omega
    have hg := set_only W gt (k * 4 + 2) (.string (mkS b))
    have hlen : (lay k b σ.ts).length = σ.ts.length := by simp [lay]
    refine ⟨⟨cur[k * 4 + 2], by rw [(cell_row hh _).1]; simp [hsz]⟩, (cell_row hh _).2, ⟨by rw [hg.block g h.lt (fun e => hne (Option.some.inj e).symm)]; exact h.box, h.low, h.big, h.cut, h.at_, h.ln, ?_, h.her.kept hg (.inr (apart_block h.her hh (by decide))), h.txt.kept hg (.inr (apart_block h.txt hh (by decide))), h.ls, h.lp, h.st.kept hg (fun e => h.st.apart hh (Option.some.inj e)), h.pa.kept hg (fun e => h.pa.apart hh (Option.some.inj e))⟩, hb, hne⟩
    show (W.setCell ⟨gt, k * 4 + 2, none⟩ (.string (mkS b))).ownsRow B 33 4 vt (lay k b σ.ts).length (cellsT (nl S) (lay k b σ.ts))
    rw [hlen]
    refine ⟨by rw [cellsT_lay _ _ _ _ hk, List.length_set]; exact ht.1, .inr ⟨gt, c, _, hv, hb, set_row hh _ _, hnc, hcm, by simp [hcs], ?_⟩⟩
    rw [cellsT_lay _ _ _ _ hk, ← htake]
    simp only [Array.toList_setIfInBounds, List.take_set]
theorem MemX.noHeres (h : MemX W B g S σ p n vt vh vx ms mp) : Mem (W.setCell ⟨g, 5, none⟩ (.slice none 0 0)) B g S { σ with hs := [] } := by
  have hg := set_only W g 5 (.slice none 0 0)
  exact ⟨p, n, vt, .slice none 0 0, vx, ms, mp, by rw [set_row h.box 5 _]; rfl, h.low, h.big, h.cut, h.at_, h.ln, h.tok.kept hg (.inr (apart_block h.tok h.box (by decide))), World.ownsRow_nil _ _ _ _, h.txt.kept hg (.inr (apart_block h.txt h.box (by decide))), h.ls, h.lp, h.st.kept hg (fun e => h.st.apart h.box (Option.some.inj e)), h.pa.kept hg (fun e => h.pa.apart h.box (Option.some.inj e))⟩
end
/-- What the walk of 'r.tokens[i].Body = r.body(end)' goes by. -/
structure Bodied (W : World) (B g : Nat) (S : L) (σ : St) (vt vh vx : Value) (ms mp : Nat) (ad : Addr) (k : Nat) (b r : L) (C1 : Value → World → Prop) (C2 : World → Prop) : Prop where
  c4 : ∀ w, (Later W w ∨ (∃ u, C1 u w) ∨ C2 w) → w.cell? ⟨g, 4, none⟩ = some vt
  l1 : ∀ u w w', C1 u w → Later w w' → C1 u w'
  l2 : ∀ w w', C2 w → Later w w' → C2 w'
  made : ∀ w w', Later W w → (∃ p' n', MemX w' B g S { σ with l := r } p' n' vt vh vx ms mp) → w.grownBy w' (some g) → C1 (.string (mkS b)) w'
  q : ∀ w u, C1 u w → u = .string (mkS b) ∧ (∃ v0, w.cell? (bodyAt ad k) = some v0) ∧ w.frozen? (bodyAt ad k) = false
  c2 : ∀ w u, C1 u w → C2 (w.setCell (bodyAt ad k) (.string (mkS b)))
  ce : ∀ w, C2 w → (∃ p' n', MemX w B g S { σ with l := r, ts := lay k b σ.ts } p' n' vt vh vx ms mp) ∧ Below B W w
theorem bodied {W : World} {B g p n ms mp : Nat} {S : L} {σ : St} {vt vh vx : Value} (h : MemX W B g S σ p n vt vh vx ms mp) {k : Nat} (hk : k < σ.ts.length) {ad : Addr} {c m : Nat} (hv : vt = .slice (some ad) m c) (b r : L) : ∃ C1 C2, Bodied W B g S σ vt vh vx ms mp ad k b r C1 C2 := by
  have hBW : B ≤ W.heap.size := Nat.le_trans h.low (Nat.le_of_lt h.lt)
  refine ⟨fun u w => u = .string (mkS b) ∧ (∃ p' n', MemX w B g S { σ with l := r } p' n' vt vh vx ms mp) ∧ Below B W w, fun w => (∃ p' n', MemX w B g S { σ with l := r, ts := lay k b σ.ts } p' n' vt vh vx ms mp) ∧ Below B W w, ?_, ?_, ?_, ?_, ?_, ?_, fun w hc => hc⟩
  · rintro w (hw | ⟨u, _, ⟨p', n', hw⟩, _⟩ | ⟨⟨p', n', hw⟩, _⟩)
    · exact (cell_row ((hw.block g h.lt).trans h.box) 4).1
    · exact (cell_row hw.box 4).1
    · exact (cell_row hw.box 4).1
  · rintro u w w' ⟨h1, ⟨p', n', h2⟩, h3⟩ hl
    exact ⟨h1, ⟨p', n', h2.kept hl⟩, h3.trans (hl.mono (Nat.le_trans hBW h3.size))⟩
  · rintro w w' ⟨⟨p', n', h2⟩, h3⟩ hl
    exact ⟨⟨p', n', h2.kept hl⟩, h3.trans (hl.mono (Nat.le_trans hBW h3.size))⟩
  · intro w w' hl hm hg
    exact ⟨rfl, hm, (hl.mono hBW).trans (only_below hg h.low (Nat.le_trans hBW hl.size))⟩
  · rintro w u ⟨h1, ⟨p', n', h2⟩, h3⟩
    obtain ⟨k1, k2, _⟩ := MemX.body (σ := { σ with l := r }) h2 hk hv b
    exact ⟨h1, k1, k2⟩
  · rintro w u ⟨h1, ⟨p', n', h2⟩, h3⟩
    obtain ⟨_, _, k3, k4, _⟩ := MemX.body (σ := { σ with l := r }) h2 hk hv b
    exact ⟨⟨p', n', k3⟩, h3.setCell k4 _⟩
/-- A call, in a region, that ends the statement. -/
theorem wp_call_panics {P : Program} {o : Oper} {f : FuncId} {xs : Array Operand} {ats : Array TypeId} {a : Act} {w : World} {K : Act → World → Prop} {Q : Exit → Act → World → Prop} {fn : Func} {c : Code} {ch : List PanicEntry} {R : World → Prop} (vals : Array Value)
    (hop : o.op = .call { callee := .value (.func f), args := xs, argTypes := ats }) (hf : P.funcs[f]? = some fn) (hname : (fn.name == "runtime.NumGoroutine") = false) (hb : fn.body = some c)
    (hv : xs.map a.eval = vals) (h : Calls P f vals w fun e w'' => e = .panicked ch ∧ R w'') (hQ : ∀ w', R w' → Q (.panic ch) a w') : Oper.wp P o a w K Q := by
  have e1 : execOp a.eval o = callFunc f vals := by
    subst hv
    unfold execOp
    simp [hop, resolve, Deferred.ofValue, invoke, Act.eval]
  unfold Oper.wp
  rw [e1, run_enter hf hname hb]
  refine h.mono ?_
  rintro e w' ⟨rfl, hr⟩
  exact hQ w' hr
end Go.Proofs.YtnjabmacbgehlaaDoor
