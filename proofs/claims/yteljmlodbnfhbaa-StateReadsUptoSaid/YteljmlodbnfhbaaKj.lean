/- A row that comes in: what the row under way is like. No premises. -/
import Derived.Test.YteljmlodbnfhbaaKi
import Derived.Test.YteljmlodbnfhbaaNa
namespace Go.Proofs.Yteljmlodbnfhbaa
open Go.RowKit
namespace Ks
set_option maxRecDepth 100000
def Ne2 (g gr : Nat) : Nat → Prop := fun k => k ≠ g ∧ k ≠ gr
/-- So many things. -/
def nxtK {α : Type} (c : Cd α) (k : Nat) (st : Except Nat B) : Except Nat (List α × B) := match st with
  | .error e => .error e
  | .ok b => manyG c k b
theorem nxtK_snoc {α : Type} (c : Cd α) (k : Nat) (st : Except Nat B) : (∀ e, nxtK c k st = .error e → nxtK c (k + 1) st = .error e) ∧ ∀ l q, nxtK c k st = .ok (l, q) → (∀ e, c.get q = .error e → nxtK c (k + 1) st = .error e) ∧ ∀ a q2, c.get q = .ok (a, q2) → nxtK c (k + 1) st = .ok (l ++ [a], q2) := by
  cases st with
  | error e => exact ⟨fun _ h => h, fun l q h => by cases h⟩
  | ok b =>
    have h := many_snoc c k b
    have e1 : ∀ j, nxtK c j (.ok b) = manyG c j b := fun _ => rfl
    rw [e1, e1, h]
    cases manyG c k b with
    | error e => exact ⟨fun _ h => h, fun l q h => by cases h⟩
    | ok p =>
      refine ⟨fun e h => (by cases h), fun l q h => ?_⟩
      cases h
      exact ⟨fun e h => by dsimp only; rw [h], fun a q2 h => by dsimp only; rw [h]⟩
theorem nxtK_mono {α : Type} (c : Cd α) {k m : Nat} (h : k ≤ m) {st : Except Nat B} {e : Nat} (he : nxtK c k st = .error e) : nxtK c m st = .error e := by
  induction m with
  | zero => obtain rfl : k = 0 := by omega
            exact he
  | succ m ih =>
    by_cases hk : k = m + 1
    · subst hk; exact he
    · exact (nxtK_snoc c m st).1 e (ih (by omega))
/-- The row under way. -/
structure TkR {α : Type} (r : Rp α) (c : Cd α) (ET : TypeId) (W : World) (B0 g gr : Nat) (st0 : Except Nat B) (k : Nat) (w : World) (v : Value) (xss : List (List Value)) (st : Except Nat B) : Prop where
  pi : PI w B0 g gr st
  fr : Fr (Ne2 g gr) W w
  own : w.ownsRow W.heap.size ET r.wd v k xss.flatten
  len : xss.length = k
  bad : ∀ e, nxtK c k st0 = .error e → st = .error e
  good : ∀ l q, nxtK c k st0 = .ok (l, q) → st = .ok q ∧ l.length = k ∧ ∀ u : World, w.heap.size ≤ u.heap.size → (∀ j, W.heap.size ≤ j → j < w.heap.size → v.ownBlock ≠ some j → u.heap[j]? = w.heap[j]?) → ∀ (i : Nat) (x : List Value) (a : α), xss[i]? = some x → l[i]? = some a → r.C u u.heap.size x a
section
variable {α : Type} {r : Rp α} {c : Cd α} {ET : TypeId} {W w w1 w2 : World} {B0 g gr k m : Nat} {st0 st st2 : Except Nat B} {v v2 : Value} {xss : List (List Value)} {cs : List Value} {o : Obj}
theorem TkR.start (h : PI w B0 g gr st0) (hf : Fr (Ne2 g gr) W w) : TkR r c ET W B0 g gr st0 0 w (.slice none 0 0) [] st0 := by
  refine ⟨h, hf, World.ownsRow_nil w _ _ _, rfl, fun e he => ?_, fun l q hg => ?_⟩
  · cases st0 with
    | error e1 => cases he; rfl
    | ok b => cases he
  · cases st0 with
    | error e1 => cases hg
    | ok b => cases hg; exact ⟨rfl, rfl, fun u _ _ i x a hx _ => by simp at hx⟩
theorem PI.grown (h : PI w B0 g gr st) {row : Option Nat} (hg : w.grownBy w1 row) (hr : ∀ x, row = some x → B0 ≤ x ∧ x ≠ g) : PI w1 B0 g gr st := by
  obtain ⟨form, e, bs, h, hs⟩ := h
  refine ⟨form, e, bs, ⟨(hg.block g (lt_of_block h.box) fun e => (hr g e.symm).2 rfl).trans h.box, h.rdr.below ((Below.refl B0 w).grown hg h.size fun x hx => (hr x hx).1), h.ge⟩, hs⟩
theorem TkR.push (h : TkR r c ET W B0 g gr st0 k w v xss st) (hW : B0 ≤ W.heap.size ∧ g < W.heap.size ∧ gr < W.heap.size) (hp : PI w1 B0 g gr st2) (hf : Fr (Ne3 g gr w.heap.size) (w.alloc o) w1) (hs : Stp r c (w.alloc o).heap.size w1 st st2 cs) (hg : GrewK w1 w2 W.heap.size ET r.wd v v2 (k + 1) (xss.flatten ++ cs)) : TkR r c ET W B0 g gr st0 (k + 1) w2 v2 (xss ++ [cs]) st2 := by
  have hla := Later.alloc w o
  have hvl := h.own.lt
  have hsz := h.fr.size
  have hsa : (w.alloc o).heap.size = w.heap.size + 1 := by simp
  have hs1 := hf.size
  have hgr := hg.grown
  -- blocks of w that are kept up to w2
  have keep : ∀ j, j < w.heap.size → j ≠ g → j ≠ gr → v.ownBlock ≠ some j → w2.heap[j]? = w.heap[j]? := fun j hj h1 h2 h3 =>
    (hgr.block j (by omega) fun e => h3 e.symm).trans ((hf.block j (by omega) ⟨h1, h2, by omega⟩).trans (hla.block j hj))
  refine ⟨hp.grown hgr fun x hx => ?_, ?_, ?_, by rw [List.length_append, h.len]; rfl, fun e he => ?_, fun l q hgd => ?_⟩
  · have := hvl x hx; omega
  · refine ⟨hgr.os.trans (hf.os.trans (hla.os.trans h.fr.os)), hgr.tape.trans (hf.tape.trans (hla.tape.trans h.fr.tape)), hgr.output.trans (hf.output.trans (hla.output.trans h.fr.output)), Nat.le_trans hsz (Nat.le_trans hla.size (Nat.le_trans hs1 hgr.size)), fun j hj hn => ?_⟩
    refine (keep j (by omega) hn.1 hn.2 fun e => ?_).trans (h.fr.block j hj hn)
    have := hvl j e; omega
  · have := hg.own
    simpa using this
  · obtain ⟨n1, n2⟩ := nxtK_snoc c k st0
    cases hk : nxtK c k st0 with
    | error e1 =>
      have h1 := n1 e1 hk
      rw [h1] at he
      cases he
      have h2 := h.bad _ hk
      subst h2
      exact hs.bad _ rfl
    | ok p =>
      obtain ⟨l1, q1⟩ := p
      obtain ⟨h1, _⟩ := h.good l1 q1 hk
      subst h1
      obtain ⟨m1, m2⟩ := n2 l1 q1 hk
      cases hc : c.get q1 with
      | error e1 =>
        rw [m1 e1 hc] at he
        cases he
        exact hs.bad _ hc
      | ok p =>
        rw [m2 p.1 p.2 hc] at he
        cases he
  · obtain ⟨n1, n2⟩ := nxtK_snoc c k st0
    cases hk : nxtK c k st0 with
    | error e1 => rw [n1 e1 hk] at hgd; cases hgd
    | ok p =>
      obtain ⟨l1, q1⟩ := p
      obtain ⟨h1, h2, h3⟩ := h.good l1 q1 hk
      subst h1
      obtain ⟨m1, m2⟩ := n2 l1 q1 hk
      cases hc : c.get q1 with
      | error e1 => rw [m1 e1 hc] at hgd; cases hgd
      | ok p =>
        obtain ⟨a0, q2⟩ := p
        rw [m2 a0 q2 hc] at hgd
        injection hgd with hgd
        injection hgd with hl hq
        subst hl
        subst hq
        obtain ⟨h4, h5⟩ := hs.good a0 q2 hc
        refine ⟨h4, by rw [List.length_append, h2]; rfl, fun u hu hk2 i x a hx ha => ?_⟩
        have hv2 : ∀ j, j < w1.heap.size → v.ownBlock ≠ some j → v2.ownBlock ≠ some j := fun j hj hne e => by
          rcases hg.moved with e1 | ⟨y, e1, hy⟩
          · exact hne (by rw [← e1]; exact e)
          · rw [e1] at e; injection e with e; omega
        by_cases hi : i < xss.length
        · rw [List.getElem?_append_left hi] at hx
          rw [List.getElem?_append_left (by rw [h2, ← h.len]; exact hi)] at ha
          refine h3 u (Nat.le_trans hla.size (Nat.le_trans hs1 (Nat.le_trans hgr.size hu))) (fun j hj1 hj2 hj3 => ?_) i x a hx ha
          exact (hk2 j hj1 (by have := hgr.size; omega) (hv2 j (by omega) hj3)).trans (keep j hj2 (by omega) (by omega) hj3)
        · have hi2 : i = xss.length := by
            have := (List.getElem?_eq_some_iff.1 hx).1
            rw [List.length_append] at this
            simp at this; omega
          subst hi2
          rw [List.getElem?_append_right (Nat.le_refl _), Nat.sub_self] at hx
          rw [List.getElem?_append_right (by rw [h2, ← h.len]; exact Nat.le_refl _), h2, ← h.len, Nat.sub_self] at ha
          simp at hx ha
          subst hx
          subst ha
          refine h5 u (Nat.le_trans hgr.size hu) fun j hj1 hj2 => ?_
          have hne : v.ownBlock ≠ some j := fun e => by have := hvl j e; omega
          exact (hk2 j (by omega) (by have := hgr.size; omega) (hv2 j hj2 hne)).trans (hgr.block j hj2 fun e => hne e.symm)
/-- What a row that came in is. -/
structure TkD {α : Type} (r : Rp α) (res : Except Nat (List α × B)) (W : World) (B0 g gr : Nat) (w : World) (A : Option Addr) (n cap : Nat) (st : Except Nat B) : Prop where
  pi : PI w B0 g gr st
  fr : Fr (Ne2 g gr) W w
  bad : ∀ e, res = .error e → st = .error e
  good : ∀ l q, res = .ok (l, q) → st = .ok q ∧ Lst (rrow r) W.heap.size w [.slice A n cap] l
theorem TkR.stop {e : Nat} (h : TkR r c ET W B0 g gr st0 k w v xss (.error e)) (hk : k ≤ m) : TkD r (nxtK c m st0) W B0 g gr w none 0 0 (.error e) := by
  have he : nxtK c m st0 = .error e := by
    refine nxtK_mono c hk ?_
    cases hn : nxtK c k st0 with
    | error e1 => have := h.bad e1 hn; cases this; rfl
    | ok p => have := (h.good p.1 p.2 hn).1; cases this
  refine ⟨h.pi, h.fr, fun e1 h1 => (by rw [he] at h1; injection h1 with h1; rw [h1]), fun l q h1 => by rw [he] at h1; cases h1⟩
theorem TkR.done (h : TkR r c ET W B0 g gr st0 m w v xss st) : ∃ A cap, v = .slice A m cap ∧ TkD r (nxtK c m st0) W B0 g gr w A m cap st := by
  have hh : ∃ A cap, v = .slice A m cap ∧ m ≤ cap ∧ cap ≤ 9223372036854775807 := by
    rcases h.own.2 with ⟨rfl, h0⟩ | ⟨b, cap, cur, rfl, _, _, hnc, hcm, _⟩
    · subst h0; exact ⟨none, 0, rfl, Nat.le_refl _, by omega⟩
    · exact ⟨_, cap, rfl, hnc, hcm⟩
  obtain ⟨A, cap, rfl, hc1, hc2⟩ := hh
  refine ⟨A, cap, rfl, h.pi, h.fr, h.bad, fun l q hg => ?_⟩
  obtain ⟨h1, h2, h3⟩ := h.good l q hg
  refine ⟨h1, fun u hu hk => ?_⟩
  have hel := h3 u hu fun j hj1 hj2 _ => hk j hj1 hj2
  refine ⟨A, cap, by rw [h2], by rw [h2]; exact hc1, hc2, xss, by rw [h.len, h2], ⟨by rw [h.own.1, h2], fun hn => ?_⟩, hel⟩
  rcases h.own.2 with ⟨e0, h0⟩ | ⟨b, cap', cur, e0, hb, hb2, _⟩
  · rw [h2, h0] at hn; simp at hn
  · injection e0 with e0
    subst e0
    have hlt := lt_of_block hb2
    refine ⟨_, rfl, Nat.lt_of_lt_of_le hlt hu, fun j y hj => ?_⟩
    rw [← h.own.cells (g := b) rfl j y hj]
    exact World.cell?_of_block (by rw [block_add]; exact hk b hb hlt)
end
theorem lst1 {l : List Value} (h : l.length = 1) : ∃ a0, l = [a0] := by
  match l, h with
  | [a], _ => exact ⟨a, rfl⟩
theorem lst2 {l : List Value} (h : l.length = 2) : ∃ a0 a1, l = [a0, a1] := by
  match l, h with
  | [a, b], _ => exact ⟨a, b, rfl⟩
theorem lst3 {l : List Value} (h : l.length = 3) : ∃ a0 a1 a2, l = [a0, a1, a2] := by
  match l, h with
  | [a, b, c], _ => exact ⟨a, b, c, rfl⟩
theorem lst19 {l : List Value} (h : l.length = 19) : ∃ a0 a1 a2 a3 a4 a5 a6 a7 a8 a9 a10 a11 a12 a13 a14 a15 a16 a17 a18, l = [a0, a1, a2, a3, a4, a5, a6, a7, a8, a9, a10, a11, a12, a13, a14, a15, a16, a17, a18] := by
  match l, h with
  | [a0, a1, a2, a3, a4, a5, a6, a7, a8, a9, a10, a11, a12, a13, a14, a15, a16, a17, a18], _ => exact ⟨a0, a1, a2, a3, a4, a5, a6, a7, a8, a9, a10, a11, a12, a13, a14, a15, a16, a17, a18, rfl⟩
theorem ends_v {W : World} {B0 g gr e : Nat} {form : Bool} {bs : B} (h : PIx W B0 g gr form e bs) : Calls Try.prog 71 #[.pointer (some ⟨g, 0, none⟩)] W fun r W' => r = .returned (.bool (form || decide (e ≠ 0))) ∧ W = W' := by
  have q2 := (cell_row h.box 2).1
  have q1 := (cell_row h.box 1).1
  simp at q1 q2
  obtain ⟨A, n, cp, hb, _⟩ := h.rdr
  have q3 := (cell_row hb 1).1
  simp at q3
  have HQ := Lib.hid q3
  clear hb h q3
  cases form
  · by_cases he : e = 0
    · subst he
      go_enter Try.func71, Try.ntmps71
      go_wp2_with (go_at_call 64; (with_reducible refine (err_v _ _ _ HQ.out).mono ?_); rintro e w' ⟨rfl, rfl⟩)
      go_ret
      exact ⟨rfl, rfl⟩
    · have hne : ((e : Int) != 0) = true := by simp; omega
      rw [show (false || decide (e ≠ 0)) = true by simp [he]]
      clear he
      go_enter Try.func71, Try.ntmps71
      go_wp2_with (go_at_call 64; (with_reducible refine (err_v _ _ _ HQ.out).mono ?_); rintro e w' ⟨rfl, rfl⟩)
      go_ret
      exact ⟨rfl, rfl⟩
  · go_enter Try.func71, Try.ntmps71
    go_wp2
    go_ret
    exact ⟨rfl, rfl⟩
end Ks
end Go.Proofs.Yteljmlodbnfhbaa
