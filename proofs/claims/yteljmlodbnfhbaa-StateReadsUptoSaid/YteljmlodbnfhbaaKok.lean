/- A state of few things may be packed; its bytes cut, its bytes with more behind. No premises. -/
import Derived.Test.YteljmlodbnfhbaaKax
namespace Go.Proofs.Yteljmlodbnfhbaa
open Go.RowKit
namespace Ks
theorem Row.ok {α : Type} {r : Rp α} {c : Cd α} (hel : ∀ {w : World} {n : Nat} {cs : List Value} {a : α}, r.C w n cs a → c.ok a) {w : World} {n : Nat} {A : Option Addr} {l : List α} (h : Row r w n A l) (hl : l.length ≤ 100000) : (Ks.row c).ok l := by
  refine ⟨hl, fun a ha => ?_⟩
  obtain ⟨xs, h1, _, h3⟩ := h
  obtain ⟨i, hi, rfl⟩ := List.getElem_of_mem ha
  exact hel (h3 i _ _ (List.getElem?_eq_getElem (show i < xs.length by omega)) (List.getElem?_eq_getElem hi))
theorem ok_num {w : World} {n : Nat} {cs : List Value} {a : Int} (h : rnum.C w n cs a) : num.ok a := h.2
theorem ok_txt {w : World} {n : Nat} {cs : List Value} {a : B} (h : rtxt.C w n cs a) : txt.ok a := by
  have := h.2
  show a.length < _
  omega
theorem ok_pr {w : World} {n : Nat} {cs : List Value} {a : B × B} (h : prR.C w n cs a) : prC.ok a := by
  obtain ⟨c1, c2, _, h1, h2⟩ := h
  exact ⟨ok_txt h1, ok_txt h2⟩
theorem ok_fn {w : World} {n : Nat} {cs : List Value} {a : B × Int × Int} (h : fnR.C w n cs a) : fnC.ok a := by
  obtain ⟨c1, c2, _, h1, c3, c4, _, h2, h3⟩ := h
  exact ⟨ok_txt h1, ok_num h2, ok_num h3⟩
theorem ok_tp {w : World} {n : Nat} {cs : List Value} {a : Int × B} (h : tpR.C w n cs a) : tpC.ok a := by
  obtain ⟨c1, c2, _, h1, h2⟩ := h
  exact ⟨ok_num h1, ok_txt h2⟩
theorem ok_fd {w : World} {n : Nat} {cs : List Value} {a : Int × Int} (h : fdR.C w n cs a) : fdC.ok a := by
  obtain ⟨c1, c2, _, h1, h2⟩ := h
  exact ⟨ok_num h1, ok_num h2⟩
theorem ok_rrow {α : Type} {r : Rp α} {c : Cd α} (hel : ∀ {w : World} {n : Nat} {cs : List Value} {a : α}, r.C w n cs a → c.ok a) {w : World} {n : Nat} {cs : List Value} {l : List α} (h : (rrow r).C w n cs l) (hl : l.length ≤ 100000) : (Ks.row c).ok l := by
  obtain ⟨A, k, _, _, _, h⟩ := h
  exact h.ok hel hl
theorem ok_kp {w : World} {n : Nat} {cs : List Value} {k : Kp} (h : kpR.C w n cs k) (hn : kpN k ≤ 300) : kpC.ok k := by
  obtain ⟨x1, y1, rfl, ⟨x2, y2, rfl, h1, x3, y3, rfl, h2, x4, y4, rfl, h3, h4⟩, x5, y5, rfl, h5, x6, y6, rfl, h6, h7⟩ := h
  unfold kpN at hn
  exact ⟨⟨ok_rrow ok_pr h1 (by show k.vars.length ≤ _; omega), ok_rrow ok_txt h2 (by show k.args.length ≤ _; omega), ok_num h3, ok_txt h4⟩, ok_rrow ok_fn h5 (by show k.funcs.length ≤ _; omega), ok_rrow ok_tp h6 (by show k.traps.length ≤ _; omega), ok_rrow ok_fd h7 (by show k.fds.length ≤ _; omega)⟩
theorem ok_fm {w : World} {n : Nat} {cs : List Value} {f : Fm} (h : fmR.C w n cs f) (hn : fmN f ≤ 300) : fmC.ok f := by
  obtain ⟨x1, y1, rfl, h1, x2, y2, rfl, h2, x3, y3, rfl, h3, x4, y4, rfl, h4, x5, y5, rfl, h5, x6, y6, rfl, h6, x7, y7, rfl, h7, x8, y8, rfl, h8, x9, y9, rfl, h9, xa, ya, rfl, ha, xb, yb, rfl, hb, xc, yc, rfl, hc, hk⟩ := h
  unfold fmN at hn
  exact ⟨ok_num h1, ok_num h2, ok_num h3, ok_num h4, ok_num h5, trivial, ok_num h7, ok_num h8, ok_txt h9, ok_rrow ok_num ha (by show f.nums.length ≤ _; omega), ok_rrow ok_txt hb (by show f.words.length ≤ _; omega), ok_rrow ok_pr hc (by show f.rows.length ≤ _; omega), ok_kp (k := f.keep) hk (by omega)⟩
theorem stk_mem : ∀ {l : List Fm} {f : Fm}, f ∈ l → fmN f ≤ stkN l
  | a :: l, f, h => by
    unfold stkN
    rw [List.map_cons, List.sum_cons]
    rcases List.mem_cons.1 h with rfl | h
    · omega
    · have := stk_mem h
      unfold stkN at this
      omega
theorem ok_st {w : World} {n : Nat} {cs : List Value} {s : St} (h : stR.C w n cs s) (hn : fewN s ≤ 300) : stC.ok s := by
  obtain ⟨xk, yk, rfl, hk, x1, y1, rfl, h1, x2, y2, rfl, h2, xq, yq, rfl, hq, xa, ya, rfl, ha, x3, y3, rfl, h3, x4, y4, rfl, h4, x5, y5, rfl, h5, x6, y6, rfl, h6, x7, y7, rfl, h7, x8, y8, rfl, h8, x9, y9, rfl, h9, hf⟩ := h
  unfold fewN topN at hn
  have hk : kpR.C w n xk s.keep := hk
  have hq : rqR.C w n xq s.asked := hq
  have ha : anR.C w n xa s.got := ha
  have h2 : (rrow fmR).C w n x2 s.stack := h2
  obtain ⟨q1, r1, rfl, g1, q2, r2, rfl, g2, q3, r3, rfl, g3, q4, r4, rfl, g4, g5⟩ := hq
  obtain ⟨p1, s1, rfl, e1, p2, s2, rfl, e2, p3, s3, rfl, e3, p4, s4, rfl, e4, p5, s5, rfl, e5, p6, s6, rfl, e6, e7⟩ := ha
  have hst : (Ks.row fmC).ok s.stack := by
    refine ⟨by omega, fun f hf => ?_⟩
    obtain ⟨A, c, _, _, _, xs, hx1, _, hx3⟩ := h2
    obtain ⟨i, hi, rfl⟩ := List.getElem_of_mem hf
    have hm := stk_mem (List.getElem_mem hi)
    exact ok_fm (hx3 i _ _ (List.getElem?_eq_getElem (show i < xs.length by omega)) (List.getElem?_eq_getElem hi)) (by omega)
  exact ⟨ok_kp (k := s.keep) hk (by omega), ok_rrow ok_txt h1 (by show s.progs.length ≤ _; omega), hst, ⟨ok_num g1, ok_num g2, ok_num g3, ok_txt g4, ok_rrow ok_txt g5 (by show s.asked.list.length ≤ _; omega)⟩,
    ⟨ok_num e1, ok_num e2, ok_num e3, ok_num e4, ok_txt e5, ok_rrow ok_txt e6 (by show s.got.list.length ≤ _; omega), ok_num e7⟩, ok_rrow ok_num h3 (by show s.sigs.length ≤ _; omega), ok_num h4, ok_num h5, ok_num h6, trivial, trivial, trivial, ok_num hf⟩
theorem kp_29 (k : Kp) : 7 ≤ (kpC.put k).length := by
  have e : kpC.put k = (rowP prC k.vars ++ (rowP txt k.args ++ (numP k.status ++ textB k.flags))) ++ (rowP fnC k.funcs ++ (rowP tpC k.traps ++ rowP fdC k.fds)) := rfl
  have hr : ∀ {α : Type} (c : Cd α) (l : List α), 1 ≤ (rowP c l).length := fun c l => by have := num_ge (l.length : Int); rw [rowP, List.length_append]; omega
  have h1 := hr prC k.vars
  have h2 := hr txt k.args
  have h3 := num_ge k.status
  have h4 := txt_ge k.flags
  have h5 := hr fnC k.funcs
  have h6 := hr tpC k.traps
  have h7 := hr fdC k.fds
  rw [e]
  simp only [List.length_append]
  omega
theorem st_29 (s : St) : 29 ≤ (stC.put s).length := by
  have e : stC.put s = kpC.put s.keep ++ (rowP txt s.progs ++ (rowP fmC s.stack ++ ((numP s.asked.kind ++ (numP s.asked.n ++ (numP s.asked.m ++ (textB s.asked.text ++ rowP txt s.asked.list)))) ++ ((numP s.got.kind ++ (numP s.got.err ++ (numP s.got.n ++ (numP s.got.m ++ (textB s.got.text ++ (rowP txt s.got.list ++ numP s.got.sig)))))) ++ (rowP num s.sigs ++ (numP s.loose ++ (numP s.n ++ (numP s.deep ++ (bitP s.trapping ++ (bitP s.ended ++ (bitP s.done ++ numP s.fail))))))))))) := rfl
  have hr : ∀ {α : Type} (c : Cd α) (l : List α), 1 ≤ (rowP c l).length := fun c l => by have := num_ge (l.length : Int); rw [rowP, List.length_append]; omega
  have hb : ∀ b : Bool, 1 ≤ (bitP b).length := fun b => num_ge _
  have h1 := kp_29 s.keep
  have h2 := hr txt s.progs
  have h3 := hr fmC s.stack
  have h4 := num_ge s.asked.kind
  have h5 := num_ge s.asked.n
  have h6 := num_ge s.asked.m
  have h7 := txt_ge s.asked.text
  have h8 := hr txt s.asked.list
  have h9 := num_ge s.got.kind
  have i1 := num_ge s.got.err
  have i2 := num_ge s.got.n
  have i3 := num_ge s.got.m
  have i4 := txt_ge s.got.text
  have i5 := hr txt s.got.list
  have i6 := num_ge s.got.sig
  have i7 := hr num s.sigs
  have i8 := num_ge s.loose
  have i9 := num_ge s.n
  have j1 := num_ge s.deep
  have j2 := hb s.trapping
  have j3 := hb s.ended
  have j4 := hb s.done
  have j5 := num_ge s.fail
  rw [e]
  simp only [List.length_append]
  omega
theorem unp_cut {s : St} (h : stC.ok s) {k : Nat} (hk : k < (stC.put s).length) : unp ((stC.put s).take k) = .error 10 := by
  unfold unp
  rw [stC.cut h hk]
theorem unp_more {s : St} (h : stC.ok s) {l : B} (hl : l ≠ []) : unp (stC.put s ++ l) = .error 14 := by
  unfold unp
  rw [stC.back l h]
  cases l with
  | nil => exact absurd rfl hl
  | cons a l => rfl
end Ks
end Go.Proofs.Yteljmlodbnfhbaa
