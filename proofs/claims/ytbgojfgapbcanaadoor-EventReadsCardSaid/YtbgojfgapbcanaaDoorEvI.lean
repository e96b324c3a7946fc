/- event's Asked: the request of bytes. -/
import Derived.Test.YtbgojfgapbcanaaDoorEvH
import Derived.Test.YtbgojfgapbcanaaDoorEvT
namespace Go.Proofs.YtbgojfgapbcanaaDoor
open Go.RowKit
/-- Two structs that the call has laid: the result's, that is zero, and the one that is written. -/
structure Laid (T : TypeId) (zs : Array Value) (w W : World) (cs : Array Value) : Prop where
  b0 : W.heap[w.heap.size]? = some (.cells zs T (0, 0))
  b1 : W.heap[w.heap.size + 1]? = some (.cells cs T (0, 0))
  bel : Below w.heap.size w W
section
variable {T : TypeId} {zs cs : Array Value} {w W W' : World}
theorem Laid.size (h : Laid T zs w W cs) : w.heap.size + 1 < W.heap.size := (Array.getElem?_eq_some_iff.1 h.b1).1
theorem Laid.keep (h : Laid T zs w W cs) {n : Nat} (hb : Below n W W') (hn : w.heap.size + 2 ≤ n) : Laid T zs w W' cs :=
  ⟨(hb.block _ (by omega)).trans h.b0, (hb.block _ (by omega)).trans h.b1, h.bel.trans (hb.mono (by omega))⟩
theorem Laid.only (h : Laid T zs w W cs) {g : Nat} (hg : W.grownBy W' (some g)) (hn : w.heap.size + 2 ≤ g) : Laid T zs w W' cs := by
  have hs := h.size
  refine ⟨(hg.block _ (by omega) (by intro e; injection e; omega)).trans h.b0, (hg.block _ (by omega) (by intro e; injection e; omega)).trans h.b1, ?_⟩
  exact h.bel.trans (below_of_grown hg (by omega) (fun k hk => by injection hk; omega))
theorem Laid.set (h : Laid T zs w W cs) (i : Nat) (u : Value) {cs' : Array Value} (hc : cs' = cs.setIfInBounds i u) : Laid T zs w (W.setCell ⟨w.heap.size + 1, i, none⟩ u) cs' := by
  subst hc
  refine ⟨?_, set_row h.b1 i u, h.bel.setCell (by simp) u⟩
  rw [Below.heap_setCell _ _ _ _ (fun e2 => by simp at e2)]
  exact h.b0
theorem Laid.cell (h : Laid T zs w W cs) (i : Nat) : W.cell? ⟨w.heap.size + 1, i, none⟩ = cs[i]? := (cell_row h.b1 i).1
theorem Laid.frozen (h : Laid T zs w W cs) (i : Nat) : W.frozen? ⟨w.heap.size + 1, i, none⟩ = false := (cell_row h.b1 i).2
theorem Laid.cell0 (h : Laid T zs w W cs) (i : Nat) : W.cell? ⟨w.heap.size, i, none⟩ = zs[i]? := (cell_row h.b0 i).1
theorem Laid.frozen0 (h : Laid T zs w W cs) (i : Nat) : W.frozen? ⟨w.heap.size, i, none⟩ = false := (cell_row h.b0 i).2
end
theorem rd_set {W : World} {B n b : Nat} {A : Option Addr} {xs : List Value} (h : Rd W B A n xs) (hne : ∀ ad, A = some ad → ad.block ≠ b) (i : Nat) (u : Value) : Rd (W.setCell ⟨b, i, none⟩ u) B A n xs := by
  refine ⟨h.1, fun hn => ?_⟩
  obtain ⟨ad, e1, hb, hc⟩ := h.2 hn
  refine ⟨ad, e1, hb, fun j v hv => ?_⟩
  rw [World.cell?_setCell_other]
  · exact hc j v hv
  · intro e2; exact hne ad e1 (by rw [← block_add ad j, ← e2])
theorem noByte5 (k n m : Int) (s : ByteArray) (A : Option Addr) (a b : Nat) : noByte (#[.int .i64 k, .int .i64 n, .int .i64 m, .string s, .slice A a b] : Array Value).toList := by
  intro u hu c
  simp at hu
  rcases hu with rfl | rfl | rfl | rfl | rfl <;> simp [bv]
abbrev R5 (k n m : Int) (s : ByteArray) (A : Option Addr) (a b : Nat) : Array Value := #[.int .i64 k, .int .i64 n, .int .i64 m, .string s, .slice A a b]
abbrev Z5 : Array Value := #[.int .i64 0, .int .i64 0, .int .i64 0, .string ⟨#[]⟩, .slice none 0 0]
abbrev Lq (w W : World) (cs : Array Value) : Prop := Laid 24 Z5 w W cs
theorem req_ne : 24 ≠ 81 := by decide
/-- The reader, the struct beside it. -/
structure Work (w W : World) (B g : Nat) (bs : List UInt8) (e : Nat) (k n m : Int) (s : ByteArray) (A : Option Addr) (a b : Nat) : Prop where
  laid : Lq w W (R5 k n m s A a b)
  rdr : Rdr W B g bs e
  low : w.heap.size + 2 ≤ g
  bsz : B ≤ W.heap.size
section
variable {w W W' : World} {B g e : Nat} {bs : List UInt8} {k n m : Int} {s : ByteArray} {A : Option Addr} {a b : Nat}
theorem Work.next (h : Work w W B g bs e k n m s A a b) {b' : List UInt8} {e' : Nat} (hg : W.grownBy W' (some g)) (hr : Rdr W' B g b' e') : Work w W' B g b' e' k n m s A a b :=
  ⟨h.laid.only hg h.low, hr, h.low, Nat.le_trans h.bsz hg.size⟩
theorem Work.set (h : Work w W B g bs e k n m s A a b) (i : Nat) (u : Value) {k' n' m' : Int} {s' : ByteArray} {A' : Option Addr} {a' b' : Nat} (hc : R5 k' n' m' s' A' a' b' = (R5 k n m s A a b).setIfInBounds i u) : Work w (W.setCell ⟨w.heap.size + 1, i, none⟩ u) B g bs e k' n' m' s' A' a' b' :=
  ⟨h.laid.set i u hc, h.rdr.put h.laid.b1 req_ne (noByte5 _ _ _ _ _ _ _) i u, h.low, by have := h.bsz; simpa using this⟩
theorem Work.keep (h : Work w W B g bs e k n m s A a b) (hb : Below W.heap.size W W') : Work w W' B g bs e k n m s A a b :=
  ⟨h.laid.keep hb (by have := h.laid.size; omega), h.rdr.below (hb.mono h.bsz), h.low, Nat.le_trans h.bsz hb.size⟩
theorem Work.facts (h : Work w W B g bs e k n m s A a b) : (W.cell? ⟨w.heap.size + 1, 0, none⟩ = some (.int .i64 k) ∧ W.cell? ⟨w.heap.size + 1, 1, none⟩ = some (.int .i64 n) ∧ W.cell? ⟨w.heap.size + 1, 2, none⟩ = some (.int .i64 m) ∧ W.cell? ⟨w.heap.size + 1, 3, none⟩ = some (.string s) ∧ W.cell? ⟨w.heap.size + 1, 4, none⟩ = some (.slice A a b)) ∧ (∀ i, W.frozen? ⟨w.heap.size + 1, i, none⟩ = false) ∧ w.heap.size + 1 < W.heap.size :=
  ⟨⟨h.laid.cell 0, h.laid.cell 1, h.laid.cell 2, h.laid.cell 3, h.laid.cell 4⟩, h.laid.frozen, h.laid.size⟩
theorem Work.facts0 (h : Work w W B g bs e k n m s A a b) : (W.cell? ⟨w.heap.size, 0, none⟩ = some (.int .i64 0) ∧ W.cell? ⟨w.heap.size, 1, none⟩ = some (.int .i64 0) ∧ W.cell? ⟨w.heap.size, 2, none⟩ = some (.int .i64 0) ∧ W.cell? ⟨w.heap.size, 3, none⟩ = some (.string ⟨#[]⟩) ∧ W.cell? ⟨w.heap.size, 4, none⟩ = some (.slice none 0 0)) ∧ (∀ i, W.frozen? ⟨w.heap.size, i, none⟩ = false) :=
  ⟨⟨h.laid.cell0 0, h.laid.cell0 1, h.laid.cell0 2, h.laid.cell0 3, h.laid.cell0 4⟩, h.laid.frozen0⟩
end
/-- What Asked's steps come to. -/
theorem askedM_of {bs b1 b2 b3 b4 b8 : List UInt8} {x1 x2 x3 e1 e2 e3 e4 e8 f kk : Nat} {n m : Int} {t : List UInt8} {l : List (List UInt8)} {er : Int}
    (h1 : numR bs 0 = (x1, b1, e1)) (h2 : numR b1 e1 = (x2, b2, e2)) (h3 : numR b2 e2 = (x3, b3, e3)) (h4 : textR b3 e3 = (t, b4, e4)) (hk : kk = min x1 256) (hn : n = zagOf x2) (hm : m = zagOf x3)
    (h8 : 4096 < (numR b4 e4).1 ∧ f = 11 ∨ (numR b4 e4).1 ≤ 4096 ∧ f = e8 ∧ (rowR (numR b4 e4).1 (numR b4 e4).2.1 (numR b4 e4).2.2).2 = (b8, e8) ∧ (e8 = 0 → rowR (numR b4 e4).1 (numR b4 e4).2.1 (numR b4 e4).2.2 = (l, b8, 0)))
    (her : er = firstOf (f : Int) b8 e8 (rightB kk l.length)) : (er ≠ 0 → askedM bs = (noAsked, er.toNat) ∧ 0 ≤ er) ∧ (er = 0 → askedM bs = ((kk, n, m, t, l), 0)) := by
  have hA : askedM bs = (if 4096 < (numR b4 e4).1 then (noAsked, 11) else
      let q := rowR (numR b4 e4).1 (numR b4 e4).2.1 (numR b4 e4).2.2
      if q.2.2 ≠ 0 then (noAsked, q.2.2) else if ¬ (1 ≤ x1 ∧ x1 ≤ 11) then (noAsked, 11) else if q.2.1 ≠ [] then (noAsked, 14) else ((x1, zagZ x2, zagZ x3, t, q.1), 0)) := by
    unfold askedM
    rw [h1]
    dsimp only
    rw [h2]
    dsimp only
    rw [h3]
    dsimp only
    rw [h4]
  rw [hA]
  rcases h8 with ⟨hbig, rfl⟩ | ⟨hN, hf, hq, hq0⟩
  · rw [if_pos hbig]
    have : er = 11 := by rw [her]; rfl
    subst this
    exact ⟨fun _ => ⟨rfl, by omega⟩, fun h => by omega⟩
  · subst hf
    rw [if_neg (by omega)]
    dsimp only
    rw [hq]
    dsimp only
    by_cases he : f = 0
    · subst he
      have hrow := hq0 rfl
      have hlen : l.length = (numR b4 e4).1 := by have := rowR_len (numR b4 e4).1 (numR b4 e4).2.1 (numR b4 e4).2.2; rw [hrow] at this; exact this
      rw [if_neg (by simp)]
      by_cases hx : 1 ≤ x1 ∧ x1 ≤ 11
      · have hkx : kk = x1 := by omega
        subst hkx
        have hrt : rightB kk l.length = true := decide_eq_true (by omega)
        rw [hrt] at her
        rw [if_neg (by simpa using hx)]
        by_cases hb : b8 = []
        · have : er = 0 := by rw [her]; simp [firstOf, hb]
          subst this
          refine ⟨fun h => absurd rfl h, fun _ => ?_⟩
          rw [if_neg (by simpa using hb), hrow, hn, hm]
          rfl
        · have : er = 14 := by rw [her]; simp [firstOf, hb]
          subst this
          rw [if_pos hb]
          exact ⟨fun _ => ⟨rfl, by omega⟩, fun h => by omega⟩
      · have hrt : rightB kk l.length = false := decide_eq_false (by omega)
        rw [hrt] at her
        have : er = 11 := by rw [her]; simp [firstOf]
        subst this
        rw [if_pos hx]
        exact ⟨fun _ => ⟨rfl, by omega⟩, fun h => by omega⟩
    · have : er = (f : Int) := by rw [her]; unfold firstOf; rw [if_pos (by omega)]
      subst this
      rw [if_pos he]
      exact ⟨fun _ => ⟨by simp, by omega⟩, fun h => by omega⟩
set_option maxRecDepth 100000 in
set_option maxHeartbeats 1000000 in
theorem asked_v (A : Option Addr) (n0 cap : Nat) (bs : List UInt8) (w : World) (hr : Rd w w.heap.size A n0 (bs.map bv)) (hn : n0 ≤ 140737488351232) :
    Calls Tryd.prog 22 #[.slice A n0 cap] w fun r w' => ∃ (k : Nat) (n m : Int) (t : List UInt8) (l : List (List UInt8)) (A' : Option Addr) (c' : Nat) (f : Nat),
      r = .returned (.tuple #[reqV (k : Int) n m t A' l.length c', .int .i64 (f : Int)]) ∧ askedM bs = ((k, n, m, t, l), f) ∧ Rd w' w'.heap.size A' l.length (l.map sv) ∧ l.length ≤ c' ∧ Below w.heap.size w w' ∧ (∀ ad, A' = some ad → w.heap.size ≤ ad.block) := by
  obtain ⟨x1, b1, e1, h1⟩ : ∃ x b e, numR bs 0 = (x, b, e) := ⟨_, _, _, rfl⟩
  obtain ⟨x2, b2, e2, h2⟩ : ∃ x b e, numR b1 e1 = (x, b, e) := ⟨_, _, _, rfl⟩
  obtain ⟨x3, b3, e3, h3⟩ : ∃ x b e, numR b2 e2 = (x, b, e) := ⟨_, _, _, rfl⟩
  obtain ⟨t, b4, e4, h4⟩ : ∃ x b e, textR b3 e3 = (x, b, e) := ⟨_, _, _, rfl⟩
  obtain ⟨kk, hkk⟩ : ∃ kk, kk = min x1 256 := ⟨_, rfl⟩
  obtain ⟨n, hnn⟩ : ∃ n, n = zagOf x2 := ⟨_, rfl⟩
  obtain ⟨m, hmm⟩ : ∃ m, m = zagOf x3 := ⟨_, rfl⟩
  have c1 := fun W B g (h : Rdr W B g bs 0) => small_v W B g bs 0 h
  have c2 := fun W B g (h : Rdr W B g b1 e1) => int_v W B g b1 e1 h
  have c3 := fun W B g (h : Rdr W B g b2 e2) => int_v W B g b2 e2 h
  have c4 := fun W B g (h : Rdr W B g b3 e3) => text_v W B g b3 e3 h
  rw [h1] at c1
  rw [h2] at c2
  rw [h3] at c3
  rw [h4] at c4
  dsimp only at c1 c2 c3 c4
  rw [← hkk] at c1
  rw [← hnn] at c2
  rw [← hmm] at c3
  have C1 := Lib.hid c1
  have C2 := Lib.hid c2
  have C3 := Lib.hid c3
  have C4 := Lib.hid c4
  have HM := Lib.hid (And.intro h1 (And.intro h2 (And.intro h3 (And.intro h4 (And.intro hkk (And.intro hnn hmm))))))
  have HR := Lib.hid hr
  clear c1 c2 c3 c4 h1 h2 h3 h4 hkk hnn hmm hr
  have hB2 := Lib.hid (two_below w (.cells Z5 24) (.cells Z5 24))
  have hL2 : Hid (∀ W, Below (w.heap.size + 2) ((w.alloc (.cells Z5 24)).alloc (.cells Z5 24)) W → Lq w W Z5) := fun W hW => by
    refine Laid.keep ⟨?_, ?_, hB2.out⟩ hW (Nat.le_refl _)
    · rw [((Below.refl (w.heap.size + 1) (w.alloc (.cells Z5 24))).alloc (by simp) _).block _ (by omega)]
      exact heap_alloc_new w _
    · have := heap_alloc_new (w.alloc (.cells Z5 24)) (.cells Z5 24)
      rwa [World.size_alloc] at this
  have HOP := Lib.hid (open_v A n0 cap _ bs _ (rd_later HR.out hB2.out) hn)
  go_enter Tryd.func22, Tryd.ntmps22
  go_wp2_with (first
    | (go_at_call 39; (with_reducible refine HOP.out.mono ?_); rintro r w3 ⟨g, rfl, hr3, hb3, hg3⟩; have W3 : Hid (Work w w3 w3.heap.size g bs 0 0 0 0 ⟨#[]⟩ none 0 0) := (⟨hL2.out w3 (by simpa using hb3), hr3, by simpa using hg3, Nat.le_refl _⟩); clear hr3 hb3 hg3)
    | (go_at_call 40; (with_reducible refine (C1.out _ _ _ W3.out.rdr).mono ?_); rintro r w4 ⟨rfl, hr4, hg4⟩; have W4 := Lib.hid (W3.out.next hg4 hr4); obtain ⟨⟨q0, q1, q2, q3, q4⟩, qf, qz⟩ := W4.out.facts; have V4 : Hid (Work w (w4.setCell ⟨w.heap.size + 1, 0, none⟩ (.int .i64 (kk : Int))) w3.heap.size g b1 e1 kk 0 0 ⟨#[]⟩ none 0 0) := (W4.out.set 0 _ rfl); clear hr4 hg4 W3)
    | (go_at_call 41; (with_reducible refine (C2.out _ _ _ V4.out.rdr).mono ?_); rintro r w5 ⟨rfl, hr5, hg5⟩; have W5 := Lib.hid (V4.out.next hg5 hr5); clear q0 q1 q2 q3 q4 qf qz; obtain ⟨⟨q0, q1, q2, q3, q4⟩, qf, qz⟩ := W5.out.facts; have V5 : Hid (Work w (w5.setCell ⟨w.heap.size + 1, 1, none⟩ (.int .i64 n)) w3.heap.size g b2 e2 kk n 0 ⟨#[]⟩ none 0 0) := (W5.out.set 1 _ rfl); clear hr5 hg5 V4 W4)
    | (go_at_call 41; (with_reducible refine (C3.out _ _ _ V5.out.rdr).mono ?_); rintro r w6 ⟨rfl, hr6, hg6⟩; have W6 := Lib.hid (V5.out.next hg6 hr6); clear q0 q1 q2 q3 q4 qf qz; obtain ⟨⟨q0, q1, q2, q3, q4⟩, qf, qz⟩ := W6.out.facts; have V6 : Hid (Work w (w6.setCell ⟨w.heap.size + 1, 2, none⟩ (.int .i64 m)) w3.heap.size g b3 e3 kk n m ⟨#[]⟩ none 0 0) := (W6.out.set 2 _ rfl); clear hr6 hg6 V5 W5)
    | (go_at_call 42; (with_reducible refine (C4.out _ _ _ V6.out.rdr).mono ?_); rintro r w7 ⟨rfl, hr7, hg7⟩; have W7 := Lib.hid (V6.out.next hg7 hr7); clear q0 q1 q2 q3 q4 qf qz; obtain ⟨⟨q0, q1, q2, q3, q4⟩, qf, qz⟩ := W7.out.facts; have V7 : Hid (Work w (w7.setCell ⟨w.heap.size + 1, 3, none⟩ (.string (mkS t))) w3.heap.size g b4 e4 kk n m (mkS t) none 0 0) := (W7.out.set 3 _ rfl); clear hr7 hg7 V6 W6)
    )
  (with_reducible refine (rowOf_v _ w3.heap.size g b4 e4 V7.out.rdr V7.out.bsz).mono ?_)
  rintro r w8 ⟨v8, l, f, b8, e8, rfl, ht8, hg8, hr8, hp8⟩
  obtain ⟨A8, c8, rfl, hc8, hd8, hl8⟩ := own_map ht8.own
  have W8 := Lib.hid (V7.out.next hg8 hr8)
  have hA8 : ∀ ad, A8 = some ad → w.heap.size + 2 ≤ ad.block := fun ad e => by have := (hl8 ad e).1; have := V7.out.laid.size; omega
  have HA8 := Lib.hid hA8
  obtain ⟨er, her⟩ : ∃ er, er = firstOf (f : Int) b8 e8 (rightB (kk : Int) l.length) := ⟨_, rfl⟩
  obtain ⟨h1, h2, h3, h4, hk, hnn, hmm⟩ := HM.out
  have HE := Lib.hid (askedM_of h1 h2 h3 h4 hk hnn hmm hp8 her)
  have V8 : Hid (Work w (w8.setCell ⟨w.heap.size + 1, 4, none⟩ (.slice A8 l.length c8)) w3.heap.size g b8 e8 kk n m (mkS t) A8 l.length c8) := (W8.out.set 4 _ rfl)
  have HD8 := Lib.hid (rd_set hd8 (b := w.heap.size + 1) (fun ad e => by have := hA8 ad e; omega) 4 (.slice A8 l.length c8))
  have hz8 : (w8.setCell ⟨w.heap.size + 1, 4, none⟩ (.slice A8 l.length c8)).heap.size = w8.heap.size := by simp
  have hright := fun W => right_v (kk : Int) n m t A8 l.length c8 W
  have hfirst := fun W h => first_v (f : Int) W w3.heap.size g b8 e8 (rightB (kk : Int) l.length) h
  rw [← her] at hfirst
  unfold reqV at hright
  have HRT := Lib.hid hright
  have HF := Lib.hid hfirst
  clear q0 q1 q2 q3 q4 qf qz
  obtain ⟨⟨q0, q1, q2, q3, q4⟩, qf, qz⟩ := W8.out.facts
  clear hright hfirst her h1 h2 h3 h4 hk hnn hmm hp8 hA8 hl8 hd8 ht8 hg8 hr8 HOP hL2 hB2 HM C1 C2 C3 C4
  by_cases he0 : er = 0
  · subst he0
    go_wp2_with (first
      | (go_at_call 12; (with_reducible refine (HRT.out _).mono ?_); rintro r w9 ⟨rfl, hb9⟩; have W9 := Lib.hid (V8.out.keep hb9); clear q0 q1 q2 q3 q4 qf qz; obtain ⟨⟨q0, q1, q2, q3, q4⟩, qf, qz⟩ := W9.out.facts; obtain ⟨⟨p0, p1, p2, p3, p4⟩, pf⟩ := W9.out.facts0; have HB9 := Lib.hid hb9; clear hb9)
      | (go_at_call 44; (with_reducible refine (HF.out _ W9.out.rdr).mono ?_); rintro r w' ⟨rfl, rfl⟩))
    refine bodyPost_ret (v := .tuple #[.agg #[.int .i64 (kk : Int), .int .i64 n, .int .i64 m, .string (mkS t), .slice A8 l.length c8], .int .i64 0]) (by simp [results, Tryd.results22, go_sem, p0, p1, p2, p3, p4]) rfl
      ⟨kk, n, m, t, l, A8, c8, 0, rfl, HE.out.2 trivial, ?_, hc8, ?_, fun ad e => Nat.le_trans (by omega) (HA8.out ad e)⟩
    · have h9 : Rd w9 w9.heap.size A8 l.length (l.map sv) := (HD8.out.below (HB9.out.mono (by rw [hz8]; exact Nat.le_refl _))).more (by have := HB9.out.size; omega)
      have hne : ∀ ad, A8 = some ad → ad.block ≠ w.heap.size := fun ad e => by have := HA8.out ad e; omega
      have := rd_set (rd_set (rd_set (rd_set (rd_set h9 hne 0 (.int .i64 (kk : Int))) hne 1 (.int .i64 n)) hne 2 (.int .i64 m)) hne 3 (.string (mkS t))) hne 4 (.slice A8 l.length c8)
      exact this.more (by simp)
    · exact ((((W9.out.laid.bel.setCell (by simp) _).setCell (by simp) _).setCell (by simp) _).setCell (by simp) _).setCell (by simp) _
  · have hne : (er != 0) = true := by simpa using he0
    obtain ⟨hA, her0⟩ := HE.out.1 he0
    obtain ⟨eN, rfl⟩ : ∃ eN : Nat, er = (eN : Int) := ⟨er.toNat, by omega⟩
    have HAE := Lib.hid hA
    clear HE he0 hA her0
    go_wp2_with (first
      | (go_at_call 12; (with_reducible refine (HRT.out _).mono ?_); rintro r w9 ⟨rfl, hb9⟩; have W9 := Lib.hid (V8.out.keep hb9); clear q0 q1 q2 q3 q4 qf qz; obtain ⟨⟨q0, q1, q2, q3, q4⟩, qf, qz⟩ := W9.out.facts; obtain ⟨⟨p0, p1, p2, p3, p4⟩, pf⟩ := W9.out.facts0; have HB9 := Lib.hid hb9; clear hb9)
      | (go_at_call 44; (with_reducible refine (HF.out _ W9.out.rdr).mono ?_); rintro r w' ⟨rfl, rfl⟩))
    refine bodyPost_ret (v := .tuple #[.agg #[.int .i64 0, .int .i64 0, .int .i64 0, .string ⟨#[]⟩, .slice none 0 0], .int .i64 (eN : Int)]) (by simp [results, Tryd.results22, go_sem, p0, p1, p2, p3, p4]) rfl
      ⟨0, 0, 0, [], [], none, 0, eN, rfl, by rw [HAE.out]; rfl, Rd.nil_, Nat.le_refl _, ?_, fun ad e => by cases e⟩
    exact ((((W9.out.laid.bel.setCell (by simp) _).setCell (by simp) _).setCell (by simp) _).setCell (by simp) _).setCell (by simp) _
end Go.Proofs.YtbgojfgapbcanaaDoor
