/- event's Told: the answer of bytes. -/
import Derived.Test.YtbgojfgapbcanaaDoorEvI
import Derived.Test.YtbgojfgapbcanaaDoorEvU
namespace Go.Proofs.YtbgojfgapbcanaaDoor
open Go.RowKit
theorem noByte7 (k e n m : Int) (s : ByteArray) (A : Option Addr) (a b : Nat) (z : Int) : noByte (#[.int .i64 k, .int .i64 e, .int .i64 n, .int .i64 m, .string s, .slice A a b, .int .i64 z] : Array Value).toList := by
  intro u hu c
  simp at hu
  rcases hu with rfl | rfl | rfl | rfl | rfl | rfl | rfl <;> simp [bv]
abbrev R7 (k e n m : Int) (s : ByteArray) (A : Option Addr) (a b : Nat) (z : Int) : Array Value := #[.int .i64 k, .int .i64 e, .int .i64 n, .int .i64 m, .string s, .slice A a b, .int .i64 z]
abbrev Z7 : Array Value := #[.int .i64 0, .int .i64 0, .int .i64 0, .int .i64 0, .string ⟨#[]⟩, .slice none 0 0, .int .i64 0]
abbrev Lp (w W : World) (cs : Array Value) : Prop := Laid 26 Z7 w W cs
theorem ans_ne : 26 ≠ 81 := by decide
structure Work7 (w W : World) (B g : Nat) (bs : List UInt8) (f : Nat) (k e n m : Int) (s : ByteArray) (A : Option Addr) (a b : Nat) (z : Int) : Prop where
  laid : Lp w W (R7 k e n m s A a b z)
  rdr : Rdr W B g bs f
  low : w.heap.size + 2 ≤ g
  bsz : B ≤ W.heap.size
section
variable {w W W' : World} {B g f : Nat} {bs : List UInt8} {k e n m : Int} {s : ByteArray} {A : Option Addr} {a b : Nat} {z : Int}
theorem Work7.next (h : Work7 w W B g bs f k e n m s A a b z) {b' : List UInt8} {f' : Nat} (hg : W.grownBy W' (some g)) (hr : Rdr W' B g b' f') : Work7 w W' B g b' f' k e n m s A a b z :=
  ⟨h.laid.only hg h.low, hr, h.low, Nat.le_trans h.bsz hg.size⟩
theorem Work7.set (h : Work7 w W B g bs f k e n m s A a b z) (i : Nat) (u : Value) {k' e' n' m' : Int} {s' : ByteArray} {A' : Option Addr} {a' b' : Nat} {z' : Int} (hc : R7 k' e' n' m' s' A' a' b' z' = (R7 k e n m s A a b z).setIfInBounds i u) : Work7 w (W.setCell ⟨w.heap.size + 1, i, none⟩ u) B g bs f k' e' n' m' s' A' a' b' z' :=
  ⟨h.laid.set i u hc, h.rdr.put h.laid.b1 ans_ne (noByte7 _ _ _ _ _ _ _ _ _) i u, h.low, by have := h.bsz; simpa using this⟩
theorem Work7.keep (h : Work7 w W B g bs f k e n m s A a b z) (hb : Below W.heap.size W W') : Work7 w W' B g bs f k e n m s A a b z :=
  ⟨h.laid.keep hb (by have := h.laid.size; omega), h.rdr.below (hb.mono h.bsz), h.low, Nat.le_trans h.bsz hb.size⟩
theorem Work7.facts (h : Work7 w W B g bs f k e n m s A a b z) : (W.cell? ⟨w.heap.size + 1, 0, none⟩ = some (.int .i64 k) ∧ W.cell? ⟨w.heap.size + 1, 1, none⟩ = some (.int .i64 e) ∧ W.cell? ⟨w.heap.size + 1, 2, none⟩ = some (.int .i64 n) ∧ W.cell? ⟨w.heap.size + 1, 3, none⟩ = some (.int .i64 m) ∧ W.cell? ⟨w.heap.size + 1, 4, none⟩ = some (.string s) ∧ W.cell? ⟨w.heap.size + 1, 5, none⟩ = some (.slice A a b) ∧ W.cell? ⟨w.heap.size + 1, 6, none⟩ = some (.int .i64 z)) ∧ (∀ i, W.frozen? ⟨w.heap.size + 1, i, none⟩ = false) ∧ w.heap.size + 1 < W.heap.size :=
  ⟨⟨h.laid.cell 0, h.laid.cell 1, h.laid.cell 2, h.laid.cell 3, h.laid.cell 4, h.laid.cell 5, h.laid.cell 6⟩, h.laid.frozen, h.laid.size⟩
theorem Work7.facts0 (h : Work7 w W B g bs f k e n m s A a b z) : (W.cell? ⟨w.heap.size, 0, none⟩ = some (.int .i64 0) ∧ W.cell? ⟨w.heap.size, 1, none⟩ = some (.int .i64 0) ∧ W.cell? ⟨w.heap.size, 2, none⟩ = some (.int .i64 0) ∧ W.cell? ⟨w.heap.size, 3, none⟩ = some (.int .i64 0) ∧ W.cell? ⟨w.heap.size, 4, none⟩ = some (.string ⟨#[]⟩) ∧ W.cell? ⟨w.heap.size, 5, none⟩ = some (.slice none 0 0) ∧ W.cell? ⟨w.heap.size, 6, none⟩ = some (.int .i64 0)) ∧ (∀ i, W.frozen? ⟨w.heap.size, i, none⟩ = false) :=
  ⟨⟨h.laid.cell0 0, h.laid.cell0 1, h.laid.cell0 2, h.laid.cell0 3, h.laid.cell0 4, h.laid.cell0 5, h.laid.cell0 6⟩, h.laid.frozen0⟩
end
theorem rd_only {W W' : World} {B n g : Nat} {A : Option Addr} {xs : List Value} (h : Rd W B A n xs) (hg : W.grownBy W' (some g)) (hB : B ≤ W.heap.size) (hne : ∀ ad, A = some ad → ad.block ≠ g) : Rd W' B A n xs := by
  refine ⟨h.1, fun hn => ?_⟩
  obtain ⟨ad, e1, hb, hc⟩ := h.2 hn
  refine ⟨ad, e1, hb, fun j v hv => ?_⟩
  have h1 := hc j v hv
  have h2 := hg.block (ad.add j).block (by rw [block_add]; omega) (by rw [block_add]; intro e; injection e with e; exact hne ad e1 e)
  rw [← h1]
  unfold World.cell?
  rw [h2]
/-- What Told's steps come to. -/
theorem toldM_of {bs b0 b1 b2 b3 b4 b8 b9 : List UInt8} {x1 x0 x2 x3 x9 e1 e0 e2 e3 e4 e8 e9 f kk ee ss : Nat} {n m : Int} {t : List UInt8} {l : List (List UInt8)} {er : Int}
    (h1 : numR bs 0 = (x1, b1, e1)) (h0 : numR b1 e1 = (x0, b0, e0)) (h2 : numR b0 e0 = (x2, b2, e2)) (h3 : numR b2 e2 = (x3, b3, e3)) (h4 : textR b3 e3 = (t, b4, e4)) (h9 : numR b8 e8 = (x9, b9, e9)) (hk : kk = min x1 256) (he : ee = min x0 256) (hn : n = zagOf x2) (hm : m = zagOf x3) (hs : ss = min x9 256)
    (h8 : 4096 < (numR b4 e4).1 ∧ f = 11 ∨ (numR b4 e4).1 ≤ 4096 ∧ f = e8 ∧ (rowR (numR b4 e4).1 (numR b4 e4).2.1 (numR b4 e4).2.2).2 = (b8, e8) ∧ (e8 = 0 → rowR (numR b4 e4).1 (numR b4 e4).2.1 (numR b4 e4).2.2 = (l, b8, 0)))
    (her : er = firstOf (f : Int) b9 e9 (fitsB kk kk ee ss l.length)) : (er ≠ 0 → toldM bs = (noTold, er.toNat) ∧ 0 ≤ er) ∧ (er = 0 → toldM bs = ((kk, ee, n, m, t, l, ss), 0)) := by
  have hA : toldM bs = (if 4096 < (numR b4 e4).1 then (noTold, 11) else
      let q := rowR (numR b4 e4).1 (numR b4 e4).2.1 (numR b4 e4).2.2
      let s := numR q.2.1 q.2.2
      if s.2.2 ≠ 0 then (noTold, s.2.2) else if ¬ ((1 ≤ x1 ∧ x1 ≤ 11) ∧ x0 ≤ 255 ∧ s.1 ≤ 64) then (noTold, 11) else if s.2.1 ≠ [] then (noTold, 14) else ((x1, x0, zagZ x2, zagZ x3, t, q.1, s.1), 0)) := by
    unfold toldM
    rw [h1]
    dsimp only
    rw [h0]
    dsimp only
    rw [h2]
    dsimp only
    rw [h3]
    dsimp only
    rw [h4]
  rw [hA]
  rcases h8 with ⟨hbig, rfl⟩ | ⟨hN, hf, hq, hq0⟩
  · rw [if_pos hbig]
    have : er = 11 := by rw [her]; rfl
    subst this
    exact ⟨fun _ => ⟨rfl, by omega⟩, fun h => by omega⟩
  · subst hf
    rw [if_neg (by omega)]
    dsimp only
    rw [hq]
    dsimp only
    rw [h9]
    dsimp only
    by_cases hf : f = 0
    · subst hf
      have hrow := hq0 rfl
      have hlen : l.length = (numR b4 e4).1 := by have := rowR_len (numR b4 e4).1 (numR b4 e4).2.1 (numR b4 e4).2.2; rw [hrow] at this; exact this
      by_cases h9e : e9 = 0
      · subst h9e
        rw [if_neg (by simp)]
        by_cases hx : (1 ≤ x1 ∧ x1 ≤ 11) ∧ x0 ≤ 255 ∧ x9 ≤ 64
        · obtain ⟨rfl, rfl, rfl⟩ : kk = x1 ∧ ee = x0 ∧ ss = x9 := by omega
          have hrt : fitsB kk kk ee ss l.length = true := decide_eq_true (by omega)
          rw [hrt] at her
          rw [if_neg (fun hc => hc hx)]
          by_cases hb : b9 = []
          · have : er = 0 := by rw [her]; simp [firstOf, hb]
            subst this
            refine ⟨fun h => absurd rfl h, fun _ => ?_⟩
            rw [if_neg (by simpa using hb), hrow, hn, hm]
            rfl
          · have : er = 14 := by rw [her]; simp [firstOf, hb]
            subst this
            rw [if_pos hb]
            exact ⟨fun _ => ⟨rfl, by omega⟩, fun h => by omega⟩
        · have hrt : fitsB kk kk ee ss l.length = false := decide_eq_false (by omega)
          rw [hrt] at her
          have : er = 11 := by rw [her]; simp [firstOf]
          subst this
          rw [if_pos hx]
          exact ⟨fun _ => ⟨rfl, by omega⟩, fun h => by omega⟩
      · have : er = (e9 : Int) := by rw [her]; unfold firstOf; rw [if_neg (by simp), if_pos h9e]
        subst this
        rw [if_pos h9e]
        exact ⟨fun _ => ⟨by simp, by omega⟩, fun h => by omega⟩
    · rw [num_err b8 hf] at h9
      simp only [Prod.mk.injEq] at h9
      obtain ⟨_, _, rfl⟩ := h9
      have : er = (f : Int) := by rw [her]; unfold firstOf; rw [if_pos (by omega)]
      subst this
      rw [if_pos hf]
      exact ⟨fun _ => ⟨by simp, by omega⟩, fun h => by omega⟩
set_option maxRecDepth 100000 in
set_option maxHeartbeats 1000000 in
theorem told_v (A : Option Addr) (n0 cap : Nat) (bs : List UInt8) (w : World) (hr : Rd w w.heap.size A n0 (bs.map bv)) (hn : n0 ≤ 140737488351232) :
    Calls Tryd.prog 24 #[.slice A n0 cap] w fun r w' => ∃ (k e : Nat) (n m : Int) (t : List UInt8) (l : List (List UInt8)) (s : Nat) (A' : Option Addr) (c' : Nat) (f : Nat),
      r = .returned (.tuple #[ansV (k : Int) (e : Int) n m t A' l.length c' (s : Int), .int .i64 (f : Int)]) ∧ toldM bs = ((k, e, n, m, t, l, s), f) ∧ Rd w' w'.heap.size A' l.length (l.map sv) ∧ l.length ≤ c' ∧ Below w.heap.size w w' ∧ (∀ ad, A' = some ad → w.heap.size ≤ ad.block) := by
  obtain ⟨x1, b1, e1, h1⟩ : ∃ x b e, numR bs 0 = (x, b, e) := ⟨_, _, _, rfl⟩
  obtain ⟨x0, b0, e0, h0⟩ : ∃ x b e, numR b1 e1 = (x, b, e) := ⟨_, _, _, rfl⟩
  obtain ⟨x2, b2, e2, h2⟩ : ∃ x b e, numR b0 e0 = (x, b, e) := ⟨_, _, _, rfl⟩
  obtain ⟨x3, b3, e3, h3⟩ : ∃ x b e, numR b2 e2 = (x, b, e) := ⟨_, _, _, rfl⟩
  obtain ⟨t, b4, e4, h4⟩ : ∃ x b e, textR b3 e3 = (x, b, e) := ⟨_, _, _, rfl⟩
  obtain ⟨kk, hkk⟩ : ∃ kk, kk = min x1 256 := ⟨_, rfl⟩
  obtain ⟨ee, hee⟩ : ∃ ee, ee = min x0 256 := ⟨_, rfl⟩
  obtain ⟨n, hnn⟩ : ∃ n, n = zagOf x2 := ⟨_, rfl⟩
  obtain ⟨m, hmm⟩ : ∃ m, m = zagOf x3 := ⟨_, rfl⟩
  have c1 := fun W B g (h : Rdr W B g bs 0) => small_v W B g bs 0 h
  have c0 := fun W B g (h : Rdr W B g b1 e1) => small_v W B g b1 e1 h
  have c2 := fun W B g (h : Rdr W B g b0 e0) => int_v W B g b0 e0 h
  have c3 := fun W B g (h : Rdr W B g b2 e2) => int_v W B g b2 e2 h
  have c4 := fun W B g (h : Rdr W B g b3 e3) => text_v W B g b3 e3 h
  rw [h1] at c1
  rw [h0] at c0
  rw [h2] at c2
  rw [h3] at c3
  rw [h4] at c4
  dsimp only at c1 c0 c2 c3 c4
  rw [← hkk] at c1
  rw [← hee] at c0
  rw [← hnn] at c2
  rw [← hmm] at c3
  have C1 := Lib.hid c1
  have C0 := Lib.hid c0
  have C2 := Lib.hid c2
  have C3 := Lib.hid c3
  have C4 := Lib.hid c4
  have HM := Lib.hid (And.intro h1 (And.intro h0 (And.intro h2 (And.intro h3 (And.intro h4 (And.intro hkk (And.intro hee (And.intro hnn hmm))))))))
  have HR := Lib.hid hr
  clear c1 c0 c2 c3 c4 h1 h0 h2 h3 h4 hkk hee hnn hmm hr
  have hB2 := Lib.hid (two_below w (.cells Z7 26) (.cells Z7 26))
  have hL2 : Hid (∀ W, Below (w.heap.size + 2) ((w.alloc (.cells Z7 26)).alloc (.cells Z7 26)) W → Lp w W Z7) := fun W hW => by
    refine Laid.keep ⟨?_, ?_, hB2.out⟩ hW (Nat.le_refl _)
    · rw [((Below.refl (w.heap.size + 1) (w.alloc (.cells Z7 26))).alloc (by simp) _).block _ (by omega)]
      exact heap_alloc_new w _
    · have := heap_alloc_new (w.alloc (.cells Z7 26)) (.cells Z7 26)
      rwa [World.size_alloc] at this
  have HOP := Lib.hid (open_v A n0 cap _ bs _ (rd_later HR.out hB2.out) hn)
  go_enter Tryd.func24, Tryd.ntmps24
  go_wp2_with (first
    | (go_at_call 39; (with_reducible refine HOP.out.mono ?_); rintro r w3 ⟨g, rfl, hr3, hb3, hg3⟩; have W3 : Hid (Work7 w w3 w3.heap.size g bs 0 0 0 0 0 ⟨#[]⟩ none 0 0 0) := (⟨hL2.out w3 (by simpa using hb3), hr3, by simpa using hg3, Nat.le_refl _⟩); clear hr3 hb3 hg3)
    | (go_at_call 40; (with_reducible refine (C1.out _ _ _ W3.out.rdr).mono ?_); rintro r w4 ⟨rfl, hr4, hg4⟩; have W4 := Lib.hid (W3.out.next hg4 hr4); obtain ⟨⟨q0, q1, q2, q3, q4, q5, q6⟩, qf, qz⟩ := W4.out.facts; have V4 : Hid (Work7 w (w4.setCell ⟨w.heap.size + 1, 0, none⟩ (.int .i64 (kk : Int))) w3.heap.size g b1 e1 kk 0 0 0 ⟨#[]⟩ none 0 0 0) := (W4.out.set 0 _ rfl); clear hr4 hg4 W3)
    | (go_at_call 40; (with_reducible refine (C0.out _ _ _ V4.out.rdr).mono ?_); rintro r wz ⟨rfl, hrz, hgz⟩; have Wz := Lib.hid (V4.out.next hgz hrz); clear q0 q1 q2 q3 q4 q5 q6 qf qz; obtain ⟨⟨q0, q1, q2, q3, q4, q5, q6⟩, qf, qz⟩ := Wz.out.facts; have Vz : Hid (Work7 w (wz.setCell ⟨w.heap.size + 1, 1, none⟩ (.int .i64 (ee : Int))) w3.heap.size g b0 e0 kk ee 0 0 ⟨#[]⟩ none 0 0 0) := (Wz.out.set 1 _ rfl); clear hrz hgz V4 W4)
    | (go_at_call 41; (with_reducible refine (C2.out _ _ _ Vz.out.rdr).mono ?_); rintro r w5 ⟨rfl, hr5, hg5⟩; have W5 := Lib.hid (Vz.out.next hg5 hr5); clear q0 q1 q2 q3 q4 q5 q6 qf qz; obtain ⟨⟨q0, q1, q2, q3, q4, q5, q6⟩, qf, qz⟩ := W5.out.facts; have V5 : Hid (Work7 w (w5.setCell ⟨w.heap.size + 1, 2, none⟩ (.int .i64 n)) w3.heap.size g b2 e2 kk ee n 0 ⟨#[]⟩ none 0 0 0) := (W5.out.set 2 _ rfl); clear hr5 hg5 Vz Wz)
    | (go_at_call 41; (with_reducible refine (C3.out _ _ _ V5.out.rdr).mono ?_); rintro r w6 ⟨rfl, hr6, hg6⟩; have W6 := Lib.hid (V5.out.next hg6 hr6); clear q0 q1 q2 q3 q4 q5 q6 qf qz; obtain ⟨⟨q0, q1, q2, q3, q4, q5, q6⟩, qf, qz⟩ := W6.out.facts; have V6 : Hid (Work7 w (w6.setCell ⟨w.heap.size + 1, 3, none⟩ (.int .i64 m)) w3.heap.size g b3 e3 kk ee n m ⟨#[]⟩ none 0 0 0) := (W6.out.set 3 _ rfl); clear hr6 hg6 V5 W5)
    | (go_at_call 42; (with_reducible refine (C4.out _ _ _ V6.out.rdr).mono ?_); rintro r w7 ⟨rfl, hr7, hg7⟩; have W7 := Lib.hid (V6.out.next hg7 hr7); clear q0 q1 q2 q3 q4 q5 q6 qf qz; obtain ⟨⟨q0, q1, q2, q3, q4, q5, q6⟩, qf, qz⟩ := W7.out.facts; have V7 : Hid (Work7 w (w7.setCell ⟨w.heap.size + 1, 4, none⟩ (.string (mkS t))) w3.heap.size g b4 e4 kk ee n m (mkS t) none 0 0 0) := (W7.out.set 4 _ rfl); clear hr7 hg7 V6 W6))
  (with_reducible refine (rowOf_v _ w3.heap.size g b4 e4 V7.out.rdr V7.out.bsz).mono ?_)
  rintro r w8 ⟨v8, l, f, b8, e8, rfl, ht8, hg8, hr8, hp8⟩
  obtain ⟨A8, c8, rfl, hc8, hd8, hl8⟩ := own_map ht8.own
  have W8 := Lib.hid (V7.out.next hg8 hr8)
  have hA8 : ∀ ad, A8 = some ad → w.heap.size + 2 ≤ ad.block := fun ad e => by have := (hl8 ad e).1; have := V7.out.laid.size; omega
  have HA8 := Lib.hid hA8
  obtain ⟨x9, b9, e9, h9⟩ : ∃ x b e, numR b8 e8 = (x, b, e) := ⟨_, _, _, rfl⟩
  obtain ⟨ss, hss⟩ : ∃ ss, ss = min x9 256 := ⟨_, rfl⟩
  have c9 := fun W B g (h : Rdr W B g b8 e8) => small_v W B g b8 e8 h
  rw [h9] at c9
  dsimp only at c9
  rw [← hss] at c9
  have C9 := Lib.hid c9
  obtain ⟨er, her⟩ : ∃ er, er = firstOf (f : Int) b9 e9 (fitsB (kk : Int) kk ee ss l.length) := ⟨_, rfl⟩
  obtain ⟨h1, h0, h2, h3, h4, hk, hee, hnn, hmm⟩ := HM.out
  have HE := Lib.hid (toldM_of h1 h0 h2 h3 h4 h9 hk hee hnn hmm hss hp8 her)
  have V8 : Hid (Work7 w (w8.setCell ⟨w.heap.size + 1, 5, none⟩ (.slice A8 l.length c8)) w3.heap.size g b8 e8 kk ee n m (mkS t) A8 l.length c8 0) := (W8.out.set 5 _ rfl)
  have HD8 := Lib.hid (rd_set hd8 (b := w.heap.size + 1) (fun ad e => by have := hA8 ad e; omega) 5 (.slice A8 l.length c8))
  have hz8 := Lib.hid (show (w8.setCell ⟨w.heap.size + 1, 5, none⟩ (.slice A8 l.length c8)).heap.size = w8.heap.size by simp)
  have hA8g : ∀ ad, A8 = some ad → ad.block ≠ g := fun ad e => by have h5 := (hl8 ad e).1; have h6 := V7.out.rdr.lt; have h7 := V7.out.bsz; omega
  have HA8G := Lib.hid hA8g
  have hfit := fun W => fits_v (kk : Int) kk ee n m t A8 l.length c8 (ss : Int) W
  have hfirst := fun W h => first_v (f : Int) W w3.heap.size g b9 e9 (fitsB (kk : Int) kk ee ss l.length) h
  rw [← her] at hfirst
  unfold ansV at hfit
  have HRT := Lib.hid hfit
  have HF := Lib.hid hfirst
  clear q0 q1 q2 q3 q4 q5 q6 qf qz
  obtain ⟨⟨q0, q1, q2, q3, q4, q5, q6⟩, qf, qz⟩ := W8.out.facts
  clear hfit hfirst her h1 h0 h2 h3 h4 hk hnn hmm hee hss h9 c9 hp8 hA8 hA8g hl8 hd8 ht8 hg8 hr8 HOP hL2 hB2 HM C1 C0 C2 C3 C4
  go_wp2_with (go_at_call 40; (with_reducible refine (C9.out _ _ _ V8.out.rdr).mono ?_); rintro r wa ⟨rfl, hra, hga⟩; have Wa := Lib.hid (V8.out.next hga hra); clear q0 q1 q2 q3 q4 q5 q6 qf qz; obtain ⟨⟨q0, q1, q2, q3, q4, q5, q6⟩, qf, qz⟩ := Wa.out.facts; have Va : Hid (Work7 w (wa.setCell ⟨w.heap.size + 1, 6, none⟩ (.int .i64 (ss : Int))) w3.heap.size g b9 e9 kk ee n m (mkS t) A8 l.length c8 ss) := (Wa.out.set 6 _ rfl); have HGA := Lib.hid hga; clear hra hga)
  have HDA := Lib.hid (rd_set (rd_only HD8.out HGA.out (by rw [hz8.out]; exact Nat.le_refl _) HA8G.out) (b := w.heap.size + 1) (fun ad e => by have := HA8.out ad e; omega) 6 (.int .i64 (ss : Int)))
  have hsz8 := Lib.hid (show w8.heap.size ≤ (wa.setCell ⟨w.heap.size + 1, 6, none⟩ (.int .i64 (ss : Int))).heap.size by have := HGA.out.size; rw [hz8.out] at this; simpa using this)
  by_cases he0 : er = 0
  · subst he0
    go_wp2_with (first
      | (go_at_call 14; (with_reducible refine (HRT.out _).mono ?_); rintro r w9 ⟨rfl, hb9⟩; have W9 := Lib.hid (Va.out.keep hb9); clear q0 q1 q2 q3 q4 q5 q6 qf qz; obtain ⟨⟨q0, q1, q2, q3, q4, q5, q6⟩, qf, qz⟩ := W9.out.facts; obtain ⟨⟨p0, p1, p2, p3, p4, p5, p6⟩, pf⟩ := W9.out.facts0; have HB9 := Lib.hid hb9; clear hb9)
      | (go_at_call 44; (with_reducible refine (HF.out _ W9.out.rdr).mono ?_); rintro r w' ⟨rfl, rfl⟩))
    refine bodyPost_ret (v := .tuple #[.agg #[.int .i64 (kk : Int), .int .i64 (ee : Int), .int .i64 n, .int .i64 m, .string (mkS t), .slice A8 l.length c8, .int .i64 (ss : Int)], .int .i64 0]) (by simp [results, Tryd.results24, go_sem, p0, p1, p2, p3, p4, p5, p6]) rfl
      ⟨kk, ee, n, m, t, l, ss, A8, c8, 0, rfl, HE.out.2 trivial, ?_, hc8, ?_, fun ad e => Nat.le_trans (by omega) (HA8.out ad e)⟩
    · have h9 : Rd w9 w9.heap.size A8 l.length (l.map sv) := (HDA.out.below (HB9.out.mono hsz8.out)).more (by have := HB9.out.size; have := hsz8.out; omega)
      have hne : ∀ ad, A8 = some ad → ad.block ≠ w.heap.size := fun ad e => by have := HA8.out ad e; omega
      have := rd_set (rd_set (rd_set (rd_set (rd_set (rd_set (rd_set h9 hne 0 (.int .i64 (kk : Int))) hne 1 (.int .i64 (ee : Int))) hne 2 (.int .i64 n)) hne 3 (.int .i64 m)) hne 4 (.string (mkS t))) hne 5 (.slice A8 l.length c8)) hne 6 (.int .i64 (ss : Int))
      exact this.more (by simp)
    · exact ((((((W9.out.laid.bel.setCell (by simp) _).setCell (by simp) _).setCell (by simp) _).setCell (by simp) _).setCell (by simp) _).setCell (by simp) _).setCell (by simp) _
  · have hne : (er != 0) = true := by simpa using he0
    obtain ⟨hA, her0⟩ := HE.out.1 he0
    obtain ⟨eN, rfl⟩ : ∃ eN : Nat, er = (eN : Int) := ⟨er.toNat, by omega⟩
    have HAE := Lib.hid hA
    clear HE he0 hA her0
    go_wp2_with (first
      | (go_at_call 14; (with_reducible refine (HRT.out _).mono ?_); rintro r w9 ⟨rfl, hb9⟩; have W9 := Lib.hid (Va.out.keep hb9); clear q0 q1 q2 q3 q4 q5 q6 qf qz; obtain ⟨⟨q0, q1, q2, q3, q4, q5, q6⟩, qf, qz⟩ := W9.out.facts; obtain ⟨⟨p0, p1, p2, p3, p4, p5, p6⟩, pf⟩ := W9.out.facts0; have HB9 := Lib.hid hb9; clear hb9)
      | (go_at_call 44; (with_reducible refine (HF.out _ W9.out.rdr).mono ?_); rintro r w' ⟨rfl, rfl⟩))
    refine bodyPost_ret (v := .tuple #[.agg Z7, .int .i64 (eN : Int)]) (by simp [results, Tryd.results24, go_sem, p0, p1, p2, p3, p4, p5, p6]) rfl
      ⟨0, 0, 0, 0, [], [], 0, none, 0, eN, rfl, by rw [HAE.out]; rfl, Rd.nil_, Nat.le_refl _, ?_, fun ad e => by cases e⟩
    exact ((((((W9.out.laid.bel.setCell (by simp) _).setCell (by simp) _).setCell (by simp) _).setCell (by simp) _).setCell (by simp) _).setCell (by simp) _).setCell (by simp) _
end Go.Proofs.YtbgojfgapbcanaaDoor
