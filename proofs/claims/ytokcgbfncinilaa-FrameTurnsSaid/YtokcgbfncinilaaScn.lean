/- frame's frames and Scan: what each one tells. -/
import Derived.RangeFuncNested
import Derived.RangeFuncBound
import Derived.Shelf.Abstract
import Derived.Shelf.RegionOpen
import Derived.TacticsInMore
import Derived.LoopIn
import Derived.Test.YtokcgbfncinilaaFrT
import Derived.Test.YtokcgbfncinilaaMat
import Derived.Test.YtokcgbfncinilaaIn
namespace Go.Proofs.Ytokcgbfncinilaa
open Go.RowKit Go.Shelf
attribute [local go_sem] Oper.semAt_some
set_option maxRecDepth 100000 in
theorem frames_v (A : Option Addr) (n cap : Nat) (w : World) :
    Calls Try.prog 13 #[.slice A n cap] w fun e w' => e = .returned (.func (.func 20) #[] #[.pointer (some ⟨w.heap.size, 0, none⟩)]) ∧ w' = w.alloc (.cells #[.slice A n cap] 26) := by
  go_enter Try.func13, Try.ntmps13
  go_wp2
  go_ret
  exact ⟨rfl, rfl⟩
/-- Scan under way: its variables' boxes, the iterator's own one, the rows so far. -/
structure Sc (w W : World) (v : Value) (rs : List Value) (ds : List (List UInt8)) (m : Nat) (src : Value) : Prop where
  bel : Below w.heap.size w W
  c2 : Boxed W w.heap.size 22 (.slice none 0 0)
  c3 : Boxed W (w.heap.size + 1) 3 (.int .i64 0)
  c4 : Boxed W (w.heap.size + 1 + 1) 30 (.int .i64 0)
  c5 : Boxed W (w.heap.size + 1 + 1 + 1) 22 v
  c6 : Boxed W (w.heap.size + 1 + 1 + 1 + 1) 3 (.int .i64 (m : Int))
  c7 : Boxed W (w.heap.size + 1 + 1 + 1 + 1 + 1) 26 src
  mat : Mat W (w.heap.size + 6) v rs ds
/-- What is handed back lies in the results' boxes. -/
structure Fin (w W : World) (v : Value) (rs : List Value) (ds : List (List UInt8)) (m er : Nat) : Prop where
  bel : Below w.heap.size w W
  c2 : Boxed W w.heap.size 22 v
  c3 : Boxed W (w.heap.size + 1) 3 (.int .i64 (m : Int))
  c4 : Boxed W (w.heap.size + 1 + 1) 30 (.int .i64 (er : Int))
  mat : Mat W (w.heap.size + 6) v rs ds
section
variable {w W W' : World} {v src : Value} {rs : List Value} {ds : List (List UInt8)} {m : Nat}
theorem boxed_below {B : Nat} {t : TypeId} {u : Value} (h : Boxed W B t u) (hb : Below W.heap.size W W') : Boxed W' B t u := (hb.block B h.lt).trans h
theorem Sc.below (h : Sc w W v rs ds m src) (hb : Below W.heap.size W W') : Sc w W' v rs ds m src :=
  ⟨h.bel.trans (hb.mono h.bel.size), boxed_below h.c2 hb, boxed_below h.c3 hb, boxed_below h.c4 hb, boxed_below h.c5 hb, boxed_below h.c6 hb, boxed_below h.c7 hb, h.mat.below hb⟩
theorem Sc.turn {r : Rng} (h : Sc w W v rs ds m src) (ht : r.Turn W W') (hD : w.heap.size ≤ r.D + 1) : Sc w W' v rs ds m src :=
  ⟨h.bel.trans (ht.below hD h.bel.size), ht.boxed h.c2, ht.boxed h.c3, ht.boxed h.c4, ht.boxed h.c5, ht.boxed h.c6, ht.boxed h.c7, h.mat.turn ht⟩
theorem Sc.setSrc (h : Sc w W v rs ds m src) (u : Value) : Sc w (W.setCell ⟨w.heap.size + 1 + 1 + 1 + 1 + 1, 0, none⟩ u) v rs ds m u :=
  ⟨h.bel.setCell (p := ⟨_, 0, none⟩) (by dsimp only; omega) u, h.c2.other (by omega) u, h.c3.other (by omega) u, h.c4.other (by omega) u, h.c5.other (by omega) u, h.c6.other (by omega) u, h.c7.set u, h.mat.setLow (by omega) u⟩
theorem Sc.setN (h : Sc w W v rs ds m src) (k : Nat) : Sc w (W.setCell ⟨w.heap.size + 1 + 1 + 1 + 1, 0, none⟩ (.int .i64 (k : Int))) v rs ds k src :=
  ⟨h.bel.setCell (p := ⟨_, 0, none⟩) (by dsimp only; omega) _, h.c2.other (by omega) _, h.c3.other (by omega) _, h.c4.other (by omega) _, h.c5.other (by omega) _, h.c6.set _, h.c7.other (by omega) _, h.mat.setLow (by omega) _⟩
theorem Fin.turn {er : Nat} {r : Rng} (h : Fin w W v rs ds m er) (ht : r.Turn W W') (hD : w.heap.size ≤ r.D + 1) : Fin w W' v rs ds m er :=
  ⟨h.bel.trans (ht.below hD h.bel.size), ht.boxed h.c2, ht.boxed h.c3, ht.boxed h.c4, h.mat.turn ht⟩
/-- The three stores of a return. -/
theorem Sc.fin (h : Sc w W v rs ds m src) (er : Nat) : Fin w (((W.setCell ⟨w.heap.size, 0, none⟩ v).setCell ⟨w.heap.size + 1, 0, none⟩ (.int .i64 (m : Int))).setCell ⟨w.heap.size + 1 + 1, 0, none⟩ (.int .i64 (er : Int))) v rs ds m er :=
  ⟨((h.bel.setCell (p := ⟨_, 0, none⟩) (Nat.le_refl _) v).setCell (p := ⟨_, 0, none⟩) (by dsimp only; omega) _).setCell (p := ⟨_, 0, none⟩) (by dsimp only; omega) _,
    ((h.c2.set v).other (by omega) _).other (by omega) _, ((h.c3.other (by omega) _).set _).other (by omega) _, ((h.c4.other (by omega) _).other (by omega) _).set _, ((h.mat.setLow (by omega) _).setLow (by omega) _).setLow (by omega) _⟩
end
/-- A row more: the slice of rows has grown, and is stored. -/
theorem Sc.push {w X Y : World} {v v' src rv : Value} {rs : List Value} {ds : List (List UInt8)} {m : Nat} {row : List UInt8} (h : Sc w X v rs ds m src)
    (hr : X.ownsRow (w.heap.size + 6) 5 1 rv row.length (row.map bv)) (hap : ∀ (i : Nat) ri, rs[i]? = some ri → Apart ri rv) (hg : Grew X Y (w.heap.size + 6) 26 v v' (rs ++ [rv])) :
    (Boxed Y (w.heap.size + 1 + 1 + 1) 22 v ∧ Boxed Y (w.heap.size + 1 + 1 + 1 + 1) 3 (.int .i64 (m : Int)) ∧ Sc w (Y.setCell ⟨w.heap.size + 1 + 1 + 1, 0, none⟩ v') v' (rs ++ [rv]) (ds ++ [row]) m src ∧ KeepsOthers X Y) := by
  have hlow : ∀ k, v.ownBlock = some k → w.heap.size + 6 ≤ k := fun k hk => (h.mat.own.lt k hk).1
  have kp : ∀ {B : Nat} {t : TypeId} {u : Value}, B < w.heap.size + 6 → Boxed X B t u → Boxed Y B t u := fun hB hb => hb.kept hg.grown fun e => by have := hlow _ e.symm; omega
  have hbel : Below w.heap.size w Y := h.bel.grown hg.grown h.bel.size fun k hk => by have := hlow k hk; omega
  have k5 := kp (by omega) h.c5
  have k6 := kp (by omega) h.c6
  refine ⟨k5, k6, ⟨hbel.setCell (p := ⟨_, 0, none⟩) (by dsimp only; omega) _, (kp (by omega) h.c2).other (by omega) _, (kp (by omega) h.c3).other (by omega) _, (kp (by omega) h.c4).other (by omega) _, k5.set _, k6.other (by omega) _, (kp (by omega) h.c7).other (by omega) _, (h.mat.push hr hap hg).setLow (by omega) _⟩, ?_⟩
  refine KeepsOthers.of_grownBy hg.grown fun j o ej hj => ?_
  rcases h.mat.own.2 with ⟨rfl, _⟩ | ⟨g, cap, cur, rfl, _, hgb, _⟩
  · simp [Value.ownBlock] at ej
  · obtain rfl : g = j := by simpa [Value.ownBlock] using ej
    rw [hgb] at hj; cases hj; rfl
/-- What is left of a slice in a box. -/
def leftIn (w W : World) : Nat := match W.cell? ⟨w.heap.size + 1 + 1 + 1 + 1 + 1, 0, none⟩ with
  | some (.slice _ k _) => k
  | _ => 0
theorem Sc.left {w W : World} {v : Value} {rs : List Value} {ds : List (List UInt8)} {m k c : Nat} {A : Option Addr} (h : Sc w W v rs ds m (.slice A k c)) : leftIn w W = k := by
  unfold leftIn; rw [h.c7.cell]
/-- Where a scan has come to. -/
def At_ (bs : List UInt8) (n : Nat) (ds : List (List UInt8)) (m : Nat) : Prop := ∃ f, bs.length - m ≤ f ∧ scanF n bs = (ds ++ (scanF f (bs.drop m)).1, m + (scanF f (bs.drop m)).2.1, (scanF f (bs.drop m)).2.2)
theorem At_.start (bs : List UInt8) (n : Nat) (h : bs.length = n) : At_ bs n [] 0 := ⟨n, by omega, by simp⟩
theorem takeF_ok_le {b : List UInt8} (h : (takeF b).2.2 = 0) : 5 ≤ (takeF b).2.1 ∧ (takeF b).2.1 ≤ b.length := by
  unfold takeF at h ⊢
  rcases takeM_cases b with ⟨h0, h1, _⟩ | ⟨h0, _⟩
  · rw [if_neg (by rw [h0]; simp)] at h ⊢
    split at h
    · simp at h
    · rename_i h2
      rw [if_neg h2]
      split at h
      · simp at h
      · rename_i h3
        rw [if_neg h3]
        split at h
        · simp at h
        · rename_i h4
          rw [if_neg h4]
          dsimp only
          omega
  · rw [if_pos (by omega)] at h
    simp at h; omega
theorem takeF_le (b : List UInt8) : (takeF b).2.1 ≤ b.length := by
  by_cases h : (takeF b).2.2 = 0
  · exact (takeF_ok_le h).2
  · unfold takeF at h ⊢
    split
    · simp
    · rename_i h1
      rw [if_neg h1] at h
      split
      · simp
      · rename_i h2
        rw [if_neg h2] at h
        split
        · simp
        · rename_i h3
          rw [if_neg h3] at h
          split
          · simp
          · rename_i h4
            rw [if_neg h4] at h
            simp at h
theorem At_.step {bs : List UInt8} {n m : Nat} {ds : List (List UInt8)} (h : At_ bs n ds m) (hm : m < bs.length) (he : (takeF (bs.drop m)).2.2 = 0) : At_ bs n (ds ++ [(takeF (bs.drop m)).1]) (m + (takeF (bs.drop m)).2.1) := by
  obtain ⟨f, hf, e⟩ := h
  obtain ⟨f, rfl⟩ : ∃ g, f = g + 1 := ⟨f - 1, by omega⟩
  have hne : bs.drop m ≠ [] := by intro h0; have := congrArg List.length h0; simp at this; omega
  have h5 := takeF_ok_le he
  refine ⟨f, by omega, ?_⟩
  rw [e, scanF, if_neg hne, if_neg (by rw [he]; simp), List.drop_drop]
  simp [Nat.add_assoc]
theorem At_.err {bs : List UInt8} {n m : Nat} {ds : List (List UInt8)} (h : At_ bs n ds m) (hm : m < bs.length) (he : (takeF (bs.drop m)).2.2 ≠ 0) : scanF n bs = (ds, m, (takeF (bs.drop m)).2.2) := by
  obtain ⟨f, hf, e⟩ := h
  obtain ⟨f, rfl⟩ : ∃ g, f = g + 1 := ⟨f - 1, by omega⟩
  have hne : bs.drop m ≠ [] := by intro h0; have := congrArg List.length h0; simp at this; omega
  rw [e, scanF, if_neg hne, if_pos he]; simp
theorem At_.ends {bs : List UInt8} {n m : Nat} {ds : List (List UInt8)} (h : At_ bs n ds m) (hm : bs.length ≤ m) : scanF n bs = (ds, m, 0) := by
  obtain ⟨f, hf, e⟩ := h
  rw [e, List.drop_eq_nil_of_le hm]
  cases f <;> simp [scanF]
theorem Mat.fresh {W W' : World} {base : Nat} {v rv : Value} {rs xs : List Value} {ls : List (List UInt8)} {e : TypeId} (h : Mat W base v rs ls) (hg : Grew W W' W.heap.size e (.slice none 0 0) rv xs) : ∀ (i : Nat) ri, rs[i]? = some ri → Apart ri rv := by
  intro i ri hi j h1 h2
  have hl : i < ls.length := by rw [← h.len]; exact (List.getElem?_eq_some_iff.1 hi).1
  have h3 := ((h.row i hl ri hi).lt j h1).2
  rcases hg.moved with h4 | ⟨k, h4, h5⟩
  · rw [h4] at h2; cases h2
  · rw [h4] at h2; cases h2; omega
/-- The iterator's walk: it goes on as long as Take takes one. -/
abbrev h5 (w : World) : Nat := w.heap.size + 1 + 1 + 1 + 1 + 1
set_option maxRecDepth 100000 in
set_option maxHeartbeats 1000000 in
theorem iter_v (w : World) (r : Rng) (hD : w.heap.size + 6 ≤ r.D) (B n cap : Nat) (bs : List UInt8) (hB : B ≤ w.heap.size) (hlen : bs.length = n) (hn : n ≤ 1000000000000) (hcm : cap ≤ maxLen)
    (hround : ∀ (W : World) (v : Value) (rs : List Value) (ds : List (List UInt8)) (m : Nat) (src rv : Value) (row : List UInt8) (sz er : Nat), r.At .ready none W → Sc w W v rs ds m src →
      W.ownsRow (w.heap.size + 6) 5 1 rv row.length (row.map bv) → (∀ (i : Nat) ri, rs[i]? = some ri → Apart ri rv) → m + sz ≤ n → rs.length ≤ n →
      YieldAt Fence.wide 3 Try.prog (r.D + 1) #[.agg #[rv, .int .i64 (sz : Int)], .int .i64 (er : Int)] W fun e W' =>
        (er = 0 ∧ e = .returned (.bool true) ∧ r.At .ready none W' ∧ ∃ v', Sc w W' v' (rs ++ [rv]) (ds ++ [row]) (m + sz) src) ∨
        (er ≠ 0 ∧ e = .returned (.bool false) ∧ r.At .done (some .ret) W' ∧ Fin w W' v rs ds m er))
    (W1 : World) (A : Option Addr) (hat : r.At .ready none W1) (hsc : Sc w W1 (.slice none 0 0) [] [] 0 (.slice A n cap)) (hr : Rd W1 B A n (bs.map bv)) (hc : n ≤ cap) :
    CallsIn Fence.wide 4 Try.prog 20 (#[.func (.yield (r.D + 1)) #[] #[]] ++ #[.pointer (some ⟨w.heap.size + 1 + 1 + 1 + 1 + 1, 0, none⟩)]) W1 fun e W2 => (∃ v, e = .returned v) ∧
      ((∃ v rs src, r.At .ready none W2 ∧ Sc w W2 v rs (scanF n bs).1 (scanF n bs).2.1 src ∧ (scanF n bs).2.2 = 0) ∨
       (∃ v rs, r.At .done (some .ret) W2 ∧ Fin w W2 v rs (scanF n bs).1 (scanF n bs).2.1 (scanF n bs).2.2)) := by
  refine callsIn_of_wp Try.func20 rfl trivial ?_ rfl
  simp only [Try.ntmps20, List.size_toArray, List.length_cons, List.length_nil, Nat.reduceAdd, Nat.reduceSub, Array.replicate_succ, Array.replicate_zero, List.push_toArray, List.append_toArray, List.nil_append, List.cons_append]
  have HRD := Lib.hid hround
  clear hround
  gi_wp2
  gi_loopw [3] (fun _ wr => ∃ (v : Value) (rs : List Value) (ds : List (List UInt8)) (m : Nat) (A : Option Addr) (c : Nat), r.At .ready none wr ∧ Sc w wr v rs ds m (.slice A (n - m) c) ∧ Rd wr B A (n - m) ((bs.drop m).map bv) ∧ m ≤ n ∧ n - m ≤ c ∧ c ≤ cap ∧ rs.length ≤ m ∧ At_ bs n ds m)
    (fun _ wr => leftIn w wr)
  case atStart => exact ⟨_, _, _, 0, A, cap, hat, hsc, by simpa using hr, by omega, by omega, Nat.le_refl _, by simp, At_.start bs n hlen⟩
  case round =>
    obtain ⟨v, rs, ds, m, Ar, c, hat, hsc, hrd, hmn, hmc, hcc, hrs, hst⟩ := hrel
    have HST := Lib.hid hst
    have HAT := Lib.hid hat
    have HSC := Lib.hid hsc
    have HRR := Lib.hid hrd
    have hbx := hsc.c7.cell
    have hfx := hsc.c7.frozen
    have hws := hsc.bel.size
    have hlf := Lib.hid hsc.left
    clear hst hat hsc hrd
    by_cases hm : m < n
    · obtain ⟨k, hk⟩ : ∃ k, n - m = k := ⟨_, rfl⟩
      rw [hk] at hbx
      have hk0 : 0 < k := by omega
      rw [hk] at HSC HRR hmc hlf
      have HT := Lib.hid (takeF_v Ar k c B (bs.drop m) wr HRR.out (Nat.le_trans hB hws) (by omega) hmc (Nat.le_trans hcc hcm))
      have hle := takeF_le (bs.drop m)
      rw [List.length_drop, hlen, hk] at hle
      obtain ⟨row, hrow⟩ : ∃ row, (takeF (bs.drop m)).1 = row := ⟨_, rfl⟩
      obtain ⟨sz, hsz⟩ : ∃ sz, (takeF (bs.drop m)).2.1 = sz := ⟨_, rfl⟩
      obtain ⟨er, her⟩ : ∃ er, (takeF (bs.drop m)).2.2 = er := ⟨_, rfl⟩
      rw [hrow, hsz, her] at HT
      rw [hsz] at hle
      have HROW := Lib.hid hrow
      have HSZ := Lib.hid hsz
      have HER := Lib.hid her
      have HK := Lib.hid hk
      clear hrow hsz her hk
      by_cases he0 : er = 0
      · subst he0
        have HTK := Lib.hid (takeF_ok_le HER.out)
        rw [HSZ.out] at HTK
        gi_wp2_with (refine ⟨trivial, ?_⟩; gi_at_call 11; refine (callsIn_wide.2 HT.out).mono ?_; rintro e w2 ⟨v2, rfl, hg2⟩; have hs2 := hg2.grown.size; have HSC2 := Lib.hid (HSC.out.below hg2.belowNil); have HY := HRD.out w2 v rs ds m _ v2 row sz 0 (HAT.out.keep (others_of_below hg2.belowNil)) HSC2.out (by have := hg2.own.mono (base' := w.heap.size + 6) (by have := HAT.out.lt; omega); simpa using this) (HSC.out.mat.fresh hg2) (by have := HK.out; omega) (by omega); have HR2 := Lib.hid (HRR.out.below (hg2.belowNil.mono (Nat.le_trans hB hws))); obtain ⟨A2, c2, rfl, h21, h22, h23⟩ := own_map hg2.own; clear hg2 h21 h22 h23; obtain ⟨fn, tmps, assign, body, hy, hR⟩ := HY; rw [show ((0 : Nat) : Int) = 0 from rfl] at hy; have HR := Lib.hid hR; clear hR)
        refine HR.out.mono ?_
        rintro e W3 (⟨_, rfl, hat3, v3, hsc3⟩ | ⟨h0, _⟩)
        case inr => exact absurd rfl h0
        have hb3 := hsc3.c7.cell
        have hf3 := hsc3.c7.frozen
        have hrd3 := Lib.hid (HRR.out.keep (w' := W3) fun p hp => (hsc3.bel.cell (by omega)).trans (HSC.out.bel.cell (by omega)).symm)
        have HSC3 := Lib.hid hsc3
        have HAT3 := Lib.hid hat3
        clear hsc3 hat3
        have hi0 : (0 : Int) ≤ (sz : Int) := by omega
        have hi1 : (sz : Int) ≤ (k : Int) := by omega
        gi_wp2
        go_roundw
        case rel =>
          have e1 : n - (m + sz) = k - sz := by have := HK.out; omega
          have hst := HST.out.step (by have := HK.out; omega) HER.out
          rw [HROW.out, HSZ.out] at hst
          refine ⟨v3, _, _, m + sz, _, c - sz, HAT3.out.keep (KeepsOthers.setCell _ _ _), by rw [e1]; exact HSC3.out.setSrc _, ?_, by have := HK.out; omega, by have := HK.out; omega, by omega, by simp; have := HTK.out.1; omega, hst⟩
          rw [e1, ← List.drop_drop, List.map_drop]
          exact (hrd3.out.cut hle hmc).below ((Below.refl B W3).setCell (p := ⟨_, 0, none⟩) (by dsimp only; omega) _)
        case measure =>
          rw [hlf.out]
          rw [(HSC3.out.setSrc _).left]
          have := HTK.out.1; omega
      · have her := Lib.hid he0
        have hen : ((er : Int) != 0) = true := by simp; exact he0
        gi_wp2_with (refine ⟨trivial, ?_⟩; gi_at_call 11; refine (callsIn_wide.2 HT.out).mono ?_; rintro e w2 ⟨v2, rfl, hg2⟩; have hs2 := hg2.grown.size; have HSC2 := Lib.hid (HSC.out.below hg2.belowNil); have HY := HRD.out w2 v rs ds m _ v2 row sz er (HAT.out.keep (others_of_below hg2.belowNil)) HSC2.out (by have := hg2.own.mono (base' := w.heap.size + 6) (by have := HAT.out.lt; omega); simpa using this) (HSC.out.mat.fresh hg2) (by have := HK.out; omega) (by omega); obtain ⟨A2, c2, rfl, h21, h22, h23⟩ := own_map hg2.own; clear hg2 h21 h22 h23; obtain ⟨fn, tmps, assign, body, hy, hR⟩ := HY; have HR := Lib.hid hR; clear hR)
        refine HR.out.mono ?_
        rintro e W3 (⟨h0, _⟩ | ⟨_, rfl, hat3, hfin⟩)
        · exact absurd h0 he0
        have HFIN := Lib.hid hfin
        have HAT3 := Lib.hid hat3
        clear hfin hat3
        gi_wp2
        refine bodyPost_ret (results_none rfl _ _ _) rfl ?_
        have he := HST.out.err (by have := HK.out; omega) (by rw [HER.out]; exact he0)
        rw [HER.out] at he
        exact ⟨⟨_, rfl⟩, .inr ⟨v, rs, HAT3.out, by rw [he]; exact HFIN.out⟩⟩
    · have hm' : m = n := by omega
      subst hm'
      gi_wp2
      go_end0
      have he := HST.out.ends (by omega)
      exact ⟨⟨_, rfl⟩, .inl ⟨v, rs, _, HAT.out, by rw [he]; exact HSC.out, by rw [he]⟩⟩
end Go.Proofs.Ytokcgbfncinilaa
