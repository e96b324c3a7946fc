/- frame's frames and Scan: what each one tells. -/
import Derived.RangeFuncNested
import Derived.RangeFuncBound
import Derived.Shelf.Abstract
import Derived.Shelf.RegionOpen
import Derived.TacticsInMore
import Derived.LoopIn
import Derived.Test.YtemokpnepnmmkaaMg
import Derived.Test.YtemokpnepnmmkaaMh
namespace Go.Proofs.Ytemokpnepnmmkaa
open Go.RowKit Go.Shelf
attribute [local go_sem] Oper.semAt_some
set_option maxRecDepth 100000 in
theorem frames_v (A : Option Addr) (n cap : Nat) (w : World) :
    Calls Try.prog 47 #[.slice A n cap] w fun e w' => e = .returned (.func (.func 58) #[] #[.pointer (some ⟨w.heap.size, 0, none⟩)]) ∧ w' = w.alloc (.cells #[.slice A n cap] 28) := by
  go_enter Try.func47, Try.ntmps47
  go_wp2
  go_ret
  exact ⟨rfl, rfl⟩
/-- Scan under way: its variables' boxes, the iterator's own one, the rows so far. -/
structure Sc (w W : World) (v : Value) (rs : List Value) (ds : List (List UInt8)) (m : Nat) (src : Value) : Prop where
  bel : Below w.heap.size w W
  c2 : Boxed W w.heap.size 38 (.slice none 0 0)
  c3 : Boxed W (w.heap.size + 1) 3 (.int .i64 0)
  c4 : Boxed W (w.heap.size + 1 + 1) 42 (.int .i64 0)
  c5 : Boxed W (w.heap.size + 1 + 1 + 1) 38 v
  c6 : Boxed W (w.heap.size + 1 + 1 + 1 + 1) 3 (.int .i64 (m : Int))
  c7 : Boxed W (w.heap.size + 1 + 1 + 1 + 1 + 1) 28 src
  mat : Mat W (w.heap.size + 6) v rs ds
/-- What is handed back lies in the results' boxes. -/
structure Fin (w W : World) (v : Value) (rs : List Value) (ds : List (List UInt8)) (m er : Nat) : Prop where
  bel : Below w.heap.size w W
  c2 : Boxed W w.heap.size 38 v
  c3 : Boxed W (w.heap.size + 1) 3 (.int .i64 (m : Int))
  c4 : Boxed W (w.heap.size + 1 + 1) 42 (.int .i64 (er : Int))
  mat : Mat W (w.heap.size + 6) v rs ds
section
variable {w W W' : World} {v src : Value} {rs : List Value} {ds : List (List UInt8)} {m : Nat}
theorem boxed_below {B : Nat} {t : TypeId} {u : Value} (h : Boxed W B t u) (hb : Below W.heap.size W W') : Boxed W' B t u := (hb.block B h.lt).trans h
theorem Sc.below (h : Sc w W v rs ds m src) (hb : Below W.heap.size W W') : Sc w W' v rs ds m src :=
  ⟨h.bel.trans (hb.mono h.bel.size), boxed_below h.c2 hb, boxed_below h.c3 hb, boxed_below h.c4 hb, boxed_below h.c5 hb, boxed_below h.c6 hb, boxed_below h.c7 hb, h.mat.below hb⟩
theorem Sc.turn {r : Rng} (h : Sc w W v rs ds m src) (ht : r.Turn W W') (hD : w.heap.size ≤ r.D + 1) : Sc w W' v rs ds m src :=
  ⟨h.bel.trans (ht.below hD h.bel.size), ht.boxed h.c2, ht.boxed h.c3, ht.boxed h.c4, ht.boxed h.c5, ht.boxed h.c6, ht.boxed h.c7, h.mat.turn ht⟩
theorem Sc.setSrc (h : Sc w W v rs ds m src) (u : Value) : Sc w (W.setCell ⟨w.heap.size + 1 + 1 + 1 + 1 + 1, 0, none⟩ u) v rs ds m u :=
  ⟨h.bel.setCell (p := ⟨_, 0, none⟩) (by dsimp only; omega) u, h.c2.other (by omega) u, h.c3.other (by omega) u, h.c4.other (by omega) u, h.c5.other (by omega) u, h.c6.other (by omega) u, h.c7.set u, h.mat.setLow (by omega) u⟩
theorem Sc.setN (h : Sc w W v rs ds m src) (k : Nat) : Sc w (W.setCell ⟨w.heap.size + 1 + 1 + 1 + 1, 0, none⟩ (.int .i64 (k : Int))) v rs ds k src :=
  ⟨h.bel.setCell (p := ⟨_, 0, none⟩) (by dsimp only; omega) _, h.c2.other (by omega) _, h.c3.other (by omega) _, h.c4.other (by omega) _, h.c5.other (by omega) _, h.c6.set _, h.c7.other (by omega) _, h.mat.setLow (by omega) _⟩
theorem Fin.turn {er : Nat} {r : Rng} (h : Fin w W v rs ds m er) (ht : r.Turn W W') (hD : w.heap.size ≤ r.D + 1) : Fin w W' v rs ds m er :=
  ⟨h.bel.trans (ht.below hD h.bel.size), ht.boxed h.c2, ht.boxed h.c3, ht.boxed h.c4, h.mat.turn ht⟩
/-- The three stores of a return. -/
theorem Sc.fin (h : Sc w W v rs ds m src) (er : Nat) : Fin w (((W.setCell ⟨w.heap.size, 0, none⟩ v).setCell ⟨w.heap.size + 1, 0, none⟩ (.int .i64 (m : Int))).setCell ⟨w.heap.size + 1 + 1, 0, none⟩ (.int .i64 (er : Int))) v rs ds m er :=
  ⟨((h.bel.setCell (p := ⟨_, 0, none⟩) (Nat.le_refl _) v).setCell (p := ⟨_, 0, none⟩) (by dsimp only; omega) _).setCell (p := ⟨_, 0, none⟩) (by dsimp only; omega) _,
    ((h.c2.set v).other (by omega) _).other (by omega) _, ((h.c3.other (by omega) _).set _).other (by omega) _, ((h.c4.other (by omega) _).other (by omega) _).set _, ((h.mat.setLow (by omega) _).setLow (by omega) _).setLow (by omega) _⟩
end
/-- A row more: the slice of rows has grown, and is stored. -/
theorem Sc.push {w X Y : World} {v v' src rv : Value} {rs : List Value} {ds : List (List UInt8)} {m : Nat} {row : List UInt8} (h : Sc w X v rs ds m src)
    (hr : X.ownsRow (w.heap.size + 6) 5 1 rv row.length (row.map bv)) (hap : ∀ (i : Nat) ri, rs[i]? = some ri → Apart ri rv) (hg : Grew X Y (w.heap.size + 6) 28 v v' (rs ++ [rv])) :
    (Boxed Y (w.heap.size + 1 + 1 + 1) 38 v ∧ Boxed Y (w.heap.size + 1 + 1 + 1 + 1) 3 (.int .i64 (m : Int)) ∧ Sc w (Y.setCell ⟨w.heap.size + 1 + 1 + 1, 0, none⟩ v') v' (rs ++ [rv]) (ds ++ [row]) m src ∧ KeepsOthers X Y) := by
  have hlow : ∀ k, v.ownBlock = some k → w.heap.size + 6 ≤ k := fun k hk => (h.mat.own.lt k hk).1
  have kp : ∀ {B : Nat} {t : TypeId} {u : Value}, B < w.heap.size + 6 → Boxed X B t u → Boxed Y B t u := fun hB hb => hb.kept hg.grown fun e => by have := hlow _ e.symm; omega
  have hbel : Below w.heap.size w Y := h.bel.grown hg.grown h.bel.size fun k hk => by have := hlow k hk; omega
  have k5 := kp (by omega) h.c5
  have k6 := kp (by omega) h.c6
  refine ⟨k5, k6, ⟨hbel.setCell (p := ⟨_, 0, none⟩) (by dsimp only; omega) _, (kp (by omega) h.c2).other (by omega) _, (kp (by omega) h.c3).other (by omega) _, (kp (by omega) h.c4).other (by omega) _, k5.set _, k6.other (by omega) _, (kp (by omega) h.c7).other (by omega) _, (h.mat.push hr hap hg).setLow (by omega) _⟩, ?_⟩
  refine KeepsOthers.of_grownBy hg.grown fun j o ej hj => ?_
  rcases h.mat.own.2 with ⟨rfl, _⟩ | ⟨g, cap, cur, rfl, _, hgb, _⟩
  · simp [Value.ownBlock] at ej
  · obtain rfl : g = j := by simpa [Value.ownBlock] using ej
    rw [hgb] at hj; cases hj; rfl
/-- What is left of a slice in a box. -/
def leftIn (w W : World) : Nat := match W.cell? ⟨w.heap.size + 1 + 1 + 1 + 1 + 1, 0, none⟩ with
  | some (.slice _ k _) => k
  | _ => 0
theorem Sc.left {w W : World} {v : Value} {rs : List Value} {ds : List (List UInt8)} {m k c : Nat} {A : Option Addr} (h : Sc w W v rs ds m (.slice A k c)) : leftIn w W = k := by
  unfold leftIn; rw [h.c7.cell]
/-- Where a scan has come to. -/
def At_ (bs : List UInt8) (n : Nat) (ds : List (List UInt8)) (m : Nat) : Prop := ∃ f, bs.length - m ≤ f ∧ scanF n bs = (ds ++ (scanF f (bs.drop m)).1, m + (scanF f (bs.drop m)).2.1, (scanF f (bs.drop m)).2.2)
theorem At_.start (bs : List UInt8) (n : Nat) (h : bs.length = n) : At_ bs n [] 0 := ⟨n, by omega, by simp⟩
theorem takeF_ok_le {b : List UInt8} (h : (takeF b).2.2 = 0) : 5 ≤ (takeF b).2.1 ∧ (takeF b).2.1 ≤ b.length := by
  unfold takeF at h ⊢
  rcases takeM_cases b with ⟨h0, h1, _⟩ | ⟨h0, _⟩
  · rw [if_neg (by rw [h0]; simp)] at h ⊢
    split at h
    · simp at h
    · rename_i h2
      rw [if_neg h2]
      split at h
      · simp at h
      · rename_i h3
        rw [if_neg h3]
        split at h
        · simp at h
        · rename_i h4
          rw [if_neg h4]
          dsimp only
          omega
  · rw [if_pos (by omega)] at h
    simp at h; omega
theorem takeF_le (b : List UInt8) : (takeF b).2.1 ≤ b.length := by
  by_cases h : (takeF b).2.2 = 0
  · exact (takeF_ok_le h).2
  · unfold takeF at h ⊢
    split
    · simp
    · rename_i h1
      rw [if_neg h1] at h
      split
      · simp
      · rename_i h2
        rw [if_neg h2] at h
        split
        · simp
        · rename_i h3
          rw [if_neg h3] at h
          split
          · simp
          · rename_i h4
            rw [if_neg h4] at h
            simp at h
theorem At_.step {bs : List UInt8} {n m : Nat} {ds : List (List UInt8)} (h : At_ bs n ds m) (hm : m < bs.length) (he : (takeF (bs.drop m)).2.2 = 0) : At_ bs n (ds ++ [(takeF (bs.drop m)).1]) (m + (takeF (bs.drop m)).2.1) := by
  obtain ⟨f, hf, e⟩ := h
  obtain ⟨f, rfl⟩ : ∃ g, f = g + 1 := ⟨f - 1, by omega⟩
  have hne : bs.drop m ≠ [] := by intro h0; have := congrArg List.length h0; simp at this; omega
  have h5 := takeF_ok_le he
  refine ⟨f, by omega, ?_⟩
  rw [e, scanF, if_neg hne, if_neg (by rw [he]; simp), List.drop_drop]
  simp [Nat.add_assoc]
theorem At_.err {bs : List UInt8} {n m : Nat} {ds : List (List UInt8)} (h : At_ bs n ds m) (hm : m < bs.length) (he : (takeF (bs.drop m)).2.2 ≠ 0) : scanF n bs = (ds, m, (takeF (bs.drop m)).2.2) := by
  obtain ⟨f, hf, e⟩ := h
  obtain ⟨f, rfl⟩ : ∃ g, f = g + 1 := ⟨f - 1, by omega⟩
  have hne : bs.drop m ≠ [] := by intro h0; have := congrArg List.length h0; simp at this; omega
  rw [e, scanF, if_neg hne, if_pos he]; simp
theorem At_.ends {bs : List UInt8} {n m : Nat} {ds : List (List UInt8)} (h : At_ bs n ds m) (hm : bs.length ≤ m) : scanF n bs = (ds, m, 0) := by
  obtain ⟨f, hf, e⟩ := h
  rw [e, List.drop_eq_nil_of_le hm]
  cases f <;> simp [scanF]
theorem Mat.fresh {W W' : World} {base : Nat} {v rv : Value} {rs xs : List Value} {ls : List (List UInt8)} {e : TypeId} (h : Mat W base v rs ls) (hg : Grew W W' W.heap.size e (.slice none 0 0) rv xs) : ∀ (i : Nat) ri, rs[i]? = some ri → Apart ri rv := by
  intro i ri hi j h1 h2
  have hl : i < ls.length := by rw [← h.len]; exact (List.getElem?_eq_some_iff.1 hi).1
  have h3 := ((h.row i hl ri hi).lt j h1).2
  rcases hg.moved with h4 | ⟨k, h4, h5⟩
  · rw [h4] at h2; cases h2
  · rw [h4] at h2; cases h2; omega
/-- The iterator's walk: it goes on as long as Take takes one. -/
abbrev h5 (w : World) : Nat := w.heap.size + 1 + 1 + 1 + 1 + 1
set_option maxRecDepth 100000 in
set_option maxHeartbeats 1000000 in
theorem iter_v (w : World) (r : Rng) (hD : w.heap.size + 6 ≤ r.D) (B n cap : Nat) (bs : List UInt8) (hB : B ≤ w.heap.size) (hlen : bs.length = n) (hn : n ≤ 1000000000000) (hcm : cap ≤ maxLen)
    (hround : ∀ (W : World) (v : Value) (rs : List Value) (ds : List (List UInt8)) (m : Nat) (src rv : Value) (row : List UInt8) (sz er : Nat), r.At .ready none W → Sc w W v rs ds m src →
      W.ownsRow (w.heap.size + 6) 5 1 rv row.length (row.map bv) → (∀ (i : Nat) ri, rs[i]? = some ri → Apart ri rv) → m + sz ≤ n → rs.length ≤ n →
      YieldAt Fence.wide 3 Try.prog (r.D + 1) #[.agg #[rv, .int .i64 (sz : Int)], .int .i64 (er : Int)] W fun e W' =>
        (er = 0 ∧ e = .returned (.bool true) ∧ r.At .ready none W' ∧ ∃ v', Sc w W' v' (rs ++ [rv]) (ds ++ [row]) (m + sz) src) ∨
        (er ≠ 0 ∧ e = .returned (.bool false) ∧ r.At .done (some .ret) W' ∧ Fin w W' v rs ds m er))
    (W1 : World) (A : Option Addr) (hat : r.At .ready none W1) (hsc : Sc w W1 (.slice none 0 0) [] [] 0 (.slice A n cap)) (hr : Rd W1 B A n (bs.map bv)) (hc : n ≤ cap) :
    CallsIn Fence.wide 4 Try.prog 58 (#[.func (.yield (r.D + 1)) #[] #[]] ++ #[.pointer (some ⟨w.heap.size + 1 + 1 + 1 + 1 + 1, 0, none⟩)]) W1 fun e W2 => (∃ v, e = .returned v) ∧
      ((∃ v rs src, r.At .ready none W2 ∧ Sc w W2 v rs (scanF n bs).1 (scanF n bs).2.1 src ∧ (scanF n bs).2.2 = 0) ∨
       (∃ v rs, r.At .done (some .ret) W2 ∧ Fin w W2 v rs (scanF n bs).1 (scanF n bs).2.1 (scanF n bs).2.2)) := by
  refine callsIn_of_wp Try.func58 rfl trivial ?_ rfl
  simp only [Try.ntmps58, List.size_toArray, List.length_cons, List.length_nil, Nat.reduceAdd, Nat.reduceSub, Array.replicate_succ, Array.replicate_zero, List.push_toArray, List.append_toArray, List.nil_append, List.cons_append]
  have HRD := Lib.hid hround
  clear hround
  gi_wp2
  gi_loopw [3] (fun _ wr => ∃ (v : Value) (rs : List Value) (ds : List (List UInt8)) (m : Nat) (A : Option Addr) (c : Nat), r.At .ready none wr ∧ Sc w wr v rs ds m (.slice A (n - m) c) ∧ Rd wr B A (n - m) ((bs.drop m).map bv) ∧ m ≤ n ∧ n - m ≤ c ∧ c ≤ cap ∧ rs.length ≤ m ∧ At_ bs n ds m)
    (fun _ wr => leftIn w wr)
  case atStart => exact ⟨_, _, _, 0, A, cap, hat, hsc, by simpa using hr, by omega, by omega, Nat.le_refl _, by simp, At_.start bs n hlen⟩
  case round =>
    obtain ⟨v, rs, ds, m, Ar, c, hat, hsc, hrd, hmn, hmc, hcc, hrs, hst⟩ := hrel
    have HST := Lib.hid hst
    have HAT := Lib.hid hat
    have HSC := Lib.hid hsc
    have HRR := Lib.hid hrd
    have hbx := hsc.c7.cell
    have hfx := hsc.c7.frozen
    have hws := hsc.bel.size
    have hlf := Lib.hid hsc.left
    clear hst hat hsc hrd
    by_cases hm : m < n
    · obtain ⟨k, hk⟩ : ∃ k, n - m = k := ⟨_, rfl⟩
      rw [hk] at hbx
      have hk0 : 0 < k := by omega
      rw [hk] at HSC HRR hmc hlf
      have HT := Lib.hid (takeF_v Ar k c B (bs.drop m) wr HRR.out (Nat.le_trans hB hws) (by omega) hmc (Nat.le_trans hcc hcm))
      have hle := takeF_le (bs.drop m)
      rw [List.length_drop, hlen, hk] at hle
      obtain ⟨row, hrow⟩ : ∃ row, (takeF (bs.drop m)).1 = row := ⟨_, rfl⟩
      obtain ⟨sz, hsz⟩ : ∃ sz, (takeF (bs.drop m)).2.1 = sz := ⟨_, rfl⟩
      obtain ⟨er, her⟩ : ∃ er, (takeF (bs.drop m)).2.2 = er := ⟨_, rfl⟩
      rw [hrow, hsz, her] at HT
      rw [hsz] at hle
      have HROW := Lib.hid hrow
      have HSZ := Lib.hid hsz
      have HER := Lib.hid her
      have HK := Lib.hid hk
      clear hrow hsz her hk
      by_cases he0 : er = 0
      · subst he0
        have HTK := Lib.hid (takeF_ok_le HER.out)
        rw [HSZ.out] at HTK
        gi_wp2_with (refine ⟨trivial, ?_⟩; gi_at_call 59; refine (callsIn_wide.2 HT.out).mono ?_; rintro e w2 ⟨v2, rfl, hg2⟩; have hs2 := hg2.grown.size; have HSC2 := Lib.hid (HSC.out.below hg2.belowNil); have HY := HRD.out w2 v rs ds m _ v2 row sz 0 (HAT.out.keep (others_of_below hg2.belowNil)) HSC2.out (by have := hg2.own.mono (base' := w.heap.size + 6) (by have := HAT.out.lt; omega); simpa using this) (HSC.out.mat.fresh hg2) (by have := HK.out; omega) (by omega); have HR2 := Lib.hid (HRR.out.below (hg2.belowNil.mono (Nat.le_trans hB hws))); obtain ⟨A2, c2, rfl, h21, h22, h23⟩ := own_map hg2.own; clear hg2 h21 h22 h23; obtain ⟨fn, tmps, assign, body, hy, hR⟩ := HY; rw [show ((0 : Nat) : Int) = 0 from rfl] at hy; have HR := Lib.hid hR; clear hR)
        refine HR.out.mono ?_
        rintro e W3 (⟨_, rfl, hat3, v3, hsc3⟩ | ⟨h0, _⟩)
        case inr => exact absurd rfl h0
        have hb3 := hsc3.c7.cell
        have hf3 := hsc3.c7.frozen
        have hrd3 := Lib.hid (HRR.out.keep (w' := W3) fun p hp => (hsc3.bel.cell (by omega)).trans (HSC.out.bel.cell (by omega)).symm)
        have HSC3 := Lib.hid hsc3
        have HAT3 := Lib.hid hat3
        clear hsc3 hat3
        have hi0 : (0 : Int) ≤ (sz : Int) := by omega
        have hi1 : (sz : Int) ≤ (k : Int) := by omega
        gi_wp2
        go_roundw
        case rel =>
          have e1 : n - (m + sz) = k - sz := by have := HK.out; omega
          have hst := HST.out.step (by have := HK.out; omega) HER.out
          rw [HROW.out, HSZ.out] at hst
          refine ⟨v3, _, _, m + sz, _, c - sz, HAT3.out.keep (KeepsOthers.setCell _ _ _), by rw [e1]; exact HSC3.out.setSrc _, ?_, by have := HK.out; omega, by have := HK.out; omega, by omega, by simp; have := HTK.out.1; omega, hst⟩
          rw [e1, ← List.drop_drop, List.map_drop]
          exact (hrd3.out.cut hle hmc).below ((Below.refl B W3).setCell (p := ⟨_, 0, none⟩) (by dsimp only; omega) _)
        case measure =>
          rw [hlf.out]
          rw [(HSC3.out.setSrc _).left]
          have := HTK.out.1; omega
      · have her := Lib.hid he0
        have hen : ((er : Int) != 0) = true := by simp; exact he0
        gi_wp2_with (refine ⟨trivial, ?_⟩; gi_at_call 59; refine (callsIn_wide.2 HT.out).mono ?_; rintro e w2 ⟨v2, rfl, hg2⟩; have hs2 := hg2.grown.size; have HSC2 := Lib.hid (HSC.out.below hg2.belowNil); have HY := HRD.out w2 v rs ds m _ v2 row sz er (HAT.out.keep (others_of_below hg2.belowNil)) HSC2.out (by have := hg2.own.mono (base' := w.heap.size + 6) (by have := HAT.out.lt; omega); simpa using this) (HSC.out.mat.fresh hg2) (by have := HK.out; omega) (by omega); obtain ⟨A2, c2, rfl, h21, h22, h23⟩ := own_map hg2.own; clear hg2 h21 h22 h23; obtain ⟨fn, tmps, assign, body, hy, hR⟩ := HY; have HR := Lib.hid hR; clear hR)
        refine HR.out.mono ?_
        rintro e W3 (⟨h0, _⟩ | ⟨_, rfl, hat3, hfin⟩)
        · exact absurd h0 he0
        have HFIN := Lib.hid hfin
        have HAT3 := Lib.hid hat3
        clear hfin hat3
        gi_wp2
        refine bodyPost_ret (results_none rfl _ _ _) rfl ?_
        have he := HST.out.err (by have := HK.out; omega) (by rw [HER.out]; exact he0)
        rw [HER.out] at he
        exact ⟨⟨_, rfl⟩, .inr ⟨v, rs, HAT3.out, by rw [he]; exact HFIN.out⟩⟩
    · have hm' : m = n := by omega
      subst hm'
      gi_wp2
      go_end0
      have he := HST.out.ends (by omega)
      exact ⟨⟨_, rfl⟩, .inl ⟨v, rs, _, HAT.out, by rw [he]; exact HSC.out, by rw [he]⟩⟩
end Go.Proofs.Ytemokpnepnmmkaa
/- frame's Scan: what it tells of any bytes. -/
namespace Go.Proofs.Ytemokpnepnmmkaa
open Go.RowKit Go.Shelf
attribute [local go_sem] Oper.semAt_some
theorem info_sl : (Try.prog.info? 28).map (fun i => (i.zero, i.size, i.bytes)) = some (some (.slice none 0 0), 1, 24) := by kernel_rfl
set_option maxRecDepth 100000 in
theorem sc_start (w : World) (A : Option Addr) (n cap : Nat) :
    Sc w ((((((w.alloc (.cells #[.slice none 0 0] 38)).alloc (.cells #[.int .i64 0] 3)).alloc (.cells #[.int .i64 0] 42)).alloc (.cells #[.slice none 0 0] 38)).alloc (.cells #[.int .i64 0] 3)).alloc (.cells #[.slice A n cap] 28)) (.slice none 0 0) [] [] 0 (.slice A n cap) := by
  have s : ∀ (W : World) (o : Obj) (k : Nat), W.heap.size = k → (W.alloc o).heap.size = k + 1 := fun W o k h => by rw [World.size_alloc, h]
  have b : ∀ (W : World) (t : TypeId) (u : Value) (k : Nat), W.heap.size = k → Boxed (W.alloc (.cells #[u] t)) k t u := fun W t u k h => by subst h; exact Boxed.new W t u
  have s1 := s w (.cells #[.slice none 0 0] 38) _ rfl
  have s2 := s _ (.cells #[.int .i64 0] 3) _ s1
  have s3 := s _ (.cells #[.int .i64 0] 42) _ s2
  have s4 := s _ (.cells #[.slice none 0 0] 38) _ s3
  have s5 := s _ (.cells #[.int .i64 0] 3) _ s4
  refine ⟨?_, ((((((b w _ _ _ rfl).alloc _).alloc _).alloc _).alloc _).alloc _), (((((b _ _ _ _ s1).alloc _).alloc _).alloc _).alloc _), ((((b _ _ _ _ s2).alloc _).alloc _).alloc _), (((b _ _ _ _ s3).alloc _).alloc _), ((b _ _ _ _ s4).alloc _), b _ _ _ _ s5, Mat.nil _ _⟩
  exact ((((((Below.refl _ w).alloc (Nat.le_refl _) _).alloc (by rw [s1]; omega) _).alloc (by rw [s2]; omega) _).alloc (by rw [s3]; omega) _).alloc (by rw [s4]; omega) _).alloc (by rw [s5]; omega) _
theorem Fin.drew {w W : World} {v : Value} {rs : List Value} {ds : List (List UInt8)} {m er : Nat} (h : Fin w W v rs ds m er) : Fin w W.drew v rs ds m er := ⟨h.bel.drew, h.c2, h.c3, h.c4, h.mat.same fun _ _ _ _ hg => hg⟩
/-- The block for the rounds' deferred calls is shut. -/
theorem Fin.shut {w W : World} {v : Value} {rs : List Value} {ds : List (List UInt8)} {m er D : Nat} {x : Option (List Deferred)} (h : Fin w W v rs ds m er) (hK : W.heap[D]? = some (.deferred x)) (hD : w.heap.size ≤ D) : Fin w (W.putObj D (.deferred none)) v rs ds m er := by
  have hg := grownBy_putObj' W D (.deferred none)
  have kp : ∀ {B : Nat} {t : TypeId} {u : Value}, Boxed W B t u → Boxed (W.putObj D (.deferred none)) B t u := fun hb => hb.kept hg fun e => by
    injection e with e; subst e; rw [show W.heap[_]? = _ from hb] at hK; cases hK
  refine ⟨h.bel.grown hg h.bel.size fun k e => by injection e with e; omega, kp h.c2, kp h.c3, kp h.c4, h.mat.same fun g cur e _ hgc => (World.putObj_heap_other fun e' => ?_).trans hgc⟩
  subst e'; rw [hgc] at hK; cases hK
theorem Mat.mono {W : World} {base base' : Nat} {v : Value} {rs : List Value} {ls : List (List UInt8)} (h : Mat W base v rs ls) (hb : base' ≤ base) : Mat W base' v rs ls := ⟨h.own.mono hb, h.len, fun j hj r hr => (h.row j hj r hr).mono hb, h.apart⟩
/-- What the walk wants behind 'rows = append(rows, t.row)'. -/
theorem push_facts {w W2 w3 : World} {v v' rv src : Value} {rs : List Value} {ds : List (List UInt8)} {m tb : Nat} {row : List UInt8} {sz : Int} {ty : TypeId} (h : Sc w W2 v rs ds m src) (hr : W2.ownsRow (w.heap.size + 6) 5 1 rv row.length (row.map bv))
    (hap : ∀ (i : Nat) ri, rs[i]? = some ri → Apart ri rv) (hn : W2.heap[tb]? = some (.cells #[rv, .int .i64 sz] ty (0, 0))) (hlo : ∀ k, v.ownBlock = some k → k < tb)
    (hg : Grew (W2.alloc (.cells #[rv] 28)) w3 (w.heap.size + 6) 28 v v' (rs ++ [rv])) :
    ∃ g' cap', v' = .slice (some ⟨g', 0, none⟩) (rs.length + 1) cap' ∧ w3.cell? ⟨w.heap.size + 1 + 1 + 1, 0, none⟩ = some v ∧ w3.frozen? ⟨w.heap.size + 1 + 1 + 1, 0, none⟩ = false ∧ w3.cell? ⟨w.heap.size + 1 + 1 + 1 + 1, 0, none⟩ = some (.int .i64 (m : Int)) ∧ w3.frozen? ⟨w.heap.size + 1 + 1 + 1 + 1, 0, none⟩ = false ∧
      w3.cell? ⟨tb, 1, none⟩ = some (.int .i64 sz) ∧ Sc w (w3.setCell ⟨w.heap.size + 1 + 1 + 1, 0, none⟩ v') v' (rs ++ [rv]) (ds ++ [row]) m src ∧ KeepsOthers W2 w3 := by
  have htb := (Array.getElem?_eq_some_iff.1 hn).1
  obtain ⟨g', cap', rfl⟩ := ownsRow_succ (k := rs.length) (by have := hg.own; rw [List.length_append, List.length_singleton] at this; exact this)
  have hp := (h.below ((Below.refl _ W2).alloc (Nat.le_refl _) (.cells #[rv] 28))).push (hr.alloc _) hap hg
  have hn3 : w3.heap[tb]? = some (.cells #[rv, .int .i64 sz] ty (0, 0)) := (hg.grown.block _ (by rw [World.size_alloc]; omega) (fun e => by have := hlo _ e.symm; omega)).trans ((Below.heap_alloc W2 _ _ htb).trans hn)
  exact ⟨g', cap', rfl, hp.1.cell, hp.1.frozen, hp.2.1.cell, hp.2.1.frozen, by simp [World.cell?, hn3], hp.2.2.1, (KeepsOthers.alloc W2 _).trans hp.2.2.2⟩
set_option maxRecDepth 100000 in
set_option maxHeartbeats 2000000 in
theorem scan_w (res : List (List UInt8) × Nat × Nat) (A : Option Addr) (n cap B : Nat) (bs : List UInt8) (w : World) (hr : Rd w B A n (bs.map bv)) (hB : B ≤ w.heap.size) (hn : n ≤ 1000000000000) (hc : n ≤ cap) (hcm : cap ≤ maxLen) (hres : scanF n bs = res) :
    Calls Try.prog 32 #[.slice A n cap] w fun e w' => ∃ v rs, e = .returned (.tuple #[v, .int .i64 (res.2.1 : Int), .int .i64 (res.2.2 : Int)]) ∧ Below w.heap.size w w' ∧ Mat w' w.heap.size v rs res.1 := by
  obtain ⟨i0, hi, hz0, hz1, hz2⟩ := info_parts info_sl
  refine (callsIn_wide (n := 5)).1 ?_
  refine callsIn_of_wp_marks Try.func32 rfl trivial ?_ rfl
  simp only [Try.ntmps32, List.size_toArray, List.length_cons, List.length_nil, Nat.reduceAdd, Nat.reduceSub, Array.replicate_succ, Array.replicate_zero, List.push_toArray, List.append_toArray, List.nil_append, List.cons_append]
  have HR := Lib.hid hr
  clear hr
  gi_wp2_with (refine ⟨trivial, ?_⟩; gi_at_call 47; refine (callsIn_wide.2 (frames_v A n cap _)).mono ?_; rintro e w' ⟨rfl, rfl⟩)
  have HS := sc_start w A n cap
  obtain ⟨W0, hW0⟩ : ∃ W0, ((((((w.alloc (.cells #[.slice none 0 0] 38)).alloc (.cells #[.int .i64 0] 3)).alloc (.cells #[.int .i64 0] 42)).alloc (.cells #[.slice none 0 0] 38)).alloc (.cells #[.int .i64 0] 3)).alloc (.cells #[.slice A n cap] 28)) = W0 := ⟨_, rfl⟩
  have hz : W0.heap.size = w.heap.size + 6 := by rw [← hW0]; simp
  rw [hW0] at HS ⊢
  clear hW0
  have HSC := Lib.hid HS
  clear HS
  refine wpIn_rangeFunc_at rfl (by omega) (gf := 58) (lb := #[.pointer (some ⟨w.heap.size + 1 + 1 + 1 + 1 + 1, 0, none⟩)]) rfl trivial (enters_of Try.func58 (by kernel_rfl) rfl) ?_
  intro fn hfn r hrr W1 hat hb1 hs1
  have hD : r.D = w.heap.size + 6 := by rw [hrr, ← hz]
  have hps : r.ps = #[11, 12] := by rw [hrr]
  have HRR := Lib.hid hrr
  have hlen := HR.out.len
  refine CallsIn.mono (iter_v w r (by omega) B n cap bs hB hlen hn hcm ?hround W1 A hat (HSC.out.below hb1) (HR.out.below ((HSC.out.bel.mono hB).trans (hb1.mono (Nat.le_trans hB (by omega))))) hc) ?done
  case hround =>
    intro W v rs ds m src rv row sz er hatW hscW hrow hap hmsz hrsn
    refine Rng.yield hatW hfn (by rw [hps]; rfl) ?_
    have e1 := congrArg Rng.assign hrr
    have e2 := congrArg Rng.body hrr
    have e3 := congrArg Rng.tmps hrr
    dsimp only at e1 e2 e3
    rw [e1, e2, e3, hps]
    obtain ⟨Av, cv, rfl, hv1, hv2, hv3⟩ := own_map (f := bv) (xs := row) (by rw [List.length_map]; exact hrow)
    clear hv1 hv2 hv3
    have HATW := Lib.hid hatW
    have HSCW := Lib.hid hscW
    have HROW := Lib.hid hrow
    have HAP := Lib.hid hap
    clear e1 e2 e3 hps hrr hatW hscW hrow hap hat hb1
    simp only [List.zip_toArray, List.zip_cons_cons, List.zip_nil_right, List.foldl_toArray', List.foldl_cons, List.foldl_nil, List.size_toArray, List.setIfInBounds_toArray, List.set_cons_succ, List.set_cons_zero]
    gi_wp2
    have HAT2 := HATW.out.keep (KeepsOthers.alloc W (.cells #[.slice Av row.length cv, .int .i64 (sz : Int)] 89))
    have HSA := Lib.hid (HSCW.out.below ((Below.refl _ W).alloc (Nat.le_refl _) (.cells #[.slice Av row.length cv, .int .i64 (sz : Int)] 89)))
    have HRA := Lib.hid (HROW.out.alloc (.cells #[.slice Av row.length cv, .int .i64 (sz : Int)] 89))
    have hnew := World.alloc_heap_new W (.cells #[.slice Av row.length cv, .int .i64 (sz : Int)] 89)
    refine ⟨HAT2, ?_⟩
    generalize W.alloc (.cells #[.slice Av row.length cv, .int .i64 (sz : Int)] 89) = Wa at HAT2 HSA HRA hnew
    intro W2 ht2 hat2
    have hDl := hat2.lt
    have HS2 := Lib.hid (HSA.out.turn ht2 (by omega))
    have HR2 := Lib.hid (ht2.own HRA.out)
    have hWl := HATW.out.lt
    have hnew2 : W2.heap[W.heap.size]? = some (.cells #[.slice Av row.length cv, .int .i64 (sz : Int)] 89 (0, 0)) := (ht2.grown.block _ (Array.getElem?_eq_some_iff.1 hnew).1 (fun e => by injection e with e; omega)).trans hnew
    have ht0 : W2.cell? ⟨W.heap.size, 0, none⟩ = some (.slice Av row.length cv) := by simp [World.cell?, hnew2]
    have ht1 : W2.cell? ⟨W.heap.size, 1, none⟩ = some (.int .i64 (sz : Int)) := by simp [World.cell?, hnew2]
    have hb5 := HS2.out.c5.cell
    have hb6 := HS2.out.c6.cell
    have HNEW := Lib.hid hnew2
    have HAT3 := Lib.hid hat2
    have hlo : ∀ k, v.ownBlock = some k → k < W.heap.size := fun k hk => (HSCW.out.mat.own.lt k hk).2
    have HLO := Lib.hid hlo
    obtain ⟨A5, c5, rfl, hv1, hv2, hv3⟩ := own_slice HS2.out.mat.own
    clear hv1 hv2 hv3 hlo hat2 hnew hnew2 HAT2 ht2
    by_cases he0 : er = 0
    · subst he0
      gi_wp2_with (gi_at_builtin; refine wpListIn_appN _ rfl (.tmp 18) (.tmp 21) _ rfl (w.heap.size + 6) 28 i0 (.slice none 0 0) 24 Try.underlying38 hi hz0 hz1 hz2 rfl (.slice A5 rs.length c5) rs rfl (HS2.out.mat.own.alloc _) (W2.heap.size + 1) (some ⟨W2.heap.size, 0, none⟩) 1 1 [.slice Av row.length cv] rfl (Rd.lit W2 28 [.slice Av row.length cv]) (by simp [Value.oneCell']) (by omega) (by omega) (by simp; omega) ?_; intro v' w3 hg3; obtain ⟨g', cap', rfl, hb53, hf53, hb63, hf63, ht13, hp1, hp2⟩ := push_facts (row := row) HS2.out HR2.out HAP.out HNEW.out HLO.out hg3; have HP1 := Lib.hid hp1; have HP2 := Lib.hid hp2; clear hp1 hp2 hg3)
      have hS := HP1.out.setN (m + sz)
      rw [show ((m + sz : Nat) : Int) = (m : Int) + (sz : Int) from by omega] at hS
      exact ⟨HAT3.out.keep ((HP2.out.trans (KeepsOthers.setCell _ _ _)).trans (KeepsOthers.setCell _ _ _)), fun W' ht hat' => ⟨rfl, hat', _, hS.turn ht (by omega)⟩⟩
    · have hen : ((er : Int) != 0) = true := by simp; exact he0
      have hb2 := HS2.out.c2.cell
      have hf2 := HS2.out.c2.frozen
      have hb3 := HS2.out.c3.cell
      have hf3 := HS2.out.c3.frozen
      have hb4 := HS2.out.c4.cell
      have hf4 := HS2.out.c4.frozen
      have hmx : Try.prog.follows .mixedOrders = true := by kernel_rfl
      have HF := Lib.hid (HS2.out.fin er)
      gi_wp2
      gi_region_o
      all_goals gi_wp2
      all_goals exact ⟨(HAT3.out.keep (((KeepsOthers.setCell _ _ _).trans (KeepsOthers.setCell _ _ _)).trans (KeepsOthers.setCell _ _ _))).keep (KeepsOthers.drew _), fun W' ht hat' => .inr ⟨he0, rfl, hat', HF.out.drew.turn ht (by omega)⟩⟩
  case done =>
    rintro e W2 ⟨⟨v0, rfl⟩, (⟨v, rs, src, hat2, hsc, h0⟩ | ⟨v, rs, hat2, hfin⟩)⟩
    · refine ⟨⟨_, rfl⟩, .ready, none, hat2, by simp, fun W3 ht hK => ?_⟩
      have HS2 := Lib.hid (hsc.turn ht (by omega))
      rw [hres] at HS2 h0
      obtain ⟨sn, hsn⟩ : ∃ sn, res.2.1 = sn := ⟨_, rfl⟩
      rw [hsn] at HS2
      have H0 := Lib.hid h0
      have HSN := Lib.hid hsn
      obtain ⟨A5, c5, rfl, hv1, hv2, hv3⟩ := own_slice HS2.out.mat.own
      have HK0 := Lib.hid hK
      clear hv1 hv2 hv3 hsc ht hat hat2 hb1 h0 hsn hrr hps hres hK
      have hb5 := HS2.out.c5.cell
      have hb6 := HS2.out.c6.cell
      have hb2 := HS2.out.c2.cell
      have hf2 := HS2.out.c2.frozen
      have hb3 := HS2.out.c3.cell
      have hf3 := HS2.out.c3.frozen
      have hb4 := HS2.out.c4.cell
      have hf4 := HS2.out.c4.frozen
      have hmx : Try.prog.follows .mixedOrders = true := by kernel_rfl
      have HF := Lib.hid ((HS2.out.fin 0).drew)
      rw [show ((0 : Nat) : Int) = 0 from rfl] at HF
      dsimp only
      gi_wp2
      gi_region_o
      all_goals gi_wp2
      all_goals
        have hK := HK0.out
        rw [hD] at hK
        have hK' := (((((KeepsOthers.setCell W3 ⟨w.heap.size, 0, none⟩ (.slice A5 rs.length c5)).trans (KeepsOthers.setCell _ ⟨w.heap.size + 1, 0, none⟩ (.int .i64 (sn : Int)))).trans (KeepsOthers.setCell _ ⟨w.heap.size + 1 + 1, 0, none⟩ (.int .i64 0))).trans (KeepsOthers.drew _)).same _ _ hK rfl)
        refine ⟨by simp, .inl ⟨_, _, rfl, run_takeDeferred hK', ?_⟩⟩
        have hF := HF.out.shut hK' (by omega)
        refine ⟨_, ?_, _, rs, by rw [HSN.out, H0.out], hF.bel, hF.mat.mono (by omega)⟩
        simp [results, Try.f32, go_sem, hF.c2.cell, hF.c3.cell, hF.c4.cell]
    · refine ⟨⟨_, rfl⟩, .done, some .ret, hat2, by simp, fun W3 ht hK => ?_⟩
      have HF := Lib.hid (hfin.turn ht (by omega))
      rw [hres] at HF
      clear hfin ht hat hat2 hb1 hrr hps hres
      gi_wp2
      rw [hD] at hK
      refine ⟨by simp, .inl ⟨_, _, rfl, run_takeDeferred hK, ?_⟩⟩
      have hF := HF.out.shut hK (by omega)
      refine ⟨_, ?_, v, rs, rfl, hF.bel, hF.mat.mono (by omega)⟩
      simp [results, Try.f32, go_sem, hF.c2.cell, hF.c3.cell, hF.c4.cell]
/-- What Scan tells of any bytes: the rows, that are the call's own, each one in a block of its own. -/
theorem scan_v (A : Option Addr) (n cap B : Nat) (bs : List UInt8) (w : World) (hr : Rd w B A n (bs.map bv)) (hB : B ≤ w.heap.size) (hn : n ≤ 1000000000000) (hc : n ≤ cap) (hcm : cap ≤ maxLen) :
    Calls Try.prog 32 #[.slice A n cap] w fun e w' => ∃ v rs, e = .returned (.tuple #[v, .int .i64 ((scanF n bs).2.1 : Int), .int .i64 ((scanF n bs).2.2 : Int)]) ∧ Below w.heap.size w w' ∧ Mat w' w.heap.size v rs (scanF n bs).1 := scan_w _ A n cap B bs w hr hB hn hc hcm rfl
end Go.Proofs.Ytemokpnepnmmkaa
