/- What is written is read, cut anywhere. No premises. -/
import Derived.Test.YtemokpnepnmmkaaMu
import Derived.Test.YtemokpnepnmmkaaMv
import Derived.Test.YtemokpnepnmmkaaMw
namespace Go.Proofs.Ytemokpnepnmmkaa
open Go.RowKit
/-- What is asked of an answer that may be, to be read as it was. -/
def goodA (x : Ans) : Prop := okB x = true ∧ fitA x ∧ ∀ r ∈ x.l, r.length ≤ 100000000
theorem tellX_L {x : Ans} (hb : okB x = true) : tellX x = tellL x.k.toNat x.e.toNat x.n x.m x.t x.l x.s.toNat := by
  unfold tellX tellB
  rw [if_pos (show fitsB x.k x.k x.e x.s x.l.length = true from hb)]
theorem ans_back {x : Ans} (hb : okB x = true) : (⟨(x.k.toNat : Int), (x.e.toNat : Int), x.n, x.m, x.t, x.l, (x.s.toNat : Int)⟩ : Ans) = x := by
  have hk := of_decide_eq_true hb
  obtain ⟨k, e, n, m, t, l, s⟩ := x
  dsimp only at hk ⊢
  rw [show ((k.toNat : Nat) : Int) = k by omega, show ((e.toNat : Nat) : Int) = e by omega, show ((s.toNat : Nat) : Int) = s by omega]
theorem told_tell {x : Ans} (h : goodA x) : (toldM (tellX x)).2 = 0 ∧ ansT (toldM (tellX x)).1 = x := by
  obtain ⟨hb, ⟨⟨⟨n1, n2⟩, m1, m2⟩, h2, h3, h4⟩, h5⟩ := h
  have hk := of_decide_eq_true hb
  have k1 : x.k.toNat < 18446744073709551616 := by omega
  have k2 : x.e.toNat < 18446744073709551616 := by omega
  have k3 : x.s.toNat < 18446744073709551616 := by omega
  have k4 : x.t.length < 18446744073709551616 := by omega
  have k5 : x.l.length ≤ 4096 := by omega
  have k6 : (1 ≤ x.k.toNat ∧ x.k.toNat ≤ 11) ∧ x.e.toNat ≤ 255 ∧ x.s.toNat ≤ 64 := by omega
  have k7 : ∀ r ∈ x.l, r.length < 18446744073709551616 := fun r hr => Nat.lt_of_le_of_lt (h5 r hr) (by omega)
  have ha := told_all (k := x.k.toNat) (e := x.e.toNat) (n := x.n) (m := x.m) (t := x.t) (l := x.l) (s := x.s.toNat) k1 k2 (zigN_lt n1 n2) (zigN_lt m1 m2) k4 k5 k7 k3 []
  rw [List.append_nil, ← tellX_L hb, if_neg (fun h => h k6), if_neg (fun h => h rfl)] at ha
  have e1 : (toldM (tellX x)).2 = 0 := by rw [ha]
  have e2 : (toldM (tellX x)).1 = (x.k.toNat, x.e.toNat, x.n, x.m, x.t, x.l, x.s.toNat) := by rw [ha]
  refine ⟨e1, ?_⟩
  rw [e2]
  exact ans_back hb
theorem tolds_tell : ∀ (ys : List Ans), (∀ y ∈ ys, goodA y) → toldsM (ys.map tellX) = (ys, 0)
  | [], _ => rfl
  | y :: ys, h => by
    obtain ⟨h1, h2⟩ := told_tell (h y (List.mem_cons_self ..))
    have ih := tolds_tell ys fun z hz => h z (List.mem_cons_of_mem _ hz)
    rw [List.map_cons, toldsM, if_pos h1, ih, h2]
theorem headB_mark {s : List UInt8} (h : s.length ≤ 4096) : headB (markL ++ s) = true := by
  refine decide_eq_true ⟨?_, ?_⟩
  · exact List.take_left (l₁ := markL) (l₂ := s)
  · rw [List.length_append]; show 14 + _ ≤ _; omega
theorem drop_mark (s : List UInt8) : (markL ++ s).drop 14 = s := List.drop_left (l₁ := markL) (l₂ := s)
/-- A tape's rows. -/
def rowsT (s : List UInt8) (ys : List Ans) : List (List UInt8) := (markL ++ s) :: ys.map tellX
def tapeL (s : List UInt8) (ys : List Ans) : List UInt8 := (rowsT s ys).flatMap frameL
theorem rowsT_small {s : List UInt8} {ys : List Ans} (h : s.length ≤ 4096) (hy : ∀ y ∈ ys, goodA y) : ∀ r ∈ rowsT s ys, r.length ≤ 65536 := by
  intro r hr
  rcases List.mem_cons.1 hr with rfl | hr
  · rw [List.length_append]; show 14 + _ ≤ _; omega
  · obtain ⟨y, hy1, rfl⟩ := List.mem_map.1 hr
    exact (hy y hy1).2.1.2.2.2
theorem good_take (xs : List Ans) (h : ∀ x ∈ xs, fitA x ∧ ∀ r ∈ x.l, r.length ≤ 100000000) : ∀ y ∈ xs.takeWhile okB, goodA y := by
  induction xs with
  | nil => simp
  | cons x xs ih =>
    intro y hy
    rw [List.takeWhile_cons] at hy
    split at hy
    · rename_i hx
      rcases List.mem_cons.1 hy with rfl | hy
      · exact ⟨hx, h _ (List.mem_cons_self ..)⟩
      · exact ih (fun z hz => h z (List.mem_cons_of_mem _ hz)) y hy
    · simp at hy
theorem tapeL_body (s : List UInt8) (xs : List Ans) : frameL (markL ++ s) ++ bodyL xs = tapeL s (xs.takeWhile okB) := by
  unfold tapeL rowsT bodyL
  rw [flatF_cons, List.flatMap_map]
/-- A tape that is cut. -/
theorem tape_cut (s : List UInt8) (ys : List Ans) (k : Nat) (hs : s.length ≤ 4096) (hy : ∀ y ∈ ys, goodA y) (hk : k ≤ (tapeL s ys).length) :
    tapeM ((tapeL s ys).take k) = if k < (frameL (markL ++ s)).length then ([], [], 0, 10)
      else (s, ys.take (wholeF (rowsT s ys) k - 1), endF (rowsT s ys) (wholeF (rowsT s ys) k), if k = endF (rowsT s ys) (wholeF (rowsT s ys) k) then 0 else 10) := by
  have hl : ((tapeL s ys).take k).length = k := by rw [List.length_take]; omega
  have hsc := scan_res (rowsT s ys) k (rowsT_small hs hy) hk
  unfold tapeM
  rw [hl]
  change scanF k ((tapeL s ys).take k) = _ at hsc
  rw [hsc]
  dsimp only
  by_cases hh : k < (frameL (markL ++ s)).length
  · have hw : wholeF (rowsT s ys) k = 0 := by unfold rowsT; rw [wholeF, if_pos hh]
    rw [if_pos hh, hw]
    simp only [List.take_zero]
    split
    · rfl
    · rfl
  · have hw : wholeF (rowsT s ys) k = wholeF (ys.map tellX) (k - (frameL (markL ++ s)).length) + 1 := by
      unfold rowsT; rw [wholeF, if_neg hh]
    rw [if_neg hh]
    have he : (rowsT s ys).take (wholeF (rowsT s ys) k) = (markL ++ s) :: (ys.take (wholeF (rowsT s ys) k - 1)).map tellX := by
      rw [hw]
      unfold rowsT
      rw [List.take_succ_cons, Nat.add_sub_cancel, List.map_take]
    rw [he]
    dsimp only
    rw [headB_mark hs, if_pos rfl, tolds_tell _ (fun y hy1 => hy y (List.mem_of_mem_take hy1)), drop_mark]
    dsimp only
    rw [if_pos rfl]
theorem rows_at (s : List UInt8) (ys : List Ans) (k j : Nat) (h : j < ys.length) (hj : j + 1 ≤ wholeF (rowsT s ys) k) :
    (k < endF (rowsT s ys) (j + 1) + (frameL (tellX ys[j])).length → wholeF (rowsT s ys) k = j + 1) ∧ (endF (rowsT s ys) (j + 1) + (frameL (tellX ys[j])).length ≤ k → j + 2 ≤ wholeF (rowsT s ys) k) ∧
      endF (rowsT s ys) (j + 1 + 1) = endF (rowsT s ys) (j + 1) + (frameL (tellX ys[j])).length := by
  have hl : j + 1 < (rowsT s ys).length := by simp [rowsT]; omega
  have e : (rowsT s ys)[j + 1]'hl = tellX ys[j] := by simp [rowsT]
  have h1 := whole_at (rowsT s ys) k (j + 1) hl hj
  have h2 := endF_succ (rowsT s ys) (j + 1) hl
  rw [e] at h1 h2
  refine ⟨h1.1, h1.2, ?_⟩
  rw [h2, frameL_len]
theorem rows_zero (s : List UInt8) (ys : List Ans) : endF (rowsT s ys) 1 = (frameL (markL ++ s)).length := by
  unfold endF rowsT
  simp
theorem rows_pos (s : List UInt8) (ys : List Ans) (k : Nat) (h : ¬ k < (frameL (markL ++ s)).length) : 1 ≤ wholeF (rowsT s ys) k := by
  unfold rowsT
  rw [wholeF, if_neg h]; omega
theorem rows_le (s : List UInt8) (ys : List Ans) (k : Nat) : wholeF (rowsT s ys) k ≤ ys.length + 1 := by
  have := wholeF_le (rowsT s ys) k
  simpa [rowsT] using this
/-- A whole tape. -/
theorem tape_all (s : List UInt8) (ys : List Ans) (hs : s.length ≤ 4096) (hy : ∀ y ∈ ys, goodA y) : tapeM (tapeL s ys) = (s, ys, (tapeL s ys).length, 0) := by
  have h1 := scan_all (rowsT s ys) (tapeL s ys).length (rowsT_small hs hy) (Nat.le_refl _)
  unfold tapeM
  change scanF (tapeL s ys).length (tapeL s ys) = _ at h1
  rw [h1]
  dsimp only
  unfold rowsT
  dsimp only
  rw [headB_mark hs, if_pos rfl, tolds_tell _ hy, drop_mark]
  dsimp only
  rw [if_pos rfl]
  rfl
/-- Bytes of one row that is no head. -/
theorem tape_nohead (r : List UInt8) (hr : r.length ≤ 65536) (hh : headB r = false) : tapeM (frameL r) = ([], [], 0, 11) := by
  have h1 := scan_all [r] (frameL r).length (by simpa using hr) (by simp)
  rw [show ([r] : List (List UInt8)).flatMap frameL = frameL r by simp] at h1
  unfold tapeM
  rw [h1]
  dsimp only
  rw [hh]
  rfl
end Go.Proofs.Ytemokpnepnmmkaa
/- tape's calls as the laws use them; chapter 5's example. -/
namespace Go.Proofs.Ytemokpnepnmmkaa
open Go.RowKit
theorem readT_k {bs S : List UInt8} {R : List Ans} {m e : Nat} (hres : tapeM bs = (S, R, m, e)) (A : Option Addr) (n c : Nat) (w : World) (hr : Rd w w.heap.size A n (bs.map bv)) (hn : n ≤ 100000000) (hc : n ≤ c) (hcm : c ≤ maxLen) :
    Calls Try.prog 18 #[.slice A n c] w fun r w' => ∃ A' c', r = .returned (.tuple #[.agg #[.string (mkS S), .slice A' R.length c'], .int .i64 (m : Int), .int .i64 (e : Int)]) ∧ Later w w' ∧ RdA w' w'.heap.size A' R.length R ∧ R.length ≤ c' := by
  refine (readT_w A n c bs hr.len w hr hn hc hcm S R m e hres).mono ?_
  rintro r w' ⟨v, zs, rfl, hl, ho, hm⟩
  obtain ⟨A', c', rfl, h1, h2⟩ := ho.rdA
  rw [hm] at h2
  have hlz : zs.length = R.length := by rw [← hm, List.length_map]
  rw [hlz] at h1 h2 ⊢
  exact ⟨A', c', rfl, hl, h2, h1⟩
theorem refReadT_k {bs S : List UInt8} {R : List Ans} {m e : Nat} (hres : tapeM bs = (S, R, m, e)) (w : World) (hn : bs.length ≤ 100000000) :
    Calls Try.prog 19 #[.string (mkS bs)] w fun r w' => ∃ A' c', r = .returned (.tuple #[.agg #[.string (mkS S), .slice A' R.length c'], .int .i64 (m : Int), .int .i64 (e : Int)]) ∧ Later w w' ∧ RdA w' w'.heap.size A' R.length R ∧ R.length ≤ c' := by
  refine (refReadT_w bs bs.length rfl w hn S R m e hres).mono ?_
  rintro r w' ⟨v, zs, rfl, hl, ho, hm⟩
  obtain ⟨A', c', rfl, h1, h2⟩ := ho.rdA
  rw [hm] at h2
  have hlz : zs.length = R.length := by rw [← hm, List.length_map]
  rw [hlz] at h1 h2 ⊢
  exact ⟨A', c', rfl, hl, h2, h1⟩
theorem wbytes_k {B g : Nat} {v : Value} {L : List UInt8} (W : World) (hw : Wtr W B g v L) (hp : 0 < L.length) (hL : L.length ≤ 100000000000) :
    Calls Try.prog 12 #[.pointer (some ⟨g, 0, none⟩)] W fun e W' => ∃ A c, e = .returned (.slice A L.length c) ∧ Made W W' (.slice A L.length c) L ∧ Later W W' ∧ Rd W' W'.heap.size A L.length (L.map bv) ∧ L.length ≤ c ∧ c ≤ maxLen := by
  refine (wbytes_v B g v L W hw hp hL).mono ?_
  rintro e W' ⟨v', rfl, hm⟩
  obtain ⟨A, c, rfl, h1, h2⟩ := hm.slice
  exact ⟨A, c, rfl, hm, hm.bel, h2, h1, hm.cap⟩
theorem wadd_nil (A : Option Addr) (n c : Nat) (W : World) :
    Calls Try.prog 11 #[.pointer none, .slice A n c] W fun e W' => e = .returned (.bool false) ∧ W = W' := by
  go_enter Try.func11, Try.ntmps11
  go_wp2
  go_ret
  exact ⟨rfl, rfl⟩
namespace tapeEx
def ls : List UInt8 := [108, 115]
def a1 : Ans := ⟨1, 0, 0, 0, [120], [], 0⟩
def a2 : Ans := ⟨7, 0, 3, 0, [], [], 0⟩
theorem ok1 : okB a1 = true := by decide
theorem ok2 : okB a2 = true := by decide
theorem fit1 : fitA a1 := by
  have h := short_tell a1 ⟨by decide, by decide, by simp [a1]⟩ ⟨by decide, by decide⟩
  exact ⟨⟨by decide, by decide⟩, Nat.le_trans h.1 (by omega), by decide, Nat.le_trans h.2 (by omega)⟩
theorem fit2 : fitA a2 := by
  have h := short_tell a2 ⟨by decide, by decide, by simp [a2]⟩ ⟨by decide, by decide⟩
  exact ⟨⟨by decide, by decide⟩, Nat.le_trans h.1 (by omega), by decide, Nat.le_trans h.2 (by omega)⟩
theorem fits12 : ∀ x ∈ [a1, a2], fitA x := by
  intro x hx
  simp at hx
  rcases hx with rfl | rfl
  · exact fit1
  · exact fit2
theorem good12 : ∀ x ∈ [a1, a2], goodA x := by
  intro x hx
  simp at hx
  rcases hx with rfl | rfl
  · exact ⟨ok1, fit1, by simp [a1]⟩
  · exact ⟨ok2, fit2, by simp [a2]⟩
theorem all12 : [a1, a2].all okB = true := by decide
theorem body12 : frameL (markL ++ ls) ++ bodyL [a1, a2] = tapeL ls [a1, a2] := by
  rw [tapeL_body]
  congr 1
theorem len0 : (frameL (markL ++ [])).length = 19 := by
  rw [frameL_len]
  have e : (markL ++ []).length = 14 := rfl
  rw [e, numL_lt (by omega)]
  rfl
theorem len12 : (tapeL ls [a1, a2]).length ≤ 10000 ∧ 0 < (tapeL ls [a1, a2]).length ∧ (frameL (markL ++ ls)).length + (bodyL [a1, a2]).length ≤ 10000 := by
  have e : (markL ++ ls).length = 16 := rfl
  have h1 := frameL_len (markL ++ ls)
  have h4 := frameL_pos (markL ++ ls)
  rw [e, numL_lt (by omega)] at h1
  have h2 := bodyL_small [a1, a2] (by
    intro x hx
    simp at hx
    rcases hx with rfl | rfl
    · exact (short_tell a1 ⟨by decide, by decide, by simp [a1]⟩ ⟨by decide, by decide⟩).2
    · exact (short_tell a2 ⟨by decide, by decide, by simp [a2]⟩ ⟨by decide, by decide⟩).2)
  rw [← body12, List.length_append]
  simp at h1 h2
  omega
abbrev cs12 : Array Value := #[.int .i64 1, .int .i64 0, .int .i64 0, .int .i64 0, .string ⟨#[120]⟩, .slice none 0 0, .int .i64 0, .int .i64 7, .int .i64 0, .int .i64 3, .int .i64 0, .string ⟨#[]⟩, .slice none 0 0, .int .i64 0]
theorem lit12 (w : World) {S : Nat → Prop} (hS : ∀ i, S i → i < w.heap.size) : RdAP (w.alloc (.cells cs12 34)) S (some ⟨w.heap.size, 0, none⟩) 2 [a1, a2] := by
  have hc : ∀ i, (w.alloc (.cells cs12 34)).cell? ⟨w.heap.size, i, none⟩ = cs12[i]? := fun i => cell_of_row _ _ i cs12 34 (0, 0) (heap_alloc_new w _)
  refine ⟨rfl, fun j hj => ?_⟩
  have hj2 : j = 0 ∨ j = 1 := by simp at hj; omega
  rcases hj2 with rfl | rfl
  · refine ⟨⟨w.heap.size, 0, none⟩, none, 0, rfl, ?_, fun h => by simp [a1] at h, ?_⟩
    · rw [add_lit0]; exact fun h => Nat.lt_irrefl _ (hS _ h)
    · rw [add_lit0]
      exact ⟨by simp, hc 0, hc 1, hc 2, hc 3, hc 4, hc 5, hc 6, Rd.nil_, Nat.zero_le _⟩
  · refine ⟨⟨w.heap.size, 0, none⟩, none, 0, rfl, ?_, fun h => by simp [a2] at h, ?_⟩
    · rw [add_lit0]; exact fun h => Nat.lt_irrefl _ (hS _ h)
    · rw [add_lit0]
      exact ⟨by simp, hc 7, hc 8, hc 9, hc 10, hc 11, hc 12, hc 13, Rd.nil_, Nat.zero_le _⟩
end tapeEx
set_option maxRecDepth 100000 in
set_option maxHeartbeats 1000000 in
theorem tapeAwake_v (w : World) : Calls Try.prog 8 #[] w fun e w' => e = .returned (.bool true) ∧ Later w w' := by
  obtain ⟨L, hL⟩ : ∃ L, L = tapeL tapeEx.ls [tapeEx.a1, tapeEx.a2] := ⟨_, rfl⟩
  obtain ⟨h1, h2, h3⟩ := tapeEx.len12
  have hb := tapeEx.body12
  rw [← hL] at h1 h2 hb
  have hta := tape_all tapeEx.ls [tapeEx.a1, tapeEx.a2] (by decide) tapeEx.good12
  rw [← hL] at hta
  have c1 : ∀ W, Calls Try.prog 10 #[.string ⟨#[108, 115]⟩] W fun e W' => ∃ g v, e = .returned (.pointer (some ⟨g, 0, none⟩)) ∧ Wtr W' W.heap.size g v (frameL (markL ++ tapeEx.ls)) ∧ Later W W' := fun W => wnew_v tapeEx.ls W (by decide)
  have c1' : ∀ W, Calls Try.prog 10 #[.string ⟨#[]⟩] W fun e W' => ∃ g v, e = .returned (.pointer (some ⟨g, 0, none⟩)) ∧ Wtr W' W.heap.size g v (frameL (markL ++ [])) ∧ Later W W' := fun W => wnew_v [] W (by simp)
  have ca := fun B g v W A hw hB hr => wadd_v B g v (frameL (markL ++ tapeEx.ls)) A 2 2 [tapeEx.a1, tapeEx.a2] W hw hB hr (by unfold maxLen; omega) tapeEx.fits12 (by omega)
  rw [tapeEx.all12, hb] at ca
  have cb := fun B g v W hw => wbytes_k (B := B) (g := g) (v := v) (L := L) W hw h2 (by omega)
  have cb0 := fun B g v W hw => wbytes_k (B := B) (g := g) (v := v) (L := frameL (markL ++ [])) W hw (by rw [tapeEx.len0]; omega) (by rw [tapeEx.len0]; omega)
  have cr : ∀ A c W, Rd W W.heap.size A L.length (L.map bv) → L.length ≤ c → c ≤ maxLen → Calls Try.prog 18 #[.slice A L.length c] W fun r w' => ∃ A' c', r = .returned (.tuple #[.agg #[.string ⟨#[108, 115]⟩, .slice A' 2 c'], .int .i64 (L.length : Int), .int .i64 0]) ∧ Later W w' ∧ RdA w' w'.heap.size A' 2 [tapeEx.a1, tapeEx.a2] ∧ 2 ≤ c' := fun A c W hr hc hcm => readT_k hta A L.length c W hr (by omega) hc hcm
  rw [tapeEx.len0] at cb0
  have PK := Lib.hid (And.intro c1 (And.intro c1' (And.intro ca (And.intro cb (And.intro cb0 cr)))))
  clear c1 c1' ca cb cb0 cr hta hb h3
  obtain ⟨m, hm⟩ : ∃ m, L.length = m := ⟨_, rfl⟩
  rw [hm] at PK
  clear hL
  go_enter Try.func8, Try.ntmps8
  go_wp2_with (first
    | (go_at_call 10; (with_reducible refine (PK.out.1 _).mono ?_); rintro e w1 ⟨g, v, rfl, hw1, hl1⟩; have W1 := Lib.hid hw1; have L1 := Lib.hid hl1; have HS := Lib.hid (hw1.later (Later.alloc w1 (.cells tapeEx.cs12 34))); have HA := Lib.hid (tapeEx.lit12 w1 hw1.lt); have HB := Lib.hid (Nat.le_trans hl1.size (Later.alloc w1 (.cells tapeEx.cs12 34)).size); clear hw1 hl1)
    | (go_at_call 11; (with_reducible refine (PK.out.2.2.1 _ _ _ _ _ HS.out HB.out HA.out).mono ?_); rintro e w2 ⟨v2, rfl, hw2, ho2, hm2⟩; have W2 := Lib.hid hw2; have L2 := Lib.hid (Below.trans (Later.trans L1.out (Later.alloc w1 _)) (ho2.below HB.out HS.out.high)); clear hw2 ho2 hm2)
    | (go_at_call 12; (with_reducible refine (PK.out.2.2.2.1 _ _ _ _ W2.out).mono ?_); rintro e w3 ⟨A3, c3, rfl, hm3, hl3, hr3, hc3, hx3⟩; have W3 := Lib.hid (W2.out.later hl3); have L3 := Lib.hid (Below.trans L2.out (Below.mono hl3 L2.out.size)); have R3 := Lib.hid (And.intro hr3 (And.intro hc3 hx3)); clear hm3 hl3 hr3 hc3 hx3)
    | (go_at_call 18; (with_reducible refine (PK.out.2.2.2.2.2 _ _ _ R3.out.1 R3.out.2.1 R3.out.2.2).mono ?_); rintro e w4 ⟨A4, c4, rfl, hl4, hr4, hc4⟩; obtain ⟨ad4, A5, c5, rfl, ha4⟩ := (hr4.later (Later.alloc w4 (.cells #[.string ⟨#[108, 115]⟩, .slice A4 2 c4] 41))).2 1 (by simp); rw [add_ne _ _ (by omega)] at ha4; have hz4 := ha4.c2; have W4 := Lib.hid (W3.out.later hl4); have L4 := Lib.hid (Below.trans L3.out (Below.mono hl4 L3.out.size)); have R4 := Lib.hid hr4; clear hl4 hr4 hc4 ha4)
    | (go_at_call 12; (with_reducible refine (PK.out.2.2.2.1 _ _ _ _ (W4.out.later (Later.alloc w4 _))).mono ?_); rintro e w5 ⟨A6, c6, rfl, hm5, hl5, hr5, hc5, hx5⟩; have L5 := Lib.hid (Below.trans (Below.trans L4.out (Below.mono (Later.alloc w4 _) L4.out.size)) (Below.mono hl5 (Nat.le_trans L4.out.size (Later.alloc w4 _).size))); clear hm5 hl5 hr5 hc5 hx5)
    | (go_at_call 10; (with_reducible refine (PK.out.2.1 _).mono ?_); rintro e w6 ⟨g6, v6, rfl, hw6, hl6⟩; have W6 := Lib.hid hw6; have L6 := Lib.hid (Below.trans L5.out (Below.mono hl6 L5.out.size)); clear hw6 hl6)
    | (go_at_call 12; (with_reducible refine (PK.out.2.2.2.2.1 _ _ _ _ W6.out).mono ?_); rintro e w7 ⟨A7, c7, rfl, hm7, hl7, hr7, hc7, hx7⟩; have L7 := Lib.hid (Below.trans L6.out (Below.mono hl7 L6.out.size)); clear hm7 hl7 hr7 hc7 hx7))
  go_ret
  exact ⟨rfl, L7.out⟩
end Go.Proofs.Ytemokpnepnmmkaa
