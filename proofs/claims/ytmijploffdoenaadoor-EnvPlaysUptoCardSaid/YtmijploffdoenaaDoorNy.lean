/- THE DOCUMENT'S Set. No premises. -/
import Derived.Test.YtmijploffdoenaaDoorNx
import Derived.Test.YtmijploffdoenaaDoorNn
namespace Go.Proofs.YtmijploffdoenaaDoor
open Go.RowKit Go.Maps
namespace En
/-- A row's cells are no box's. -/
theorem RdP.off {w w' : World} {v : Value} {l : Vs} {x n c n' c' : Nat} {A A' : Option Addr} {st : Int} {fl : ByteArray} {t : TypeId} (h : RdP w w.heap.size v l) (hx : w.heap[x]? = some (.cells #[.slice A n c, .slice A' n' c', .int .i64 st, .string fl] t (0, 0))) (hk : ∀ k, k < w.heap.size → k ≠ x → w'.heap[k]? = w.heap[k]?) : RdP w' w.heap.size v l := by
  refine ⟨h.le, fun h0 => ?_⟩
  obtain ⟨g, o, cc, e, hb, hc⟩ := h.at_ h0
  have hne : g ≠ x := by
    rintro rfl
    obtain ⟨h1, h2⟩ := hc 0 h0
    rw [(cell_row hx _).1] at h1 h2
    obtain ⟨j, hj⟩ : ∃ j, j = o + 0 * 2 := ⟨_, rfl⟩
    rw [← hj] at h1 h2
    match j with
    | 0 => simp at h1
    | 1 => simp at h1
    | 2 => simp at h1
    | 3 => simp at h2
    | j + 4 => simp at h1
  exact ⟨g, o, cc, e, hb, fun k hk2 => ⟨(World.cell?_of_block (hk g hb hne)).trans (hc k hk2).1, (World.cell?_of_block (hk g hb hne)).trans (hc k hk2).2⟩⟩
theorem add_at (g o j : Nat) : (⟨g, o, none⟩ : Addr).add j = ⟨g, o + j, none⟩ := by unfold Addr.add; split <;> simp_all
theorem prs_take {l : Vs} {k j : Nat} {u : Value} (h : (prs (l.take k))[j]? = some u) : (prs l)[j]? = some u := by
  rw [← List.take_append_drop k l, prs_app, List.getElem?_append_left (List.getElem?_eq_some_iff.1 h).1]
  exact h
theorem prs_drop {l : Vs} {k j : Nat} {u : Value} (hk : k ≤ l.length) (h : (prs (l.drop k))[j]? = some u) : (prs l)[k * 2 + j]? = some u := by
  have hl : (prs (l.take k)).length = k * 2 := by rw [prs_len, List.length_take, Nat.min_eq_left hk]
  rw [← List.take_append_drop k l, prs_app, List.getElem?_append_right (by omega)]
  rw [hl, show k * 2 + j - k * 2 = j by omega]
  exact h
theorem prs_lie {w : World} {g o : Nat} {l : Vs} (hc : ∀ (k : Nat) (h : k < l.length), w.cell? ⟨g, o + k * 2, none⟩ = some (.string (mkS l[k].1)) ∧ w.cell? ⟨g, o + k * 2 + 1, none⟩ = some (.string (mkS l[k].2))) {j : Nat} {u : Value} (h : (prs l)[j]? = some u) : w.cell? ⟨g, o + j, none⟩ = some u := by
  obtain ⟨k, hk, ⟨rfl, rfl⟩ | ⟨rfl, rfl⟩⟩ := prs_cell h
  · exact (hc k hk).1
  · exact (hc k hk).2
theorem Ac.reset {W wr : World} {r : Array Value} {v a0 a1 a2 a3 : Value} {l : Vs} (h : Ac W wr #[a0, a1, a2, a3] r v l) (b0 b1 b2 b3 : Value) : ∃ w', w' = (((wr.setCell ⟨W.heap.size, 0, none⟩ b0).setCell ⟨W.heap.size, 1, none⟩ b1).setCell ⟨W.heap.size, 2, none⟩ b2).setCell ⟨W.heap.size, 3, none⟩ b3 ∧ Ac W w' #[b0, b1, b2, b3] r v l ∧ (∀ k, k < wr.heap.size → k ≠ W.heap.size → w'.heap[k]? = wr.heap[k]?) ∧ wr.heap.size ≤ w'.heap.size := by
  have g1 := set_only wr W.heap.size 0 b0
  have g2 := set_only (wr.setCell ⟨W.heap.size, 0, none⟩ b0) W.heap.size 1 b1
  have g3 := set_only ((wr.setCell ⟨W.heap.size, 0, none⟩ b0).setCell ⟨W.heap.size, 1, none⟩ b1) W.heap.size 2 b2
  have g4 := set_only (((wr.setCell ⟨W.heap.size, 0, none⟩ b0).setCell ⟨W.heap.size, 1, none⟩ b1).setCell ⟨W.heap.size, 2, none⟩ b2) W.heap.size 3 b3
  have hn0 : v.ownBlock ≠ some W.heap.size := fun e => by have := (own_ge h.own e).1; omega
  refine ⟨_, rfl, ⟨?_, ?_, ?_, ?_⟩, ?_, Nat.le_trans g1.size (Nat.le_trans g2.size (Nat.le_trans g3.size g4.size))⟩
  · exact later_of_new (later_of_new (later_of_new (later_of_new h.low g1 (Nat.le_refl _)) g2 (Nat.le_refl _)) g3 (Nat.le_refl _)) g4 (Nat.le_refl _)
  · exact set_row (set_row (set_row (set_row h.bx 0 b0) 1 b1) 2 b2) 3 b3
  · exact grown_cells g4 (grown_cells g3 (grown_cells g2 (grown_cells g1 h.rs (by omega)) (by omega)) (by omega)) (by omega)
  · exact (((h.own.kept g1 (.inr hn0)).kept g2 (.inr hn0)).kept g3 (.inr hn0)).kept g4 (.inr hn0)
  · intro k hk hne
    have hne' : some k ≠ some W.heap.size := fun e => hne (by injection e)
    have s1 := g1.size
    have s2 := g2.size
    have s3 := g3.size
    exact (g4.block k (by omega) hne').trans ((g3.block k (by omega) hne').trans ((g2.block k (by omega) hne').trans (g1.block k hk hne')))
theorem tell_same {W wr : World} {b : Array Value} {v a0 a1 a2 a3 : Value} {r : Array Value} {l : Vs} (h : Ac W wr b r v l) (hr : r.size = 4) : ∃ wr', wr' = (((wr.setCell ⟨W.heap.size + 1, 0, none⟩ a0).setCell ⟨W.heap.size + 1, 1, none⟩ a1).setCell ⟨W.heap.size + 1, 2, none⟩ a2).setCell ⟨W.heap.size + 1, 3, none⟩ a3 ∧ Later W wr' ∧ wr'.heap[W.heap.size + 1]? = some (.cells #[a0, a1, a2, a3] 31 (0, 0)) := by
  refine ⟨_, rfl, ?_, ?_⟩
  · exact later_of_new (later_of_new (later_of_new (later_of_new h.low (set_only _ _ _ _) (by omega)) (set_only _ _ _ _) (by omega)) (set_only _ _ _ _) (by omega)) (set_only _ _ _ _) (by omega)
  · have h2 := set_row (set_row (set_row (set_row h.rs 0 a0) 1 a1) 2 a2) 3 a3
    obtain ⟨r⟩ := r
    match r, hr with
    | [x0, x1, x2, x3], _ => exact h2
theorem Later.setN {a b : World} {x i : Nat} {u : Value} (h : Later a b) (hx : a.heap.size ≤ x) : Later a (b.setCell ⟨x, i, none⟩ u) := later_of_new h (set_only _ _ _ _) hx
abbrev nm : B → Bool := Ar.nameB
/-- Set, as far as variables go. -/
def setX (b : Bool) (l : Vs) (s y : B) : Vs := if b = true then setV l s y else l
set_option maxRecDepth 100000 in
set_option maxHeartbeats 6400000 in
theorem rset_x (va : Value) (vs : Vs) (A : Option Addr) (n c : Nat) (st : Int) (fl : ByteArray) (s y : B) (W : World) (hv : RdP W W.heap.size va vs) (hn : vs.length ≤ 1000000) (hs : s.length ≤ 2000000) : Calls Tryd.prog 9 #[.agg #[va, .slice A n c, .int .i64 st, .string fl], .string (mkS s), .string (mkS y)] W fun x W' => (∃ vb, x = .returned (.agg #[vb, .slice A n c, .int .i64 st, .string fl]) ∧ RdP W' W'.heap.size vb (setX (Ar.nameB s) vs s y)) ∧ Later W W' := by
  have HRN := Lib.hid (fun W => Ar.refName_v s hs W)
  have HUN := Lib.hid (show ∀ W', Later W W' → Calls Tryd.prog 11 #[.agg #[va, .slice A n c, .int .i64 st, .string fl], .string (mkS s)] W' fun x W'' => (∃ vb, x = .returned (.agg #[vb, .slice A n c, .int .i64 st, .string fl]) ∧ RdP W'' W''.heap.size vb (unset vs s)) ∧ Later W' W'' from fun W' hl => runset_x va vs A n c st fl s W' (hv.later hl) hn)
  have HV := Lib.hid hv
  obtain ⟨i0, hif, hz0, hz1, hz2⟩ := info_parts info_V
  obtain ⟨Av, cv, rfl, hcv, hcw, _⟩ := hv.le
  have hac : Ac W ((W.alloc (.cells #[.slice Av vs.length cv, .slice A n c, .int .i64 st, .string fl] 31)).alloc (.cells #[.slice none 0 0, .slice none 0 0, .int .i64 0, .string ⟨#[]⟩] 31)) #[.slice Av vs.length cv, .slice A n c, .int .i64 st, .string fl] #[.slice none 0 0, .slice none 0 0, .int .i64 0, .string ⟨#[]⟩] (.slice none 0 0) [] := by
    have l1 := Later.alloc W (.cells #[.slice Av vs.length cv, .slice A n c, .int .i64 st, .string fl] 31)
    have l2 := Later.alloc (W.alloc (.cells #[.slice Av vs.length cv, .slice A n c, .int .i64 st, .string fl] 31)) (.cells #[.slice none 0 0, .slice none 0 0, .int .i64 0, .string ⟨#[]⟩] 31)
    have n2 := heap_alloc_new (W.alloc (.cells #[.slice Av vs.length cv, .slice A n c, .int .i64 st, .string fl] 31)) (.cells #[.slice none 0 0, .slice none 0 0, .int .i64 0, .string ⟨#[]⟩] 31)
    rw [World.size_alloc] at n2
    exact ⟨l1.trans l2, later_cells l2 (heap_alloc_new W _), n2, World.ownsRow_nil _ _ _ _⟩
  have HAC := Lib.hid hac
  clear hv hcv hcw hac
  obtain ⟨b, hb⟩ : ∃ b, b = Ar.nameB s := ⟨_, rfl⟩
  rw [← hb] at HRN
  have HB := Lib.hid hb
  clear hb
  obtain ⟨W1, hW1⟩ : ∃ W1, W1 = (W.alloc (.cells #[.slice Av vs.length cv, .slice A n c, .int .i64 st, .string fl] 31)).alloc (.cells #[.slice none 0 0, .slice none 0 0, .int .i64 0, .string ⟨#[]⟩] 31) := ⟨_, rfl⟩
  rw [← hW1] at HAC
  go_enter Tryd.func9, Tryd.ntmps9
  go_wp2_with fail
  rw [← hW1]
  clear hW1
  go_at_call 30
  with_reducible refine (HRN.out _).mono ?_
  rintro x w1 ⟨rfl, hw1⟩
  subst hw1
  have b0 : w1.cell? ⟨W.heap.size, 0, none⟩ = some (.slice Av vs.length cv) := (cell_row HAC.out.bx 0).1
  have b1 : w1.cell? ⟨W.heap.size, 1, none⟩ = some (.slice A n c) := (cell_row HAC.out.bx 1).1
  have b2 : w1.cell? ⟨W.heap.size, 2, none⟩ = some (.int .i64 st) := (cell_row HAC.out.bx 2).1
  have b3 : w1.cell? ⟨W.heap.size, 3, none⟩ = some (.string fl) := (cell_row HAC.out.bx 3).1
  have r0 : w1.cell? ⟨W.heap.size + 1, 0, none⟩ = some (.slice none 0 0) := (cell_row HAC.out.rs 0).1
  have r1 : w1.cell? ⟨W.heap.size + 1, 1, none⟩ = some (.slice none 0 0) := (cell_row HAC.out.rs 1).1
  have r2 : w1.cell? ⟨W.heap.size + 1, 2, none⟩ = some (.int .i64 0) := (cell_row HAC.out.rs 2).1
  have r3 : w1.cell? ⟨W.heap.size + 1, 3, none⟩ = some (.string ⟨#[]⟩) := (cell_row HAC.out.rs 3).1
  have z0 := fun i => (cell_row HAC.out.bx i).2
  have z1 := fun i => (cell_row HAC.out.rs i).2
  cases b with
  | false =>
    go_wp2
    obtain ⟨w9, hw9, hl9, hr9⟩ := tell_same HAC.out (a0 := .slice Av vs.length cv) (a1 := .slice A n c) (a2 := .int .i64 st) (a3 := .string fl) rfl
    rw [← hw9]
    refine bodyPost_ret (results_E rfl _ _ (W.heap.size + 1) _ (0, 0) rfl hr9 rfl) rfl ?_
    refine ⟨⟨_, rfl, ?_⟩, hl9⟩
    rw [← HB.out]
    exact HV.out.later hl9
  | true =>
    go_wp2_with (go_at_call 11; (with_reducible refine (HUN.out _ HAC.out.low).mono ?_); rintro x w2 ⟨⟨vb, rfl, hv2⟩, hl2⟩; obtain ⟨Au, cu, rfl, hcu, hcw, hcn⟩ := hv2.le; (have HL2 := Lib.hid hl2); clear b0 b1 b2 b3 r0 r1 r2 r3 z0 z1; (have HBX := Lib.hid (later_cells hl2 HAC.out.bx)); (have HRS := Lib.hid (later_cells hl2 HAC.out.rs)); (have b0 : w2.cell? ⟨W.heap.size, 0, none⟩ = some (.slice Av vs.length cv) := (cell_row HBX.out 0).1); (have b1 : w2.cell? ⟨W.heap.size, 1, none⟩ = some (.slice A n c) := (cell_row HBX.out 1).1); (have b2 : w2.cell? ⟨W.heap.size, 2, none⟩ = some (.int .i64 st) := (cell_row HBX.out 2).1); (have b3 : w2.cell? ⟨W.heap.size, 3, none⟩ = some (.string fl) := (cell_row HBX.out 3).1); have z0 := fun i => (cell_row HBX.out i).2)
    have hac3 := Ac.reset (⟨HAC.out.low.trans HL2.out, HBX.out, HRS.out, World.ownsRow_nil _ _ _ _⟩ : Ac W w2 #[.slice Av vs.length cv, .slice A n c, .int .i64 st, .string fl] #[.slice none 0 0, .slice none 0 0, .int .i64 0, .string ⟨#[]⟩] (.slice none 0 0) []) (.slice Au (unset vs s).length cu) (.slice A n c) (.int .i64 st) (.string fl)
    obtain ⟨w3, hw3, hac3, hk3, hs3⟩ := hac3
    rw [← hw3]
    have hrd := hv2.off HBX.out hk3
    have HS23 := Lib.hid hs3
    clear b0 b1 b2 b3 z0 hw3 hk3 hv2 hs3
    obtain ⟨us, hus⟩ : ∃ us, us = unset vs s := ⟨_, rfl⟩
    have HUS := Lib.hid hus
    rw [← hus] at hrd hcu hac3 ⊢
    clear hus
    have hun : us.length ≤ 1000000 := by
      rw [HUS.out]
      unfold unset
      exact Nat.le_trans (List.length_filter_le _ _) hn
    have HA3 := Lib.hid hac3
    have HRD := Lib.hid hrd
    have HUN2 := Lib.hid hun
    have b0 : w3.cell? ⟨W.heap.size, 0, none⟩ = some (.slice Au us.length cu) := (cell_row hac3.bx 0).1
    have htl : ∀ l : B, (mkS l).toList = l := toList_mkS
    clear hac3 hrd hl2
    go_loopw [9] (fun s9 wr => ∃ k : Nat, s9 = .int .i64 (k : Int) ∧ k ≤ us.length ∧ (∀ j (h : j < us.length), j < k → us[j].1 < s) ∧ wr = w3) (fun i _ => us.length - (intOf i).toNat)
    case atStart => exact ⟨0, rfl, Nat.zero_le _, fun j _ hj => absurd hj (Nat.not_lt_zero _), rfl⟩
    case round =>
      obtain ⟨k, rfl, hk, hlo, hw⟩ := hrel
      have hw := hw.symm
      subst hw
      have HLO := Lib.hid hlo
      clear hlo
      have hk0 : (0 : Int) ≤ (k : Int) := by omega
      by_cases hlt : k < us.length
      · have hk1 : (k : Int) < (us.length : Int) := by omega
        obtain ⟨g, o, c', e1, hg, hcc⟩ := HRD.out.at_ (by omega)
        injection e1 with e1 _ e2
        subst e1 e2
        obtain ⟨x, hx⟩ : ∃ x, x = us[k] := ⟨_, rfl⟩
        have p1 := (hcc k hlt).1
        rw [← hx] at p1
        have HX := Lib.hid hx
        by_cases hxs : x.1 < s
        · have f1 : Go.Op.bytesLess x.1 s = true := by rw [Go.Proofs.bytesLess_eq]; exact decide_eq_true hxs
          have HXS := Lib.hid hxs
          clear hcc hx hxs
          go_wp2
          go_roundw
          case rel =>
            refine ⟨k + 1, by go_num, by omega, ?_, trivial⟩
            intro j hj hji
            rcases Nat.lt_succ_iff_lt_or_eq.1 hji with h1 | rfl
            · exact HLO.out j hj h1
            · rw [← HX.out]; exact HXS.out
          case measure => simp [intOf]; omega
        · have f1 : Go.Op.bytesLess x.1 s = false := by rw [Go.Proofs.bytesLess_eq]; exact decide_eq_false hxs
          have HXS := Lib.hid hxs
          have HC0 := Lib.hid hcc
          clear hcc hx hxs
          have hzc := HC0.out
          have HY := Lib.hid (show ∀ j u, (prs us)[j]? = some u → w3.cell? ⟨g, o + j, none⟩ = some u from fun j u h => prs_lie hzc h)
          have HGB := Lib.hid (Nat.lt_of_lt_of_le hg HS23.out)
          have HSZ := Lib.hid (show W.heap.size + 2 ≤ w3.heap.size from lt_of_block HA3.out.rs)
          have HTL := Lib.hid (show (us.take k).length = k by rw [List.length_take]; omega)
          have HKL := Lib.hid hk
          have hcl : us.length ≤ cu := hcu
          have hkc : (k : Int) ≤ (cu : Int) := by omega
          have hkn : (k : Int) ≤ (us.length : Int) := by omega
          have htn : ((k : Int)).toNat = k := by omega
          clear hzc hg hw
          go_wp2_with (first
            | (at_builtin; refine wpList_appL w3 2 (by omega) rfl (.tmp 35) (.tmp 39) 29 67 rfl i0 _ 32 Tryd.underlying29 hif hz0 hz1 hz2 rfl (W.heap.size + 2) (.slice none 0 0) 0 [] rfl HA3.out.own ⟨g, o, none⟩ k cu (prs (us.take k)) rfl (by rw [prs_len, HTL.out]) (fun j u h => by rw [add_at]; exact HY.out j u (prs_take h)) (prs_one_cell _) (by have := HKL.out; have := HUN2.out; omega) (by have := HKL.out; have := HUN2.out; omega) HSZ.out ?_; intro v4 w4 hg4; (have HK4 := Lib.hid (show ∀ b, b < w3.heap.size → w4.heap[b]? = w3.heap[b]? from fun b hb => hg4.grown.block b hb (by simp [Value.ownBlock]))); (have HM4 := Lib.hid (show ∀ b, b < w3.heap.size → v4.ownBlock ≠ some b from fun b hb e => by rcases hg4.moved with h5 | ⟨q, h5, h6⟩; (· rw [h5] at e; simp [Value.ownBlock] at e); (· rw [h5] at e; injection e with e; omega))); (have HP4 := Lib.hid (HA3.out.push (m := us.take k) (by rw [HTL.out]; exact hg4))); (have HZ4 := Lib.hid hg4.grown.size); (have q0 : w4.cell? ⟨W.heap.size, 0, none⟩ = some (.slice (some ⟨g, o, none⟩) us.length cu) := (cell_row HP4.out.bx 0).1); clear hg4)
            | (at_builtin; refine wpList_appK w4 #[.string (mkS s), .string (mkS y)] 2 (by omega) rfl (by intro u hu; simp at hu; rcases hu with rfl | rfl <;> rfl) rfl (.tmp 41) (.tmp 45) 29 67 rfl i0 _ 32 Tryd.underlying29 hif hz0 hz1 hz2 rfl (W.heap.size + 2) v4 ([] ++ us.take k).length (prs ([] ++ us.take k)) rfl HP4.out.own _ rfl rfl (by rw [List.nil_append, HTL.out]; have := HKL.out; have := HUN2.out; omega) (by rw [List.nil_append, HTL.out]; have := HKL.out; have := HUN2.out; omega) (Nat.le_trans HSZ.out HZ4.out) ?_; intro v5 w5 hg5; (have HK5 := Lib.hid (show ∀ b, b < w3.heap.size → w5.heap[b]? = w3.heap[b]? from fun b hb => (hg5.grown.block b (Nat.lt_of_lt_of_le hb HZ4.out) (fun e => HM4.out b hb e.symm)).trans (HK4.out b hb))); (have HP5 := Lib.hid (HP4.out.push (m := [(s, y)]) hg5)); (have HZ5 := Lib.hid (Nat.le_trans HZ4.out hg5.grown.size)); (have q0 : w5.cell? ⟨W.heap.size, 0, none⟩ = some (.slice (some ⟨g, o, none⟩) us.length cu) := (cell_row HP5.out.bx 0).1); clear hg5)
            | (at_builtin; refine wpList_appL w5 2 (by omega) rfl (.tmp 47) (.tmp 51) 29 67 rfl i0 _ 32 Tryd.underlying29 hif hz0 hz1 hz2 rfl (W.heap.size + 2) v5 ([] ++ us.take k ++ [(s, y)]).length (prs ([] ++ us.take k ++ [(s, y)])) rfl HP5.out.own ⟨g, o + k * 2, none⟩ (us.length - k) (cu - k) (prs (us.drop k)) rfl (by rw [prs_len, List.length_drop]) (fun j u h => by rw [add_at]; refine (World.cell?_of_block (HK5.out g HGB.out)).trans ?_; have := HY.out _ u (prs_drop HKL.out h); rwa [← Nat.add_assoc] at this) (prs_one_cell _) (by rw [List.nil_append, List.length_append, HTL.out]; have := HKL.out; have := HUN2.out; simp; omega) (by rw [List.nil_append, List.length_append, HTL.out]; have := HKL.out; have := HUN2.out; simp; omega) (Nat.le_trans HSZ.out HZ5.out) ?_; intro v6 w6 hg6; (have HP6 := Lib.hid (HP5.out.push (m := us.drop k) (by rw [List.length_drop]; exact hg6))); clear hg6 q0; obtain ⟨Z, hZ⟩ : ∃ Z, Z = ([] ++ us.take k ++ [(s, y)] ++ us.drop k : Vs) := ⟨_, rfl⟩; (have HZZ := Lib.hid hZ); rw [← hZ] at HP6; clear hZ; obtain ⟨A6, c6, hv6, _⟩ := own_any HP6.out.own; subst hv6; (have b0 : w6.cell? ⟨W.heap.size, 0, none⟩ = some (.slice (some ⟨g, o, none⟩) us.length cu) := (cell_row HP6.out.bx 0).1); (have b1 : w6.cell? ⟨W.heap.size, 1, none⟩ = some (.slice A n c) := (cell_row HP6.out.bx 1).1); (have b2 : w6.cell? ⟨W.heap.size, 2, none⟩ = some (.int .i64 st) := (cell_row HP6.out.bx 2).1); (have b3 : w6.cell? ⟨W.heap.size, 3, none⟩ = some (.string fl) := (cell_row HP6.out.bx 3).1); (have r0 : w6.cell? ⟨W.heap.size + 1, 0, none⟩ = some (.slice none 0 0) := (cell_row HP6.out.rs 0).1); (have r1 : w6.cell? ⟨W.heap.size + 1, 1, none⟩ = some (.slice none 0 0) := (cell_row HP6.out.rs 1).1); (have r2 : w6.cell? ⟨W.heap.size + 1, 2, none⟩ = some (.int .i64 0) := (cell_row HP6.out.rs 2).1); (have r3 : w6.cell? ⟨W.heap.size + 1, 3, none⟩ = some (.string ⟨#[]⟩) := (cell_row HP6.out.rs 3).1); (have z0 := fun i => (cell_row HP6.out.bx i).2); (have z1 := fun i => (cell_row HP6.out.rs i).2)))
          obtain ⟨w9, hw9, hl9, hr9, ho9⟩ := HP6.out.tell rfl
          rw [← hw9]
          refine bodyPost_ret (results_E rfl _ _ (W.heap.size + 1) _ (0, 0) rfl hr9 rfl) rfl ?_
          refine ⟨⟨_, rfl, ?_⟩, hl9⟩
          have he : setX (Ar.nameB s) vs s y = Z := by
            rw [← HB.out, HZZ.out]
            show put (unset vs s) s y = _
            rw [← HUS.out, put_index HKL.out HLO.out (fun h => by rw [← HX.out]; exact HXS.out), List.nil_append, List.append_assoc]
            rfl
          rw [he]
          exact RdP.of_own ho9
      · have hkl : k = us.length := by omega
        by_cases hu0 : 0 < us.length
        · obtain ⟨g, o, c', e1, hg, hcc⟩ := HRD.out.at_ hu0
          injection e1 with e1 _ e2
          subst e1 e2
          have HC0 := Lib.hid hcc
          subst hkl
          clear hcc hlt
          by_cases hce : cu = us.length
          · subst hce
            have hzc := HC0.out
            have HY := Lib.hid (show ∀ j u, (prs us)[j]? = some u → w3.cell? ⟨g, o + j, none⟩ = some u from fun j u h => prs_lie hzc h)
            have HGB := Lib.hid (Nat.lt_of_lt_of_le hg HS23.out)
            have HSZ := Lib.hid (show W.heap.size + 2 ≤ w3.heap.size from lt_of_block HA3.out.rs)
            have HTL := Lib.hid (show (us.take us.length).length = us.length by rw [List.length_take]; omega)
            have HKL := Lib.hid hk
            have hcl : us.length ≤ us.length := hcu
            have hkc : (us.length : Int) ≤ (us.length : Int) := by omega
            have hkn : (us.length : Int) ≤ (us.length : Int) := by omega
            have htn : ((us.length : Int)).toNat = us.length := by omega
            clear hzc hg hw
            go_wp2_with (first
              | (at_builtin; refine wpList_appL w3 2 (by omega) rfl (.tmp 35) (.tmp 39) 29 67 rfl i0 _ 32 Tryd.underlying29 hif hz0 hz1 hz2 rfl (W.heap.size + 2) (.slice none 0 0) 0 [] rfl HA3.out.own ⟨g, o, none⟩ us.length us.length (prs (us.take us.length)) rfl (by rw [prs_len, HTL.out]) (fun j u h => by rw [add_at]; exact HY.out j u (prs_take h)) (prs_one_cell _) (by have := HKL.out; have := HUN2.out; omega) (by have := HKL.out; have := HUN2.out; omega) HSZ.out ?_; intro v4 w4 hg4; (have HK4 := Lib.hid (show ∀ b, b < w3.heap.size → w4.heap[b]? = w3.heap[b]? from fun b hb => hg4.grown.block b hb (by simp [Value.ownBlock]))); (have HM4 := Lib.hid (show ∀ b, b < w3.heap.size → v4.ownBlock ≠ some b from fun b hb e => by rcases hg4.moved with h5 | ⟨q, h5, h6⟩; (· rw [h5] at e; simp [Value.ownBlock] at e); (· rw [h5] at e; injection e with e; omega))); (have HP4 := Lib.hid (HA3.out.push (m := us.take us.length) (by rw [HTL.out]; exact hg4))); (have HZ4 := Lib.hid hg4.grown.size); (have q0 : w4.cell? ⟨W.heap.size, 0, none⟩ = some (.slice (some ⟨g, o, none⟩) us.length us.length) := (cell_row HP4.out.bx 0).1); clear hg4)
              | (at_builtin; refine wpList_appK w4 #[.string (mkS s), .string (mkS y)] 2 (by omega) rfl (by intro u hu; simp at hu; rcases hu with rfl | rfl <;> rfl) rfl (.tmp 41) (.tmp 45) 29 67 rfl i0 _ 32 Tryd.underlying29 hif hz0 hz1 hz2 rfl (W.heap.size + 2) v4 ([] ++ us.take us.length).length (prs ([] ++ us.take us.length)) rfl HP4.out.own _ rfl rfl (by rw [List.nil_append, HTL.out]; have := HKL.out; have := HUN2.out; omega) (by rw [List.nil_append, HTL.out]; have := HKL.out; have := HUN2.out; omega) (Nat.le_trans HSZ.out HZ4.out) ?_; intro v5 w5 hg5; (have HK5 := Lib.hid (show ∀ b, b < w3.heap.size → w5.heap[b]? = w3.heap[b]? from fun b hb => (hg5.grown.block b (Nat.lt_of_lt_of_le hb HZ4.out) (fun e => HM4.out b hb e.symm)).trans (HK4.out b hb))); (have HP5 := Lib.hid (HP4.out.push (m := [(s, y)]) hg5)); (have HZ5 := Lib.hid (Nat.le_trans HZ4.out hg5.grown.size)); (have q0 : w5.cell? ⟨W.heap.size, 0, none⟩ = some (.slice (some ⟨g, o, none⟩) us.length us.length) := (cell_row HP5.out.bx 0).1); clear hg5)
              | (at_builtin; refine wpList_appL w5 2 (by omega) rfl (.tmp 47) (.tmp 51) 29 67 rfl i0 _ 32 Tryd.underlying29 hif hz0 hz1 hz2 rfl (W.heap.size + 2) v5 ([] ++ us.take us.length ++ [(s, y)]).length (prs ([] ++ us.take us.length ++ [(s, y)])) rfl HP5.out.own _ 0 _ [] rfl rfl (fun j u h => by simp at h) (fun u h => by cases h) (by rw [List.nil_append, List.length_append, HTL.out]; have := HKL.out; have := HUN2.out; simp; omega) (by rw [List.nil_append, List.length_append, HTL.out]; have := HKL.out; have := HUN2.out; simp; omega) (Nat.le_trans HSZ.out HZ5.out) ?_; intro v6 w6 hg6; (have HP6 := Lib.hid (HP5.out.push (m := []) hg6)); clear hg6 q0; obtain ⟨Z, hZ⟩ : ∃ Z, Z = ([] ++ us.take us.length ++ [(s, y)] ++ [] : Vs) := ⟨_, rfl⟩; (have HZZ := Lib.hid hZ); rw [← hZ] at HP6; clear hZ; obtain ⟨A6, c6, hv6, _⟩ := own_any HP6.out.own; subst hv6; (have b0 : w6.cell? ⟨W.heap.size, 0, none⟩ = some (.slice (some ⟨g, o, none⟩) us.length us.length) := (cell_row HP6.out.bx 0).1); (have b1 : w6.cell? ⟨W.heap.size, 1, none⟩ = some (.slice A n c) := (cell_row HP6.out.bx 1).1); (have b2 : w6.cell? ⟨W.heap.size, 2, none⟩ = some (.int .i64 st) := (cell_row HP6.out.bx 2).1); (have b3 : w6.cell? ⟨W.heap.size, 3, none⟩ = some (.string fl) := (cell_row HP6.out.bx 3).1); (have r0 : w6.cell? ⟨W.heap.size + 1, 0, none⟩ = some (.slice none 0 0) := (cell_row HP6.out.rs 0).1); (have r1 : w6.cell? ⟨W.heap.size + 1, 1, none⟩ = some (.slice none 0 0) := (cell_row HP6.out.rs 1).1); (have r2 : w6.cell? ⟨W.heap.size + 1, 2, none⟩ = some (.int .i64 0) := (cell_row HP6.out.rs 2).1); (have r3 : w6.cell? ⟨W.heap.size + 1, 3, none⟩ = some (.string ⟨#[]⟩) := (cell_row HP6.out.rs 3).1); (have z0 := fun i => (cell_row HP6.out.bx i).2); (have z1 := fun i => (cell_row HP6.out.rs i).2)))
            obtain ⟨w9, hw9, hl9, hr9, ho9⟩ := HP6.out.tell rfl
            rw [← hw9]
            refine bodyPost_ret (results_E rfl _ _ (W.heap.size + 1) _ (0, 0) rfl hr9 rfl) rfl ?_
            refine ⟨⟨_, rfl, ?_⟩, hl9⟩
            have he : setX (Ar.nameB s) vs s y = Z := by
              rw [← HB.out, HZZ.out]
              show put (unset vs s) s y = _
              rw [← HUS.out, put_index HKL.out HLO.out (fun h => absurd h (Nat.lt_irrefl _)), List.nil_append, List.append_assoc]; rw [List.drop_length]
              rfl
            rw [he]
            exact RdP.of_own ho9
          · skip
            have hzc := HC0.out
            have HY := Lib.hid (show ∀ j u, (prs us)[j]? = some u → w3.cell? ⟨g, o + j, none⟩ = some u from fun j u h => prs_lie hzc h)
            have HGB := Lib.hid (Nat.lt_of_lt_of_le hg HS23.out)
            have HSZ := Lib.hid (show W.heap.size + 2 ≤ w3.heap.size from lt_of_block HA3.out.rs)
            have HTL := Lib.hid (show (us.take us.length).length = us.length by rw [List.length_take]; omega)
            have HKL := Lib.hid hk
            have hcl : us.length ≤ cu := hcu
            have hkc : (us.length : Int) ≤ (cu : Int) := by omega
            have hkn : (us.length : Int) ≤ (us.length : Int) := by omega
            have htn : ((us.length : Int)).toNat = us.length := by omega
            clear hzc hg hw
            go_wp2_with (first
              | (at_builtin; refine wpList_appL w3 2 (by omega) rfl (.tmp 35) (.tmp 39) 29 67 rfl i0 _ 32 Tryd.underlying29 hif hz0 hz1 hz2 rfl (W.heap.size + 2) (.slice none 0 0) 0 [] rfl HA3.out.own ⟨g, o, none⟩ us.length cu (prs (us.take us.length)) rfl (by rw [prs_len, HTL.out]) (fun j u h => by rw [add_at]; exact HY.out j u (prs_take h)) (prs_one_cell _) (by have := HKL.out; have := HUN2.out; omega) (by have := HKL.out; have := HUN2.out; omega) HSZ.out ?_; intro v4 w4 hg4; (have HK4 := Lib.hid (show ∀ b, b < w3.heap.size → w4.heap[b]? = w3.heap[b]? from fun b hb => hg4.grown.block b hb (by simp [Value.ownBlock]))); (have HM4 := Lib.hid (show ∀ b, b < w3.heap.size → v4.ownBlock ≠ some b from fun b hb e => by rcases hg4.moved with h5 | ⟨q, h5, h6⟩; (· rw [h5] at e; simp [Value.ownBlock] at e); (· rw [h5] at e; injection e with e; omega))); (have HP4 := Lib.hid (HA3.out.push (m := us.take us.length) (by rw [HTL.out]; exact hg4))); (have HZ4 := Lib.hid hg4.grown.size); (have q0 : w4.cell? ⟨W.heap.size, 0, none⟩ = some (.slice (some ⟨g, o, none⟩) us.length cu) := (cell_row HP4.out.bx 0).1); clear hg4)
              | (at_builtin; refine wpList_appK w4 #[.string (mkS s), .string (mkS y)] 2 (by omega) rfl (by intro u hu; simp at hu; rcases hu with rfl | rfl <;> rfl) rfl (.tmp 41) (.tmp 45) 29 67 rfl i0 _ 32 Tryd.underlying29 hif hz0 hz1 hz2 rfl (W.heap.size + 2) v4 ([] ++ us.take us.length).length (prs ([] ++ us.take us.length)) rfl HP4.out.own _ rfl rfl (by rw [List.nil_append, HTL.out]; have := HKL.out; have := HUN2.out; omega) (by rw [List.nil_append, HTL.out]; have := HKL.out; have := HUN2.out; omega) (Nat.le_trans HSZ.out HZ4.out) ?_; intro v5 w5 hg5; (have HK5 := Lib.hid (show ∀ b, b < w3.heap.size → w5.heap[b]? = w3.heap[b]? from fun b hb => (hg5.grown.block b (Nat.lt_of_lt_of_le hb HZ4.out) (fun e => HM4.out b hb e.symm)).trans (HK4.out b hb))); (have HP5 := Lib.hid (HP4.out.push (m := [(s, y)]) hg5)); (have HZ5 := Lib.hid (Nat.le_trans HZ4.out hg5.grown.size)); (have q0 : w5.cell? ⟨W.heap.size, 0, none⟩ = some (.slice (some ⟨g, o, none⟩) us.length cu) := (cell_row HP5.out.bx 0).1); clear hg5)
              | (at_builtin; refine wpList_appL w5 2 (by omega) rfl (.tmp 47) (.tmp 51) 29 67 rfl i0 _ 32 Tryd.underlying29 hif hz0 hz1 hz2 rfl (W.heap.size + 2) v5 ([] ++ us.take us.length ++ [(s, y)]).length (prs ([] ++ us.take us.length ++ [(s, y)])) rfl HP5.out.own _ 0 _ [] rfl rfl (fun j u h => by simp at h) (fun u h => by cases h) (by rw [List.nil_append, List.length_append, HTL.out]; have := HKL.out; have := HUN2.out; simp; omega) (by rw [List.nil_append, List.length_append, HTL.out]; have := HKL.out; have := HUN2.out; simp; omega) (Nat.le_trans HSZ.out HZ5.out) ?_; intro v6 w6 hg6; (have HP6 := Lib.hid (HP5.out.push (m := []) hg6)); clear hg6 q0; obtain ⟨Z, hZ⟩ : ∃ Z, Z = ([] ++ us.take us.length ++ [(s, y)] ++ [] : Vs) := ⟨_, rfl⟩; (have HZZ := Lib.hid hZ); rw [← hZ] at HP6; clear hZ; obtain ⟨A6, c6, hv6, _⟩ := own_any HP6.out.own; subst hv6; (have b0 : w6.cell? ⟨W.heap.size, 0, none⟩ = some (.slice (some ⟨g, o, none⟩) us.length cu) := (cell_row HP6.out.bx 0).1); (have b1 : w6.cell? ⟨W.heap.size, 1, none⟩ = some (.slice A n c) := (cell_row HP6.out.bx 1).1); (have b2 : w6.cell? ⟨W.heap.size, 2, none⟩ = some (.int .i64 st) := (cell_row HP6.out.bx 2).1); (have b3 : w6.cell? ⟨W.heap.size, 3, none⟩ = some (.string fl) := (cell_row HP6.out.bx 3).1); (have r0 : w6.cell? ⟨W.heap.size + 1, 0, none⟩ = some (.slice none 0 0) := (cell_row HP6.out.rs 0).1); (have r1 : w6.cell? ⟨W.heap.size + 1, 1, none⟩ = some (.slice none 0 0) := (cell_row HP6.out.rs 1).1); (have r2 : w6.cell? ⟨W.heap.size + 1, 2, none⟩ = some (.int .i64 0) := (cell_row HP6.out.rs 2).1); (have r3 : w6.cell? ⟨W.heap.size + 1, 3, none⟩ = some (.string ⟨#[]⟩) := (cell_row HP6.out.rs 3).1); (have z0 := fun i => (cell_row HP6.out.bx i).2); (have z1 := fun i => (cell_row HP6.out.rs i).2)))
            obtain ⟨w9, hw9, hl9, hr9, ho9⟩ := HP6.out.tell rfl
            rw [← hw9]
            refine bodyPost_ret (results_E rfl _ _ (W.heap.size + 1) _ (0, 0) rfl hr9 rfl) rfl ?_
            refine ⟨⟨_, rfl, ?_⟩, hl9⟩
            have he : setX (Ar.nameB s) vs s y = Z := by
              rw [← HB.out, HZZ.out]
              show put (unset vs s) s y = _
              rw [← HUS.out, put_index HKL.out HLO.out (fun h => absurd h (Nat.lt_irrefl _)), List.nil_append, List.append_assoc]; rw [List.drop_length]
              rfl
            rw [he]
            exact RdP.of_own ho9
        · have he0 : us = [] := List.length_eq_zero_iff.1 (by omega)
          subst he0
          have HSZ := Lib.hid (show W.heap.size + 2 ≤ w3.heap.size from lt_of_block HA3.out.rs)
          have hk00 : k = 0 := by simpa using hkl
          subst hk00
          clear hlt hk hk0 hkl hu0 hcu hun
          cases Au with
          | none =>
            have hcn0 := hcn rfl
            subst hcn0
            have q0 : w3.cell? ⟨W.heap.size, 0, none⟩ = some (.slice none 0 0) := b0
            clear b0
            go_wp2_with (first
              | (at_builtin; refine wpList_appL0 w3 2 rfl (.tmp 35) (.tmp 39) 29 67 rfl i0 Tryd.underlying29 hif (W.heap.size + 2) (.slice none 0 0) 0 [] rfl HA3.out.own rfl ?_)
              | (at_builtin; refine wpList_appK w3 #[.string (mkS s), .string (mkS y)] 2 (by omega) rfl (by intro u hu; simp at hu; rcases hu with rfl | rfl <;> rfl) rfl (.tmp 41) (.tmp 45) 29 67 rfl i0 _ 32 Tryd.underlying29 hif hz0 hz1 hz2 rfl (W.heap.size + 2) (.slice none 0 0) ([] : Vs).length (prs ([] : Vs)) rfl HA3.out.own _ rfl rfl (by simp) (by simp) HSZ.out ?_; intro v5 w5 hg5; (have HP5 := Lib.hid (HA3.out.push (m := [(s, y)]) hg5)); (have HZ5 := Lib.hid hg5.grown.size); (have q0 : w5.cell? ⟨W.heap.size, 0, none⟩ = some (.slice none 0 0) := (cell_row HP5.out.bx 0).1); clear hg5)
              | (at_builtin; refine wpList_appL0 w5 2 rfl (.tmp 47) (.tmp 51) 29 67 rfl i0 Tryd.underlying29 hif (W.heap.size + 2) v5 ([] ++ [(s, y)] : Vs).length (prs ([] ++ [(s, y)] : Vs)) rfl HP5.out.own rfl ?_; obtain ⟨Z, hZ⟩ : ∃ Z, Z = (([] ++ [(s, y)] : Vs)) := ⟨_, rfl⟩; (have HZZ := Lib.hid hZ); rw [← hZ] at HP5; clear hZ; obtain ⟨A6, c6, hv6, _⟩ := own_any HP5.out.own; subst hv6; clear q0; (have b0 : w5.cell? ⟨W.heap.size, 0, none⟩ = some (.slice none 0 0) := (cell_row HP5.out.bx 0).1); (have b1 : w5.cell? ⟨W.heap.size, 1, none⟩ = some (.slice A n c) := (cell_row HP5.out.bx 1).1); (have b2 : w5.cell? ⟨W.heap.size, 2, none⟩ = some (.int .i64 st) := (cell_row HP5.out.bx 2).1); (have b3 : w5.cell? ⟨W.heap.size, 3, none⟩ = some (.string fl) := (cell_row HP5.out.bx 3).1); (have r0 : w5.cell? ⟨W.heap.size + 1, 0, none⟩ = some (.slice none 0 0) := (cell_row HP5.out.rs 0).1); (have r1 : w5.cell? ⟨W.heap.size + 1, 1, none⟩ = some (.slice none 0 0) := (cell_row HP5.out.rs 1).1); (have r2 : w5.cell? ⟨W.heap.size + 1, 2, none⟩ = some (.int .i64 0) := (cell_row HP5.out.rs 2).1); (have r3 : w5.cell? ⟨W.heap.size + 1, 3, none⟩ = some (.string ⟨#[]⟩) := (cell_row HP5.out.rs 3).1); (have z0 := fun i => (cell_row HP5.out.bx i).2); (have z1 := fun i => (cell_row HP5.out.rs i).2)))
            obtain ⟨w9, hw9, hl9, hr9, ho9⟩ := HP5.out.tell rfl
            rw [← hw9]
            refine bodyPost_ret (results_E rfl _ _ (W.heap.size + 1) _ (0, 0) rfl hr9 rfl) rfl ?_
            refine ⟨⟨_, rfl, ?_⟩, hl9⟩
            have he : setX (Ar.nameB s) vs s y = Z := by
              rw [← HB.out, HZZ.out]
              show put (unset vs s) s y = _
              rw [← HUS.out]
              rfl
            rw [he]
            exact RdP.of_own ho9
          | some ad =>
            have hcw0 : (0 : Int) ≤ (cu : Int) := by omega
            have q0 : w3.cell? ⟨W.heap.size, 0, none⟩ = some (.slice (some ad) 0 cu) := b0
            clear b0
            go_wp2_with (first
              | (at_builtin; refine wpList_appL w3 2 (by omega) rfl (.tmp 35) (.tmp 39) 29 67 rfl i0 _ 32 Tryd.underlying29 hif hz0 hz1 hz2 rfl (W.heap.size + 2) (.slice none 0 0) 0 [] rfl HA3.out.own ad 0 cu [] rfl rfl (fun j u h => by simp at h) (fun u h => by cases h) (by omega) (by omega) HSZ.out ?_; intro v4 w4 hg4; (have HP4 := Lib.hid (HA3.out.push (m := []) hg4)); (have HZ4 := Lib.hid hg4.grown.size); (have q0 : w4.cell? ⟨W.heap.size, 0, none⟩ = some (.slice (some ad) 0 cu) := (cell_row HP4.out.bx 0).1); clear hg4)
              | (at_builtin; refine wpList_appK w4 #[.string (mkS s), .string (mkS y)] 2 (by omega) rfl (by intro u hu; simp at hu; rcases hu with rfl | rfl <;> rfl) rfl (.tmp 41) (.tmp 45) 29 67 rfl i0 _ 32 Tryd.underlying29 hif hz0 hz1 hz2 rfl (W.heap.size + 2) v4 ([] ++ [] : Vs).length (prs ([] ++ [] : Vs)) rfl HP4.out.own _ rfl rfl (by simp) (by simp) (Nat.le_trans HSZ.out HZ4.out) ?_; intro v5 w5 hg5; (have HP5 := Lib.hid (HP4.out.push (m := [(s, y)]) hg5)); (have HZ5 := Lib.hid hg5.grown.size); (have q0 : w5.cell? ⟨W.heap.size, 0, none⟩ = some (.slice (some ad) 0 cu) := (cell_row HP5.out.bx 0).1); clear hg5)
              | (at_builtin; refine wpList_appL w5 2 (by omega) rfl (.tmp 47) (.tmp 51) 29 67 rfl i0 _ 32 Tryd.underlying29 hif hz0 hz1 hz2 rfl (W.heap.size + 2) v5 ([] ++ [] ++ [(s, y)] : Vs).length (prs ([] ++ [] ++ [(s, y)] : Vs)) rfl HP5.out.own _ 0 cu [] rfl rfl (fun j u h => by simp at h) (fun u h => by cases h) (by simp) (by simp) (Nat.le_trans HSZ.out (Nat.le_trans HZ4.out HZ5.out)) ?_; intro v6 w6 hg6; (have HP6 := Lib.hid (HP5.out.push (m := []) hg6)); clear hg6; obtain ⟨Z, hZ⟩ : ∃ Z, Z = (([] ++ [] ++ [(s, y)] ++ [] : Vs)) := ⟨_, rfl⟩; (have HZZ := Lib.hid hZ); rw [← hZ] at HP6; clear hZ; obtain ⟨A6, c6, hv6, _⟩ := own_any HP6.out.own; subst hv6; clear q0; (have b0 : w6.cell? ⟨W.heap.size, 0, none⟩ = some (.slice (some ad) 0 cu) := (cell_row HP6.out.bx 0).1); (have b1 : w6.cell? ⟨W.heap.size, 1, none⟩ = some (.slice A n c) := (cell_row HP6.out.bx 1).1); (have b2 : w6.cell? ⟨W.heap.size, 2, none⟩ = some (.int .i64 st) := (cell_row HP6.out.bx 2).1); (have b3 : w6.cell? ⟨W.heap.size, 3, none⟩ = some (.string fl) := (cell_row HP6.out.bx 3).1); (have r0 : w6.cell? ⟨W.heap.size + 1, 0, none⟩ = some (.slice none 0 0) := (cell_row HP6.out.rs 0).1); (have r1 : w6.cell? ⟨W.heap.size + 1, 1, none⟩ = some (.slice none 0 0) := (cell_row HP6.out.rs 1).1); (have r2 : w6.cell? ⟨W.heap.size + 1, 2, none⟩ = some (.int .i64 0) := (cell_row HP6.out.rs 2).1); (have r3 : w6.cell? ⟨W.heap.size + 1, 3, none⟩ = some (.string ⟨#[]⟩) := (cell_row HP6.out.rs 3).1); (have z0 := fun i => (cell_row HP6.out.bx i).2); (have z1 := fun i => (cell_row HP6.out.rs i).2)))
            obtain ⟨w9, hw9, hl9, hr9, ho9⟩ := HP6.out.tell rfl
            rw [← hw9]
            refine bodyPost_ret (results_E rfl _ _ (W.heap.size + 1) _ (0, 0) rfl hr9 rfl) rfl ?_
            refine ⟨⟨_, rfl, ?_⟩, hl9⟩
            have he : setX (Ar.nameB s) vs s y = Z := by
              rw [← HB.out, HZZ.out]
              show put (unset vs s) s y = _
              rw [← HUS.out]
              rfl
            rw [he]
            exact RdP.of_own ho9
end En
end Go.Proofs.YtmijploffdoenaaDoor
