/- What Decide tells. The listed variables: their condition. -/
import Derived.Test.YtjidclefpmcgoaaDoorYn
namespace Go.Proofs.YtjidclefpmcgoaaDoor
open Go.RowKit Go.Maps
namespace Ar
/-- Texts in a row, from a place on. -/
def Cs (W : World) (ad : Addr) (l : List L) : Prop := ad.block < W.heap.size ∧ ∀ (j : Nat) (u : Value), (l.map sv)[j]? = some u → W.cell? (ad.add j) = some u
theorem Cs.later {W W' : World} {ad : Addr} {l : List L} (h : Cs W ad l) (hl : Later W W') : Cs W' ad l :=
  ⟨Nat.lt_of_lt_of_le h.1 hl.size, fun j u hu => (hl.cell (by rw [block_add]; exact h.1)).trans (h.2 j u hu)⟩
theorem Cs.c0 {W : World} {ad : Addr} {a : L} {l : List L} (h : Cs W ad (a :: l)) : W.cell? ad = some (.string (mkS a)) := h.2 0 _ rfl
theorem Cs.c1 {W : World} {ad : Addr} {a b : L} {l : List L} (h : Cs W ad (a :: b :: l)) : W.cell? ⟨ad.block, ad.off + 1, none⟩ = some (.string (mkS b)) := h.2 1 _ rfl
theorem Cs.c2 {W : World} {ad : Addr} {a b c : L} {l : List L} (h : Cs W ad (a :: b :: c :: l)) : W.cell? ⟨ad.block, ad.off + 2, none⟩ = some (.string (mkS c)) := h.2 2 _ rfl
theorem Cs.tail {W : World} {ad : Addr} {a : L} {l : List L} (h : Cs W ad (a :: l)) : Cs W ⟨ad.block, ad.off + 1, none⟩ l :=
  ⟨h.1, fun j u hu => by
    have := h.2 (j + 1) u (by simpa using hu)
    rw [Nat.add_comm, ← add_add] at this
    exact this⟩
theorem Cs.of_rd {W : World} {ad : Addr} {n : Nat} {l : List L} (h : Rd W W.heap.size (some ad) n (l.map sv)) (hn : 0 < n) : Cs W ad l := by
  obtain ⟨ad', e, hb, hc⟩ := h.2 hn
  injection e with e
  subst e
  exact ⟨hb, hc⟩
def Short (l : List L) : Prop := ∀ t ∈ l, t.length ≤ 2000000
abbrev Dec (v : Value) (W : World) (l : List L) : Prop := DecC 8 #[v] W (dec l)
set_option maxRecDepth 100000 in
set_option maxHeartbeats 800000 in
theorem dec_0 (A : Option Addr) (c : Nat) (W : World) : Dec (.slice A 0 c) W [] := by
  go_enter Tryd.func8, Tryd.ntmps8
  go_wp2
  refine bodyPost_ret (results_ask rfl _ _ W.heap.size _ rfl (heap_alloc_new _ _) rfl _ rfl _ rfl) rfl ?_
  exact ⟨rfl, Later.alloc _ _⟩
set_option maxRecDepth 100000 in
set_option maxHeartbeats 1600000 in
theorem dec_5 (A : Option Addr) (l : List L) (n : Nat) (hn : n = l.length) (h5 : 5 ≤ n) (c : Nat) (W : World) : Dec (.slice A n c) W l := by
  have hd : dec l = val0 2 := by
    match l, hn with
    | a :: b :: c :: d :: e :: r, _ => rfl
    | [], h => simp at h; omega
    | [a], h => simp at h; omega
    | [a, b], h => simp at h; omega
    | [a, b, c], h => simp at h; omega
    | [a, b, c, d], h => simp at h; omega
  unfold Dec
  rw [hd]
  have g0 : ((n : Int) == 0) = false := by rw [beq_eq_false_iff_ne]; omega
  have g1 : ((n : Int) == 1) = false := by rw [beq_eq_false_iff_ne]; omega
  have g2 : ((n : Int) == 2) = false := by rw [beq_eq_false_iff_ne]; omega
  have g3 : ((n : Int) == 3) = false := by rw [beq_eq_false_iff_ne]; omega
  have g4 : ¬ (n : Int) ≤ 4 := by omega
  clear hd hn h5
  go_enter Tryd.func8, Tryd.ntmps8
  go_wp2
  refine bodyPost_ret (results_ask rfl _ _ W.heap.size _ rfl (heap_alloc_new _ _) rfl _ rfl _ rfl) rfl ?_
  exact ⟨rfl, Later.alloc _ _⟩
set_option maxRecDepth 100000 in
set_option maxHeartbeats 800000 in
theorem dec_1 (ad : Addr) (c : Nat) (a : L) (W : World) (h : Cs W ad [a]) : Dec (.slice (some ad) 1 c) W [a] := by
  have htl : ∀ l, (mkS l).toList = l := toList_mkS
  have hc0 := (h.later (Later.alloc W (.cells #[.bool false, .string ⟨#[]⟩, .string ⟨#[]⟩] 25))).c0
  unfold Dec dec
  rw [← isEmpty_bne]
  obtain ⟨b, hb⟩ : ∃ b, (!a.isEmpty) = b := ⟨_, rfl⟩
  rw [hb]
  have HT := Lib.hid (fun W => told_v b W)
  clear h
  go_enter Tryd.func8, Tryd.ntmps8
  go_wp2_with (go_at_call 11; (try rw [hb]); (with_reducible refine (HT.out _).mono ?_); rintro e w1 ⟨rfl, rfl⟩)
  refine bodyPost_ret (results_ask rfl _ _ W.heap.size _ rfl (heap_alloc_new _ _) rfl _ rfl _ rfl) rfl ?_
  exact ⟨rfl, Later.alloc _ _⟩
set_option maxRecDepth 100000 in
set_option maxHeartbeats 1600000 in
theorem dec_2n (ad : Addr) (c : Nat) (hc : 2 ≤ c) (b : L) (W : World) (h : Cs W ad [[33], b]) : Dec (.slice (some ad) 2 c) W [[33], b] := by
  have htl : ∀ l, (mkS l).toList = l := toList_mkS
  have hl0 := Later.alloc W (.cells #[.bool false, .string ⟨#[]⟩, .string ⟨#[]⟩] 25)
  have hcs := h.later hl0
  have hc0 := hcs.c0
  obtain ⟨d1, hd1⟩ : ∃ d1, d1 = dec [b] := ⟨_, rfl⟩
  obtain ⟨f, hf⟩ : ∃ f, f = turn d1 := ⟨_, rfl⟩
  have HD := Lib.hid (show Calls Tryd.prog 8 #[.slice (some ⟨ad.block, ad.off + 1, none⟩) 1 (c - 1)] (W.alloc (.cells #[.bool false, .string ⟨#[]⟩, .string ⟨#[]⟩] 25)) fun e W' => e = .returned (.tuple #[.int .i64 d1.n, askV d1, .bool d1.asks]) ∧ Later (W.alloc (.cells #[.bool false, .string ⟨#[]⟩, .string ⟨#[]⟩] 25)) W' by rw [hd1]; exact dec_1 _ _ b _ hcs.tail)
  have HT := Lib.hid (show ∀ W, Calls Tryd.prog 14 #[.int .i64 d1.n, askV d1, .bool d1.asks] W fun e W' => e = .returned (.tuple #[.int .i64 f.n, askV f, .bool f.asks]) ∧ Later W W' from fun W => by rw [hf]; exact turned_v d1 W)
  have HBL := Lib.hid (heap_alloc_new W (.cells #[.bool false, .string ⟨#[]⟩, .string ⟨#[]⟩] 25))
  have HL0 := Lib.hid hl0
  have hdd : dec [[33], b] = f := by rw [hf, hd1]; rfl
  unfold Dec DecC
  rw [hdd]
  unfold decV
  have hcn : ¬ c = 1 := by omega
  clear hdd hf hd1 hcs hl0 h
  go_enter Tryd.func8, Tryd.ntmps8
  go_wp2_with (first
    | (go_at_call 8; (with_reducible refine HD.out.mono ?_); rintro e w1 ⟨rfl, hl1⟩; have HL1 := Lib.hid hl1; clear hl1)
    | (go_at_call 14; (with_reducible refine (HT.out _).mono ?_); rintro e w2 ⟨rfl, hl2⟩; have HL2 := Lib.hid (HL1.out.trans hl2); have HST := Lib.hid (And.intro (later_cells HL2.out HBL.out) (And.intro (show (#[.bool false, .string ⟨#[]⟩, .string ⟨#[]⟩] : Array Value).size = 3 from rfl) (And.intro (show (askC f).size = 3 from rfl) (askC_one f)))); clear hl2)
    | (refine wpList_storeA rfl (.tmp 3) (.tmp 60) rfl W.heap.size _ (askC f) rfl rfl HST ?_; intro w3 hb3 hg3; have HB3 := Lib.hid hb3; have HL3 := Lib.hid (later_of_new (HL0.out.trans HL2.out) hg3 (Nat.le_refl _)); clear hb3 hg3))
  refine bodyPost_ret (results_ask rfl _ _ W.heap.size _ rfl HB3.out rfl _ rfl _ rfl) rfl ?_
  exact ⟨rfl, HL3.out⟩
set_option maxRecDepth 100000 in
set_option maxHeartbeats 1600000 in
theorem dec_2a (ad : Addr) (c : Nat) (x y : L) (hx : x ≠ [33]) (W : World) (h : Cs W ad [x, y]) : Dec (.slice (some ad) 2 c) W [x, y] := by
  have htl : ∀ l, (mkS l).toList = l := toList_mkS
  have hl0 := Later.alloc W (.cells #[.bool false, .string ⟨#[]⟩, .string ⟨#[]⟩] 25)
  have hc0 := (h.later hl0).c0
  have HC0 := Lib.hid (show (fun w => Later W w ∧ ∃ cs, cs.size = 3 ∧ w.heap[W.heap.size]? = some (.cells cs 25 (0, 0))) ((W.alloc (.cells #[.bool false, .string ⟨#[]⟩, .string ⟨#[]⟩] 25)).drew) from ⟨hl0.trans (Later.drew _), _, rfl, later_cells (Later.drew _) (heap_alloc_new W _)⟩)
  have HCS := Lib.hid (fun w (hl : Later W w) => h.later hl)
  obtain ⟨f, hf⟩ : ∃ f, f = ahead x y := ⟨_, rfl⟩
  have HAH := Lib.hid (show ∀ W, Calls Tryd.prog 15 #[.string (mkS x), .string (mkS y)] W fun e W' => e = .returned (.tuple #[.int .i64 f.n, askV f, .bool f.asks]) ∧ Later W W' from fun W => by rw [hf]; exact ahead_v x y W)
  have hdd : dec [x, y] = f := by rw [hf]; unfold dec; rw [if_neg hx]
  unfold Dec DecC
  rw [hdd]
  unfold decV
  have q33 : (x == [33]) = false := beq_eq_false_iff_ne.2 hx
  clear hdd hf hl0 h hx
  go_enter Tryd.func8, Tryd.ntmps8
  go_wp2_with fail
  refine wp_region_owes (by kernel_rfl) (fun w => Later W w ∧ ∃ cs, cs.size = 3 ∧ w.heap[W.heap.size]? = some (.cells cs 25 (0, 0))) (Kp W.heap.size (Obj.cells (askC f) 25 (0, 0))) (Kp.refl) [Sp.val (.slice (some ad) 2 c), Sp.val (.pointer (some ad)), Sp.val (.string (mkS x)), Sp.val (.slice (some ad) 2 c), Sp.val (.pointer (some ⟨ad.block, ad.off + 1, none⟩)), Sp.val (.string (mkS y)), Sp.val (.tuple #[.int .i64 f.n, askV f, .bool f.asks]), Sp.val (.int .i64 f.n), Sp.val (askV f), Sp.val (.bool f.asks), Sp.val (.int .i64 f.n), (⟨fun _ w => w.heap[W.heap.size]? = some (Obj.cells (askC f) 25 (0, 0)), fun _ _ _ hg h => hg.fin h⟩ : Sp (Kp W.heap.size (Obj.cells (askC f) 25 (0, 0)))), Sp.val (.bool f.asks)] (by kernel_rfl) (HC0.out) ?_ ?_
  · refine ⟨?_, ?_, ?_, ?_, ?_, ?_, ?_, ?_, ?_, ?_, ?_, ?_, ?_, trivial⟩
    · -- 0: slot 65 := Op.move t0
      refine fun a w hC hs => .inl ⟨?_, ?_⟩
      · rfl
      have e0 : a.tmps.getD 0 undef = .slice (some ad) 2 c := hs.free 0 rfl
      exact ⟨e0, hC, Kp.refl _⟩
    · -- 1: slot 66 := Op.indexAddr 22 t65 (const (0:i64))
      refine fun a w hC hs => .inl ⟨?_, ?_⟩
      · rfl
      have e65 : a.tmps.getD 65 undef = .slice (some ad) 2 c := hs.dep 0 _ rfl rfl
      refine ValWp.pure (v := .pointer (some ad)) (fun K' hK' => ?_) ⟨rfl, hC, Kp.refl _⟩
      simp only [ValWp, execOp, Act.eval, e65]
      go_simp
      all_goals exact hK'
    · -- 2: slot 67 := Op.load 9 t66
      refine fun a w hC hs => .inl ⟨?_, ?_⟩
      · rfl
      have e66 : a.tmps.getD 66 undef = .pointer (some ad) := hs.dep 1 _ rfl rfl
      have hq := (HCS.out w hC.1).c0
      refine ValWp.pure (v := .string (mkS x)) (fun K' hK' => ?_) ⟨rfl, hC, Kp.refl _⟩
      simp only [ValWp, execOp, Act.eval, e66]
      go_simp
      all_goals exact hK'
    · -- 3: slot 68 := Op.move t0
      refine fun a w hC hs => .inl ⟨?_, ?_⟩
      · rfl
      have e0 : a.tmps.getD 0 undef = .slice (some ad) 2 c := hs.free 0 rfl
      exact ⟨e0, hC, Kp.refl _⟩
    · -- 4: slot 69 := Op.indexAddr 22 t68 (const (1:i64))
      refine fun a w hC hs => .inl ⟨?_, ?_⟩
      · rfl
      have e68 : a.tmps.getD 68 undef = .slice (some ad) 2 c := hs.dep 3 _ rfl rfl
      refine ValWp.pure (v := .pointer (some ⟨ad.block, ad.off + 1, none⟩)) (fun K' hK' => ?_) ⟨rfl, hC, Kp.refl _⟩
      simp only [ValWp, execOp, Act.eval, e68]
      go_simp
      all_goals exact hK'
    · -- 5: slot 70 := Op.load 9 t69
      refine fun a w hC hs => .inl ⟨?_, ?_⟩
      · rfl
      have e69 : a.tmps.getD 69 undef = .pointer (some ⟨ad.block, ad.off + 1, none⟩) := hs.dep 4 _ rfl rfl
      have hq := (HCS.out w hC.1).c1
      refine ValWp.pure (v := .string (mkS y)) (fun K' hK' => ?_) ⟨rfl, hC, Kp.refl _⟩
      simp only [ValWp, execOp, Act.eval, e69]
      go_simp
      all_goals exact hK'
    · -- 6: slot 71 := Op.call { value (Operand.func 15), args := #[t67, t70], argTypes := #[9, 9] }
      refine fun a w hC hs => .inl ⟨?_, ?_⟩
      · rfl
      have e67 : a.tmps.getD 67 undef = .string (mkS x) := hs.dep 2 _ rfl rfl
      have e70 : a.tmps.getD 70 undef = .string (mkS y) := hs.dep 5 _ rfl rfl
      refine ValWp.call #[.string (mkS x), .string (mkS y)] rfl rfl Tryd.func15 rfl rfl (by simp only [List.map_toArray, List.map_cons, List.map_nil, Act.eval, e67, e70]) ?_
      refine (HAH.out w).mono ?_
      rintro r w' ⟨rfl, hl⟩
      exact ⟨_, rfl, rfl, ⟨hC.1.trans hl, hC.2.choose, hC.2.choose_spec.1, later_cells hl hC.2.choose_spec.2⟩, Kp.later hl⟩
    · -- 7: slot 72 := Op.extract t71 0
      refine fun a w hC hs => .inl ⟨?_, ?_⟩
      · rfl
      have e71 : a.tmps.getD 71 undef = .tuple #[.int .i64 f.n, askV f, .bool f.asks] := hs.dep 6 _ rfl rfl
      refine ValWp.pure (v := .int .i64 f.n) (fun K' hK' => ?_) ⟨rfl, hC, Kp.refl _⟩
      simp only [ValWp, execOp, Act.eval, e71]
      go_simp
      all_goals exact hK'
    · -- 8: slot 73 := Op.extract t71 1
      refine fun a w hC hs => .inl ⟨?_, ?_⟩
      · rfl
      have e71 : a.tmps.getD 71 undef = .tuple #[.int .i64 f.n, askV f, .bool f.asks] := hs.dep 6 _ rfl rfl
      refine ValWp.pure (v := askV f) (fun K' hK' => ?_) ⟨rfl, hC, Kp.refl _⟩
      simp only [ValWp, execOp, Act.eval, e71]
      go_simp
      all_goals exact hK'
    · -- 9: slot 74 := Op.extract t71 2
      refine fun a w hC hs => .inl ⟨?_, ?_⟩
      · rfl
      have e71 : a.tmps.getD 71 undef = .tuple #[.int .i64 f.n, askV f, .bool f.asks] := hs.dep 6 _ rfl rfl
      refine ValWp.pure (v := .bool f.asks) (fun K' hK' => ?_) ⟨rfl, hC, Kp.refl _⟩
      simp only [ValWp, execOp, Act.eval, e71]
      go_simp
      all_goals exact hK'
    · -- 10: slot 2 := Op.assign t72
      refine fun a w hC hs => .inl ⟨?_, ?_⟩
      · rfl
      have e72 : a.tmps.getD 72 undef = .int .i64 f.n := hs.dep 7 _ rfl rfl
      exact ⟨e72, hC, Kp.refl _⟩
    · -- 11: slot None := Op.store 25 t3 t73
      refine fun a w hC hs => .inl ⟨?_, ?_⟩
      · rfl
      have e3 : a.tmps.getD 3 undef = .pointer (some ⟨W.heap.size, 0, none⟩) := hs.free 3 rfl
      have e73 : a.tmps.getD 73 undef = askV f := hs.dep 8 _ rfl rfl
      obtain ⟨hc1, cs, hc3, hc4⟩ := hC
      obtain ⟨w', h1, h2, h3, _⟩ := ask_store hc4 hc3 rfl (askC_one f)
      exact ValWp.storeR rfl e3 e73 h1 ⟨h2, ⟨later_of_new hc1 h3 (Nat.le_refl _), _, rfl, h2⟩, Kp.store h3 h2⟩
    · -- 12: slot 4 := Op.assign t74
      refine fun a w hC hs => .inl ⟨?_, ?_⟩
      · rfl
      have e74 : a.tmps.getD 74 undef = .bool f.asks := hs.dep 9 _ rfl rfl
      exact ⟨e74, hC, Kp.refl _⟩
  · intro a w6 hC hd hsz hfree hs
    have HFN := Lib.hid (hs 11 _ rfl)
    have HC6 := Lib.hid hC
    obtain ⟨u65, hu65⟩ : ∃ u, u = a.tmps.getD 65 undef := ⟨_, rfl⟩
    obtain ⟨u66, hu66⟩ : ∃ u, u = a.tmps.getD 66 undef := ⟨_, rfl⟩
    obtain ⟨u67, hu67⟩ : ∃ u, u = a.tmps.getD 67 undef := ⟨_, rfl⟩
    obtain ⟨u68, hu68⟩ : ∃ u, u = a.tmps.getD 68 undef := ⟨_, rfl⟩
    obtain ⟨u69, hu69⟩ : ∃ u, u = a.tmps.getD 69 undef := ⟨_, rfl⟩
    obtain ⟨u70, hu70⟩ : ∃ u, u = a.tmps.getD 70 undef := ⟨_, rfl⟩
    obtain ⟨u71, hu71⟩ : ∃ u, u = a.tmps.getD 71 undef := ⟨_, rfl⟩
    obtain ⟨u72, hu72⟩ : ∃ u, u = a.tmps.getD 72 undef := ⟨_, rfl⟩
    obtain ⟨u73, hu73⟩ : ∃ u, u = a.tmps.getD 73 undef := ⟨_, rfl⟩
    obtain ⟨u74, hu74⟩ : ∃ u, u = a.tmps.getD 74 undef := ⟨_, rfl⟩
    have hal : AllAt a 0 [_, _, .int .i64 f.n, .pointer (some ⟨W.heap.size, 0, none⟩), .bool f.asks, _, _, _, _, _, _, _, _, _, _, _, _, _, _, _, _, _, _, _, _, _, _, _, _, _, _, _, _, _, _, _, _, _, _, _, _, _, _, _, _, _, _, _, _, _, _, _, _, _, _, _, _, _, _, _, _, _, _, _, _, u65, u66, u67, u68, u69, u70, u71, u72, u73, u74, _] := ⟨hfree 0 rfl, hfree 1 rfl, hs 10 _ rfl, hfree 3 rfl, hs 12 _ rfl, hfree 5 rfl, hfree 6 rfl, hfree 7 rfl, hfree 8 rfl, hfree 9 rfl, hfree 10 rfl, hfree 11 rfl, hfree 12 rfl, hfree 13 rfl, hfree 14 rfl, hfree 15 rfl, hfree 16 rfl, hfree 17 rfl, hfree 18 rfl, hfree 19 rfl, hfree 20 rfl, hfree 21 rfl, hfree 22 rfl, hfree 23 rfl, hfree 24 rfl, hfree 25 rfl, hfree 26 rfl, hfree 27 rfl, hfree 28 rfl, hfree 29 rfl, hfree 30 rfl, hfree 31 rfl, hfree 32 rfl, hfree 33 rfl, hfree 34 rfl, hfree 35 rfl, hfree 36 rfl, hfree 37 rfl, hfree 38 rfl, hfree 39 rfl, hfree 40 rfl, hfree 41 rfl, hfree 42 rfl, hfree 43 rfl, hfree 44 rfl, hfree 45 rfl, hfree 46 rfl, hfree 47 rfl, hfree 48 rfl, hfree 49 rfl, hfree 50 rfl, hfree 51 rfl, hfree 52 rfl, hfree 53 rfl, hfree 54 rfl, hfree 55 rfl, hfree 56 rfl, hfree 57 rfl, hfree 58 rfl, hfree 59 rfl, hfree 60 rfl, hfree 61 rfl, hfree 62 rfl, hfree 63 rfl, hfree 64 rfl, hu65.symm, hu66.symm, hu67.symm, hu68.symm, hu69.symm, hu70.symm, hu71.symm, hu72.symm, hu73.symm, hu74.symm, hfree 75 rfl, trivial⟩
    have hlit := fun h => act_lit hd h hal
    rw [hlit hsz]
    simp only [Array.getD_eq_getD_getElem?, List.getElem?_toArray, List.getElem?_cons_zero, List.getElem?_cons_succ, Option.getD_some]
    clear hlit hal hd hsz hfree hs hu65 hu66 hu67 hu68 hu69 hu70 hu71 hu72 hu73 hu74
    clear hC
    go_wp2
    refine bodyPost_ret (results_ask rfl _ _ W.heap.size _ rfl HFN.out rfl _ rfl _ rfl) rfl ?_
    exact ⟨rfl, HC6.out.1⟩
set_option maxRecDepth 100000 in
set_option maxHeartbeats 3200000 in
theorem dec_3m (ad : Addr) (c : Nat) (x y z : L) (r : Int) (hm : mid y x z = some r) (hs : Short [x, y, z]) (W : World) (hvd : Vd W) (h : Cs W ad [x, y, z]) : Dec (.slice (some ad) 3 c) W [x, y, z] := by
  have htl : ∀ l, (mkS l).toList = l := toList_mkS
  have hl0 := Later.alloc W (.cells #[.bool false, .string ⟨#[]⟩, .string ⟨#[]⟩] 25)
  have hio : isOp y = true := by rw [← mid_isOp y x z, hm]; rfl
  have HSH := Lib.hid (show isOp y = true ∧ y.length ≤ 2000000 ∧ x.length ≤ 2000000 ∧ z.length ≤ 2000000 ∧ (mid y x z).getD 2 = r from ⟨hio, hs y (by simp), hs x (by simp), hs z (by simp), by rw [hm]; rfl⟩)
  have HVD := Lib.hid hvd
  have hc1 := (h.later hl0).c1
  have HCW := Lib.hid (fun w (hl : Later (W.alloc (.cells #[.bool false, .string ⟨#[]⟩, .string ⟨#[]⟩] 25)) w) => h.later (hl0.trans hl))
  have HST := Lib.hid (show ∀ w, Calls Tryd.prog 12 #[.string (mkS y)] w fun e w' => e = .returned (.bool true) ∧ Later w w' from fun w => by have := stands_v y (hs y (by simp)) w; rwa [hio] at this)
  have HCS := Lib.hid (fun w (hl : Later W w) => h.later hl)
  have HBL := Lib.hid (heap_alloc_new W (.cells #[.bool false, .string ⟨#[]⟩, .string ⟨#[]⟩] 25))
  have HL0 := Lib.hid hl0
  obtain ⟨f, hf⟩ : ∃ f, f = val0 r := ⟨_, rfl⟩
  have HAC := Lib.hid (show askV f = .agg #[.bool false, .string ⟨#[]⟩, .string ⟨#[]⟩] by rw [hf]; rfl)
  have hdd : dec [x, y, z] = f := by rw [hf]; unfold dec; rw [hm]
  have HDV := Lib.hid (show decV f = .tuple #[.int .i64 r, askV f, .bool false] by rw [hf]; rfl)
  unfold Dec DecC
  rw [hdd, HDV.out]
  clear hdd hf hl0 h hs hvd hm hio
  go_enter Tryd.func8, Tryd.ntmps8
  go_wp2_with fail
  go_at_call 12
  with_reducible refine (HST.out _).mono ?_
  rintro e w1 ⟨rfl, hl1⟩
  have HL1 := Lib.hid (HL0.out.trans hl1)
  have HC0 := Lib.hid (show (fun w => Later W w ∧ ∃ cs, cs.size = 3 ∧ w.heap[W.heap.size]? = some (.cells cs 25 (0, 0))) w1.drew from ⟨HL1.out.trans (Later.drew _), _, rfl, later_cells (hl1.trans (Later.drew _)) HBL.out⟩)
  clear hl1
  go_wp2_with fail
  refine wp_region_owes (by kernel_rfl) (fun w => Later W w ∧ ∃ cs, cs.size = 3 ∧ w.heap[W.heap.size]? = some (.cells cs 25 (0, 0))) (Kp W.heap.size (Obj.cells (askC f) 25 (0, 0))) (Kp.refl) [(⟨fun v w => ∃ m, v = .map (some m) ∧ Bet (W.heap.size + 1) w m, fun _ _ _ hg ⟨m, h1, h2⟩ => ⟨m, h1, h2.fr (Nat.lt_succ_self _) hg.fr⟩⟩ : Sp (Kp W.heap.size (Obj.cells (askC f) 25 (0, 0)))), Sp.val (.slice (some ad) 3 c), Sp.val (.pointer (some ⟨ad.block, ad.off + 1, none⟩)), Sp.val (.string (mkS y)), (⟨fun v w => ∃ u, v = u ∧ FnOk W.heap.size w u y, fun _ _ _ hg ⟨u, h1, h2⟩ => ⟨u, h1, h2.fr hg.fr⟩⟩ : Sp (Kp W.heap.size (Obj.cells (askC f) 25 (0, 0)))), Sp.val (.slice (some ad) 3 c), Sp.val (.pointer (some ad)), Sp.val (.string (mkS x)), Sp.val (.slice (some ad) 3 c), Sp.val (.pointer (some ⟨ad.block, ad.off + 2, none⟩)), Sp.val (.string (mkS z)), Sp.val (.int .i64 r), Sp.val (askV f), Sp.val (.int .i64 r), (⟨fun _ w => w.heap[W.heap.size]? = some (Obj.cells (askC f) 25 (0, 0)), fun _ _ _ hg h => hg.fin h⟩ : Sp (Kp W.heap.size (Obj.cells (askC f) 25 (0, 0)))), Sp.val (.bool false)] (by kernel_rfl) (HC0.out) ?_ ?_
  · refine ⟨?_, ?_, ?_, ?_, ?_, ?_, ?_, ?_, ?_, ?_, ?_, ?_, ?_, ?_, ?_, ?_, trivial⟩
    · -- 0: slot 30 := Op.call { value (Operand.func 13), args := #[], argTypes := #[] }
      refine fun a w hC hs => .inl ⟨?_, ?_⟩
      · rfl
      refine ValWp.call #[] rfl rfl Tryd.func13 rfl rfl (by simp only [List.map_toArray, List.map_nil]) ?_
      refine (between_v w).mono ?_
      rintro r w' ⟨rfl, hb, hl⟩
      exact ⟨_, rfl, ⟨_, rfl, hb.less (Nat.lt_of_lt_of_le (lt_of_block hC.2.choose_spec.2) (Nat.le_refl _))⟩, ⟨hC.1.trans hl, hC.2.choose, hC.2.choose_spec.1, later_cells hl hC.2.choose_spec.2⟩, Kp.later hl⟩
    · -- 1: slot 31 := Op.move t0
      refine fun a w hC hs => .inl ⟨?_, ?_⟩
      · rfl
      have e0 : a.tmps.getD 0 undef = .slice (some ad) 3 c := hs.free 0 rfl
      exact ⟨e0, hC, Kp.refl _⟩
    · -- 2: slot 32 := Op.indexAddr 22 t31 (const (1:i64))
      refine fun a w hC hs => .inl ⟨?_, ?_⟩
      · rfl
      have e31 : a.tmps.getD 31 undef = .slice (some ad) 3 c := hs.dep 1 _ rfl rfl
      refine ValWp.pure (v := .pointer (some ⟨ad.block, ad.off + 1, none⟩)) (fun K' hK' => ?_) ⟨rfl, hC, Kp.refl _⟩
      simp only [ValWp, execOp, Act.eval, e31]
      go_simp
      all_goals exact hK'
    · -- 3: slot 33 := Op.load 9 t32
      refine fun a w hC hs => .inl ⟨?_, ?_⟩
      · rfl
      have e32 : a.tmps.getD 32 undef = .pointer (some ⟨ad.block, ad.off + 1, none⟩) := hs.dep 2 _ rfl rfl
      have hq := (HCS.out w hC.1).c1
      refine ValWp.pure (v := .string (mkS y)) (fun K' hK' => ?_) ⟨rfl, hC, Kp.refl _⟩
      simp only [ValWp, execOp, Act.eval, e32]
      go_simp
      all_goals exact hK'
    · -- 4: slot 34 := Op.lookup 41 t30 t33 false
      refine fun a w hC hs => .inl ⟨?_, ?_⟩
      · rfl
      obtain ⟨m30, e30, h30⟩ := hs.dep 0 _ rfl rfl
      change a.tmps.getD 30 undef = _ at e30
      have e33 : a.tmps.getD 33 undef = .string (mkS y) := hs.dep 3 _ rfl rfl
      obtain ⟨v, _, hlk, hok⟩ := h30.look (g := W.heap.size) (Nat.le_succ _) y HSH.out.2.1
      refine ValWp.pure (v := v) (fun K' hK' => ?_) ⟨⟨v, rfl, hok HSH.out.1⟩, hC, Kp.refl _⟩
      simp only [ValWp, execOp, Act.eval, e30, e33]
      simp only [Sem.run_bind, hlk, Result.andThen_ok, Sem.run_pure]
      all_goals exact hK'
    · -- 5: slot 35 := Op.move t0
      refine fun a w hC hs => .inl ⟨?_, ?_⟩
      · rfl
      have e0 : a.tmps.getD 0 undef = .slice (some ad) 3 c := hs.free 0 rfl
      exact ⟨e0, hC, Kp.refl _⟩
    · -- 6: slot 36 := Op.indexAddr 22 t35 (const (0:i64))
      refine fun a w hC hs => .inl ⟨?_, ?_⟩
      · rfl
      have e35 : a.tmps.getD 35 undef = .slice (some ad) 3 c := hs.dep 5 _ rfl rfl
      refine ValWp.pure (v := .pointer (some ad)) (fun K' hK' => ?_) ⟨rfl, hC, Kp.refl _⟩
      simp only [ValWp, execOp, Act.eval, e35]
      go_simp
      all_goals exact hK'
    · -- 7: slot 37 := Op.load 9 t36
      refine fun a w hC hs => .inl ⟨?_, ?_⟩
      · rfl
      have e36 : a.tmps.getD 36 undef = .pointer (some ad) := hs.dep 6 _ rfl rfl
      have hq := (HCS.out w hC.1).c0
      refine ValWp.pure (v := .string (mkS x)) (fun K' hK' => ?_) ⟨rfl, hC, Kp.refl _⟩
      simp only [ValWp, execOp, Act.eval, e36]
      go_simp
      all_goals exact hK'
    · -- 8: slot 38 := Op.move t0
      refine fun a w hC hs => .inl ⟨?_, ?_⟩
      · rfl
      have e0 : a.tmps.getD 0 undef = .slice (some ad) 3 c := hs.free 0 rfl
      exact ⟨e0, hC, Kp.refl _⟩
    · -- 9: slot 39 := Op.indexAddr 22 t38 (const (2:i64))
      refine fun a w hC hs => .inl ⟨?_, ?_⟩
      · rfl
      have e38 : a.tmps.getD 38 undef = .slice (some ad) 3 c := hs.dep 8 _ rfl rfl
      refine ValWp.pure (v := .pointer (some ⟨ad.block, ad.off + 2, none⟩)) (fun K' hK' => ?_) ⟨rfl, hC, Kp.refl _⟩
      simp only [ValWp, execOp, Act.eval, e38]
      go_simp
      all_goals exact hK'
    · -- 10: slot 40 := Op.load 9 t39
      refine fun a w hC hs => .inl ⟨?_, ?_⟩
      · rfl
      have e39 : a.tmps.getD 39 undef = .pointer (some ⟨ad.block, ad.off + 2, none⟩) := hs.dep 9 _ rfl rfl
      have hq := (HCS.out w hC.1).c2
      refine ValWp.pure (v := .string (mkS z)) (fun K' hK' => ?_) ⟨rfl, hC, Kp.refl _⟩
      simp only [ValWp, execOp, Act.eval, e39]
      go_simp
      all_goals exact hK'
    · -- 11: slot 41 := Op.call { value t34, args := #[t37, t40], argTypes := #[9, 9] }
      refine fun a w hC hs => .inl ⟨?_, ?_⟩
      · rfl
      obtain ⟨v34, e34, h34⟩ := hs.dep 4 _ rfl rfl
      change a.tmps.getD 34 undef = _ at e34
      have e37 : a.tmps.getD 37 undef = .string (mkS x) := hs.dep 7 _ rfl rfl
      have e40 : a.tmps.getD 40 undef = .string (mkS z) := hs.dep 10 _ rfl rfl
      obtain ⟨F, cap, rfl, hen, hfn⟩ := h34
      refine ValWp.callV (cap := cap) (.tmp 34) #[.string (mkS x), .string (mkS z)] rfl e34 hen (by simp only [List.map_toArray, List.map_cons, List.map_nil, Act.eval, e37, e40]) ?_
      have hcl := hfn x z HSH.out.2.2.1 HSH.out.2.2.2.1 w (Fr.refl _ _) (HVD.out.later hC.1)
      rw [HSH.out.2.2.2.2] at hcl
      refine hcl.mono ?_
      rintro r w' ⟨rfl, hl⟩
      exact ⟨_, rfl, rfl, ⟨hC.1.trans hl, hC.2.choose, hC.2.choose_spec.1, later_cells hl hC.2.choose_spec.2⟩, Kp.later hl⟩
    · -- 12: slot 42 := Op.build 25 #[]
      refine fun a w hC hs => .inl ⟨?_, ?_⟩
      · rfl
      refine ValWp.pure (v := askV f) (fun K' hK' => ?_) ⟨rfl, hC, Kp.refl _⟩
      simp only [ValWp, execOp, Act.eval, List.map_toArray, List.map_nil]
      go_simp
      all_goals (rw [HAC.out] at hK'; exact hK')
    · -- 13: slot 2 := Op.assign t41
      refine fun a w hC hs => .inl ⟨?_, ?_⟩
      · rfl
      have e41 : a.tmps.getD 41 undef = .int .i64 r := hs.dep 11 _ rfl rfl
      exact ⟨e41, hC, Kp.refl _⟩
    · -- 14: slot None := Op.store 25 t3 t42
      refine fun a w hC hs => .inl ⟨?_, ?_⟩
      · rfl
      have e3 : a.tmps.getD 3 undef = .pointer (some ⟨W.heap.size, 0, none⟩) := hs.free 3 rfl
      have e42 : a.tmps.getD 42 undef = askV f := hs.dep 12 _ rfl rfl
      obtain ⟨hc1, cs, hc3, hc4⟩ := hC
      obtain ⟨w', h1, h2, h3, _⟩ := ask_store hc4 hc3 rfl (askC_one f)
      exact ValWp.storeR rfl e3 e42 h1 ⟨h2, ⟨later_of_new hc1 h3 (Nat.le_refl _), _, rfl, h2⟩, Kp.store h3 h2⟩
    · -- 15: slot 4 := Op.assign (const (Value.bool false))
      refine fun a w hC hs => .inl ⟨?_, ?_⟩
      · rfl
      exact ⟨rfl, hC, Kp.refl _⟩
  · intro a w6 hC hd hsz hfree hs
    have HFN := Lib.hid (hs 14 _ rfl)
    have HC6 := Lib.hid hC
    obtain ⟨u30, hu30⟩ : ∃ u, u = a.tmps.getD 30 undef := ⟨_, rfl⟩
    obtain ⟨u31, hu31⟩ : ∃ u, u = a.tmps.getD 31 undef := ⟨_, rfl⟩
    obtain ⟨u32, hu32⟩ : ∃ u, u = a.tmps.getD 32 undef := ⟨_, rfl⟩
    obtain ⟨u33, hu33⟩ : ∃ u, u = a.tmps.getD 33 undef := ⟨_, rfl⟩
    obtain ⟨u34, hu34⟩ : ∃ u, u = a.tmps.getD 34 undef := ⟨_, rfl⟩
    obtain ⟨u35, hu35⟩ : ∃ u, u = a.tmps.getD 35 undef := ⟨_, rfl⟩
    obtain ⟨u36, hu36⟩ : ∃ u, u = a.tmps.getD 36 undef := ⟨_, rfl⟩
    obtain ⟨u37, hu37⟩ : ∃ u, u = a.tmps.getD 37 undef := ⟨_, rfl⟩
    obtain ⟨u38, hu38⟩ : ∃ u, u = a.tmps.getD 38 undef := ⟨_, rfl⟩
    obtain ⟨u39, hu39⟩ : ∃ u, u = a.tmps.getD 39 undef := ⟨_, rfl⟩
    obtain ⟨u40, hu40⟩ : ∃ u, u = a.tmps.getD 40 undef := ⟨_, rfl⟩
    obtain ⟨u41, hu41⟩ : ∃ u, u = a.tmps.getD 41 undef := ⟨_, rfl⟩
    obtain ⟨u42, hu42⟩ : ∃ u, u = a.tmps.getD 42 undef := ⟨_, rfl⟩
    have hal : AllAt a 0 [_, _, .int .i64 r, .pointer (some ⟨W.heap.size, 0, none⟩), .bool false, _, _, _, _, _, _, _, _, _, _, _, _, _, _, _, _, _, _, _, _, _, _, _, _, _, u30, u31, u32, u33, u34, u35, u36, u37, u38, u39, u40, u41, u42, _, _, _, _, _, _, _, _, _, _, _, _, _, _, _, _, _, _, _, _, _, _, _, _, _, _, _, _, _, _, _, _, _] := ⟨hfree 0 rfl, hfree 1 rfl, hs 13 _ rfl, hfree 3 rfl, hs 15 _ rfl, hfree 5 rfl, hfree 6 rfl, hfree 7 rfl, hfree 8 rfl, hfree 9 rfl, hfree 10 rfl, hfree 11 rfl, hfree 12 rfl, hfree 13 rfl, hfree 14 rfl, hfree 15 rfl, hfree 16 rfl, hfree 17 rfl, hfree 18 rfl, hfree 19 rfl, hfree 20 rfl, hfree 21 rfl, hfree 22 rfl, hfree 23 rfl, hfree 24 rfl, hfree 25 rfl, hfree 26 rfl, hfree 27 rfl, hfree 28 rfl, hfree 29 rfl, hu30.symm, hu31.symm, hu32.symm, hu33.symm, hu34.symm, hu35.symm, hu36.symm, hu37.symm, hu38.symm, hu39.symm, hu40.symm, hu41.symm, hu42.symm, hfree 43 rfl, hfree 44 rfl, hfree 45 rfl, hfree 46 rfl, hfree 47 rfl, hfree 48 rfl, hfree 49 rfl, hfree 50 rfl, hfree 51 rfl, hfree 52 rfl, hfree 53 rfl, hfree 54 rfl, hfree 55 rfl, hfree 56 rfl, hfree 57 rfl, hfree 58 rfl, hfree 59 rfl, hfree 60 rfl, hfree 61 rfl, hfree 62 rfl, hfree 63 rfl, hfree 64 rfl, hfree 65 rfl, hfree 66 rfl, hfree 67 rfl, hfree 68 rfl, hfree 69 rfl, hfree 70 rfl, hfree 71 rfl, hfree 72 rfl, hfree 73 rfl, hfree 74 rfl, hfree 75 rfl, trivial⟩
    have hlit := fun h => act_lit hd h hal
    rw [hlit hsz]
    simp only [Array.getD_eq_getD_getElem?, List.getElem?_toArray, List.getElem?_cons_zero, List.getElem?_cons_succ, Option.getD_some]
    clear hlit hal hd hsz hfree hs hu30 hu31 hu32 hu33 hu34 hu35 hu36 hu37 hu38 hu39 hu40 hu41 hu42
    clear hC
    go_wp2
    refine bodyPost_ret (results_ask rfl _ _ W.heap.size _ rfl HFN.out rfl _ rfl _ rfl) rfl ?_
    exact ⟨rfl, HC6.out.1⟩
end Ar
end Go.Proofs.YtjidclefpmcgoaaDoor
