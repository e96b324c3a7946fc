/- What Decide tells: of three, of four, of any. The listed variables: their condition. -/
import Derived.Test.YtjidclefpmcgoaaDoorYo
namespace Go.Proofs.YtjidclefpmcgoaaDoor
open Go.RowKit Go.Maps
namespace Ar
theorem dec_2 (ad : Addr) (c : Nat) (hc : 2 ≤ c) (x y : L) (W : World) (h : Cs W ad [x, y]) : Dec (.slice (some ad) 2 c) W [x, y] := by
  by_cases hx : x = [33]
  · subst hx; exact dec_2n ad c hc y W h
  · exact dec_2a ad c x y hx W h
set_option maxRecDepth 100000 in
set_option maxHeartbeats 1600000 in
theorem dec_3n (ad : Addr) (c : Nat) (hc : 3 ≤ c) (y z : L) (hs : Short [[33], y, z]) (hio : isOp y = false) (hm : mid y [33] z = none) (W : World) (h : Cs W ad [[33], y, z]) : Dec (.slice (some ad) 3 c) W [[33], y, z] := by
  have htl : ∀ l, (mkS l).toList = l := toList_mkS
  have hl0 := Later.alloc W (.cells #[.bool false, .string ⟨#[]⟩, .string ⟨#[]⟩] 25)
  have HCW := Lib.hid (fun w (hl : Later (W.alloc (.cells #[.bool false, .string ⟨#[]⟩, .string ⟨#[]⟩] 25)) w) => h.later (hl0.trans hl))
  have hc1 := (h.later hl0).c1
  have HST := Lib.hid (show ∀ w, Calls Tryd.prog 12 #[.string (mkS y)] w fun e w' => e = .returned (.bool false) ∧ Later w w' from fun w => by have := stands_v y (hs _ (by simp)) w; rwa [hio] at this)
  obtain ⟨d1, hd1⟩ : ∃ d1, d1 = dec [y, z] := ⟨_, rfl⟩
  obtain ⟨f, hf⟩ : ∃ f, f = turn d1 := ⟨_, rfl⟩
  have HD := Lib.hid (show ∀ w, Later (W.alloc (.cells #[.bool false, .string ⟨#[]⟩, .string ⟨#[]⟩] 25)) w → Calls Tryd.prog 8 #[.slice (some ⟨ad.block, ad.off + 1, none⟩) 2 (c - 1)] w fun e W' => e = .returned (.tuple #[.int .i64 d1.n, askV d1, .bool d1.asks]) ∧ Later w W' from fun w hl => by rw [hd1]; exact dec_2 _ _ (by omega) y z w (h.later (hl0.trans hl)).tail)
  have HT := Lib.hid (show ∀ W, Calls Tryd.prog 14 #[.int .i64 d1.n, askV d1, .bool d1.asks] W fun e W' => e = .returned (.tuple #[.int .i64 f.n, askV f, .bool f.asks]) ∧ Later W W' from fun W => by rw [hf]; exact turned_v d1 W)
  have HBL := Lib.hid (heap_alloc_new W (.cells #[.bool false, .string ⟨#[]⟩, .string ⟨#[]⟩] 25))
  have HL0 := Lib.hid hl0
  have hdd : dec [[33], y, z] = f := by rw [hf, hd1]; unfold dec; rw [hm]; rfl
  unfold Dec DecC
  rw [hdd]
  unfold decV
  have hcn : ¬ c = 1 := by omega
  clear hdd hf hd1 hl0 h hs hio hm
  go_enter Tryd.func8, Tryd.ntmps8
  go_wp2_with (first
    | (go_at_call 12; (with_reducible refine (HST.out _).mono ?_); rintro e w1 ⟨rfl, hl1⟩; have HL1 := Lib.hid hl1; have hc0 := (HCW.out _ hl1).c0; clear hl1)
    | (go_at_call 8; (with_reducible refine (HD.out _ HL1.out).mono ?_); rintro e w2 ⟨rfl, hl2⟩; have HL2 := Lib.hid (HL1.out.trans hl2); clear hl2)
    | (go_at_call 14; (with_reducible refine (HT.out _).mono ?_); rintro e w3 ⟨rfl, hl3⟩; have HL3 := Lib.hid (HL2.out.trans hl3); have HSS := Lib.hid (And.intro (later_cells HL3.out HBL.out) (And.intro (show (#[.bool false, .string ⟨#[]⟩, .string ⟨#[]⟩] : Array Value).size = 3 from rfl) (And.intro (show (askC f).size = 3 from rfl) (askC_one f)))); clear hl3)
    | (refine wpList_storeA rfl (.tmp 3) (.tmp 60) rfl W.heap.size _ (askC f) rfl rfl HSS ?_; intro w4 hb4 hg4; have HB4 := Lib.hid hb4; have HL4 := Lib.hid (later_of_new (HL0.out.trans HL3.out) hg4 (Nat.le_refl _)); clear hb4 hg4))
  refine bodyPost_ret (results_ask rfl _ _ W.heap.size _ rfl HB4.out rfl _ rfl _ rfl) rfl ?_
  exact ⟨rfl, HL4.out⟩
set_option maxRecDepth 100000 in
set_option maxHeartbeats 1600000 in
theorem dec_3o (ad : Addr) (c : Nat) (x y z : L) (hs : Short [x, y, z]) (hio : isOp y = false) (hm : mid y x z = none) (hx : x ≠ [33]) (W : World) (h : Cs W ad [x, y, z]) : Dec (.slice (some ad) 3 c) W [x, y, z] := by
  have htl : ∀ l, (mkS l).toList = l := toList_mkS
  have hl0 := Later.alloc W (.cells #[.bool false, .string ⟨#[]⟩, .string ⟨#[]⟩] 25)
  have HCW := Lib.hid (fun w (hl : Later (W.alloc (.cells #[.bool false, .string ⟨#[]⟩, .string ⟨#[]⟩] 25)) w) => h.later (hl0.trans hl))
  have hc1 := (h.later hl0).c1
  have HST := Lib.hid (show ∀ w, Calls Tryd.prog 12 #[.string (mkS y)] w fun e w' => e = .returned (.bool false) ∧ Later w w' from fun w => by have := stands_v y (hs y (by simp)) w; rwa [hio] at this)
  have HBL := Lib.hid (heap_alloc_new W (.cells #[.bool false, .string ⟨#[]⟩, .string ⟨#[]⟩] 25))
  have HL0 := Lib.hid hl0
  have hdd : dec [x, y, z] = val0 2 := by unfold dec; rw [hm]; simp [hx]
  have q33 : (x == [33]) = false := beq_eq_false_iff_ne.2 hx
  unfold Dec DecC
  rw [hdd]
  have HSZ := Lib.hid (And.intro (show (#[.bool false, .string ⟨#[]⟩, .string ⟨#[]⟩] : Array Value).size = 3 from rfl) (And.intro (show (askC (val0 2)).size = 3 from rfl) (askC_one (val0 2))))
  clear hdd hl0 h hs hx hio hm
  go_enter Tryd.func8, Tryd.ntmps8
  go_wp2_with (first
    | (go_at_call 12; (with_reducible refine (HST.out _).mono ?_); rintro e w1 ⟨rfl, hl1⟩; have HL1 := Lib.hid hl1; have hc0 := (HCW.out _ hl1).c0; have HSS := Lib.hid (And.intro (later_cells hl1 HBL.out) HSZ.out); clear hl1)
    | (refine wpList_storeA rfl (.tmp 3) (.tmp 75) rfl W.heap.size _ (askC (val0 2)) rfl rfl HSS ?_; intro w4 hb4 hg4; have HB4 := Lib.hid hb4; have HL4 := Lib.hid (later_of_new (HL0.out.trans HL1.out) hg4 (Nat.le_refl _)); clear hb4 hg4)
    | fail)
  refine bodyPost_ret (results_ask rfl _ _ W.heap.size _ rfl HB4.out rfl _ rfl _ rfl) rfl ?_
  exact ⟨rfl, HL4.out⟩
theorem dec_3 (ad : Addr) (c : Nat) (hc : 3 ≤ c) (x y z : L) (hs : Short [x, y, z]) (W : World) (hvd : Vd W) (h : Cs W ad [x, y, z]) : Dec (.slice (some ad) 3 c) W [x, y, z] := by
  cases hm : mid y x z with
  | some r => exact dec_3m ad c x y z r hm hs W hvd h
  | none =>
    have hio : isOp y = false := by rw [← mid_isOp y x z, hm]; rfl
    by_cases hx : x = [33]
    · subst hx; exact dec_3n ad c hc y z hs hio hm W h
    · exact dec_3o ad c x y z hs hio hm hx W h
set_option maxRecDepth 100000 in
set_option maxHeartbeats 1600000 in
theorem dec_4n (ad : Addr) (c : Nat) (hc : 4 ≤ c) (y z u : L) (hs : Short [[33], y, z, u]) (W : World) (hvd : Vd W) (h : Cs W ad [[33], y, z, u]) : Dec (.slice (some ad) 4 c) W [[33], y, z, u] := by
  have htl : ∀ l, (mkS l).toList = l := toList_mkS
  have hl0 := Later.alloc W (.cells #[.bool false, .string ⟨#[]⟩, .string ⟨#[]⟩] 25)
  have HCW := Lib.hid (fun w (hl : Later (W.alloc (.cells #[.bool false, .string ⟨#[]⟩, .string ⟨#[]⟩] 25)) w) => h.later (hl0.trans hl))
  have hc0 := (h.later hl0).c0
  obtain ⟨d1, hd1⟩ : ∃ d1, d1 = dec [y, z, u] := ⟨_, rfl⟩
  obtain ⟨f, hf⟩ : ∃ f, f = turn d1 := ⟨_, rfl⟩
  have HD := Lib.hid (show ∀ w, Later (W.alloc (.cells #[.bool false, .string ⟨#[]⟩, .string ⟨#[]⟩] 25)) w → Calls Tryd.prog 8 #[.slice (some ⟨ad.block, ad.off + 1, none⟩) 3 (c - 1)] w fun e W' => e = .returned (.tuple #[.int .i64 d1.n, askV d1, .bool d1.asks]) ∧ Later w W' from fun w hl => by rw [hd1]; exact dec_3 _ _ (by omega) y z u (fun t ht => hs t (by simp only [List.mem_cons] at ht ⊢; exact .inr ht)) w (hvd.later (hl0.trans hl)) (h.later (hl0.trans hl)).tail)
  have HT := Lib.hid (show ∀ W, Calls Tryd.prog 14 #[.int .i64 d1.n, askV d1, .bool d1.asks] W fun e W' => e = .returned (.tuple #[.int .i64 f.n, askV f, .bool f.asks]) ∧ Later W W' from fun W => by rw [hf]; exact turned_v d1 W)
  have HBL := Lib.hid (heap_alloc_new W (.cells #[.bool false, .string ⟨#[]⟩, .string ⟨#[]⟩] 25))
  have HL0 := Lib.hid hl0
  have hdd : dec [[33], y, z, u] = f := by rw [hf, hd1]; rfl
  unfold Dec DecC
  rw [hdd]
  unfold decV
  have hcn : ¬ c = 1 := by omega
  clear hdd hf hd1 hl0 h hs hvd
  go_enter Tryd.func8, Tryd.ntmps8
  go_wp2_with (first
    | (go_at_call 8; (with_reducible refine (HD.out _ (Later.refl _)).mono ?_); rintro e w2 ⟨rfl, hl2⟩; have HL2 := Lib.hid ((Later.refl _).trans hl2); clear hl2)
    | (go_at_call 14; (with_reducible refine (HT.out _).mono ?_); rintro e w3 ⟨rfl, hl3⟩; have HL3 := Lib.hid (HL2.out.trans hl3); have HSS := Lib.hid (And.intro (later_cells HL3.out HBL.out) (And.intro (show (#[.bool false, .string ⟨#[]⟩, .string ⟨#[]⟩] : Array Value).size = 3 from rfl) (And.intro (show (askC f).size = 3 from rfl) (askC_one f)))); clear hl3)
    | (refine wpList_storeA rfl (.tmp 3) (.tmp 60) rfl W.heap.size _ (askC f) rfl rfl HSS ?_; intro w4 hb4 hg4; have HB4 := Lib.hid hb4; have HL4 := Lib.hid (later_of_new (HL0.out.trans HL3.out) hg4 (Nat.le_refl _)); clear hb4 hg4))
  refine bodyPost_ret (results_ask rfl _ _ W.heap.size _ rfl HB4.out rfl _ rfl _ rfl) rfl ?_
  exact ⟨rfl, HL4.out⟩
set_option maxRecDepth 100000 in
set_option maxHeartbeats 1600000 in
theorem dec_4o (ad : Addr) (c : Nat) (x y z u : L)  (hx : x ≠ [33]) (W : World) (h : Cs W ad [x, y, z, u]) : Dec (.slice (some ad) 4 c) W [x, y, z, u] := by
  have htl : ∀ l, (mkS l).toList = l := toList_mkS
  have hl0 := Later.alloc W (.cells #[.bool false, .string ⟨#[]⟩, .string ⟨#[]⟩] 25)
  have HCW := Lib.hid (fun w (hl : Later (W.alloc (.cells #[.bool false, .string ⟨#[]⟩, .string ⟨#[]⟩] 25)) w) => h.later (hl0.trans hl))
  have hc0 := (h.later hl0).c0
  have HBL := Lib.hid (heap_alloc_new W (.cells #[.bool false, .string ⟨#[]⟩, .string ⟨#[]⟩] 25))
  have HL0 := Lib.hid hl0
  have hdd : dec [x, y, z, u] = val0 2 := by unfold dec; simp [hx]
  have q33 : (x == [33]) = false := beq_eq_false_iff_ne.2 hx
  unfold Dec DecC
  rw [hdd]
  have HSZ := Lib.hid (And.intro (show (#[.bool false, .string ⟨#[]⟩, .string ⟨#[]⟩] : Array Value).size = 3 from rfl) (And.intro (show (askC (val0 2)).size = 3 from rfl) (askC_one (val0 2))))
  clear hdd hl0 h hx
  go_enter Tryd.func8, Tryd.ntmps8
  go_wp2_with (first
    | fail)
  refine bodyPost_ret (results_ask rfl _ _ W.heap.size _ rfl (heap_alloc_new _ _) rfl _ rfl _ rfl) rfl ?_
  exact ⟨rfl, HL0.out⟩
/-- Any arguments. -/
theorem dec_all (A : Option Addr) (n c : Nat) (l : List L) (hn : l.length = n) (hc : n ≤ c) (hs : Short l) (W : World) (hvd : Vd W) (hr : Rd W W.heap.size A n (l.map sv)) : Dec (.slice A n c) W l := by
  subst hn
  rcases A with _ | ad
  · rcases Nat.eq_zero_or_pos l.length with h0 | h0
    · obtain rfl := List.eq_nil_of_length_eq_zero h0
      exact dec_0 _ _ _
    · obtain ⟨ad, e, _⟩ := hr.2 h0
      cases e
  · match l, hs, hc, hr with
    | [], _, _, _ => exact dec_0 _ _ _
    | [a], _, _, hr => exact dec_1 ad c a W (Cs.of_rd hr (by simp))
    | [a, b], _, hc, hr => exact dec_2 ad c hc a b W (Cs.of_rd hr (by simp))
    | [a, b, d], hs, hc, hr => exact dec_3 ad c hc a b d hs W hvd (Cs.of_rd hr (by simp))
    | [a, b, d, e], hs, hc, hr =>
      by_cases hx : a = [33]
      · subst hx; exact dec_4n ad c hc b d e hs W hvd (Cs.of_rd hr (by simp))
      · exact dec_4o ad c a b d e hx W (Cs.of_rd hr (by simp))
    | a :: b :: d :: e :: f :: r, _, _, _ => exact dec_5 _ _ _ rfl (by simp) _ _
end Ar
end Go.Proofs.YtjidclefpmcgoaaDoor
