/- The document's Decide. No premises. -/
import Derived.Test.YtjidclefpmcgoaaDoorYs
import Derived.Test.YtjidclefpmcgoaaDoorYo
import Derived.Deep.RegionHeld
namespace Go.Proofs.YtjidclefpmcgoaaDoor
open Go.RowKit Go.Maps
namespace Ar
abbrev RDec (v : Value) (W : World) (l : List L) : Prop := Calls Tryd.prog 9 #[v] W fun e W' => e = .returned (refV (dec l)) ∧ Later W W'
set_option maxRecDepth 100000 in
set_option maxHeartbeats 800000 in
theorem rdec_0 (A : Option Addr) (c : Nat) (W : World) : RDec (.slice A 0 c) W [] := by
  go_enter Tryd.func9, Tryd.ntmps9
  go_wp2
  refine bodyPost_ret (results_A rfl _ _ W.heap.size _ rfl (heap_alloc_new _ _) rfl) rfl ?_
  exact ⟨rfl, Later.alloc _ _⟩
set_option maxRecDepth 100000 in
set_option maxHeartbeats 1600000 in
theorem rdec_5 (A : Option Addr) (l : List L) (n : Nat) (hn : n = l.length) (h5 : 5 ≤ n) (c : Nat) (W : World) : RDec (.slice A n c) W l := by
  have hd : dec l = val0 2 := by
    match l, hn with
    | a :: b :: c :: d :: e :: r, _ => rfl
    | [], h => simp at h; omega
    | [a], h => simp at h; omega
    | [a, b], h => simp at h; omega
    | [a, b, c], h => simp at h; omega
    | [a, b, c, d], h => simp at h; omega
  unfold RDec
  rw [hd]
  have g0 : ((n : Int) == 0) = false := by rw [beq_eq_false_iff_ne]; omega
  have g1 : ((n : Int) == 1) = false := by rw [beq_eq_false_iff_ne]; omega
  have g2 : ((n : Int) == 2) = false := by rw [beq_eq_false_iff_ne]; omega
  have g3 : ((n : Int) == 3) = false := by rw [beq_eq_false_iff_ne]; omega
  have g4 : ¬ (n : Int) < 5 := by omega
  clear hd hn h5
  go_enter Tryd.func9, Tryd.ntmps9
  go_wp2
  refine bodyPost_ret (results_A rfl _ _ W.heap.size _ rfl (heap_alloc_new _ _) rfl) rfl ?_
  exact ⟨rfl, Later.alloc _ _⟩
set_option maxRecDepth 100000 in
set_option maxHeartbeats 800000 in
theorem rdec_1 (ad : Addr) (c : Nat) (a : L) (W : World) (h : Cs W ad [a]) : RDec (.slice (some ad) 1 c) W [a] := by
  have htl : ∀ l, (mkS l).toList = l := toList_mkS
  have HBL := Lib.hid (heap_alloc_new W (.cells #[.int .i64 0, .bool false, .bool false, .string ⟨#[]⟩, .string ⟨#[]⟩] 29))
  have hl0 := Later.alloc W (.cells #[.int .i64 0, .bool false, .bool false, .string ⟨#[]⟩, .string ⟨#[]⟩] 29)
  have HL0 := Lib.hid hl0
  have hc0 := (h.later hl0).c0
  unfold RDec dec
  rw [← isEmpty_bne]
  obtain ⟨b, hb⟩ : ∃ b, (!a.isEmpty) = b := ⟨_, rfl⟩
  rw [hb]
  have HT := Lib.hid (fun W => truth_v b W)
  clear h hl0
  go_enter Tryd.func9, Tryd.ntmps9
  go_wp2_with (first
    | (go_at_call 16; (try rw [hb]); (with_reducible refine (HT.out _).mono ?_); rintro e w1 ⟨rfl, hl1⟩; have HST := Lib.hid (And.intro (later_cells hl1 HBL.out) (show (#[.int .i64 0, .bool false, .bool false, .string ⟨#[]⟩, .string ⟨#[]⟩] : Array Value).size = 5 from rfl)); have HL1 := Lib.hid (HL0.out.trans hl1); clear hl1)
    | (refine wpList_storeR rfl (.tmp 2) (.tmp 16) rfl W.heap.size _ _ rfl rfl HST ?_; intro w4 hb4 hg4; have HB4 := Lib.hid hb4; have HL4 := Lib.hid (later_of_new HL1.out hg4 (Nat.le_refl _)); clear hb4 hg4))
  refine bodyPost_ret (results_A rfl _ _ W.heap.size _ rfl HB4.out rfl) rfl ?_
  exact ⟨rfl, HL4.out⟩
set_option maxRecDepth 100000 in
set_option maxHeartbeats 1600000 in
theorem rdec_2n (ad : Addr) (c : Nat) (hc : 2 ≤ c) (y : L) (W : World) (h : Cs W ad [[33], y]) : RDec (.slice (some ad) 2 c) W [[33], y] := by
  have htl : ∀ l, (mkS l).toList = l := toList_mkS
  have HBL := Lib.hid (heap_alloc_new W (.cells #[.int .i64 0, .bool false, .bool false, .string ⟨#[]⟩, .string ⟨#[]⟩] 29))
  have hl0 := Later.alloc W (.cells #[.int .i64 0, .bool false, .bool false, .string ⟨#[]⟩, .string ⟨#[]⟩] 29)
  have HL0 := Lib.hid hl0
  have hcs := h.later hl0
  have hc0 := hcs.c0
  obtain ⟨d1, hd1⟩ : ∃ d1, d1 = dec [y] := ⟨_, rfl⟩
  obtain ⟨f, hf⟩ : ∃ f, f = turn d1 := ⟨_, rfl⟩
  have HD := Lib.hid (show Calls Tryd.prog 9 #[.slice (some ⟨ad.block, ad.off + 1, none⟩) 1 (c - 1)] (W.alloc (.cells #[.int .i64 0, .bool false, .bool false, .string ⟨#[]⟩, .string ⟨#[]⟩] 29)) fun e W' => e = .returned (refV d1) ∧ Later (W.alloc (.cells #[.int .i64 0, .bool false, .bool false, .string ⟨#[]⟩, .string ⟨#[]⟩] 29)) W' by rw [hd1]; exact rdec_1 _ _ y _ hcs.tail)
  have HTU := Lib.hid (show ∀ W, Calls Tryd.prog 18 #[refV d1] W fun e W' => e = .returned (refV f) ∧ Later W W' from fun W => by rw [hf]; exact turn_v d1 (by rw [hd1]; exact ok_dec _) W)
  have hdd : dec [[33], y] = f := by rw [hf, hd1]; rfl
  unfold RDec
  rw [hdd]
  have hcn : ¬ c = 1 := by omega
  clear hdd hf hd1 hcs hl0 h
  go_enter Tryd.func9, Tryd.ntmps9
  go_wp2_with (first
    | (go_at_call 9; (with_reducible refine HD.out.mono ?_); rintro e w1 ⟨rfl, hl1⟩; have HL1 := Lib.hid hl1; clear hl1)
    | (go_at_call 18; (with_reducible refine (HTU.out _).mono ?_); rintro e w2 ⟨rfl, hl2⟩; have HST := Lib.hid (And.intro (later_cells (HL1.out.trans hl2) HBL.out) (show (#[.int .i64 0, .bool false, .bool false, .string ⟨#[]⟩, .string ⟨#[]⟩] : Array Value).size = 5 from rfl)); have HL2 := Lib.hid (HL0.out.trans (HL1.out.trans hl2)); clear hl2)
    | (refine wpList_storeR rfl (.tmp 2) (.tmp 47) rfl W.heap.size _ _ rfl rfl HST ?_; intro w4 hb4 hg4; have HB4 := Lib.hid hb4; have HL4 := Lib.hid (later_of_new HL2.out hg4 (Nat.le_refl _)); clear hb4 hg4))
  refine bodyPost_ret (results_A rfl _ _ W.heap.size _ rfl HB4.out rfl) rfl ?_
  exact ⟨rfl, HL4.out⟩
set_option maxRecDepth 100000 in
set_option maxHeartbeats 3200000 in
theorem rdec_2a (ad : Addr) (c : Nat) (x y : L) (hx : x ≠ [33]) (W : World) (h : Cs W ad [x, y]) : RDec (.slice (some ad) 2 c) W [x, y] := by
  have htl : ∀ l, (mkS l).toList = l := toList_mkS
  have HBL := Lib.hid (heap_alloc_new W (.cells #[.int .i64 0, .bool false, .bool false, .string ⟨#[]⟩, .string ⟨#[]⟩] 29))
  have hl0 := Later.alloc W (.cells #[.int .i64 0, .bool false, .bool false, .string ⟨#[]⟩, .string ⟨#[]⟩] 29)
  have HL0 := Lib.hid hl0
  have hc0 := (h.later hl0).c0
  have hc1 := (h.later hl0).c1
  have HK := Lib.hid (fun w (hl : Later W w) => And.intro (h.later hl).c0 (h.later hl).c1)
  have hdd : dec [x, y] = ahead x y := by unfold dec; rw [if_neg hx]
  unfold RDec
  rw [hdd]
  have q33 : (x == [33]) = false := beq_eq_false_iff_ne.2 hx
  have HTT := Lib.hid (fun b W => truth_v b W)
  unfold ahead
  clear hdd hl0 h hx
  by_cases hn : x = [45, 110]
  · have qn : (x == [45, 110]) = true := by rw [hn]; rfl
    rw [if_pos hn]
    rw [← isEmpty_bne]
    obtain ⟨b, hb⟩ : ∃ b, (!y.isEmpty) = b := ⟨_, rfl⟩
    rw [hb]
    have HT := Lib.hid (fun W => truth_v b W)
    clear hn
    go_enter Tryd.func9, Tryd.ntmps9
    go_wp2_with (first
      | (go_at_call 16; (try rw [hb]); (with_reducible refine (HT.out _).mono ?_); rintro e w1 ⟨rfl, hl1⟩; have HST := Lib.hid (And.intro (later_cells hl1 HBL.out) (show (#[.int .i64 0, .bool false, .bool false, .string ⟨#[]⟩, .string ⟨#[]⟩] : Array Value).size = 5 from rfl)); have HL1 := Lib.hid (HL0.out.trans hl1); clear hl1)
      | (refine wpList_storeR rfl (.tmp 2) (.tmp 60) rfl W.heap.size _ _ rfl rfl HST ?_; intro w4 hb4 hg4; have HB4 := Lib.hid hb4; have HL4 := Lib.hid (later_of_new HL1.out hg4 (Nat.le_refl _)); clear hb4 hg4))
    refine bodyPost_ret (results_A rfl _ _ W.heap.size _ rfl HB4.out rfl) rfl ?_
    exact ⟨rfl, HL4.out⟩
  · skip
    by_cases hz : x = [45, 122]
    · have qz : (x == [45, 122]) = true := by rw [hz]; rfl
      have qn : (x == [45, 110]) = false := beq_eq_false_iff_ne.2 hn
      rw [if_neg hn, if_pos hz]
      obtain ⟨b, hb⟩ : ∃ b, (y == []) = b := ⟨_, rfl⟩
      rw [hb]
      have HT := Lib.hid (fun W => truth_v b W)
      clear hn hz
      go_enter Tryd.func9, Tryd.ntmps9
      go_wp2_with (first
        | (go_at_call 16; (try rw [hb]); (with_reducible refine (HT.out _).mono ?_); rintro e w1 ⟨rfl, hl1⟩; have HST := Lib.hid (And.intro (later_cells hl1 HBL.out) (show (#[.int .i64 0, .bool false, .bool false, .string ⟨#[]⟩, .string ⟨#[]⟩] : Array Value).size = 5 from rfl)); have HL1 := Lib.hid (HL0.out.trans hl1); clear hl1)
        | (refine wpList_storeR rfl (.tmp 2) (.tmp 67) rfl W.heap.size _ _ rfl rfl HST ?_; intro w4 hb4 hg4; have HB4 := Lib.hid hb4; have HL4 := Lib.hid (later_of_new HL1.out hg4 (Nat.le_refl _)); clear hb4 hg4))
      refine bodyPost_ret (results_A rfl _ _ W.heap.size _ rfl HB4.out rfl) rfl ?_
      exact ⟨rfl, HL4.out⟩
    · skip
      by_cases he : x = [45, 101]
      · have qe : (x == [45, 101]) = true := by rw [he]; rfl
        have qn : (x == [45, 110]) = false := beq_eq_false_iff_ne.2 hn
        have qz : (x == [45, 122]) = false := beq_eq_false_iff_ne.2 hz
        rw [if_neg hn, if_neg hz, if_pos (by simp [he])]
        clear hn hz he
        go_enter Tryd.func9, Tryd.ntmps9
        go_wp2_with fail
        go_region_held (fun w => w.cell? ad = some (.string (mkS x)) ∧ w.cell? ⟨ad.block, ad.off + 1, none⟩ = some (.string (mkS y))) (first | assumption | exact HK.out _ ((Later.alloc _ _).trans (Later.drew _))) (fail)
        all_goals (
          go_wp2
          refine bodyPost_ret (results_A rfl _ _ W.heap.size _ rfl (later_cells (Later.drew _) (heap_alloc_new _ _)) rfl) rfl ?_
          exact ⟨rfl, (Later.alloc _ _).trans (Later.drew _)⟩)
      · skip
        by_cases hf : x = [45, 102]
        · have qf : (x == [45, 102]) = true := by rw [hf]; rfl
          have qn : (x == [45, 110]) = false := beq_eq_false_iff_ne.2 hn
          have qz : (x == [45, 122]) = false := beq_eq_false_iff_ne.2 hz
          have qe : (x == [45, 101]) = false := beq_eq_false_iff_ne.2 he
          rw [if_neg hn, if_neg hz, if_pos (by simp [hf])]
          clear hn hz he hf
          go_enter Tryd.func9, Tryd.ntmps9
          go_wp2_with fail
          go_region_held (fun w => w.cell? ad = some (.string (mkS x)) ∧ w.cell? ⟨ad.block, ad.off + 1, none⟩ = some (.string (mkS y))) (first | assumption | exact HK.out _ ((Later.alloc _ _).trans (Later.drew _))) (fail)
          all_goals (
            go_wp2
            refine bodyPost_ret (results_A rfl _ _ W.heap.size _ rfl (later_cells (Later.drew _) (heap_alloc_new _ _)) rfl) rfl ?_
            exact ⟨rfl, (Later.alloc _ _).trans (Later.drew _)⟩)
        · skip
          by_cases hd : x = [45, 100]
          · have qd : (x == [45, 100]) = true := by rw [hd]; rfl
            have qn : (x == [45, 110]) = false := beq_eq_false_iff_ne.2 hn
            have qz : (x == [45, 122]) = false := beq_eq_false_iff_ne.2 hz
            have qe : (x == [45, 101]) = false := beq_eq_false_iff_ne.2 he
            have qf : (x == [45, 102]) = false := beq_eq_false_iff_ne.2 hf
            rw [if_neg hn, if_neg hz, if_pos (by simp [hd])]
            clear hn hz he hf hd
            go_enter Tryd.func9, Tryd.ntmps9
            go_wp2_with fail
            go_region_held (fun w => w.cell? ad = some (.string (mkS x)) ∧ w.cell? ⟨ad.block, ad.off + 1, none⟩ = some (.string (mkS y))) (first | assumption | exact HK.out _ ((Later.alloc _ _).trans (Later.drew _))) (fail)
            all_goals (
              go_wp2
              refine bodyPost_ret (results_A rfl _ _ W.heap.size _ rfl (later_cells (Later.drew _) (heap_alloc_new _ _)) rfl) rfl ?_
              exact ⟨rfl, (Later.alloc _ _).trans (Later.drew _)⟩)
          · skip
            have qn : (x == [45, 110]) = false := beq_eq_false_iff_ne.2 hn
            have qz : (x == [45, 122]) = false := beq_eq_false_iff_ne.2 hz
            have qe : (x == [45, 101]) = false := beq_eq_false_iff_ne.2 he
            have qf : (x == [45, 102]) = false := beq_eq_false_iff_ne.2 hf
            have qd : (x == [45, 100]) = false := beq_eq_false_iff_ne.2 hd
            rw [if_neg hn, if_neg hz, if_neg (by simp [he, hf, hd])]
            clear hn hz he hf hd
            go_enter Tryd.func9, Tryd.ntmps9
            go_wp2
            refine bodyPost_ret (results_A rfl _ _ W.heap.size _ rfl (heap_alloc_new _ _) rfl) rfl ?_
            exact ⟨rfl, Later.alloc _ _⟩
theorem rdec_2 (ad : Addr) (c : Nat) (hc : 2 ≤ c) (x y : L) (W : World) (h : Cs W ad [x, y]) : RDec (.slice (some ad) 2 c) W [x, y] := by
  by_cases hx : x = [33]
  · subst hx; exact rdec_2n ad c hc y W h
  · exact rdec_2a ad c x y hx W h
end Ar
end Go.Proofs.YtjidclefpmcgoaaDoor
