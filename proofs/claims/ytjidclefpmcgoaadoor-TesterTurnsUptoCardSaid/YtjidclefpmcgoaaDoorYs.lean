/- The document's three. No premises. -/
import Derived.Test.YtjidclefpmcgoaaDoorYr
namespace Go.Proofs.YtjidclefpmcgoaaDoor
open Go.RowKit Go.Maps
namespace Ar
def refC (d : D) : Array Value := #[.int .i64 d.n, .bool d.asks, .bool d.nt, .string (mkS d.op), .string (mkS d.path)]
theorem refC_one (d : D) : (refC d).all (·.oneCell') = true := by simp [refC, Value.oneCell']
/-- A struct's block is written whole, the world a letter. -/
theorem wpList_storeR {ops : Array Oper} {rest : List Oper} {o : Oper} {a : Act} {w : World} {Q : Exit → Act → World → Prop} (hgd : o.guard = none) (x y : Operand) (ho : o.op = .store 29 x y) (b : Nat) (c : Array Value) (d : D) (hx : a.eval x = .pointer (some ⟨b, 0, none⟩)) (hy : a.eval y = refV d)
    (hb : Hid (w.heap[b]? = some (.cells c 29 (0, 0)) ∧ c.size = 5))
    (h : ∀ w1, w1.heap[b]? = some (.cells (refC d) 29 (0, 0)) → w.grownBy w1 (some b) → wpList Tryd.prog ops Q rest (a.put o.dst undef) w1) : wpList Tryd.prog ops Q (o :: rest) a w := by
  refine wpList_plain hgd fun K hK => ?_
  have h1 : (Instr.storeAt 29 (.pointer (some ⟨b, 0, none⟩)) (.agg (refC d))).run Tryd.prog w = .ok () (w.setRow b (refC d)) := by
    simp only [Instr.storeAt, Instr.sureAddr, Sem.run_bind, Sem.run_pure, Result.andThen]
    exact run_storeVar_row _ _ 29 29 c (refC d) hb.out.1 (by show _ = some 5; kernel_rfl) hb.out.2 (refC_one d)
  unfold Oper.wp execOp
  have hy' : a.eval y = .agg (refC d) := hy
  simp only [ho, hx, hy', Sem.run_bind, h1, Result.andThen_ok, Sem.run_pure]
  exact hK _ _ (h _ (setRow_heap w b c (refC d) 29 (0, 0) hb.out.1) ⟨rfl, rfl, rfl, by simp, fun k _ hk => setRow_other w b k _ (fun e => hk (by rw [e]))⟩)
/-- What three arguments come to; false: they don't compare. -/
def thr (op a c : L) : D × Bool := match mid op a c with
  | some r => (val0 r, true)
  | none => (val0 0, false)
def cmpT' (g : Int → Int → Bool) (a c : L) : Int := match tnum a, tnum c with
  | some x, some y => t01 (g x y)
  | _, _ => 2
abbrev ThrC (op a c : L) (W : World) : Prop := Calls Tryd.prog 17 #[.string (mkS a), .string (mkS op), .string (mkS c)] W fun e W' => e = .returned (.tuple #[refV (thr op a c).1, .bool (thr op a c).2]) ∧ Later W W'
set_option maxHeartbeats 800000 in
set_option maxRecDepth 100000 in
theorem three_eq (a c : L) (W : World) : ThrC [61] a c W := by
  unfold ThrC
  have hth : thr [61] a c = (val0 (t01 (a == c)), true) := rfl
  rw [hth]
  obtain ⟨b, hb⟩ : ∃ b, (a == c) = b := ⟨_, rfl⟩
  rw [hb]
  have HT := Lib.hid (fun W => truth_v b W)
  have htl : ∀ l, (mkS l).toList = l := toList_mkS
  have HBL := Lib.hid (heap_alloc_new W (.cells #[.int .i64 0, .bool false, .bool false, .string ⟨#[]⟩, .string ⟨#[]⟩] 29))
  have HL0 := Lib.hid (Later.alloc W (.cells #[.int .i64 0, .bool false, .bool false, .string ⟨#[]⟩, .string ⟨#[]⟩] 29))
  clear hth
  go_enter Tryd.func17, Tryd.ntmps17
  go_wp2_with (first
    | (go_at_call 16; (try rw [hb]); (with_reducible refine (HT.out _).mono ?_); rintro e w1 ⟨rfl, hl1⟩; have HST := Lib.hid (And.intro (later_cells hl1 HBL.out) (show (#[.int .i64 0, .bool false, .bool false, .string ⟨#[]⟩, .string ⟨#[]⟩] : Array Value).size = 5 from rfl)); have HL1 := Lib.hid (HL0.out.trans hl1); clear hl1)
    | (refine wpList_storeR rfl (.tmp 6) (.tmp 18) rfl W.heap.size _ _ rfl rfl HST ?_; intro w4 hb4 hg4; have HB4 := Lib.hid hb4; have HL4 := Lib.hid (later_of_new HL1.out hg4 (Nat.le_refl _)); clear hb4 hg4))
  refine bodyPost_ret (results_A2 rfl _ _ W.heap.size _ rfl HB4.out rfl _ rfl) rfl ?_
  exact ⟨rfl, HL4.out⟩
set_option maxHeartbeats 800000 in
set_option maxRecDepth 100000 in
theorem three_ne (a c : L) (W : World) : ThrC [33, 61] a c W := by
  unfold ThrC
  have hth : thr [33, 61] a c = (val0 (t01 (!(a == c))), true) := by unfold thr mid; rfl
  rw [hth]
  obtain ⟨b, hb⟩ : ∃ b, (!(a == c)) = b := ⟨_, rfl⟩
  rw [hb]
  have HT := Lib.hid (fun W => truth_v b W)
  have htl : ∀ l, (mkS l).toList = l := toList_mkS
  have HBL := Lib.hid (heap_alloc_new W (.cells #[.int .i64 0, .bool false, .bool false, .string ⟨#[]⟩, .string ⟨#[]⟩] 29))
  have HL0 := Lib.hid (Later.alloc W (.cells #[.int .i64 0, .bool false, .bool false, .string ⟨#[]⟩, .string ⟨#[]⟩] 29))
  clear hth
  go_enter Tryd.func17, Tryd.ntmps17
  go_wp2_with (first
    | (go_at_call 16; (try rw [hb]); (with_reducible refine (HT.out _).mono ?_); rintro e w1 ⟨rfl, hl1⟩; have HST := Lib.hid (And.intro (later_cells hl1 HBL.out) (show (#[.int .i64 0, .bool false, .bool false, .string ⟨#[]⟩, .string ⟨#[]⟩] : Array Value).size = 5 from rfl)); have HL1 := Lib.hid (HL0.out.trans hl1); clear hl1)
    | (refine wpList_storeR rfl (.tmp 6) (.tmp 24) rfl W.heap.size _ _ rfl rfl HST ?_; intro w4 hb4 hg4; have HB4 := Lib.hid hb4; have HL4 := Lib.hid (later_of_new HL1.out hg4 (Nat.le_refl _)); clear hb4 hg4))
  refine bodyPost_ret (results_A2 rfl _ _ W.heap.size _ rfl HB4.out rfl _ rfl) rfl ?_
  exact ⟨rfl, HL4.out⟩
set_option maxHeartbeats 1600000 in
set_option maxRecDepth 100000 in
theorem three_neq (a c : L) (ha : a.length ≤ 2000000) (hc : c.length ≤ 2000000) (W : World) : ThrC [45, 101, 113] a c W := by
  have HA := Lib.hid (fun W => reft_v a ha W)
  have HC := Lib.hid (fun W => reft_v c hc W)
  obtain ⟨ra, hra⟩ : ∃ ra, ra = tnum a := ⟨_, rfl⟩
  obtain ⟨rc, hrc⟩ : ∃ rc, rc = tnum c := ⟨_, rfl⟩
  rw [← hra] at HA
  rw [← hrc] at HC
  obtain ⟨z1, hz1⟩ : ∃ z1 : Int, z1 = ra.getD 0 := ⟨_, rfl⟩
  obtain ⟨z2, hz2⟩ : ∃ z2 : Int, z2 = rc.getD 0 := ⟨_, rfl⟩
  obtain ⟨b1, hb1⟩ : ∃ b1 : Bool, b1 = ra.isSome := ⟨_, rfl⟩
  obtain ⟨b2, hb2⟩ : ∃ b2 : Bool, b2 = rc.isSome := ⟨_, rfl⟩
  have hth : thr [45, 101, 113] a c = (val0 (if b1 && b2 then t01 (z1 == z2) else 2), true) := by
    have hm : mid [45, 101, 113] a c = some (if b1 && b2 then t01 (z1 == z2) else 2) := by
      have h0 : mid [45, 101, 113] a c = some (cmpT' (fun a b => a == b) a c) := by unfold mid cmpT'; rw [if_neg (by decide), if_neg (by decide)]; show (match some (fun a b => a == b) with | none => none | some f => match tnum a, tnum c with | some x, some y => some (t01 (f x y)) | _, _ => some 2) = _; simp only; cases tnum a <;> cases tnum c <;> rfl
      rw [h0]; unfold cmpT'; rw [hz1, hz2, hb1, hb2, ← hra, ← hrc]; cases ra <;> cases rc <;> rfl
    unfold thr; rw [hm]
  unfold ThrC
  rw [hth]
  unfold numI at HA HC
  rw [← hz1, ← hb1] at HA
  rw [← hz2, ← hb2] at HC
  clear hth hra hrc hz1 hz2 hb1 hb2 ha hc
  obtain ⟨b, hb⟩ : ∃ b, (z1 == z2) = b := ⟨_, rfl⟩
  rw [hb]
  have HT := Lib.hid (fun W => truth_v b W)
  have htl : ∀ l, (mkS l).toList = l := toList_mkS
  have HBL := Lib.hid (heap_alloc_new W (.cells #[.int .i64 0, .bool false, .bool false, .string ⟨#[]⟩, .string ⟨#[]⟩] 29))
  have HL0 := Lib.hid (Later.alloc W (.cells #[.int .i64 0, .bool false, .bool false, .string ⟨#[]⟩, .string ⟨#[]⟩] 29))
  cases b1
  · simp only [Bool.false_and, Bool.false_eq_true, if_false]
    go_enter Tryd.func17, Tryd.ntmps17
    go_wp2_with ((go_at_call 28; (first | (with_reducible refine (HA.out _).mono ?_) | (with_reducible refine (HC.out _).mono ?_)); rintro e w0 ⟨rfl, rfl⟩))
    refine bodyPost_ret (results_A2 rfl _ _ W.heap.size _ rfl (heap_alloc_new _ _) rfl _ rfl) rfl ?_
    exact ⟨rfl, (Later.alloc _ _)⟩
  · cases b2
    · simp only [Bool.and_false, Bool.false_eq_true, if_false]
      go_enter Tryd.func17, Tryd.ntmps17
      go_wp2_with ((go_at_call 28; (first | (with_reducible refine (HA.out _).mono ?_) | (with_reducible refine (HC.out _).mono ?_)); rintro e w0 ⟨rfl, rfl⟩))
      refine bodyPost_ret (results_A2 rfl _ _ W.heap.size _ rfl (heap_alloc_new _ _) rfl _ rfl) rfl ?_
      exact ⟨rfl, (Later.alloc _ _)⟩
    · simp only [Bool.and_self, if_true]
      go_enter Tryd.func17, Tryd.ntmps17
      go_wp2_with (first
        | (go_at_call 28; (first | (with_reducible refine (HA.out _).mono ?_) | (with_reducible refine (HC.out _).mono ?_)); rintro e w0 ⟨rfl, rfl⟩)
        | (go_at_call 16; (try rw [hb]); (with_reducible refine (HT.out _).mono ?_); rintro e w1 ⟨rfl, hl1⟩; have HST := Lib.hid (And.intro (later_cells hl1 HBL.out) (show (#[.int .i64 0, .bool false, .bool false, .string ⟨#[]⟩, .string ⟨#[]⟩] : Array Value).size = 5 from rfl)); have HL1 := Lib.hid (HL0.out.trans hl1); clear hl1)
        | (refine wpList_storeR rfl (.tmp 6) (.tmp 75) rfl W.heap.size _ _ rfl rfl HST ?_; intro w4 hb4 hg4; have HB4 := Lib.hid hb4; have HL4 := Lib.hid (later_of_new HL1.out hg4 (Nat.le_refl _)); clear hb4 hg4))
      refine bodyPost_ret (results_A2 rfl _ _ W.heap.size _ rfl HB4.out rfl _ rfl) rfl ?_
      exact ⟨rfl, HL4.out⟩
set_option maxHeartbeats 1600000 in
set_option maxRecDepth 100000 in
theorem three_nne (a c : L) (ha : a.length ≤ 2000000) (hc : c.length ≤ 2000000) (W : World) : ThrC [45, 110, 101] a c W := by
  have HA := Lib.hid (fun W => reft_v a ha W)
  have HC := Lib.hid (fun W => reft_v c hc W)
  obtain ⟨ra, hra⟩ : ∃ ra, ra = tnum a := ⟨_, rfl⟩
  obtain ⟨rc, hrc⟩ : ∃ rc, rc = tnum c := ⟨_, rfl⟩
  rw [← hra] at HA
  rw [← hrc] at HC
  obtain ⟨z1, hz1⟩ : ∃ z1 : Int, z1 = ra.getD 0 := ⟨_, rfl⟩
  obtain ⟨z2, hz2⟩ : ∃ z2 : Int, z2 = rc.getD 0 := ⟨_, rfl⟩
  obtain ⟨b1, hb1⟩ : ∃ b1 : Bool, b1 = ra.isSome := ⟨_, rfl⟩
  obtain ⟨b2, hb2⟩ : ∃ b2 : Bool, b2 = rc.isSome := ⟨_, rfl⟩
  have hth : thr [45, 110, 101] a c = (val0 (if b1 && b2 then t01 (z1 != z2) else 2), true) := by
    have hm : mid [45, 110, 101] a c = some (if b1 && b2 then t01 (z1 != z2) else 2) := by
      have h0 : mid [45, 110, 101] a c = some (cmpT' (fun a b => a != b) a c) := by unfold mid cmpT'; rw [if_neg (by decide), if_neg (by decide)]; show (match some (fun a b => a != b) with | none => none | some f => match tnum a, tnum c with | some x, some y => some (t01 (f x y)) | _, _ => some 2) = _; simp only; cases tnum a <;> cases tnum c <;> rfl
      rw [h0]; unfold cmpT'; rw [hz1, hz2, hb1, hb2, ← hra, ← hrc]; cases ra <;> cases rc <;> rfl
    unfold thr; rw [hm]
  unfold ThrC
  rw [hth]
  unfold numI at HA HC
  rw [← hz1, ← hb1] at HA
  rw [← hz2, ← hb2] at HC
  clear hth hra hrc hz1 hz2 hb1 hb2 ha hc
  obtain ⟨b, hb⟩ : ∃ b, (z1 != z2) = b := ⟨_, rfl⟩
  rw [hb]
  have HT := Lib.hid (fun W => truth_v b W)
  have htl : ∀ l, (mkS l).toList = l := toList_mkS
  have HBL := Lib.hid (heap_alloc_new W (.cells #[.int .i64 0, .bool false, .bool false, .string ⟨#[]⟩, .string ⟨#[]⟩] 29))
  have HL0 := Lib.hid (Later.alloc W (.cells #[.int .i64 0, .bool false, .bool false, .string ⟨#[]⟩, .string ⟨#[]⟩] 29))
  cases b1
  · simp only [Bool.false_and, Bool.false_eq_true, if_false]
    go_enter Tryd.func17, Tryd.ntmps17
    go_wp2_with ((go_at_call 28; (first | (with_reducible refine (HA.out _).mono ?_) | (with_reducible refine (HC.out _).mono ?_)); rintro e w0 ⟨rfl, rfl⟩))
    refine bodyPost_ret (results_A2 rfl _ _ W.heap.size _ rfl (heap_alloc_new _ _) rfl _ rfl) rfl ?_
    exact ⟨rfl, (Later.alloc _ _)⟩
  · cases b2
    · simp only [Bool.and_false, Bool.false_eq_true, if_false]
      go_enter Tryd.func17, Tryd.ntmps17
      go_wp2_with ((go_at_call 28; (first | (with_reducible refine (HA.out _).mono ?_) | (with_reducible refine (HC.out _).mono ?_)); rintro e w0 ⟨rfl, rfl⟩))
      refine bodyPost_ret (results_A2 rfl _ _ W.heap.size _ rfl (heap_alloc_new _ _) rfl _ rfl) rfl ?_
      exact ⟨rfl, (Later.alloc _ _)⟩
    · simp only [Bool.and_self, if_true]
      go_enter Tryd.func17, Tryd.ntmps17
      go_wp2_with (first
        | (go_at_call 28; (first | (with_reducible refine (HA.out _).mono ?_) | (with_reducible refine (HC.out _).mono ?_)); rintro e w0 ⟨rfl, rfl⟩)
        | (go_at_call 16; (try rw [hb]); (with_reducible refine (HT.out _).mono ?_); rintro e w1 ⟨rfl, hl1⟩; have HST := Lib.hid (And.intro (later_cells hl1 HBL.out) (show (#[.int .i64 0, .bool false, .bool false, .string ⟨#[]⟩, .string ⟨#[]⟩] : Array Value).size = 5 from rfl)); have HL1 := Lib.hid (HL0.out.trans hl1); clear hl1)
        | (refine wpList_storeR rfl (.tmp 6) (.tmp 75) rfl W.heap.size _ _ rfl rfl HST ?_; intro w4 hb4 hg4; have HB4 := Lib.hid hb4; have HL4 := Lib.hid (later_of_new HL1.out hg4 (Nat.le_refl _)); clear hb4 hg4))
      refine bodyPost_ret (results_A2 rfl _ _ W.heap.size _ rfl HB4.out rfl _ rfl) rfl ?_
      exact ⟨rfl, HL4.out⟩
set_option maxHeartbeats 1600000 in
set_option maxRecDepth 100000 in
theorem three_nlt (a c : L) (ha : a.length ≤ 2000000) (hc : c.length ≤ 2000000) (W : World) : ThrC [45, 108, 116] a c W := by
  have HA := Lib.hid (fun W => reft_v a ha W)
  have HC := Lib.hid (fun W => reft_v c hc W)
  obtain ⟨ra, hra⟩ : ∃ ra, ra = tnum a := ⟨_, rfl⟩
  obtain ⟨rc, hrc⟩ : ∃ rc, rc = tnum c := ⟨_, rfl⟩
  rw [← hra] at HA
  rw [← hrc] at HC
  obtain ⟨z1, hz1⟩ : ∃ z1 : Int, z1 = ra.getD 0 := ⟨_, rfl⟩
  obtain ⟨z2, hz2⟩ : ∃ z2 : Int, z2 = rc.getD 0 := ⟨_, rfl⟩
  obtain ⟨b1, hb1⟩ : ∃ b1 : Bool, b1 = ra.isSome := ⟨_, rfl⟩
  obtain ⟨b2, hb2⟩ : ∃ b2 : Bool, b2 = rc.isSome := ⟨_, rfl⟩
  have hth : thr [45, 108, 116] a c = (val0 (if b1 && b2 then t01 (decide (z1 < z2)) else 2), true) := by
    have hm : mid [45, 108, 116] a c = some (if b1 && b2 then t01 (decide (z1 < z2)) else 2) := by
      have h0 : mid [45, 108, 116] a c = some (cmpT' (fun a b => decide (a < b)) a c) := by unfold mid cmpT'; rw [if_neg (by decide), if_neg (by decide)]; show (match some (fun a b => decide (a < b)) with | none => none | some f => match tnum a, tnum c with | some x, some y => some (t01 (f x y)) | _, _ => some 2) = _; simp only; cases tnum a <;> cases tnum c <;> rfl
      rw [h0]; unfold cmpT'; rw [hz1, hz2, hb1, hb2, ← hra, ← hrc]; cases ra <;> cases rc <;> rfl
    unfold thr; rw [hm]
  unfold ThrC
  rw [hth]
  unfold numI at HA HC
  rw [← hz1, ← hb1] at HA
  rw [← hz2, ← hb2] at HC
  clear hth hra hrc hz1 hz2 hb1 hb2 ha hc
  obtain ⟨b, hb⟩ : ∃ b, (decide (z1 < z2)) = b := ⟨_, rfl⟩
  rw [hb]
  have HT := Lib.hid (fun W => truth_v b W)
  have htl : ∀ l, (mkS l).toList = l := toList_mkS
  have HBL := Lib.hid (heap_alloc_new W (.cells #[.int .i64 0, .bool false, .bool false, .string ⟨#[]⟩, .string ⟨#[]⟩] 29))
  have HL0 := Lib.hid (Later.alloc W (.cells #[.int .i64 0, .bool false, .bool false, .string ⟨#[]⟩, .string ⟨#[]⟩] 29))
  cases b1
  · simp only [Bool.false_and, Bool.false_eq_true, if_false]
    go_enter Tryd.func17, Tryd.ntmps17
    go_wp2_with ((go_at_call 28; (first | (with_reducible refine (HA.out _).mono ?_) | (with_reducible refine (HC.out _).mono ?_)); rintro e w0 ⟨rfl, rfl⟩))
    refine bodyPost_ret (results_A2 rfl _ _ W.heap.size _ rfl (heap_alloc_new _ _) rfl _ rfl) rfl ?_
    exact ⟨rfl, (Later.alloc _ _)⟩
  · cases b2
    · simp only [Bool.and_false, Bool.false_eq_true, if_false]
      go_enter Tryd.func17, Tryd.ntmps17
      go_wp2_with ((go_at_call 28; (first | (with_reducible refine (HA.out _).mono ?_) | (with_reducible refine (HC.out _).mono ?_)); rintro e w0 ⟨rfl, rfl⟩))
      refine bodyPost_ret (results_A2 rfl _ _ W.heap.size _ rfl (heap_alloc_new _ _) rfl _ rfl) rfl ?_
      exact ⟨rfl, (Later.alloc _ _)⟩
    · simp only [Bool.and_self, if_true]
      go_enter Tryd.func17, Tryd.ntmps17
      go_wp2_with (first
        | (go_at_call 28; (first | (with_reducible refine (HA.out _).mono ?_) | (with_reducible refine (HC.out _).mono ?_)); rintro e w0 ⟨rfl, rfl⟩)
        | (go_at_call 16; (try rw [hb]); (with_reducible refine (HT.out _).mono ?_); rintro e w1 ⟨rfl, hl1⟩; have HST := Lib.hid (And.intro (later_cells hl1 HBL.out) (show (#[.int .i64 0, .bool false, .bool false, .string ⟨#[]⟩, .string ⟨#[]⟩] : Array Value).size = 5 from rfl)); have HL1 := Lib.hid (HL0.out.trans hl1); clear hl1)
        | (refine wpList_storeR rfl (.tmp 6) (.tmp 75) rfl W.heap.size _ _ rfl rfl HST ?_; intro w4 hb4 hg4; have HB4 := Lib.hid hb4; have HL4 := Lib.hid (later_of_new HL1.out hg4 (Nat.le_refl _)); clear hb4 hg4))
      refine bodyPost_ret (results_A2 rfl _ _ W.heap.size _ rfl HB4.out rfl _ rfl) rfl ?_
      exact ⟨rfl, HL4.out⟩
set_option maxHeartbeats 1600000 in
set_option maxRecDepth 100000 in
theorem three_nle (a c : L) (ha : a.length ≤ 2000000) (hc : c.length ≤ 2000000) (W : World) : ThrC [45, 108, 101] a c W := by
  have HA := Lib.hid (fun W => reft_v a ha W)
  have HC := Lib.hid (fun W => reft_v c hc W)
  obtain ⟨ra, hra⟩ : ∃ ra, ra = tnum a := ⟨_, rfl⟩
  obtain ⟨rc, hrc⟩ : ∃ rc, rc = tnum c := ⟨_, rfl⟩
  rw [← hra] at HA
  rw [← hrc] at HC
  obtain ⟨z1, hz1⟩ : ∃ z1 : Int, z1 = ra.getD 0 := ⟨_, rfl⟩
  obtain ⟨z2, hz2⟩ : ∃ z2 : Int, z2 = rc.getD 0 := ⟨_, rfl⟩
  obtain ⟨b1, hb1⟩ : ∃ b1 : Bool, b1 = ra.isSome := ⟨_, rfl⟩
  obtain ⟨b2, hb2⟩ : ∃ b2 : Bool, b2 = rc.isSome := ⟨_, rfl⟩
  have hth : thr [45, 108, 101] a c = (val0 (if b1 && b2 then t01 (decide (z1 ≤ z2)) else 2), true) := by
    have hm : mid [45, 108, 101] a c = some (if b1 && b2 then t01 (decide (z1 ≤ z2)) else 2) := by
      have h0 : mid [45, 108, 101] a c = some (cmpT' (fun a b => decide (a ≤ b)) a c) := by unfold mid cmpT'; rw [if_neg (by decide), if_neg (by decide)]; show (match some (fun a b => decide (a ≤ b)) with | none => none | some f => match tnum a, tnum c with | some x, some y => some (t01 (f x y)) | _, _ => some 2) = _; simp only; cases tnum a <;> cases tnum c <;> rfl
      rw [h0]; unfold cmpT'; rw [hz1, hz2, hb1, hb2, ← hra, ← hrc]; cases ra <;> cases rc <;> rfl
    unfold thr; rw [hm]
  unfold ThrC
  rw [hth]
  unfold numI at HA HC
  rw [← hz1, ← hb1] at HA
  rw [← hz2, ← hb2] at HC
  clear hth hra hrc hz1 hz2 hb1 hb2 ha hc
  obtain ⟨b, hb⟩ : ∃ b, (decide (z1 ≤ z2)) = b := ⟨_, rfl⟩
  rw [hb]
  have HT := Lib.hid (fun W => truth_v b W)
  have htl : ∀ l, (mkS l).toList = l := toList_mkS
  have HBL := Lib.hid (heap_alloc_new W (.cells #[.int .i64 0, .bool false, .bool false, .string ⟨#[]⟩, .string ⟨#[]⟩] 29))
  have HL0 := Lib.hid (Later.alloc W (.cells #[.int .i64 0, .bool false, .bool false, .string ⟨#[]⟩, .string ⟨#[]⟩] 29))
  cases b1
  · simp only [Bool.false_and, Bool.false_eq_true, if_false]
    go_enter Tryd.func17, Tryd.ntmps17
    go_wp2_with ((go_at_call 28; (first | (with_reducible refine (HA.out _).mono ?_) | (with_reducible refine (HC.out _).mono ?_)); rintro e w0 ⟨rfl, rfl⟩))
    refine bodyPost_ret (results_A2 rfl _ _ W.heap.size _ rfl (heap_alloc_new _ _) rfl _ rfl) rfl ?_
    exact ⟨rfl, (Later.alloc _ _)⟩
  · cases b2
    · simp only [Bool.and_false, Bool.false_eq_true, if_false]
      go_enter Tryd.func17, Tryd.ntmps17
      go_wp2_with ((go_at_call 28; (first | (with_reducible refine (HA.out _).mono ?_) | (with_reducible refine (HC.out _).mono ?_)); rintro e w0 ⟨rfl, rfl⟩))
      refine bodyPost_ret (results_A2 rfl _ _ W.heap.size _ rfl (heap_alloc_new _ _) rfl _ rfl) rfl ?_
      exact ⟨rfl, (Later.alloc _ _)⟩
    · simp only [Bool.and_self, if_true]
      go_enter Tryd.func17, Tryd.ntmps17
      go_wp2_with (first
        | (go_at_call 28; (first | (with_reducible refine (HA.out _).mono ?_) | (with_reducible refine (HC.out _).mono ?_)); rintro e w0 ⟨rfl, rfl⟩)
        | (go_at_call 16; (try rw [hb]); (with_reducible refine (HT.out _).mono ?_); rintro e w1 ⟨rfl, hl1⟩; have HST := Lib.hid (And.intro (later_cells hl1 HBL.out) (show (#[.int .i64 0, .bool false, .bool false, .string ⟨#[]⟩, .string ⟨#[]⟩] : Array Value).size = 5 from rfl)); have HL1 := Lib.hid (HL0.out.trans hl1); clear hl1)
        | (refine wpList_storeR rfl (.tmp 6) (.tmp 75) rfl W.heap.size _ _ rfl rfl HST ?_; intro w4 hb4 hg4; have HB4 := Lib.hid hb4; have HL4 := Lib.hid (later_of_new HL1.out hg4 (Nat.le_refl _)); clear hb4 hg4))
      refine bodyPost_ret (results_A2 rfl _ _ W.heap.size _ rfl HB4.out rfl _ rfl) rfl ?_
      exact ⟨rfl, HL4.out⟩
set_option maxHeartbeats 1600000 in
set_option maxRecDepth 100000 in
theorem three_ngt (a c : L) (ha : a.length ≤ 2000000) (hc : c.length ≤ 2000000) (W : World) : ThrC [45, 103, 116] a c W := by
  have HA := Lib.hid (fun W => reft_v a ha W)
  have HC := Lib.hid (fun W => reft_v c hc W)
  obtain ⟨ra, hra⟩ : ∃ ra, ra = tnum a := ⟨_, rfl⟩
  obtain ⟨rc, hrc⟩ : ∃ rc, rc = tnum c := ⟨_, rfl⟩
  rw [← hra] at HA
  rw [← hrc] at HC
  obtain ⟨z1, hz1⟩ : ∃ z1 : Int, z1 = ra.getD 0 := ⟨_, rfl⟩
  obtain ⟨z2, hz2⟩ : ∃ z2 : Int, z2 = rc.getD 0 := ⟨_, rfl⟩
  obtain ⟨b1, hb1⟩ : ∃ b1 : Bool, b1 = ra.isSome := ⟨_, rfl⟩
  obtain ⟨b2, hb2⟩ : ∃ b2 : Bool, b2 = rc.isSome := ⟨_, rfl⟩
  have hth : thr [45, 103, 116] a c = (val0 (if b1 && b2 then t01 (decide (z2 < z1)) else 2), true) := by
    have hm : mid [45, 103, 116] a c = some (if b1 && b2 then t01 (decide (z2 < z1)) else 2) := by
      have h0 : mid [45, 103, 116] a c = some (cmpT' (fun a b => decide (b < a)) a c) := by unfold mid cmpT'; rw [if_neg (by decide), if_neg (by decide)]; show (match some (fun a b => decide (b < a)) with | none => none | some f => match tnum a, tnum c with | some x, some y => some (t01 (f x y)) | _, _ => some 2) = _; simp only; cases tnum a <;> cases tnum c <;> rfl
      rw [h0]; unfold cmpT'; rw [hz1, hz2, hb1, hb2, ← hra, ← hrc]; cases ra <;> cases rc <;> rfl
    unfold thr; rw [hm]
  unfold ThrC
  rw [hth]
  unfold numI at HA HC
  rw [← hz1, ← hb1] at HA
  rw [← hz2, ← hb2] at HC
  clear hth hra hrc hz1 hz2 hb1 hb2 ha hc
  obtain ⟨b, hb⟩ : ∃ b, (decide (z2 < z1)) = b := ⟨_, rfl⟩
  rw [hb]
  have HT := Lib.hid (fun W => truth_v b W)
  have htl : ∀ l, (mkS l).toList = l := toList_mkS
  have HBL := Lib.hid (heap_alloc_new W (.cells #[.int .i64 0, .bool false, .bool false, .string ⟨#[]⟩, .string ⟨#[]⟩] 29))
  have HL0 := Lib.hid (Later.alloc W (.cells #[.int .i64 0, .bool false, .bool false, .string ⟨#[]⟩, .string ⟨#[]⟩] 29))
  cases b1
  · simp only [Bool.false_and, Bool.false_eq_true, if_false]
    go_enter Tryd.func17, Tryd.ntmps17
    go_wp2_with ((go_at_call 28; (first | (with_reducible refine (HA.out _).mono ?_) | (with_reducible refine (HC.out _).mono ?_)); rintro e w0 ⟨rfl, rfl⟩))
    refine bodyPost_ret (results_A2 rfl _ _ W.heap.size _ rfl (heap_alloc_new _ _) rfl _ rfl) rfl ?_
    exact ⟨rfl, (Later.alloc _ _)⟩
  · cases b2
    · simp only [Bool.and_false, Bool.false_eq_true, if_false]
      go_enter Tryd.func17, Tryd.ntmps17
      go_wp2_with ((go_at_call 28; (first | (with_reducible refine (HA.out _).mono ?_) | (with_reducible refine (HC.out _).mono ?_)); rintro e w0 ⟨rfl, rfl⟩))
      refine bodyPost_ret (results_A2 rfl _ _ W.heap.size _ rfl (heap_alloc_new _ _) rfl _ rfl) rfl ?_
      exact ⟨rfl, (Later.alloc _ _)⟩
    · simp only [Bool.and_self, if_true]
      go_enter Tryd.func17, Tryd.ntmps17
      go_wp2_with (first
        | (go_at_call 28; (first | (with_reducible refine (HA.out _).mono ?_) | (with_reducible refine (HC.out _).mono ?_)); rintro e w0 ⟨rfl, rfl⟩)
        | (go_at_call 16; (try rw [hb]); (with_reducible refine (HT.out _).mono ?_); rintro e w1 ⟨rfl, hl1⟩; have HST := Lib.hid (And.intro (later_cells hl1 HBL.out) (show (#[.int .i64 0, .bool false, .bool false, .string ⟨#[]⟩, .string ⟨#[]⟩] : Array Value).size = 5 from rfl)); have HL1 := Lib.hid (HL0.out.trans hl1); clear hl1)
        | (refine wpList_storeR rfl (.tmp 6) (.tmp 75) rfl W.heap.size _ _ rfl rfl HST ?_; intro w4 hb4 hg4; have HB4 := Lib.hid hb4; have HL4 := Lib.hid (later_of_new HL1.out hg4 (Nat.le_refl _)); clear hb4 hg4))
      refine bodyPost_ret (results_A2 rfl _ _ W.heap.size _ rfl HB4.out rfl _ rfl) rfl ?_
      exact ⟨rfl, HL4.out⟩
set_option maxHeartbeats 1600000 in
set_option maxRecDepth 100000 in
theorem three_nge (a c : L) (ha : a.length ≤ 2000000) (hc : c.length ≤ 2000000) (W : World) : ThrC [45, 103, 101] a c W := by
  have HA := Lib.hid (fun W => reft_v a ha W)
  have HC := Lib.hid (fun W => reft_v c hc W)
  obtain ⟨ra, hra⟩ : ∃ ra, ra = tnum a := ⟨_, rfl⟩
  obtain ⟨rc, hrc⟩ : ∃ rc, rc = tnum c := ⟨_, rfl⟩
  rw [← hra] at HA
  rw [← hrc] at HC
  obtain ⟨z1, hz1⟩ : ∃ z1 : Int, z1 = ra.getD 0 := ⟨_, rfl⟩
  obtain ⟨z2, hz2⟩ : ∃ z2 : Int, z2 = rc.getD 0 := ⟨_, rfl⟩
  obtain ⟨b1, hb1⟩ : ∃ b1 : Bool, b1 = ra.isSome := ⟨_, rfl⟩
  obtain ⟨b2, hb2⟩ : ∃ b2 : Bool, b2 = rc.isSome := ⟨_, rfl⟩
  have hth : thr [45, 103, 101] a c = (val0 (if b1 && b2 then t01 (decide (z2 ≤ z1)) else 2), true) := by
    have hm : mid [45, 103, 101] a c = some (if b1 && b2 then t01 (decide (z2 ≤ z1)) else 2) := by
      have h0 : mid [45, 103, 101] a c = some (cmpT' (fun a b => decide (b ≤ a)) a c) := by unfold mid cmpT'; rw [if_neg (by decide), if_neg (by decide)]; show (match some (fun a b => decide (b ≤ a)) with | none => none | some f => match tnum a, tnum c with | some x, some y => some (t01 (f x y)) | _, _ => some 2) = _; simp only; cases tnum a <;> cases tnum c <;> rfl
      rw [h0]; unfold cmpT'; rw [hz1, hz2, hb1, hb2, ← hra, ← hrc]; cases ra <;> cases rc <;> rfl
    unfold thr; rw [hm]
  unfold ThrC
  rw [hth]
  unfold numI at HA HC
  rw [← hz1, ← hb1] at HA
  rw [← hz2, ← hb2] at HC
  clear hth hra hrc hz1 hz2 hb1 hb2 ha hc
  obtain ⟨b, hb⟩ : ∃ b, (decide (z2 ≤ z1)) = b := ⟨_, rfl⟩
  rw [hb]
  have HT := Lib.hid (fun W => truth_v b W)
  have htl : ∀ l, (mkS l).toList = l := toList_mkS
  have HBL := Lib.hid (heap_alloc_new W (.cells #[.int .i64 0, .bool false, .bool false, .string ⟨#[]⟩, .string ⟨#[]⟩] 29))
  have HL0 := Lib.hid (Later.alloc W (.cells #[.int .i64 0, .bool false, .bool false, .string ⟨#[]⟩, .string ⟨#[]⟩] 29))
  cases b1
  · simp only [Bool.false_and, Bool.false_eq_true, if_false]
    go_enter Tryd.func17, Tryd.ntmps17
    go_wp2_with ((go_at_call 28; (first | (with_reducible refine (HA.out _).mono ?_) | (with_reducible refine (HC.out _).mono ?_)); rintro e w0 ⟨rfl, rfl⟩))
    refine bodyPost_ret (results_A2 rfl _ _ W.heap.size _ rfl (heap_alloc_new _ _) rfl _ rfl) rfl ?_
    exact ⟨rfl, (Later.alloc _ _)⟩
  · cases b2
    · simp only [Bool.and_false, Bool.false_eq_true, if_false]
      go_enter Tryd.func17, Tryd.ntmps17
      go_wp2_with ((go_at_call 28; (first | (with_reducible refine (HA.out _).mono ?_) | (with_reducible refine (HC.out _).mono ?_)); rintro e w0 ⟨rfl, rfl⟩))
      refine bodyPost_ret (results_A2 rfl _ _ W.heap.size _ rfl (heap_alloc_new _ _) rfl _ rfl) rfl ?_
      exact ⟨rfl, (Later.alloc _ _)⟩
    · simp only [Bool.and_self, if_true]
      go_enter Tryd.func17, Tryd.ntmps17
      go_wp2_with (first
        | (go_at_call 28; (first | (with_reducible refine (HA.out _).mono ?_) | (with_reducible refine (HC.out _).mono ?_)); rintro e w0 ⟨rfl, rfl⟩)
        | (go_at_call 16; (try rw [hb]); (with_reducible refine (HT.out _).mono ?_); rintro e w1 ⟨rfl, hl1⟩; have HST := Lib.hid (And.intro (later_cells hl1 HBL.out) (show (#[.int .i64 0, .bool false, .bool false, .string ⟨#[]⟩, .string ⟨#[]⟩] : Array Value).size = 5 from rfl)); have HL1 := Lib.hid (HL0.out.trans hl1); clear hl1)
        | (refine wpList_storeR rfl (.tmp 6) (.tmp 75) rfl W.heap.size _ _ rfl rfl HST ?_; intro w4 hb4 hg4; have HB4 := Lib.hid hb4; have HL4 := Lib.hid (later_of_new HL1.out hg4 (Nat.le_refl _)); clear hb4 hg4))
      refine bodyPost_ret (results_A2 rfl _ _ W.heap.size _ rfl HB4.out rfl _ rfl) rfl ?_
      exact ⟨rfl, HL4.out⟩
set_option maxHeartbeats 1600000 in
set_option maxRecDepth 100000 in
theorem three_none (op a c : L) (ha : a.length ≤ 2000000) (hc : c.length ≤ 2000000) (h0 : op ≠ [61]) (h1 : op ≠ [33, 61]) (h2 : op ≠ [45, 101, 113]) (h3 : op ≠ [45, 110, 101]) (h4 : op ≠ [45, 108, 116]) (h5 : op ≠ [45, 108, 101]) (h6 : op ≠ [45, 103, 116]) (h7 : op ≠ [45, 103, 101]) (W : World) : ThrC op a c W := by
  have HA := Lib.hid (fun W => reft_v a ha W)
  have HC := Lib.hid (fun W => reft_v c hc W)
  have htl : ∀ l, (mkS l).toList = l := toList_mkS
  have hth : thr op a c = (val0 0, false) := by
    have hm : mid op a c = none := by unfold mid cmpF; simp [h0, h1, h2, h3, h4, h5, h6, h7]
    unfold thr; rw [hm]
  unfold ThrC
  rw [hth]
  obtain ⟨ra, hra⟩ : ∃ ra, ra = tnum a := ⟨_, rfl⟩
  obtain ⟨rc, hrc⟩ : ∃ rc, rc = tnum c := ⟨_, rfl⟩
  rw [← hra] at HA
  rw [← hrc] at HC
  unfold numI at HA HC
  have q0 : (op == [61]) = false := beq_eq_false_iff_ne.2 h0
  have q1 : (op == [33, 61]) = false := beq_eq_false_iff_ne.2 h1
  have q2 : (op == [45, 101, 113]) = false := beq_eq_false_iff_ne.2 h2
  have q3 : (op == [45, 110, 101]) = false := beq_eq_false_iff_ne.2 h3
  have q4 : (op == [45, 108, 116]) = false := beq_eq_false_iff_ne.2 h4
  have q5 : (op == [45, 108, 101]) = false := beq_eq_false_iff_ne.2 h5
  have q6 : (op == [45, 103, 116]) = false := beq_eq_false_iff_ne.2 h6
  have q7 : (op == [45, 103, 101]) = false := beq_eq_false_iff_ne.2 h7
  clear hth hra hrc ha hc h0 h1 h2 h3 h4 h5 h6 h7
  go_enter Tryd.func17, Tryd.ntmps17
  go_wp2_with ((go_at_call 28; (first | (with_reducible refine (HA.out _).mono ?_) | (with_reducible refine (HC.out _).mono ?_)); rintro e w0 ⟨rfl, rfl⟩))
  refine bodyPost_ret (results_A2 rfl _ _ W.heap.size _ rfl (heap_alloc_new _ _) rfl _ rfl) rfl ?_
  exact ⟨rfl, (Later.alloc _ _)⟩
theorem three_v (op a c : L) (ha : a.length ≤ 2000000) (hc : c.length ≤ 2000000) (W : World) : ThrC op a c W := by
  by_cases h0 : op = [61]
  · subst h0; exact three_eq a c W
  by_cases h1 : op = [33, 61]
  · subst h1; exact three_ne a c W
  by_cases h2 : op = [45, 101, 113]
  · subst h2; exact three_neq a c ha hc W
  by_cases h3 : op = [45, 110, 101]
  · subst h3; exact three_nne a c ha hc W
  by_cases h4 : op = [45, 108, 116]
  · subst h4; exact three_nlt a c ha hc W
  by_cases h5 : op = [45, 108, 101]
  · subst h5; exact three_nle a c ha hc W
  by_cases h6 : op = [45, 103, 116]
  · subst h6; exact three_ngt a c ha hc W
  by_cases h7 : op = [45, 103, 101]
  · subst h7; exact three_nge a c ha hc W
  exact three_none op a c ha hc h0 h1 h2 h3 h4 h5 h6 h7 W
end Ar
end Go.Proofs.YtjidclefpmcgoaaDoor
