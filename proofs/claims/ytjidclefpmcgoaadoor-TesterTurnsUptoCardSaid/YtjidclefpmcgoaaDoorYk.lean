/- What the table holds; stands, ahead. The listed variables: their condition. -/
import Derived.Test.YtjidclefpmcgoaaDoorYj
namespace Go.Proofs.YtjidclefpmcgoaaDoor
open Go.RowKit Go.Maps
namespace Ar
theorem results_ask {fn : Func} {p q r : Tmp} (h : fn.results = #[.tmp q, .cell p 25, .tmp r]) (tmps : Array Value) (w : World) (g : Nat) (cs : Array Value) (hp : tmps.getD p undef = .pointer (some ⟨g, 0, none⟩)) (hg : w.heap[g]? = some (.cells cs 25 (0, 0))) (hs : cs.size = 3) (v : Value) (hq : tmps.getD q undef = v) (x : Value) (hr : tmps.getD r undef = x) : (results fn tmps).run Tryd.prog w = .ok (.tuple #[v, .agg cs, x]) w := by
  have hp' : tmps[p]?.getD undef = .pointer (some ⟨g, 0, none⟩) := by simpa using hp
  have hq' : tmps[q]?.getD undef = v := by simpa using hq
  have hr' : tmps[r]?.getD undef = x := by simpa using hr
  simp [results, h, hp', hq', hr', asAddr, run_loadVar_row w g _ _ cs (0, 0) _ hg Tryd.underlying25 rfl (by rw [hs]; kernel_rfl)]
set_option maxRecDepth 100000 in
theorem same_v (a c : L) (W : World) : Calls Tryd.prog 19 #[.string (mkS a), .string (mkS c)] W fun e W' => e = .returned (.int .i64 (t01 (a == c))) ∧ W' = W := by
  have htl : ∀ l, (mkS l).toList = l := toList_mkS
  obtain ⟨b, hb⟩ : ∃ b, (a == c) = b := ⟨_, rfl⟩
  rw [hb]
  have HT := Lib.hid (fun W => told_v b W)
  go_enter Tryd.func19, Tryd.ntmps19
  go_wp2_with (go_at_call 11; (try rw [hb]); (with_reducible refine (HT.out _).mono ?_); rintro e w1 ⟨rfl, rfl⟩)
  go_ret
  exact ⟨rfl, rfl⟩
set_option maxRecDepth 100000 in
theorem other_v (a c : L) (W : World) : Calls Tryd.prog 20 #[.string (mkS a), .string (mkS c)] W fun e W' => e = .returned (.int .i64 (t01 (a != c))) ∧ W' = W := by
  have htl : ∀ l, (mkS l).toList = l := toList_mkS
  obtain ⟨b, hb⟩ : ∃ b, (!(a == c)) = b := ⟨_, rfl⟩
  rw [show (a != c) = !(a == c) from rfl]
  rw [hb]
  have HT := Lib.hid (fun W => told_v b W)
  go_enter Tryd.func20, Tryd.ntmps20
  go_wp2_with (go_at_call 11; (try rw [hb]); (with_reducible refine (HT.out _).mono ?_); rintro e w1 ⟨rfl, rfl⟩)
  go_ret
  exact ⟨rfl, rfl⟩
/-- A function that does what a sign says, whatever becomes of block g. -/
def FnOk (g : Nat) (w : World) (v : Value) (op : L) : Prop := ∃ F cap, v = .func (.func F) #[] cap ∧ Enters F ∧ ∀ a c : L, a.length ≤ 2000000 → c.length ≤ 2000000 → ∀ w', Fr (fun b => b ≠ g) w w' → Vd w' → Calls Tryd.prog F (#[.string (mkS a), .string (mkS c)] ++ cap) w' fun e w'' => e = .returned (.int .i64 ((mid op a c).getD 2)) ∧ Later w' w''
theorem FnOk.fr {g : Nat} {w w1 : World} {v : Value} {op : L} (h : FnOk g w v op) (hl : Fr (fun b => b ≠ g) w w1) : FnOk g w1 v op := by
  obtain ⟨F, cap, h1, h2, h3⟩ := h
  exact ⟨F, cap, h1, h2, fun a c ha hc w' hw hv => h3 a c ha hc w' (hl.trans hw) hv⟩
theorem fn_cmp {gb : Nat} {w : World} {op : L} {g : Int → Int → Bool} {F b : Nat} (hg : cmpF op = some g) (h1 : op ≠ [61]) (h2 : op ≠ [33, 61]) (hok : HoldsOk F g) (hen : Enters F) (hbg : b ≠ gb) (hb : w.heap[b]? = some (.cells #[fn0 F] 51 (0, 0))) : FnOk gb w (clo b) op := by
  refine ⟨_, _, rfl, fun args w => run_enter Tryd.func29 (by kernel_rfl) rfl args w, fun a c ha hc w' hl hv => ?_⟩
  refine (nums_v F g hok hen a c ha hc b w' hv ((hl.block b (lt_of_block hb) hbg).trans hb)).mono ?_
  rintro e w'' ⟨rfl, hl'⟩
  refine ⟨?_, hl'⟩
  unfold mid cmpT
  rw [if_neg h1, if_neg h2, hg]
  cases tnum a <;> cases tnum c <;> rfl
theorem Bet.fn {B g : Nat} {W : World} {m : Nat} (h : Bet B W m) (hgB : g ≤ B) : ∃ f, TabS W m 30 f ∧ ∀ op, (f op).isSome = isOp op ∧ ∀ v, f op = some v → FnOk g W v op := by
  obtain ⟨b3, b4, b5, b6, b7, b8, ⟨q, q3, q4, q5, q6, q7, q8⟩, h0, h3, h4, h5, h6, h7, h8⟩ := h
  refine ⟨_, h0, fun op => ?_⟩
  unfold betT isOp cmpF
  by_cases e1 : op = [61]
  · subst e1
    refine ⟨rfl, fun v hv => ?_⟩
    injection hv with hv
    subst hv
    refine ⟨_, _, rfl, fun args w => run_enter Tryd.func19 (by kernel_rfl) rfl args w, fun a c _ _ w' _ _ => (same_v a c w').mono ?_⟩
    rintro e w'' ⟨rfl, rfl⟩
    exact ⟨rfl, Later.refl _⟩
  by_cases e2 : op = [33, 61]
  · subst e2
    refine ⟨rfl, fun v hv => ?_⟩
    injection hv with hv
    subst hv
    refine ⟨_, _, rfl, fun args w => run_enter Tryd.func20 (by kernel_rfl) rfl args w, fun a c _ _ w' _ _ => (other_v a c w').mono ?_⟩
    rintro e w'' ⟨rfl, rfl⟩
    exact ⟨rfl, Later.refl _⟩
  by_cases e3 : op = [45, 101, 113]
  · subst e3
    refine ⟨rfl, fun v hv => ?_⟩
    injection hv with hv
    subst hv
    exact fn_cmp (g := fun a b => a == b) rfl (by decide) (by decide) holdsOk3 (fun args w => run_enter Tryd.func22 (by kernel_rfl) rfl args w) (by omega) h3
  by_cases e4 : op = [45, 110, 101]
  · subst e4
    refine ⟨rfl, fun v hv => ?_⟩
    injection hv with hv
    subst hv
    exact fn_cmp (g := fun a b => a != b) rfl (by decide) (by decide) holdsOk4 (fun args w => run_enter Tryd.func23 (by kernel_rfl) rfl args w) (by omega) h4
  by_cases e5 : op = [45, 108, 116]
  · subst e5
    refine ⟨rfl, fun v hv => ?_⟩
    injection hv with hv
    subst hv
    exact fn_cmp (g := fun a b => decide (a < b)) rfl (by decide) (by decide) holdsOk5 (fun args w => run_enter Tryd.func24 (by kernel_rfl) rfl args w) (by omega) h5
  by_cases e6 : op = [45, 108, 101]
  · subst e6
    refine ⟨rfl, fun v hv => ?_⟩
    injection hv with hv
    subst hv
    exact fn_cmp (g := fun a b => decide (a ≤ b)) rfl (by decide) (by decide) holdsOk6 (fun args w => run_enter Tryd.func25 (by kernel_rfl) rfl args w) (by omega) h6
  by_cases e7 : op = [45, 103, 116]
  · subst e7
    refine ⟨rfl, fun v hv => ?_⟩
    injection hv with hv
    subst hv
    exact fn_cmp (g := fun a b => decide (b < a)) rfl (by decide) (by decide) holdsOk7 (fun args w => run_enter Tryd.func26 (by kernel_rfl) rfl args w) (by omega) h7
  by_cases e8 : op = [45, 103, 101]
  · subst e8
    refine ⟨rfl, fun v hv => ?_⟩
    injection hv with hv
    subst hv
    exact fn_cmp (g := fun a b => decide (b ≤ a)) rfl (by decide) (by decide) holdsOk8 (fun args w => run_enter Tryd.func27 (by kernel_rfl) rfl args w) (by omega) h8
  refine ⟨by simp [e1, e2, e3, e4, e5, e6, e7, e8], fun v hv => ?_⟩
  simp [e1, e2, e3, e4, e5, e6, e7, e8] at hv
/-- What a sign is looked up as. -/
theorem Bet.look {B g : Nat} {W : World} {m : Nat} (h : Bet B W m) (hgB : g ≤ B) (op : L) (hop : op.length ≤ 2000000) : ∃ v, (Instr.lookup 41 (.map (some m)) (.string (mkS op)) true).run Tryd.prog W = .ok (.tuple #[v, .bool (isOp op)]) W ∧ (Instr.lookup 41 (.map (some m)) (.string (mkS op)) false).run Tryd.prog W = .ok v W ∧ (isOp op = true → FnOk g W v op) := by
  obtain ⟨f, h1, h2⟩ := h.fn hgB
  refine ⟨_, ?_, h1.look2 op hop, fun hi => ?_⟩
  · rw [h1.look op hop, (h2 op).1]
  · have h3 := (h2 op).1
    rw [hi] at h3
    obtain ⟨v, hv⟩ := Option.isSome_iff_exists.1 h3
    rw [hv]
    exact (h2 op).2 v hv
set_option maxHeartbeats 800000 in
set_option maxRecDepth 100000 in
theorem stands_v (op : L) (hop : op.length ≤ 2000000) (W : World) : Calls Tryd.prog 12 #[.string (mkS op)] W fun e W' => e = .returned (.bool (isOp op)) ∧ Later W W' := by
  have HB := Lib.hid (between_v W)
  obtain ⟨b, hb⟩ : ∃ b, isOp op = b := ⟨_, rfl⟩
  have HO := Lib.hid (And.intro hop hb)
  rw [hb]
  clear hop hb
  go_enter Tryd.func12, Tryd.ntmps12
  go_wp2_with (go_at_call 13; (with_reducible refine HB.out.mono ?_); rintro e w1 ⟨rfl, hbt, hl1⟩; obtain ⟨v, hlk, _, _⟩ := hbt.look (Nat.le_refl _) op HO.out.1; rw [HO.out.2] at hlk; have HL1 := Lib.hid hl1; clear hbt hl1)
  go_ret
  exact ⟨rfl, HL1.out⟩
/-- What Decide, and what it asks, tell. -/
abbrev DecC (F : Nat) (args : Array Value) (W : World) (d : D) : Prop := Calls Tryd.prog F args W fun e W' => e = .returned (decV d) ∧ Later W W'
set_option maxHeartbeats 1600000 in
set_option maxRecDepth 100000 in
theorem ahead_v (op s : L) (W : World) : DecC 15 #[.string (mkS op), .string (mkS s)] W (ahead op s) := by
  unfold ahead
  have htl : ∀ l, (mkS l).toList = l := toList_mkS
  have HTT := Lib.hid (fun b W => told_v b W)
  by_cases hn : op = [45, 110]
  · have qn : (op == [45, 110]) = true := by rw [hn]; rfl
    rw [if_pos hn]
    rw [← isEmpty_bne]
    obtain ⟨b, hb⟩ : ∃ b, (!s.isEmpty) = b := ⟨_, rfl⟩
    rw [hb]
    clear hn
    go_enter Tryd.func15, Tryd.ntmps15
    go_wp2_with (go_at_call 11; (with_reducible refine (HTT.out _ _).mono ?_); rintro e w1 ⟨rfl, rfl⟩)
    refine bodyPost_ret (results_ask rfl _ _ W.heap.size _ rfl (heap_alloc_new _ _) rfl _ rfl _ rfl) rfl ?_
    exact ⟨rfl, Later.alloc _ _⟩
  · skip
    by_cases hz : op = [45, 122]
    · have qz : (op == [45, 122]) = true := by rw [hz]; rfl
      have qn : (op == [45, 110]) = false := beq_eq_false_iff_ne.2 hn
      rw [if_neg hn, if_pos hz]
      obtain ⟨b, hb⟩ : ∃ b, (s == []) = b := ⟨_, rfl⟩
      rw [hb]
      clear hn hz
      go_enter Tryd.func15, Tryd.ntmps15
      go_wp2_with (go_at_call 11; (with_reducible refine (HTT.out _ _).mono ?_); rintro e w1 ⟨rfl, rfl⟩)
      refine bodyPost_ret (results_ask rfl _ _ W.heap.size _ rfl (heap_alloc_new _ _) rfl _ rfl _ rfl) rfl ?_
      exact ⟨rfl, Later.alloc _ _⟩
    · skip
      by_cases he : op = [45, 101]
      · have qe : (op == [45, 101]) = true := by rw [he]; rfl
        have qn : (op == [45, 110]) = false := beq_eq_false_iff_ne.2 hn
        have qz : (op == [45, 122]) = false := beq_eq_false_iff_ne.2 hz
        rw [if_neg hn, if_neg hz, if_pos (by simp [he])]
        clear hn hz he
        go_enter Tryd.func15, Tryd.ntmps15
        go_wp2_with (go_at_call 11; (with_reducible refine (HTT.out _ _).mono ?_); rintro e w1 ⟨rfl, rfl⟩)
        refine bodyPost_ret (results_ask rfl _ _ W.heap.size _ rfl (heap_alloc_new _ _) rfl _ rfl _ rfl) rfl ?_
        exact ⟨rfl, Later.alloc _ _⟩
      · skip
        by_cases hf : op = [45, 102]
        · have qf : (op == [45, 102]) = true := by rw [hf]; rfl
          have qn : (op == [45, 110]) = false := beq_eq_false_iff_ne.2 hn
          have qz : (op == [45, 122]) = false := beq_eq_false_iff_ne.2 hz
          have qe : (op == [45, 101]) = false := beq_eq_false_iff_ne.2 he
          rw [if_neg hn, if_neg hz, if_pos (by simp [hf])]
          clear hn hz he hf
          go_enter Tryd.func15, Tryd.ntmps15
          go_wp2_with (go_at_call 11; (with_reducible refine (HTT.out _ _).mono ?_); rintro e w1 ⟨rfl, rfl⟩)
          refine bodyPost_ret (results_ask rfl _ _ W.heap.size _ rfl (heap_alloc_new _ _) rfl _ rfl _ rfl) rfl ?_
          exact ⟨rfl, Later.alloc _ _⟩
        · skip
          by_cases hd : op = [45, 100]
          · have qd : (op == [45, 100]) = true := by rw [hd]; rfl
            have qn : (op == [45, 110]) = false := beq_eq_false_iff_ne.2 hn
            have qz : (op == [45, 122]) = false := beq_eq_false_iff_ne.2 hz
            have qe : (op == [45, 101]) = false := beq_eq_false_iff_ne.2 he
            have qf : (op == [45, 102]) = false := beq_eq_false_iff_ne.2 hf
            rw [if_neg hn, if_neg hz, if_pos (by simp [hd])]
            clear hn hz he hf hd
            go_enter Tryd.func15, Tryd.ntmps15
            go_wp2_with (go_at_call 11; (with_reducible refine (HTT.out _ _).mono ?_); rintro e w1 ⟨rfl, rfl⟩)
            refine bodyPost_ret (results_ask rfl _ _ W.heap.size _ rfl (heap_alloc_new _ _) rfl _ rfl _ rfl) rfl ?_
            exact ⟨rfl, Later.alloc _ _⟩
          · skip
            have qn : (op == [45, 110]) = false := beq_eq_false_iff_ne.2 hn
            have qz : (op == [45, 122]) = false := beq_eq_false_iff_ne.2 hz
            have qe : (op == [45, 101]) = false := beq_eq_false_iff_ne.2 he
            have qf : (op == [45, 102]) = false := beq_eq_false_iff_ne.2 hf
            have qd : (op == [45, 100]) = false := beq_eq_false_iff_ne.2 hd
            rw [if_neg hn, if_neg hz, if_neg (by simp [he, hf, hd])]
            clear hn hz he hf hd
            go_enter Tryd.func15, Tryd.ntmps15
            go_wp2_with (go_at_call 11; (with_reducible refine (HTT.out _ _).mono ?_); rintro e w1 ⟨rfl, rfl⟩)
            refine bodyPost_ret (results_ask rfl _ _ W.heap.size _ rfl (heap_alloc_new _ _) rfl _ rfl _ rfl) rfl ?_
            exact ⟨rfl, Later.alloc _ _⟩
end Ar
end Go.Proofs.YtjidclefpmcgoaaDoor
