/- The table of what stands between two texts. The listed variables: their condition. -/
import Derived.Test.YtjidclefpmcgoaaDoorYh
import Derived.Test.YtjidclefpmcgoaaDoorSof7
import Derived.Maps.OwnSet
import Derived.Maps.Views
namespace Go.Proofs.YtjidclefpmcgoaaDoor
open Go.RowKit Go.Maps
theorem ValWp.callV {P : Program} {o : Oper} {f : FuncId} {xs : Array Operand} {ats : Array TypeId} {ρ : Operand → Value} {w : World} {K : Value → World → Prop} {cap : Array Value} (x : Operand) (vals : Array Value)
    (hop : o.op = .call { callee := .value x, args := xs, argTypes := ats }) (hρ : ρ x = .func (.func f) #[] cap) (hent : ∀ (args : Array Value) (w : World), (callFunc f args).run P w = .ok (.enter f args) w)
    (hv : xs.map ρ = vals) (h : Calls P f (vals ++ cap) w fun e w'' => ∃ v, e = .returned v ∧ K v w'') : ValWp P o ρ w K := by
  have e1 : execOp ρ o = callFunc f (vals ++ cap) := by
    subst hv
    unfold execOp
    simp [hop, resolve, Deferred.ofValue, invoke, hρ]
  unfold ValWp
  rw [e1, hent]
  exact h
namespace Ar
def heldR (v : Value) : Option (DataW Value × List MemPlace) := some (.held v, [])
/-- Block m is a table of functions by text. -/
def TabS (W : World) (m k : Nat) (f : L → Option Value) : Prop :=
  ∃ D n, W.ownsMap Tryd.prog 9 heldR m n D ∧ n ≤ k ∧ ∀ c, Maps.has D (.string c) = (f c).isSome ∧ ∀ z, D.atKey (.string c) (.held z) = .held ((f c).getD z)
theorem str_keyed : Keyed Tryd.prog 9 := string_keyed Tryd.underlying9
theorem keyOf_str (t : L) (ht : t.length ≤ 2000000) : keyOf Tryd.prog 9 (sv t) = some (.string t) := by
  have h1 : (mkS t).size ≤ maxLen := by rw [mkS_size]; unfold maxLen; omega
  rw [keyOf_string Tryd.underlying9]
  simp [sv, mapKey, Tryd.underlying9, h1, mkS_list]
theorem TabS.kept {W W' : World} {m k : Nat} {f : L → Option Value} {row : Option Nat} (h : TabS W m k f) (hg : W.grownBy W' row) (hne : some m ≠ row) : TabS W' m k f := by
  obtain ⟨D, n, h1, h2, h3⟩ := h
  exact ⟨D, n, h1.kept hg hne, h2, h3⟩
theorem TabS.look {W : World} {m k : Nat} {f : L → Option Value} (h : TabS W m k f) (c : L) (hc : c.length ≤ 2000000) : (Instr.lookup 41 (.map (some m)) (.string (mkS c)) true).run Tryd.prog W = .ok (.tuple #[(f c).getD .nilFunc, .bool (f c).isSome]) W := by
  obtain ⟨D, k, h1, _, h3⟩ := h
  obtain ⟨v, ps, hrun, hv⟩ := World.ownsMap.look_ok (w := W) h1 str_keyed Tryd.underlying41 (z := .nilFunc) (by kernel_rfl) (zd := .held .nilFunc) (zp := []) rfl (keyOf_str c hc)
  rw [(h3 c).2 .nilFunc] at hv
  simp only [heldR, Option.some.injEq, Prod.mk.injEq, DataW.held.injEq] at hv
  rw [show (Value.string (mkS c)) = sv c from rfl, hrun, hv.1, (h3 c).1]
theorem TabS.look2 {W : World} {m k : Nat} {f : L → Option Value} (h : TabS W m k f) (c : L) (hc : c.length ≤ 2000000) : (Instr.lookup 41 (.map (some m)) (.string (mkS c)) false).run Tryd.prog W = .ok ((f c).getD .nilFunc) W := by
  obtain ⟨D, k, h1, _, h3⟩ := h
  obtain ⟨v, ps, hrun, hv⟩ := World.ownsMap.lookup (w := W) h1 str_keyed Tryd.underlying41 (z := .nilFunc) (by kernel_rfl) (zd := .held .nilFunc) (zp := []) rfl (keyOf_str c hc)
  rw [(h3 c).2 .nilFunc] at hv
  simp only [heldR, Option.some.injEq, Prod.mk.injEq, DataW.held.injEq] at hv
  rw [show (Value.string (mkS c)) = sv c from rfl, hrun, hv.1]
theorem TabS.made (W : World) : TabS (W.alloc (.map #[] 0)) W.heap.size 0 fun _ => none :=
  ⟨.map [], 0, World.ownsMap_made W _ _ _, by omega, fun c => ⟨rfl, fun z => rfl⟩⟩
def putS (f : L → Option Value) (c : L) (v : Value) : L → Option Value := fun x => if x = c then some v else f x
theorem str_ne {a b : L} (h : a ≠ b) : (Lit.string a) ≠ .string b := by
  intro e
  injection e with e
  exact h e
theorem TabS.put {W : World} {m k : Nat} {f : L → Option Value} (h : TabS W m k f) (hk : k ≤ 29) (c : L) (hc : c.length ≤ 5000) (v : Value) : ∃ W', (Instr.mapUpdate 41 (.map (some m)) (sv c) v).run Tryd.prog W = .ok () W' ∧ TabS W' m (k + 1) (putS f c v) ∧ W.grownBy W' (some m) := by
  obtain ⟨D, n, h1, h2, h3⟩ := h
  obtain ⟨W', hr, h4, h5⟩ := h1.update str_keyed Tryd.underlying41 (by unfold maxLen; omega) (keyOf_str c (by omega)) (val := v) (d := .held v) (ps := []) rfl
  refine ⟨W', hr, ⟨_, n + 1, h4, by omega, fun x => ?_⟩, h5⟩
  unfold putS
  by_cases hx : x = c
  · subst hx
    rw [if_pos rfl]
    exact ⟨has_put_same h1.isMap (show WideAt.IsKeyLit (.string x) from trivial) _, fun z => atKey_put_same h1.isMap (show WideAt.IsKeyLit (.string x) from trivial) _ _⟩
  · rw [if_neg hx, has_put_other (str_ne hx)]
    exact ⟨(h3 x).1, fun z => by rw [atKey_put_other (str_ne hx)]; exact (h3 x).2 z⟩
/-- A closure over an order: what it captured stands in a block of its own. -/
def clo (b : Nat) : Value := .func (.func 29) #[] #[.pointer (some ⟨b, 0, none⟩)]
def fn0 (F : Nat) : Value := .func (.func F) #[] #[]
/-- The table under way: what stands in it, and the closures' blocks. -/
structure Mk (W0 W : World) (k : Nat) (f : L → Option Value) (cl : List (Nat × Nat)) : Prop where
  tab : TabS W W0.heap.size k f
  later : Later W0 W
  clo : ∀ p ∈ cl, W0.heap.size < p.1 ∧ W.heap[p.1]? = some (.cells #[fn0 p.2] 51 (0, 0))
theorem Mk.start (W : World) : Mk W (W.alloc (.map #[] 0)) 0 (fun _ => none) [] := ⟨TabS.made W, Later.alloc W _, by simp⟩
theorem Mk.put {W0 W : World} {k : Nat} {f : L → Option Value} {cl : List (Nat × Nat)} (h : Mk W0 W k f cl) (hk : k ≤ 29) (c : L) (hc : c.length ≤ 5000) (v : Value) : ∃ W', (Instr.mapUpdate 41 (.map (some W0.heap.size)) (sv c) v).run Tryd.prog W = .ok () W' ∧ Mk W0 W' (k + 1) (putS f c v) cl := by
  obtain ⟨W', h1, h2, h3⟩ := h.tab.put hk c hc v
  exact ⟨W', h1, h2, later_of_new h.later h3 (Nat.le_refl _), fun p hp => ⟨(h.clo p hp).1, (h3.block _ (lt_of_block (h.clo p hp).2) (fun e => by injection e with e; have := (h.clo p hp).1; omega)).trans (h.clo p hp).2⟩⟩
theorem Mk.box {W0 W : World} {k : Nat} {f : L → Option Value} {cl : List (Nat × Nat)} (h : Mk W0 W k f cl) (F : Nat) : Mk W0 (W.alloc (.cells #[fn0 F] 51)) k f ((W.heap.size, F) :: cl) := by
  have hm := h.later.size
  have hlt : W0.heap.size < W.heap.size := by
    obtain ⟨D, n, h1, _⟩ := h.tab
    exact h1.lt
  refine ⟨h.tab.kept (grown_of_later (Later.alloc W _) none) (by simp), h.later.trans (Later.alloc _ _), fun p hp => ?_⟩
  rcases List.mem_cons.1 hp with rfl | hp
  · exact ⟨hlt, heap_alloc_new W _⟩
  · exact ⟨(h.clo p hp).1, later_cells (Later.alloc W _) (h.clo p hp).2⟩
theorem wpList_ins {ops : Array Oper} {rest : List Oper} {o : Oper} {a : Act} {Q : Exit → Act → World → Prop} (w : World) (hgd : o.guard = none) (mo xo vo : Operand) (hop : o.op = .insert 41 mo xo vo) (W0 : World) (k : Nat) (f : L → Option Value) (cl : List (Nat × Nat)) (c : L) (hc : c.length ≤ 5000) (v : Value) (hm : a.eval mo = .map (some W0.heap.size)) (hx : a.eval xo = sv c) (hv : a.eval vo = v)
    (h : Mk W0 w k f cl) (hk : k ≤ 29) (hK : ∀ w', Mk W0 w' (k + 1) (putS f c v) cl → wpList Tryd.prog ops Q rest (a.put o.dst undef) w') : wpList Tryd.prog ops Q (o :: rest) a w := by
  refine wpList_plain hgd fun K' hK' => ?_
  obtain ⟨w', hrun, r1⟩ := h.put hk c hc v
  unfold Oper.wp
  simp [execOp, hop, hm, hx, hv, hrun, Result.andThen]
  exact hK' _ _ (hK w' r1)
theorem wpList_mkC {ops : Array Oper} {rest : List Oper} {o : Oper} {a : Act} {Q : Exit → Act → World → Prop} (w : World) (hgd : o.guard = none) (f : Nat) (x : Operand) (hop : o.op = .makeFunc (.func f) #[] #[x]) (b : Nat) (hx : a.eval x = .pointer (some ⟨b, 0, none⟩)) (h : wpList Tryd.prog ops Q rest (a.put o.dst (.func (.func f) #[] #[.pointer (some ⟨b, 0, none⟩)])) w) : wpList Tryd.prog ops Q (o :: rest) a w := by
  refine wpList_plain hgd fun K hK => ?_
  unfold Oper.wp execOp
  simp [hop, hx]
  exact hK _ _ h
set_option maxRecDepth 100000 in
theorem numbers_v (F : Nat) (W : World) : Calls Tryd.prog 21 #[.func (.func F) #[] #[]] W fun e W' => e = .returned (clo W.heap.size) ∧ W' = W.alloc (.cells #[fn0 F] 51) := by
  go_enter Tryd.func21, Tryd.ntmps21
  go_wp2_with (refine wpList_mkC _ rfl 29 (.tmp 1) rfl W.heap.size rfl ?_)
  go_ret
  exact ⟨rfl, rfl⟩
theorem numbers_mk {W0 W : World} {k : Nat} {f : L → Option Value} {cl : List (Nat × Nat)} (h : Mk W0 W k f cl) (F : Nat) : Calls Tryd.prog 21 #[.func (.func F) #[] #[]] W fun e W' => ∃ b, e = .returned (clo b) ∧ Mk W0 W' k f ((b, F) :: cl) :=
  (numbers_v F W).mono (by rintro e w ⟨rfl, rfl⟩; exact ⟨_, rfl, h.box F⟩)
/-- What stands in the table. -/
def betT (b3 b4 b5 b6 b7 b8 : Nat) (op : L) : Option Value :=
  if op = [61] then some (fn0 19) else if op = [33, 61] then some (fn0 20) else
  if op = [45, 101, 113] then some (clo b3) else
  if op = [45, 110, 101] then some (clo b4) else
  if op = [45, 108, 116] then some (clo b5) else
  if op = [45, 108, 101] then some (clo b6) else
  if op = [45, 103, 116] then some (clo b7) else
  if op = [45, 103, 101] then some (clo b8) else
  none
theorem bet_eq (b3 b4 b5 b6 b7 b8 : Nat) (op : L) : (putS (putS (putS (putS (putS (putS (putS (putS (fun _ => none) [61] (fn0 19)) [33, 61] (fn0 20)) [45, 101, 113] (clo b3)) [45, 110, 101] (clo b4)) [45, 108, 116] (clo b5)) [45, 108, 101] (clo b6)) [45, 103, 116] (clo b7)) [45, 103, 101] (clo b8)) op = betT b3 b4 b5 b6 b7 b8 op := by
  simp only [putS, betT]
  by_cases h0 : op = [61]
  · subst h0; rfl
  by_cases h1 : op = [33, 61]
  · subst h1; rfl
  by_cases h2 : op = [45, 101, 113]
  · subst h2; rfl
  by_cases h3 : op = [45, 110, 101]
  · subst h3; rfl
  by_cases h4 : op = [45, 108, 116]
  · subst h4; rfl
  by_cases h5 : op = [45, 108, 101]
  · subst h5; rfl
  by_cases h6 : op = [45, 103, 116]
  · subst h6; rfl
  by_cases h7 : op = [45, 103, 101]
  · subst h7; rfl
  simp [h0, h1, h2, h3, h4, h5, h6, h7]
/-- Block m is the table, whatever blocks its closures have. -/
def Bet (B : Nat) (W : World) (m : Nat) : Prop := ∃ b3 b4 b5 b6 b7 b8, (B ≤ m ∧ B < b3 ∧ B < b4 ∧ B < b5 ∧ B < b6 ∧ B < b7 ∧ B < b8) ∧ TabS W m 30 (betT b3 b4 b5 b6 b7 b8) ∧ W.heap[b3]? = some (.cells #[fn0 22] 51 (0, 0)) ∧ W.heap[b4]? = some (.cells #[fn0 23] 51 (0, 0)) ∧ W.heap[b5]? = some (.cells #[fn0 24] 51 (0, 0)) ∧ W.heap[b6]? = some (.cells #[fn0 25] 51 (0, 0)) ∧ W.heap[b7]? = some (.cells #[fn0 26] 51 (0, 0)) ∧ W.heap[b8]? = some (.cells #[fn0 27] 51 (0, 0))
theorem Bet.fr {B g : Nat} {W W' : World} {m : Nat} (h : Bet B W m) (hg : g < B) (hl : Fr (fun b => b ≠ g) W W') : Bet B W' m := by
  obtain ⟨b3, b4, b5, b6, b7, b8, ⟨q, q3, q4, q5, q6, q7, q8⟩, h0, h3, h4, h5, h6, h7, h8⟩ := h
  have hk : ∀ {x : Nat} {o : Obj}, B < x → W.heap[x]? = some o → W'.heap[x]? = some o := fun hx hh => (hl.block _ (lt_of_block hh) (by omega)).trans hh
  exact ⟨b3, b4, b5, b6, b7, b8, ⟨q, q3, q4, q5, q6, q7, q8⟩, h0.kept (row := some g) ⟨hl.os, hl.tape, hl.output, hl.size, fun k hk hne => hl.block k hk (fun e => hne (by rw [e]))⟩ (fun e => by injection e with e; omega), hk q3 h3, hk q4 h4, hk q5 h5, hk q6 h6, hk q7 h7, hk q8 h8⟩
theorem Bet.less {B B' : Nat} {W : World} {m : Nat} (h : Bet B W m) (hb : B' ≤ B) : Bet B' W m := by
  obtain ⟨b3, b4, b5, b6, b7, b8, ⟨q, q3, q4, q5, q6, q7, q8⟩, h0⟩ := h
  exact ⟨b3, b4, b5, b6, b7, b8, ⟨by omega, by omega, by omega, by omega, by omega, by omega, by omega⟩, h0⟩
set_option maxHeartbeats 3200000 in
set_option maxRecDepth 100000 in
theorem between_v (W : World) : Calls Tryd.prog 13 #[] W fun e W' => e = .returned (.map (some W.heap.size)) ∧ Bet W.heap.size W' W.heap.size ∧ Later W W' := by
  have hmm := @run_makeMap Tryd.prog
  have HT0 := Lib.hid (Mk.start W)
  go_enter Tryd.func13, Tryd.ntmps13
  go_wp2_with (first
    | (refine wpList_ins _ rfl (.tmp 1) (.const (.string ⟨#[61]⟩)) (.func 19) rfl W 0 _ [] [61] (by simp) (fn0 19) rfl rfl rfl HT0.out (by omega) ?_; intro w0 ht; have HT1 := Lib.hid ht; clear ht HT0)
    | (refine wpList_ins _ rfl (.tmp 1) (.const (.string ⟨#[33, 61]⟩)) (.func 20) rfl W 1 _ [] [33, 61] (by simp) (fn0 20) rfl rfl rfl HT1.out (by omega) ?_; intro w1 ht; have HT2 := Lib.hid ht; clear ht HT1)
    | (go_at_call 21; (with_reducible refine (numbers_mk HT2.out 22).mono ?_); rintro e w0 ⟨b3, rfl, hu⟩; have HU2 := Lib.hid hu; clear hu HT2)
    | (refine wpList_ins _ rfl (.tmp 1) (.const (.string ⟨#[45, 101, 113]⟩)) (.tmp 2) rfl W 2 _ [(b3, 22)] [45, 101, 113] (by simp) (clo b3) rfl rfl rfl HU2.out (by omega) ?_; intro w2 ht; have HT3 := Lib.hid ht; clear ht HU2)
    | (go_at_call 21; (with_reducible refine (numbers_mk HT3.out 23).mono ?_); rintro e w0 ⟨b4, rfl, hu⟩; have HU3 := Lib.hid hu; clear hu HT3)
    | (refine wpList_ins _ rfl (.tmp 1) (.const (.string ⟨#[45, 110, 101]⟩)) (.tmp 3) rfl W 3 _ [(b4, 23), (b3, 22)] [45, 110, 101] (by simp) (clo b4) rfl rfl rfl HU3.out (by omega) ?_; intro w3 ht; have HT4 := Lib.hid ht; clear ht HU3)
    | (go_at_call 21; (with_reducible refine (numbers_mk HT4.out 24).mono ?_); rintro e w0 ⟨b5, rfl, hu⟩; have HU4 := Lib.hid hu; clear hu HT4)
    | (refine wpList_ins _ rfl (.tmp 1) (.const (.string ⟨#[45, 108, 116]⟩)) (.tmp 4) rfl W 4 _ [(b5, 24), (b4, 23), (b3, 22)] [45, 108, 116] (by simp) (clo b5) rfl rfl rfl HU4.out (by omega) ?_; intro w4 ht; have HT5 := Lib.hid ht; clear ht HU4)
    | (go_at_call 21; (with_reducible refine (numbers_mk HT5.out 25).mono ?_); rintro e w0 ⟨b6, rfl, hu⟩; have HU5 := Lib.hid hu; clear hu HT5)
    | (refine wpList_ins _ rfl (.tmp 1) (.const (.string ⟨#[45, 108, 101]⟩)) (.tmp 5) rfl W 5 _ [(b6, 25), (b5, 24), (b4, 23), (b3, 22)] [45, 108, 101] (by simp) (clo b6) rfl rfl rfl HU5.out (by omega) ?_; intro w5 ht; have HT6 := Lib.hid ht; clear ht HU5)
    | (go_at_call 21; (with_reducible refine (numbers_mk HT6.out 26).mono ?_); rintro e w0 ⟨b7, rfl, hu⟩; have HU6 := Lib.hid hu; clear hu HT6)
    | (refine wpList_ins _ rfl (.tmp 1) (.const (.string ⟨#[45, 103, 116]⟩)) (.tmp 6) rfl W 6 _ [(b7, 26), (b6, 25), (b5, 24), (b4, 23), (b3, 22)] [45, 103, 116] (by simp) (clo b7) rfl rfl rfl HU6.out (by omega) ?_; intro w6 ht; have HT7 := Lib.hid ht; clear ht HU6)
    | (go_at_call 21; (with_reducible refine (numbers_mk HT7.out 27).mono ?_); rintro e w0 ⟨b8, rfl, hu⟩; have HU7 := Lib.hid hu; clear hu HT7)
    | (refine wpList_ins _ rfl (.tmp 1) (.const (.string ⟨#[45, 103, 101]⟩)) (.tmp 7) rfl W 7 _ [(b8, 27), (b7, 26), (b6, 25), (b5, 24), (b4, 23), (b3, 22)] [45, 103, 101] (by simp) (clo b8) rfl rfl rfl HU7.out (by omega) ?_; intro w7 ht; have HT8 := Lib.hid ht; clear ht HU7))
  go_ret
  have hB := fun p hp => (HT8.out.clo p hp).1
  refine ⟨rfl, ⟨b3, b4, b5, b6, b7, b8, ⟨Nat.le_refl _, hB (b3, 22) (by simp), hB (b4, 23) (by simp), hB (b5, 24) (by simp), hB (b6, 25) (by simp), hB (b7, 26) (by simp), hB (b8, 27) (by simp)⟩, ?_, ?_⟩, HT8.out.later⟩
  · obtain ⟨D, n, h1, h2, h3⟩ := HT8.out.tab
    refine ⟨D, n, h1, by omega, fun c => ?_⟩
    rw [← bet_eq]
    exact h3 c
  · have h := fun p hp => (HT8.out.clo p hp).2
    exact ⟨h (b3, _) (by simp), h (b4, _) (by simp), h (b5, _) (by simp), h (b6, _) (by simp), h (b7, _) (by simp), h (b8, _) (by simp)⟩
end Ar
end Go.Proofs.YtjidclefpmcgoaaDoor
