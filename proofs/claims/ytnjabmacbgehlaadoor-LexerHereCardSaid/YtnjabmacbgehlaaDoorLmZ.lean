/- lexer's All: what a panic told is recovered. No premises. -/
import Derived.Test.YtnjabmacbgehlaaDoorLmY
import Derived.Defers
import Derived.Recover
namespace Go.Proofs.YtnjabmacbgehlaaDoor
open Go.RowKit Go.Maps
open Lx (nl Tok)
theorem own_mono {w : World} {base base' size n : Nat} {e : TypeId} {v : Value} {xs : List Value} (h : w.ownsRow base e size v n xs) (hb : base' ≤ base) : w.ownsRow base' e size v n xs := by
  refine ⟨h.1, ?_⟩
  rcases h.2 with h0 | ⟨g, cap, cur, h1, h2, h3⟩
  · exact .inl h0
  · exact .inr ⟨g, cap, cur, h1, Nat.le_trans hb h2, h3⟩
theorem assert_nil (w : World) : (Instr.typeAssert .nilIface 20 43 true).run Tryd.prog w = .ok (.tuple #[.agg #[.int .i64 0, .int .i64 0], .bool false]) w := by kernel_rfl
theorem assert_flt (e l : Int) (w : World) : (Instr.typeAssert (.iface 43 (.agg #[.int .i64 e, .int .i64 l])) 20 43 true).run Tryd.prog w = .ok (.tuple #[.agg #[.int .i64 e, .int .i64 l], .bool true]) w := by kernel_rfl
/-- The frame's first operation of the closure: what recover hands over. -/
theorem catch_frame {args : Array Value} {n : Nat} {l : List Value} (h : args ++ Array.replicate n undef = l.toArray) : ({ tmps := args ++ Array.replicate n undef, defers := [] } : Act) = ⟨l.toArray, []⟩ := by rw [h]
set_option maxHeartbeats 1600000 in
set_option maxRecDepth 100000 in
theorem catch_idle (p0 p1 p2 : Addr) (w : World) : CallsD Tryd.prog 22 #[.pointer (some p0), .pointer (some p1), .pointer (some p2)] .returning w fun e u' w' => e = .returned (.tuple #[]) ∧ u' = .returning ∧ Later w w' := by
  have hta := assert_nil
  refine callsD_of_wpS Tryd.func22 rfl fun c₀ cs hu => ?_
  rw [Tryd.ntmps22]
  rw [catch_frame (l := [.pointer (some p0), .pointer (some p1), .pointer (some p2), undef, undef, undef, undef, undef, undef, undef, undef, undef, undef, undef, undef]) rfl]
  apply wpS_seq
  apply wpS_region
  simp [wpOpsS, go_sem, recoverD, hu, Exit.thenS, hta]
  refine wpS_of_wp ?_
  go_wp2
  cases c₀
  simp_all [bodyPostS, results, Tryd.results22]
  exact Later.alloc w _
theorem set3 {w : World} {b0 b1 b2 : Nat} {v0 v1 v2 : Value} {t0 t1 t2 : TypeId} (u0 u1 u2 : Value) (h0 : w.heap[b0]? = some (.cells #[v0] t0 (0, 0))) (h1 : w.heap[b1]? = some (.cells #[v1] t1 (0, 0))) (h2 : w.heap[b2]? = some (.cells #[v2] t2 (0, 0))) (h01 : b0 ≠ b1) (h02 : b0 ≠ b2) (h12 : b1 ≠ b2) :
    (((w.setCell ⟨b0, 0, none⟩ u0).setCell ⟨b1, 0, none⟩ u1).setCell ⟨b2, 0, none⟩ u2).heap[b0]? = some (.cells #[u0] t0 (0, 0)) ∧ (((w.setCell ⟨b0, 0, none⟩ u0).setCell ⟨b1, 0, none⟩ u1).setCell ⟨b2, 0, none⟩ u2).heap[b1]? = some (.cells #[u1] t1 (0, 0)) ∧ (((w.setCell ⟨b0, 0, none⟩ u0).setCell ⟨b1, 0, none⟩ u1).setCell ⟨b2, 0, none⟩ u2).heap[b2]? = some (.cells #[u2] t2 (0, 0)) ∧
    ∀ B, B ≤ b0 → B ≤ b1 → B ≤ b2 → Below B w (((w.setCell ⟨b0, 0, none⟩ u0).setCell ⟨b1, 0, none⟩ u1).setCell ⟨b2, 0, none⟩ u2) := by
  refine ⟨?_, ?_, ?_, fun B q0 q1 q2 => (((Below.refl B w).setCell q0 _).setCell q1 _).setCell q2 _⟩
  · rw [Below.heap_setCell _ _ _ _ h02, Below.heap_setCell _ _ _ _ h01]; exact set_row h0 0 _
  · rw [Below.heap_setCell _ _ _ _ h12]
    have q1 : (w.setCell ⟨b0, 0, none⟩ u0).heap[b1]? = some (.cells #[v1] t1 (0, 0)) := (Below.heap_setCell w ⟨b0, 0, none⟩ _ b1 (Ne.symm h01)).trans h1
    exact set_row q1 0 _
  · have q2 : ((w.setCell ⟨b0, 0, none⟩ u0).setCell ⟨b1, 0, none⟩ u1).heap[b2]? = some (.cells #[v2] t2 (0, 0)) := ((Below.heap_setCell _ ⟨b1, 0, none⟩ _ b2 (Ne.symm h12)).trans (Below.heap_setCell w ⟨b0, 0, none⟩ _ b2 (Ne.symm h02))).trans h2
    exact set_row q2 0 _
set_option maxHeartbeats 1600000 in
set_option maxRecDepth 100000 in
theorem catch_flt (b0 b1 b2 : Nat) (v0 v1 v2 : Value) (e l : Int) (older : List PanicEntry) (w : World) (h0 : w.heap[b0]? = some (.cells #[v0] 28 (0, 0))) (h1 : w.heap[b1]? = some (.cells #[v1] 29 (0, 0))) (h2 : w.heap[b2]? = some (.cells #[v2] 3 (0, 0))) (h01 : b0 ≠ b1) (h02 : b0 ≠ b2) (h12 : b1 ≠ b2) :
    CallsD Tryd.prog 22 #[.pointer (some ⟨b0, 0, none⟩), .pointer (some ⟨b1, 0, none⟩), .pointer (some ⟨b2, 0, none⟩)] (.panicking ({ v := .iface 43 (.agg #[.int .i64 e, .int .i64 l]), recovered := false } :: older)) w fun r u' w' =>
      r = .returned (.tuple #[]) ∧ u' = .panicking ({ v := .iface 43 (.agg #[.int .i64 e, .int .i64 l]), recovered := true } :: older) ∧ w'.heap[b0]? = some (.cells #[.slice none 0 0] 28 (0, 0)) ∧ w'.heap[b1]? = some (.cells #[.int .i64 e] 29 (0, 0)) ∧ w'.heap[b2]? = some (.cells #[.int .i64 l] 3 (0, 0)) ∧ ∀ B, B ≤ b0 → B ≤ b1 → B ≤ b2 → Below B w w' := by
  have hta := assert_flt e l
  have c0 := (cell_row h0 0).1
  have c1 := (cell_row h1 0).1
  have c2 := (cell_row h2 0).1
  have z0 := (cell_row h0 0).2
  have z1 := (cell_row h1 0).2
  have z2 := (cell_row h2 0).2
  have n0 := lt_of_block h0
  have n1 := lt_of_block h1
  have n2 := lt_of_block h2
  refine callsD_of_wpS Tryd.func22 rfl fun c₀ cs hu => ?_
  rw [Tryd.ntmps22]
  rw [catch_frame (l := [.pointer (some ⟨b0, 0, none⟩), .pointer (some ⟨b1, 0, none⟩), .pointer (some ⟨b2, 0, none⟩), undef, undef, undef, undef, undef, undef, undef, undef, undef, undef, undef, undef]) rfl]
  apply wpS_seq
  apply wpS_region
  simp [wpOpsS, go_sem, recoverD, hu, Exit.thenS, hta]
  refine wpS_of_wp ?_
  go_wp2
  go_region
  go_wp2
  obtain ⟨w1, hw1⟩ : ∃ w1, w1 = ((w.setCell ⟨b0, 0, none⟩ (.slice none 0 0)).setCell ⟨b1, 0, none⟩ (.int .i64 e)).setCell ⟨b2, 0, none⟩ (.int .i64 l) := ⟨_, rfl⟩
  rw [← hw1]
  have k0 : w1.heap[b0]? = some (.cells #[.slice none 0 0] 28 (0, 0)) := by
    rw [hw1, Below.heap_setCell _ _ _ _ h02, Below.heap_setCell _ _ _ _ h01]; exact set_row h0 0 _
  have k1 : w1.heap[b1]? = some (.cells #[.int .i64 e] 29 (0, 0)) := by
    rw [hw1, Below.heap_setCell _ _ _ _ h12]
    have q1 : (w.setCell ⟨b0, 0, none⟩ (.slice none 0 0)).heap[b1]? = some (.cells #[v1] 29 (0, 0)) := (Below.heap_setCell w ⟨b0, 0, none⟩ _ b1 (Ne.symm h01)).trans h1
    exact set_row q1 0 _
  have k2 : w1.heap[b2]? = some (.cells #[.int .i64 l] 3 (0, 0)) := by
    rw [hw1]
    have q2 : ((w.setCell ⟨b0, 0, none⟩ (.slice none 0 0)).setCell ⟨b1, 0, none⟩ (.int .i64 e)).heap[b2]? = some (.cells #[v2] 3 (0, 0)) := ((Below.heap_setCell _ ⟨b1, 0, none⟩ _ b2 (Ne.symm h12)).trans (Below.heap_setCell w ⟨b0, 0, none⟩ _ b2 (Ne.symm h02))).trans h2
    exact set_row q2 0 _
  have kb : ∀ B, B ≤ b0 → B ≤ b1 → B ≤ b2 → Below B w w1 := fun B q0 q1 q2 => by
    rw [hw1]
    exact (((Below.refl B w).setCell q0 _).setCell q1 _).setCell q2 _
  have hz : w1.heap.size = w.heap.size := by rw [hw1]; simp
  have hl := (Later.alloc w1 (.cells #[.int .i64 e, .int .i64 l] 43)).trans (Later.drew _)
  obtain ⟨w2, hw2⟩ : ∃ w2, w2 = (w1.alloc (.cells #[.int .i64 e, .int .i64 l] 43)).drew := ⟨_, rfl⟩
  rw [← hw2] at hl ⊢
  have m0 := (hl.block b0 (by omega)).trans k0
  have m1 := (hl.block b1 (by omega)).trans k1
  have m2 := (hl.block b2 (by omega)).trans k2
  have mb : ∀ B, B ≤ b0 → B ≤ b1 → B ≤ b2 → Below B w w2 := fun B q0 q1 q2 => (kb B q0 q1 q2).trans (hl.mono (by omega))
  clear hw1 hw2 hl k0 k1 k2 kb hz c0 c1 c2 z0 z1 z2 n0 n1 n2 h0 h1 h2
  exact ⟨rfl, _, rfl, _, results_none rfl _ _ _, rfl, rfl, m0, m1, m2, mb⟩
/-- What All hands back. -/
def AllC (S : L) (W : World) (x : Except (Nat × Nat) (List Tok)) (e : Ending) (W' : World) : Prop :=
  match x with
  | .ok o => (∃ vt, e = .returned (.tuple #[vt, .int .i64 0, .int .i64 0]) ∧ W'.ownsRow W.heap.size 33 4 vt o.length (cellsT (nl S) o)) ∧ Later W W'
  | .error (n, k) => e = .returned (.tuple #[.slice none 0 0, .int .i64 (n : Int), .int .i64 ((1 + nl S - k : Nat) : Int)]) ∧ Later W W'
/-- The three results' blocks. -/
abbrev three (W : World) : World := ((W.alloc (.cells #[.slice none 0 0] 28)).alloc (.cells #[.int .i64 0] 29)).alloc (.cells #[.int .i64 0] 3)
theorem three_blocks (W : World) : (three W).heap.size = W.heap.size + 3 ∧ (three W).heap[W.heap.size]? = some (.cells #[.slice none 0 0] 28 (0, 0)) ∧ (three W).heap[W.heap.size + 1]? = some (.cells #[.int .i64 0] 29 (0, 0)) ∧ (three W).heap[W.heap.size + 1 + 1]? = some (.cells #[.int .i64 0] 3 (0, 0)) ∧ Below W.heap.size W (three W) := by
  have l1 := Later.alloc W (.cells #[.slice none 0 0] 28)
  have l2 := Later.alloc (W.alloc (.cells #[.slice none 0 0] 28)) (.cells #[.int .i64 0] 29)
  have l3 := Later.alloc ((W.alloc (.cells #[.slice none 0 0] 28)).alloc (.cells #[.int .i64 0] 29)) (.cells #[.int .i64 0] 3)
  have h1 := heap_alloc_new W (.cells #[.slice none 0 0] 28)
  have h2 := heap_alloc_new (W.alloc (.cells #[.slice none 0 0] 28)) (.cells #[.int .i64 0] 29)
  have h3 := heap_alloc_new ((W.alloc (.cells #[.slice none 0 0] 28)).alloc (.cells #[.int .i64 0] 29)) (.cells #[.int .i64 0] 3)
  rw [World.size_alloc] at h2
  rw [World.size_alloc, World.size_alloc] at h3
  refine ⟨by simp, ?_, ?_, h3, l1.trans (l2.trans l3)⟩
  · exact ((l2.trans l3).block _ (by simp)).trans h1
  · exact (l3.block _ (by simp)).trans h2
set_option maxHeartbeats 1600000 in
set_option maxRecDepth 100000 in
theorem all_v (S : L) (hS : S.length ≤ 4096) (W : World) (hg : Sgn W) : Calls Tryd.prog 16 #[.string (mkS S)] W (AllC S W (Lx.all S)) := by
  have hmf : ∀ (fn : Fn) (first cap : Array Value) (w : World), (Instr.makeFunc fn first cap).run Tryd.prog w = .ok (.func fn first cap) w := fun _ _ _ _ => rfl
  have hsz : ¬ (4096 : Int) < ((mkS S).size : Int) := by rw [mkS_size]; omega
  have HOP := Lib.hid (fun W => open_v S W hS)
  have h3 := three_blocks W
  have HG3 := Lib.hid (show Sgn (three W) from hg.keep h3.2.2.2.2 hg.pos)
  have HIN := Lib.hid (show ∀ σ : St, σ.l = S → σ.ts = [] → σ.hs = [] → σ.d = 0 → Inv S σ from fun σ e1 e2 e3 e4 => ⟨by rw [e1, e2]; simp, e4, by rw [e3]; nofun, by rw [e3]; simp, by rw [e2]; nofun, by rw [e2]; nofun⟩)
  have H3 := Lib.hid h3
  have HP := Lib.hid hg.pos
  clear hS hg h3
  cases hx : Lx.all S with
  | error p =>
    obtain ⟨n, k⟩ := p
    have HX := Lib.hid hx
    clear hx
    go_enter_defers Tryd.func16, Tryd.ntmps16
    go_wp2_with (first
      | (go_at_call 23; (with_reducible refine (HOP.out _).mono ?_); rintro e w1 ⟨g, σ, rfl, hm, e1, e2, e3, e4, hb⟩; have HB := Lib.hid hb; have hr := all_r (HIN.out σ e1 e2 e3 e4) (by have h1 := H3.out.1; have h2 := HP.out; show _ < (three W).heap.size; omega) (HG3.out.keep hb (by have h1 := H3.out.1; have h2 := HP.out; show _ < (three W).heap.size; omega)) hm; rw [e1, e2, e3, show Lx.run S [] [] = Lx.all S from rfl, HX.out] at hr; have HR := Lib.hid hr; clear hr hm e1 e2 e3 e4 hb)
      | (go_at_call 24; (with_reducible refine HR.out.mono ?_); rintro e w2 ⟨rfl, hb2⟩))
    have hbt : Below (W.heap.size + 3) (three W) w2 := by
      have h := HB.out.trans hb2
      rw [show (three W).heap.size = W.heap.size + 3 from H3.out.1] at h
      exact h
    have q0 := (hbt.block W.heap.size (by omega)).trans H3.out.2.1
    have q1 := (hbt.block (W.heap.size + 1) (by omega)).trans H3.out.2.2.1
    have q2 := (hbt.block (W.heap.size + 1 + 1) (by omega)).trans H3.out.2.2.2.1
    refine leaves_cons (f := 22) (args := #[.pointer (some ⟨W.heap.size, 0, none⟩), .pointer (some ⟨W.heap.size + 1, 0, none⟩), .pointer (some ⟨W.heap.size + 1 + 1, 0, none⟩)]) (by simp) (by simp [go_sem]) ?_
    refine (catch_flt _ _ _ _ _ _ (n : Int) ((1 + nl S - k : Nat) : Int) [] w2 q0 q1 q2 (by omega) (by omega) (by omega)).mono ?_
    rintro r u' w3 ⟨rfl, rfl, m0, m1, m2, mb⟩
    have d0 : w3.cell? ⟨W.heap.size, 0, none⟩ = some (.slice none 0 0) := (cell_row m0 0).1
    have d1 : w3.cell? ⟨W.heap.size + 1, 0, none⟩ = some (.int .i64 (n : Int)) := (cell_row m1 0).1
    have d2 : w3.cell? ⟨W.heap.size + 1 + 1, 0, none⟩ = some (.int .i64 ((1 + nl S - k : Nat) : Int)) := (cell_row m2 0).1
    have hl : Later W w3 := (H3.out.2.2.2.2.trans (hbt.mono (by omega))).trans (mb W.heap.size (by omega) (by omega) (by omega))
    show ∃ v, (results Tryd.f16 _).run Tryd.prog w3 = .ok v w3 ∧ AllC S W (.error (n, k)) (.returned v) w3
    refine ⟨_, ?_, rfl, hl⟩
    simp [results, Tryd.results16, go_sem, d0, d1, d2]
  | ok o =>
    have HX := Lib.hid hx
    clear hx
    go_enter_defers Tryd.func16, Tryd.ntmps16
    go_wp2_with (first
      | (go_at_call 23; (with_reducible refine (HOP.out _).mono ?_); rintro e w1 ⟨g, σ, rfl, hm, e1, e2, e3, e4, hb⟩; have HB := Lib.hid hb; have hr := all_r (HIN.out σ e1 e2 e3 e4) (by have h1 := H3.out.1; have h2 := HP.out; show _ < (three W).heap.size; omega) (HG3.out.keep hb (by have h1 := H3.out.1; have h2 := HP.out; show _ < (three W).heap.size; omega)) hm; rw [e1, e2, e3, show Lx.run S [] [] = Lx.all S from rfl, HX.out] at hr; have HR := Lib.hid hr; clear hr hm e1 e2 e3 e4 hb)
      | (go_at_call 24; (with_reducible refine HR.out.mono ?_); rintro e w2 ⟨⟨vt, rfl, ho⟩, hb2⟩; have hbt := HB.out.trans hb2; rw [show (((W.alloc (.cells #[.slice none 0 0] 28)).alloc (.cells #[.int .i64 0] 29)).alloc (.cells #[.int .i64 0] 3)).heap.size = W.heap.size + 3 from H3.out.1] at hbt ho; have q0 := (hbt.block W.heap.size (by omega)).trans H3.out.2.1; have q1 := (hbt.block (W.heap.size + 1) (by omega)).trans H3.out.2.2.1; have q2 := (hbt.block (W.heap.size + 1 + 1) (by omega)).trans H3.out.2.2.2.1; obtain ⟨A, c, rfl, _⟩ := own_slice4 ho; have HO := Lib.hid ho; have HBT := Lib.hid hbt; have d0 : w2.cell? ⟨W.heap.size, 0, none⟩ = some (.slice none 0 0) := (cell_row q0 0).1; have d1 : w2.cell? ⟨W.heap.size + 1, 0, none⟩ = some (.int .i64 0) := (cell_row q1 0).1; have d2 : w2.cell? ⟨W.heap.size + 1 + 1, 0, none⟩ = some (.int .i64 0) := (cell_row q2 0).1; have z0 := (cell_row q0 0).2; have z1 := (cell_row q1 0).2; have z2 := (cell_row q2 0).2; have Q := Lib.hid (And.intro q0 (And.intro q1 q2)); clear ho hbt q0 q1 q2 hb2))
    obtain ⟨m0, m1, m2, mb⟩ := set3 (.slice A o.length c) (.int .i64 0) (.int .i64 0) Q.out.1 Q.out.2.1 Q.out.2.2 (by omega) (by omega) (by omega)
    have ho3 : World.ownsRow (((w2.setCell ⟨W.heap.size, 0, none⟩ (.slice A o.length c)).setCell ⟨W.heap.size + 1, 0, none⟩ (.int .i64 0)).setCell ⟨W.heap.size + 1 + 1, 0, none⟩ (.int .i64 0)) W.heap.size 33 4 (.slice A o.length c) o.length (cellsT (nl S) o) := by
      have hne : ∀ i, (Value.slice A o.length c).ownBlock = some i → W.heap.size + 3 ≤ i := fun i e => (HO.out.lt i e).1
      have h1 := ownsRow_setCell_other HO.out (a := ⟨W.heap.size, 0, none⟩) (fun e => by have := hne _ e; simp only at this; omega) (.slice A o.length c)
      have h2 := ownsRow_setCell_other h1 (a := ⟨W.heap.size + 1, 0, none⟩) (fun e => by have := hne _ e; simp only at this; omega) (.int .i64 0)
      have h3 := ownsRow_setCell_other h2 (a := ⟨W.heap.size + 1 + 1, 0, none⟩) (fun e => by have := hne _ e; simp only at this; omega) (.int .i64 0)
      exact own_mono h3 (by omega)
    have hbel : Later W (((w2.setCell ⟨W.heap.size, 0, none⟩ (.slice A o.length c)).setCell ⟨W.heap.size + 1, 0, none⟩ (.int .i64 0)).setCell ⟨W.heap.size + 1 + 1, 0, none⟩ (.int .i64 0)) := (H3.out.2.2.2.2.trans (HBT.out.mono (by omega))).trans (mb W.heap.size (by omega) (by omega) (by omega))
    obtain ⟨w3, hw3⟩ : ∃ w3, w3 = ((w2.setCell ⟨W.heap.size, 0, none⟩ (.slice A o.length c)).setCell ⟨W.heap.size + 1, 0, none⟩ (.int .i64 0)).setCell ⟨W.heap.size + 1 + 1, 0, none⟩ (.int .i64 0) := ⟨_, rfl⟩
    rw [← hw3] at m0 m1 m2 ho3 hbel ⊢
    clear hw3 mb
    refine leaves_cons (f := 22) (args := #[.pointer (some ⟨W.heap.size, 0, none⟩), .pointer (some ⟨W.heap.size + 1, 0, none⟩), .pointer (some ⟨W.heap.size + 1 + 1, 0, none⟩)]) (by simp) (by simp [go_sem]) ?_
    refine (catch_idle _ _ _ w3).mono ?_
    rintro r u' w4 ⟨rfl, rfl, hl4⟩
    have d0 : w4.cell? ⟨W.heap.size, 0, none⟩ = some (.slice A o.length c) := cell_keeps hl4 (cell_row m0 0).1
    have d1 : w4.cell? ⟨W.heap.size + 1, 0, none⟩ = some (.int .i64 0) := cell_keeps hl4 (cell_row m1 0).1
    have d2 : w4.cell? ⟨W.heap.size + 1 + 1, 0, none⟩ = some (.int .i64 0) := cell_keeps hl4 (cell_row m2 0).1
    show ∃ v, (results Tryd.f16 _).run Tryd.prog w4 = .ok v w4 ∧ AllC S W (.ok o) (.returned v) w4
    refine ⟨_, ?_, ⟨.slice A o.length c, rfl, own_below ho3 hl4⟩, hbel.trans hl4⟩
    simp [results, Tryd.results16, go_sem, d0, d1, d2]
end Go.Proofs.YtnjabmacbgehlaaDoor
