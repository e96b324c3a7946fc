/- Pack, Unpack, Same. No premises. -/
import Derived.Test.YteljmlodbnfhbaaKn
namespace Go.Proofs.Yteljmlodbnfhbaa
open Go.RowKit
theorem open_v (A : Option Addr) (n cap B : Nat) (bs : List UInt8) (w : World) (hr : Rd w B A n (bs.map bv)) (hn : n ≤ 140737488351232) :
    Calls Try.prog 15 #[.slice A n cap] w fun r w' => ∃ g, r = .returned (.pointer (some ⟨g, 0, none⟩)) ∧ Rdr w' w'.heap.size g bs 0 ∧ Below w.heap.size w w' ∧ w.heap.size ≤ g := by
  obtain ⟨i0, hi, hz0, hz1, hz2⟩ := info_parts info_u8
  have HR := Lib.hid hr
  have hl := Lib.hid hr.len
  clear hr
  go_enter Try.func15, Try.ntmps15
  go_wp2_with (at_builtin; refine wpList_appN w rfl (.const (.slice none 0 0)) (.tmp 3) _ rfl w.heap.size 5 i0 (.int .u8 0) 1 Try.underlying43 hi hz0 hz1 hz2 rfl (.slice none 0 0) [] rfl (World.ownsRow_nil w _ _ 1) B A n cap (bs.map bv) rfl HR.out (bv_one bs) (by simp; omega) (by simp; omega) (Nat.le_refl _) ?_; intro v1 w1 hg1; have hsz := hg1.grown.size; obtain ⟨A1, c1, rfl, h1, h2, h3⟩ := own_slice hg1.own; have H3 := Lib.hid h3; have H2 := Lib.hid h2; clear h3 h2)
  go_ret
  have hln : ([] ++ bs.map bv).length = n := by simpa using hl.out
  rw [List.nil_append] at hln
  have h2 := H2.out
  rw [List.nil_append, hln] at h2
  refine ⟨w1.heap.size, rfl, ⟨A1, n, c1, by rw [heap_alloc_new]; simp [hl.out], by simp [hln] at h1; exact h1, hn, ?_, fun ad e => ?_, by simp⟩, hg1.belowNil.alloc hsz _, hsz⟩
  · exact (h2.below ((Below.refl _ _).alloc (Nat.le_refl _) _)).more (by simp)
  · have := H3.out ad e; omega
namespace Ks
set_option maxRecDepth 100000
theorem own_up {w : World} {base size n b2 : Nat} {e : TypeId} {v : Value} {xs : List Value} (h : w.ownsRow base e size v n xs) (hb : ∀ k, v.ownBlock = some k → b2 ≤ k) : w.ownsRow b2 e size v n xs := by
  refine ⟨h.1, ?_⟩
  rcases h.2 with h0 | ⟨g, cap, cur, rfl, _, h2⟩
  · exact .inl h0
  · exact .inr ⟨g, cap, cur, rfl, hb g rfl, h2⟩
set_option maxHeartbeats 1600000 in
theorem packS_v (a : St) (cs : List Value) (W : World) (hc : stR.C W W.heap.size cs a) (hok : stC.ok a) (hx : (stC.put a).length ≤ 800000000) :
    Calls Try.prog 9 #[.agg cs.toArray] W fun e W' => ∃ v', e = .returned v' ∧ Grew W W' W.heap.size 5 (.slice none 0 0) v' ((stC.put a).map bv) := by
  obtain ⟨Wa, hWa⟩ : ∃ x, x = W.alloc (.cells cs.toArray 40) := ⟨_, rfl⟩
  obtain ⟨Wb, hWb⟩ : ∃ x, x = Wa.alloc (.cells #[.slice none 0 0, .pointer none, .bool false] 73) := ⟨_, rfl⟩
  have l1 : Later W Wa := by rw [hWa]; exact Later.alloc _ _
  have l2 : Later Wa Wb := by rw [hWb]; exact Later.alloc _ _
  have s1 : Wa.heap.size = W.heap.size + 1 := by rw [hWa]; simp
  have s2 : Wb.heap.size = W.heap.size + 2 := by rw [hWb, World.size_alloc, s1]
  have hbs : Wb.heap[W.heap.size]? = some (.cells cs.toArray 40 (0, 0)) := later_cells l2 (by rw [hWa]; exact heap_alloc_new W _)
  have hg : Wb.heap[W.heap.size + 1]? = some (.cells #[.slice none 0 0, .pointer none, .bool false] 73 (0, 0)) := by rw [hWb, ← s1]; exact heap_alloc_new Wa _
  have hp : POE (fun k => k < W.heap.size + 1) Wb (W.heap.size + 1) [] := ⟨_, hg, World.ownsRow_nil _ _ _ _, fun k hk => (by cases hk), Nat.lt_irrefl _, fun k hk => (by have : k < W.heap.size + 1 := hk; omega)⟩
  have hcs := out_state.go (Q := fun W' => POE (fun k => k < W.heap.size + 1) W' (W.heap.size + 1) ([] ++ stC.put a) ∧ Fr (fun k => k < W.heap.size + 1) Wb W') (bs := W.heap.size) (o := 0) W.heap.size hp (Nat.lt_succ_self _) (fun k hk => Nat.lt_succ_of_lt hk) (stR.keep hc fun p hp => (l1.trans l2).cell hp) (fun j u hj => by
    rw [(cell_row hbs _).1, Nat.zero_add]; simpa using hj) hok (by rw [List.length_nil, Nat.zero_add]; omega) (fun W' h1 h2 => ⟨h1, h2⟩)
  rw [List.nil_append] at hcs
  unfold one1 at hcs
  have HC := Lib.hid hcs
  have HF := Lib.hid (show ∀ W' : World, POE (fun k => k < W.heap.size + 1) W' (W.heap.size + 1) (stC.put a) → Fr (fun k => k < W.heap.size + 1) Wb W' → ∃ A n c, W'.cell? ⟨W.heap.size + 1, 0, none⟩ = some (.slice A n c) ∧ Grew W W' W.heap.size 5 (.slice none 0 0) (.slice A n c) ((stC.put a).map bv) from fun W' h f => by
    obtain ⟨v, h⟩ := h
    obtain ⟨A, c, rfl, _⟩ := own_any h.row
    have hl := l1.trans l2
    have hb : ∀ k, (Value.slice A _ c).ownBlock = some k → W.heap.size ≤ k := fun k hk => by
      have h3 : ¬ k < W.heap.size + 1 := h.vx k hk
      omega
    refine ⟨A, _, c, by rw [(cell_row h.box 0).1]; rfl, own_up h.row hb, ⟨f.os.trans hl.os, f.tape.trans hl.tape, f.output.trans hl.output, Nat.le_trans hl.size f.size, fun k hk _ => (f.block k (by omega) (by show k < W.heap.size + 1; omega)).trans (hl.block k hk)⟩, ?_⟩
    cases hv : (Value.slice A ((stC.put a).map bv).length c).ownBlock with
    | none => exact .inl hv
    | some k => exact .inr ⟨k, hv, hb k hv⟩)
  rw [hWb, hWa] at HC HF
  clear hc hok hx hcs hp hg hbs hWa hWb l1 l2 s1 s2
  go_enter Try.func9, Try.ntmps9
  go_wp2_with (go_at_call 14; (with_reducible refine HC.out.mono ?_); rintro e w1 ⟨rfl, h1, f1⟩; obtain ⟨A, n, c, q1, h2⟩ := HF.out w1 h1 f1; (have H2 := Lib.hid h2); clear h1 f1 h2)
  go_ret
  exact ⟨_, rfl, H2.out⟩
theorem end_v {W : World} {B0 g gr e : Nat} {form : Bool} {bs : B} (h : PIx W B0 g gr form e bs) : Calls Try.prog 16 #[.pointer (some ⟨g, 0, none⟩)] W fun r W' => r = .returned (.int .i64 (if form = true then 11 else endOf bs e)) ∧ W = W' := by
  have q2 := (cell_row h.box 2).1
  have q1 := (cell_row h.box 1).1
  simp at q1 q2
  have HR := Lib.hid h.rdr
  clear h
  cases form
  · go_enter Try.func16, Try.ntmps16
    go_wp2_with (go_at_call 39; (with_reducible refine (endR_v _ _ _ _ _ HR.out).mono ?_); rintro e w' ⟨rfl, rfl⟩)
    go_ret
    exact ⟨rfl, rfl⟩
  · go_enter Try.func16, Try.ntmps16
    go_wp2
    go_ret
    exact ⟨rfl, rfl⟩
theorem results_unp {fn : Func} {p q : Tmp} (h : fn.results = #[.cell p 40, .tmp q]) (tmps : Array Value) (w : World) (g : Nat) (cs : Array Value) (hp : tmps.getD p undef = .pointer (some ⟨g, 0, none⟩)) (hg : w.heap[g]? = some (.cells cs 40 (0, 0))) (hs : cs.size = 29) (v : Value) (hq : tmps.getD q undef = v) : (results fn tmps).run Try.prog w = .ok (.tuple #[.agg cs, v]) w := by
  have hp' : tmps[p]?.getD undef = .pointer (some ⟨g, 0, none⟩) := by simpa using hp
  have hq' : tmps[q]?.getD undef = v := by simpa using hq
  simp [results, h, hp', hq', asAddr, run_loadVar_row w g _ _ cs (0, 0) _ hg Try.underlying40 rfl (by rw [hs]; kernel_rfl)]
/-- The state of bytes, or what is wrong. -/
def unp (bs : B) : Except Nat St := match stC.get bs with
  | .error k => .error k
  | .ok (a, []) => .ok a
  | .ok (_, _ :: _) => .error 14
def endK (st : Except Nat B) : Nat := match st with
  | .error k => k
  | .ok q => if q = [] then 0 else 14
theorem end_of (form : Bool) (e : Nat) (bs : B) : (if form = true then 11 else endOf bs e : Int) = (endK (stE form e bs) : Int) := by
  cases form with
  | true => rfl
  | false =>
    unfold stE endOf endK
    by_cases he : e = 0
    · subst he
      by_cases hb : bs = []
      · simp [hb]
      · simp [hb]
    · simp [he]
theorem unp_of {bs : B} {base : Nat} {w : World} {st : Except Nat B} {cs : List Value} (h : Stp stR stC base w (.ok bs) st cs) : (∀ e, unp bs = .error e → endK st = e ∧ e ≠ 0) ∧ ∀ a, unp bs = .ok a → endK st = 0 ∧ Lst stR base w cs a := by
  have hb : ∀ k, stC.get bs = .error k → st = .error k := h.bad
  have hg : ∀ a q, stC.get bs = .ok (a, q) → st = .ok q ∧ Lst stR base w cs a := h.good
  unfold unp
  cases hc : stC.get bs with
  | error k =>
    refine ⟨fun e he => ?_, fun a ha => by cases ha⟩
    injection he with he
    subst he
    rw [hb k hc]
    exact ⟨rfl, by rcases stC.errs hc with h | h <;> omega⟩
  | ok p =>
    obtain ⟨a0, q⟩ := p
    obtain ⟨h1, h2⟩ := hg a0 q hc
    subst h1
    cases q with
    | nil =>
      refine ⟨fun e he => (by cases he), fun a ha => ?_⟩
      injection ha with ha
      subst ha
      exact ⟨rfl, h2⟩
    | cons y q =>
      refine ⟨fun e he => ?_, fun a ha => by cases ha⟩
      injection he with he
      subst he
      exact ⟨rfl, by decide⟩
set_option maxHeartbeats 3200000 in
theorem unpack_v (A : Option Addr) (n c : Nat) (bs : B) (W : World) (hr : Rd W W.heap.size A n (bs.map bv)) (hn : n ≤ 140737488351232) :
    Calls Try.prog 10 #[.slice A n c] W fun e W' => Later W W' ∧ ∃ cs k, e = .returned (.tuple #[.agg (List.toArray cs), .int .i64 ((k : Nat) : Int)]) ∧ (∀ e1, unp bs = .error e1 → cs = zState ∧ k = e1 ∧ k ≠ 0) ∧ ∀ a, unp bs = .ok a → k = 0 ∧ stR.C W' W'.heap.size cs a := by
  have HO := Lib.hid (open_v A n c W.heap.size bs (W.alloc (.cells #[.slice none 0 0, .slice none 0 0, .int .i64 0, .string ⟨#[]⟩, .slice none 0 0, .slice none 0 0, .slice none 0 0, .slice none 0 0, .slice none 0 0, .int .i64 0, .int .i64 0, .int .i64 0, .string ⟨#[]⟩, .slice none 0 0, .int .i64 0, .int .i64 0, .int .i64 0, .int .i64 0, .string ⟨#[]⟩, .slice none 0 0, .int .i64 0, .slice none 0 0, .int .i64 0, .int .i64 0, .int .i64 0, .bool false, .bool false, .bool false, .int .i64 0] 40)) (hr.below (Later.alloc W _)) hn)
  have HW := Lib.hid (show ∀ (w1 : World) (gr : Nat), Rdr w1 w1.heap.size gr bs 0 → Below (W.alloc (.cells #[.slice none 0 0, .slice none 0 0, .int .i64 0, .string ⟨#[]⟩, .slice none 0 0, .slice none 0 0, .slice none 0 0, .slice none 0 0, .slice none 0 0, .int .i64 0, .int .i64 0, .int .i64 0, .string ⟨#[]⟩, .slice none 0 0, .int .i64 0, .int .i64 0, .int .i64 0, .int .i64 0, .string ⟨#[]⟩, .slice none 0 0, .int .i64 0, .slice none 0 0, .int .i64 0, .int .i64 0, .int .i64 0, .bool false, .bool false, .bool false, .int .i64 0] 40)).heap.size (W.alloc (.cells #[.slice none 0 0, .slice none 0 0, .int .i64 0, .string ⟨#[]⟩, .slice none 0 0, .slice none 0 0, .slice none 0 0, .slice none 0 0, .slice none 0 0, .int .i64 0, .int .i64 0, .int .i64 0, .string ⟨#[]⟩, .slice none 0 0, .int .i64 0, .int .i64 0, .int .i64 0, .int .i64 0, .string ⟨#[]⟩, .slice none 0 0, .int .i64 0, .slice none 0 0, .int .i64 0, .int .i64 0, .int .i64 0, .bool false, .bool false, .bool false, .int .i64 0] 40)) w1 → (W.alloc (.cells #[.slice none 0 0, .slice none 0 0, .int .i64 0, .string ⟨#[]⟩, .slice none 0 0, .slice none 0 0, .slice none 0 0, .slice none 0 0, .slice none 0 0, .int .i64 0, .int .i64 0, .int .i64 0, .string ⟨#[]⟩, .slice none 0 0, .int .i64 0, .int .i64 0, .int .i64 0, .int .i64 0, .string ⟨#[]⟩, .slice none 0 0, .int .i64 0, .slice none 0 0, .int .i64 0, .int .i64 0, .int .i64 0, .bool false, .bool false, .bool false, .int .i64 0] 40)).heap.size ≤ gr →
      Calls Try.prog 14 #[.pointer (some ⟨w1.heap.size, 0, none⟩), .pointer (some ⟨w1.heap.size + 1, 0, none⟩)] ((w1.alloc (.cells #[.slice none 0 0, .pointer (some ⟨gr, 0, none⟩), .bool false] 73)).alloc (.cells #[.slice none 0 0, .slice none 0 0, .int .i64 0, .string ⟨#[]⟩, .slice none 0 0, .slice none 0 0, .slice none 0 0, .slice none 0 0, .slice none 0 0, .int .i64 0, .int .i64 0, .int .i64 0, .string ⟨#[]⟩, .slice none 0 0, .int .i64 0, .int .i64 0, .int .i64 0, .int .i64 0, .string ⟨#[]⟩, .slice none 0 0, .int .i64 0, .slice none 0 0, .int .i64 0, .int .i64 0, .int .i64 0, .bool false, .bool false, .bool false, .int .i64 0] 40)) fun e w2 => e = .returned (.tuple #[]) ∧ ∃ form e2 bs2 cs, PIx w2 w1.heap.size w1.heap.size gr form e2 bs2 ∧ w2.heap[w1.heap.size + 1]? = some (.cells (List.toArray cs) 40 (0, 0)) ∧ Stp stR stC (w1.heap.size + 2) w2 (.ok bs) (stE form e2 bs2) cs ∧ w2.heap[W.heap.size]? = some (.cells #[.slice none 0 0, .slice none 0 0, .int .i64 0, .string ⟨#[]⟩, .slice none 0 0, .slice none 0 0, .slice none 0 0, .slice none 0 0, .slice none 0 0, .int .i64 0, .int .i64 0, .int .i64 0, .string ⟨#[]⟩, .slice none 0 0, .int .i64 0, .int .i64 0, .int .i64 0, .int .i64 0, .string ⟨#[]⟩, .slice none 0 0, .int .i64 0, .slice none 0 0, .int .i64 0, .int .i64 0, .int .i64 0, .bool false, .bool false, .bool false, .int .i64 0] 40 (0, 0)) ∧ Later W w2 ∧ W.heap.size < w1.heap.size from fun w1 gr hr1 hl1 hg1 => by
    have hsa : (W.alloc (.cells #[.slice none 0 0, .slice none 0 0, .int .i64 0, .string ⟨#[]⟩, .slice none 0 0, .slice none 0 0, .slice none 0 0, .slice none 0 0, .slice none 0 0, .int .i64 0, .int .i64 0, .int .i64 0, .string ⟨#[]⟩, .slice none 0 0, .int .i64 0, .int .i64 0, .int .i64 0, .int .i64 0, .string ⟨#[]⟩, .slice none 0 0, .int .i64 0, .slice none 0 0, .int .i64 0, .int .i64 0, .int .i64 0, .bool false, .bool false, .bool false, .int .i64 0] 40)).heap.size = W.heap.size + 1 := by simp
    have hs1 := hl1.size
    have hgr := hr1.lt
    have l0 := Later.alloc W (.cells #[.slice none 0 0, .slice none 0 0, .int .i64 0, .string ⟨#[]⟩, .slice none 0 0, .slice none 0 0, .slice none 0 0, .slice none 0 0, .slice none 0 0, .int .i64 0, .int .i64 0, .int .i64 0, .string ⟨#[]⟩, .slice none 0 0, .int .i64 0, .int .i64 0, .int .i64 0, .int .i64 0, .string ⟨#[]⟩, .slice none 0 0, .int .i64 0, .slice none 0 0, .int .i64 0, .int .i64 0, .int .i64 0, .bool false, .bool false, .bool false, .int .i64 0] 40)
    have l1 := Later.alloc w1 (.cells #[.slice none 0 0, .pointer (some ⟨gr, 0, none⟩), .bool false] 73)
    have l2 := Later.alloc (w1.alloc (.cells #[.slice none 0 0, .pointer (some ⟨gr, 0, none⟩), .bool false] 73)) (.cells #[.slice none 0 0, .slice none 0 0, .int .i64 0, .string ⟨#[]⟩, .slice none 0 0, .slice none 0 0, .slice none 0 0, .slice none 0 0, .slice none 0 0, .int .i64 0, .int .i64 0, .int .i64 0, .string ⟨#[]⟩, .slice none 0 0, .int .i64 0, .int .i64 0, .int .i64 0, .int .i64 0, .string ⟨#[]⟩, .slice none 0 0, .int .i64 0, .slice none 0 0, .int .i64 0, .int .i64 0, .int .i64 0, .bool false, .bool false, .bool false, .int .i64 0] 40)
    have b1 : ((w1.alloc (.cells #[.slice none 0 0, .pointer (some ⟨gr, 0, none⟩), .bool false] 73)).alloc (.cells #[.slice none 0 0, .slice none 0 0, .int .i64 0, .string ⟨#[]⟩, .slice none 0 0, .slice none 0 0, .slice none 0 0, .slice none 0 0, .slice none 0 0, .int .i64 0, .int .i64 0, .int .i64 0, .string ⟨#[]⟩, .slice none 0 0, .int .i64 0, .int .i64 0, .int .i64 0, .int .i64 0, .string ⟨#[]⟩, .slice none 0 0, .int .i64 0, .slice none 0 0, .int .i64 0, .int .i64 0, .int .i64 0, .bool false, .bool false, .bool false, .int .i64 0] 40)).heap[w1.heap.size]? = some (.cells #[.slice none 0 0, .pointer (some ⟨gr, 0, none⟩), .bool false] 73 (0, 0)) := later_cells l2 (heap_alloc_new w1 _)
    have b2 : ((w1.alloc (.cells #[.slice none 0 0, .pointer (some ⟨gr, 0, none⟩), .bool false] 73)).alloc (.cells #[.slice none 0 0, .slice none 0 0, .int .i64 0, .string ⟨#[]⟩, .slice none 0 0, .slice none 0 0, .slice none 0 0, .slice none 0 0, .slice none 0 0, .int .i64 0, .int .i64 0, .int .i64 0, .string ⟨#[]⟩, .slice none 0 0, .int .i64 0, .int .i64 0, .int .i64 0, .int .i64 0, .string ⟨#[]⟩, .slice none 0 0, .int .i64 0, .slice none 0 0, .int .i64 0, .int .i64 0, .int .i64 0, .bool false, .bool false, .bool false, .int .i64 0] 40)).heap[w1.heap.size + 1]? = some (.cells ([] ++ zState ++ []).toArray 40 (0, 0)) := by
      have := heap_alloc_new (w1.alloc (.cells #[.slice none 0 0, .pointer (some ⟨gr, 0, none⟩), .bool false] 73)) (.cells #[.slice none 0 0, .slice none 0 0, .int .i64 0, .string ⟨#[]⟩, .slice none 0 0, .slice none 0 0, .slice none 0 0, .slice none 0 0, .slice none 0 0, .int .i64 0, .int .i64 0, .int .i64 0, .string ⟨#[]⟩, .slice none 0 0, .int .i64 0, .int .i64 0, .int .i64 0, .int .i64 0, .string ⟨#[]⟩, .slice none 0 0, .int .i64 0, .slice none 0 0, .int .i64 0, .int .i64 0, .int .i64 0, .bool false, .bool false, .bool false, .int .i64 0] 40)
      rw [World.size_alloc] at this
      exact this
    have hpi : PI ((w1.alloc (.cells #[.slice none 0 0, .pointer (some ⟨gr, 0, none⟩), .bool false] 73)).alloc (.cells #[.slice none 0 0, .slice none 0 0, .int .i64 0, .string ⟨#[]⟩, .slice none 0 0, .slice none 0 0, .slice none 0 0, .slice none 0 0, .slice none 0 0, .int .i64 0, .int .i64 0, .int .i64 0, .string ⟨#[]⟩, .slice none 0 0, .int .i64 0, .int .i64 0, .int .i64 0, .int .i64 0, .string ⟨#[]⟩, .slice none 0 0, .int .i64 0, .slice none 0 0, .int .i64 0, .int .i64 0, .int .i64 0, .bool false, .bool false, .bool false, .int .i64 0] 40)) w1.heap.size w1.heap.size gr (.ok bs) := ⟨false, 0, bs, ⟨b1, hr1.below (l1.trans l2), Nat.le_refl _⟩, rfl⟩
    have hz : ((w1.alloc (.cells #[.slice none 0 0, .pointer (some ⟨gr, 0, none⟩), .bool false] 73)).alloc (.cells #[.slice none 0 0, .slice none 0 0, .int .i64 0, .string ⟨#[]⟩, .slice none 0 0, .slice none 0 0, .slice none 0 0, .slice none 0 0, .slice none 0 0, .int .i64 0, .int .i64 0, .int .i64 0, .string ⟨#[]⟩, .slice none 0 0, .int .i64 0, .int .i64 0, .int .i64 0, .int .i64 0, .string ⟨#[]⟩, .slice none 0 0, .int .i64 0, .slice none 0 0, .int .i64 0, .int .i64 0, .int .i64 0, .bool false, .bool false, .bool false, .int .i64 0] 40)).heap[W.heap.size]? = some (.cells #[.slice none 0 0, .slice none 0 0, .int .i64 0, .string ⟨#[]⟩, .slice none 0 0, .slice none 0 0, .slice none 0 0, .slice none 0 0, .slice none 0 0, .int .i64 0, .int .i64 0, .int .i64 0, .string ⟨#[]⟩, .slice none 0 0, .int .i64 0, .int .i64 0, .int .i64 0, .int .i64 0, .string ⟨#[]⟩, .slice none 0 0, .int .i64 0, .slice none 0 0, .int .i64 0, .int .i64 0, .int .i64 0, .bool false, .bool false, .bool false, .int .i64 0] 40 (0, 0)) := later_cells (l1.trans l2) (later_cells hl1 (heap_alloc_new W _))
    refine in_state.go (Q := fun w2 => ∃ form e2 bs2 cs, PIx w2 w1.heap.size w1.heap.size gr form e2 bs2 ∧ w2.heap[w1.heap.size + 1]? = some (.cells (List.toArray cs) 40 (0, 0)) ∧ Stp stR stC (w1.heap.size + 2) w2 (.ok bs) (stE form e2 bs2) cs ∧ w2.heap[W.heap.size]? = some (.cells #[.slice none 0 0, .slice none 0 0, .int .i64 0, .string ⟨#[]⟩, .slice none 0 0, .slice none 0 0, .slice none 0 0, .slice none 0 0, .slice none 0 0, .int .i64 0, .int .i64 0, .int .i64 0, .string ⟨#[]⟩, .slice none 0 0, .int .i64 0, .int .i64 0, .int .i64 0, .int .i64 0, .string ⟨#[]⟩, .slice none 0 0, .int .i64 0, .slice none 0 0, .int .i64 0, .int .i64 0, .int .i64 0, .bool false, .bool false, .bool false, .int .i64 0] 40 (0, 0)) ∧ Later W w2 ∧ W.heap.size < w1.heap.size) (pre := []) (post := []) (o := 0) hpi rfl b2 (by omega) (by omega) fun w2 st' cs hp2 hf2 hx2 hs2 => ?_
    obtain ⟨form, e2, bs2, hp2, rfl⟩ := hp2
    have hsz : ((w1.alloc (.cells #[.slice none 0 0, .pointer (some ⟨gr, 0, none⟩), .bool false] 73)).alloc (.cells #[.slice none 0 0, .slice none 0 0, .int .i64 0, .string ⟨#[]⟩, .slice none 0 0, .slice none 0 0, .slice none 0 0, .slice none 0 0, .slice none 0 0, .int .i64 0, .int .i64 0, .int .i64 0, .string ⟨#[]⟩, .slice none 0 0, .int .i64 0, .int .i64 0, .int .i64 0, .int .i64 0, .string ⟨#[]⟩, .slice none 0 0, .int .i64 0, .slice none 0 0, .int .i64 0, .int .i64 0, .int .i64 0, .bool false, .bool false, .bool false, .int .i64 0] 40)).heap.size = w1.heap.size + 2 := by simp
    rw [hsz] at hs2
    refine ⟨form, e2, bs2, cs, hp2, by simpa using hx2, hs2, (hf2.block _ (by omega) ⟨by omega, by omega, by omega⟩).trans hz, ?_⟩
    have hl := (l0.trans hl1).trans (l1.trans l2)
    refine ⟨?_, by omega⟩
    exact ⟨hf2.os.trans hl.os, hf2.tape.trans hl.tape, hf2.output.trans hl.output, Nat.le_trans hl.size hf2.size, fun k hk => (hf2.block k (by omega) ⟨by omega, by omega, by omega⟩).trans (hl.block k hk)⟩)
  have HONE := Lib.hid (show (#[.slice none 0 0, .slice none 0 0, .int .i64 0, .string ⟨#[]⟩, .slice none 0 0, .slice none 0 0, .slice none 0 0, .slice none 0 0, .slice none 0 0, .int .i64 0, .int .i64 0, .int .i64 0, .string ⟨#[]⟩, .slice none 0 0, .int .i64 0, .int .i64 0, .int .i64 0, .int .i64 0, .string ⟨#[]⟩, .slice none 0 0, .int .i64 0, .slice none 0 0, .int .i64 0, .int .i64 0, .int .i64 0, .bool false, .bool false, .bool false, .int .i64 0] : Array Value).all (·.oneCell') = true by simp [Value.oneCell'])
  clear hr
  go_enter Try.func10, Try.ntmps10
  go_wp2_with (first
    | (go_at_call 15; (with_reducible refine HO.out.mono ?_); rintro e w1 ⟨gr, rfl, hr1, hl1, hg1⟩; (have HW1 := Lib.hid (HW.out w1 gr hr1 hl1 hg1)); clear hr1 hl1 hg1)
    | (go_at_call 14; (with_reducible refine HW1.out.mono ?_); rintro e w2 ⟨rfl, form, e2, bs2, cs, hp2, hx2, hs2, hz2, hl2, hbw⟩; (have HE := Lib.hid (end_v hp2)); rw [end_of] at HE; (have HU := Lib.hid (unp_of hs2)); (have HX := Lib.hid hx2); (have HZ := Lib.hid hz2); (have HL := Lib.hid hl2); (have HS1 := Lib.hid hs2.len); (have HS2 := Lib.hid hs2.one); obtain ⟨k, hk⟩ : ∃ k, k = endK (stE form e2 bs2) := ⟨_, rfl⟩; rw [← hk] at HE HU; (have HBW := Lib.hid hbw); clear hp2 hx2 hs2 hz2 hl2 hk hbw)
    | (go_at_call 16; fail))
  by_cases hk0 : k = 0
  · subst hk0
    have HLD := Lib.hid (loadO_run (P := Try.prog) 40 _ _ _ HX.out Try.underlying40 rfl (by rw [List.size_toArray, HS1.out]; kernel_rfl))
    have HI := Lib.hid (show (Try.prog.info? 40).map (·.size) = some (List.toArray cs).size by rw [List.size_toArray, HS1.out]; kernel_rfl)
    have h29 : (List.toArray cs).size = 29 := by rw [List.size_toArray, HS1.out]; rfl
    have HSZ := Lib.hid (show (#[.slice none 0 0, .slice none 0 0, .int .i64 0, .string ⟨#[]⟩, .slice none 0 0, .slice none 0 0, .slice none 0 0, .slice none 0 0, .slice none 0 0, .int .i64 0, .int .i64 0, .int .i64 0, .string ⟨#[]⟩, .slice none 0 0, .int .i64 0, .int .i64 0, .int .i64 0, .int .i64 0, .string ⟨#[]⟩, .slice none 0 0, .int .i64 0, .slice none 0 0, .int .i64 0, .int .i64 0, .int .i64 0, .bool false, .bool false, .bool false, .int .i64 0] : Array Value).size = (List.toArray cs).size by rw [h29]; rfl)
    clear h29
    have HON2 := Lib.hid (show (List.toArray cs).all (·.oneCell') = true by rw [List.all_toArray, List.all_eq_true]; exact HS2.out)
    go_wp2_with (first
      | (go_at_call 16; (with_reducible refine HE.out.mono ?_); rintro e w' ⟨rfl, rfl⟩)
      | (refine wpList_loadRun rfl 40 (.tmp 5) rfl _ _ rfl HLD.out ?_)
      | (refine wpList_storeO rfl 40 (.tmp 2) (.tmp 16) rfl W.heap.size _ _ rfl rfl HZ.out HI.out HSZ.out HON2.out ?_; intro w3 hw3 hg3 hs3; (have HW3 := Lib.hid hw3); (have HG3 := Lib.hid hg3); clear hw3 hg3))
    refine bodyPost_ret (results_unp rfl _ _ W.heap.size _ rfl HW3.out (by rw [List.size_toArray, HS1.out]; rfl) _ rfl) rfl ?_
    refine ⟨later_of_new HL.out HG3.out (Nat.le_refl _), cs, 0, rfl, fun e1 he => ?_, fun a ha => ⟨rfl, ?_⟩⟩
    · have := HU.out.1 e1 he; omega
    · refine (HU.out.2 a ha).2 w3 HG3.out.size fun j h1 h2 => HG3.out.block j h2 fun e => ?_
      have := HBW.out
      injection e with e
      omega
  · have hne : ((k : Int) != 0) = true := by simp; omega
    have HK := Lib.hid hk0
    clear hk0
    go_wp2_with (first
      | (go_at_call 16; (with_reducible refine HE.out.mono ?_); rintro e w' ⟨rfl, rfl⟩)
      | (refine wpList_storeO rfl 40 (.tmp 2) (.tmp 14) rfl W.heap.size _ _ rfl rfl HZ.out (by kernel_rfl) rfl HONE.out ?_; intro w3 hw3 hg3 hs3; (have HW3 := Lib.hid hw3); (have HG3 := Lib.hid hg3); clear hw3 hg3))
    refine bodyPost_ret (results_unp rfl _ _ W.heap.size _ rfl HW3.out rfl _ rfl) rfl ?_
    refine ⟨later_of_new HL.out HG3.out (Nat.le_refl _), zState, k, rfl, fun e1 he => ⟨rfl, (HU.out.1 e1 he).1, HK.out⟩, fun a ha => absurd (HU.out.2 a ha).1 HK.out⟩
end Ks
end Go.Proofs.Yteljmlodbnfhbaa
