/- The law's kept: what a subshell keeps, as the document has it. No premises. -/
import Derived.Test.YteljmlodbnfhbaaKcu
import Derived.Test.YteljmlodbnfhbaaNa
namespace Go.Proofs.Yteljmlodbnfhbaa
open Go.RowKit
namespace Ks
set_option maxRecDepth 100000
def cV (a : B × B) : List Value := [.string (mkS a.1), .string (mkS a.2)]
def cF (a : B × Int × Int) : List Value := [.string (mkS a.1), .int .i64 a.2.1, .int .i64 a.2.2]
def cT (a : Int × B) : List Value := [.int .i64 a.1, .string (mkS a.2)]
def cP (a : Int × Int) : List Value := [.int .i64 a.1, .int .i64 a.2]
theorem cV_C {w : World} {n : Nat} {cs : List Value} {a : B × B} (h : prR.C w n cs a) : cs = cV a ∧ ∀ (u : World) (m : Nat), prR.C u m (cV a) a := by
  obtain ⟨c1, c2, rfl, h1, h2⟩ := h
  rw [h1.1, h2.1]
  exact ⟨rfl, fun u m => ⟨_, _, rfl, ⟨rfl, h1.2⟩, rfl, h2.2⟩⟩
theorem cF_C {w : World} {n : Nat} {cs : List Value} {a : B × Int × Int} (h : fnR.C w n cs a) : cs = cF a ∧ ∀ (u : World) (m : Nat), fnR.C u m (cF a) a := by
  obtain ⟨c1, c2, rfl, h1, c3, c4, rfl, h2, h3⟩ := h
  rw [h1.1, h2.1, h3.1]
  exact ⟨rfl, fun u m => ⟨_, _, rfl, ⟨rfl, h1.2⟩, _, _, rfl, ⟨rfl, h2.2⟩, rfl, h3.2⟩⟩
theorem cT_C {w : World} {n : Nat} {cs : List Value} {a : Int × B} (h : tpR.C w n cs a) : cs = cT a ∧ ∀ (u : World) (m : Nat), tpR.C u m (cT a) a := by
  obtain ⟨c1, c2, rfl, h1, h2⟩ := h
  rw [h1.1, h2.1]
  exact ⟨rfl, fun u m => ⟨_, _, rfl, ⟨rfl, h1.2⟩, rfl, h2.2⟩⟩
theorem cP_C {w : World} {n : Nat} {cs : List Value} {a : Int × Int} (h : fdR.C w n cs a) : cs = cP a ∧ ∀ (u : World) (m : Nat), fdR.C u m (cP a) a := by
  obtain ⟨c1, c2, rfl, h1, h2⟩ := h
  rw [h1.1, h2.1]
  exact ⟨rfl, fun u m => ⟨_, _, rfl, ⟨rfl, h1.2⟩, rfl, h2.2⟩⟩
/-- A row of the call's own reads as it should. -/
theorem rrow_ownK {α : Type} {r : Rp α} {f : α → List Value} {w : World} {b : Nat} {t : TypeId} {v : Value} {l : List α} (h : w.ownsRow b t r.wd v l.length (l.flatMap f)) (hC : ∀ a ∈ l, ∀ (u : World) (m : Nat), r.C u m (f a) a) : (rrow r).C w w.heap.size [v] l := by
  have hh : ∃ A cap, v = .slice A l.length cap ∧ l.length ≤ cap ∧ cap ≤ 9223372036854775807 := by
    rcases h.2 with ⟨rfl, h0⟩ | ⟨g, cap, cur, rfl, _, _, hnc, hcm, _⟩
    · exact ⟨none, 0, by rw [h0], by omega, by omega⟩
    · exact ⟨_, cap, rfl, hnc, hcm⟩
  obtain ⟨A, cap, rfl, h1, h2⟩ := hh
  refine ⟨A, cap, rfl, h1, h2, l.map f, by simp, ⟨h.1, fun hn => ?_⟩, fun k x a hx ha => ?_⟩
  · rcases h.2 with ⟨e0, h0⟩ | ⟨g, cap', cur, e0, _, hb2, _⟩
    · rw [h0] at hn; simp at hn
    · injection e0 with e0
      subst e0
      exact ⟨_, rfl, lt_of_block hb2, h.cells (g := g) rfl⟩
  · rw [List.getElem?_map, ha] at hx
    obtain rfl : f a = x := by simpa using hx
    exact hC a (List.mem_of_getElem? ha) _ _
theorem flat_take_snoc {α : Type} (f : α → List Value) (l : List α) (k : Nat) (h : k < l.length) : (l.take (k + 1)).flatMap f = (l.take k).flatMap f ++ f l[k] := by
  rw [List.take_succ_eq_append_getElem h, List.flatMap_append]; simp
/-- append(v, x): as a run. -/
theorem run_appK {P : Program} (w : World) (cs : Array Value) (k : Nat) (hk : 0 < k) (hcs : cs.size = k) (h1 : ∀ u ∈ cs.toList, u.oneCell' = true) (t ty e : TypeId) (i0 : TypeInfo) (z : Value) (bytes : Nat) (ht : P.underlying t = some (.slice e)) (hi : P.info? e = some i0) (hz : i0.zero = some z)
    (hsize : i0.size = k) (hby : i0.bytes = bytes) (hzs : z.cells.size = k) (base : Nat) (v : Value) (n : Nat) (xs : List Value) (hown : w.ownsRow base e k v n xs) (hn : (n + 1) * bytes ≤ 140737488355328) (hn2 : n + 1 ≤ 140737488355328) (hbase : base ≤ w.heap.size) :
    ∃ v' w', (Builtin.append_ #[t, t] ty #[v, .slice (some ⟨w.heap.size, 0, none⟩) 1 1]).run P (w.alloc (.cells cs e)) = .ok v' w' ∧ GrewK w w' base e k v v' (n + 1) (xs ++ cs.toList) := by
  have hla := Later.alloc w (.cells cs e)
  obtain ⟨v', w', hrun, h2, h3, _, h5⟩ := run_append_own_at (P := P) (w.alloc (.cells cs e)) base t ty e i0 z k bytes ht hi hz hsize hby hzs hk v n xs (hown.alloc _) ⟨w.heap.size, 0, none⟩ 1 1 cs.toList (by simpa using hcs) (fun j u hj => by
    rw [add_lit0, cell_of_row _ _ j cs e (0, 0) (heap_alloc_new w _)]
    simpa using hj) h1 (by unfold maxLen; omega) hn (Nat.le_trans hbase hla.size)
  refine ⟨v', w', hrun, h2, ?_, ?_⟩
  · exact ⟨h3.os.trans hla.os, h3.tape.trans hla.tape, h3.output.trans hla.output, Nat.le_trans hla.size h3.size, fun k hk hne => (h3.block k (Nat.lt_of_lt_of_le hk hla.size) hne).trans (hla.block k hk)⟩
  · rcases h5 with h5 | h5
    · exact .inl h5
    · exact .inr ⟨_, h5, hla.size⟩
/-- What is made so far. -/
structure KW (W : World) (csA : Array Value) (k : Kp) (wr : World) (v3 v5 v7 v9 : Value) (i3 i5 i7 i9 : Nat) : Prop where
  low : Later W wr
  bx : wr.heap[W.heap.size]? = some (.cells csA 31 (0, 0))
  rs : wr.heap[W.heap.size + 1]? = some (.cells #[.slice none 0 0, .slice none 0 0, .int .i64 0, .string ⟨#[]⟩, .slice none 0 0, .slice none 0 0, .slice none 0 0] 55 (0, 0))
  o3 : wr.ownsRow (W.heap.size + 2) 131 2 v3 i3 ((k.vars.take i3).flatMap cV)
  o5 : wr.ownsRow (W.heap.size + 2) 121 3 v5 i5 ((k.funcs.take i5).flatMap cF)
  o7 : wr.ownsRow (W.heap.size + 2) 123 2 v7 i7 ((k.traps.take i7).flatMap cT)
  o9 : wr.ownsRow (W.heap.size + 2) 125 2 v9 i9 ((k.fds.take i9).flatMap cP)
section
variable {W : World} {csA : Array Value} {k : Kp} {wr w2 : World} {v3 v5 v7 v9 v' : Value} {i3 i5 i7 i9 : Nat}
theorem KW.later (h : KW W csA k wr v3 v5 v7 v9 i3 i5 i7 i9) (hl : Later wr w2) : KW W csA k w2 v3 v5 v7 v9 i3 i5 i7 i9 :=
  ⟨h.low.trans hl, later_cells hl h.bx, later_cells hl h.rs, own_below h.o3 hl, own_below h.o5 hl, own_below h.o7 hl, own_below h.o9 hl⟩
theorem KW.push_vars (h : KW W csA k wr v3 v5 v7 v9 i3 i5 i7 i9) (hi : i3 < k.vars.length) (hg : GrewK wr w2 (W.heap.size + 2) 131 2 v3 v' (i3 + 1) ((k.vars.take i3).flatMap cV ++ cV k.vars[i3])) : KW W csA k w2 v' v5 v7 v9 (i3 + 1) i5 i7 i9 := by
  have hge : ∀ j, j < W.heap.size + 2 → some j ≠ v3.ownBlock := fun j hj e => by have := h.o3.lt j e.symm; omega
  have hsz := h.low.size
  refine ⟨⟨hg.grown.os.trans h.low.os, hg.grown.tape.trans h.low.tape, hg.grown.output.trans h.low.output, Nat.le_trans hsz hg.grown.size, fun j hj => (hg.grown.block j (by omega) (hge j (by omega))).trans (h.low.block j hj)⟩,
    (hg.grown.block _ (lt_of_block h.bx) (hge _ (by omega))).trans h.bx, (hg.grown.block _ (lt_of_block h.rs) (hge _ (by omega))).trans h.rs, by rw [flat_take_snoc _ _ _ hi]; exact hg.own, h.o5.kept hg.grown (apart_types h.o5 h.o3 (by decide)), h.o7.kept hg.grown (apart_types h.o7 h.o3 (by decide)), h.o9.kept hg.grown (apart_types h.o9 h.o3 (by decide))⟩
theorem KW.push_funcs (h : KW W csA k wr v3 v5 v7 v9 i3 i5 i7 i9) (hi : i5 < k.funcs.length) (hg : GrewK wr w2 (W.heap.size + 2) 121 3 v5 v' (i5 + 1) ((k.funcs.take i5).flatMap cF ++ cF k.funcs[i5])) : KW W csA k w2 v3 v' v7 v9 i3 (i5 + 1) i7 i9 := by
  have hge : ∀ j, j < W.heap.size + 2 → some j ≠ v5.ownBlock := fun j hj e => by have := h.o5.lt j e.symm; omega
  have hsz := h.low.size
  refine ⟨⟨hg.grown.os.trans h.low.os, hg.grown.tape.trans h.low.tape, hg.grown.output.trans h.low.output, Nat.le_trans hsz hg.grown.size, fun j hj => (hg.grown.block j (by omega) (hge j (by omega))).trans (h.low.block j hj)⟩,
    (hg.grown.block _ (lt_of_block h.bx) (hge _ (by omega))).trans h.bx, (hg.grown.block _ (lt_of_block h.rs) (hge _ (by omega))).trans h.rs, h.o3.kept hg.grown (apart_types h.o3 h.o5 (by decide)), by rw [flat_take_snoc _ _ _ hi]; exact hg.own, h.o7.kept hg.grown (apart_types h.o7 h.o5 (by decide)), h.o9.kept hg.grown (apart_types h.o9 h.o5 (by decide))⟩
theorem KW.push_traps (h : KW W csA k wr v3 v5 v7 v9 i3 i5 i7 i9) (hi : i7 < k.traps.length) (hg : GrewK wr w2 (W.heap.size + 2) 123 2 v7 v' (i7 + 1) ((k.traps.take i7).flatMap cT ++ cT k.traps[i7])) : KW W csA k w2 v3 v5 v' v9 i3 i5 (i7 + 1) i9 := by
  have hge : ∀ j, j < W.heap.size + 2 → some j ≠ v7.ownBlock := fun j hj e => by have := h.o7.lt j e.symm; omega
  have hsz := h.low.size
  refine ⟨⟨hg.grown.os.trans h.low.os, hg.grown.tape.trans h.low.tape, hg.grown.output.trans h.low.output, Nat.le_trans hsz hg.grown.size, fun j hj => (hg.grown.block j (by omega) (hge j (by omega))).trans (h.low.block j hj)⟩,
    (hg.grown.block _ (lt_of_block h.bx) (hge _ (by omega))).trans h.bx, (hg.grown.block _ (lt_of_block h.rs) (hge _ (by omega))).trans h.rs, h.o3.kept hg.grown (apart_types h.o3 h.o7 (by decide)), h.o5.kept hg.grown (apart_types h.o5 h.o7 (by decide)), by rw [flat_take_snoc _ _ _ hi]; exact hg.own, h.o9.kept hg.grown (apart_types h.o9 h.o7 (by decide))⟩
theorem KW.push_fds (h : KW W csA k wr v3 v5 v7 v9 i3 i5 i7 i9) (hi : i9 < k.fds.length) (hg : GrewK wr w2 (W.heap.size + 2) 125 2 v9 v' (i9 + 1) ((k.fds.take i9).flatMap cP ++ cP k.fds[i9])) : KW W csA k w2 v3 v5 v7 v' i3 i5 i7 (i9 + 1) := by
  have hge : ∀ j, j < W.heap.size + 2 → some j ≠ v9.ownBlock := fun j hj e => by have := h.o9.lt j e.symm; omega
  have hsz := h.low.size
  refine ⟨⟨hg.grown.os.trans h.low.os, hg.grown.tape.trans h.low.tape, hg.grown.output.trans h.low.output, Nat.le_trans hsz hg.grown.size, fun j hj => (hg.grown.block j (by omega) (hge j (by omega))).trans (h.low.block j hj)⟩,
    (hg.grown.block _ (lt_of_block h.bx) (hge _ (by omega))).trans h.bx, (hg.grown.block _ (lt_of_block h.rs) (hge _ (by omega))).trans h.rs, h.o3.kept hg.grown (apart_types h.o3 h.o9 (by decide)), h.o5.kept hg.grown (apart_types h.o5 h.o9 (by decide)), h.o7.kept hg.grown (apart_types h.o7 h.o9 (by decide)), by rw [flat_take_snoc _ _ _ hi]; exact hg.own⟩
end
theorem info_cV : (Try.prog.info? 131).map (fun i => (i.zero, i.size, i.bytes)) = some (some (.agg #[.string ⟨#[]⟩, .string ⟨#[]⟩]), 2, 32) := by kernel_rfl
theorem info_cF : (Try.prog.info? 121).map (fun i => (i.zero, i.size, i.bytes)) = some (some (.agg #[.string ⟨#[]⟩, .int .i64 0, .int .i64 0]), 3, 32) := by kernel_rfl
theorem info_cT : (Try.prog.info? 123).map (fun i => (i.zero, i.size, i.bytes)) = some (some (.agg #[.int .i64 0, .string ⟨#[]⟩]), 2, 24) := by kernel_rfl
theorem info_cP : (Try.prog.info? 125).map (fun i => (i.zero, i.size, i.bytes)) = some (some (.agg #[.int .i64 0, .int .i64 0]), 2, 16) := by kernel_rfl
theorem results_K {fn : Func} {p : Tmp} (h : fn.results = #[.cell p 55]) (tmps : Array Value) (w : World) (g : Nat) (cs : Array Value) (hp : tmps.getD p undef = .pointer (some ⟨g, 0, none⟩)) (hg : w.heap[g]? = some (.cells cs 55 (0, 0))) (hs : cs.size = 7) : (results fn tmps).run Try.prog w = .ok (.agg cs) w := by
  have hp' : tmps[p]?.getD undef = .pointer (some ⟨g, 0, none⟩) := by simpa using hp
  simp [results, h, hp', asAddr, run_loadVar_row w g _ _ cs (0, 0) _ hg Try.underlying55 rfl (by rw [hs]; kernel_rfl)]
set_option maxHeartbeats 12800000 in
theorem kept_v (k : Kp) (cs : List Value) (W : World) (X : Nat → Prop) (hX : ∀ j, W.heap.size ≤ j → X j) (hin : ∀ u, Fr X W u → kpR.C u u.heap.size cs k) (hn : kpN k ≤ 100000) :
    Calls Try.prog 25 #[.agg cs.toArray] W fun e W' => (∃ cs' : List Value, e = .returned (.agg cs'.toArray) ∧ ∀ u, Fr X W' u → kpR.C u u.heap.size cs' k) ∧ Later W W' := by
  obtain ⟨B1, d1, B2, d2, B3, d3, B4, d4, B5, d5, hcs, hE, hr3, hr4, hr5, _⟩ := kp_cells (hin W (Fr.refl X W))
  obtain ⟨B1', d1', B2', d2', hcs2, hr1, hr2, _⟩ := env_cells hE
  have e1 := (List.cons.inj hcs2).1
  have e2 := (List.cons.inj (List.cons.inj hcs2).2).1
  injection e1 with e1a _ e1c
  injection e2 with e2a _ e2c
  subst e1a e1c e2a e2c
  clear hcs2
  have HIN := Lib.hid hin
  rw [hcs] at HIN ⊢
  obtain ⟨n1, hn0⟩ : ∃ n, n = k.vars.length := ⟨_, rfl⟩
  obtain ⟨n3, hn1⟩ : ∃ n, n = k.funcs.length := ⟨_, rfl⟩
  obtain ⟨n4, hn2⟩ : ∃ n, n = k.traps.length := ⟨_, rfl⟩
  obtain ⟨n5, hn3⟩ : ∃ n, n = k.fds.length := ⟨_, rfl⟩
  obtain ⟨n2, hna⟩ : ∃ n, n = k.args.length := ⟨_, rfl⟩
  obtain ⟨st, hst⟩ : ∃ x, x = k.status := ⟨_, rfl⟩
  obtain ⟨fl, hfl⟩ : ∃ x, x = k.flags := ⟨_, rfl⟩
  have hkn : n1 ≤ 100000 ∧ n3 ≤ 100000 ∧ n4 ≤ 100000 ∧ n5 ≤ 100000 := by unfold kpN at hn; omega
  obtain ⟨hk1, hk3, hk4, hk5⟩ := hkn
  have cel : ∀ {α : Type} {r : Rp α} {f : α → List Value} {A : Option Addr} {l : List α}, (∀ {w : World} {n : Nat} {cs : List Value} {a : α}, r.C w n cs a → cs = f a ∧ ∀ (u : World) (m : Nat), r.C u m (f a) a) → Row r W W.heap.size A l → ∀ a ∈ l, ∀ (u : World) (m : Nat), r.C u m (f a) a := fun {α r f A l} hc hr a ha u m => by
    obtain ⟨xs, h1, _, h3⟩ := hr
    obtain ⟨i, hi, rfl⟩ := List.getElem_of_mem ha
    exact (hc (h3 i _ _ (List.getElem?_eq_getElem (show i < xs.length by omega)) (List.getElem?_eq_getElem hi))).2 u m
  have HC1 := Lib.hid (cel cV_C hr1)
  have HC3 := Lib.hid (cel cF_C hr3)
  have HC4 := Lib.hid (cel cT_C hr4)
  have HC5 := Lib.hid (cel cP_C hr5)
  have HARG := Lib.hid (show ∀ u, Fr X W u → txtsR.C u u.heap.size [.slice B2 k.args.length d2] k.args ∧ I64 k.status ∧ rtxt.C u u.heap.size [.string (mkS k.flags)] k.flags from fun u hu => by
    have h0 := hin u hu
    rw [hcs] at h0
    obtain ⟨x1, y1, e1, ⟨x2, y2, rfl, ⟨z1, z2, rfl, _⟩, x3, y3, rfl, ⟨z3, z4, rfl, h2⟩, x4, y4, rfl, ⟨rfl, h3⟩, rfl, h4⟩, _⟩ := h0
    simp only [List.cons_append, List.nil_append, List.cons.injEq] at e1
    obtain ⟨_, e2, _⟩ := e1
    refine ⟨by rw [e2]; exact ⟨z3, z4, rfl, h2⟩, h3, rfl, h4⟩)
  clear cel
  have HFIN := Lib.hid (show ∀ (v3 v5 v7 v9 : Value) (wr wa wb wc : World), KW W cs.toArray k wr v3 v5 v7 v9 k.vars.length k.funcs.length k.traps.length k.fds.length → Later W wa → (True → KW W cs.toArray k wa v3 v5 v7 v9 k.vars.length k.funcs.length k.traps.length k.fds.length) → wa.grownBy wb (some wr.heap.size) → wb.grownBy wc (some (W.heap.size + 1)) → W.heap.size + 1 < wr.heap.size →
      (∃ cs' : List Value, Ending.returned (.agg #[v3, .slice B2 k.args.length d2, .int .i64 k.status, .string (mkS k.flags), v5, v7, v9]) = .returned (.agg cs'.toArray) ∧ ∀ u, Fr X wc u → kpR.C u u.heap.size cs' k) ∧ Later W wc from fun v3 v5 v7 v9 wr wa wb wc hw hla hka hgb hgc hlt => by
    have hkA := hka trivial
    have hge := hw.low.size
    have hlb : Later W wb := later_of_new hla hgb hge
    have hlc : Later W wc := later_of_new hlb hgc (by omega)
    refine ⟨⟨[v3, .slice B2 k.args.length d2, .int .i64 k.status, .string (mkS k.flags), v5, v7, v9], rfl, fun u hu => ?_⟩, hlc⟩
    have hWu : Fr X W u := (Fr.later hlc).trans hu
    have keep : ∀ {t : TypeId} {wd n : Nat} {v : Value} {xs : List Value}, wr.ownsRow (W.heap.size + 2) t wd v n xs → wa.ownsRow (W.heap.size + 2) t wd v n xs → u.ownsRow (W.heap.size + 2) t wd v n xs := fun {t wd n v xs} hr ha => by
      have h1 := own_kept ha hgb fun j hj => Nat.ne_of_lt (hr.lt j hj).2
      have h2 := own_kept h1 hgc fun j hj => by have := (hr.lt j hj).1; omega
      exact hu.row h2 fun j hj => hX j (by have := (hr.lt j hj).1; omega)
    have r1 := rrow_ownK (r := prR) (f := cV) (by have := keep hw.o3 hkA.o3; rwa [List.take_length] at this) fun a ha u m => HC1.out a ha u m
    have r3 := rrow_ownK (r := fnR) (f := cF) (by have := keep hw.o5 hkA.o5; rwa [List.take_length] at this) fun a ha u m => HC3.out a ha u m
    have r4 := rrow_ownK (r := tpR) (f := cT) (by have := keep hw.o7 hkA.o7; rwa [List.take_length] at this) fun a ha u m => HC4.out a ha u m
    have r5 := rrow_ownK (r := fdR) (f := cP) (by have := keep hw.o9 hkA.o9; rwa [List.take_length] at this) fun a ha u m => HC5.out a ha u m
    obtain ⟨hA, hS, hF⟩ := HARG.out u hWu
    exact ⟨[v3, .slice B2 k.args.length d2, .int .i64 k.status, .string (mkS k.flags)], _, rfl, ⟨[v3], _, rfl, r1, [.slice B2 k.args.length d2], _, rfl, hA, [.int .i64 k.status], _, rfl, ⟨rfl, hS⟩, hF⟩, [v5], _, rfl, r3, [v7], _, rfl, r4, r5⟩)
  rw [← hn0, ← hna, ← hst, ← hfl, ← hn1, ← hn2, ← hn3] at hcs
  rw [hcs] at HFIN
  rw [← hn0, ← hna, ← hst, ← hfl, ← hn1, ← hn2, ← hn3] at HFIN ⊢
  have HN0 := Lib.hid hn0
  have HN1 := Lib.hid hn1
  have HN2 := Lib.hid hn2
  have HN3 := Lib.hid hn3
  have HR0 := Lib.hid hr1
  have HR1 := Lib.hid hr3
  have HR2 := Lib.hid hr4
  have HR3 := Lib.hid hr5
  clear hin hE hr1 hr2 hr3 hr4 hr5 hn hn0 hn1 hn2 hn3 hna hst hfl hcs HIN HC1 HC3 HC4 HC5 HARG hX
  go_enter Try.func25, Try.ntmps25
  go_wp2_with (first
    | (refine wpList_boxO rfl 31 (.tmp 0) rfl _ rfl ?_; intro w1 hb1 hl1 hs1; (have HB1 := Lib.hid hb1); (have HL1 := Lib.hid hl1); (have HS1 := Lib.hid hs1); clear hb1 hl1 hs1)
    | (refine wpList_allocO 2 rfl rfl 55 rfl #[.slice none 0 0, .slice none 0 0, .int .i64 0, .string ⟨#[]⟩, .slice none 0 0, .slice none 0 0, .slice none 0 0] 7 (by kernel_rfl) ?_; intro w2 hb2 hl2 hs2; rw [HS1.out] at hb2 ⊢; (have HKW0 := Lib.hid (show KW W #[.slice B1 n1 d1, .slice B2 n2 d2, .int .i64 st, .string (mkS fl), .slice B3 n3 d3, .slice B4 n4 d4, .slice B5 n5 d5] k w2 (.slice none 0 0) (.slice none 0 0) (.slice none 0 0) (.slice none 0 0) 0 0 0 0 from ⟨HL1.out.trans hl2, later_cells hl2 HB1.out, hb2, World.ownsRow_nil _ _ _ _, World.ownsRow_nil _ _ _ _, World.ownsRow_nil _ _ _ _, World.ownsRow_nil _ _ _ _⟩)); clear hb2 hl2 hs2))
  go_loopw [3, 4] (fun u i wr => ∃ j : Nat, j ≤ n1 ∧ i = .int .i64 (j : Int) ∧ Hid (KW W #[.slice B1 n1 d1, .slice B2 n2 d2, .int .i64 st, .string (mkS fl), .slice B3 n3 d3, .slice B4 n4 d4, .slice B5 n5 d5] k wr u (.slice none 0 0) (.slice none 0 0) (.slice none 0 0) j 0 0 0)) (fun _ i _ => n1 - (intOf i).toNat)
  case atStart => exact ⟨0, Nat.zero_le _, rfl, HKW0⟩
  case round =>
    obtain ⟨j, hj, rfl, HKW⟩ := hrel
    have qb := (cell_row HKW.out.bx 0).1
    simp at qb
    by_cases hlt : j < n1
    · have hj0 : (0 : Int) ≤ (j : Int) := by omega
      have hj1 : (j : Int) < (n1 : Int) := by omega
      have hjl : j < k.vars.length := by rw [← HN0.out]; exact hlt
      obtain ⟨g, o, rfl, hg, hcell⟩ := HR0.out.lie (by omega) (by decide)
      obtain ⟨fs, hfs, hu⟩ := hcell j hjl
      obtain ⟨y, hy⟩ : ∃ y, y = k.vars[j] := ⟨_, rfl⟩
      rw [← hy] at hfs
      obtain ⟨rfl, _⟩ := cV_C hfs
      obtain ⟨x1, x2⟩ := y
      obtain ⟨Av, cv, hv, _⟩ := own_any HKW.out.o3
      subst hv
      have hjn : j ≤ 100000 := by omega
      obtain ⟨i0, hif, hz0, hz1, hz2⟩ := info_parts info_cV
      have HAP := Lib.hid (run_appK (P := Try.prog) wr.drew #[.string (mkS x1), .string (mkS x2)] 2 (by omega) rfl (by intro u hu; simp at hu; rcases hu with rfl | rfl <;> rfl) 48 48 131 i0 _ 32 Try.underlying48 hif hz0 hz1 hz2 rfl (W.heap.size + 2) (.slice Av j cv) j ((k.vars.take j).flatMap cV) (own_below HKW.out.o3 (Later.drew wr)) (by omega) (by omega) (lt_of_block ((HKW.out.later (Later.drew wr)).rs)))
      have HKP := Lib.hid (show ∀ (j' : Nat) (u : Value) (x : World), (fun jj u x => match jj with | 0 => x = wr.drew | 1 => x = wr.drew.alloc (.cells #[.string (mkS x1), .string (mkS x2)] 131) | _ => GrewK wr.drew x (W.heap.size + 2) 131 2 (.slice Av j cv) u (j + 1) ((k.vars.take j).flatMap cV ++ [.string (mkS x1), .string (mkS x2)])) j' u x → Later W x ∧ x.heap[W.heap.size]? = some (.cells #[.slice (some ⟨g, o, none⟩) n1 d1, .slice B2 n2 d2, .int .i64 st, .string (mkS fl), .slice B3 n3 d3, .slice B4 n4 d4, .slice B5 n5 d5] 31 (0, 0)) from fun j' u x hC => by
        match j', hC with
        | 0, hC => rw [show x = wr.drew from hC]; exact ⟨(HKW.out.later (Later.drew wr)).low, (HKW.out.later (Later.drew wr)).bx⟩
        | 1, hC => rw [show x = wr.drew.alloc (.cells #[.string (mkS x1), .string (mkS x2)] 131) from hC]; exact ⟨(HKW.out.later ((Later.drew wr).trans (Later.alloc _ _))).low, (HKW.out.later ((Later.drew wr).trans (Later.alloc _ _))).bx⟩
        | j' + 2, hC => have h9 := (HKW.out.later (Later.drew wr)).push_vars hjl (by rw [← hy]; exact hC); exact ⟨h9.low, h9.bx⟩)
      have HBX := Lib.hid (show ∀ (j' : Nat) (u : Value) (x : World), (fun jj u x => match jj with | 0 => x = wr.drew | 1 => x = wr.drew.alloc (.cells #[.string (mkS x1), .string (mkS x2)] 131) | _ => GrewK wr.drew x (W.heap.size + 2) 131 2 (.slice Av j cv) u (j + 1) ((k.vars.take j).flatMap cV ++ [.string (mkS x1), .string (mkS x2)])) j' u x → x.cell? ⟨W.heap.size, 0, none⟩ = some (.slice (some ⟨g, o, none⟩) n1 d1) from fun j' u x hC => by rw [(cell_row (HKP.out j' u x hC).2 0).1]; rfl)
      have HEL0 := Lib.hid (show ∀ (j' : Nat) (u : Value) (x : World), (fun jj u x => match jj with | 0 => x = wr.drew | 1 => x = wr.drew.alloc (.cells #[.string (mkS x1), .string (mkS x2)] 131) | _ => GrewK wr.drew x (W.heap.size + 2) 131 2 (.slice Av j cv) u (j + 1) ((k.vars.take j).flatMap cV ++ [.string (mkS x1), .string (mkS x2)])) j' u x → x.cell? ⟨g, o + j * 2, none⟩ = some (.string (mkS x1)) from fun j' u x hC => ((HKP.out j' u x hC).1.cell (p := ⟨g, o + j * 2, none⟩) hg).trans (hu 0 _ rfl))
      have HEL1 := Lib.hid (show ∀ (j' : Nat) (u : Value) (x : World), (fun jj u x => match jj with | 0 => x = wr.drew | 1 => x = wr.drew.alloc (.cells #[.string (mkS x1), .string (mkS x2)] 131) | _ => GrewK wr.drew x (W.heap.size + 2) 131 2 (.slice Av j cv) u (j + 1) ((k.vars.take j).flatMap cV ++ [.string (mkS x1), .string (mkS x2)])) j' u x → x.cell? ⟨g, o + j * 2 + 1, none⟩ = some (.string (mkS x2)) from fun j' u x hC => ((HKP.out j' u x hC).1.cell (p := ⟨g, o + j * 2 + 1, none⟩) hg).trans (hu 1 _ rfl))
      have HPU := Lib.hid (show ∀ (u : Value) (x : World), GrewK wr.drew x (W.heap.size + 2) 131 2 (.slice Av j cv) u (j + 1) ((k.vars.take j).flatMap cV ++ [.string (mkS x1), .string (mkS x2)]) → KW W #[.slice (some ⟨g, o, none⟩) n1 d1, .slice B2 n2 d2, .int .i64 st, .string (mkS fl), .slice B3 n3 d3, .slice B4 n4 d4, .slice B5 n5 d5] k x u (.slice none 0 0) (.slice none 0 0) (.slice none 0 0) (j + 1) 0 0 0 from fun u x hC => (HKW.out.later (Later.drew wr)).push_vars hjl (by rw [← hy]; exact hC))
      clear hfs hcell hjl hg hy hu hif hz0 hz1 hz2
      go_wp2_with fail
      refine wp_region_seqE (by kernel_rfl) [16, 17, 18] (fun jj u x => match jj with | 0 => x = wr.drew | 1 => x = wr.drew.alloc (.cells #[.string (mkS x1), .string (mkS x2)] 131) | _ => GrewK wr.drew x (W.heap.size + 2) 131 2 (.slice Av j cv) u (j + 1) ((k.vars.take j).flatMap cV ++ [.string (mkS x1), .string (mkS x2)])) [some (.slice Av j cv), some (.pointer (some ⟨W.heap.size, 0, none⟩)), some (.pointer (some ⟨W.heap.size, 0, none⟩)), some (.slice (some ⟨g, o, none⟩) n1 d1), some (.int .i64 (j : Int)), some (.pointer (some ⟨g, o + j * 2, none⟩)), some (.pointer (some ⟨g, o + j * 2, none⟩)), some (.string (mkS x1)), some (.pointer (some ⟨W.heap.size, 0, none⟩)), some (.pointer (some ⟨W.heap.size, 0, none⟩)), some (.slice (some ⟨g, o, none⟩) n1 d1), some (.int .i64 (j : Int)), some (.pointer (some ⟨g, o + j * 2, none⟩)), some (.pointer (some ⟨g, o + j * 2 + 1, none⟩)), some (.string (mkS x2)), some (.agg #[.string (mkS x1), .string (mkS x2)]), some (.slice (some ⟨wr.drew.heap.size, 0, none⟩) 1 1), none, none] (by decide) (by decide) (by kernel_rfl) (by kernel_rfl) 3 (by kernel_rfl) (rfl) ?_ ?_
      · refine ⟨?_, ?_, ?_, ?_, ?_, ?_, ?_, ?_, ?_, ?_, ?_, ?_, ?_, ?_, ?_, ?_, ?_, ?_, ?_, trivial⟩
        · -- 0: slot 20 := Op.move t3
          refine OwesSE.q rfl fun a w j' u hC hb he hs => ⟨rfl, ?_⟩
          have e3 : a.tmps.getD 3 undef = .slice Av j cv := he (by have := hb 2 18 rfl rfl; simp only [List.length_cons, List.length_nil]; omega)
          refine ValWp.pure (v := .slice Av j cv) (fun K' hK' => ?_) ⟨rfl, rfl⟩
          simp only [ValWp, execOp, Act.eval, e3]
          go_simp
          all_goals exact hK'
        · -- 1: slot 21 := Op.fieldAddr 31 t1 0
          refine OwesSE.q rfl fun a w j' u hC hb he hs => ⟨rfl, ?_⟩
          have e1 : a.tmps.getD 1 undef = .pointer (some ⟨W.heap.size, 0, none⟩) := hs.free 1 rfl
          refine ValWp.pure (v := .pointer (some ⟨W.heap.size, 0, none⟩)) (fun K' hK' => ?_) ⟨rfl, rfl⟩
          simp only [ValWp, execOp, Act.eval, e1]
          go_simp
          all_goals exact hK'
        · -- 2: slot 22 := Op.fieldAddr 25 t21 0
          refine OwesSE.q rfl fun a w j' u hC hb he hs => ⟨rfl, ?_⟩
          have e21 : a.tmps.getD 21 undef = .pointer (some ⟨W.heap.size, 0, none⟩) := hs.dep 1 _ rfl rfl
          refine ValWp.pure (v := .pointer (some ⟨W.heap.size, 0, none⟩)) (fun K' hK' => ?_) ⟨rfl, rfl⟩
          simp only [ValWp, execOp, Act.eval, e21]
          go_simp
          all_goals exact hK'
        · -- 3: slot 23 := Op.load 22 t22
          refine OwesSE.q rfl fun a w j' u hC hb he hs => ⟨rfl, ?_⟩
          have e22 : a.tmps.getD 22 undef = .pointer (some ⟨W.heap.size, 0, none⟩) := hs.dep 2 _ rfl rfl
          have q0 := HBX.out j' u w hC
          refine ValWp.pure (v := .slice (some ⟨g, o, none⟩) n1 d1) (fun K' hK' => ?_) ⟨rfl, rfl⟩
          simp only [ValWp, execOp, Act.eval, e22]
          go_simp
          all_goals exact hK'
        · -- 4: slot 24 := Op.move t4
          refine OwesSE.q rfl fun a w j' u hC hb he hs => ⟨rfl, ?_⟩
          have e4 : a.tmps.getD 4 undef = .int .i64 (j : Int) := hs.free 4 rfl
          refine ValWp.pure (v := .int .i64 (j : Int)) (fun K' hK' => ?_) ⟨rfl, rfl⟩
          simp only [ValWp, execOp, Act.eval, e4]
          go_simp
          all_goals exact hK'
        · -- 5: slot 25 := Op.indexAddr 22 t23 t24
          refine OwesSE.q rfl fun a w j' u hC hb he hs => ⟨rfl, ?_⟩
          have e23 : a.tmps.getD 23 undef = .slice (some ⟨g, o, none⟩) n1 d1 := hs.dep 3 _ rfl rfl
          have e24 : a.tmps.getD 24 undef = .int .i64 (j : Int) := hs.dep 4 _ rfl rfl
          refine ValWp.pure (v := .pointer (some ⟨g, o + j * 2, none⟩)) (fun K' hK' => ?_) ⟨rfl, rfl⟩
          simp only [ValWp, execOp, Act.eval, e23, e24]
          go_simp
          all_goals exact hK'
        · -- 6: slot 26 := Op.fieldAddr 130 t25 0
          refine OwesSE.q rfl fun a w j' u hC hb he hs => ⟨rfl, ?_⟩
          have e25 : a.tmps.getD 25 undef = .pointer (some ⟨g, o + j * 2, none⟩) := hs.dep 5 _ rfl rfl
          refine ValWp.pure (v := .pointer (some ⟨g, o + j * 2, none⟩)) (fun K' hK' => ?_) ⟨rfl, rfl⟩
          simp only [ValWp, execOp, Act.eval, e25]
          go_simp
          all_goals exact hK'
        · -- 7: slot 27 := Op.load 9 t26
          refine OwesSE.q rfl fun a w j' u hC hb he hs => ⟨rfl, ?_⟩
          have e26 : a.tmps.getD 26 undef = .pointer (some ⟨g, o + j * 2, none⟩) := hs.dep 6 _ rfl rfl
          have q0 := HEL0.out j' u w hC
          refine ValWp.pure (v := .string (mkS x1)) (fun K' hK' => ?_) ⟨rfl, rfl⟩
          simp only [ValWp, execOp, Act.eval, e26]
          go_simp
          all_goals exact hK'
        · -- 8: slot 28 := Op.fieldAddr 31 t1 0
          refine OwesSE.q rfl fun a w j' u hC hb he hs => ⟨rfl, ?_⟩
          have e1 : a.tmps.getD 1 undef = .pointer (some ⟨W.heap.size, 0, none⟩) := hs.free 1 rfl
          refine ValWp.pure (v := .pointer (some ⟨W.heap.size, 0, none⟩)) (fun K' hK' => ?_) ⟨rfl, rfl⟩
          simp only [ValWp, execOp, Act.eval, e1]
          go_simp
          all_goals exact hK'
        · -- 9: slot 29 := Op.fieldAddr 25 t28 0
          refine OwesSE.q rfl fun a w j' u hC hb he hs => ⟨rfl, ?_⟩
          have e28 : a.tmps.getD 28 undef = .pointer (some ⟨W.heap.size, 0, none⟩) := hs.dep 8 _ rfl rfl
          refine ValWp.pure (v := .pointer (some ⟨W.heap.size, 0, none⟩)) (fun K' hK' => ?_) ⟨rfl, rfl⟩
          simp only [ValWp, execOp, Act.eval, e28]
          go_simp
          all_goals exact hK'
        · -- 10: slot 30 := Op.load 22 t29
          refine OwesSE.q rfl fun a w j' u hC hb he hs => ⟨rfl, ?_⟩
          have e29 : a.tmps.getD 29 undef = .pointer (some ⟨W.heap.size, 0, none⟩) := hs.dep 9 _ rfl rfl
          have q0 := HBX.out j' u w hC
          refine ValWp.pure (v := .slice (some ⟨g, o, none⟩) n1 d1) (fun K' hK' => ?_) ⟨rfl, rfl⟩
          simp only [ValWp, execOp, Act.eval, e29]
          go_simp
          all_goals exact hK'
        · -- 11: slot 31 := Op.move t4
          refine OwesSE.q rfl fun a w j' u hC hb he hs => ⟨rfl, ?_⟩
          have e4 : a.tmps.getD 4 undef = .int .i64 (j : Int) := hs.free 4 rfl
          refine ValWp.pure (v := .int .i64 (j : Int)) (fun K' hK' => ?_) ⟨rfl, rfl⟩
          simp only [ValWp, execOp, Act.eval, e4]
          go_simp
          all_goals exact hK'
        · -- 12: slot 32 := Op.indexAddr 22 t30 t31
          refine OwesSE.q rfl fun a w j' u hC hb he hs => ⟨rfl, ?_⟩
          have e30 : a.tmps.getD 30 undef = .slice (some ⟨g, o, none⟩) n1 d1 := hs.dep 10 _ rfl rfl
          have e31 : a.tmps.getD 31 undef = .int .i64 (j : Int) := hs.dep 11 _ rfl rfl
          refine ValWp.pure (v := .pointer (some ⟨g, o + j * 2, none⟩)) (fun K' hK' => ?_) ⟨rfl, rfl⟩
          simp only [ValWp, execOp, Act.eval, e30, e31]
          go_simp
          all_goals exact hK'
        · -- 13: slot 33 := Op.fieldAddr 130 t32 1
          refine OwesSE.q rfl fun a w j' u hC hb he hs => ⟨rfl, ?_⟩
          have e32 : a.tmps.getD 32 undef = .pointer (some ⟨g, o + j * 2, none⟩) := hs.dep 12 _ rfl rfl
          refine ValWp.pure (v := .pointer (some ⟨g, o + j * 2 + 1, none⟩)) (fun K' hK' => ?_) ⟨rfl, rfl⟩
          simp only [ValWp, execOp, Act.eval, e32]
          go_simp
          all_goals exact hK'
        · -- 14: slot 34 := Op.load 9 t33
          refine OwesSE.q rfl fun a w j' u hC hb he hs => ⟨rfl, ?_⟩
          have e33 : a.tmps.getD 33 undef = .pointer (some ⟨g, o + j * 2 + 1, none⟩) := hs.dep 13 _ rfl rfl
          have q0 := HEL1.out j' u w hC
          refine ValWp.pure (v := .string (mkS x2)) (fun K' hK' => ?_) ⟨rfl, rfl⟩
          simp only [ValWp, execOp, Act.eval, e33]
          go_simp
          all_goals exact hK'
        · -- 15: slot 35 := Op.build 131 #[(0, t27), (1, t34)]
          refine OwesSE.q rfl fun a w j' u hC hb he hs => ⟨rfl, ?_⟩
          have e27 : a.tmps.getD 27 undef = .string (mkS x1) := hs.dep 7 _ rfl rfl
          have e34 : a.tmps.getD 34 undef = .string (mkS x2) := hs.dep 14 _ rfl rfl
          refine ValWp.pure (v := .agg #[.string (mkS x1), .string (mkS x2)]) (fun K' hK' => ?_) ⟨rfl, rfl⟩
          simp only [ValWp, execOp, Act.eval, List.map_toArray, List.map_cons, List.map_nil, e27, e34]
          go_simp
          all_goals exact hK'
        · -- 16: slot 36 := Op.buildSlice 48 1 #[(0, t35)]
          refine OwesSE.w rfl fun a w u hC hl hs => ⟨rfl, fun K hK => ?_⟩
          have e35 : a.tmps.getD 35 undef = .agg #[.string (mkS x1), .string (mkS x2)] := hs.dep 15 _ rfl rfl
          have hw := hC
          subst hw
          refine wp_of_val ?_
          refine ValWp.pure (v := .slice (some ⟨wr.drew.heap.size, 0, none⟩) 1 1) (w' := wr.drew.alloc (.cells #[.string (mkS x1), .string (mkS x2)] 131)) (fun K' hK' => ?_) (hK _ _ rfl rfl)
          simp only [ValWp, execOp, Act.eval, List.map_toArray, List.map_cons, List.map_nil, e35]
          go_simp
          all_goals exact hK'
        · -- 17: slot 37 := Op.call { builtin append, args := #[t20, t36], argTypes := #[48, 48] }
          refine OwesSE.w rfl fun a w u hC hl hs => ⟨rfl, fun K hK => ?_⟩
          have e20 : a.tmps.getD 20 undef = .slice Av j cv := hs.dep 0 _ rfl rfl
          have e36 : a.tmps.getD 36 undef = .slice (some ⟨wr.drew.heap.size, 0, none⟩) 1 1 := hs.dep 16 _ rfl rfl
          have hw := hC
          subst hw
          obtain ⟨v', w', hrun, h3⟩ := HAP.out
          exact owes_append hrun rfl e20 e36 (hK v' w' trivial h3)
        · -- 18: slot 3 := Op.assign t37
          refine OwesSE.w rfl fun a w u hC hl hs => ⟨rfl, fun K hK => ?_⟩
          have e37 : a.tmps.getD 37 undef = u := hl
          have h3 := hC
          refine wp_of_val ?_
          refine ValWp.pure (v := u) (w' := w) (fun K' hK' => ?_) (hK _ _ trivial h3)
          simp only [ValWp, execOp, Act.eval, e37]
          go_simp
          all_goals exact hK'
      · intro a w u hC hl hd hsz hfree hs
        obtain ⟨u20, hu20⟩ : ∃ u, u = a.tmps.getD 20 undef := ⟨_, rfl⟩
        obtain ⟨u21, hu21⟩ : ∃ u, u = a.tmps.getD 21 undef := ⟨_, rfl⟩
        obtain ⟨u22, hu22⟩ : ∃ u, u = a.tmps.getD 22 undef := ⟨_, rfl⟩
        obtain ⟨u23, hu23⟩ : ∃ u, u = a.tmps.getD 23 undef := ⟨_, rfl⟩
        obtain ⟨u24, hu24⟩ : ∃ u, u = a.tmps.getD 24 undef := ⟨_, rfl⟩
        obtain ⟨u25, hu25⟩ : ∃ u, u = a.tmps.getD 25 undef := ⟨_, rfl⟩
        obtain ⟨u26, hu26⟩ : ∃ u, u = a.tmps.getD 26 undef := ⟨_, rfl⟩
        obtain ⟨u27, hu27⟩ : ∃ u, u = a.tmps.getD 27 undef := ⟨_, rfl⟩
        obtain ⟨u28, hu28⟩ : ∃ u, u = a.tmps.getD 28 undef := ⟨_, rfl⟩
        obtain ⟨u29, hu29⟩ : ∃ u, u = a.tmps.getD 29 undef := ⟨_, rfl⟩
        obtain ⟨u30, hu30⟩ : ∃ u, u = a.tmps.getD 30 undef := ⟨_, rfl⟩
        obtain ⟨u31, hu31⟩ : ∃ u, u = a.tmps.getD 31 undef := ⟨_, rfl⟩
        obtain ⟨u32, hu32⟩ : ∃ u, u = a.tmps.getD 32 undef := ⟨_, rfl⟩
        obtain ⟨u33, hu33⟩ : ∃ u, u = a.tmps.getD 33 undef := ⟨_, rfl⟩
        obtain ⟨u34, hu34⟩ : ∃ u, u = a.tmps.getD 34 undef := ⟨_, rfl⟩
        obtain ⟨u35, hu35⟩ : ∃ u, u = a.tmps.getD 35 undef := ⟨_, rfl⟩
        obtain ⟨u36, hu36⟩ : ∃ u, u = a.tmps.getD 36 undef := ⟨_, rfl⟩
        obtain ⟨u37, hu37⟩ : ∃ u, u = a.tmps.getD 37 undef := ⟨_, rfl⟩
        have hal : AllAt a 0 [_, _, _, u, _, _, _, _, _, _, _, _, _, _, _, _, _, _, _, _, u20, u21, u22, u23, u24, u25, u26, u27, u28, u29, u30, u31, u32, u33, u34, u35, u36, u37, _, _, _, _, _, _, _, _, _, _, _, _, _, _, _, _, _, _, _, _, _, _, _, _, _, _, _, _, _, _, _, _, _, _, _, _, _, _, _, _, _, _, _, _, _, _, _, _, _, _, _, _, _, _, _, _, _, _, _, _, _, _, _, _, _, _, _, _, _, _, _, _, _, _, _, _, _, _, _, _, _, _, _, _, _, _, _, _, _, _, _] := ⟨hfree 0 rfl, hfree 1 rfl, hfree 2 rfl, hl, hfree 4 rfl, hfree 5 rfl, hfree 6 rfl, hfree 7 rfl, hfree 8 rfl, hfree 9 rfl, hfree 10 rfl, hfree 11 rfl, hfree 12 rfl, hfree 13 rfl, hfree 14 rfl, hfree 15 rfl, hfree 16 rfl, hfree 17 rfl, hfree 18 rfl, hfree 19 rfl, hu20.symm, hu21.symm, hu22.symm, hu23.symm, hu24.symm, hu25.symm, hu26.symm, hu27.symm, hu28.symm, hu29.symm, hu30.symm, hu31.symm, hu32.symm, hu33.symm, hu34.symm, hu35.symm, hu36.symm, hu37.symm, hfree 38 rfl, hfree 39 rfl, hfree 40 rfl, hfree 41 rfl, hfree 42 rfl, hfree 43 rfl, hfree 44 rfl, hfree 45 rfl, hfree 46 rfl, hfree 47 rfl, hfree 48 rfl, hfree 49 rfl, hfree 50 rfl, hfree 51 rfl, hfree 52 rfl, hfree 53 rfl, hfree 54 rfl, hfree 55 rfl, hfree 56 rfl, hfree 57 rfl, hfree 58 rfl, hfree 59 rfl, hfree 60 rfl, hfree 61 rfl, hfree 62 rfl, hfree 63 rfl, hfree 64 rfl, hfree 65 rfl, hfree 66 rfl, hfree 67 rfl, hfree 68 rfl, hfree 69 rfl, hfree 70 rfl, hfree 71 rfl, hfree 72 rfl, hfree 73 rfl, hfree 74 rfl, hfree 75 rfl, hfree 76 rfl, hfree 77 rfl, hfree 78 rfl, hfree 79 rfl, hfree 80 rfl, hfree 81 rfl, hfree 82 rfl, hfree 83 rfl, hfree 84 rfl, hfree 85 rfl, hfree 86 rfl, hfree 87 rfl, hfree 88 rfl, hfree 89 rfl, hfree 90 rfl, hfree 91 rfl, hfree 92 rfl, hfree 93 rfl, hfree 94 rfl, hfree 95 rfl, hfree 96 rfl, hfree 97 rfl, hfree 98 rfl, hfree 99 rfl, hfree 100 rfl, hfree 101 rfl, hfree 102 rfl, hfree 103 rfl, hfree 104 rfl, hfree 105 rfl, hfree 106 rfl, hfree 107 rfl, hfree 108 rfl, hfree 109 rfl, hfree 110 rfl, hfree 111 rfl, hfree 112 rfl, hfree 113 rfl, hfree 114 rfl, hfree 115 rfl, hfree 116 rfl, hfree 117 rfl, hfree 118 rfl, hfree 119 rfl, hfree 120 rfl, hfree 121 rfl, hfree 122 rfl, hfree 123 rfl, hfree 124 rfl, hfree 125 rfl, hfree 126 rfl, hfree 127 rfl, hfree 128 rfl, trivial⟩
        have hlit := fun h => act_lit hd h hal
        rw [hlit hsz]
        simp only [Array.getD_eq_getD_getElem?, List.getElem?_toArray, List.getElem?_cons_zero, List.getElem?_cons_succ, Option.getD_some]
        clear hlit hal hd hsz hfree hs hu20 hu21 hu22 hu23 hu24 hu25 hu26 hu27 hu28 hu29 hu30 hu31 hu32 hu33 hu34 hu35 hu36 hu37
        have HKN := Lib.hid (HPU.out u w hC)
        clear hC hl
        go_wp2
        go_roundw
        case rel => exact ⟨j + 1, by omega, by go_num, HKN⟩
        case measure => simp [intOf]; omega
    · have e : j = n1 := by omega
      rw [e] at HKW ⊢
      have hlt1 : ¬ (n1 : Int) < (n1 : Int) := by omega
      clear e hj hlt
      obtain ⟨v3, hv3⟩ : ∃ x, x = u3 := ⟨_, rfl⟩
      rw [← hv3] at HKW ⊢
      clear hv3
      have HKW1 := HKW
      obtain ⟨wq, hwq⟩ : ∃ x, x = wr := ⟨_, rfl⟩
      rw [← hwq] at HKW HKW1 qb ⊢
      clear hwq HKW
      go_wp2_with fail
      clear qb hlt1
      go_loopw [5, 6] (fun u i wr => ∃ j : Nat, j ≤ n3 ∧ i = .int .i64 (j : Int) ∧ Hid (KW W #[.slice B1 n1 d1, .slice B2 n2 d2, .int .i64 st, .string (mkS fl), .slice B3 n3 d3, .slice B4 n4 d4, .slice B5 n5 d5] k wr v3 u (.slice none 0 0) (.slice none 0 0) n1 j 0 0)) (fun _ i _ => n3 - (intOf i).toNat)
      case atStart => exact ⟨0, Nat.zero_le _, rfl, HKW1⟩
      case round =>
        obtain ⟨j, hj, rfl, HKW⟩ := hrel
        have qb := (cell_row HKW.out.bx 4).1
        simp at qb
        by_cases hlt : j < n3
        · have hj0 : (0 : Int) ≤ (j : Int) := by omega
          have hj1 : (j : Int) < (n3 : Int) := by omega
          have hjl : j < k.funcs.length := by rw [← HN1.out]; exact hlt
          obtain ⟨g, o, rfl, hg, hcell⟩ := HR1.out.lie (by omega) (by decide)
          obtain ⟨fs, hfs, hu⟩ := hcell j hjl
          obtain ⟨y, hy⟩ : ∃ y, y = k.funcs[j] := ⟨_, rfl⟩
          rw [← hy] at hfs
          obtain ⟨rfl, _⟩ := cF_C hfs
          obtain ⟨x1, x2, x3⟩ := y
          obtain ⟨Av, cv, hv, _⟩ := own_any HKW.out.o5
          subst hv
          have hjn : j ≤ 100000 := by omega
          obtain ⟨i0, hif, hz0, hz1, hz2⟩ := info_parts info_cF
          have HAP := Lib.hid (run_appK (P := Try.prog) wr.drew #[.string (mkS x1), .int .i64 x2, .int .i64 x3] 3 (by omega) rfl (by intro u hu; simp at hu; rcases hu with rfl | rfl | rfl <;> rfl) 51 51 121 i0 _ 32 Try.underlying51 hif hz0 hz1 hz2 rfl (W.heap.size + 2) (.slice Av j cv) j ((k.funcs.take j).flatMap cF) (own_below HKW.out.o5 (Later.drew wr)) (by omega) (by omega) (lt_of_block ((HKW.out.later (Later.drew wr)).rs)))
          have HKP := Lib.hid (show ∀ (j' : Nat) (u : Value) (x : World), (fun jj u x => match jj with | 0 => x = wr.drew | 1 => x = wr.drew.alloc (.cells #[.string (mkS x1), .int .i64 x2, .int .i64 x3] 121) | _ => GrewK wr.drew x (W.heap.size + 2) 121 3 (.slice Av j cv) u (j + 1) ((k.funcs.take j).flatMap cF ++ [.string (mkS x1), .int .i64 x2, .int .i64 x3])) j' u x → Later W x ∧ x.heap[W.heap.size]? = some (.cells #[.slice B1 n1 d1, .slice B2 n2 d2, .int .i64 st, .string (mkS fl), .slice (some ⟨g, o, none⟩) n3 d3, .slice B4 n4 d4, .slice B5 n5 d5] 31 (0, 0)) from fun j' u x hC => by
            match j', hC with
            | 0, hC => rw [show x = wr.drew from hC]; exact ⟨(HKW.out.later (Later.drew wr)).low, (HKW.out.later (Later.drew wr)).bx⟩
            | 1, hC => rw [show x = wr.drew.alloc (.cells #[.string (mkS x1), .int .i64 x2, .int .i64 x3] 121) from hC]; exact ⟨(HKW.out.later ((Later.drew wr).trans (Later.alloc _ _))).low, (HKW.out.later ((Later.drew wr).trans (Later.alloc _ _))).bx⟩
            | j' + 2, hC => have h9 := (HKW.out.later (Later.drew wr)).push_funcs hjl (by rw [← hy]; exact hC); exact ⟨h9.low, h9.bx⟩)
          have HBX := Lib.hid (show ∀ (j' : Nat) (u : Value) (x : World), (fun jj u x => match jj with | 0 => x = wr.drew | 1 => x = wr.drew.alloc (.cells #[.string (mkS x1), .int .i64 x2, .int .i64 x3] 121) | _ => GrewK wr.drew x (W.heap.size + 2) 121 3 (.slice Av j cv) u (j + 1) ((k.funcs.take j).flatMap cF ++ [.string (mkS x1), .int .i64 x2, .int .i64 x3])) j' u x → x.cell? ⟨W.heap.size, 4, none⟩ = some (.slice (some ⟨g, o, none⟩) n3 d3) from fun j' u x hC => by rw [(cell_row (HKP.out j' u x hC).2 4).1]; rfl)
          have HEL0 := Lib.hid (show ∀ (j' : Nat) (u : Value) (x : World), (fun jj u x => match jj with | 0 => x = wr.drew | 1 => x = wr.drew.alloc (.cells #[.string (mkS x1), .int .i64 x2, .int .i64 x3] 121) | _ => GrewK wr.drew x (W.heap.size + 2) 121 3 (.slice Av j cv) u (j + 1) ((k.funcs.take j).flatMap cF ++ [.string (mkS x1), .int .i64 x2, .int .i64 x3])) j' u x → x.cell? ⟨g, o + j * 3, none⟩ = some (.string (mkS x1)) from fun j' u x hC => ((HKP.out j' u x hC).1.cell (p := ⟨g, o + j * 3, none⟩) hg).trans (hu 0 _ rfl))
          have HEL1 := Lib.hid (show ∀ (j' : Nat) (u : Value) (x : World), (fun jj u x => match jj with | 0 => x = wr.drew | 1 => x = wr.drew.alloc (.cells #[.string (mkS x1), .int .i64 x2, .int .i64 x3] 121) | _ => GrewK wr.drew x (W.heap.size + 2) 121 3 (.slice Av j cv) u (j + 1) ((k.funcs.take j).flatMap cF ++ [.string (mkS x1), .int .i64 x2, .int .i64 x3])) j' u x → x.cell? ⟨g, o + j * 3 + 1, none⟩ = some (.int .i64 x2) from fun j' u x hC => ((HKP.out j' u x hC).1.cell (p := ⟨g, o + j * 3 + 1, none⟩) hg).trans (hu 1 _ rfl))
          have HEL2 := Lib.hid (show ∀ (j' : Nat) (u : Value) (x : World), (fun jj u x => match jj with | 0 => x = wr.drew | 1 => x = wr.drew.alloc (.cells #[.string (mkS x1), .int .i64 x2, .int .i64 x3] 121) | _ => GrewK wr.drew x (W.heap.size + 2) 121 3 (.slice Av j cv) u (j + 1) ((k.funcs.take j).flatMap cF ++ [.string (mkS x1), .int .i64 x2, .int .i64 x3])) j' u x → x.cell? ⟨g, o + j * 3 + 2, none⟩ = some (.int .i64 x3) from fun j' u x hC => ((HKP.out j' u x hC).1.cell (p := ⟨g, o + j * 3 + 2, none⟩) hg).trans (hu 2 _ rfl))
          have HPU := Lib.hid (show ∀ (u : Value) (x : World), GrewK wr.drew x (W.heap.size + 2) 121 3 (.slice Av j cv) u (j + 1) ((k.funcs.take j).flatMap cF ++ [.string (mkS x1), .int .i64 x2, .int .i64 x3]) → KW W #[.slice B1 n1 d1, .slice B2 n2 d2, .int .i64 st, .string (mkS fl), .slice (some ⟨g, o, none⟩) n3 d3, .slice B4 n4 d4, .slice B5 n5 d5] k x v3 u (.slice none 0 0) (.slice none 0 0) n1 (j + 1) 0 0 from fun u x hC => (HKW.out.later (Later.drew wr)).push_funcs hjl (by rw [← hy]; exact hC))
          clear hfs hcell hjl hg hy hu hif hz0 hz1 hz2
          go_wp2_with fail
          refine wp_region_seqE (by kernel_rfl) [20, 21, 22] (fun jj u x => match jj with | 0 => x = wr.drew | 1 => x = wr.drew.alloc (.cells #[.string (mkS x1), .int .i64 x2, .int .i64 x3] 121) | _ => GrewK wr.drew x (W.heap.size + 2) 121 3 (.slice Av j cv) u (j + 1) ((k.funcs.take j).flatMap cF ++ [.string (mkS x1), .int .i64 x2, .int .i64 x3])) [some (.slice Av j cv), some (.pointer (some ⟨W.heap.size, 4, none⟩)), some (.slice (some ⟨g, o, none⟩) n3 d3), some (.int .i64 (j : Int)), some (.pointer (some ⟨g, o + j * 3, none⟩)), some (.pointer (some ⟨g, o + j * 3, none⟩)), some (.string (mkS x1)), some (.pointer (some ⟨W.heap.size, 4, none⟩)), some (.slice (some ⟨g, o, none⟩) n3 d3), some (.int .i64 (j : Int)), some (.pointer (some ⟨g, o + j * 3, none⟩)), some (.pointer (some ⟨g, o + j * 3 + 1, none⟩)), some (.int .i64 x2), some (.pointer (some ⟨W.heap.size, 4, none⟩)), some (.slice (some ⟨g, o, none⟩) n3 d3), some (.int .i64 (j : Int)), some (.pointer (some ⟨g, o + j * 3, none⟩)), some (.pointer (some ⟨g, o + j * 3 + 2, none⟩)), some (.int .i64 x3), some (.agg #[.string (mkS x1), .int .i64 x2, .int .i64 x3]), some (.slice (some ⟨wr.drew.heap.size, 0, none⟩) 1 1), none, none] (by decide) (by decide) (by kernel_rfl) (by kernel_rfl) 5 (by kernel_rfl) (rfl) ?_ ?_
          · refine ⟨?_, ?_, ?_, ?_, ?_, ?_, ?_, ?_, ?_, ?_, ?_, ?_, ?_, ?_, ?_, ?_, ?_, ?_, ?_, ?_, ?_, ?_, ?_, trivial⟩
            · -- 0: slot 45 := Op.move t5
              refine OwesSE.q rfl fun a w j' u hC hb he hs => ⟨rfl, ?_⟩
              have e5 : a.tmps.getD 5 undef = .slice Av j cv := he (by have := hb 2 22 rfl rfl; simp only [List.length_cons, List.length_nil]; omega)
              refine ValWp.pure (v := .slice Av j cv) (fun K' hK' => ?_) ⟨rfl, rfl⟩
              simp only [ValWp, execOp, Act.eval, e5]
              go_simp
              all_goals exact hK'
            · -- 1: slot 46 := Op.fieldAddr 31 t1 1
              refine OwesSE.q rfl fun a w j' u hC hb he hs => ⟨rfl, ?_⟩
              have e1 : a.tmps.getD 1 undef = .pointer (some ⟨W.heap.size, 0, none⟩) := hs.free 1 rfl
              refine ValWp.pure (v := .pointer (some ⟨W.heap.size, 4, none⟩)) (fun K' hK' => ?_) ⟨rfl, rfl⟩
              simp only [ValWp, execOp, Act.eval, e1]
              go_simp
              all_goals exact hK'
            · -- 2: slot 47 := Op.load 26 t46
              refine OwesSE.q rfl fun a w j' u hC hb he hs => ⟨rfl, ?_⟩
              have e46 : a.tmps.getD 46 undef = .pointer (some ⟨W.heap.size, 4, none⟩) := hs.dep 1 _ rfl rfl
              have q0 := HBX.out j' u w hC
              refine ValWp.pure (v := .slice (some ⟨g, o, none⟩) n3 d3) (fun K' hK' => ?_) ⟨rfl, rfl⟩
              simp only [ValWp, execOp, Act.eval, e46]
              go_simp
              all_goals exact hK'
            · -- 3: slot 48 := Op.move t6
              refine OwesSE.q rfl fun a w j' u hC hb he hs => ⟨rfl, ?_⟩
              have e6 : a.tmps.getD 6 undef = .int .i64 (j : Int) := hs.free 6 rfl
              refine ValWp.pure (v := .int .i64 (j : Int)) (fun K' hK' => ?_) ⟨rfl, rfl⟩
              simp only [ValWp, execOp, Act.eval, e6]
              go_simp
              all_goals exact hK'
            · -- 4: slot 49 := Op.indexAddr 26 t47 t48
              refine OwesSE.q rfl fun a w j' u hC hb he hs => ⟨rfl, ?_⟩
              have e47 : a.tmps.getD 47 undef = .slice (some ⟨g, o, none⟩) n3 d3 := hs.dep 2 _ rfl rfl
              have e48 : a.tmps.getD 48 undef = .int .i64 (j : Int) := hs.dep 3 _ rfl rfl
              refine ValWp.pure (v := .pointer (some ⟨g, o + j * 3, none⟩)) (fun K' hK' => ?_) ⟨rfl, rfl⟩
              simp only [ValWp, execOp, Act.eval, e47, e48]
              go_simp
              all_goals exact hK'
            · -- 5: slot 50 := Op.fieldAddr 132 t49 0
              refine OwesSE.q rfl fun a w j' u hC hb he hs => ⟨rfl, ?_⟩
              have e49 : a.tmps.getD 49 undef = .pointer (some ⟨g, o + j * 3, none⟩) := hs.dep 4 _ rfl rfl
              refine ValWp.pure (v := .pointer (some ⟨g, o + j * 3, none⟩)) (fun K' hK' => ?_) ⟨rfl, rfl⟩
              simp only [ValWp, execOp, Act.eval, e49]
              go_simp
              all_goals exact hK'
            · -- 6: slot 51 := Op.load 9 t50
              refine OwesSE.q rfl fun a w j' u hC hb he hs => ⟨rfl, ?_⟩
              have e50 : a.tmps.getD 50 undef = .pointer (some ⟨g, o + j * 3, none⟩) := hs.dep 5 _ rfl rfl
              have q0 := HEL0.out j' u w hC
              refine ValWp.pure (v := .string (mkS x1)) (fun K' hK' => ?_) ⟨rfl, rfl⟩
              simp only [ValWp, execOp, Act.eval, e50]
              go_simp
              all_goals exact hK'
            · -- 7: slot 52 := Op.fieldAddr 31 t1 1
              refine OwesSE.q rfl fun a w j' u hC hb he hs => ⟨rfl, ?_⟩
              have e1 : a.tmps.getD 1 undef = .pointer (some ⟨W.heap.size, 0, none⟩) := hs.free 1 rfl
              refine ValWp.pure (v := .pointer (some ⟨W.heap.size, 4, none⟩)) (fun K' hK' => ?_) ⟨rfl, rfl⟩
              simp only [ValWp, execOp, Act.eval, e1]
              go_simp
              all_goals exact hK'
            · -- 8: slot 53 := Op.load 26 t52
              refine OwesSE.q rfl fun a w j' u hC hb he hs => ⟨rfl, ?_⟩
              have e52 : a.tmps.getD 52 undef = .pointer (some ⟨W.heap.size, 4, none⟩) := hs.dep 7 _ rfl rfl
              have q0 := HBX.out j' u w hC
              refine ValWp.pure (v := .slice (some ⟨g, o, none⟩) n3 d3) (fun K' hK' => ?_) ⟨rfl, rfl⟩
              simp only [ValWp, execOp, Act.eval, e52]
              go_simp
              all_goals exact hK'
            · -- 9: slot 54 := Op.move t6
              refine OwesSE.q rfl fun a w j' u hC hb he hs => ⟨rfl, ?_⟩
              have e6 : a.tmps.getD 6 undef = .int .i64 (j : Int) := hs.free 6 rfl
              refine ValWp.pure (v := .int .i64 (j : Int)) (fun K' hK' => ?_) ⟨rfl, rfl⟩
              simp only [ValWp, execOp, Act.eval, e6]
              go_simp
              all_goals exact hK'
            · -- 10: slot 55 := Op.indexAddr 26 t53 t54
              refine OwesSE.q rfl fun a w j' u hC hb he hs => ⟨rfl, ?_⟩
              have e53 : a.tmps.getD 53 undef = .slice (some ⟨g, o, none⟩) n3 d3 := hs.dep 8 _ rfl rfl
              have e54 : a.tmps.getD 54 undef = .int .i64 (j : Int) := hs.dep 9 _ rfl rfl
              refine ValWp.pure (v := .pointer (some ⟨g, o + j * 3, none⟩)) (fun K' hK' => ?_) ⟨rfl, rfl⟩
              simp only [ValWp, execOp, Act.eval, e53, e54]
              go_simp
              all_goals exact hK'
            · -- 11: slot 56 := Op.fieldAddr 132 t55 1
              refine OwesSE.q rfl fun a w j' u hC hb he hs => ⟨rfl, ?_⟩
              have e55 : a.tmps.getD 55 undef = .pointer (some ⟨g, o + j * 3, none⟩) := hs.dep 10 _ rfl rfl
              refine ValWp.pure (v := .pointer (some ⟨g, o + j * 3 + 1, none⟩)) (fun K' hK' => ?_) ⟨rfl, rfl⟩
              simp only [ValWp, execOp, Act.eval, e55]
              go_simp
              all_goals exact hK'
            · -- 12: slot 57 := Op.load 3 t56
              refine OwesSE.q rfl fun a w j' u hC hb he hs => ⟨rfl, ?_⟩
              have e56 : a.tmps.getD 56 undef = .pointer (some ⟨g, o + j * 3 + 1, none⟩) := hs.dep 11 _ rfl rfl
              have q0 := HEL1.out j' u w hC
              refine ValWp.pure (v := .int .i64 x2) (fun K' hK' => ?_) ⟨rfl, rfl⟩
              simp only [ValWp, execOp, Act.eval, e56]
              go_simp
              all_goals exact hK'
            · -- 13: slot 58 := Op.fieldAddr 31 t1 1
              refine OwesSE.q rfl fun a w j' u hC hb he hs => ⟨rfl, ?_⟩
              have e1 : a.tmps.getD 1 undef = .pointer (some ⟨W.heap.size, 0, none⟩) := hs.free 1 rfl
              refine ValWp.pure (v := .pointer (some ⟨W.heap.size, 4, none⟩)) (fun K' hK' => ?_) ⟨rfl, rfl⟩
              simp only [ValWp, execOp, Act.eval, e1]
              go_simp
              all_goals exact hK'
            · -- 14: slot 59 := Op.load 26 t58
              refine OwesSE.q rfl fun a w j' u hC hb he hs => ⟨rfl, ?_⟩
              have e58 : a.tmps.getD 58 undef = .pointer (some ⟨W.heap.size, 4, none⟩) := hs.dep 13 _ rfl rfl
              have q0 := HBX.out j' u w hC
              refine ValWp.pure (v := .slice (some ⟨g, o, none⟩) n3 d3) (fun K' hK' => ?_) ⟨rfl, rfl⟩
              simp only [ValWp, execOp, Act.eval, e58]
              go_simp
              all_goals exact hK'
            · -- 15: slot 60 := Op.move t6
              refine OwesSE.q rfl fun a w j' u hC hb he hs => ⟨rfl, ?_⟩
              have e6 : a.tmps.getD 6 undef = .int .i64 (j : Int) := hs.free 6 rfl
              refine ValWp.pure (v := .int .i64 (j : Int)) (fun K' hK' => ?_) ⟨rfl, rfl⟩
              simp only [ValWp, execOp, Act.eval, e6]
              go_simp
              all_goals exact hK'
            · -- 16: slot 61 := Op.indexAddr 26 t59 t60
              refine OwesSE.q rfl fun a w j' u hC hb he hs => ⟨rfl, ?_⟩
              have e59 : a.tmps.getD 59 undef = .slice (some ⟨g, o, none⟩) n3 d3 := hs.dep 14 _ rfl rfl
              have e60 : a.tmps.getD 60 undef = .int .i64 (j : Int) := hs.dep 15 _ rfl rfl
              refine ValWp.pure (v := .pointer (some ⟨g, o + j * 3, none⟩)) (fun K' hK' => ?_) ⟨rfl, rfl⟩
              simp only [ValWp, execOp, Act.eval, e59, e60]
              go_simp
              all_goals exact hK'
            · -- 17: slot 62 := Op.fieldAddr 132 t61 2
              refine OwesSE.q rfl fun a w j' u hC hb he hs => ⟨rfl, ?_⟩
              have e61 : a.tmps.getD 61 undef = .pointer (some ⟨g, o + j * 3, none⟩) := hs.dep 16 _ rfl rfl
              refine ValWp.pure (v := .pointer (some ⟨g, o + j * 3 + 2, none⟩)) (fun K' hK' => ?_) ⟨rfl, rfl⟩
              simp only [ValWp, execOp, Act.eval, e61]
              go_simp
              all_goals exact hK'
            · -- 18: slot 63 := Op.load 3 t62
              refine OwesSE.q rfl fun a w j' u hC hb he hs => ⟨rfl, ?_⟩
              have e62 : a.tmps.getD 62 undef = .pointer (some ⟨g, o + j * 3 + 2, none⟩) := hs.dep 17 _ rfl rfl
              have q0 := HEL2.out j' u w hC
              refine ValWp.pure (v := .int .i64 x3) (fun K' hK' => ?_) ⟨rfl, rfl⟩
              simp only [ValWp, execOp, Act.eval, e62]
              go_simp
              all_goals exact hK'
            · -- 19: slot 64 := Op.build 121 #[(0, t51), (1, t57), (2, t63)]
              refine OwesSE.q rfl fun a w j' u hC hb he hs => ⟨rfl, ?_⟩
              have e51 : a.tmps.getD 51 undef = .string (mkS x1) := hs.dep 6 _ rfl rfl
              have e57 : a.tmps.getD 57 undef = .int .i64 x2 := hs.dep 12 _ rfl rfl
              have e63 : a.tmps.getD 63 undef = .int .i64 x3 := hs.dep 18 _ rfl rfl
              refine ValWp.pure (v := .agg #[.string (mkS x1), .int .i64 x2, .int .i64 x3]) (fun K' hK' => ?_) ⟨rfl, rfl⟩
              simp only [ValWp, execOp, Act.eval, List.map_toArray, List.map_cons, List.map_nil, e51, e57, e63]
              go_simp
              all_goals exact hK'
            · -- 20: slot 65 := Op.buildSlice 51 1 #[(0, t64)]
              refine OwesSE.w rfl fun a w u hC hl hs => ⟨rfl, fun K hK => ?_⟩
              have e64 : a.tmps.getD 64 undef = .agg #[.string (mkS x1), .int .i64 x2, .int .i64 x3] := hs.dep 19 _ rfl rfl
              have hw := hC
              subst hw
              refine wp_of_val ?_
              refine ValWp.pure (v := .slice (some ⟨wr.drew.heap.size, 0, none⟩) 1 1) (w' := wr.drew.alloc (.cells #[.string (mkS x1), .int .i64 x2, .int .i64 x3] 121)) (fun K' hK' => ?_) (hK _ _ rfl rfl)
              simp only [ValWp, execOp, Act.eval, List.map_toArray, List.map_cons, List.map_nil, e64]
              go_simp
              all_goals exact hK'
            · -- 21: slot 66 := Op.call { builtin append, args := #[t45, t65], argTypes := #[51, 51] }
              refine OwesSE.w rfl fun a w u hC hl hs => ⟨rfl, fun K hK => ?_⟩
              have e45 : a.tmps.getD 45 undef = .slice Av j cv := hs.dep 0 _ rfl rfl
              have e65 : a.tmps.getD 65 undef = .slice (some ⟨wr.drew.heap.size, 0, none⟩) 1 1 := hs.dep 20 _ rfl rfl
              have hw := hC
              subst hw
              obtain ⟨v', w', hrun, h3⟩ := HAP.out
              exact owes_append hrun rfl e45 e65 (hK v' w' trivial h3)
            · -- 22: slot 5 := Op.assign t66
              refine OwesSE.w rfl fun a w u hC hl hs => ⟨rfl, fun K hK => ?_⟩
              have e66 : a.tmps.getD 66 undef = u := hl
              have h3 := hC
              refine wp_of_val ?_
              refine ValWp.pure (v := u) (w' := w) (fun K' hK' => ?_) (hK _ _ trivial h3)
              simp only [ValWp, execOp, Act.eval, e66]
              go_simp
              all_goals exact hK'
          · intro a w u hC hl hd hsz hfree hs
            obtain ⟨u45, hu45⟩ : ∃ u, u = a.tmps.getD 45 undef := ⟨_, rfl⟩
            obtain ⟨u46, hu46⟩ : ∃ u, u = a.tmps.getD 46 undef := ⟨_, rfl⟩
            obtain ⟨u47, hu47⟩ : ∃ u, u = a.tmps.getD 47 undef := ⟨_, rfl⟩
            obtain ⟨u48, hu48⟩ : ∃ u, u = a.tmps.getD 48 undef := ⟨_, rfl⟩
            obtain ⟨u49, hu49⟩ : ∃ u, u = a.tmps.getD 49 undef := ⟨_, rfl⟩
            obtain ⟨u50, hu50⟩ : ∃ u, u = a.tmps.getD 50 undef := ⟨_, rfl⟩
            obtain ⟨u51, hu51⟩ : ∃ u, u = a.tmps.getD 51 undef := ⟨_, rfl⟩
            obtain ⟨u52, hu52⟩ : ∃ u, u = a.tmps.getD 52 undef := ⟨_, rfl⟩
            obtain ⟨u53, hu53⟩ : ∃ u, u = a.tmps.getD 53 undef := ⟨_, rfl⟩
            obtain ⟨u54, hu54⟩ : ∃ u, u = a.tmps.getD 54 undef := ⟨_, rfl⟩
            obtain ⟨u55, hu55⟩ : ∃ u, u = a.tmps.getD 55 undef := ⟨_, rfl⟩
            obtain ⟨u56, hu56⟩ : ∃ u, u = a.tmps.getD 56 undef := ⟨_, rfl⟩
            obtain ⟨u57, hu57⟩ : ∃ u, u = a.tmps.getD 57 undef := ⟨_, rfl⟩
            obtain ⟨u58, hu58⟩ : ∃ u, u = a.tmps.getD 58 undef := ⟨_, rfl⟩
            obtain ⟨u59, hu59⟩ : ∃ u, u = a.tmps.getD 59 undef := ⟨_, rfl⟩
            obtain ⟨u60, hu60⟩ : ∃ u, u = a.tmps.getD 60 undef := ⟨_, rfl⟩
            obtain ⟨u61, hu61⟩ : ∃ u, u = a.tmps.getD 61 undef := ⟨_, rfl⟩
            obtain ⟨u62, hu62⟩ : ∃ u, u = a.tmps.getD 62 undef := ⟨_, rfl⟩
            obtain ⟨u63, hu63⟩ : ∃ u, u = a.tmps.getD 63 undef := ⟨_, rfl⟩
            obtain ⟨u64, hu64⟩ : ∃ u, u = a.tmps.getD 64 undef := ⟨_, rfl⟩
            obtain ⟨u65, hu65⟩ : ∃ u, u = a.tmps.getD 65 undef := ⟨_, rfl⟩
            obtain ⟨u66, hu66⟩ : ∃ u, u = a.tmps.getD 66 undef := ⟨_, rfl⟩
            have hal : AllAt a 0 [_, _, _, _, _, u, _, _, _, _, _, _, _, _, _, _, _, _, _, _, _, _, _, _, _, _, _, _, _, _, _, _, _, _, _, _, _, _, _, _, _, _, _, _, _, u45, u46, u47, u48, u49, u50, u51, u52, u53, u54, u55, u56, u57, u58, u59, u60, u61, u62, u63, u64, u65, u66, _, _, _, _, _, _, _, _, _, _, _, _, _, _, _, _, _, _, _, _, _, _, _, _, _, _, _, _, _, _, _, _, _, _, _, _, _, _, _, _, _, _, _, _, _, _, _, _, _, _, _, _, _, _, _, _, _, _, _, _, _, _] := ⟨hfree 0 rfl, hfree 1 rfl, hfree 2 rfl, hfree 3 rfl, hfree 4 rfl, hl, hfree 6 rfl, hfree 7 rfl, hfree 8 rfl, hfree 9 rfl, hfree 10 rfl, hfree 11 rfl, hfree 12 rfl, hfree 13 rfl, hfree 14 rfl, hfree 15 rfl, hfree 16 rfl, hfree 17 rfl, hfree 18 rfl, hfree 19 rfl, hfree 20 rfl, hfree 21 rfl, hfree 22 rfl, hfree 23 rfl, hfree 24 rfl, hfree 25 rfl, hfree 26 rfl, hfree 27 rfl, hfree 28 rfl, hfree 29 rfl, hfree 30 rfl, hfree 31 rfl, hfree 32 rfl, hfree 33 rfl, hfree 34 rfl, hfree 35 rfl, hfree 36 rfl, hfree 37 rfl, hfree 38 rfl, hfree 39 rfl, hfree 40 rfl, hfree 41 rfl, hfree 42 rfl, hfree 43 rfl, hfree 44 rfl, hu45.symm, hu46.symm, hu47.symm, hu48.symm, hu49.symm, hu50.symm, hu51.symm, hu52.symm, hu53.symm, hu54.symm, hu55.symm, hu56.symm, hu57.symm, hu58.symm, hu59.symm, hu60.symm, hu61.symm, hu62.symm, hu63.symm, hu64.symm, hu65.symm, hu66.symm, hfree 67 rfl, hfree 68 rfl, hfree 69 rfl, hfree 70 rfl, hfree 71 rfl, hfree 72 rfl, hfree 73 rfl, hfree 74 rfl, hfree 75 rfl, hfree 76 rfl, hfree 77 rfl, hfree 78 rfl, hfree 79 rfl, hfree 80 rfl, hfree 81 rfl, hfree 82 rfl, hfree 83 rfl, hfree 84 rfl, hfree 85 rfl, hfree 86 rfl, hfree 87 rfl, hfree 88 rfl, hfree 89 rfl, hfree 90 rfl, hfree 91 rfl, hfree 92 rfl, hfree 93 rfl, hfree 94 rfl, hfree 95 rfl, hfree 96 rfl, hfree 97 rfl, hfree 98 rfl, hfree 99 rfl, hfree 100 rfl, hfree 101 rfl, hfree 102 rfl, hfree 103 rfl, hfree 104 rfl, hfree 105 rfl, hfree 106 rfl, hfree 107 rfl, hfree 108 rfl, hfree 109 rfl, hfree 110 rfl, hfree 111 rfl, hfree 112 rfl, hfree 113 rfl, hfree 114 rfl, hfree 115 rfl, hfree 116 rfl, hfree 117 rfl, hfree 118 rfl, hfree 119 rfl, hfree 120 rfl, hfree 121 rfl, hfree 122 rfl, hfree 123 rfl, hfree 124 rfl, hfree 125 rfl, hfree 126 rfl, hfree 127 rfl, hfree 128 rfl, trivial⟩
            have hlit := fun h => act_lit hd h hal
            rw [hlit hsz]
            simp only [Array.getD_eq_getD_getElem?, List.getElem?_toArray, List.getElem?_cons_zero, List.getElem?_cons_succ, Option.getD_some]
            clear hlit hal hd hsz hfree hs hu45 hu46 hu47 hu48 hu49 hu50 hu51 hu52 hu53 hu54 hu55 hu56 hu57 hu58 hu59 hu60 hu61 hu62 hu63 hu64 hu65 hu66
            have HKN := Lib.hid (HPU.out u w hC)
            clear hC hl
            go_wp2
            go_roundw
            case rel => exact ⟨j + 1, by omega, by go_num, HKN⟩
            case measure => simp [intOf]; omega
        · have e : j = n3 := by omega
          rw [e] at HKW ⊢
          have hlt1 : ¬ (n3 : Int) < (n3 : Int) := by omega
          clear e hj hlt
          obtain ⟨v5, hv5⟩ : ∃ x, x = u5 := ⟨_, rfl⟩
          rw [← hv5] at HKW ⊢
          clear hv5
          have HKW2 := HKW
          obtain ⟨wq, hwq⟩ : ∃ x, x = wr := ⟨_, rfl⟩
          rw [← hwq] at HKW HKW2 qb ⊢
          clear hwq HKW
          go_wp2_with fail
          clear qb hlt1
          go_loopw [7, 8] (fun u i wr => ∃ j : Nat, j ≤ n4 ∧ i = .int .i64 (j : Int) ∧ Hid (KW W #[.slice B1 n1 d1, .slice B2 n2 d2, .int .i64 st, .string (mkS fl), .slice B3 n3 d3, .slice B4 n4 d4, .slice B5 n5 d5] k wr v3 v5 u (.slice none 0 0) n1 n3 j 0)) (fun _ i _ => n4 - (intOf i).toNat)
          case atStart => exact ⟨0, Nat.zero_le _, rfl, HKW2⟩
          case round =>
            obtain ⟨j, hj, rfl, HKW⟩ := hrel
            have qb := (cell_row HKW.out.bx 5).1
            simp at qb
            by_cases hlt : j < n4
            · have hj0 : (0 : Int) ≤ (j : Int) := by omega
              have hj1 : (j : Int) < (n4 : Int) := by omega
              have hjl : j < k.traps.length := by rw [← HN2.out]; exact hlt
              obtain ⟨g, o, rfl, hg, hcell⟩ := HR2.out.lie (by omega) (by decide)
              obtain ⟨fs, hfs, hu⟩ := hcell j hjl
              obtain ⟨y, hy⟩ : ∃ y, y = k.traps[j] := ⟨_, rfl⟩
              rw [← hy] at hfs
              obtain ⟨rfl, _⟩ := cT_C hfs
              obtain ⟨x1, x2⟩ := y
              obtain ⟨Av, cv, hv, _⟩ := own_any HKW.out.o7
              subst hv
              have hjn : j ≤ 100000 := by omega
              obtain ⟨i0, hif, hz0, hz1, hz2⟩ := info_parts info_cT
              have HAP := Lib.hid (run_appK (P := Try.prog) wr.drew #[.int .i64 x1, .string (mkS x2)] 2 (by omega) rfl (by intro u hu; simp at hu; rcases hu with rfl | rfl <;> rfl) 52 52 123 i0 _ 24 Try.underlying52 hif hz0 hz1 hz2 rfl (W.heap.size + 2) (.slice Av j cv) j ((k.traps.take j).flatMap cT) (own_below HKW.out.o7 (Later.drew wr)) (by omega) (by omega) (lt_of_block ((HKW.out.later (Later.drew wr)).rs)))
              have HKP := Lib.hid (show ∀ (j' : Nat) (u : Value) (x : World), (fun jj u x => match jj with | 0 => x = wr.drew | 1 => x = wr.drew.alloc (.cells #[.int .i64 x1, .string (mkS x2)] 123) | _ => GrewK wr.drew x (W.heap.size + 2) 123 2 (.slice Av j cv) u (j + 1) ((k.traps.take j).flatMap cT ++ [.int .i64 x1, .string (mkS x2)])) j' u x → Later W x ∧ x.heap[W.heap.size]? = some (.cells #[.slice B1 n1 d1, .slice B2 n2 d2, .int .i64 st, .string (mkS fl), .slice B3 n3 d3, .slice (some ⟨g, o, none⟩) n4 d4, .slice B5 n5 d5] 31 (0, 0)) from fun j' u x hC => by
                match j', hC with
                | 0, hC => rw [show x = wr.drew from hC]; exact ⟨(HKW.out.later (Later.drew wr)).low, (HKW.out.later (Later.drew wr)).bx⟩
                | 1, hC => rw [show x = wr.drew.alloc (.cells #[.int .i64 x1, .string (mkS x2)] 123) from hC]; exact ⟨(HKW.out.later ((Later.drew wr).trans (Later.alloc _ _))).low, (HKW.out.later ((Later.drew wr).trans (Later.alloc _ _))).bx⟩
                | j' + 2, hC => have h9 := (HKW.out.later (Later.drew wr)).push_traps hjl (by rw [← hy]; exact hC); exact ⟨h9.low, h9.bx⟩)
              have HBX := Lib.hid (show ∀ (j' : Nat) (u : Value) (x : World), (fun jj u x => match jj with | 0 => x = wr.drew | 1 => x = wr.drew.alloc (.cells #[.int .i64 x1, .string (mkS x2)] 123) | _ => GrewK wr.drew x (W.heap.size + 2) 123 2 (.slice Av j cv) u (j + 1) ((k.traps.take j).flatMap cT ++ [.int .i64 x1, .string (mkS x2)])) j' u x → x.cell? ⟨W.heap.size, 5, none⟩ = some (.slice (some ⟨g, o, none⟩) n4 d4) from fun j' u x hC => by rw [(cell_row (HKP.out j' u x hC).2 5).1]; rfl)
              have HEL0 := Lib.hid (show ∀ (j' : Nat) (u : Value) (x : World), (fun jj u x => match jj with | 0 => x = wr.drew | 1 => x = wr.drew.alloc (.cells #[.int .i64 x1, .string (mkS x2)] 123) | _ => GrewK wr.drew x (W.heap.size + 2) 123 2 (.slice Av j cv) u (j + 1) ((k.traps.take j).flatMap cT ++ [.int .i64 x1, .string (mkS x2)])) j' u x → x.cell? ⟨g, o + j * 2, none⟩ = some (.int .i64 x1) from fun j' u x hC => ((HKP.out j' u x hC).1.cell (p := ⟨g, o + j * 2, none⟩) hg).trans (hu 0 _ rfl))
              have HEL1 := Lib.hid (show ∀ (j' : Nat) (u : Value) (x : World), (fun jj u x => match jj with | 0 => x = wr.drew | 1 => x = wr.drew.alloc (.cells #[.int .i64 x1, .string (mkS x2)] 123) | _ => GrewK wr.drew x (W.heap.size + 2) 123 2 (.slice Av j cv) u (j + 1) ((k.traps.take j).flatMap cT ++ [.int .i64 x1, .string (mkS x2)])) j' u x → x.cell? ⟨g, o + j * 2 + 1, none⟩ = some (.string (mkS x2)) from fun j' u x hC => ((HKP.out j' u x hC).1.cell (p := ⟨g, o + j * 2 + 1, none⟩) hg).trans (hu 1 _ rfl))
              have HPU := Lib.hid (show ∀ (u : Value) (x : World), GrewK wr.drew x (W.heap.size + 2) 123 2 (.slice Av j cv) u (j + 1) ((k.traps.take j).flatMap cT ++ [.int .i64 x1, .string (mkS x2)]) → KW W #[.slice B1 n1 d1, .slice B2 n2 d2, .int .i64 st, .string (mkS fl), .slice B3 n3 d3, .slice (some ⟨g, o, none⟩) n4 d4, .slice B5 n5 d5] k x v3 v5 u (.slice none 0 0) n1 n3 (j + 1) 0 from fun u x hC => (HKW.out.later (Later.drew wr)).push_traps hjl (by rw [← hy]; exact hC))
              clear hfs hcell hjl hg hy hu hif hz0 hz1 hz2
              go_wp2_with fail
              refine wp_region_seqE (by kernel_rfl) [14, 15, 16] (fun jj u x => match jj with | 0 => x = wr.drew | 1 => x = wr.drew.alloc (.cells #[.int .i64 x1, .string (mkS x2)] 123) | _ => GrewK wr.drew x (W.heap.size + 2) 123 2 (.slice Av j cv) u (j + 1) ((k.traps.take j).flatMap cT ++ [.int .i64 x1, .string (mkS x2)])) [some (.slice Av j cv), some (.pointer (some ⟨W.heap.size, 5, none⟩)), some (.slice (some ⟨g, o, none⟩) n4 d4), some (.int .i64 (j : Int)), some (.pointer (some ⟨g, o + j * 2, none⟩)), some (.pointer (some ⟨g, o + j * 2, none⟩)), some (.int .i64 x1), some (.pointer (some ⟨W.heap.size, 5, none⟩)), some (.slice (some ⟨g, o, none⟩) n4 d4), some (.int .i64 (j : Int)), some (.pointer (some ⟨g, o + j * 2, none⟩)), some (.pointer (some ⟨g, o + j * 2 + 1, none⟩)), some (.string (mkS x2)), some (.agg #[.int .i64 x1, .string (mkS x2)]), some (.slice (some ⟨wr.drew.heap.size, 0, none⟩) 1 1), none, none] (by decide) (by decide) (by kernel_rfl) (by kernel_rfl) 7 (by kernel_rfl) (rfl) ?_ ?_
              · refine ⟨?_, ?_, ?_, ?_, ?_, ?_, ?_, ?_, ?_, ?_, ?_, ?_, ?_, ?_, ?_, ?_, ?_, trivial⟩
                · -- 0: slot 74 := Op.move t7
                  refine OwesSE.q rfl fun a w j' u hC hb he hs => ⟨rfl, ?_⟩
                  have e7 : a.tmps.getD 7 undef = .slice Av j cv := he (by have := hb 2 16 rfl rfl; simp only [List.length_cons, List.length_nil]; omega)
                  refine ValWp.pure (v := .slice Av j cv) (fun K' hK' => ?_) ⟨rfl, rfl⟩
                  simp only [ValWp, execOp, Act.eval, e7]
                  go_simp
                  all_goals exact hK'
                · -- 1: slot 75 := Op.fieldAddr 31 t1 2
                  refine OwesSE.q rfl fun a w j' u hC hb he hs => ⟨rfl, ?_⟩
                  have e1 : a.tmps.getD 1 undef = .pointer (some ⟨W.heap.size, 0, none⟩) := hs.free 1 rfl
                  refine ValWp.pure (v := .pointer (some ⟨W.heap.size, 5, none⟩)) (fun K' hK' => ?_) ⟨rfl, rfl⟩
                  simp only [ValWp, execOp, Act.eval, e1]
                  go_simp
                  all_goals exact hK'
                · -- 2: slot 76 := Op.load 27 t75
                  refine OwesSE.q rfl fun a w j' u hC hb he hs => ⟨rfl, ?_⟩
                  have e75 : a.tmps.getD 75 undef = .pointer (some ⟨W.heap.size, 5, none⟩) := hs.dep 1 _ rfl rfl
                  have q0 := HBX.out j' u w hC
                  refine ValWp.pure (v := .slice (some ⟨g, o, none⟩) n4 d4) (fun K' hK' => ?_) ⟨rfl, rfl⟩
                  simp only [ValWp, execOp, Act.eval, e75]
                  go_simp
                  all_goals exact hK'
                · -- 3: slot 77 := Op.move t8
                  refine OwesSE.q rfl fun a w j' u hC hb he hs => ⟨rfl, ?_⟩
                  have e8 : a.tmps.getD 8 undef = .int .i64 (j : Int) := hs.free 8 rfl
                  refine ValWp.pure (v := .int .i64 (j : Int)) (fun K' hK' => ?_) ⟨rfl, rfl⟩
                  simp only [ValWp, execOp, Act.eval, e8]
                  go_simp
                  all_goals exact hK'
                · -- 4: slot 78 := Op.indexAddr 27 t76 t77
                  refine OwesSE.q rfl fun a w j' u hC hb he hs => ⟨rfl, ?_⟩
                  have e76 : a.tmps.getD 76 undef = .slice (some ⟨g, o, none⟩) n4 d4 := hs.dep 2 _ rfl rfl
                  have e77 : a.tmps.getD 77 undef = .int .i64 (j : Int) := hs.dep 3 _ rfl rfl
                  refine ValWp.pure (v := .pointer (some ⟨g, o + j * 2, none⟩)) (fun K' hK' => ?_) ⟨rfl, rfl⟩
                  simp only [ValWp, execOp, Act.eval, e76, e77]
                  go_simp
                  all_goals exact hK'
                · -- 5: slot 79 := Op.fieldAddr 133 t78 0
                  refine OwesSE.q rfl fun a w j' u hC hb he hs => ⟨rfl, ?_⟩
                  have e78 : a.tmps.getD 78 undef = .pointer (some ⟨g, o + j * 2, none⟩) := hs.dep 4 _ rfl rfl
                  refine ValWp.pure (v := .pointer (some ⟨g, o + j * 2, none⟩)) (fun K' hK' => ?_) ⟨rfl, rfl⟩
                  simp only [ValWp, execOp, Act.eval, e78]
                  go_simp
                  all_goals exact hK'
                · -- 6: slot 80 := Op.load 3 t79
                  refine OwesSE.q rfl fun a w j' u hC hb he hs => ⟨rfl, ?_⟩
                  have e79 : a.tmps.getD 79 undef = .pointer (some ⟨g, o + j * 2, none⟩) := hs.dep 5 _ rfl rfl
                  have q0 := HEL0.out j' u w hC
                  refine ValWp.pure (v := .int .i64 x1) (fun K' hK' => ?_) ⟨rfl, rfl⟩
                  simp only [ValWp, execOp, Act.eval, e79]
                  go_simp
                  all_goals exact hK'
                · -- 7: slot 81 := Op.fieldAddr 31 t1 2
                  refine OwesSE.q rfl fun a w j' u hC hb he hs => ⟨rfl, ?_⟩
                  have e1 : a.tmps.getD 1 undef = .pointer (some ⟨W.heap.size, 0, none⟩) := hs.free 1 rfl
                  refine ValWp.pure (v := .pointer (some ⟨W.heap.size, 5, none⟩)) (fun K' hK' => ?_) ⟨rfl, rfl⟩
                  simp only [ValWp, execOp, Act.eval, e1]
                  go_simp
                  all_goals exact hK'
                · -- 8: slot 82 := Op.load 27 t81
                  refine OwesSE.q rfl fun a w j' u hC hb he hs => ⟨rfl, ?_⟩
                  have e81 : a.tmps.getD 81 undef = .pointer (some ⟨W.heap.size, 5, none⟩) := hs.dep 7 _ rfl rfl
                  have q0 := HBX.out j' u w hC
                  refine ValWp.pure (v := .slice (some ⟨g, o, none⟩) n4 d4) (fun K' hK' => ?_) ⟨rfl, rfl⟩
                  simp only [ValWp, execOp, Act.eval, e81]
                  go_simp
                  all_goals exact hK'
                · -- 9: slot 83 := Op.move t8
                  refine OwesSE.q rfl fun a w j' u hC hb he hs => ⟨rfl, ?_⟩
                  have e8 : a.tmps.getD 8 undef = .int .i64 (j : Int) := hs.free 8 rfl
                  refine ValWp.pure (v := .int .i64 (j : Int)) (fun K' hK' => ?_) ⟨rfl, rfl⟩
                  simp only [ValWp, execOp, Act.eval, e8]
                  go_simp
                  all_goals exact hK'
                · -- 10: slot 84 := Op.indexAddr 27 t82 t83
                  refine OwesSE.q rfl fun a w j' u hC hb he hs => ⟨rfl, ?_⟩
                  have e82 : a.tmps.getD 82 undef = .slice (some ⟨g, o, none⟩) n4 d4 := hs.dep 8 _ rfl rfl
                  have e83 : a.tmps.getD 83 undef = .int .i64 (j : Int) := hs.dep 9 _ rfl rfl
                  refine ValWp.pure (v := .pointer (some ⟨g, o + j * 2, none⟩)) (fun K' hK' => ?_) ⟨rfl, rfl⟩
                  simp only [ValWp, execOp, Act.eval, e82, e83]
                  go_simp
                  all_goals exact hK'
                · -- 11: slot 85 := Op.fieldAddr 133 t84 1
                  refine OwesSE.q rfl fun a w j' u hC hb he hs => ⟨rfl, ?_⟩
                  have e84 : a.tmps.getD 84 undef = .pointer (some ⟨g, o + j * 2, none⟩) := hs.dep 10 _ rfl rfl
                  refine ValWp.pure (v := .pointer (some ⟨g, o + j * 2 + 1, none⟩)) (fun K' hK' => ?_) ⟨rfl, rfl⟩
                  simp only [ValWp, execOp, Act.eval, e84]
                  go_simp
                  all_goals exact hK'
                · -- 12: slot 86 := Op.load 9 t85
                  refine OwesSE.q rfl fun a w j' u hC hb he hs => ⟨rfl, ?_⟩
                  have e85 : a.tmps.getD 85 undef = .pointer (some ⟨g, o + j * 2 + 1, none⟩) := hs.dep 11 _ rfl rfl
                  have q0 := HEL1.out j' u w hC
                  refine ValWp.pure (v := .string (mkS x2)) (fun K' hK' => ?_) ⟨rfl, rfl⟩
                  simp only [ValWp, execOp, Act.eval, e85]
                  go_simp
                  all_goals exact hK'
                · -- 13: slot 87 := Op.build 123 #[(0, t80), (1, t86)]
                  refine OwesSE.q rfl fun a w j' u hC hb he hs => ⟨rfl, ?_⟩
                  have e80 : a.tmps.getD 80 undef = .int .i64 x1 := hs.dep 6 _ rfl rfl
                  have e86 : a.tmps.getD 86 undef = .string (mkS x2) := hs.dep 12 _ rfl rfl
                  refine ValWp.pure (v := .agg #[.int .i64 x1, .string (mkS x2)]) (fun K' hK' => ?_) ⟨rfl, rfl⟩
                  simp only [ValWp, execOp, Act.eval, List.map_toArray, List.map_cons, List.map_nil, e80, e86]
                  go_simp
                  all_goals exact hK'
                · -- 14: slot 88 := Op.buildSlice 52 1 #[(0, t87)]
                  refine OwesSE.w rfl fun a w u hC hl hs => ⟨rfl, fun K hK => ?_⟩
                  have e87 : a.tmps.getD 87 undef = .agg #[.int .i64 x1, .string (mkS x2)] := hs.dep 13 _ rfl rfl
                  have hw := hC
                  subst hw
                  refine wp_of_val ?_
                  refine ValWp.pure (v := .slice (some ⟨wr.drew.heap.size, 0, none⟩) 1 1) (w' := wr.drew.alloc (.cells #[.int .i64 x1, .string (mkS x2)] 123)) (fun K' hK' => ?_) (hK _ _ rfl rfl)
                  simp only [ValWp, execOp, Act.eval, List.map_toArray, List.map_cons, List.map_nil, e87]
                  go_simp
                  all_goals exact hK'
                · -- 15: slot 89 := Op.call { builtin append, args := #[t74, t88], argTypes := #[52, 52] }
                  refine OwesSE.w rfl fun a w u hC hl hs => ⟨rfl, fun K hK => ?_⟩
                  have e74 : a.tmps.getD 74 undef = .slice Av j cv := hs.dep 0 _ rfl rfl
                  have e88 : a.tmps.getD 88 undef = .slice (some ⟨wr.drew.heap.size, 0, none⟩) 1 1 := hs.dep 14 _ rfl rfl
                  have hw := hC
                  subst hw
                  obtain ⟨v', w', hrun, h3⟩ := HAP.out
                  exact owes_append hrun rfl e74 e88 (hK v' w' trivial h3)
                · -- 16: slot 7 := Op.assign t89
                  refine OwesSE.w rfl fun a w u hC hl hs => ⟨rfl, fun K hK => ?_⟩
                  have e89 : a.tmps.getD 89 undef = u := hl
                  have h3 := hC
                  refine wp_of_val ?_
                  refine ValWp.pure (v := u) (w' := w) (fun K' hK' => ?_) (hK _ _ trivial h3)
                  simp only [ValWp, execOp, Act.eval, e89]
                  go_simp
                  all_goals exact hK'
              · intro a w u hC hl hd hsz hfree hs
                obtain ⟨u74, hu74⟩ : ∃ u, u = a.tmps.getD 74 undef := ⟨_, rfl⟩
                obtain ⟨u75, hu75⟩ : ∃ u, u = a.tmps.getD 75 undef := ⟨_, rfl⟩
                obtain ⟨u76, hu76⟩ : ∃ u, u = a.tmps.getD 76 undef := ⟨_, rfl⟩
                obtain ⟨u77, hu77⟩ : ∃ u, u = a.tmps.getD 77 undef := ⟨_, rfl⟩
                obtain ⟨u78, hu78⟩ : ∃ u, u = a.tmps.getD 78 undef := ⟨_, rfl⟩
                obtain ⟨u79, hu79⟩ : ∃ u, u = a.tmps.getD 79 undef := ⟨_, rfl⟩
                obtain ⟨u80, hu80⟩ : ∃ u, u = a.tmps.getD 80 undef := ⟨_, rfl⟩
                obtain ⟨u81, hu81⟩ : ∃ u, u = a.tmps.getD 81 undef := ⟨_, rfl⟩
                obtain ⟨u82, hu82⟩ : ∃ u, u = a.tmps.getD 82 undef := ⟨_, rfl⟩
                obtain ⟨u83, hu83⟩ : ∃ u, u = a.tmps.getD 83 undef := ⟨_, rfl⟩
                obtain ⟨u84, hu84⟩ : ∃ u, u = a.tmps.getD 84 undef := ⟨_, rfl⟩
                obtain ⟨u85, hu85⟩ : ∃ u, u = a.tmps.getD 85 undef := ⟨_, rfl⟩
                obtain ⟨u86, hu86⟩ : ∃ u, u = a.tmps.getD 86 undef := ⟨_, rfl⟩
                obtain ⟨u87, hu87⟩ : ∃ u, u = a.tmps.getD 87 undef := ⟨_, rfl⟩
                obtain ⟨u88, hu88⟩ : ∃ u, u = a.tmps.getD 88 undef := ⟨_, rfl⟩
                obtain ⟨u89, hu89⟩ : ∃ u, u = a.tmps.getD 89 undef := ⟨_, rfl⟩
                have hal : AllAt a 0 [_, _, _, _, _, _, _, u, _, _, _, _, _, _, _, _, _, _, _, _, _, _, _, _, _, _, _, _, _, _, _, _, _, _, _, _, _, _, _, _, _, _, _, _, _, _, _, _, _, _, _, _, _, _, _, _, _, _, _, _, _, _, _, _, _, _, _, _, _, _, _, _, _, _, u74, u75, u76, u77, u78, u79, u80, u81, u82, u83, u84, u85, u86, u87, u88, u89, _, _, _, _, _, _, _, _, _, _, _, _, _, _, _, _, _, _, _, _, _, _, _, _, _, _, _, _, _, _, _, _, _, _, _, _, _, _, _] := ⟨hfree 0 rfl, hfree 1 rfl, hfree 2 rfl, hfree 3 rfl, hfree 4 rfl, hfree 5 rfl, hfree 6 rfl, hl, hfree 8 rfl, hfree 9 rfl, hfree 10 rfl, hfree 11 rfl, hfree 12 rfl, hfree 13 rfl, hfree 14 rfl, hfree 15 rfl, hfree 16 rfl, hfree 17 rfl, hfree 18 rfl, hfree 19 rfl, hfree 20 rfl, hfree 21 rfl, hfree 22 rfl, hfree 23 rfl, hfree 24 rfl, hfree 25 rfl, hfree 26 rfl, hfree 27 rfl, hfree 28 rfl, hfree 29 rfl, hfree 30 rfl, hfree 31 rfl, hfree 32 rfl, hfree 33 rfl, hfree 34 rfl, hfree 35 rfl, hfree 36 rfl, hfree 37 rfl, hfree 38 rfl, hfree 39 rfl, hfree 40 rfl, hfree 41 rfl, hfree 42 rfl, hfree 43 rfl, hfree 44 rfl, hfree 45 rfl, hfree 46 rfl, hfree 47 rfl, hfree 48 rfl, hfree 49 rfl, hfree 50 rfl, hfree 51 rfl, hfree 52 rfl, hfree 53 rfl, hfree 54 rfl, hfree 55 rfl, hfree 56 rfl, hfree 57 rfl, hfree 58 rfl, hfree 59 rfl, hfree 60 rfl, hfree 61 rfl, hfree 62 rfl, hfree 63 rfl, hfree 64 rfl, hfree 65 rfl, hfree 66 rfl, hfree 67 rfl, hfree 68 rfl, hfree 69 rfl, hfree 70 rfl, hfree 71 rfl, hfree 72 rfl, hfree 73 rfl, hu74.symm, hu75.symm, hu76.symm, hu77.symm, hu78.symm, hu79.symm, hu80.symm, hu81.symm, hu82.symm, hu83.symm, hu84.symm, hu85.symm, hu86.symm, hu87.symm, hu88.symm, hu89.symm, hfree 90 rfl, hfree 91 rfl, hfree 92 rfl, hfree 93 rfl, hfree 94 rfl, hfree 95 rfl, hfree 96 rfl, hfree 97 rfl, hfree 98 rfl, hfree 99 rfl, hfree 100 rfl, hfree 101 rfl, hfree 102 rfl, hfree 103 rfl, hfree 104 rfl, hfree 105 rfl, hfree 106 rfl, hfree 107 rfl, hfree 108 rfl, hfree 109 rfl, hfree 110 rfl, hfree 111 rfl, hfree 112 rfl, hfree 113 rfl, hfree 114 rfl, hfree 115 rfl, hfree 116 rfl, hfree 117 rfl, hfree 118 rfl, hfree 119 rfl, hfree 120 rfl, hfree 121 rfl, hfree 122 rfl, hfree 123 rfl, hfree 124 rfl, hfree 125 rfl, hfree 126 rfl, hfree 127 rfl, hfree 128 rfl, trivial⟩
                have hlit := fun h => act_lit hd h hal
                rw [hlit hsz]
                simp only [Array.getD_eq_getD_getElem?, List.getElem?_toArray, List.getElem?_cons_zero, List.getElem?_cons_succ, Option.getD_some]
                clear hlit hal hd hsz hfree hs hu74 hu75 hu76 hu77 hu78 hu79 hu80 hu81 hu82 hu83 hu84 hu85 hu86 hu87 hu88 hu89
                have HKN := Lib.hid (HPU.out u w hC)
                clear hC hl
                go_wp2
                go_roundw
                case rel => exact ⟨j + 1, by omega, by go_num, HKN⟩
                case measure => simp [intOf]; omega
            · have e : j = n4 := by omega
              rw [e] at HKW ⊢
              have hlt1 : ¬ (n4 : Int) < (n4 : Int) := by omega
              clear e hj hlt
              obtain ⟨v7, hv7⟩ : ∃ x, x = u7 := ⟨_, rfl⟩
              rw [← hv7] at HKW ⊢
              clear hv7
              have HKW3 := HKW
              obtain ⟨wq, hwq⟩ : ∃ x, x = wr := ⟨_, rfl⟩
              rw [← hwq] at HKW HKW3 qb ⊢
              clear hwq HKW
              go_wp2_with fail
              clear qb hlt1
              go_loopw [9, 10] (fun u i wr => ∃ j : Nat, j ≤ n5 ∧ i = .int .i64 (j : Int) ∧ Hid (KW W #[.slice B1 n1 d1, .slice B2 n2 d2, .int .i64 st, .string (mkS fl), .slice B3 n3 d3, .slice B4 n4 d4, .slice B5 n5 d5] k wr v3 v5 v7 u n1 n3 n4 j)) (fun _ i _ => n5 - (intOf i).toNat)
              case atStart => exact ⟨0, Nat.zero_le _, rfl, HKW3⟩
              case round =>
                obtain ⟨j, hj, rfl, HKW⟩ := hrel
                have qb := (cell_row HKW.out.bx 6).1
                simp at qb
                by_cases hlt : j < n5
                · have hj0 : (0 : Int) ≤ (j : Int) := by omega
                  have hj1 : (j : Int) < (n5 : Int) := by omega
                  have hjl : j < k.fds.length := by rw [← HN3.out]; exact hlt
                  obtain ⟨g, o, rfl, hg, hcell⟩ := HR3.out.lie (by omega) (by decide)
                  obtain ⟨fs, hfs, hu⟩ := hcell j hjl
                  obtain ⟨y, hy⟩ : ∃ y, y = k.fds[j] := ⟨_, rfl⟩
                  rw [← hy] at hfs
                  obtain ⟨rfl, _⟩ := cP_C hfs
                  obtain ⟨x1, x2⟩ := y
                  obtain ⟨Av, cv, hv, _⟩ := own_any HKW.out.o9
                  subst hv
                  have hjn : j ≤ 100000 := by omega
                  obtain ⟨i0, hif, hz0, hz1, hz2⟩ := info_parts info_cP
                  have HAP := Lib.hid (run_appK (P := Try.prog) wr.drew #[.int .i64 x1, .int .i64 x2] 2 (by omega) rfl (by intro u hu; simp at hu; rcases hu with rfl | rfl <;> rfl) 53 53 125 i0 _ 16 Try.underlying53 hif hz0 hz1 hz2 rfl (W.heap.size + 2) (.slice Av j cv) j ((k.fds.take j).flatMap cP) (own_below HKW.out.o9 (Later.drew wr)) (by omega) (by omega) (lt_of_block ((HKW.out.later (Later.drew wr)).rs)))
                  have HKP := Lib.hid (show ∀ (j' : Nat) (u : Value) (x : World), (fun jj u x => match jj with | 0 => x = wr.drew | 1 => x = wr.drew.alloc (.cells #[.int .i64 x1, .int .i64 x2] 125) | _ => GrewK wr.drew x (W.heap.size + 2) 125 2 (.slice Av j cv) u (j + 1) ((k.fds.take j).flatMap cP ++ [.int .i64 x1, .int .i64 x2])) j' u x → Later W x ∧ x.heap[W.heap.size]? = some (.cells #[.slice B1 n1 d1, .slice B2 n2 d2, .int .i64 st, .string (mkS fl), .slice B3 n3 d3, .slice B4 n4 d4, .slice (some ⟨g, o, none⟩) n5 d5] 31 (0, 0)) from fun j' u x hC => by
                    match j', hC with
                    | 0, hC => rw [show x = wr.drew from hC]; exact ⟨(HKW.out.later (Later.drew wr)).low, (HKW.out.later (Later.drew wr)).bx⟩
                    | 1, hC => rw [show x = wr.drew.alloc (.cells #[.int .i64 x1, .int .i64 x2] 125) from hC]; exact ⟨(HKW.out.later ((Later.drew wr).trans (Later.alloc _ _))).low, (HKW.out.later ((Later.drew wr).trans (Later.alloc _ _))).bx⟩
                    | j' + 2, hC => have h9 := (HKW.out.later (Later.drew wr)).push_fds hjl (by rw [← hy]; exact hC); exact ⟨h9.low, h9.bx⟩)
                  have HBX := Lib.hid (show ∀ (j' : Nat) (u : Value) (x : World), (fun jj u x => match jj with | 0 => x = wr.drew | 1 => x = wr.drew.alloc (.cells #[.int .i64 x1, .int .i64 x2] 125) | _ => GrewK wr.drew x (W.heap.size + 2) 125 2 (.slice Av j cv) u (j + 1) ((k.fds.take j).flatMap cP ++ [.int .i64 x1, .int .i64 x2])) j' u x → x.cell? ⟨W.heap.size, 6, none⟩ = some (.slice (some ⟨g, o, none⟩) n5 d5) from fun j' u x hC => by rw [(cell_row (HKP.out j' u x hC).2 6).1]; rfl)
                  have HEL0 := Lib.hid (show ∀ (j' : Nat) (u : Value) (x : World), (fun jj u x => match jj with | 0 => x = wr.drew | 1 => x = wr.drew.alloc (.cells #[.int .i64 x1, .int .i64 x2] 125) | _ => GrewK wr.drew x (W.heap.size + 2) 125 2 (.slice Av j cv) u (j + 1) ((k.fds.take j).flatMap cP ++ [.int .i64 x1, .int .i64 x2])) j' u x → x.cell? ⟨g, o + j * 2, none⟩ = some (.int .i64 x1) from fun j' u x hC => ((HKP.out j' u x hC).1.cell (p := ⟨g, o + j * 2, none⟩) hg).trans (hu 0 _ rfl))
                  have HEL1 := Lib.hid (show ∀ (j' : Nat) (u : Value) (x : World), (fun jj u x => match jj with | 0 => x = wr.drew | 1 => x = wr.drew.alloc (.cells #[.int .i64 x1, .int .i64 x2] 125) | _ => GrewK wr.drew x (W.heap.size + 2) 125 2 (.slice Av j cv) u (j + 1) ((k.fds.take j).flatMap cP ++ [.int .i64 x1, .int .i64 x2])) j' u x → x.cell? ⟨g, o + j * 2 + 1, none⟩ = some (.int .i64 x2) from fun j' u x hC => ((HKP.out j' u x hC).1.cell (p := ⟨g, o + j * 2 + 1, none⟩) hg).trans (hu 1 _ rfl))
                  have HPU := Lib.hid (show ∀ (u : Value) (x : World), GrewK wr.drew x (W.heap.size + 2) 125 2 (.slice Av j cv) u (j + 1) ((k.fds.take j).flatMap cP ++ [.int .i64 x1, .int .i64 x2]) → KW W #[.slice B1 n1 d1, .slice B2 n2 d2, .int .i64 st, .string (mkS fl), .slice B3 n3 d3, .slice B4 n4 d4, .slice (some ⟨g, o, none⟩) n5 d5] k x v3 v5 v7 u n1 n3 n4 (j + 1) from fun u x hC => (HKW.out.later (Later.drew wr)).push_fds hjl (by rw [← hy]; exact hC))
                  clear hfs hcell hjl hg hy hu hif hz0 hz1 hz2
                  go_wp2_with fail
                  refine wp_region_seqE (by kernel_rfl) [14, 15, 16] (fun jj u x => match jj with | 0 => x = wr.drew | 1 => x = wr.drew.alloc (.cells #[.int .i64 x1, .int .i64 x2] 125) | _ => GrewK wr.drew x (W.heap.size + 2) 125 2 (.slice Av j cv) u (j + 1) ((k.fds.take j).flatMap cP ++ [.int .i64 x1, .int .i64 x2])) [some (.slice Av j cv), some (.pointer (some ⟨W.heap.size, 6, none⟩)), some (.slice (some ⟨g, o, none⟩) n5 d5), some (.int .i64 (j : Int)), some (.pointer (some ⟨g, o + j * 2, none⟩)), some (.pointer (some ⟨g, o + j * 2, none⟩)), some (.int .i64 x1), some (.pointer (some ⟨W.heap.size, 6, none⟩)), some (.slice (some ⟨g, o, none⟩) n5 d5), some (.int .i64 (j : Int)), some (.pointer (some ⟨g, o + j * 2, none⟩)), some (.pointer (some ⟨g, o + j * 2 + 1, none⟩)), some (.int .i64 x2), some (.agg #[.int .i64 x1, .int .i64 x2]), some (.slice (some ⟨wr.drew.heap.size, 0, none⟩) 1 1), none, none] (by decide) (by decide) (by kernel_rfl) (by kernel_rfl) 9 (by kernel_rfl) (rfl) ?_ ?_
                  · refine ⟨?_, ?_, ?_, ?_, ?_, ?_, ?_, ?_, ?_, ?_, ?_, ?_, ?_, ?_, ?_, ?_, ?_, trivial⟩
                    · -- 0: slot 97 := Op.move t9
                      refine OwesSE.q rfl fun a w j' u hC hb he hs => ⟨rfl, ?_⟩
                      have e9 : a.tmps.getD 9 undef = .slice Av j cv := he (by have := hb 2 16 rfl rfl; simp only [List.length_cons, List.length_nil]; omega)
                      refine ValWp.pure (v := .slice Av j cv) (fun K' hK' => ?_) ⟨rfl, rfl⟩
                      simp only [ValWp, execOp, Act.eval, e9]
                      go_simp
                      all_goals exact hK'
                    · -- 1: slot 98 := Op.fieldAddr 31 t1 3
                      refine OwesSE.q rfl fun a w j' u hC hb he hs => ⟨rfl, ?_⟩
                      have e1 : a.tmps.getD 1 undef = .pointer (some ⟨W.heap.size, 0, none⟩) := hs.free 1 rfl
                      refine ValWp.pure (v := .pointer (some ⟨W.heap.size, 6, none⟩)) (fun K' hK' => ?_) ⟨rfl, rfl⟩
                      simp only [ValWp, execOp, Act.eval, e1]
                      go_simp
                      all_goals exact hK'
                    · -- 2: slot 99 := Op.load 29 t98
                      refine OwesSE.q rfl fun a w j' u hC hb he hs => ⟨rfl, ?_⟩
                      have e98 : a.tmps.getD 98 undef = .pointer (some ⟨W.heap.size, 6, none⟩) := hs.dep 1 _ rfl rfl
                      have q0 := HBX.out j' u w hC
                      refine ValWp.pure (v := .slice (some ⟨g, o, none⟩) n5 d5) (fun K' hK' => ?_) ⟨rfl, rfl⟩
                      simp only [ValWp, execOp, Act.eval, e98]
                      go_simp
                      all_goals exact hK'
                    · -- 3: slot 100 := Op.move t10
                      refine OwesSE.q rfl fun a w j' u hC hb he hs => ⟨rfl, ?_⟩
                      have e10 : a.tmps.getD 10 undef = .int .i64 (j : Int) := hs.free 10 rfl
                      refine ValWp.pure (v := .int .i64 (j : Int)) (fun K' hK' => ?_) ⟨rfl, rfl⟩
                      simp only [ValWp, execOp, Act.eval, e10]
                      go_simp
                      all_goals exact hK'
                    · -- 4: slot 101 := Op.indexAddr 29 t99 t100
                      refine OwesSE.q rfl fun a w j' u hC hb he hs => ⟨rfl, ?_⟩
                      have e99 : a.tmps.getD 99 undef = .slice (some ⟨g, o, none⟩) n5 d5 := hs.dep 2 _ rfl rfl
                      have e100 : a.tmps.getD 100 undef = .int .i64 (j : Int) := hs.dep 3 _ rfl rfl
                      refine ValWp.pure (v := .pointer (some ⟨g, o + j * 2, none⟩)) (fun K' hK' => ?_) ⟨rfl, rfl⟩
                      simp only [ValWp, execOp, Act.eval, e99, e100]
                      go_simp
                      all_goals exact hK'
                    · -- 5: slot 102 := Op.fieldAddr 134 t101 0
                      refine OwesSE.q rfl fun a w j' u hC hb he hs => ⟨rfl, ?_⟩
                      have e101 : a.tmps.getD 101 undef = .pointer (some ⟨g, o + j * 2, none⟩) := hs.dep 4 _ rfl rfl
                      refine ValWp.pure (v := .pointer (some ⟨g, o + j * 2, none⟩)) (fun K' hK' => ?_) ⟨rfl, rfl⟩
                      simp only [ValWp, execOp, Act.eval, e101]
                      go_simp
                      all_goals exact hK'
                    · -- 6: slot 103 := Op.load 3 t102
                      refine OwesSE.q rfl fun a w j' u hC hb he hs => ⟨rfl, ?_⟩
                      have e102 : a.tmps.getD 102 undef = .pointer (some ⟨g, o + j * 2, none⟩) := hs.dep 5 _ rfl rfl
                      have q0 := HEL0.out j' u w hC
                      refine ValWp.pure (v := .int .i64 x1) (fun K' hK' => ?_) ⟨rfl, rfl⟩
                      simp only [ValWp, execOp, Act.eval, e102]
                      go_simp
                      all_goals exact hK'
                    · -- 7: slot 104 := Op.fieldAddr 31 t1 3
                      refine OwesSE.q rfl fun a w j' u hC hb he hs => ⟨rfl, ?_⟩
                      have e1 : a.tmps.getD 1 undef = .pointer (some ⟨W.heap.size, 0, none⟩) := hs.free 1 rfl
                      refine ValWp.pure (v := .pointer (some ⟨W.heap.size, 6, none⟩)) (fun K' hK' => ?_) ⟨rfl, rfl⟩
                      simp only [ValWp, execOp, Act.eval, e1]
                      go_simp
                      all_goals exact hK'
                    · -- 8: slot 105 := Op.load 29 t104
                      refine OwesSE.q rfl fun a w j' u hC hb he hs => ⟨rfl, ?_⟩
                      have e104 : a.tmps.getD 104 undef = .pointer (some ⟨W.heap.size, 6, none⟩) := hs.dep 7 _ rfl rfl
                      have q0 := HBX.out j' u w hC
                      refine ValWp.pure (v := .slice (some ⟨g, o, none⟩) n5 d5) (fun K' hK' => ?_) ⟨rfl, rfl⟩
                      simp only [ValWp, execOp, Act.eval, e104]
                      go_simp
                      all_goals exact hK'
                    · -- 9: slot 106 := Op.move t10
                      refine OwesSE.q rfl fun a w j' u hC hb he hs => ⟨rfl, ?_⟩
                      have e10 : a.tmps.getD 10 undef = .int .i64 (j : Int) := hs.free 10 rfl
                      refine ValWp.pure (v := .int .i64 (j : Int)) (fun K' hK' => ?_) ⟨rfl, rfl⟩
                      simp only [ValWp, execOp, Act.eval, e10]
                      go_simp
                      all_goals exact hK'
                    · -- 10: slot 107 := Op.indexAddr 29 t105 t106
                      refine OwesSE.q rfl fun a w j' u hC hb he hs => ⟨rfl, ?_⟩
                      have e105 : a.tmps.getD 105 undef = .slice (some ⟨g, o, none⟩) n5 d5 := hs.dep 8 _ rfl rfl
                      have e106 : a.tmps.getD 106 undef = .int .i64 (j : Int) := hs.dep 9 _ rfl rfl
                      refine ValWp.pure (v := .pointer (some ⟨g, o + j * 2, none⟩)) (fun K' hK' => ?_) ⟨rfl, rfl⟩
                      simp only [ValWp, execOp, Act.eval, e105, e106]
                      go_simp
                      all_goals exact hK'
                    · -- 11: slot 108 := Op.fieldAddr 134 t107 1
                      refine OwesSE.q rfl fun a w j' u hC hb he hs => ⟨rfl, ?_⟩
                      have e107 : a.tmps.getD 107 undef = .pointer (some ⟨g, o + j * 2, none⟩) := hs.dep 10 _ rfl rfl
                      refine ValWp.pure (v := .pointer (some ⟨g, o + j * 2 + 1, none⟩)) (fun K' hK' => ?_) ⟨rfl, rfl⟩
                      simp only [ValWp, execOp, Act.eval, e107]
                      go_simp
                      all_goals exact hK'
                    · -- 12: slot 109 := Op.load 2 t108
                      refine OwesSE.q rfl fun a w j' u hC hb he hs => ⟨rfl, ?_⟩
                      have e108 : a.tmps.getD 108 undef = .pointer (some ⟨g, o + j * 2 + 1, none⟩) := hs.dep 11 _ rfl rfl
                      have q0 := HEL1.out j' u w hC
                      refine ValWp.pure (v := .int .i64 x2) (fun K' hK' => ?_) ⟨rfl, rfl⟩
                      simp only [ValWp, execOp, Act.eval, e108]
                      go_simp
                      all_goals exact hK'
                    · -- 13: slot 110 := Op.build 125 #[(0, t103), (1, t109)]
                      refine OwesSE.q rfl fun a w j' u hC hb he hs => ⟨rfl, ?_⟩
                      have e103 : a.tmps.getD 103 undef = .int .i64 x1 := hs.dep 6 _ rfl rfl
                      have e109 : a.tmps.getD 109 undef = .int .i64 x2 := hs.dep 12 _ rfl rfl
                      refine ValWp.pure (v := .agg #[.int .i64 x1, .int .i64 x2]) (fun K' hK' => ?_) ⟨rfl, rfl⟩
                      simp only [ValWp, execOp, Act.eval, List.map_toArray, List.map_cons, List.map_nil, e103, e109]
                      go_simp
                      all_goals exact hK'
                    · -- 14: slot 111 := Op.buildSlice 53 1 #[(0, t110)]
                      refine OwesSE.w rfl fun a w u hC hl hs => ⟨rfl, fun K hK => ?_⟩
                      have e110 : a.tmps.getD 110 undef = .agg #[.int .i64 x1, .int .i64 x2] := hs.dep 13 _ rfl rfl
                      have hw := hC
                      subst hw
                      refine wp_of_val ?_
                      refine ValWp.pure (v := .slice (some ⟨wr.drew.heap.size, 0, none⟩) 1 1) (w' := wr.drew.alloc (.cells #[.int .i64 x1, .int .i64 x2] 125)) (fun K' hK' => ?_) (hK _ _ rfl rfl)
                      simp only [ValWp, execOp, Act.eval, List.map_toArray, List.map_cons, List.map_nil, e110]
                      go_simp
                      all_goals exact hK'
                    · -- 15: slot 112 := Op.call { builtin append, args := #[t97, t111], argTypes := #[53, 53] }
                      refine OwesSE.w rfl fun a w u hC hl hs => ⟨rfl, fun K hK => ?_⟩
                      have e97 : a.tmps.getD 97 undef = .slice Av j cv := hs.dep 0 _ rfl rfl
                      have e111 : a.tmps.getD 111 undef = .slice (some ⟨wr.drew.heap.size, 0, none⟩) 1 1 := hs.dep 14 _ rfl rfl
                      have hw := hC
                      subst hw
                      obtain ⟨v', w', hrun, h3⟩ := HAP.out
                      exact owes_append hrun rfl e97 e111 (hK v' w' trivial h3)
                    · -- 16: slot 9 := Op.assign t112
                      refine OwesSE.w rfl fun a w u hC hl hs => ⟨rfl, fun K hK => ?_⟩
                      have e112 : a.tmps.getD 112 undef = u := hl
                      have h3 := hC
                      refine wp_of_val ?_
                      refine ValWp.pure (v := u) (w' := w) (fun K' hK' => ?_) (hK _ _ trivial h3)
                      simp only [ValWp, execOp, Act.eval, e112]
                      go_simp
                      all_goals exact hK'
                  · intro a w u hC hl hd hsz hfree hs
                    obtain ⟨u97, hu97⟩ : ∃ u, u = a.tmps.getD 97 undef := ⟨_, rfl⟩
                    obtain ⟨u98, hu98⟩ : ∃ u, u = a.tmps.getD 98 undef := ⟨_, rfl⟩
                    obtain ⟨u99, hu99⟩ : ∃ u, u = a.tmps.getD 99 undef := ⟨_, rfl⟩
                    obtain ⟨u100, hu100⟩ : ∃ u, u = a.tmps.getD 100 undef := ⟨_, rfl⟩
                    obtain ⟨u101, hu101⟩ : ∃ u, u = a.tmps.getD 101 undef := ⟨_, rfl⟩
                    obtain ⟨u102, hu102⟩ : ∃ u, u = a.tmps.getD 102 undef := ⟨_, rfl⟩
                    obtain ⟨u103, hu103⟩ : ∃ u, u = a.tmps.getD 103 undef := ⟨_, rfl⟩
                    obtain ⟨u104, hu104⟩ : ∃ u, u = a.tmps.getD 104 undef := ⟨_, rfl⟩
                    obtain ⟨u105, hu105⟩ : ∃ u, u = a.tmps.getD 105 undef := ⟨_, rfl⟩
                    obtain ⟨u106, hu106⟩ : ∃ u, u = a.tmps.getD 106 undef := ⟨_, rfl⟩
                    obtain ⟨u107, hu107⟩ : ∃ u, u = a.tmps.getD 107 undef := ⟨_, rfl⟩
                    obtain ⟨u108, hu108⟩ : ∃ u, u = a.tmps.getD 108 undef := ⟨_, rfl⟩
                    obtain ⟨u109, hu109⟩ : ∃ u, u = a.tmps.getD 109 undef := ⟨_, rfl⟩
                    obtain ⟨u110, hu110⟩ : ∃ u, u = a.tmps.getD 110 undef := ⟨_, rfl⟩
                    obtain ⟨u111, hu111⟩ : ∃ u, u = a.tmps.getD 111 undef := ⟨_, rfl⟩
                    obtain ⟨u112, hu112⟩ : ∃ u, u = a.tmps.getD 112 undef := ⟨_, rfl⟩
                    have hal : AllAt a 0 [_, _, _, _, _, _, _, _, _, u, _, _, _, _, _, _, _, _, _, _, _, _, _, _, _, _, _, _, _, _, _, _, _, _, _, _, _, _, _, _, _, _, _, _, _, _, _, _, _, _, _, _, _, _, _, _, _, _, _, _, _, _, _, _, _, _, _, _, _, _, _, _, _, _, _, _, _, _, _, _, _, _, _, _, _, _, _, _, _, _, _, _, _, _, _, _, _, u97, u98, u99, u100, u101, u102, u103, u104, u105, u106, u107, u108, u109, u110, u111, u112, _, _, _, _, _, _, _, _, _, _, _, _, _, _, _, _] := ⟨hfree 0 rfl, hfree 1 rfl, hfree 2 rfl, hfree 3 rfl, hfree 4 rfl, hfree 5 rfl, hfree 6 rfl, hfree 7 rfl, hfree 8 rfl, hl, hfree 10 rfl, hfree 11 rfl, hfree 12 rfl, hfree 13 rfl, hfree 14 rfl, hfree 15 rfl, hfree 16 rfl, hfree 17 rfl, hfree 18 rfl, hfree 19 rfl, hfree 20 rfl, hfree 21 rfl, hfree 22 rfl, hfree 23 rfl, hfree 24 rfl, hfree 25 rfl, hfree 26 rfl, hfree 27 rfl, hfree 28 rfl, hfree 29 rfl, hfree 30 rfl, hfree 31 rfl, hfree 32 rfl, hfree 33 rfl, hfree 34 rfl, hfree 35 rfl, hfree 36 rfl, hfree 37 rfl, hfree 38 rfl, hfree 39 rfl, hfree 40 rfl, hfree 41 rfl, hfree 42 rfl, hfree 43 rfl, hfree 44 rfl, hfree 45 rfl, hfree 46 rfl, hfree 47 rfl, hfree 48 rfl, hfree 49 rfl, hfree 50 rfl, hfree 51 rfl, hfree 52 rfl, hfree 53 rfl, hfree 54 rfl, hfree 55 rfl, hfree 56 rfl, hfree 57 rfl, hfree 58 rfl, hfree 59 rfl, hfree 60 rfl, hfree 61 rfl, hfree 62 rfl, hfree 63 rfl, hfree 64 rfl, hfree 65 rfl, hfree 66 rfl, hfree 67 rfl, hfree 68 rfl, hfree 69 rfl, hfree 70 rfl, hfree 71 rfl, hfree 72 rfl, hfree 73 rfl, hfree 74 rfl, hfree 75 rfl, hfree 76 rfl, hfree 77 rfl, hfree 78 rfl, hfree 79 rfl, hfree 80 rfl, hfree 81 rfl, hfree 82 rfl, hfree 83 rfl, hfree 84 rfl, hfree 85 rfl, hfree 86 rfl, hfree 87 rfl, hfree 88 rfl, hfree 89 rfl, hfree 90 rfl, hfree 91 rfl, hfree 92 rfl, hfree 93 rfl, hfree 94 rfl, hfree 95 rfl, hfree 96 rfl, hu97.symm, hu98.symm, hu99.symm, hu100.symm, hu101.symm, hu102.symm, hu103.symm, hu104.symm, hu105.symm, hu106.symm, hu107.symm, hu108.symm, hu109.symm, hu110.symm, hu111.symm, hu112.symm, hfree 113 rfl, hfree 114 rfl, hfree 115 rfl, hfree 116 rfl, hfree 117 rfl, hfree 118 rfl, hfree 119 rfl, hfree 120 rfl, hfree 121 rfl, hfree 122 rfl, hfree 123 rfl, hfree 124 rfl, hfree 125 rfl, hfree 126 rfl, hfree 127 rfl, hfree 128 rfl, trivial⟩
                    have hlit := fun h => act_lit hd h hal
                    rw [hlit hsz]
                    simp only [Array.getD_eq_getD_getElem?, List.getElem?_toArray, List.getElem?_cons_zero, List.getElem?_cons_succ, Option.getD_some]
                    clear hlit hal hd hsz hfree hs hu97 hu98 hu99 hu100 hu101 hu102 hu103 hu104 hu105 hu106 hu107 hu108 hu109 hu110 hu111 hu112
                    have HKN := Lib.hid (HPU.out u w hC)
                    clear hC hl
                    go_wp2
                    go_roundw
                    case rel => exact ⟨j + 1, by omega, by go_num, HKN⟩
                    case measure => simp [intOf]; omega
                · have e : j = n5 := by omega
                  rw [e] at HKW ⊢
                  have hlt1 : ¬ (n5 : Int) < (n5 : Int) := by omega
                  clear e hj hlt
                  have HKF := HKW
                  obtain ⟨a3, b3, e3, _⟩ := own_any HKF.out.o3
                  obtain ⟨a5, b5, e5, _⟩ := own_any HKF.out.o5
                  obtain ⟨a7, b7, e7, _⟩ := own_any HKF.out.o7
                  obtain ⟨a9, b9, e9, _⟩ := own_any HKF.out.o9
                  subst e3 e5 e7 e9
                  have p1 := (cell_row HKF.out.bx 1).1
                  have p2 := (cell_row HKF.out.bx 2).1
                  have p3 := (cell_row HKF.out.bx 3).1
                  simp at p1 p2 p3
                  go_wp2_with (first
                    | (refine wpList_allocO 11 rfl rfl 50 rfl #[.slice none 0 0, .slice none 0 0, .int .i64 0, .string ⟨#[]⟩] 4 (by kernel_rfl) ?_; intro wa hwa hla hsa; (have HWA := Lib.hid hwa); (have HKA := Lib.hid (HKF.out.later hla)); (have HSA := Lib.hid (show W.heap.size + 1 < wr.heap.size from lt_of_block HKF.out.rs)); clear hwa hla hsa)
                    | (refine wpList_storeO rfl 50 (.tmp 11) (.tmp 123) rfl wr.heap.size _ _ rfl rfl HWA.out (by kernel_rfl) rfl (by simp [Value.oneCell']) ?_; intro wb hwb hgb hsb; (have HLD := Lib.hid (loadO_run (P := Try.prog) 50 _ _ _ hwb Try.underlying50 rfl (by kernel_rfl))); (have HRB := Lib.hid (grown_cells hgb HKA.out.rs (Nat.ne_of_lt HSA.out))); (have HGB := Lib.hid hgb); clear hwb hgb hsb)
                    | (refine wpList_loadRun rfl 50 (.tmp 11) rfl _ _ rfl HLD.out ?_)
                    | (refine wpList_storeO rfl 55 (.tmp 2) (.tmp 128) rfl (W.heap.size + 1) _ _ rfl rfl HRB.out (by kernel_rfl) rfl (by simp [Value.oneCell']) ?_; intro wc hwc hgc hsc; (have HWC := Lib.hid hwc); (have HGC := Lib.hid hgc); clear hwc hgc hsc))
                  refine bodyPost_ret (results_K rfl _ _ (W.heap.size + 1) _ rfl HWC.out rfl) rfl ?_
                  exact HFIN.out _ _ _ _ wr wa wb wc HKF.out (HKA.out.low) (fun e => HKA.out) HGB.out HGC.out HSA.out
end Ks
end Go.Proofs.Yteljmlodbnfhbaa
