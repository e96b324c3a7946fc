/- Cells as a row: row. No premises. -/
import Derived.ProofKit
import Derived.Maps.OwnRows
import Derived.Test.YtghdimcdkjlpcaaJk
import Derived.Test.YtghdimcdkjlpcaaJb
namespace Go.Proofs.Ytghdimcdkjlpcaa
open Go.RowKit Go.Maps
namespace Jo
open Bu
/-- A slice of cells that reads as z; its block lies below B. -/
structure RdC (w : World) (B : Nat) (v : Value) (z : List C2) : Prop where
  le : ∃ A c, v = .slice A z.length c ∧ z.length ≤ c
  at_ : 0 < z.length → ∃ g c, v = .slice (some ⟨g, 0, none⟩) z.length c ∧ g < B ∧ ∀ (k : Nat) (h : k < z.length), w.cell? ⟨g, k * 2, none⟩ = some (bv z[k].1) ∧ w.cell? ⟨g, k * 2 + 1, none⟩ = some (bv z[k].2)
theorem RdC.of_own {w : World} {base : Nat} {v : Value} {z : List C2} (h : w.ownsRow base 51 2 v z.length (cs z)) : RdC w w.heap.size v z := by
  have ha := own_any h
  refine ⟨ha, fun h0 => ?_⟩
  rcases h.2 with ⟨_, e⟩ | ⟨g, cap, cur, rfl, hb, hh, _⟩
  · omega
  · refine ⟨g, cap, rfl, lt_of_block hh, fun k hk => ?_⟩
    obtain ⟨h1, h2⟩ := cs_at z k hk
    have e1 := h.cells (g := g) rfl _ _ h1
    have e2 := h.cells (g := g) rfl _ _ h2
    rw [add_lit0] at e1 e2
    exact ⟨e1, e2⟩
theorem RdC.keep {w w' : World} {B : Nat} {v : Value} {z : List C2} (h : RdC w B v z) (hk : ∀ p : Addr, p.block < B → w'.cell? p = w.cell? p) : RdC w' B v z :=
  ⟨h.le, fun h0 => by
    obtain ⟨g, c, e, hb, hc⟩ := h.at_ h0
    exact ⟨g, c, e, hb, fun k hk2 => ⟨(hk _ hb).trans (hc k hk2).1, (hk _ hb).trans (hc k hk2).2⟩⟩⟩
theorem cell_load {w : World} {g o : Nat} {p : C2} (c0 : w.cell? ⟨g, o, none⟩ = some (bv p.1)) (c1 : w.cell? ⟨g, o + 1, none⟩ = some (bv p.2)) : (Instr.loadAt 51 (.pointer (some ⟨g, o, none⟩))).run Try.prog w = .ok (.agg #[bv p.1, bv p.2]) w := by
  refine run_loadAt_mid (P := Try.prog) w g o 51 [bv p.1, bv p.2] _ (fun j v hv => ?_) Try.underlying51 rfl (by kernel_rfl)
  have hj : j < 2 := (List.getElem?_eq_some_iff.1 hv).1
  match j, hj with
  | 0, _ => cases hv; exact c0
  | 1, _ => cases hv; exact c1
def ft (z : List C2) : L := z.map (·.1)
def fm (z : List C2) : L := z.map (·.2)
theorem ft_take {z : List C2} {k : Nat} (h : k < z.length) : ft (z.take (k + 1)) = ft (z.take k) ++ [z[k].1] := by unfold ft; rw [List.take_succ_eq_append_getElem h, List.map_append]; rfl
theorem fm_take {z : List C2} {k : Nat} (h : k < z.length) : fm (z.take (k + 1)) = fm (z.take k) ++ [z[k].2] := by unfold fm; rw [List.take_succ_eq_append_getElem h, List.map_append]; rfl
theorem later_fr {a b c : World} {X : Nat → Prop} (h : Later a b) (hf : Fr X b c) (hx : ∀ k, k < a.heap.size → X k) : Later a c :=
  ⟨hf.os.trans h.os, hf.tape.trans h.tape, hf.output.trans h.output, Nat.le_trans h.size hf.size, fun k hk => (hf.block k (Nat.lt_of_lt_of_le hk h.size) (hx k hk)).trans (h.block k hk)⟩
theorem own_ge {w : World} {base n size : Nat} {e : TypeId} {v : Value} {xs : List Value} (h : w.ownsRow base e size v n xs) {k : Nat} (hk : v.ownBlock = some k) : base ≤ k ∧ k < w.heap.size := h.lt k hk
def Apart2 (v u : Value) : Prop := ∀ i, v.ownBlock = some i → u.ownBlock ≠ some i
theorem Apart2.symm {v u : Value} (h : Apart2 v u) : Apart2 u v := fun i e e2 => h i e2 e
/-- One builder grows: another stays. -/
theorem other_bd {base b1 b2 : Nat} {W W' : World} {v1 v2 v' : Value} {x1 x2 : L} (h1 : Bd base W b1 v1 x1) (h2 : Bd base W b2 v2 x2) (hb : b2 ≠ b1) (ha : Apart2 v1 v2) (hf : Fr (But b1 v1) W W') (hm : Moved W v1 v') :
    Bd base W' b2 v2 x2 ∧ Apart2 v' v2 := by
  refine ⟨h2.keep hf ⟨hb, h1.ne2 h2⟩ fun i e => ⟨fun e2 => h2.ne2 h1 (by rw [e, e2]), fun e2 => ha i e2 e⟩, fun i e => ?_⟩
  rcases hm with e1 | ⟨j, e1, hj⟩
  · exact ha i (e1.symm.trans e)
  · rw [e] at e1
    injection e1 with e1
    intro e2
    have := (own_ge h2.own e2).2
    omega
/-- Two builders under way. -/
structure Two (w W : World) (x1 x2 : L) (v1 v2 : Value) : Prop where
  low : Later w W
  res : W.heap[w.heap.size]? = some (.cells #[.string (mkS []), .string (mkS [])] 23 (0, 0))
  b1 : Bd w.heap.size W (w.heap.size + 1) v1 x1
  b2 : Bd w.heap.size W (w.heap.size + 1 + 1) v2 x2
  apart : Apart2 v1 v2
  r1 : v1.ownBlock ≠ some w.heap.size
  r2 : v2.ownBlock ≠ some w.heap.size
theorem Two.later {w W W' : World} {x1 x2 : L} {v1 v2 : Value} (h : Two w W x1 x2 v1 v2) (hl : Later W W') : Two w W' x1 x2 v1 v2 :=
  ⟨h.low.trans hl, later_cells hl h.res, h.b1.keep (X := fun _ => True) (Fr.later hl) trivial (fun _ _ => trivial), h.b2.keep (X := fun _ => True) (Fr.later hl) trivial (fun _ _ => trivial), h.apart, h.r1, h.r2⟩
theorem moved_ne {W : World} {v v' : Value} {k : Nat} (hm : Moved W v v') (h : v.ownBlock ≠ some k) (hk : k < W.heap.size) : v'.ownBlock ≠ some k := fun e => by
  rcases hm with e1 | ⟨j, e1, hj⟩
  · exact h (e1.symm.trans e)
  · rw [e] at e1; injection e1 with e1; omega
theorem Two.step1 {w W W' : World} {x1 x2 : L} {v1 v2 v' : Value} {c : UInt8} (h : Two w W x1 x2 v1 v2) (hb : Bd w.heap.size W' (w.heap.size + 1) v' (x1 ++ [c])) (hf : Fr (But (w.heap.size + 1) v1) W W') (hm : Moved W v1 v') : Two w W' (x1 ++ [c]) x2 v' v2 := by
  obtain ⟨h2, ha⟩ := other_bd h.b1 h.b2 (by omega) h.apart hf hm
  exact ⟨later_fr h.low hf fun j hj => ⟨by omega, fun e => by have := (own_ge h.b1.own e).1; omega⟩, hf.cells h.res ⟨by omega, h.r1⟩, hb, h2, ha, moved_ne hm h.r1 (lt_of_block h.res), h.r2⟩
theorem Two.step2 {w W W' : World} {x1 x2 : L} {v1 v2 v' : Value} {c : UInt8} (h : Two w W x1 x2 v1 v2) (hb : Bd w.heap.size W' (w.heap.size + 1 + 1) v' (x2 ++ [c])) (hf : Fr (But (w.heap.size + 1 + 1) v2) W W') (hm : Moved W v2 v') : Two w W' x1 (x2 ++ [c]) v1 v' := by
  obtain ⟨h2, ha⟩ := other_bd h.b2 h.b1 (by omega) h.apart.symm hf hm
  exact ⟨later_fr h.low hf fun j hj => ⟨by omega, fun e => by have := (own_ge h.b2.own e).1; omega⟩, hf.cells h.res ⟨by omega, h.r2⟩, h2, hb, ha.symm, h.r1, moved_ne hm h.r2 (lt_of_block h.res)⟩
theorem Two.new (w : World) : Two w (((w.alloc (.cells #[.string (mkS []), .string (mkS [])] 23)).alloc (.cells #[.pointer none, .slice none 0 0] 59)).alloc (.cells #[.pointer none, .slice none 0 0] 59)) [] [] (.slice none 0 0) (.slice none 0 0) := by
  have l1 := Later.alloc w (.cells #[.string (mkS []), .string (mkS [])] 23)
  have l2 := Later.alloc (w.alloc (.cells #[.string (mkS []), .string (mkS [])] 23)) (.cells #[.pointer none, .slice none 0 0] 59)
  have l3 := Later.alloc ((w.alloc (.cells #[.string (mkS []), .string (mkS [])] 23)).alloc (.cells #[.pointer none, .slice none 0 0] 59)) (.cells #[.pointer none, .slice none 0 0] 59)
  have n1 := Bd.new w.heap.size (w.alloc (.cells #[.string (mkS []), .string (mkS [])] 23))
  have n2 := Bd.new w.heap.size ((w.alloc (.cells #[.string (mkS []), .string (mkS [])] 23)).alloc (.cells #[.pointer none, .slice none 0 0] 59))
  simp only [World.size_alloc] at n1 n2
  exact ⟨(l1.trans l2).trans l3, later_cells l3 (later_cells l2 (heap_alloc_new w _)), n1.keep (X := fun _ => True) (Fr.later l3) trivial (fun _ _ => trivial), n2, fun i e => by simp [Value.ownBlock] at e, by simp [Value.ownBlock], by simp [Value.ownBlock]⟩
theorem results_row {fn : Func} {p : Tmp} (h : fn.results = #[.cell p 23]) (tmps : Array Value) (w : World) (g : Nat) (cs : Array Value) (fr : Nat × Nat) (hp : tmps.getD p undef = .pointer (some ⟨g, 0, none⟩)) (hg : w.heap[g]? = some (.cells cs 23 fr)) (hs : cs.size = 2) : (results fn tmps).run Try.prog w = .ok (.agg cs) w :=
  results_cell_row h tmps w g _ cs fr _ hp hg Try.underlying23 rfl (by rw [hs]; kernel_rfl)
set_option maxRecDepth 100000 in
set_option maxHeartbeats 3200000 in
theorem row_v (v : Value) (z : List C2) (w : World) (hr : RdC w w.heap.size v z) (hz : z.length ≤ 1000000) : Calls Try.prog 23 #[v] w fun e w' => e = .returned (.agg #[.string (mkS (ft z)), .string (mkS (fm z))]) ∧ Later w w' := by
  have HR := Lib.hid hr
  have HT := Lib.hid (Two.new w)
  obtain ⟨A, c, rfl, hc⟩ := hr.le
  clear hr
  go_enter Try.func23, Try.ntmps23
  go_wp2
  go_loopw [9] (fun s9 wr => ∃ (k : Nat) (v1 v2 : Value), s9 = .int .i64 (k : Int) ∧ k ≤ z.length ∧ Two w wr (ft (z.take k)) (fm (z.take k)) v1 v2) (fun i _ => z.length - (intOf i).toNat)
  case atStart => exact ⟨0, _, _, rfl, Nat.zero_le _, HT.out⟩
  case round =>
    obtain ⟨k, v1, v2, rfl, hk, hT⟩ := hrel
    have HTT := Lib.hid hT
    clear hT
    have hk0 : (0 : Int) ≤ (k : Int) := by omega
    by_cases hlt : k < z.length
    · have hk1 : (k : Int) < (z.length : Int) := by omega
      obtain ⟨g, c', e, hg, hcc⟩ := HR.out.at_ (by omega)
      injection e with e _ e2
      subst e e2
      obtain ⟨c0, c1⟩ := hcc k hlt
      have hw := HTT.out.low.size
      obtain ⟨p, hp⟩ : ∃ p, p = z[k] := ⟨_, rfl⟩
      rw [← hp] at c0 c1
      have HP := Lib.hid hp
      have c0' : wr.cell? ⟨g, k * 2, none⟩ = some (bv p.1) := (HTT.out.low.cell (p := ⟨g, k * 2, none⟩) hg).trans c0
      have c1' : wr.cell? ⟨g, k * 2 + 1, none⟩ = some (bv p.2) := (HTT.out.low.cell (p := ⟨g, k * 2 + 1, none⟩) hg).trans c1
      have hld := cell_load c0' c1'
      simp only [bv] at hld
      have HLD := Lib.hid hld
      have hl1 : (ft (z.take k)).length ≤ 20000000000000 := by simp [ft]; omega
      have hl2 : (fm (z.take k)).length ≤ 20000000000000 := by simp [fm]; omega
      clear hp hcc c0 c1 c0' c1' hld
      obtain ⟨o, ho⟩ : ∃ o : Obj, o = .cells #[.int .u8 (p.1.toNat : Int), .int .u8 (p.2.toNat : Int)] 51 := ⟨_, rfl⟩
      have HA := Lib.hid (HTT.out.later (Later.alloc wr o))
      have HNB := Lib.hid (heap_alloc_new wr o)
      have HOW := Lib.hid (fun e => (own_ge HTT.out.b1.own (k := wr.heap.size) e).2)
      have hsz : (wr.alloc o).heap.size = wr.heap.size + 1 := World.size_alloc ..
      rw [ho] at HA HNB hsz
      have hb2l := HTT.out.b2.lt
      have hba : w.heap.size ≤ (wr.alloc (.cells #[.int .u8 (p.1.toNat : Int), .int .u8 (p.2.toNat : Int)] 51)).heap.size := by rw [hsz]; omega
      clear ho o
      go_wp2_with (first
        | (refine wpList_loadRun rfl 51 (.tmp 11) rfl _ _ rfl HLD.out ?_)
        | (go_at_call 26; fail))
      (with_reducible refine (write_n HA.out.b1 p.1 hba hl1).mono ?_)
      rintro e w2 ⟨rfl, v1', hb, hf, hm⟩
      have HA2 := Lib.hid (HA.out.step1 hb hf hm)
      have hnb := hf.cells HNB.out ⟨by omega, fun e => absurd (HOW.out e) (Nat.lt_irrefl _)⟩
      obtain ⟨cb1, _⟩ := cell_row hnb 1
      have cb1' : w2.cell? ⟨wr.heap.size, 1, none⟩ = some (.int .u8 (p.2.toNat : Int)) := cb1
      have hw2 := HA2.out.low.size
      clear HA HNB HOW hb hf hm hnb cb1
      go_wp2_with (first
        | (go_at_call 26; (with_reducible refine (write_n HA2.out.b2 p.2 hw2 hl2).mono ?_); rintro e w3 ⟨rfl, v2', hb, hf, hm⟩; (have HA3 := Lib.hid (HA2.out.step2 hb hf hm)); clear hb hf hm))
      go_roundw
      case rel =>
        have e1 := ft_take hlt
        have e2 := fm_take hlt
        rw [← HP.out] at e1 e2
        exact ⟨k + 1, _, _, by go_num, by omega, by rw [e1, e2]; exact HA3.out⟩
      case measure => simp [intOf]; omega
    · have hkz : z.take k = z := List.take_of_length_le (by omega)
      rw [hkz] at HTT
      have hl1 : (ft z).length ≤ 20000000000000 := by simp [ft]; omega
      have hl2 : (fm z).length ≤ 20000000000000 := by simp [fm]; omega
      go_wp2_with (first
        | (go_at_call 27; (with_reducible refine (string_v HTT.out.b1 hl1).mono ?_); rintro e w2 ⟨rfl, hf⟩; (have hb2 := Lib.hid (HTT.out.b2.keep hf (HTT.out.b1.ne2 HTT.out.b2) (fun i e e2 => HTT.out.apart i e2 e))); (have hres := hf.cells HTT.out.res HTT.out.r1); (have HRES := Lib.hid hres); (have HLO := Lib.hid (later_fr HTT.out.low hf fun j hj e => by have := (own_ge HTT.out.b1.own e).1; omega)); clear hf hres)
        | (go_at_call 27; (with_reducible refine (string_v hb2.out hl2).mono ?_); rintro e w3 ⟨rfl, hf⟩; (have hres := hf.cells HRES.out HTT.out.r2); obtain ⟨r0, z0⟩ := cell_row hres 0; obtain ⟨r1, z1⟩ := cell_row hres 1; (have r0' : w3.cell? ⟨w.heap.size, 0, none⟩ = some (.string (mkS [])) := r0); (have r1' : w3.cell? ⟨w.heap.size, 1, none⟩ = some (.string (mkS [])) := r1); (have HRES3 := Lib.hid hres); (have HLO3 := Lib.hid (later_fr HLO.out hf fun j hj e => by have := (own_ge hb2.out.own e).1; omega)); clear hf hres r0 r1))
      have h1 := set_row HRES3.out 0 (.string (mkS (ft z)))
      have h2 := set_row h1 1 (.string (mkS (fm z)))
      refine bodyPost_ret (results_row rfl _ _ w.heap.size _ (0, 0) rfl h2 rfl) rfl ?_
      exact ⟨rfl, later_of_new (later_of_new HLO3.out (set_only _ _ _ _) (Nat.le_refl _)) (set_only _ _ _ _) (Nat.le_refl _)⟩
end Jo
end Go.Proofs.Ytghdimcdkjlpcaa
