/- A row that grows by elements of several cells; a pattern's box; the members of a set. No premises. -/
import Derived.Test.YtdfnbanbofnabaaDoorGa
import Derived.Deep.RegionHeld
namespace Go.Proofs.YtdfnbanbofnabaaDoor
open Go.RowKit Go.Maps
/-- v, that the call owns, has become v', that owns n elements; nothing else that was there has turned. -/
structure GrewK (w w' : World) (base : Nat) (e : TypeId) (k : Nat) (v v' : Value) (n : Nat) (xs : List Value) : Prop where
  own : w'.ownsRow base e k v' n xs
  grown : w.grownBy w' v.ownBlock
  moved : Moved w v v'
section
variable {P : Program} {ops : Array Oper} {rest : List Oper} {o : Oper} {a : Act} {Q : Exit → Act → World → Prop}
/-- append(v, x), v the call's own: x stands in a new block of its own. -/
theorem wpList_appK (w : World) (cs : Array Value) (k : Nat) (hk : 0 < k) (hcs : cs.size = k) (h1 : ∀ u ∈ cs.toList, u.oneCell' = true) (hgd : o.guard = none) (s x : Operand) (t e : TypeId)
    (ho : o.op = .call { callee := .builtin .append, args := #[s, x], argTypes := #[t, t] }) (i0 : TypeInfo) (z : Value) (bytes : Nat) (ht : P.underlying t = some (.slice e)) (hi : P.info? e = some i0) (hz : i0.zero = some z)
    (hsize : i0.size = k) (hby : i0.bytes = bytes) (hzs : z.cells.size = k)
    (base : Nat) (v : Value) (n : Nat) (xs : List Value) (hs : a.eval s = v) (hown : w.ownsRow base e k v n xs) (N : Nat) (hN : N = w.heap.size) (hx : a.eval x = .slice (some ⟨N, 0, none⟩) 1 1)
    (hn : (n + 1) * bytes ≤ 140737488355328) (hn2 : n + 1 ≤ 140737488355328) (hbase : base ≤ w.heap.size)
    (h : ∀ v' w', GrewK w w' base e k v v' (n + 1) (xs ++ cs.toList) → wpList P ops Q rest (a.put o.dst v') w') : wpList P ops Q (o :: rest) a (w.alloc (.cells cs e)) := by
  subst hN
  refine wpList_plain hgd fun K hK => ?_
  have hown' : (w.alloc (.cells cs e)).ownsRow base e k v n xs := hown.alloc _
  obtain ⟨v', w', hrun, h2, h3, _, h5⟩ := run_append_own_at (P := P) (w.alloc (.cells cs e)) base t o.type e i0 z k bytes ht hi hz hsize hby hzs hk v n xs hown' ⟨w.heap.size, 0, none⟩ 1 1 cs.toList (by simpa using hcs)
    (fun j u hj => by
      rw [add_lit0, cell_of_row _ _ j cs e (0, 0) (heap_alloc_new w _)]
      simpa using hj) h1 (by unfold maxLen; omega) hn (by simp; omega)
  have hg : w.grownBy w' v.ownBlock := by
    have hla := Later.alloc w (.cells cs e)
    exact ⟨h3.os.trans hla.os, h3.tape.trans hla.tape, h3.output.trans hla.output, Nat.le_trans hla.size h3.size, fun k hk hne => (h3.block k (Nat.lt_of_lt_of_le hk hla.size) hne).trans (hla.block k hk)⟩
  unfold Oper.wp execOp
  simp only [ho, resolve, invoke, builtin, Sem.run_bind, Sem.run_pure, Result.andThen_ok, List.map_toArray, List.map_cons, List.map_nil, hs, hx, hrun]
  refine hK _ _ (h v' w' ⟨h2, hg, ?_⟩)
  rcases h5 with h5 | h5
  · exact .inl h5
  · exact .inr ⟨_, h5, by simp⟩
end
/-- What was laid behind base grows; what was there stays. -/
theorem GrewK.later {w0 w w' : World} {base k n m : Nat} {e : TypeId} {v v' : Value} {xs ys : List Value} (h : GrewK w w' base e k v v' m ys) (ho : w.ownsRow base e k v n xs) (hb : w0.heap.size ≤ base) (hl : Later w0 w) : Later w0 w' :=
  Below.grown hl h.grown (hl.size) fun j hj => Nat.le_trans hb (ho.lt j hj).1
/-- A pattern in a box. -/
def Box (w : World) (g : Nat) (t m : L) : Prop := w.heap[g]? = some (.cells #[.string (mkS t), .string (mkS m)] 29 (0, 0))
theorem Box.cells {w : World} {g : Nat} {t m : L} (h : Box w g t m) : w.cell? ⟨g, 0, none⟩ = some (.string (mkS t)) ∧ w.cell? ⟨g, 1, none⟩ = some (.string (mkS m)) := ⟨(cell_row h 0).1, (cell_row h 1).1⟩
theorem Box.new (w : World) (t m : L) : Box (w.alloc (.cells #[.string (mkS t), .string (mkS m)] 29)) w.heap.size t m := heap_alloc_new w _
theorem Box.later {w w' : World} {g : Nat} {t m : L} (h : Box w g t m) (hl : Later w w') : Box w' g t m := later_cells hl h
/-- Rows of other types grow: a box stays. -/
theorem Box.grown {w w' : World} {g : Nat} {t m : L} (h : Box w g t m) {base k n n' : Nat} {v v' : Value} {xs ys : List Value} (hg : GrewK w w' base 90 k v v' n' ys) (ho : w.ownsRow base 90 k v n xs) : Box w' g t m := by
  refine (hg.grown.block g (lt_of_block h) fun e => ?_).trans h
  obtain ⟨cs, hc⟩ := own_type ho e.symm
  rw [show w.heap[g]? = _ from h] at hc
  injection hc with hc
  injection hc with _ hc _
  exact absurd hc (by decide)
namespace Gs
def ms2 (ms : List (UInt8 × UInt8)) : List Value := ms.flatMap fun x => [bv x.1, bv x.2]
theorem ms2_len (ms : List (UInt8 × UInt8)) : (ms2 ms).length = ms.length * 2 := by
  unfold ms2
  induction ms with
  | nil => rfl
  | cons y l ih => rw [List.flatMap_cons, List.length_append, ih]; simp; omega
theorem ms2_app (ms : List (UInt8 × UInt8)) (y : UInt8 × UInt8) : ms2 (ms ++ [y]) = ms2 ms ++ [bv y.1, bv y.2] := by simp [ms2]
theorem info_span : (Tryd.prog.info? 90).map (fun i => (i.zero, i.size, i.bytes)) = some (some (.agg #[.int .u8 0, .int .u8 0]), 2, 2) := by kernel_rfl
set_option maxRecDepth 100000 in
set_option maxHeartbeats 1600000 in
theorem members_v (t m : L) (a e : Nat) (w : World) (hae : a ≤ e) (he : e < t.length) (ht : t.length ≤ 4096) : Calls Tryd.prog 45 #[.agg #[.string (mkS t), .string (mkS m)], .int .i64 (a : Int), .int .i64 (e : Int)] w fun r w' => ∃ v, r = .returned v ∧ w'.ownsRow w.heap.size 90 2 v (Gl.mems t m a e).length (ms2 (Gl.mems t m a e)) ∧ Later w w' := by
  have HI := Lib.hid (is_v t m)
  have HW := Lib.hid (Box.new w t m)
  have HL := Lib.hid (Later.alloc w (.cells #[.string (mkS t), .string (mkS m)] 29))
  go_enter Tryd.func45, Tryd.ntmps45
  go_wp2_with fail
  go_loopw [1, 7] (fun s1 s7 wr => ∃ (k : Nat) (ms : List (UInt8 × UInt8)), s1 = .int .i64 (k : Int) ∧ k ≤ e ∧ wr.ownsRow w.heap.size 90 2 s7 ms.length (ms2 ms) ∧ ms.length ≤ k ∧ Gl.mems t m a e = ms ++ Gl.mems t m k e ∧ Later w wr ∧ Box wr w.heap.size t m) (fun i _ _ => e - (intOf i).toNat)
  case atStart => exact ⟨a, [], rfl, hae, World.ownsRow_nil _ _ _ 2, Nat.zero_le _, rfl, HL.out, HW.out⟩
  case round =>
    obtain ⟨k, ms, rfl, hk, hown, hml, heq, hlr, hbox⟩ := hrel
    by_cases hke : k < e
    · obtain ⟨c0, c1⟩ := hbox.cells
      have hst : (mkS t).size = t.length := mkS_size t
      have hk0 : (0 : Int) ≤ (k : Int) := by omega
      have hk2 : k < t.length := by omega
      have hk3 : k < (mkS t).size := by omega
      have c0a : ∀ o, (wr.alloc o).cell? ⟨w.heap.size, 0, none⟩ = some (.string (mkS t)) := fun o => cell_keeps (Later.alloc wr o) c0
      have c1a : ∀ o, (wr.alloc o).cell? ⟨w.heap.size, 1, none⟩ = some (.string (mkS m)) := fun o => cell_keeps (Later.alloc wr o) c1
      have hi1 : ∀ W, Calls Tryd.prog 26 #[.agg #[.string (mkS t), .string (mkS m)], .int .i64 ((k : Int) + 1), .int .u8 45] W fun e w' => e = .returned (.bool (Gl.isAt t m (k + 1) 45)) ∧ Later W w' := HI.out (k + 1) 45
      have HO := Lib.hid hown
      have HE := Lib.hid heq
      have HLR := Lib.hid hlr
      have HB := Lib.hid hbox
      have HI1 := Lib.hid hi1
      have HG := Lib.hid (show (mkS t)[k] = t.getD k 0 by have := get_byte t k hk3; rw [List.getD_eq_getElem?_getD, this]; rfl)
      have hgs : w.heap.size < wr.heap.size := lt_of_block hbox
      clear hown heq hlr hbox hst hi1
      obtain ⟨i0, hi, hz0, hz1, hz2⟩ := info_parts info_span
      cases hq : Gl.isAt t m (k + 1) 45 with
      | false =>
        have hi1 := HI1.out
        rw [hq] at hi1
        have HI2 := Lib.hid hi1
        have HN := Lib.hid (Gl.mems_one (m := m) hke (fun h => by rw [hq] at h; cases h.1))
        clear hi1 hq HI1
        go_wp2_with fail
        go_region
        go_wp2_with (first
          | (go_at_call 26; (with_reducible refine (HI2.out _).mono ?_); rintro e w2 ⟨rfl, hl2⟩; (have hl3 : Later wr w2 := Later.trans (Later.trans (Later.alloc wr _) (Later.drew _)) hl2); (have hM : w2.heap[wr.heap.size]? = some (.cells #[.int .u8 ((mkS t)[k].toNat : Int), .int .u8 ((mkS t)[k].toNat : Int)] 90 (0, 0)) := later_cells hl2 (later_cells (Later.drew _) (heap_alloc_new wr _))); obtain ⟨m0, m0z⟩ := cell_row hM 0; obtain ⟨m1, m1z⟩ := cell_row hM 1; (have HM := Lib.hid hM); (have HL3 := Lib.hid hl3); (have HO4 := Lib.hid (own_below HO.out hl3)); (have HL4 := Lib.hid (Later.trans HLR.out hl3)); (have HB4 := Lib.hid (HB.out.later hl3)); clear hM hl3 hl2 c0 c1 c0a c1a)
          | (at_builtin; refine wpList_appK w2 #[.int .u8 ((mkS t)[k].toNat : Int), .int .u8 ((mkS t)[k].toNat : Int)] 2 (by omega) rfl (by intro u hu; simp at hu; rcases hu with rfl | rfl <;> rfl) rfl (.tmp 40) (.tmp 42) 83 90 rfl i0 _ 2 Tryd.underlying83 hi hz0 hz1 hz2 rfl w.heap.size u7 ms.length (ms2 ms) rfl HO4.out _ rfl rfl ?hby ?hle ?hba ?_; (case hby => omega); (case hle => omega); (case hba => have := HL4.out.size; omega); intro v3 w3 hg3; (have HG3 := Lib.hid hg3); clear hg3))
        go_roundw
        case rel =>
          have hg3 := HG3.out
          refine ⟨k + 1, ms ++ [(t.getD k 0, t.getD k 0)], by go_num, by omega, ?_, by simp; omega, ?_, ?_, ?_⟩
          · have := hg3.own
            rw [HG.out] at this
            rw [ms2_app, List.length_append]
            exact this
          · rw [HE.out, HN.out]; simp
          · exact hg3.later HO4.out (Nat.le_refl _) HL4.out
          · exact HB4.out.grown hg3 HO4.out
        case measure => simp [intOf]; omega
      | true =>
        have hi1 := HI1.out
        rw [hq] at hi1
        have HI2 := Lib.hid hi1
        clear hi1 HI1
        by_cases hd : k + 2 < e
        · have hd1 : (k : Int) + 1 + 1 < (e : Int) := by omega
          have hst : (mkS t).size = t.length := mkS_size t
          have hk4 : k + 1 + 1 < (mkS t).size := by omega
          have HG2 := Lib.hid (show (mkS t)[k + 1 + 1] = t.getD (k + 2) 0 by have := get_byte t (k + 1 + 1) hk4; rw [List.getD_eq_getElem?_getD, this]; rfl)
          have HN := Lib.hid (Gl.mems_two (m := m) hq hd)
          have hk5 : k + 1 + 1 < t.length := by omega
          clear hq hst
          go_wp2_with fail
          go_region
          go_wp2_with (first
            | (go_at_call 26; (with_reducible refine (HI2.out _).mono ?_); rintro e w2 ⟨rfl, hl2⟩; (have hl3 : Later wr w2 := Later.trans (Later.trans (Later.alloc wr _) (Later.drew _)) hl2); (have hM : w2.heap[wr.heap.size]? = some (.cells #[.int .u8 ((mkS t)[k].toNat : Int), .int .u8 ((mkS t)[k].toNat : Int)] 90 (0, 0)) := later_cells hl2 (later_cells (Later.drew _) (heap_alloc_new wr _))); obtain ⟨m0, m0z⟩ := cell_row hM 0; obtain ⟨m1, m1z⟩ := cell_row hM 1; (have HM := Lib.hid hM); (have HL3 := Lib.hid hl3); (have hl4 : Later wr (w2.setCell ⟨wr.heap.size, 1, none⟩ (.int .u8 ((mkS t)[k + 1 + 1].toNat : Int))) := later_of_new hl3 (set_only _ _ _ _) (Nat.le_refl _)); (have HO4 := Lib.hid (own_below HO.out hl4)); (have HL4 := Lib.hid (Later.trans HLR.out hl4)); (have HB4 := Lib.hid (HB.out.later hl4)); obtain ⟨d0, d1⟩ := (HB.out.later hl3).cells; clear hl4; clear hM hl3 hl2 c0 c1 c0a c1a)
            | (at_builtin; refine wpList_appK (w2.setCell ⟨wr.heap.size, 1, none⟩ (.int .u8 ((mkS t)[k + 1 + 1].toNat : Int))) #[.int .u8 ((mkS t)[k].toNat : Int), .int .u8 ((mkS t)[k + 1 + 1].toNat : Int)] 2 (by omega) rfl (by intro u hu; simp at hu; rcases hu with rfl | rfl <;> rfl) rfl (.tmp 40) (.tmp 42) 83 90 rfl i0 _ 2 Tryd.underlying83 hi hz0 hz1 hz2 rfl w.heap.size u7 ms.length (ms2 ms) rfl HO4.out w2.heap.size (by simp) rfl ?hby ?hle ?hba ?_; (case hby => omega); (case hle => omega); (case hba => have := HL4.out.size; omega); intro v3 w3 hg3; (have HG3 := Lib.hid hg3); clear hg3))
          go_roundw
          case rel =>
            have hg3 := HG3.out
            refine ⟨k + 3, ms ++ [(t.getD k 0, t.getD (k + 2) 0)], by go_num, by omega, ?_, by simp; omega, ?_, ?_, ?_⟩
            · have := hg3.own
              rw [ms2_app, List.length_append, show bv (t.getD k 0) = .int .u8 ((mkS t)[k].toNat : Int) by rw [← HG.out]; rfl, show bv (t.getD (k + 2) 0) = .int .u8 ((mkS t)[k + 1 + 1].toNat : Int) by rw [← HG2.out]; rfl]
              exact this
            · rw [HE.out, HN.out]; simp
            · exact hg3.later HO4.out (Nat.le_refl _) HL4.out
            · exact HB4.out.grown hg3 HO4.out
          case measure => simp [intOf]; omega
        · have hd1 : ¬ ((k : Int) + 1 + 1 < (e : Int)) := by omega
          have HN := Lib.hid (Gl.mems_one (t := t) (m := m) hke (fun h => hd h.2))
          clear hq
          go_wp2_with fail
          go_region
          go_wp2_with (first
            | (go_at_call 26; (with_reducible refine (HI2.out _).mono ?_); rintro e w2 ⟨rfl, hl2⟩; (have hl3 : Later wr w2 := Later.trans (Later.trans (Later.alloc wr _) (Later.drew _)) hl2); (have hM : w2.heap[wr.heap.size]? = some (.cells #[.int .u8 ((mkS t)[k].toNat : Int), .int .u8 ((mkS t)[k].toNat : Int)] 90 (0, 0)) := later_cells hl2 (later_cells (Later.drew _) (heap_alloc_new wr _))); obtain ⟨m0, m0z⟩ := cell_row hM 0; obtain ⟨m1, m1z⟩ := cell_row hM 1; (have HM := Lib.hid hM); (have HL3 := Lib.hid hl3); (have HO4 := Lib.hid (own_below HO.out hl3)); (have HL4 := Lib.hid (Later.trans HLR.out hl3)); (have HB4 := Lib.hid (HB.out.later hl3)); clear hM hl3 hl2 c0 c1 c0a c1a)
            | (at_builtin; refine wpList_appK w2 #[.int .u8 ((mkS t)[k].toNat : Int), .int .u8 ((mkS t)[k].toNat : Int)] 2 (by omega) rfl (by intro u hu; simp at hu; rcases hu with rfl | rfl <;> rfl) rfl (.tmp 40) (.tmp 42) 83 90 rfl i0 _ 2 Tryd.underlying83 hi hz0 hz1 hz2 rfl w.heap.size u7 ms.length (ms2 ms) rfl HO4.out _ rfl rfl ?hby ?hle ?hba ?_; (case hby => omega); (case hle => omega); (case hba => have := HL4.out.size; omega); intro v3 w3 hg3; (have HG3 := Lib.hid hg3); clear hg3))
          go_roundw
          case rel =>
            have hg3 := HG3.out
            refine ⟨k + 1, ms ++ [(t.getD k 0, t.getD k 0)], by go_num, by omega, ?_, by simp; omega, ?_, ?_, ?_⟩
            · have := hg3.own
              rw [ms2_app, List.length_append, show bv (t.getD k 0) = .int .u8 ((mkS t)[k].toNat : Int) by rw [← HG.out]; rfl]
              exact this
            · rw [HE.out, HN.out]; simp
            · exact hg3.later HO4.out (Nat.le_refl _) HL4.out
            · exact HB4.out.grown hg3 HO4.out
          case measure => simp [intOf]; omega
    · go_wp2
      go_ret
      rw [Gl.mems_end (a := k) (by omega), List.append_nil] at heq
      exact ⟨_, rfl, by rw [heq]; exact hown, hlr⟩
end Gs
end Go.Proofs.YtdfnbanbofnabaaDoor
