/- A strings.Builder in a block of its own: a byte more, its text; nothing but its own two blocks turns. No premises. -/
import Derived.Test.YtghdimcdkjlpcaaWm
import Derived.Lib.Builder
import Derived.Lib.UnsafeStr
import Derived.Deep.AppendLies
import Derived.Deep.RegionHeld
import Derived.Laws.Entries
namespace Go.Proofs.Ytghdimcdkjlpcaa
open Go.RowKit Go.Maps
namespace Bu
/-- All blocks but b and v's own. -/
def But (b : Nat) (v : Value) : Nat → Prop := fun k => k ≠ b ∧ v.ownBlock ≠ some k
/-- The builder in block b holds bs, in v's row. -/
structure Bd (base : Nat) (w : World) (b : Nat) (v : Value) (bs : L) : Prop where
  box : ∃ pa, (pa = .pointer none ∨ pa = .pointer (some ⟨b, 0, none⟩)) ∧ w.heap[b]? = some (.cells #[pa, v] 59 (0, 0))
  own : w.ownsRow base 5 1 v bs.length (bs.map bv)
section
variable {base b : Nat} {w w' : World} {v : Value} {bs : L}
theorem Bd.new (base : Nat) (w : World) : Bd base (w.alloc (.cells #[.pointer none, .slice none 0 0] 59)) w.heap.size (.slice none 0 0) [] :=
  ⟨⟨_, .inl rfl, heap_alloc_new w _⟩, World.ownsRow_nil _ _ _ 1⟩
theorem Bd.lt (h : Bd base w b v bs) : b < w.heap.size := by obtain ⟨pa, _, hb⟩ := h.box; exact lt_of_block hb
theorem Bd.ne (h : Bd base w b v bs) : v.ownBlock ≠ some b := fun e => by
  obtain ⟨pa, _, hb⟩ := h.box
  obtain ⟨cs, hc⟩ := own_type h.own e
  rw [hb] at hc
  injection hc with hc
  injection hc with _ hc _
  exact absurd hc (by decide)
theorem Bd.ne2 {base' b' : Nat} {v' : Value} {bs' : L} (h : Bd base w b v bs) (h' : Bd base' w b' v' bs') : v.ownBlock ≠ some b' := fun e => by
  obtain ⟨pa, _, hb⟩ := h'.box
  obtain ⟨cs, hc⟩ := own_type h.own e
  rw [hb] at hc
  injection hc with hc
  injection hc with _ hc _
  exact absurd hc (by decide)
theorem Bd.keep {X : Nat → Prop} (h : Bd base w b v bs) (hf : Fr X w w') (hb : X b) (hv : ∀ i, v.ownBlock = some i → X i) : Bd base w' b v bs := by
  obtain ⟨pa, h1, h2⟩ := h.box
  exact ⟨⟨pa, h1, hf.cells h2 hb⟩, hf.row h.own hv⟩
end
set_option maxHeartbeats 1600000 in
set_option maxRecDepth 100000 in
theorem check_v {W : World} {b : Nat} {v pa : Value} (hpa : pa = .pointer none ∨ pa = .pointer (some ⟨b, 0, none⟩)) (hb : W.heap[b]? = some (.cells #[pa, v] 59 (0, 0))) :
    Calls Try.prog 38 #[.pointer (some ⟨b, 0, none⟩)] W fun e W' => e = .returned (.tuple #[]) ∧ W'.heap[b]? = some (.cells #[.pointer (some ⟨b, 0, none⟩), v] 59 (0, 0)) ∧ W.grownBy W' (some b) := by
  have hsh : W.shape? b = some (59, 2) := by simp [World.shape?, hb]
  have hj : ∃ j, Try.prog.info? 59 = some j ∧ j.size = 2 := by
    have e : (Try.prog.info? 59).map (fun i => i.size) = some 2 := by kernel_rfl
    obtain ⟨j, h1, h2⟩ := Option.map_eq_some_iff.1 e
    exact ⟨j, h1, h2⟩
  obtain ⟨j, hj, hjs⟩ := hj
  obtain ⟨c0, z0⟩ := cell_row hb 0
  have HB := Lib.hid hb
  rcases hpa with rfl | rfl
  · have c0' : W.cell? ⟨b, 0, none⟩ = some (.pointer none) := c0
    clear hb c0
    go_enter Try.func38, Try.ntmps38
    go_wp2
    rw [Lib.run_to_unsafe W ⟨b, 0, none⟩ Try.underlying57 Try.underlying88 hj (by rw [hjs]; decide) hsh (show 0 < 2 by omega)]
    simp only [Result.andThen]
    rw [Oper.upon_value]
    go_wp2
    rw [run_callFunc_extern Try.func44 (by kernel_rfl) (by kernel_rfl) (by kernel_rfl) (e := Extern.AbiNoEscape.same) (by kernel_rfl)]
    rw [Lib.run_noEscape]
    simp only [Result.andThen]
    rw [Oper.upon_value]
    go_wp2
    rw [Lib.run_from_unsafe W ⟨b, 0, none⟩ Try.underlying88 Try.underlying57 hj hsh (by kernel_rfl)]
    simp only [Result.andThen]
    rw [Oper.upon_value]
    go_wp2
    go_end0
    exact ⟨rfl, set_row HB.out 0 _, set_only _ _ _ _⟩
  · have c0' : W.cell? ⟨b, 0, none⟩ = some (.pointer (some ⟨b, 0, none⟩)) := c0
    clear hb c0
    go_enter Try.func38, Try.ntmps38
    go_wp2
    rw [Lib.run_neq_ptr_same W _ Try.underlying57 hj]
    go_wp2
    go_end0
    exact ⟨rfl, HB.out, World.grownBy.refl W _⟩
set_option maxHeartbeats 1600000 in
set_option maxRecDepth 100000 in
theorem write_v {W : World} {base b : Nat} {v : Value} {bs : L} (h : Bd base W b v bs) (c : UInt8) (hbase : base ≤ W.heap.size) (hl : bs.length ≤ 20000000000000) :
    Calls Try.prog 26 #[.pointer (some ⟨b, 0, none⟩), bv c] W fun e W' => e = .returned .nilIface ∧ ∃ v', Bd base W' b v' (bs ++ [c]) ∧ Fr (But b v) W W' ∧ Moved W v v' := by
  obtain ⟨i0, hi, hz0, hz1, hz2⟩ := info_parts info_u8
  have HN := Lib.hid h.ne
  have HBL := Lib.hid (show (bs.map bv).length = bs.length from List.length_map ..)
  have hlt := h.lt
  obtain ⟨⟨pa, hpa, hb⟩, hown⟩ := h
  have HC := Lib.hid (check_v hpa hb)
  have HO := Lib.hid hown
  clear hpa hb hown
  unfold bv
  go_enter Try.func26, Try.ntmps26
  go_wp2_with (first
    | (go_at_call 38; (with_reducible refine HC.out.mono ?_); rintro e w1 ⟨rfl, hb1, hg1⟩; obtain ⟨c1, z1⟩ := cell_row hb1 1; (have c1' : w1.cell? ⟨b, 1, none⟩ = some v := c1); have ho1 := HO.out.kept hg1 (.inr HN.out); (rw [← HBL.out] at ho1); (have HO1 := Lib.hid ho1); (have HB1 := Lib.hid hb1); (have HG1 := Lib.hid hg1); (have hs1 := hg1.size); clear ho1 hb1 hg1 c1)
    | (at_builtin; refine wpList_app1 _ (.int .u8 (c.toNat : Int)) rfl (.tmp 11) (.tmp 13) 47 rfl base 5 i0 (.int .u8 0) 1 Try.underlying47 hi hz0 hz1 hz2 rfl rfl v (bs.map bv) rfl HO1.out rfl (by rw [List.length_map]; omega) (by rw [List.length_map]; omega) (by omega) ?_; intro v' w2 hg2; obtain ⟨A2, k2, e9, _⟩ := own_any hg2.own; subst e9; (have hb2 := (hg2.grown.block b (by omega) (fun e => HN.out e.symm)).trans HB1.out); obtain ⟨c2, z2⟩ := cell_row hb2 1; (have HB2 := Lib.hid hb2); (have HG2 := Lib.hid hg2); clear hb2 hg2))
  go_ret
  have hg2 := HG2.out
  have el : (bs.map bv ++ [Value.int .u8 (c.toNat : Int)]).length = bs.length + 1 := by simp
  rw [el] at hg2
  refine ⟨rfl, _, ⟨⟨_, .inr rfl, set_row HB2.out 1 _⟩, ?_⟩, ?_, ?_⟩
  · have := hg2.own.kept (set_only _ b 1 (.slice A2 (bs.length + 1) k2)) (.inr fun e => by
      obtain ⟨cs, hc⟩ := own_type hg2.own e
      rw [HB2.out] at hc
      injection hc with hc
      injection hc with _ hc _
      exact absurd hc (by decide))
    simpa [bv] using this
  · exact ((Fr.grown HG1.out fun x e => by injection e with e; subst e; exact fun hx => hx.1 rfl).trans (Fr.grown hg2.grown fun x e hx => hx.2 e)).trans (Fr.grown (set_only _ _ _ _) fun x e => by injection e with e; subst e; exact fun hx => hx.1 rfl)
  · rcases hg2.moved with e | ⟨k, e, hk⟩
    · exact .inl e
    · exact .inr ⟨k, e, Nat.le_trans hs1 hk⟩
theorem write_n {W : World} {base b : Nat} {v : Value} {bs : L} (h : Bd base W b v bs) (c : UInt8) (hbase : base ≤ W.heap.size) (hl : bs.length ≤ 20000000000000) :
    Calls Try.prog 26 #[.pointer (some ⟨b, 0, none⟩), .int .u8 (c.toNat : Int)] W fun e W' => e = .returned .nilIface ∧ ∃ v', Bd base W' b v' (bs ++ [c]) ∧ Fr (But b v) W W' ∧ Moved W v v' := write_v h c hbase hl
/-- Only v's own block turns, if any. -/
def Own (v : Value) : Nat → Prop := fun k => v.ownBlock ≠ some k
set_option maxHeartbeats 3200000 in
set_option maxRecDepth 100000 in
theorem string_v {W : World} {base b : Nat} {v : Value} {bs : L} (h : Bd base W b v bs) (hl : bs.length ≤ 20000000000000) : Calls Try.prog 27 #[.pointer (some ⟨b, 0, none⟩)] W fun e W' => e = .returned (.string (mkS bs)) ∧ Fr (Own v) W W' := by
  obtain ⟨⟨pa, hpa, hb⟩, hown⟩ := h
  obtain ⟨c1, z1⟩ := cell_row hb 1
  have c1' : W.cell? ⟨b, 1, none⟩ = some v := c1
  have hc1 : W.drew.cell? ⟨b, 1, none⟩ = some v := c1
  have hUN : ∀ (W : World) (q : Option Addr), (Builtin.unsafeString_ #[80, 3] 9 #[.pointer q, .int .i64 0]).run Try.prog W = .ok (.string .empty) W := fun W q => Lib.run_unsafeString_none W _ _ _ q
  clear hpa hb c1
  rcases hown.2 with ⟨rfl, h0⟩ | ⟨u, cap, cur, rfl, hbu, hu, hnc, hcm, hcs, htake⟩
  · have e0 : bs = [] := List.eq_nil_of_length_eq_zero h0
    subst e0
    have hSD : (Builtin.unsafeSliceData_ #[47] 80 #[.slice none 0 0]).run Try.prog W.drew = .ok (.pointer none) W.drew := rfl
    clear hown h0
    go_enter Try.func27, Try.ntmps27
    go_wp2
    go_region
    all_goals (go_wp2; go_ret; exact ⟨rfl, Fr.later (Later.drew _)⟩)
  · have hult := lt_of_block hu
    by_cases h0 : bs = []
    · subst h0
      by_cases hc0 : cap = 0
      · subst hc0
        have hSD : (Builtin.unsafeSliceData_ #[47] 80 #[.slice (some ⟨u, 0, none⟩) 0 0]).run Try.prog W.drew = .ok (.pointer (some ⟨W.drew.heap.size, 0, none⟩)) (W.drew.alloc (.view ⟨u, 0, none⟩ 5)) :=
          Lib.run_unsafeSliceData_zero W.drew _ _ 5 Try.underlying80 ⟨u, 0, none⟩ 0 (5, cur.size) (by have hg' : W.drew.heap[u]? = some (.cells cur 5 (0, 0)) := hu; simp [World.shape?, hg'])
        have c2 : (W.drew.alloc (.view ⟨u, 0, none⟩ 5)).cell? ⟨b, 1, none⟩ = some (.slice (some ⟨u, 0, none⟩) 0 0) := cell_keeps (Later.alloc W.drew _) hc1
        have c3 : (W.alloc (.view ⟨u, 0, none⟩ 5)).drew.cell? ⟨b, 1, none⟩ = some (.slice (some ⟨u, 0, none⟩) 0 0) := c2
        clear hown
        simp only [List.length_nil] at c1' hc1
        go_enter Try.func27, Try.ntmps27
        go_wp2
        go_region
        all_goals (go_wp2; go_ret; exact ⟨rfl, Fr.later (Later.trans (Later.drew _) (Later.alloc _ _))⟩)
      · have hSD : (Builtin.unsafeSliceData_ #[47] 80 #[.slice (some ⟨u, 0, none⟩) 0 cap]).run Try.prog W.drew = .ok (.pointer (some ⟨u, 0, none⟩)) W.drew := Lib.run_unsafeSliceData_row _ _ _ _ _ _ hc0
        clear hown hc0
        simp only [List.length_nil] at c1' hc1
        go_enter Try.func27, Try.ntmps27
        go_wp2
        go_region
        all_goals (go_wp2; go_ret; exact ⟨rfl, Fr.later (Later.drew _)⟩)
    · have hl0 : bs.length ≠ 0 := by simpa using h0
      have hSD : (Builtin.unsafeSliceData_ #[47] 80 #[.slice (some ⟨u, 0, none⟩) bs.length cap]).run Try.prog W.drew = .ok (.pointer (some ⟨u, 0, none⟩)) W.drew := Lib.run_unsafeSliceData_row _ _ _ _ _ _ (by omega)
      have hcells : Try.prog.cellsOf 5 = 1 := by kernel_rfl
      have hUS : (Builtin.unsafeString_ #[80, 3] 9 #[.pointer (some ⟨u, 0, none⟩), .int .i64 bs.length]).run Try.prog W.drew = .ok (.string (mkS bs)) (W.drew.freeze ⟨u, 0, none⟩ bs.length) := by
        refine Lib.run_unsafeString_row W.drew 80 3 9 5 Try.underlying80 hcells u cur.size (by have hg' : W.drew.heap[u]? = some (.cells cur 5 (0, 0)) := hu; simp [World.shape?, hg']) bs h0 (by omega) (by omega) ?_
        intro j x hx
        have := hown.cells (g := u) rfl j (.int .u8 x.toNat) (by rw [List.getElem?_map, hx]; rfl)
        exact this
      have hlr : Fr (Own (.slice (some ⟨u, 0, none⟩) bs.length cap)) W (W.drew.freeze ⟨u, 0, none⟩ bs.length) := by
        refine (Fr.later (Later.drew W)).trans ?_
        have e : W.drew.freeze ⟨u, 0, none⟩ bs.length = { W.drew with heap := (W.drew.freeze ⟨u, 0, none⟩ bs.length).heap } := by unfold World.freeze; split <;> rfl
        refine ⟨by rw [e], by rw [e], by rw [e], ?_, fun k hk hx => ?_⟩
        · unfold World.freeze; split <;> simp
        · unfold World.freeze
          split
          · rfl
          · simp only [Array.getElem?_modify]
            rw [if_neg]
            intro e2
            exact hx (by simp [Value.ownBlock, e2])
      clear hown hcells
      go_enter Try.func27, Try.ntmps27
      go_wp2
      go_region
      all_goals (go_wp2; go_ret; exact ⟨rfl, hlr⟩)
end Bu
end Go.Proofs.Ytghdimcdkjlpcaa
