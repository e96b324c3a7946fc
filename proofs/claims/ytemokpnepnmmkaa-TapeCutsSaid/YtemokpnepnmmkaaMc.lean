/- varint's Reader: Open, Err, Left, Num, Int, Text, End. -/
import Derived.Test.YtemokpnepnmmkaaMb
namespace Go.Proofs.Ytemokpnepnmmkaa
open Go.RowKit
/-- A reader in block g, of the bytes that are left, with its error; all of it lies below block B. -/
def Rdr (w : World) (B g : Nat) (bs : List UInt8) (e : Nat) : Prop :=
  ∃ A n c, w.heap[g]? = some (.cells #[.slice A n c, .int .i64 (e : Int)] 129 (0, 0)) ∧ n ≤ c ∧ n ≤ 140737488351232 ∧ Rd w B A n (bs.map bv) ∧ (∀ ad, A = some ad → ad.block ≠ g) ∧ g < B
section
variable {w w' : World} {B g e : Nat} {bs : List UInt8}
theorem Rdr.below (h : Rdr w B g bs e) (hb : Below B w w') : Rdr w' B g bs e := by
  obtain ⟨A, n, c, h1, h2, h3, h4, h5, h6⟩ := h
  exact ⟨A, n, c, (hb.block g h6).trans h1, h2, h3, h4.below hb, h5, h6⟩
theorem Rdr.more {B' : Nat} (h : Rdr w B g bs e) (hB : B ≤ B') : Rdr w B' g bs e := by
  obtain ⟨A, n, c, h1, h2, h3, h4, h5, h6⟩ := h
  exact ⟨A, n, c, h1, h2, h3, h4.more hB, h5, by omega⟩
theorem Rdr.lt (h : Rdr w B g bs e) : g < B := by
  obtain ⟨_, _, _, _, _, _, _, _, h6⟩ := h
  exact h6
theorem cell_row {w : World} {g : Nat} {cs : Array Value} {t : TypeId} (h : w.heap[g]? = some (.cells cs t (0, 0))) (i : Nat) : w.cell? ⟨g, i, none⟩ = cs[i]? ∧ w.frozen? ⟨g, i, none⟩ = false :=
  ⟨cell_of_row w g i cs t (0, 0) h, by simp [World.frozen?, h]⟩
theorem set_row {w : World} {g : Nat} {cs : Array Value} {t : TypeId} (h : w.heap[g]? = some (.cells cs t (0, 0))) (i : Nat) (u : Value) : (w.setCell ⟨g, i, none⟩ u).heap[g]? = some (.cells (cs.setIfInBounds i u) t (0, 0)) := by
  simp [World.setCell, Array.getElem?_modify, h]
theorem set_only (w : World) (g i : Nat) (u : Value) : w.grownBy (w.setCell ⟨g, i, none⟩ u) (some g) :=
  ⟨rfl, rfl, rfl, by simp [World.setCell], fun k _ hk => Below.heap_setCell _ _ _ _ (fun e => hk (by rw [e]))⟩
theorem only_trans {a b c : World} {g : Nat} (h : a.grownBy b (some g)) (k : b.grownBy c (some g)) : a.grownBy c (some g) :=
  ⟨k.os.trans h.os, k.tape.trans h.tape, k.output.trans h.output, Nat.le_trans h.size k.size, fun i hi hne => (k.block i (Nat.lt_of_lt_of_le hi h.size) hne).trans (h.block i hi hne)⟩
/-- What a reader's block held is another slice and another error. -/
theorem Rdr.store {A A' : Option Addr} {n c n' c' e' : Nat} {bs' : List UInt8} {v : Value} (h1 : w.heap[g]? = some (.cells #[.slice A n c, v] 129 (0, 0))) (h2 : n' ≤ c') (h3 : n' ≤ 140737488351232)
    (h4 : Rd w B A' n' (bs'.map bv)) (h5 : ∀ ad, A' = some ad → ad.block ≠ g) (h6 : g < B) :
    Rdr ((w.setCell ⟨g, 0, none⟩ (.slice A' n' c')).setCell ⟨g, 1, none⟩ (.int .i64 (e' : Int))) B g bs' e' ∧ w.grownBy ((w.setCell ⟨g, 0, none⟩ (.slice A' n' c')).setCell ⟨g, 1, none⟩ (.int .i64 (e' : Int))) (some g) := by
  refine ⟨⟨A', n', c', ?_, h2, h3, ?_, h5, h6⟩, only_trans (set_only _ _ _ _) (set_only _ _ _ _)⟩
  · rw [set_row (set_row h1 0 _) 1 _]; rfl
  · refine ⟨h4.1, fun hn => ?_⟩
    obtain ⟨ad, e1, hb, hc⟩ := h4.2 hn
    refine ⟨ad, e1, hb, fun j u hu => ?_⟩
    have hne := h5 ad e1
    rw [World.cell?_setCell_other, World.cell?_setCell_other]
    · exact hc j u hu
    · intro e2; exact hne (by rw [← block_add ad j, ← e2])
    · intro e2; exact hne (by rw [← block_add ad j, ← e2])
theorem Rdr.store1 {A A' : Option Addr} {n c n' c' : Nat} {bs' : List UInt8} (h1 : w.heap[g]? = some (.cells #[.slice A n c, .int .i64 (e : Int)] 129 (0, 0))) (h2 : n' ≤ c') (h3 : n' ≤ 140737488351232)
    (h4 : Rd w B A' n' (bs'.map bv)) (h5 : ∀ ad, A' = some ad → ad.block ≠ g) (h6 : g < B) :
    Rdr (w.setCell ⟨g, 0, none⟩ (.slice A' n' c')) B g bs' e ∧ w.grownBy (w.setCell ⟨g, 0, none⟩ (.slice A' n' c')) (some g) := by
  refine ⟨⟨A', n', c', ?_, h2, h3, ?_, h5, h6⟩, set_only _ _ _ _⟩
  · rw [set_row h1 0 _]; rfl
  · refine ⟨h4.1, fun hn => ?_⟩
    obtain ⟨ad, e1, hb, hc⟩ := h4.2 hn
    refine ⟨ad, e1, hb, fun j u hu => ?_⟩
    have hne := h5 ad e1
    rw [World.cell?_setCell_other]
    · exact hc j u hu
    · intro e2; exact hne (by rw [← block_add ad j, ← e2])
theorem Rdr.store2 {A : Option Addr} {n c e' : Nat} {v : Value} (h1 : w.heap[g]? = some (.cells #[.slice A n c, v] 129 (0, 0))) (h2 : n ≤ c) (h3 : n ≤ 140737488351232)
    (h4 : Rd w B A n (bs.map bv)) (h5 : ∀ ad, A = some ad → ad.block ≠ g) (h6 : g < B) :
    Rdr (w.setCell ⟨g, 1, none⟩ (.int .i64 (e' : Int))) B g bs e' ∧ w.grownBy (w.setCell ⟨g, 1, none⟩ (.int .i64 (e' : Int))) (some g) := by
  refine ⟨⟨A, n, c, ?_, h2, h3, ?_, h5, h6⟩, set_only _ _ _ _⟩
  · rw [set_row h1 1 _]; rfl
  · refine ⟨h4.1, fun hn => ?_⟩
    obtain ⟨ad, e1, hb, hc⟩ := h4.2 hn
    refine ⟨ad, e1, hb, fun j u hu => ?_⟩
    have hne := h5 ad e1
    rw [World.cell?_setCell_other]
    · exact hc j u hu
    · intro e2; exact hne (by rw [← block_add ad j, ← e2])
end
theorem err_v (w : World) (g : Nat) (e : Int) (h1 : w.cell? ⟨g, 1, none⟩ = some (.int .i64 e)) :
    Calls Try.prog 76 #[.pointer (some ⟨g, 0, none⟩)] w fun r w' => r = .returned (.int .i64 e) ∧ w = w' := by
  go_enter Try.func76, Try.ntmps76
  go_wp2
  go_ret
  exact ⟨rfl, rfl⟩
theorem err_nil (w : World) :
    Calls Try.prog 76 #[.pointer none] w fun r w' => r = .returned (.int .i64 10) ∧ w = w' := by
  go_enter Try.func76, Try.ntmps76
  go_wp2
  go_ret
  exact ⟨rfl, rfl⟩
theorem left_nil (w : World) :
    Calls Try.prog 79 #[.pointer none] w fun r w' => r = .returned (.int .i64 0) ∧ w = w' := by
  go_enter Try.func79, Try.ntmps79
  go_wp2
  go_ret
  exact ⟨rfl, rfl⟩
theorem left_v (w : World) (B g : Nat) (bs : List UInt8) (e : Nat) (h : Rdr w B g bs e) :
    Calls Try.prog 79 #[.pointer (some ⟨g, 0, none⟩)] w fun r w' => r = .returned (.int .i64 (bs.length : Int)) ∧ w = w' := by
  obtain ⟨A, n, c, h1, h2, h3, h4, h5, h6⟩ := h
  have hc := (cell_row h1 0).1
  simp at hc
  have hl := Lib.hid h4.len
  clear h1 h4
  go_enter Try.func79, Try.ntmps79
  go_wp2
  go_ret
  exact ⟨by rw [hl.out]; rfl, rfl⟩
def endOf (bs : List UInt8) (e : Nat) : Int := if e ≠ 0 then (e : Int) else if bs = [] then 0 else 14
theorem endR_v (w : World) (B g : Nat) (bs : List UInt8) (e : Nat) (h : Rdr w B g bs e) :
    Calls Try.prog 77 #[.pointer (some ⟨g, 0, none⟩)] w fun r w' => r = .returned (.int .i64 (endOf bs e)) ∧ w = w' := by
  have H := Lib.hid h
  obtain ⟨A, n, c, h1, h2, h3, h4, h5, h6⟩ := h
  have hc := (cell_row h1 1).1
  simp at hc
  have HC := Lib.hid hc
  clear h1 h4 hc
  by_cases he : e = 0
  · subst he
    by_cases hb : bs = []
    · have HB := Lib.hid hb
      have hbl : ¬ (0 : Int) < (bs.length : Int) := by rw [hb]; simp
      clear hb
      go_enter Try.func77, Try.ntmps77
      go_wp2_with (first
        | (go_at_call 76; refine (err_v _ _ _ HC.out).mono ?_; rintro e w' ⟨rfl, rfl⟩)
        | (go_at_call 79; refine (left_v _ _ _ _ _ H.out).mono ?_; rintro e w' ⟨rfl, rfl⟩))
      go_ret
      exact ⟨by rw [endOf, if_neg (by omega), if_pos HB.out]; rfl, rfl⟩
    · have HB := Lib.hid hb
      have hbl : (0 : Int) < (bs.length : Int) := by have := List.length_pos_iff.2 hb; omega
      clear hb
      go_enter Try.func77, Try.ntmps77
      go_wp2_with (first
        | (go_at_call 76; refine (err_v _ _ _ HC.out).mono ?_; rintro e w' ⟨rfl, rfl⟩)
        | (go_at_call 79; refine (left_v _ _ _ _ _ H.out).mono ?_; rintro e w' ⟨rfl, rfl⟩))
      go_ret
      exact ⟨by rw [endOf, if_neg (by omega), if_neg HB.out]; rfl, rfl⟩
  · have hne : ((e : Int) != 0) = true := by simp; omega
    have HE := Lib.hid he
    clear he
    go_enter Try.func77, Try.ntmps77
    go_wp2_with (first
      | (go_at_call 76; refine (err_v _ _ _ HC.out).mono ?_; rintro e w' ⟨rfl, rfl⟩)
      | (go_at_call 79; refine (left_v _ _ _ _ _ H.out).mono ?_; rintro e w' ⟨rfl, rfl⟩))
    go_ret
    exact ⟨by rw [endOf, if_pos HE.out]; rfl, rfl⟩
theorem takeM_le (bs : List UInt8) : (takeM bs).2.1 ≤ bs.length ∧ (takeM bs).1 < 18446744073709551616 := by
  rcases takeM_cases bs with h | h <;> omega
theorem map_add_ne {A : Option Addr} {g : Nat} (h : ∀ ad, A = some ad → ad.block ≠ g) (k : Nat) : ∀ ad, A.map (·.add k) = some ad → ad.block ≠ g := by
  intro ad he
  rcases A with _ | a
  · cases he
  · simp at he; subst he; rw [block_add]; exact h a rfl
set_option maxHeartbeats 400000 in
theorem num_v (w : World) (B g : Nat) (bs : List UInt8) (e : Nat) (h : Rdr w B g bs e) :
    Calls Try.prog 74 #[.pointer (some ⟨g, 0, none⟩)] w fun r w' => r = .returned (.int .u64 ((numR bs e).1 : Int)) ∧ Rdr w' B g (numR bs e).2.1 (numR bs e).2.2 ∧ w.grownBy w' (some g) := by
  have H := Lib.hid h
  obtain ⟨A, n, c, h1, h2, h3, h4, h5, h6⟩ := h
  have hc1 := (cell_row h1 1).1
  have hc0 := (cell_row h1 0).1
  have hf1 := (cell_row h1 1).2
  have hf0 := (cell_row h1 0).2
  simp at hc1 hc0
  have HC := Lib.hid hc1
  have H1 := Lib.hid h1
  have H5 := Lib.hid h5
  have H4 := Lib.hid h4
  have hl := Lib.hid h4.len
  clear h1 h4 h5
  by_cases he : e = 0
  · subst he
    obtain ⟨x, k, e', ht⟩ : ∃ x k e', takeM bs = (x, k, e') := ⟨_, _, _, rfl⟩
    have hk : k ≤ n := by have := (takeM_le bs).1; rw [ht] at this; have := hl.out; simp at *; omega
    have HT := Lib.hid ht
    have hr : numR bs 0 = (x, bs.drop k, e') := by simp [numR, ht]
    rw [hr]
    have hcut := Lib.hid (H4.out.cut (k := k) hk h2)
    clear ht hr
    go_enter Try.func74, Try.ntmps74
    go_wp2_with (first
      | (go_at_call 76; refine (err_v _ _ _ HC.out).mono ?_; rintro e w' ⟨rfl, rfl⟩)
      | (go_at_call 71; refine (take_v A n c _ bs w H4.out h3).mono ?_; rintro e w' ⟨rfl, rfl⟩; rw [HT.out]))
    · go_ret
      exact ⟨rfl, Rdr.store H1.out (by omega) (by omega) (by have := hcut.out; rw [if_pos h, ← List.map_drop] at this; exact this) H5.out h6⟩
    · go_ret
      exact ⟨rfl, Rdr.store H1.out (by omega) (by omega) (by have := hcut.out; rw [if_neg h, ← List.map_drop] at this; exact this) (map_add_ne H5.out k) h6⟩
  · have hne : ((e : Int) != 0) = true := by simp; omega
    have hr : numR bs e = (0, bs, e) := by simp [numR, he]
    rw [hr]
    clear hr
    go_enter Try.func74, Try.ntmps74
    go_wp2_with (go_at_call 76; refine (err_v _ _ _ HC.out).mono ?_; rintro e w' ⟨rfl, rfl⟩)
    go_ret
    exact ⟨rfl, H.out, World.grownBy.refl w _⟩
theorem numR_lt (bs : List UInt8) (e : Nat) : (numR bs e).1 < 18446744073709551616 := by
  unfold numR; split
  · simp
  · exact (takeM_le bs).2
theorem int_v (w : World) (B g : Nat) (bs : List UInt8) (e : Nat) (h : Rdr w B g bs e) :
    Calls Try.prog 63 #[.pointer (some ⟨g, 0, none⟩)] w fun r w' => r = .returned (.int .i64 (zagOf (numR bs e).1)) ∧ Rdr w' B g (numR bs e).2.1 (numR bs e).2.2 ∧ w.grownBy w' (some g) := by
  have H := Lib.hid h
  have HL := Lib.hid (numR_lt bs e)
  obtain ⟨x, hx⟩ : ∃ x, x = (numR bs e).1 := ⟨_, rfl⟩
  rw [← hx] at HL
  have hn := num_v w B g bs e h
  rw [← hx] at hn ⊢
  clear hx h
  have HN := Lib.hid hn
  clear hn
  go_enter Try.func63, Try.ntmps63
  go_wp2_with (first
    | (go_at_call 74; refine HN.out.mono ?_; rintro e w1 ⟨rfl, hr1, hg1⟩)
    | (go_at_call 75; refine (zag_v x _ HL.out).mono ?_; rintro e w' ⟨rfl, rfl⟩))
  go_ret
  exact ⟨rfl, hr1, hg1⟩
set_option maxHeartbeats 400000 in
theorem text_v (w : World) (B g : Nat) (bs : List UInt8) (e : Nat) (h : Rdr w B g bs e) :
    Calls Try.prog 64 #[.pointer (some ⟨g, 0, none⟩)] w fun r w' => r = .returned (.string (mkS (textR bs e).1)) ∧ Rdr w' B g (textR bs e).2.1 (textR bs e).2.2 ∧ w.grownBy w' (some g) := by
  obtain ⟨x, b1, e1, hx⟩ : ∃ x b1 e1, numR bs e = (x, b1, e1) := ⟨_, _, _, rfl⟩
  have hn := num_v w B g bs e h
  rw [hx] at hn
  have HN := Lib.hid hn
  clear hn h
  by_cases he : e1 = 0
  · subst he
    by_cases hlt : b1.length < x
    · have ht : textR bs e = ([], b1, 10) := by simp [textR, hx, hlt]
      rw [ht]
      clear ht hx
      go_enter Try.func64, Try.ntmps64
      go_wp2_with (first
        | (go_at_call 74; refine HN.out.mono ?_; rintro e w1 ⟨rfl, hr1, hg1⟩; obtain ⟨A, n, c, h1, h2, h3, h4, h5, h6⟩ := hr1; have hc1 := (cell_row h1 1).1; have hc0 := (cell_row h1 0).1; have hf1 := (cell_row h1 1).2; have hf0 := (cell_row h1 0).2; simp at hc1 hc0; have hl := h4.len; subst hl; have HC := Lib.hid hc1; have H1 := Lib.hid h1; have H5 := Lib.hid h5; have H4 := Lib.hid h4; clear h1 h5 h4; have hw : IntKind.u64.wrap ((b1.length : Int)) = (b1.length : Int) := (by rw [IntKind.wrap_u64]; omega))
        | (go_at_call 76; refine (err_v _ _ _ HC.out).mono ?_; rintro e w' ⟨rfl, rfl⟩))
      go_ret
      obtain ⟨ha, hb⟩ := Rdr.store2 (e' := 10) H1.out h2 h3 H4.out H5.out h6
      exact ⟨rfl, ha, only_trans hg1 hb⟩
    · have ht : textR bs e = (b1.take x, b1.drop x, 0) := by simp [textR, hx, hlt]
      rw [ht]
      clear ht hx
      go_enter Try.func64, Try.ntmps64
      go_wp2_with (first
        | (go_at_call 74; refine HN.out.mono ?_; rintro e w1 ⟨rfl, hr1, hg1⟩; obtain ⟨A, n, c, h1, h2, h3, h4, h5, h6⟩ := hr1; have hc1 := (cell_row h1 1).1; have hc0 := (cell_row h1 0).1; have hf1 := (cell_row h1 1).2; have hf0 := (cell_row h1 0).2; simp at hc1 hc0; have hl := h4.len; subst hl; have HC := Lib.hid hc1; have H1 := Lib.hid h1; have H5 := Lib.hid h5; have H4 := Lib.hid h4; clear h1 h5 h4; have hw : IntKind.u64.wrap ((b1.length : Int)) = (b1.length : Int) := (by rw [IntKind.wrap_u64]; omega); have hcv := (fun cap => run_str_of (P := Try.prog) (by have := H4.out.take_ (k := x) (by omega); rw [← List.map_take] at this; exact this) 28 9 5 Try.underlying28 Try.underlying5 Try.underlying9 cap); have hcut := Lib.hid (H4.out.cut (k := x) (cap := c) (by omega) h2))
        | (go_at_call 76; refine (err_v _ _ _ HC.out).mono ?_; rintro e w' ⟨rfl, rfl⟩))
      · go_ret
        obtain ⟨ha, hb⟩ := Rdr.store1 (n' := b1.length - x) (c' := 0) H1.out (by omega) (by omega) (by have := hcut.out; rw [if_pos h, ← List.map_drop] at this; exact this) H5.out h6
        exact ⟨rfl, ha, only_trans hg1 hb⟩
      · go_ret
        obtain ⟨ha, hb⟩ := Rdr.store1 (n' := b1.length - x) (c' := c - x) H1.out (by omega) (by omega) (by have := hcut.out; rw [if_neg h, ← List.map_drop] at this; exact this) (map_add_ne H5.out x) h6
        exact ⟨rfl, ha, only_trans hg1 hb⟩
  · have ht : textR bs e = ([], b1, e1) := by simp [textR, hx, he]
    have hne : ((e1 : Int) != 0) = true := by simp; omega
    rw [ht]
    clear ht hx
    go_enter Try.func64, Try.ntmps64
    go_wp2_with (first
      | (go_at_call 74; refine HN.out.mono ?_; rintro e w1 ⟨rfl, hr1, hg1⟩; obtain ⟨A, n, c, h1, h2, h3, h4, h5, h6⟩ := hr1; have hc1 := (cell_row h1 1).1; have hc0 := (cell_row h1 0).1; have hf1 := (cell_row h1 1).2; have hf0 := (cell_row h1 0).2; simp at hc1 hc0; have hl := h4.len; subst hl; have HC := Lib.hid hc1; have H1 := Lib.hid h1; have H5 := Lib.hid h5; have H4 := Lib.hid h4; clear h1 h5 h4; have hw : IntKind.u64.wrap ((b1.length : Int)) = (b1.length : Int) := (by rw [IntKind.wrap_u64]; omega); have H0 : Hid (Rdr w1 B g b1 e1) := ⟨_, _, _, H1.out, h2, h3, H4.out, H5.out, h6⟩)
      | (go_at_call 76; refine (err_v _ _ _ HC.out).mono ?_; rintro e w' ⟨rfl, rfl⟩))
    go_ret
    exact ⟨rfl, H0.out, hg1⟩
end Go.Proofs.Ytemokpnepnmmkaa
/- The document's Num. -/
namespace Go.Proofs.Ytemokpnepnmmkaa
open Go.RowKit
set_option maxHeartbeats 400000 in
theorem refNum_v (x : Nat) (w : World) (hx : x < 18446744073709551616) :
    Calls Try.prog 28 #[.int .u64 (x : Int)] w fun e w' => e = .returned (.string (mkS (numL x))) ∧ Below w.heap.size w w' := by
  have h10 := Lib.hid (numL_ten hx)
  have HX := Lib.hid hx
  clear hx
  go_enter Try.func28, Try.ntmps28
  go_wp2
  go_loopw [0, 3] (fun y s wr => ∃ (done : List UInt8) (z : Nat), y = .int .u64 (z : Int) ∧ s = .string (mkS done) ∧ Hid (z < 18446744073709551616) ∧ numL x = done ++ numL z ∧ Below w.heap.size w wr) (fun y _ _ => (intOf y).toNat)
  case atStart => exact ⟨[], x, rfl, rfl, HX, rfl, Below.refl _ _⟩
  case round =>
    obtain ⟨done, z, rfl, rfl, hz, hd, hb⟩ := hrel
    have hle := numL_ne z
    have hlen : done.length + (numL z).length ≤ 10 := by have := h10.out; rw [hd, List.length_append] at this; exact this
    have hs1 := mkS_size done
    have hsz := hb.size
    have HD := Lib.hid hd
    clear hd
    by_cases h128 : 128 ≤ z
    · have hdv := u64_div128 z hz.out
      obtain ⟨c, hc⟩ : ∃ c, c = UInt8.ofNat (128 + z % 128) := ⟨_, rfl⟩
      have hcv : ∀ (W : World) (cap : Nat), (convert 28 9 (.slice (some ⟨W.heap.size, 0, none⟩) 1 cap)).run Try.prog (W.alloc (.cells #[.int .u8 (128 + (z : Int) % 128)] 5)) = .ok (.string (mkS [c])) (W.alloc (.cells #[.int .u8 (128 + (z : Int) % 128)] 5)) := fun W cap => by
        rw [hc]; have := str1 W (128 + z % 128) (by omega) cap
        simpa using this
      have hs2 := mkS_size [c]
      rw [List.length_singleton] at hs2
      have HC := Lib.hid hc
      clear hc
      have h7 : (127 : Int) < (z : Int) := by omega
      go_wp2
      go_roundw
      case rel =>
        refine ⟨done ++ [c], z / 128, by go_num, by rw [mkS_add], ?_, ?_, hb.alloc hsz _⟩
        · have := hz.out; show z / 128 < _; omega
        · rw [HD.out, numL_ge h128, Nat.add_comm, HC.out]; simp
      case measure => simp [intOf]; omega
    · have hw8 : IntKind.u8.wrap (z : Int) = (z : Int) := by rw [IntKind.wrap_u8']; omega
      obtain ⟨c, hc⟩ : ∃ c, c = UInt8.ofNat z := ⟨_, rfl⟩
      have hcv := fun W => str1 W z (by omega)
      rw [← hc] at hcv
      have HC := Lib.hid hc
      clear hc
      have hs2 := mkS_size [c]
      rw [List.length_singleton] at hs2
      have h7 : ¬ (127 : Int) < (z : Int) := by omega
      go_wp2
      go_ret
      refine ⟨?_, hb.alloc hsz _⟩
      rw [HD.out, numL_lt (by omega), ← mkS_add, ← HC.out]; rfl
end Go.Proofs.Ytemokpnepnmmkaa
/- varint's Open. -/
namespace Go.Proofs.Ytemokpnepnmmkaa
open Go.RowKit
theorem open_v (A : Option Addr) (n cap B : Nat) (bs : List UInt8) (w : World) (hr : Rd w B A n (bs.map bv)) (hn : n ≤ 140737488351232) :
    Calls Try.prog 61 #[.slice A n cap] w fun r w' => ∃ g, r = .returned (.pointer (some ⟨g, 0, none⟩)) ∧ Rdr w' w'.heap.size g bs 0 ∧ Below w.heap.size w w' ∧ w.heap.size ≤ g := by
  obtain ⟨i0, hi, hz0, hz1, hz2⟩ := info_parts info_u8
  have HR := Lib.hid hr
  have hl := Lib.hid hr.len
  clear hr
  go_enter Try.func61, Try.ntmps61
  go_wp2_with (at_builtin; refine wpList_appN w rfl (.const (.slice none 0 0)) (.tmp 3) _ rfl w.heap.size 5 i0 (.int .u8 0) 1 Try.underlying28 hi hz0 hz1 hz2 rfl (.slice none 0 0) [] rfl (World.ownsRow_nil w _ _ 1) B A n cap (bs.map bv) rfl HR.out (bv_one bs) (by simp; omega) (by simp; omega) (Nat.le_refl _) ?_; intro v1 w1 hg1; have hsz := hg1.grown.size; obtain ⟨A1, c1, rfl, h1, h2, h3⟩ := own_slice hg1.own; have H3 := Lib.hid h3; have H2 := Lib.hid h2; clear h3 h2)
  go_ret
  have hln : ([] ++ bs.map bv).length = n := by simpa using hl.out
  rw [List.nil_append] at hln
  have h2 := H2.out
  rw [List.nil_append, hln] at h2
  refine ⟨w1.heap.size, rfl, ⟨A1, n, c1, by rw [heap_alloc_new]; simp [hl.out], by simp [hln] at h1; exact h1, hn, ?_, fun ad e => ?_, by simp⟩, hg1.belowNil.alloc hsz _, hsz⟩
  · exact (h2.below ((Below.refl _ _).alloc (Nat.le_refl _) _)).more (by simp)
  · have := H3.out ad e; omega
end Go.Proofs.Ytemokpnepnmmkaa
/- The document's Take: what it tells of any text. -/
namespace Go.Proofs.Ytemokpnepnmmkaa
open Go.RowKit
theorem val_tail_le (b : List UInt8) (j m : Nat) (h : j ≤ m) : val ((b.drop j).take (m - j)) ≤ val (b.take m) := by
  have e : b.take m = b.take j ++ (b.drop j).take (m - j) := by
    have := List.take_append_drop j (b.take m)
    rw [List.take_take, Nat.min_eq_left h, List.drop_take] at this
    exact this.symm
  rw [e, val_append]
  have : 1 ≤ 128 ^ (b.take j).length := Nat.pos_of_ne_zero (by have := Nat.pow_pos (n := (b.take j).length) (show 0 < 128 by omega); omega)
  have := Nat.mul_le_mul_right (val ((b.drop j).take (m - j))) this
  omega
theorem val_step (b : List UInt8) (j k : Nat) (hj : j ≤ k) (h : k < b.length) : 128 * val ((b.drop (j + 1)).take (k - j)) + (b[j]'(by omega)).toNat % 128 = val ((b.drop j).take (k + 1 - j)) := by
  have := val_cons_drop b j (k - j) (by omega)
  rw [show k - j + 1 = k + 1 - j by omega] at this
  omega
def rel2 (bs : List UInt8) (k : Nat) (x i : Value) : Prop :=
  (∃ j : Nat, i = .int .i64 (j : Int) ∧ j ≤ k ∧ x = .int .u64 (val ((bs.drop (j + 1)).take (k - j)) : Int)) ∨ (i = .int .i64 (-1) ∧ x = .int .u64 (val (bs.take (k + 1)) : Int))
theorem rel2_start (bs : List UInt8) (k : Nat) : rel2 bs k (.int .u64 0) (.int .i64 (k : Int)) := .inl ⟨k, rfl, Nat.le_refl _, by simp [val]⟩
theorem rel2_step (bs : List UInt8) (j k : Nat) (hj : j ≤ k) (h : k < bs.length) (y : Int) (hy : y = (128 * val ((bs.drop (j + 1)).take (k - j)) + (bs[j]'(by omega)).toNat % 128 : Nat)) : rel2 bs k (.int .u64 y) (.int .i64 ((j : Int) - 1)) := by
  rw [val_step bs j k hj h] at hy
  subst hy
  cases j with
  | zero => exact .inr ⟨by simp, by simp⟩
  | succ j => exact .inl ⟨j, by go_num, by omega, by rw [show k + 1 - (j + 1) = k - j by omega]⟩
theorem val_wrap (bs : List UInt8) (j k : Nat) (hj : j ≤ k) (h : k < bs.length) (hv : val (bs.take (k + 1)) < 18446744073709551616) (c : Nat) (hc : c = (bs[j]'(by omega)).toNat) :
    IntKind.u64.wrap (128 * (val ((bs.drop (j + 1)).take (k - j)) : Int)) = 128 * (val ((bs.drop (j + 1)).take (k - j)) : Int) ∧
    IntKind.u64.wrap (128 * (val ((bs.drop (j + 1)).take (k - j)) : Int) + (c : Int) % 128) = ((128 * val ((bs.drop (j + 1)).take (k - j)) + (bs[j]'(by omega)).toNat % 128 : Nat) : Int) := by
  have h1 := val_tail_le bs j (k + 1) (by omega)
  have h2 := val_step bs j k hj h
  rw [← hc] at h2 ⊢
  rw [IntKind.wrap_u64, IntKind.wrap_u64]
  omega
set_option maxRecDepth 100000 in
set_option maxHeartbeats 800000 in
theorem refTake_v (s : ByteArray) (w : World) (hn : s.size ≤ 140737488351232) :
    Calls Try.prog 67 #[.string s] w fun e w' => e = .returned (.tuple #[.int .u64 ((takeM s.data.toList).1 : Int), .int .i64 ((takeM s.data.toList).2.1 : Int), .int .i64 ((takeM s.data.toList).2.2 : Int)]) ∧ w = w' := by
  have hh : heads s.data.toList ≤ 10 ∧ heads s.data.toList ≤ s.size := heads_le s.data.toList
  obtain ⟨m, hm⟩ : ∃ m, m = heads s.data.toList := ⟨_, rfl⟩
  rw [← hm] at hh
  have HM := Lib.hid hm
  clear hm
  go_enter Try.func67, Try.ntmps67
  go_wp2
  go_loop [5] (fun i => ∃ k : Nat, k ≤ m ∧ i = .int .i64 (k : Int)) (fun i => 10 - (intOf i).toNat)
  case atStart => exact ⟨0, by omega, rfl⟩
  case round =>
    obtain ⟨k, hk, rfl⟩ := hrel
    by_cases hks : k < s.size
    · by_cases hk10 : k < 10
      · have hat := Lib.hid (heads_at s.data.toList k hks hk10 (by rw [← HM.out]; exact hk))
        by_cases h128 : 128 ≤ s[k].toNat
        · have hk1 : Hid (k + 1 ≤ m) := by rw [HM.out]; exact hat.out.1 (by rw [sget s k hks]; exact h128)
          have h128' : (128 : Int) ≤ (s[k].toNat : Int) := by omega
          go_wp2
          go_round
          case rel => exact ⟨k + 1, hk1.out, by go_num⟩
          case measure => simp [intOf]; omega
        · have hmk : Hid (m = k) := by rw [HM.out]; exact hat.out.2 (by rw [sget s k hks]; omega)
          have h128' : ¬ (128 : Int) ≤ (s[k].toNat : Int) := by omega
          clear hat
          have hhk : Hid (heads s.data.toList = k) := by have := hmk.out; have := HM.out; show heads s.data.toList = k; omega
          by_cases hmb : mayB s[k].toNat k = true
          · obtain ⟨ht, hlt⟩ := takeM_yes s.data.toList k hks hk10 hhk.out (by rw [sget s k hks]; exact hmb)
            have HT := Lib.hid ht
            have HLT := Lib.hid hlt
            clear ht hlt
            simp only [mayB, decide_eq_true_eq] at hmb
            have hcs : k = 0 ∨ (0 < k ∧ k < 9 ∧ 0 < s[k].toNat) ∨ (k = 9 ∧ s[k].toNat = 1) := by omega
            clear hmb
            rcases hcs with h0 | ⟨h0, h9, hp⟩ | ⟨h9, h1⟩
            · subst h0
              go_wp2
              go_loop [6, 7] (fun x i => rel2 s.data.toList 0 x i) (fun _ i => (intOf i + 1).toNat)
              case atStart => exact rel2_start _ 0
              case round =>
                rcases hrel with ⟨j, rfl, hj, rfl⟩ | ⟨rfl, rfl⟩
                · have hjs : j < s.size := by omega
                  have hwr := val_wrap s.data.toList j 0 hj hks HLT.out s[j].toNat (by rw [sget s j hjs])
                  have hjr := Lib.hid (rel2_step s.data.toList j 0 hj hks)
                  obtain ⟨X, hX⟩ : ∃ X, X = val ((s.data.toList.drop (j + 1)).take (0 - j)) := ⟨_, rfl⟩
                  obtain ⟨Y, hY⟩ : ∃ Y, Y = 128 * val ((s.data.toList.drop (j + 1)).take (0 - j)) + (s.data.toList[j]'hjs).toNat % 128 := ⟨_, rfl⟩
                  rw [← hY, ← hX] at hwr
                  rw [← hY] at hjr
                  rw [← hX]
                  obtain ⟨hw1, hw2⟩ := hwr
                  have HXX := Lib.hid hX
                  have HYY := Lib.hid hY
                  clear hX hY
                  have h256 : s[j].toNat < 256 := UInt8.toNat_lt _
                  go_wp2
                  go_round
                  case rel => exact hjr.out _ rfl
                  case measure => simp [intOf] <;> omega
                · go_wp2
                  go_ret3
                  exact ⟨take_ret _ _ _ _ _ _ (by rw [HT.out]) (by rw [HT.out]; simp) (by rw [HT.out]; rfl), rfl⟩
            · have hne : ((s[k].toNat : Int) == 0) = false := by simp; omega
              go_wp2
              go_loop [6, 7] (fun x i => rel2 s.data.toList k x i) (fun _ i => (intOf i + 1).toNat)
              case atStart => exact rel2_start _ k
              case round =>
                rcases hrel with ⟨j, rfl, hj, rfl⟩ | ⟨rfl, rfl⟩
                · have hjs : j < s.size := by omega
                  have hwr := val_wrap s.data.toList j k hj hks HLT.out s[j].toNat (by rw [sget s j hjs])
                  have hjr := Lib.hid (rel2_step s.data.toList j k hj hks)
                  obtain ⟨X, hX⟩ : ∃ X, X = val ((s.data.toList.drop (j + 1)).take (k - j)) := ⟨_, rfl⟩
                  obtain ⟨Y, hY⟩ : ∃ Y, Y = 128 * val ((s.data.toList.drop (j + 1)).take (k - j)) + (s.data.toList[j]'hjs).toNat % 128 := ⟨_, rfl⟩
                  rw [← hY, ← hX] at hwr
                  rw [← hY] at hjr
                  rw [← hX]
                  obtain ⟨hw1, hw2⟩ := hwr
                  have HXX := Lib.hid hX
                  have HYY := Lib.hid hY
                  clear hX hY
                  have h256 : s[j].toNat < 256 := UInt8.toNat_lt _
                  go_wp2
                  go_round
                  case rel => exact hjr.out _ rfl
                  case measure => simp [intOf] <;> omega
                · go_wp2
                  go_ret3
                  exact ⟨take_ret _ _ _ _ _ _ (by rw [HT.out]) (by rw [HT.out]; simp) (by rw [HT.out]; rfl), rfl⟩
            · subst h9
              have hne : ((s[9].toNat : Int) == 0) = false := by simp; omega
              have hne1 : ¬ (1 : Int) < (s[9].toNat : Int) := by omega
              have H1 := Lib.hid h1
              clear h1
              go_wp2
              go_loop [6, 7] (fun x i => rel2 s.data.toList 9 x i) (fun _ i => (intOf i + 1).toNat)
              case atStart => exact rel2_start _ 9
              case round =>
                rcases hrel with ⟨j, rfl, hj, rfl⟩ | ⟨rfl, rfl⟩
                · have hjs : j < s.size := by omega
                  have hwr := val_wrap s.data.toList j 9 hj hks HLT.out s[j].toNat (by rw [sget s j hjs])
                  have hjr := Lib.hid (rel2_step s.data.toList j 9 hj hks)
                  obtain ⟨X, hX⟩ : ∃ X, X = val ((s.data.toList.drop (j + 1)).take (9 - j)) := ⟨_, rfl⟩
                  obtain ⟨Y, hY⟩ : ∃ Y, Y = 128 * val ((s.data.toList.drop (j + 1)).take (9 - j)) + (s.data.toList[j]'hjs).toNat % 128 := ⟨_, rfl⟩
                  rw [← hY, ← hX] at hwr
                  rw [← hY] at hjr
                  rw [← hX]
                  obtain ⟨hw1, hw2⟩ := hwr
                  have HXX := Lib.hid hX
                  have HYY := Lib.hid hY
                  clear hX hY
                  have h256 : s[j].toNat < 256 := UInt8.toNat_lt _
                  go_wp2
                  go_round
                  case rel => exact hjr.out _ rfl
                  case measure => simp [intOf] <;> omega
                · go_wp2
                  go_ret3
                  exact ⟨take_ret _ _ _ _ _ _ (by rw [HT.out]) (by rw [HT.out]; simp) (by rw [HT.out]; rfl), rfl⟩
          · have hmb' : mayB s[k].toNat k = false := by simpa using hmb
            have HT := Lib.hid (takeM_no s.data.toList k hks hk10 hhk.out (by rw [sget s k hks]; exact hmb'))
            simp only [mayB, decide_eq_true_eq] at hmb
            clear hmb'
            have hcs : (0 < k ∧ s[k].toNat = 0) ∨ (k = 9 ∧ 1 < s[k].toNat) := by omega
            clear hmb
            rcases hcs with ⟨h0, hp⟩ | ⟨h9, h1⟩
            · have hne : ((s[k].toNat : Int) == 0) = true := by simp; omega
              have HP := Lib.hid hp
              clear hp h128 
              go_wp2
              go_ret3
              exact ⟨take_ret _ _ _ _ _ _ (by rw [HT.out]; rfl) (by rw [HT.out]; rfl) (by rw [HT.out]; rfl), rfl⟩
            · subst h9
              have hne : ((s[9].toNat : Int) == 0) = false := by simp; omega
              have hne1 : (1 : Int) < (s[9].toNat : Int) := by omega
              go_wp2
              go_ret3
              exact ⟨take_ret _ _ _ _ _ _ (by rw [HT.out]; rfl) (by rw [HT.out]; rfl) (by rw [HT.out]; rfl), rfl⟩
      · have hk10' : k = 10 := by omega
        subst hk10'
        have HT : Hid (takeM s.data.toList = (0, 0, 11)) := by
          unfold takeM; have := HM.out; show (if _ then _ else _) = _; rw [if_pos (by omega)]
        go_wp2
        go_ret3
        exact ⟨take_ret _ _ _ _ _ _ (by rw [HT.out]; rfl) (by rw [HT.out]; rfl) (by rw [HT.out]; rfl), rfl⟩
    · have hks' : m = k ∧ k = s.size := by omega
      by_cases hk10 : k = 10
      · have HT : Hid (takeM s.data.toList = (0, 0, 11)) := by
          unfold takeM; have := HM.out; show (if _ then _ else _) = _; rw [if_pos (by omega)]
        have HK := Lib.hid hks'.2
        subst hk10
        clear hks'
        go_wp2
        go_ret3
        exact ⟨take_ret _ _ _ _ _ _ (by rw [HT.out]; rfl) (by rw [HT.out]; rfl) (by rw [HT.out]; rfl), rfl⟩
      · have HT : Hid (takeM s.data.toList = (0, 0, 10)) := by
          unfold takeM; have := HM.out; have e := size_toList s; show (if _ then _ else _) = _; rw [if_neg (by omega), if_pos (by omega)]
        have hk10' : ((k : Int) == 10) = false := by simp; omega
        obtain ⟨_, hks'⟩ := hks'
        subst hks'
        go_wp2
        go_ret3
        exact ⟨take_ret _ _ _ _ _ _ (by rw [HT.out]; rfl) (by rw [HT.out]; rfl) (by rw [HT.out]; rfl), rfl⟩
end Go.Proofs.Ytemokpnepnmmkaa
