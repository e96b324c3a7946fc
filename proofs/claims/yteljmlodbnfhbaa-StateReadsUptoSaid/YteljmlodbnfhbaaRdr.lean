/- varint's Reader: Open, Err, Left, Num, Int, Text, End. -/
import Derived.Test.YteljmlodbnfhbaaTake
import Derived.Test.YteljmlodbnfhbaaPutT
import Derived.Test.YteljmlodbnfhbaaZz
import Derived.Test.YteljmlodbnfhbaaWm
namespace Go.Proofs.Yteljmlodbnfhbaa
open Go.RowKit
/-- A reader in block g, of the bytes that are left, with its error; all of it lies below block B. -/
def Rdr (w : World) (B g : Nat) (bs : List UInt8) (e : Nat) : Prop :=
  ∃ A n c, w.heap[g]? = some (.cells #[.slice A n c, .int .i64 (e : Int)] 117 (0, 0)) ∧ n ≤ c ∧ n ≤ 140737488351232 ∧ Rd w B A n (bs.map bv) ∧ (∀ ad, A = some ad → ad.block ≠ g) ∧ g < B
section
variable {w w' : World} {B g e : Nat} {bs : List UInt8}
theorem Rdr.below (h : Rdr w B g bs e) (hb : Below B w w') : Rdr w' B g bs e := by
  obtain ⟨A, n, c, h1, h2, h3, h4, h5, h6⟩ := h
  exact ⟨A, n, c, (hb.block g h6).trans h1, h2, h3, h4.below hb, h5, h6⟩
theorem Rdr.more {B' : Nat} (h : Rdr w B g bs e) (hB : B ≤ B') : Rdr w B' g bs e := by
  obtain ⟨A, n, c, h1, h2, h3, h4, h5, h6⟩ := h
  exact ⟨A, n, c, h1, h2, h3, h4.more hB, h5, by omega⟩
theorem Rdr.lt (h : Rdr w B g bs e) : g < B := by
  obtain ⟨_, _, _, _, _, _, _, _, h6⟩ := h
  exact h6
theorem only_trans {a b c : World} {g : Nat} (h : a.grownBy b (some g)) (k : b.grownBy c (some g)) : a.grownBy c (some g) :=
  ⟨k.os.trans h.os, k.tape.trans h.tape, k.output.trans h.output, Nat.le_trans h.size k.size, fun i hi hne => (k.block i (Nat.lt_of_lt_of_le hi h.size) hne).trans (h.block i hi hne)⟩
/-- What a reader's block held is another slice and another error. -/
theorem Rdr.store {A A' : Option Addr} {n c n' c' e' : Nat} {bs' : List UInt8} {v : Value} (h1 : w.heap[g]? = some (.cells #[.slice A n c, v] 117 (0, 0))) (h2 : n' ≤ c') (h3 : n' ≤ 140737488351232)
    (h4 : Rd w B A' n' (bs'.map bv)) (h5 : ∀ ad, A' = some ad → ad.block ≠ g) (h6 : g < B) :
    Rdr ((w.setCell ⟨g, 0, none⟩ (.slice A' n' c')).setCell ⟨g, 1, none⟩ (.int .i64 (e' : Int))) B g bs' e' ∧ w.grownBy ((w.setCell ⟨g, 0, none⟩ (.slice A' n' c')).setCell ⟨g, 1, none⟩ (.int .i64 (e' : Int))) (some g) := by
  refine ⟨⟨A', n', c', ?_, h2, h3, ?_, h5, h6⟩, only_trans (set_only _ _ _ _) (set_only _ _ _ _)⟩
  · rw [set_row (set_row h1 0 _) 1 _]; rfl
  · refine ⟨h4.1, fun hn => ?_⟩
    obtain ⟨ad, e1, hb, hc⟩ := h4.2 hn
    refine ⟨ad, e1, hb, fun j u hu => ?_⟩
    have hne := h5 ad e1
    rw [World.cell?_setCell_other, World.cell?_setCell_other]
    · exact hc j u hu
    · intro e2; exact hne (by rw [← block_add ad j, ← e2])
    · intro e2; exact hne (by rw [← block_add ad j, ← e2])
theorem Rdr.store1 {A A' : Option Addr} {n c n' c' : Nat} {bs' : List UInt8} (h1 : w.heap[g]? = some (.cells #[.slice A n c, .int .i64 (e : Int)] 117 (0, 0))) (h2 : n' ≤ c') (h3 : n' ≤ 140737488351232)
    (h4 : Rd w B A' n' (bs'.map bv)) (h5 : ∀ ad, A' = some ad → ad.block ≠ g) (h6 : g < B) :
    Rdr (w.setCell ⟨g, 0, none⟩ (.slice A' n' c')) B g bs' e ∧ w.grownBy (w.setCell ⟨g, 0, none⟩ (.slice A' n' c')) (some g) := by
  refine ⟨⟨A', n', c', ?_, h2, h3, ?_, h5, h6⟩, set_only _ _ _ _⟩
  · rw [set_row h1 0 _]; rfl
  · refine ⟨h4.1, fun hn => ?_⟩
    obtain ⟨ad, e1, hb, hc⟩ := h4.2 hn
    refine ⟨ad, e1, hb, fun j u hu => ?_⟩
    have hne := h5 ad e1
    rw [World.cell?_setCell_other]
    · exact hc j u hu
    · intro e2; exact hne (by rw [← block_add ad j, ← e2])
theorem Rdr.store2 {A : Option Addr} {n c e' : Nat} {v : Value} (h1 : w.heap[g]? = some (.cells #[.slice A n c, v] 117 (0, 0))) (h2 : n ≤ c) (h3 : n ≤ 140737488351232)
    (h4 : Rd w B A n (bs.map bv)) (h5 : ∀ ad, A = some ad → ad.block ≠ g) (h6 : g < B) :
    Rdr (w.setCell ⟨g, 1, none⟩ (.int .i64 (e' : Int))) B g bs e' ∧ w.grownBy (w.setCell ⟨g, 1, none⟩ (.int .i64 (e' : Int))) (some g) := by
  refine ⟨⟨A, n, c, ?_, h2, h3, ?_, h5, h6⟩, set_only _ _ _ _⟩
  · rw [set_row h1 1 _]; rfl
  · refine ⟨h4.1, fun hn => ?_⟩
    obtain ⟨ad, e1, hb, hc⟩ := h4.2 hn
    refine ⟨ad, e1, hb, fun j u hu => ?_⟩
    have hne := h5 ad e1
    rw [World.cell?_setCell_other]
    · exact hc j u hu
    · intro e2; exact hne (by rw [← block_add ad j, ← e2])
end
theorem err_v (w : World) (g : Nat) (e : Int) (h1 : w.cell? ⟨g, 1, none⟩ = some (.int .i64 e)) :
    Calls Try.prog 64 #[.pointer (some ⟨g, 0, none⟩)] w fun r w' => r = .returned (.int .i64 e) ∧ w = w' := by
  go_enter Try.func64, Try.ntmps64
  go_wp2
  go_ret
  exact ⟨rfl, rfl⟩
theorem err_nil (w : World) :
    Calls Try.prog 64 #[.pointer none] w fun r w' => r = .returned (.int .i64 10) ∧ w = w' := by
  go_enter Try.func64, Try.ntmps64
  go_wp2
  go_ret
  exact ⟨rfl, rfl⟩
theorem left_nil (w : World) :
    Calls Try.prog 65 #[.pointer none] w fun r w' => r = .returned (.int .i64 0) ∧ w = w' := by
  go_enter Try.func65, Try.ntmps65
  go_wp2
  go_ret
  exact ⟨rfl, rfl⟩
theorem left_v (w : World) (B g : Nat) (bs : List UInt8) (e : Nat) (h : Rdr w B g bs e) :
    Calls Try.prog 65 #[.pointer (some ⟨g, 0, none⟩)] w fun r w' => r = .returned (.int .i64 (bs.length : Int)) ∧ w = w' := by
  obtain ⟨A, n, c, h1, h2, h3, h4, h5, h6⟩ := h
  have hc := (cell_row h1 0).1
  simp at hc
  have hl := Lib.hid h4.len
  clear h1 h4
  go_enter Try.func65, Try.ntmps65
  go_wp2
  go_ret
  exact ⟨by rw [hl.out]; rfl, rfl⟩
def endOf (bs : List UInt8) (e : Nat) : Int := if e ≠ 0 then (e : Int) else if bs = [] then 0 else 14
theorem endR_v (w : World) (B g : Nat) (bs : List UInt8) (e : Nat) (h : Rdr w B g bs e) :
    Calls Try.prog 39 #[.pointer (some ⟨g, 0, none⟩)] w fun r w' => r = .returned (.int .i64 (endOf bs e)) ∧ w = w' := by
  have H := Lib.hid h
  obtain ⟨A, n, c, h1, h2, h3, h4, h5, h6⟩ := h
  have hc := (cell_row h1 1).1
  simp at hc
  have HC := Lib.hid hc
  clear h1 h4 hc
  by_cases he : e = 0
  · subst he
    by_cases hb : bs = []
    · have HB := Lib.hid hb
      have hbl : ¬ (0 : Int) < (bs.length : Int) := by rw [hb]; simp
      clear hb
      go_enter Try.func39, Try.ntmps39
      go_wp2_with (first
        | (go_at_call 64; refine (err_v _ _ _ HC.out).mono ?_; rintro e w' ⟨rfl, rfl⟩)
        | (go_at_call 65; refine (left_v _ _ _ _ _ H.out).mono ?_; rintro e w' ⟨rfl, rfl⟩))
      go_ret
      exact ⟨by rw [endOf, if_neg (by omega), if_pos HB.out]; rfl, rfl⟩
    · have HB := Lib.hid hb
      have hbl : (0 : Int) < (bs.length : Int) := by have := List.length_pos_iff.2 hb; omega
      clear hb
      go_enter Try.func39, Try.ntmps39
      go_wp2_with (first
        | (go_at_call 64; refine (err_v _ _ _ HC.out).mono ?_; rintro e w' ⟨rfl, rfl⟩)
        | (go_at_call 65; refine (left_v _ _ _ _ _ H.out).mono ?_; rintro e w' ⟨rfl, rfl⟩))
      go_ret
      exact ⟨by rw [endOf, if_neg (by omega), if_neg HB.out]; rfl, rfl⟩
  · have hne : ((e : Int) != 0) = true := by simp; omega
    have HE := Lib.hid he
    clear he
    go_enter Try.func39, Try.ntmps39
    go_wp2_with (first
      | (go_at_call 64; refine (err_v _ _ _ HC.out).mono ?_; rintro e w' ⟨rfl, rfl⟩)
      | (go_at_call 65; refine (left_v _ _ _ _ _ H.out).mono ?_; rintro e w' ⟨rfl, rfl⟩))
    go_ret
    exact ⟨by rw [endOf, if_pos HE.out]; rfl, rfl⟩
theorem takeM_le (bs : List UInt8) : (takeM bs).2.1 ≤ bs.length ∧ (takeM bs).1 < 18446744073709551616 := by
  rcases takeM_cases bs with h | h <;> omega
theorem map_add_ne {A : Option Addr} {g : Nat} (h : ∀ ad, A = some ad → ad.block ≠ g) (k : Nat) : ∀ ad, A.map (·.add k) = some ad → ad.block ≠ g := by
  intro ad he
  rcases A with _ | a
  · cases he
  · simp at he; subst he; rw [block_add]; exact h a rfl
set_option maxHeartbeats 400000 in
theorem num_v (w : World) (B g : Nat) (bs : List UInt8) (e : Nat) (h : Rdr w B g bs e) :
    Calls Try.prog 73 #[.pointer (some ⟨g, 0, none⟩)] w fun r w' => r = .returned (.int .u64 ((numR bs e).1 : Int)) ∧ Rdr w' B g (numR bs e).2.1 (numR bs e).2.2 ∧ w.grownBy w' (some g) := by
  have H := Lib.hid h
  obtain ⟨A, n, c, h1, h2, h3, h4, h5, h6⟩ := h
  have hc1 := (cell_row h1 1).1
  have hc0 := (cell_row h1 0).1
  have hf1 := (cell_row h1 1).2
  have hf0 := (cell_row h1 0).2
  simp at hc1 hc0
  have HC := Lib.hid hc1
  have H1 := Lib.hid h1
  have H5 := Lib.hid h5
  have H4 := Lib.hid h4
  have hl := Lib.hid h4.len
  clear h1 h4 h5
  by_cases he : e = 0
  · subst he
    obtain ⟨x, k, e', ht⟩ : ∃ x k e', takeM bs = (x, k, e') := ⟨_, _, _, rfl⟩
    have hk : k ≤ n := by have := (takeM_le bs).1; rw [ht] at this; have := hl.out; simp at *; omega
    have HT := Lib.hid ht
    have hr : numR bs 0 = (x, bs.drop k, e') := by simp [numR, ht]
    rw [hr]
    have hcut := Lib.hid (H4.out.cut (k := k) hk h2)
    clear ht hr
    go_enter Try.func73, Try.ntmps73
    go_wp2_with (first
      | (go_at_call 64; refine (err_v _ _ _ HC.out).mono ?_; rintro e w' ⟨rfl, rfl⟩)
      | (go_at_call 78; refine (take_v A n c _ bs w H4.out h3).mono ?_; rintro e w' ⟨rfl, rfl⟩; rw [HT.out]))
    · go_ret
      exact ⟨rfl, Rdr.store H1.out (by omega) (by omega) (by have := hcut.out; rw [if_pos h, ← List.map_drop] at this; exact this) H5.out h6⟩
    · go_ret
      exact ⟨rfl, Rdr.store H1.out (by omega) (by omega) (by have := hcut.out; rw [if_neg h, ← List.map_drop] at this; exact this) (map_add_ne H5.out k) h6⟩
  · have hne : ((e : Int) != 0) = true := by simp; omega
    have hr : numR bs e = (0, bs, e) := by simp [numR, he]
    rw [hr]
    clear hr
    go_enter Try.func73, Try.ntmps73
    go_wp2_with (go_at_call 64; refine (err_v _ _ _ HC.out).mono ?_; rintro e w' ⟨rfl, rfl⟩)
    go_ret
    exact ⟨rfl, H.out, World.grownBy.refl w _⟩
theorem numR_lt (bs : List UInt8) (e : Nat) : (numR bs e).1 < 18446744073709551616 := by
  unfold numR; split
  · simp
  · exact (takeM_le bs).2
theorem int_v (w : World) (B g : Nat) (bs : List UInt8) (e : Nat) (h : Rdr w B g bs e) :
    Calls Try.prog 63 #[.pointer (some ⟨g, 0, none⟩)] w fun r w' => r = .returned (.int .i64 (zagOf (numR bs e).1)) ∧ Rdr w' B g (numR bs e).2.1 (numR bs e).2.2 ∧ w.grownBy w' (some g) := by
  have H := Lib.hid h
  have HL := Lib.hid (numR_lt bs e)
  obtain ⟨x, hx⟩ : ∃ x, x = (numR bs e).1 := ⟨_, rfl⟩
  rw [← hx] at HL
  have hn := num_v w B g bs e h
  rw [← hx] at hn ⊢
  clear hx h
  have HN := Lib.hid hn
  clear hn
  go_enter Try.func63, Try.ntmps63
  go_wp2_with (first
    | (go_at_call 73; refine HN.out.mono ?_; rintro e w1 ⟨rfl, hr1, hg1⟩)
    | (go_at_call 76; refine (zag_v x _ HL.out).mono ?_; rintro e w' ⟨rfl, rfl⟩))
  go_ret
  exact ⟨rfl, hr1, hg1⟩
set_option maxHeartbeats 400000 in
theorem text_v (w : World) (B g : Nat) (bs : List UInt8) (e : Nat) (h : Rdr w B g bs e) :
    Calls Try.prog 53 #[.pointer (some ⟨g, 0, none⟩)] w fun r w' => r = .returned (.string (mkS (textR bs e).1)) ∧ Rdr w' B g (textR bs e).2.1 (textR bs e).2.2 ∧ w.grownBy w' (some g) := by
  obtain ⟨x, b1, e1, hx⟩ : ∃ x b1 e1, numR bs e = (x, b1, e1) := ⟨_, _, _, rfl⟩
  have hn := num_v w B g bs e h
  rw [hx] at hn
  have HN := Lib.hid hn
  clear hn h
  by_cases he : e1 = 0
  · subst he
    by_cases hlt : b1.length < x
    · have ht : textR bs e = ([], b1, 10) := by simp [textR, hx, hlt]
      rw [ht]
      clear ht hx
      go_enter Try.func53, Try.ntmps53
      go_wp2_with (first
        | (go_at_call 73; refine HN.out.mono ?_; rintro e w1 ⟨rfl, hr1, hg1⟩; obtain ⟨A, n, c, h1, h2, h3, h4, h5, h6⟩ := hr1; have hc1 := (cell_row h1 1).1; have hc0 := (cell_row h1 0).1; have hf1 := (cell_row h1 1).2; have hf0 := (cell_row h1 0).2; simp at hc1 hc0; have hl := h4.len; subst hl; have HC := Lib.hid hc1; have H1 := Lib.hid h1; have H5 := Lib.hid h5; have H4 := Lib.hid h4; clear h1 h5 h4; have hw : IntKind.u64.wrap ((b1.length : Int)) = (b1.length : Int) := (by rw [IntKind.wrap_u64]; omega))
        | (go_at_call 64; refine (err_v _ _ _ HC.out).mono ?_; rintro e w' ⟨rfl, rfl⟩))
      go_ret
      obtain ⟨ha, hb⟩ := Rdr.store2 (e' := 10) H1.out h2 h3 H4.out H5.out h6
      exact ⟨rfl, ha, only_trans hg1 hb⟩
    · have ht : textR bs e = (b1.take x, b1.drop x, 0) := by simp [textR, hx, hlt]
      rw [ht]
      clear ht hx
      go_enter Try.func53, Try.ntmps53
      go_wp2_with (first
        | (go_at_call 73; refine HN.out.mono ?_; rintro e w1 ⟨rfl, hr1, hg1⟩; obtain ⟨A, n, c, h1, h2, h3, h4, h5, h6⟩ := hr1; have hc1 := (cell_row h1 1).1; have hc0 := (cell_row h1 0).1; have hf1 := (cell_row h1 1).2; have hf0 := (cell_row h1 0).2; simp at hc1 hc0; have hl := h4.len; subst hl; have HC := Lib.hid hc1; have H1 := Lib.hid h1; have H5 := Lib.hid h5; have H4 := Lib.hid h4; clear h1 h5 h4; have hw : IntKind.u64.wrap ((b1.length : Int)) = (b1.length : Int) := (by rw [IntKind.wrap_u64]; omega); have hcv := (fun cap => run_str_of (P := Try.prog) (by have := H4.out.take_ (k := x) (by omega); rw [← List.map_take] at this; exact this) 43 9 5 Try.underlying43 Try.underlying5 Try.underlying9 cap); have hcut := Lib.hid (H4.out.cut (k := x) (cap := c) (by omega) h2))
        | (go_at_call 64; refine (err_v _ _ _ HC.out).mono ?_; rintro e w' ⟨rfl, rfl⟩))
      · go_ret
        obtain ⟨ha, hb⟩ := Rdr.store1 (n' := b1.length - x) (c' := 0) H1.out (by omega) (by omega) (by have := hcut.out; rw [if_pos h, ← List.map_drop] at this; exact this) H5.out h6
        exact ⟨rfl, ha, only_trans hg1 hb⟩
      · go_ret
        obtain ⟨ha, hb⟩ := Rdr.store1 (n' := b1.length - x) (c' := c - x) H1.out (by omega) (by omega) (by have := hcut.out; rw [if_neg h, ← List.map_drop] at this; exact this) (map_add_ne H5.out x) h6
        exact ⟨rfl, ha, only_trans hg1 hb⟩
  · have ht : textR bs e = ([], b1, e1) := by simp [textR, hx, he]
    have hne : ((e1 : Int) != 0) = true := by simp; omega
    rw [ht]
    clear ht hx
    go_enter Try.func53, Try.ntmps53
    go_wp2_with (first
      | (go_at_call 73; refine HN.out.mono ?_; rintro e w1 ⟨rfl, hr1, hg1⟩; obtain ⟨A, n, c, h1, h2, h3, h4, h5, h6⟩ := hr1; have hc1 := (cell_row h1 1).1; have hc0 := (cell_row h1 0).1; have hf1 := (cell_row h1 1).2; have hf0 := (cell_row h1 0).2; simp at hc1 hc0; have hl := h4.len; subst hl; have HC := Lib.hid hc1; have H1 := Lib.hid h1; have H5 := Lib.hid h5; have H4 := Lib.hid h4; clear h1 h5 h4; have hw : IntKind.u64.wrap ((b1.length : Int)) = (b1.length : Int) := (by rw [IntKind.wrap_u64]; omega); have H0 : Hid (Rdr w1 B g b1 e1) := ⟨_, _, _, H1.out, h2, h3, H4.out, H5.out, h6⟩)
      | (go_at_call 64; refine (err_v _ _ _ HC.out).mono ?_; rintro e w' ⟨rfl, rfl⟩))
    go_ret
    exact ⟨rfl, H0.out, hg1⟩
end Go.Proofs.Yteljmlodbnfhbaa
