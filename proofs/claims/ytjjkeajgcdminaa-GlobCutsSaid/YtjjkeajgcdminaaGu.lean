/- awake, few: what the statements begin with. No premises. -/
import Derived.Test.YtjjkeajgcdminaaGt
namespace Go.Proofs.Ytjjkeajgcdminaa
open Go.RowKit Go.Maps
namespace Gl
theorem irr (a : L) : ¬ a < a := List.lt_irrefl a
/-- Rising rows with the same elements are one. -/
theorem up_one : ∀ (l1 l2 : List L), l1.Pairwise (· < ·) → l2.Pairwise (· < ·) → (∀ x, x ∈ l1 ↔ x ∈ l2) → l1 = l2
  | [], [], _, _, _ => rfl
  | [], b :: l2, _, _, h => by have := (h b).2 (List.mem_cons_self ..); cases this
  | a :: l1, [], _, _, h => by have := (h a).1 (List.mem_cons_self ..); cases this
  | a :: l1, b :: l2, h1, h2, h => by
    rw [List.pairwise_cons] at h1 h2
    have hab : a = b := by
      rcases List.mem_cons.1 ((h a).1 (List.mem_cons_self ..)) with e | e
      · exact e
      · rcases List.mem_cons.1 ((h b).2 (List.mem_cons_self ..)) with e' | e'
        · exact e'.symm
        · exact absurd (List.lt_trans (h1.1 b e') (h2.1 a e)) (irr a)
    subst hab
    have := up_one l1 l2 h1.2 h2.2 fun x => by
      constructor
      · intro hx
        rcases List.mem_cons.1 ((h x).1 (List.mem_cons_of_mem _ hx)) with e | e
        · subst e; exact absurd (h1.1 x hx) (irr x)
        · exact e
      · intro hx
        rcases List.mem_cons.1 ((h x).2 (List.mem_cons_of_mem _ hx)) with e | e
        · subst e; exact absurd (h2.1 x hx) (irr x)
        · exact e
    rw [this]
theorem pick0 : pick [42] [] [[98], [46, 99], [97], [98]] = [[97], [98]] := by
  obtain ⟨h1, h2⟩ := pick_up [42] [] [[98], [46, 99], [97], [98]]
  refine up_one _ _ h1 (by decide +kernel) fun x => ?_
  rw [h2, show picked [42] [] [[98], [46, 99], [97], [98]] = [[98], [97], [98]] by decide +kernel]
  simp
  exact fun h => .inr h
theorem cut0 (v : Option Nat) (h : Best false (QC false (sgF [42, 98] [] 0) [97, 98, 97, 98]) v) : cutOf false [97, 98, 97, 98] v = [97, 98] := by
  have hb : Best false (QC false (sgF [42, 98] [] 0) [97, 98, 97, 98]) (some 2) := by
    refine ⟨⟨by decide, (tb_iff _ _).1 (by decide +kernel)⟩, fun m hm => ?_⟩
    simp only [Bool.false_eq_true, if_false]
    obtain ⟨h1, h2⟩ := hm
    have h2 := (tb_iff _ _).2 h2
    match m, h1, h2 with
    | 0, _, h2 => exact absurd h2 (by decide +kernel)
    | 1, _, h2 => exact absurd h2 (by decide +kernel)
    | m + 2, _, _ => omega
  rw [h.one hb]
  rfl
/-- Has a pattern few bytes, and few stars? -/
def few (t : L) : Bool := decide (t.length ≤ 20) && decide (t.count 42 ≤ 5)
theorem few_len {t : L} (h : few t = true) : t.length ≤ 20 := by unfold few at h; simp at h; exact h.1
theorem count_next {t : L} {k : Nat} {b : UInt8} (hb : t[k]? = some b) : (t.take (k + 1)).count 42 = (t.take k).count 42 + if b = 42 then 1 else 0 := by
  obtain ⟨hk, e⟩ := List.getElem?_eq_some_iff.1 hb
  rw [List.take_succ_eq_append_getElem hk, List.count_append, e]
  by_cases h : b = 42
  · rw [if_pos h, h]; rfl
  · rw [if_neg h]; simp [h]
end Gl
namespace Gs
set_option maxRecDepth 100000 in
set_option maxHeartbeats 1600000 in
theorem few_v (t m : L) (w : World) (ht : t.length ≤ 9223372036854775807) : Calls Try.prog 9 #[.agg #[.string (mkS t), .string (mkS m)]] w fun e w' => e = .returned (.bool (Gl.few t)) ∧ Later w w' := by
  have hst : (mkS t).size = t.length := mkS_size t
  have hsi : ((mkS t).size : Int) = (t.length : Int) := by omega
  have HL := Lib.hid (Later.alloc w (.cells #[.string (mkS t), .string (mkS m)] 23))
  have HB := Lib.hid (Box.new w t m)
  have HS := Lib.hid hst
  clear hst
  go_enter Try.func9, Try.ntmps9
  go_wp2_with fail
  go_loopw [3, 4] (fun s3 s4 wr => ∃ a k : Nat, s3 = .int .i64 (a : Int) ∧ s4 = .int .i64 (k : Int) ∧ a ≤ k ∧ k ≤ t.length ∧ a = (t.take k).count 42 ∧ Box wr w.heap.size t m ∧ Later w wr) (fun _ i _ => t.length - (intOf i).toNat)
  case atStart => exact ⟨0, 0, rfl, rfl, Nat.le_refl _, Nat.zero_le _, rfl, HB.out, HL.out⟩
  case round =>
    obtain ⟨a, k, rfl, rfl, hak, hk, hcnt, hbox, hlr⟩ := hrel
    obtain ⟨c0, c1⟩ := hbox.cells
    have HC := Lib.hid hcnt
    clear hcnt
    have HBX := Lib.hid hbox
    have HLR := Lib.hid hlr
    clear hbox hlr
    by_cases hkn : k < t.length
    · have hk2 : (k : Int) < (t.length : Int) := by omega
      have hk3 : k < (mkS t).size := by have := HS.out; omega
      have HG := Lib.hid (get_byte t k hk3)
      by_cases hb : ((mkS t)[k].toNat : Int) = 42
      · go_wp2_with fail
        go_roundw
        case rel => 
          refine ⟨a + 1, k + 1, by go_num, by go_num, by omega, by omega, ?_, HBX.out, HLR.out⟩
          rw [Gl.count_next HG.out, HC.out, if_pos (UInt8.toNat_inj.1 (by have : (42 : UInt8).toNat = 42 := rfl; omega))]
        case measure => simp [intOf]; omega
      · go_wp2_with fail
        go_roundw
        case rel => 
          refine ⟨a, k + 1, rfl, by go_num, by omega, by omega, ?_, HBX.out, HLR.out⟩
          rw [Gl.count_next HG.out, HC.out, if_neg (fun e => hb (by rw [e]; rfl)), Nat.add_zero]
        case measure => simp [intOf]; omega
    · have hk2 : ¬ ((k : Int) < (t.length : Int)) := by omega
      have HCC := Lib.hid (show a = t.count 42 by have h1 := HC.out; rwa [List.take_of_length_le (by omega)] at h1)
      by_cases h20 : (t.length : Int) ≤ 20
      · go_wp2
        go_ret
        refine ⟨ret_bool ?_, HLR.out⟩
        unfold Gl.few
        rw [HCC.out, decide_eq_true (show t.length ≤ 20 by omega), Bool.true_and, decide_eq_decide]
        omega
      · go_wp2
        go_ret
        refine ⟨ret_bool ?_, HLR.out⟩
        unfold Gl.few
        rw [decide_eq_false (show ¬ t.length ≤ 20 by omega), Bool.false_and]
theorem lit_bytes (l : L) : (⟨l.toArray⟩ : ByteArray) = mkS l := rfl
set_option maxRecDepth 100000 in
set_option maxHeartbeats 1600000 in
theorem awake_v (w : World) : Calls Try.prog 8 #[] w fun e w' => e = .returned (.bool true) ∧ Later w w' := by
  have h1 : ∀ W, Calls Try.prog 10 #[.agg #[.string ⟨#[97, 42, 91, 48, 45, 57, 93]⟩, .string ⟨#[]⟩], .string ⟨#[97, 55]⟩] W fun e w' => e = .returned (.bool true) ∧ Later W w' := fun W => by
    have := Match_v [97, 42, 91, 48, 45, 57, 93] [] [97, 55] W (by decide) (by decide)
    rwa [show Gl.tb (Gl.sgF [97, 42, 91, 48, 45, 57, 93] [] 0) [97, 55] = true by decide +kernel] at this
  have h2 : ∀ W, Calls Try.prog 10 #[.agg #[.string ⟨#[97, 42, 91, 48, 45, 57, 93]⟩, .string ⟨#[]⟩], .string ⟨#[97, 98, 99, 55]⟩] W fun e w' => e = .returned (.bool true) ∧ Later W w' := fun W => by
    have := Match_v [97, 42, 91, 48, 45, 57, 93] [] [97, 98, 99, 55] W (by decide) (by decide)
    rwa [show Gl.tb (Gl.sgF [97, 42, 91, 48, 45, 57, 93] [] 0) [97, 98, 99, 55] = true by decide +kernel] at this
  have h3 : ∀ W, Calls Try.prog 10 #[.agg #[.string ⟨#[97, 42, 91, 48, 45, 57, 93]⟩, .string ⟨#[]⟩], .string ⟨#[97, 55, 98]⟩] W fun e w' => e = .returned (.bool false) ∧ Later W w' := fun W => by
    have := Match_v [97, 42, 91, 48, 45, 57, 93] [] [97, 55, 98] W (by decide) (by decide)
    rwa [show Gl.tb (Gl.sgF [97, 42, 91, 48, 45, 57, 93] [] 0) [97, 55, 98] = false by decide +kernel] at this
  have h4 : ∀ W, Calls Try.prog 12 #[.agg #[.string ⟨#[97, 42, 91, 48, 45, 57, 93]⟩, .string ⟨#[]⟩]] W fun e w' => e = .returned (.bool false) ∧ Later W w' := fun W => by
    have := Plain_v [97, 42, 91, 48, 45, 57, 93] [] W (by decide)
    rwa [show (Gl.sgF [97, 42, 91, 48, 45, 57, 93] [] 0).all Gl.isLit = false by decide +kernel] at this
  have h5 : ∀ W, Calls Try.prog 12 #[.agg #[.string ⟨#[97, 42]⟩, .string ⟨#[108, 113]⟩]] W fun e w' => e = .returned (.bool true) ∧ Later W w' := fun W => by
    have := Plain_v [97, 42] [108, 113] W (by decide)
    rwa [show (Gl.sgF [97, 42] [108, 113] 0).all Gl.isLit = true by decide +kernel] at this
  have h6 : ∀ W, Calls Try.prog 14 #[.string ⟨#[97, 98, 97, 98]⟩, .agg #[.string ⟨#[42, 98]⟩, .string ⟨#[]⟩], .bool false, .bool false] W fun e w' => e = .returned (.string ⟨#[97, 98]⟩) ∧ Later W w' := fun W => by
    refine (Cut_v [97, 98, 97, 98] [42, 98] [] false false W (by decide) (by decide)).mono ?_
    rintro e w' ⟨v, rfl, hv, hl⟩
    rw [Gl.cut0 v hv]
    exact ⟨rfl, hl⟩
  have h7 : ∀ W A, Rd W W.heap.size A 4 ([[98], [46, 99], [97], [98]].map sv) → Calls Try.prog 16 #[.agg #[.string ⟨#[42]⟩, .string ⟨#[]⟩], .slice A 4 4] W fun e w' => ∃ ad c', e = .returned (.slice (some ad) 2 c') ∧ w'.cell? ad = some (.string ⟨#[97]⟩) ∧ Later W w' := fun W A hr => by
    refine (Pick_v [42] [] [[98], [46, 99], [97], [98]] A 4 4 W (by decide) hr (by decide) (by decide)).mono ?_
    rintro e w' ⟨A', k, c', rfl, hr', hl⟩
    rw [Gl.pick0] at hr'
    obtain ⟨hk, hc⟩ := hr'
    have hk : 2 = k := hk
    subst hk
    obtain ⟨ad, rfl, _, hc⟩ := hc (by omega)
    have := hc 0 _ rfl
    rw [show ad.add 0 = ad by simp [Addr.add]] at this
    exact ⟨ad, c', rfl, this, hl⟩
  have H1 := Lib.hid h1
  have H2 := Lib.hid h2
  have H3 := Lib.hid h3
  have H4 := Lib.hid h4
  have H5 := Lib.hid h5
  have H6 := Lib.hid h6
  have H7 := Lib.hid h7
  clear h1 h2 h3 h4 h5 h6 h7
  go_enter Try.func8, Try.ntmps8
  obtain ⟨w1, hw1⟩ : ∃ w1, w1 = w.alloc (.cells #[.string ⟨#[97, 42, 91, 48, 45, 57, 93]⟩, .string ⟨#[]⟩] 23) := ⟨_, rfl⟩
  have hl1 : Later w w1 := by rw [hw1]; exact Later.alloc _ _
  have hp1 : w1.heap[w.heap.size]? = some (.cells #[.string ⟨#[97, 42, 91, 48, 45, 57, 93]⟩, .string ⟨#[]⟩] 23 (0, 0)) := by rw [hw1]; exact heap_alloc_new w _
  have hz1 : w1.heap.size = w.heap.size + 1 := by rw [hw1]; simp
  have hl2 : Later w1 (w1.alloc (.cells #[.string ⟨#[98]⟩, .string ⟨#[46, 99]⟩, .string ⟨#[97]⟩, .string ⟨#[98]⟩] 9)) := Later.alloc _ _
  have hcon := H7.out (w1.alloc (.cells #[.string ⟨#[98]⟩, .string ⟨#[46, 99]⟩, .string ⟨#[97]⟩, .string ⟨#[98]⟩] 9)) (some ⟨w1.heap.size, 0, none⟩) (by
    have := Rd.lit w1 9 [.string ⟨#[98]⟩, .string ⟨#[46, 99]⟩, .string ⟨#[97]⟩, .string ⟨#[98]⟩]
    exact this.more (by simp))
  rw [hz1, hw1] at hcon
  have HC := Lib.hid hcon
  have HL2 := Lib.hid (show Later w (w1.alloc (.cells #[.string ⟨#[98]⟩, .string ⟨#[46, 99]⟩, .string ⟨#[97]⟩, .string ⟨#[98]⟩] 9)) from hl1.trans hl2)
  have HP2 := Lib.hid (later_cells hl2 hp1)
  rw [hw1] at HL2 HP2
  clear hcon hl1 hl2 hp1 hz1 hw1 H7
  go_wp2_with (first
    | (go_at_call 16; (with_reducible refine HC.out.mono ?_); rintro e w3 ⟨ad, c3, rfl, hcell, hl3⟩; (have HL3 := Lib.hid (HL2.out.trans hl3)); (have HP3 := Lib.hid (later_cells hl3 HP2.out)); (have HA3 := Lib.hid hcell); obtain ⟨c0, _⟩ := cell_row HP3.out 0; obtain ⟨c1, _⟩ := cell_row HP3.out 1; clear hl3 hcell)
    | (go_at_call 10; (with_reducible refine (H1.out _).mono ?_); rintro e w4 ⟨rfl, hl4⟩; (have HL4 := Lib.hid (HL3.out.trans hl4)); (have HP4 := Lib.hid (later_cells hl4 HP3.out)); (have HA4 := Lib.hid (cell_keeps hl4 HA3.out)); clear c0 c1; obtain ⟨c0, _⟩ := cell_row HP4.out 0; obtain ⟨c1, _⟩ := cell_row HP4.out 1; clear hl4)
    | (go_at_call 10; (with_reducible refine (H2.out _).mono ?_); rintro e w5 ⟨rfl, hl5⟩; (have HL5 := Lib.hid (HL4.out.trans hl5)); (have HP5 := Lib.hid (later_cells hl5 HP4.out)); (have HA5 := Lib.hid (cell_keeps hl5 HA4.out)); clear c0 c1; obtain ⟨c0, _⟩ := cell_row HP5.out 0; obtain ⟨c1, _⟩ := cell_row HP5.out 1; clear hl5)
    | (go_at_call 10; (with_reducible refine (H3.out _).mono ?_); rintro e w6 ⟨rfl, hl6⟩; (have HL6 := Lib.hid (HL5.out.trans hl6)); (have HP6 := Lib.hid (later_cells hl6 HP5.out)); (have HA6 := Lib.hid (cell_keeps hl6 HA5.out)); clear c0 c1; obtain ⟨c0, _⟩ := cell_row HP6.out 0; obtain ⟨c1, _⟩ := cell_row HP6.out 1; clear hl6)
    | (go_at_call 12; (with_reducible refine (H4.out _).mono ?_); rintro e w7 ⟨rfl, hl7⟩; (have HL7 := Lib.hid (HL6.out.trans hl7)); (have HA7 := Lib.hid (cell_keeps hl7 HA6.out)); clear c0 c1 hl7)
    | (go_at_call 12; (with_reducible refine (H5.out _).mono ?_); rintro e w8 ⟨rfl, hl8⟩; (have HL8 := Lib.hid (HL7.out.trans hl8)); (have HA8 := Lib.hid (cell_keeps hl8 HA7.out)); clear hl8)
    | (go_at_call 14; (with_reducible refine (H6.out _).mono ?_); rintro e w9 ⟨rfl, hl9⟩; (have HL9 := Lib.hid (HL8.out.trans hl9)); (have hA9 := cell_keeps hl9 HA8.out); (have he := show ((⟨#[97, 98]⟩ : ByteArray).toList == (⟨#[97, 98]⟩ : ByteArray).toList) = true from beq_self_eq_true _); clear hl9))
  go_ret
  exact ⟨rfl, HL9.out⟩
end Gs
end Go.Proofs.Ytjjkeajgcdminaa
