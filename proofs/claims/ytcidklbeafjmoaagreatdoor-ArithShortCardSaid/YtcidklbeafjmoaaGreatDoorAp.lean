/- Something, with signs ahead of it or without. No premises. -/
import Derived.Test.YtcidklbeafjmoaaGreatDoorAo
namespace Go.Proofs.YtcidklbeafjmoaaGreatDoor
open Go.RowKit Go.Maps
namespace Ar
section
variable {W W' : World} {g : Nat} {C : Ct} {s s' t : St} {k : Nat} {n : Int}
theorem num_none {t : L} (h : t = [33] ∨ t = [126] ∨ t = [43] ∨ t = [45] ∨ t = [40] ∨ t = [36, 123] ∨ t = [36]) : num t = none ∧ nameB t = false := by
  rcases h with rfl | rfl | rfl | rfl | rfl | rfl | rfl <;> decide
theorem num_name {t : L} {m : Nat} (h : num t = some m) : nameB t = false := by
  cases t with
  | nil => rfl
  | cons c r =>
    have key : dig c = true → nameB (c :: r) = false := fun hc => by unfold nameB; simp only [hc]; rfl
    unfold num at h
    by_cases h1 : (Lib.hasPrefix (c :: r) [48, 120] || Lib.hasPrefix (c :: r) [48, 88]) = true
    · refine key ?_
      rw [Bool.or_eq_true] at h1
      have : (48 : UInt8) = c := by
        rcases h1 with h1 | h1
        · have := List.isPrefixOf_iff_prefix.1 h1
          exact (List.cons_prefix_cons.1 this).1
        · have := List.isPrefixOf_iff_prefix.1 h1
          exact (List.cons_prefix_cons.1 this).1
      rw [← this]
      decide
    · rw [if_neg h1] at h
      by_cases h2 : Lib.hasPrefix (c :: r) [48] = true
      · refine key ?_
        have := List.isPrefixOf_iff_prefix.1 h2
        rw [← (List.cons_prefix_cons.1 this).1]
        decide
      · rw [if_neg h2] at h
        dsimp only at h
        split at h
        · next hc =>
          refine key (isD_digit (b := 10) (by omega) ?_)
          have := hc.2.1
          rw [List.all_cons, Bool.and_eq_true] at this
          exact this.1
        · cases h
theorem ahead_none {t : L} (h : t ≠ [33] ∧ t ≠ [126] ∧ t ≠ [43] ∧ t ≠ [45]) : aheadT t = none := by
  unfold aheadT
  rw [if_neg h.1, if_neg h.2.1, if_neg h.2.2.1, if_neg h.2.2.2]
/-- A function's number is that of a body. -/
def Enters (F : Nat) : Prop := ∀ (args : Array Value) (w : World), (callFunc F args).run Tryz.prog w = .ok (.enter F args) w
theorem ahead_some {t : L} (h : t ∈ [[33], [126], [43], [45]]) : ∃ F, aheadT t = some (.func (.func F) #[] #[]) ∧ Enters F ∧ ∀ (a : Int) (W : World), Calls Tryz.prog F #[.int .i64 a] W fun e W' => e = .returned (.int .i64 (op1 t a)) ∧ W' = W := by
  simp only [List.mem_cons, List.not_mem_nil, or_false] at h
  rcases h with rfl | rfl | rfl | rfl
  · exact ⟨_, rfl, fun args w => run_enter Tryz.func38 (by kernel_rfl) rfl args w, ahead1⟩
  · exact ⟨_, rfl, fun args w => run_enter Tryz.func40 (by kernel_rfl) rfl args w, ahead2⟩
  · exact ⟨_, rfl, fun args w => run_enter Tryz.func41 (by kernel_rfl) rfl args w, ahead3⟩
  · exact ⟨_, rfl, fun args w => run_enter Tryz.func42 (by kernel_rfl) rfl args w, ahead4⟩
set_option maxHeartbeats 1600000 in
set_option maxRecDepth 100000 in
theorem inside_v (hx : ExOk k) (h : RM W g C s) (hd : s.deep < 40) (he : Ex C.vs k (enter s) n t) (ht : t.tok = [41]) : Calls Tryz.prog 90 #[.pointer (some ⟨g, 0, none⟩)] W (Rt W g C (.int .i64 n) (leave (pass t))) := by
  have HE := Lib.hid (enter_v h hd)
  have HX := Lib.hid (fun w1 (h1 : RM w1 g C (enter s)) => hx w1 g C (enter s) n t h1 he)
  have HT := Lib.hid ht
  have hdp : 1 ≤ (pass t).deep := by have := (keep_all C.vs k).1 _ _ _ he; have e1 : (enter s).deep = s.deep + 1 := rfl; have e2 : (pass t).deep = t.deep := rfl; omega
  clear h he ht
  go_enter Tryz.func90, Tryz.ntmps90
  go_wp2_with (first
    | (go_at_call 22; (with_reducible refine HE.out.mono ?_); rintro e w1 ⟨rfl, h1, g1⟩; have H1 := Lib.hid h1; have G1 := Lib.hid g1; clear h1 g1)
    | (go_at_call 11; (with_reducible refine (HX.out _ H1.out).mono ?_); rintro e w2 ⟨rfl, h2, g2⟩; have H2 := Lib.hid h2; have G2 := Lib.hid g2; clear h2 g2)
    | (go_at_call 24; (with_reducible refine (need_v H2.out [41] ⟨#[41]⟩ rfl HT.out).mono ?_); rintro e w3 ⟨rfl, h3, g3⟩; have H3 := Lib.hid h3; have G3 := Lib.hid g3; clear h3 g3)
    | (go_at_call 25; (with_reducible refine (leave_v H3.out hdp).mono ?_); rintro e w4 ⟨rfl, h4, g4⟩; have H4 := Lib.hid h4; have G4 := Lib.hid g4; clear h4 g4))
  go_ret
  exact ⟨rfl, H4.out, only_trans G1.out (only_trans G2.out (only_trans G3.out G4.out))⟩
theorem take_t (h : RM W g C s) (u : L) (us : ByteArray) (hus : us = mkS u) (hu : s.tok = u) : Calls Tryz.prog 68 #[.pointer (some ⟨g, 0, none⟩), .string us] W (Rt W g C (.bool true) (pass s)) := by
  subst hus
  have hv := take_v h u
  rwa [if_pos hu, show (s.tok == u) = true by rw [hu]; exact beq_self_eq_true _] at hv
theorem take_f (h : RM W g C s) (u : L) (us : ByteArray) (hus : us = mkS u) (hu : s.tok ≠ u) : Calls Tryz.prog 68 #[.pointer (some ⟨g, 0, none⟩), .string us] W (Rt W g C (.bool false) s) := by
  subst hus
  have hv := take_v h u
  rwa [if_neg hu, show (s.tok == u) = false from beq_eq_false_iff_ne.2 hu] at hv
theorem tok_is (t b : L) (v : Bool) (h : (t == b) = v) : ((mkS t).toList == b) = v := by rw [toList_mkS]; exact h
set_option maxHeartbeats 1600000 in
set_option maxRecDepth 100000 in
theorem bare_v (ih : ∀ j, j < k → ExOk j) (h : RM W g C s) (hs : Sg C.vs k s n t) (hno : s.tok ≠ [33] ∧ s.tok ≠ [126] ∧ s.tok ≠ [43] ∧ s.tok ≠ [45]) : Calls Tryz.prog 78 #[.pointer (some ⟨g, 0, none⟩)] W (Rt W g C (.int .i64 n) t) := by
  obtain ⟨⟨c0, c1, c2, c3, c4, c5, c6, c7, c8⟩, hz⟩ := h.facts
  cases hs with
  | un _ hm => simp only [List.mem_cons, List.not_mem_nil, or_false] at hm; exfalso; rcases hm with e | e | e | e <;> simp [e] at hno
  | @par _ j _ t _ hj ht hd hx hc =>
    have HI := Lib.hid (inside_v (ih _ hj) h hd hx hc)
    have he := tok_is s.tok [40] true (by rw [ht]; rfl)
    clear h ht hx hc
    go_enter Tryz.func78, Tryz.ntmps78
    go_wp2_with (go_at_call 90; (with_reducible refine HI.out.mono ?_); rintro e w1 ⟨rfl, h1, g1⟩)
    go_ret
    exact ⟨rfl, h1, g1⟩
  | name hn hl =>
    have hq : s.tok ≠ [40] ∧ s.tok ≠ [36, 123] ∧ s.tok ≠ [36] := ⟨fun e => (by rw [(num_none (by rw [e]; simp)).2] at hn; cases hn), fun e => (by rw [(num_none (by rw [e]; simp)).2] at hn; cases hn), fun e => (by rw [(num_none (by rw [e]; simp)).2] at hn; cases hn)⟩
    have he := tok_is s.tok [40] false (beq_eq_false_iff_ne.2 hq.1)
    have H := Lib.hid h
    have HNM := Lib.hid (fun W => name_v s.tok (by have := h.tok_len; omega) W)
    rw [hn] at HNM
    have HQ := Lib.hid hq
    have HN := Lib.hid hn
    have HL := Lib.hid hl
    clear h hn hl hq hno ih
    go_enter Tryz.func78, Tryz.ntmps78
    go_wp2_with (first
      | (go_at_call 68; (with_reducible refine (take_f H.out [36, 123] ⟨#[36, 123]⟩ rfl HQ.out.2.1).mono ?_); rintro e w1 ⟨rfl, h1, g1⟩; obtain ⟨⟨d0, d1, d2, d3, d4, d5, d6, d7, d8⟩, dz⟩ := h1.facts; have H1 := Lib.hid h1; have G1 := Lib.hid g1; clear h1 g1)
      | (go_at_call 68; (with_reducible refine (take_f H1.out [36] ⟨#[36]⟩ rfl HQ.out.2.2).mono ?_); rintro e w2 ⟨rfl, h2, g2⟩; obtain ⟨⟨e0, e1, e2, e3, e4, e5, e6, e7, e8⟩, ez⟩ := h2.facts; have H2 := Lib.hid h2; have G2 := Lib.hid g2; clear h2 g2)
      | (go_at_call 89; (with_reducible refine (HNM.out _).mono ?_); rintro e w3 ⟨rfl, hl3⟩; have HL3 := Lib.hid hl3; clear hl3)
      | (go_at_call 91; (with_reducible refine (variable_v (H2.out.later HL3.out) HN.out n HL.out).mono ?_); rintro e w4 ⟨rfl, h4, g4⟩))
    go_ret
    exact ⟨rfl, h4, only_trans G1.out (only_trans (only_later G2.out HL3.out) g4)⟩
  | dol ht hn hl =>
    have he := tok_is s.tok [40] false (by rw [ht]; rfl)
    have H := Lib.hid h
    have HT := Lib.hid ht
    have HN := Lib.hid hn
    have HL := Lib.hid hl
    clear h hn hl ht hno ih
    go_enter Tryz.func78, Tryz.ntmps78
    go_wp2_with (first
      | (go_at_call 68; (with_reducible refine (take_f H.out [36, 123] ⟨#[36, 123]⟩ rfl (by rw [HT.out]; decide)).mono ?_); rintro e w1 ⟨rfl, h1, g1⟩; obtain ⟨⟨d0, d1, d2, d3, d4, d5, d6, d7, d8⟩, dz⟩ := h1.facts; have H1 := Lib.hid h1; have G1 := Lib.hid g1; clear h1 g1)
      | (go_at_call 68; (with_reducible refine (take_t H1.out [36] ⟨#[36]⟩ rfl HT.out).mono ?_); rintro e w2 ⟨rfl, h2, g2⟩; have H2 := Lib.hid h2; have G2 := Lib.hid g2; clear h2 g2)
      | (go_at_call 91; (with_reducible refine (variable_v H2.out HN.out n HL.out).mono ?_); rintro e w4 ⟨rfl, h4, g4⟩))
    go_ret
    exact ⟨rfl, h4, only_trans G1.out (only_trans G2.out g4)⟩
  | brace ht hn hl hc =>
    have he := tok_is s.tok [40] false (by rw [ht]; rfl)
    have H := Lib.hid h
    have HT := Lib.hid ht
    have HN := Lib.hid hn
    have HL := Lib.hid hl
    have HC := Lib.hid hc
    clear h hn hl ht hno ih hc
    go_enter Tryz.func78, Tryz.ntmps78
    go_wp2_with (first
      | (go_at_call 68; (with_reducible refine (take_t H.out [36, 123] ⟨#[36, 123]⟩ rfl HT.out).mono ?_); rintro e w1 ⟨rfl, h1, g1⟩; have H1 := Lib.hid h1; have G1 := Lib.hid g1; clear h1 g1)
      | (go_at_call 91; (with_reducible refine (variable_v H1.out HN.out n HL.out).mono ?_); rintro e w4 ⟨rfl, h4, g4⟩; have H4 := Lib.hid h4; have G4 := Lib.hid g4; clear h4 g4)
      | (go_at_call 24; (with_reducible refine (need_v H4.out [125] ⟨#[125]⟩ rfl HC.out).mono ?_); rintro e w5 ⟨rfl, h5, g5⟩))
    go_ret
    exact ⟨rfl, h5, only_trans G1.out (only_trans G4.out g5)⟩
  | @num _ _ m hm =>
    have hq : s.tok ≠ [40] ∧ s.tok ≠ [36, 123] ∧ s.tok ≠ [36] := ⟨fun e => (by rw [(num_none (by rw [e]; simp)).1] at hm; cases hm), fun e => (by rw [(num_none (by rw [e]; simp)).1] at hm; cases hm), fun e => (by rw [(num_none (by rw [e]; simp)).1] at hm; cases hm)⟩
    have hnn : nameB s.tok = false := num_name hm
    have he := tok_is s.tok [40] false (beq_eq_false_iff_ne.2 hq.1)
    have H := Lib.hid h
    have HNM := Lib.hid (fun W => name_v s.tok (by have := h.tok_len; omega) W)
    rw [hnn] at HNM
    have HQ := Lib.hid hq
    have HNV := Lib.hid (fun W => num_v s.tok m hm (by have := h.tok_len; omega) W)
    clear h hnn hm hq hno ih
    go_enter Tryz.func78, Tryz.ntmps78
    go_wp2_with (first
      | (go_at_call 68; (with_reducible refine (take_f H.out [36, 123] ⟨#[36, 123]⟩ rfl HQ.out.2.1).mono ?_); rintro e w1 ⟨rfl, h1, g1⟩; obtain ⟨⟨d0, d1, d2, d3, d4, d5, d6, d7, d8⟩, dz⟩ := h1.facts; have H1 := Lib.hid h1; have G1 := Lib.hid g1; clear h1 g1)
      | (go_at_call 68; (with_reducible refine (take_f H1.out [36] ⟨#[36]⟩ rfl HQ.out.2.2).mono ?_); rintro e w2 ⟨rfl, h2, g2⟩; obtain ⟨⟨e0, e1, e2, e3, e4, e5, e6, e7, e8⟩, ez⟩ := h2.facts; have H2 := Lib.hid h2; have G2 := Lib.hid g2; clear h2 g2)
      | (go_at_call 89; (with_reducible refine (HNM.out _).mono ?_); rintro e w3 ⟨rfl, hl3⟩; have h3 := H2.out.later hl3; obtain ⟨⟨f0, f1, f2, f3, f4, f5, f6, f7, f8⟩, fz⟩ := h3.facts; have HL3 := Lib.hid hl3; clear hl3)
      | (go_at_call 16; (with_reducible refine (HNV.out _).mono ?_); rintro e w4 ⟨rfl, hl4⟩; have HL4 := Lib.hid hl4; clear hl4)
      | (go_at_call 20; (with_reducible refine (pass_v ((H2.out.later HL3.out).later HL4.out)).mono ?_); rintro e w5 ⟨rfl, h5, g5⟩))
    go_ret
    exact ⟨rfl, h5, only_trans G1.out (only_trans (only_later (only_later G2.out HL3.out) HL4.out) g5)⟩
end
end Ar
end Go.Proofs.YtcidklbeafjmoaaGreatDoor
