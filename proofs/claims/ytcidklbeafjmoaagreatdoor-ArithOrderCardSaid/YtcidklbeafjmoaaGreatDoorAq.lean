/- Something with the signs ahead of it; a whole expression. No premises. -/
import Derived.Test.YtcidklbeafjmoaaGreatDoorAp
namespace Go.Proofs.YtcidklbeafjmoaaGreatDoor
open Go.RowKit Go.Maps
namespace Ar
section
variable {W W' : World} {g : Nat} {C : Ct} {s s' t : St} {k : Nat} {n : Int}
theorem RM.drewN (h : RM W g C s) (i : Nat) : RM (W.drewN i) g C s := h.later ⟨rfl, rfl, rfl, Nat.le_refl _, fun _ _ => rfl⟩
theorem only_drewN (W : World) (g m : Nat) : W.grownBy (W.drewN m) (some g) := ⟨rfl, rfl, rfl, Nat.le_refl _, fun _ _ _ => rfl⟩
theorem plain_of {t : L} (h : (∃ m, num t = some m) ∨ nameB t = true ∨ t = [40] ∨ t = [36] ∨ t = [36, 123]) : t ≠ [33] ∧ t ≠ [126] ∧ t ≠ [43] ∧ t ≠ [45] := by
  refine ⟨?_, ?_, ?_, ?_⟩ <;>
  · rintro rfl
    rcases h with ⟨m, h⟩ | h | h | h | h
    · rw [(num_none (by simp)).1] at h; cases h
    · exact absurd h (by decide)
    · cases h
    · cases h
    · cases h
set_option maxHeartbeats 1600000 in
set_option maxRecDepth 100000 in
theorem single_v (ih : ∀ j, j < k → ExOk j ∧ SgOk j) : SgOk k := by
  intro W g C s n t h hs
  have hcases : (∃ (j : Nat) (u : St) (a : Int), j < k ∧ s.tok ∈ [[33], [126], [43], [45]] ∧ s.deep < 40 ∧ Sg C.vs j (enter s) a u ∧ n = op1 s.tok a ∧ t = leave u) ∨ (s.tok ≠ [33] ∧ s.tok ≠ [126] ∧ s.tok ≠ [43] ∧ s.tok ≠ [45]) := by
    cases hs with
    | un hj hm hd hu => exact .inl ⟨_, _, _, hj, hm, hd, hu, rfl, rfl⟩
    | par _ ht => exact .inr (plain_of (.inr (.inr (.inl ht))))
    | name hn => exact .inr (plain_of (.inr (.inl hn)))
    | dol ht => exact .inr (plain_of (.inr (.inr (.inr (.inl ht)))))
    | brace ht => exact .inr (plain_of (.inr (.inr (.inr (.inr ht)))))
    | num hm => exact .inr (plain_of (.inl ⟨_, hm⟩))
  have htl : s.tok.length ≤ 5000 := by have := h.tok_len; omega
  have hlook := fun i => (h.drewN i).en.ta.look s.tok htl
  obtain ⟨⟨c0, c1, c2, c3, c4, c5, c6, c7, c8⟩, hz⟩ := h.facts
  have H := Lib.hid h
  rcases hcases with ⟨j, u, a, hj, hm, hd, hu, rfl, rfl⟩ | hno
  · obtain ⟨F, hF, hent, hC⟩ := ahead_some hm
    have hent2 : ∀ (args : Array Value) (w : World), (callFunc F args).run Tryz.prog w = .ok (.enter F args) w := hent
    clear hent
    rw [hF] at hlook
    have hlook2 : ∀ i, (Instr.lookup 41 (.map (some C.ma)) (.string (mkS s.tok)) true).run Tryz.prog (W.drewN i) = .ok (.tuple #[.func (.func F) #[] #[], .bool true]) (W.drewN i) := hlook
    have HE := Lib.hid (fun i => enter_v (h.drewN i) hd)
    have HU := Lib.hid (fun w1 (h1 : RM w1 g C (enter s)) => (ih _ hj).2 w1 g C (enter s) a u h1 hu)
    have HC := Lib.hid hC
    have hdp : 1 ≤ u.deep := by have := (keep_all C.vs j).2.2.2 _ _ _ hu; have e1 : (enter s).deep = s.deep + 1 := rfl; omega
    clear hlook h hs hm hd hu hF hC ih
    go_enter Tryz.func64, Tryz.ntmps64
    go_wp2
    go_quiet (fail)
    go_wp2_with (first
      | (go_at_call 22; (with_reducible refine (HE.out _).mono ?_); rintro e w1 ⟨rfl, h1, g1⟩; have H1 := Lib.hid h1; have G1 := Lib.hid g1; clear h1 g1)
      | (go_at_call 64; (with_reducible refine (HU.out _ H1.out).mono ?_); rintro e w2 ⟨rfl, h2, g2⟩; have H2 := Lib.hid h2; have G2 := Lib.hid g2; clear h2 g2))
    refine (HC.out a _).mono ?_
    rintro e w3 ⟨rfl, rfl⟩
    go_wp2_with (go_at_call 25; (with_reducible refine (leave_v H2.out hdp).mono ?_); rintro e w4 ⟨rfl, h4, g4⟩)
    go_ret
    exact ⟨rfl, h4, only_trans (only_drewN _ _ _) (only_trans G1.out (only_trans G2.out g4))⟩
  · have HB := Lib.hid (fun i => bare_v (W := W.drewN i) (fun j hj => (ih j hj).1) (h.drewN i) hs hno)
    rw [ahead_none hno] at hlook
    have hlook2 : ∀ i, (Instr.lookup 41 (.map (some C.ma)) (.string (mkS s.tok)) true).run Tryz.prog (W.drewN i) = .ok (.tuple #[.nilFunc, .bool false]) (W.drewN i) := hlook
    clear hlook h hs hno ih
    go_enter Tryz.func64, Tryz.ntmps64
    go_wp2
    go_quiet (fail)
    go_wp2_with (go_at_call 78; (with_reducible refine (HB.out _).mono ?_); rintro e w1 ⟨rfl, h1, g1⟩)
    go_ret
    exact ⟨rfl, h1, only_trans (only_drewN _ _ _) g1⟩
theorem m_strict (s : St) (h : s.tok ≠ []) : m (pass s) + 1 ≤ m s := by
  have := m_pass s
  have := List.length_pos_iff.2 h
  unfold m at *
  omega
theorem rest_room (s : St) (b : Bool) (h : m s + s.idle + 1 ≤ 4000) : m s + (rest s b).idle ≤ 4000 := by
  unfold rest
  split
  · omega
  · dsimp only; omega
set_option maxHeartbeats 3200000 in
set_option maxRecDepth 100000 in
theorem expression_v (ih : ∀ j, j < k → ExOk j ∧ BtOk j) : ExOk k := by
  intro W g C s n t h hs
  cases hs with
  | @plain _ j _ _ _ hj hb hne =>
    have HB := Lib.hid (show Calls Tryz.prog 21 #[.pointer (some ⟨g, 0, none⟩), .int .i64 0] W (Rt W g C (.int .i64 n) t) from (ih _ hj).2 W g C 0 s n t (by omega) h hb)
    have he := tok_is t.tok [63] false (beq_eq_false_iff_ne.2 hne)
    clear h hb hne ih
    go_enter Tryz.func11, Tryz.ntmps11
    go_wp2_with (go_at_call 21; (with_reducible refine HB.out.mono ?_); rintro e w1 ⟨rfl, h1, g1⟩; obtain ⟨⟨d0, d1, d2, d3, d4, d5, d6, d7, d8⟩, dz⟩ := h1.facts; have H1 := Lib.hid h1; have G1 := Lib.hid g1; clear h1 g1)
    go_ret
    exact ⟨rfl, H1.out, G1.out⟩
  | @cond _ j i l _ t u v n y z hj hi hl hb ht hd h1 hu h2 =>
    have HB := Lib.hid (show Calls Tryz.prog 21 #[.pointer (some ⟨g, 0, none⟩), .int .i64 0] W (Rt W g C (.int .i64 n) t) from (ih _ hj).2 W g C 0 s n t (by omega) h hb)
    have he := tok_is t.tok [63] true (by rw [ht]; rfl)
    have a1 := (keep_all C.vs i).1 _ _ _ h1
    have a2 := (keep_all C.vs l).1 _ _ _ h2
    have ta := Bt.m hb
    have tb := (keep_all C.vs j).2.1 _ _ _ _ hb
    have tt := m_strict t (by rw [ht]; simp)
    have hes : enter t = pass { t with deep := t.deep + 1 } := rfl
    have hem : m (enter t) + 1 ≤ m t := by have := m_strict { t with deep := t.deep + 1 } (by show t.tok ≠ []; rw [ht]; simp); exact this
    have hsm := h.sml
    have hei : (enter t).idle = t.idle := rfl
    have HR1 := Lib.hid (rest_room (enter t) (n != 0) (by omega))
    have hu2 := idle_rest_back a1.1
    have hum := (m_all C.vs i).1 _ _ _ h1
    rw [m_rest] at hum
    have hpm := m_strict (back u (n != 0)) (by have e : (back u (n != 0)).tok = u.tok := (by unfold back; split <;> rfl); rw [e, hu]; simp)
    rw [m_back] at hpm
    have hpi : (pass (back u (n != 0))).idle = (back u (n != 0)).idle := rfl
    have HR2 := Lib.hid (rest_room (pass (back u (n != 0))) (n == 0) (by omega))
    have hde : (enter t).deep = t.deep + 1 := rfl
    have hdv : 1 ≤ (back v (n == 0)).deep := by
      rw [deep_back]
      have e1 := a2.2
      rw [deep_rest] at e1
      have e2 : (pass (back u (n != 0))).deep = (back u (n != 0)).deep := rfl
      rw [deep_back] at e2
      have e3 := a1.2
      rw [deep_rest] at e3
      omega
    have HT := Lib.hid ht
    have HU := Lib.hid (show (back u (n != 0)).tok = [58] by have e : (back u (n != 0)).tok = u.tok := (by unfold back; split <;> rfl); rw [e, hu])
    have HA1 := Lib.hid a1.1
    have HA2 := Lib.hid a2.1
    have HX1 := Lib.hid (fun w1 (g1 : RM w1 g C (rest (enter t) (n != 0))) => (ih _ hi).1 w1 g C _ y u g1 h1)
    have HX2 := Lib.hid (fun w1 (g1 : RM w1 g C (rest (pass (back u (n != 0))) (n == 0))) => (ih _ hl).1 w1 g C _ z v g1 h2)
    clear h hb ht h1 hu h2 a1 a2 ta tb tt hes hem hsm hei hu2 hum hpm hpi hde ih
    have HD := Lib.hid hd
    clear hd
    go_enter Tryz.func11, Tryz.ntmps11
    go_wp2_with (first
      | (go_at_call 21; (with_reducible refine HB.out.mono ?_); rintro e w1 ⟨rfl, h1, g1⟩; obtain ⟨⟨d0, d1, d2, d3, d4, d5, d6, d7, d8⟩, dz⟩ := h1.facts; have H1 := Lib.hid h1; have G1 := Lib.hid g1; clear h1 g1)
      | (go_at_call 22; (with_reducible refine (enter_v H1.out HD.out).mono ?_); rintro e w2 ⟨rfl, h2, g2⟩; have H2 := Lib.hid h2; have G2 := Lib.hid g2; clear h2 g2)
      | (go_at_call 23; (with_reducible refine (partE H2.out HR1.out HA1.out (fun w1 g1 _ => HX1.out w1 g1)).mono ?_); rintro e w3 ⟨rfl, h3, g3⟩; have H3 := Lib.hid h3; have G3 := Lib.hid g3; clear h3 g3)
      | (go_at_call 24; (with_reducible refine (need_v H3.out [58] ⟨#[58]⟩ rfl HU.out).mono ?_); rintro e w4 ⟨rfl, h4, g4⟩; have H4 := Lib.hid h4; have G4 := Lib.hid g4; clear h4 g4)
      | (go_at_call 23; (with_reducible refine (partE H4.out HR2.out HA2.out (fun w1 g1 _ => HX2.out w1 g1)).mono ?_); rintro e w5 ⟨rfl, h5, g5⟩; have H5 := Lib.hid h5; have G5 := Lib.hid g5; clear h5 g5)
      | (go_at_call 25; (with_reducible refine (leave_v H5.out hdv).mono ?_); rintro e w6 ⟨rfl, h6, g6⟩; have H6 := Lib.hid h6; have G6 := Lib.hid g6; clear h6 g6))
    all_goals go_ret
    all_goals exact ⟨rfl, H6.out, only_trans G1.out (only_trans G2.out (only_trans G3.out (only_trans G4.out (only_trans G5.out G6.out))))⟩
end
end Ar
end Go.Proofs.YtcidklbeafjmoaaGreatDoor
