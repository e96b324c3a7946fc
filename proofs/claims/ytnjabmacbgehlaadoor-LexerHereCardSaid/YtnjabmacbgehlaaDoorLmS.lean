/- The lexer's reader: the lines of a here-document. No premises. -/
import Derived.Test.YtnjabmacbgehlaaDoorLmR
namespace Go.Proofs.YtnjabmacbgehlaaDoor
open Go.RowKit Go.Maps
open Lx (nl Tok cut skip doc bare)
theorem cut_skip (l : L) : l = (cut l).1 ++ skip l ∧ (skip l = [] ∧ (cut l).2 = [] ∨ skip l = 10 :: (cut l).2) := by
  induction l with
  | nil => exact ⟨rfl, .inl ⟨rfl, rfl⟩⟩
  | cons c r ih =>
    by_cases hc : c = 10
    · simp [cut, skip, hc]
    · simp only [cut, skip, if_neg hc]
      exact ⟨by rw [List.cons_append, ← ih.1], ih.2⟩
/-- A piece of the script. -/
theorem piece_ (S : L) (p q : Nat) (a b : L) (hp : S.drop p = a ++ b) (hq : q = p + a.length) : (mkS S).extract p q = mkS a := by
  apply ByteArray.ext
  have h1 : ((mkS S).extract p q).data = (S.toArray).extract p q := by simp [mkS]
  rw [h1]
  apply Array.toList_inj.1
  simp only [Array.toList_extract, List.extract_eq_take_drop]
  rw [hp, hq, Nat.add_sub_cancel_left, List.take_left']
  · simp [mkS]
  · rfl
theorem MemX.piece {W W2 : World} {B g p n p2 n2 ms mp ms2 mp2 : Nat} {S : L} {σ σ2 : St} {vt vh vx vt2 vh2 vx2 : Value} (h : MemX W B g S σ p n vt vh vx ms mp) (h2 : MemX W2 B g S σ2 p2 n2 vt2 vh2 vx2 ms2 mp2) {a l2 : L} (hl : σ.l = a ++ l2) (e2 : σ2.l = l2) :
    (mkS S).extract p p2 = mkS a ∧ (p : Int) ≤ (p2 : Int) ∧ (p2 : Int) ≤ ((mkS S).size : Int) ∧ (0 : Int) ≤ (p : Int) := by
  have h2a := h2.at_
  have h2b := h.at_
  have hlen := congrArg List.length hl
  rw [List.length_append] at hlen
  rw [e2] at h2a
  refine ⟨piece_ S p p2 a l2 (by rw [← hl]; exact h.cut.symm) (by omega), by omega, by rw [mkS_size]; omega, by omega⟩
set_option maxRecDepth 100000 in
theorem row_bad (B g : Nat) (S : L) (σ : St) (hl : σ.l = []) (W : World) (h : Mem W B g S σ) : Calls Tryd.prog 58 #[.pointer (some ⟨g, 0, none⟩)] W fun e W' => e = .panicked (flt 20 σ.b) ∧ ∃ m, W' = W.drewN m := by
  have HL := Lib.hid (left_v B g S σ W h)
  have hdec : decide (σ.l ≠ []) = false := by rw [hl]; rfl
  rw [hdec] at HL
  have HR := Lib.hid (fun m => refuse_v B g S σ (W.drewN m) (h.drewN m))
  clear h hdec hl
  go_enter Tryd.func58, Tryd.ntmps58
  go_wp2_with (first
    | (go_at_call 37; (with_reducible refine HL.out.mono ?_); rintro e w1 ⟨rfl, m, rfl⟩)
    | (go_at_call 36; (with_reducible refine (HR.out _).mono ?_); rintro e w1 ⟨rfl, rfl⟩))
  exact bodyPost_panic rfl ⟨rfl, _, rfl⟩
set_option maxRecDepth 100000 in
theorem row_x (B g : Nat) (S : L) (σ : St) (hl : σ.l ≠ []) (W : World) (p n : Nat) (vt vh vx : Value) (ms mp : Nat) (h : MemX W B g S σ p n vt vh vx ms mp) : Calls Tryd.prog 58 #[.pointer (some ⟨g, 0, none⟩)] W fun e W' => e = .returned (.string (mkS (cut σ.l).1)) ∧ (∃ p' n', MemX W' B g S { σ with l := (cut σ.l).2 } p' n' vt vh vx ms mp) ∧ W.grownBy W' (some g) := by
  have HL := Lib.hid (left_v B g S σ W h.mem)
  have hdec : decide (σ.l ≠ []) = true := decide_eq_true hl
  rw [hdec] at HL
  obtain ⟨⟨c0, c1, _⟩, hz⟩ := h.facts
  have HR := Lib.hid (fun m => passRow_x B g S σ (W.drewN m) p n vt vh vx ms mp (h.drewN m))
  have hp := h.small
  have H := Lib.hid h
  obtain ⟨hc1, hc2⟩ := cut_skip σ.l
  have HC1 := Lib.hid hc1
  clear h hdec hl hc1
  rcases hc2 with ⟨hs, hc⟩ | hs
  · have HS := Lib.hid (And.intro hs hc)
    clear hs hc
    go_enter Tryd.func58, Tryd.ntmps58
    go_wp2_with (first
      | (go_at_call 37; (with_reducible refine HL.out.mono ?_); rintro e w1 ⟨rfl, m, rfl⟩)
      | (go_at_call 28; (with_reducible refine (HR.out _).mono ?_); rintro e w2 ⟨rfl, ⟨p2, n2, hm2⟩, hb2⟩; obtain ⟨⟨d0, d1, _⟩, dz⟩ := hm2.facts; have hp2 := hm2.small; have HM2 := Lib.hid hm2; have HB2 := Lib.hid hb2; obtain ⟨hpc, hpp, hpq, hp0⟩ := MemX.piece H.out hm2 HC1.out rfl; clear hm2 hb2))
    go_quiet (fail)
    have hL2 := fun m => left_v B g S { σ with l := skip σ.l } (w2.drewN m) (HM2.out.mem.drewN m)
    rw [show decide (({ σ with l := skip σ.l } : St).l ≠ []) = false by simp [HS.out.1]] at hL2
    have HL2 := Lib.hid hL2
    clear hL2
    go_wp2_with (first
      | (go_at_call 37; (with_reducible refine (HL2.out _).mono ?_); rintro e w5 ⟨rfl, m5, rfl⟩))
    go_ret
    refine ⟨rfl, ⟨p2, n2, ?_⟩, only_trans (only_trans (only_drewN W g m) HB2.out) (only_drewN _ _ _)⟩
    have hm := HM2.out
    rw [HS.out.1] at hm
    rw [HS.out.2]
    exact hm.drewN _
  · have HS := Lib.hid hs
    clear hs
    go_enter Tryd.func58, Tryd.ntmps58
    go_wp2_with (first
      | (go_at_call 37; (with_reducible refine HL.out.mono ?_); rintro e w1 ⟨rfl, m, rfl⟩)
      | (go_at_call 28; (with_reducible refine (HR.out _).mono ?_); rintro e w2 ⟨rfl, ⟨p2, n2, hm2⟩, hb2⟩; obtain ⟨⟨d0, d1, _⟩, dz⟩ := hm2.facts; have hp2 := hm2.small; have HM2 := Lib.hid hm2; have HB2 := Lib.hid hb2; obtain ⟨hpc, hpp, hpq, hp0⟩ := MemX.piece H.out hm2 HC1.out rfl; clear hm2 hb2))
    go_quiet (fail)
    have hL2 := fun m => left_v B g S { σ with l := skip σ.l } (w2.drewN m) (HM2.out.mem.drewN m)
    rw [show decide (({ σ with l := skip σ.l } : St).l ≠ []) = true by simp [HS.out]] at hL2
    have HL2 := Lib.hid hL2
    have HP := Lib.hid (fun m => pass_x B g S { σ with l := skip σ.l } 10 (cut σ.l).2 HS.out (w2.drewN m) p2 n2 vt vh vx ms mp (HM2.out.drewN m))
    clear hL2
    go_wp2_with (first
      | (go_at_call 37; (with_reducible refine (HL2.out _).mono ?_); rintro e w5 ⟨rfl, m5, rfl⟩)
      | (go_at_call 30; (with_reducible refine (HP.out _).mono ?_); rintro e w6 ⟨rfl, ⟨p6, n6, hm6⟩, hb6⟩))
    go_ret
    exact ⟨rfl, ⟨p6, n6, hm6⟩, only_trans (only_trans (only_drewN W g m) HB2.out) (only_trans (only_drewN _ _ _) hb6)⟩
/-- How a here-document's lines end. -/
def DocR (B g : Nat) (S : L) (σ : St) (W : World) (vt vh vx : Value) (ms mp : Nat) (x : Option (L × L)) (e : Ending) (W' : World) : Prop :=
  match x with
  | some (b, r) => e = .returned (.string (mkS b)) ∧ (∃ p' n', MemX W' B g S { σ with l := r } p' n' vt vh vx ms mp) ∧ W.grownBy W' (some g)
  | none => e = .panicked (flt 20 σ.b) ∧ W.grownBy W' (some g)
set_option maxRecDepth 100000 in
theorem body_x (B g : Nat) (S : L) (σ : St) (last : L) (W : World) (p n : Nat) (vt vh vx : Value) (ms mp : Nat) (h : MemX W B g S σ p n vt vh vx ms mp) : Calls Tryd.prog 45 #[.pointer (some ⟨g, 0, none⟩), .string (mkS last)] W (DocR B g S σ W vt vh vx ms mp (doc last σ.l)) := by
  obtain ⟨⟨c0, c1, _⟩, hz⟩ := h.facts
  have hp := h.small
  have H := Lib.hid h
  clear h
  go_enter Tryd.func45, Tryd.ntmps45
  go_wp2
  go_loopw [] (fun wr => ∃ (l' t0 : L), (l' ≠ [] → σ.l = t0 ++ l') ∧ doc last σ.l = (doc last l').map (fun x => (t0 ++ x.1, x.2)) ∧ (∃ p' n', MemX wr B g S { σ with l := l' } p' n' vt vh vx ms mp) ∧ W.grownBy wr (some g)) (fun wr => S.length - atOf g wr)
  case atStart => exact ⟨σ.l, [], fun _ => rfl, by simp, ⟨p, n, H.out⟩, World.grownBy.refl _ _⟩
  case round =>
    obtain ⟨l', t0, ht, hd, ⟨p1, n1, hm⟩, hb⟩ := hrel
    have HT := Lib.hid ht
    have HD := Lib.hid hd
    have HM := Lib.hid hm
    have HB := Lib.hid hb
    obtain ⟨⟨d0, d1, _⟩, dz⟩ := hm.facts
    have hp1 := hm.small
    clear ht hd hb
    by_cases hl : l' = []
    · have HR := Lib.hid (row_bad B g S { σ with l := l' } hl wr hm.mem)
      have HL := Lib.hid hl
      clear hm hl
      go_wp2_with (first
        | (go_at_call 58; (with_reducible refine HR.out.mono ?_); rintro e w1 ⟨rfl, m, rfl⟩))
      refine bodyPost_panic rfl ?_
      rw [HD.out, Lx.doc_at, if_pos HL.out]
      exact ⟨rfl, only_trans HB.out (only_drewN _ _ _)⟩
    · have HR := Lib.hid (row_x B g S { σ with l := l' } hl wr p1 n1 vt vh vx ms mp hm)
      have HL := Lib.hid hl
      have HDA := Lib.hid (Lx.doc_at last l')
      clear hm hl
      by_cases hc : (cut l').1 = last
      · have he : ((mkS (cut l').1).toList == (mkS last).toList) = true := by rw [hc]; exact beq_self_eq_true _
        go_wp2_with (first
          | (go_at_call 58; (with_reducible refine HR.out.mono ?_); rintro e w1 ⟨rfl, ⟨p2, n2, hm2⟩, hb2⟩; obtain ⟨⟨d0, d1, _⟩, dz⟩ := hm2.facts; have HM2 := Lib.hid hm2; have HB2 := Lib.hid hb2; obtain ⟨hpc, hpp, hpq, hp0⟩ := MemX.piece H.out HM.out (HT.out HL.out) rfl; clear hm2 hb2))
        go_ret
        rw [HD.out, HDA.out, if_neg HL.out, if_pos hc]
        exact ⟨by rw [List.append_nil]; rfl, ⟨p2, n2, HM2.out⟩, only_trans HB.out HB2.out⟩
      · have he : ((mkS (cut l').1).toList == (mkS last).toList) = false := by rw [toList_mkS, toList_mkS]; exact beq_eq_false_iff_ne.2 hc
        go_wp2_with (first
          | (go_at_call 58; (with_reducible refine HR.out.mono ?_); rintro e w1 ⟨rfl, ⟨p2, n2, hm2⟩, hb2⟩; have HM2 := Lib.hid hm2; have HB2 := Lib.hid hb2; clear hm2 hb2))
        go_roundw
        case rel =>
          refine ⟨(cut l').2, t0 ++ ((cut l').1 ++ [10]), fun hne => ?_, ?_, ⟨p2, n2, HM2.out⟩, only_trans HB.out HB2.out⟩
          · obtain ⟨e1, e2⟩ := cut_skip l'
            rcases e2 with ⟨_, e2⟩ | e2
            · exact absurd e2 hne
            · rw [HT.out HL.out]
              rw [e2] at e1
              conv => lhs; rw [e1]
              simp
          · rw [HD.out, HDA.out, if_neg HL.out, if_neg hc, Option.map_map]
            congr 1
            funext x
            simp
        case measure =>
          have h3 := Lx.cut_len l' HL.out
          rw [HM2.out.mem.left, HM.out.mem.left]
          exact h3
end Go.Proofs.YtnjabmacbgehlaaDoor
