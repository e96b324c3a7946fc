/- The lexer's reader: all steps. No premises. -/
import Derived.Test.YtnjabmacbgehlaaDoorLmW
namespace Go.Proofs.YtnjabmacbgehlaaDoor
open Go.RowKit Go.Maps
open Lx (nl Tok hung)
section
variable {B g : Nat} {S : L} {σ : St} {W : World}
set_option maxRecDepth 100000 in
theorem slash_more (hno : ([92, 10] : L).isPrefixOf σ.l = false) (h : Mem W B g S σ) (l' : L) (o : List Tok) (hs : List Nat) (hc : ∀ m, Calls Tryd.prog 39 #[.pointer (some ⟨g, 0, none⟩)] (W.drewN m) (StepR B g S (W.drewN m) (.more l' o hs))) : Calls Tryd.prog 27 #[.pointer (some ⟨g, 0, none⟩)] W (StepR B g S W (.more l' o hs)) := by
  have HJ := Lib.hid (passJoin_no B g S σ hno W h)
  have HC := Lib.hid hc
  clear h hno hc
  go_enter Tryd.func27, Tryd.ntmps27
  go_wp2_with (first
    | (go_at_call 44; (with_reducible refine HJ.out.mono ?_); rintro e w2 ⟨rfl, m, rfl⟩)
    | (go_at_call 39; (with_reducible refine (HC.out _).mono ?_); rintro e w3 ⟨rfl, hm3, hb3⟩))
  go_end0
  exact ⟨rfl, hm3, (Below.drewN _ _ _).trans hb3⟩
set_option maxRecDepth 100000 in
theorem slash_fail (hno : ([92, 10] : L).isPrefixOf σ.l = false) (h : Mem W B g S σ) (n k : Nat) (hc : ∀ m, Calls Tryd.prog 39 #[.pointer (some ⟨g, 0, none⟩)] (W.drewN m) (StepR B g S (W.drewN m) (.fail n k))) : Calls Tryd.prog 27 #[.pointer (some ⟨g, 0, none⟩)] W (StepR B g S W (.fail n k)) := by
  have HJ := Lib.hid (passJoin_no B g S σ hno W h)
  have HC := Lib.hid hc
  clear h hno hc
  go_enter Tryd.func27, Tryd.ntmps27
  go_wp2_with (first
    | (go_at_call 44; (with_reducible refine HJ.out.mono ?_); rintro e w2 ⟨rfl, m, rfl⟩)
    | (go_at_call 39; (with_reducible refine (HC.out _).mono ?_); rintro e w3 ⟨rfl, hb3⟩))
  exact bodyPost_panic rfl ⟨rfl, (Below.drewN _ _ _).trans hb3⟩
set_option maxRecDepth 100000 in
theorem slash_join {r : L} (hl : σ.l = 92 :: 10 :: r) (hI : Inv S σ) (h : Mem W B g S σ) : Calls Tryd.prog 27 #[.pointer (some ⟨g, 0, none⟩)] W (StepR B g S W (.more r σ.ts σ.hs)) := by
  have HJ := Lib.hid (passJoin_v B g S σ r hl W h)
  have HI := Lib.hid (hI.rest (l' := r) (by rw [hl]; simp; omega))
  clear h hl hI
  go_enter Tryd.func27, Tryd.ntmps27
  go_wp2_with (first
    | (go_at_call 44; (with_reducible refine HJ.out.mono ?_); rintro e w2 ⟨rfl, hm2, hb2⟩))
  go_end0
  exact ⟨rfl, ⟨{ σ with l := r }, rfl, rfl, rfl, HI.out, hm2⟩, hb2⟩
/-- What reads a step, by its first byte. -/
theorem start_v {c : UInt8} {r : L} (hl : σ.l = c :: r) (hI : Inv S σ) (h0 : 0 < B) (hg0 : Sgn W) (h : Mem W B g S σ) : ∃ f, (startsT g c = some (fnv f g) ∨ (startsT g c = none ∧ f = 39)) ∧ (∀ args w, (callFunc f args).run Tryd.prog w = .ok (.enter f args) w) ∧ ∀ m, Calls Tryd.prog f #[.pointer (some ⟨g, 0, none⟩)] (W.drewN m) (StepR B g S (W.drewN m) (Lx.step σ.l σ.ts σ.hs)) := by
  have hd := fun m => h.drewN m
  have hgd : ∀ m, Sgn (W.drewN m) := fun m => hg0
  have hnd : ∀ x y, Lx.step σ.l σ.ts σ.hs ≠ .done x ∨ y := fun _ _ => .inl (by
    rw [hl]
    intro e
    unfold Lx.step at e
    simp only at e
    repeat' (split at e)
    all_goals first | cases e)
  by_cases h1 : c = 32 ∨ c = 9
  · refine ⟨30, .inl ?_, fun _ _ => run_enter Tryd.func30 rfl rfl _ _, fun m => step_pass hl hI ?_ (hd m)⟩
    · rcases h1 with rfl | rfl <;> rfl
    · rw [hl]; unfold Lx.step; simp only [if_pos h1]
  by_cases h2 : c = 92
  · subst h2
    refine ⟨27, .inl rfl, fun _ _ => run_enter Tryd.func27 rfl rfl _ _, fun m => ?_⟩
    by_cases hj : r.head? = some 10
    · cases r with
      | nil => cases hj
      | cons d r2 =>
        simp only [List.head?_cons, Option.some.injEq] at hj
        subst hj
        have hs : Lx.step σ.l σ.ts σ.hs = .more r2 σ.ts σ.hs := by rw [hl]; rfl
        rw [hs]
        exact slash_join hl hI (hd m)
    · have hs : Lx.step σ.l σ.ts σ.hs = (match Lx.word (92 :: r) with
          | .error e => .fail e (nl (92 :: r))
          | .ok (t, r') => if Lx.io t ((92 :: r).length - r'.length) r' = true then .more r' (σ.ts ++ [⟨5, t, [], nl (92 :: r)⟩]) σ.hs else .more r' (σ.ts ++ [⟨1, t, [], nl (92 :: r)⟩]) (if hung σ.ts = true then σ.hs ++ [σ.ts.length] else σ.hs)) := by
        rw [hl]
        unfold Lx.step
        dsimp only
        rw [if_neg h1, if_neg (fun e => hj e.2)]
        rfl
      have hw := fun m' => step_word (W := (W.drewN m).drewN m') hl hI rfl hs (by rw [World.drewN_drewN]; exact hd _)
      have hno : ([92, 10] : L).isPrefixOf σ.l = false := by
        rw [hl]
        cases r with
        | nil => rfl
        | cons d r2 => simp [List.isPrefixOf]; intro e; exact hj (by rw [← e]; rfl)
      cases hx : Lx.step σ.l σ.ts σ.hs with
      | more l' o hs' => rw [hx] at hw; exact slash_more hno (hd m) l' o hs' hw
      | fail n k => rw [hx] at hw; exact slash_fail hno (hd m) n k hw
      | done o => exact absurd hx ((hnd o False).resolve_right id)
  by_cases h3 : c = 35
  · subst h3
    exact ⟨28, .inl rfl, fun _ _ => run_enter Tryd.func28 rfl rfl _ _, fun m => step_row hI (by rw [hl]; rfl) (hd m)⟩
  by_cases h4 : c = 10
  · subst h4
    exact ⟨29, .inl rfl, fun _ _ => run_enter Tryd.func29 rfl rfl _ _, fun m => step_line hl hI (hd m)⟩
  have hst : Lx.step σ.l σ.ts σ.hs = (match Lx.sign (c :: r) with
      | some (t, r') => .more r' (σ.ts ++ [⟨2, t, [], nl (c :: r)⟩]) σ.hs
      | none => if c = 38 then .fail 20 (nl (c :: r)) else match Lx.word (c :: r) with
        | .error e => .fail e (nl (c :: r))
        | .ok (t, r') => if Lx.io t ((c :: r).length - r'.length) r' = true then .more r' (σ.ts ++ [⟨5, t, [], nl (c :: r)⟩]) σ.hs else .more r' (σ.ts ++ [⟨1, t, [], nl (c :: r)⟩]) (if hung σ.ts = true then σ.hs ++ [σ.ts.length] else σ.hs)) := by
    rw [hl]; unfold Lx.step
    simp only [if_neg h1, if_neg h3, if_neg h4, if_neg (show ¬ (c = 92 ∧ r.head? = some 10) from fun e => h2 e.1)]
    rfl
  by_cases h5 : c = 59 ∨ c = 38 ∨ c = 124 ∨ c = 40 ∨ c = 41 ∨ c = 60 ∨ c = 62
  · refine ⟨31, .inl ?_, fun _ _ => run_enter Tryd.func31 rfl rfl _ _, fun m => step_sign hl hI ?_ h0 (hgd m) (hd m)⟩
    · unfold startsT
      simp only [if_neg h1, if_neg h2, if_neg h3, if_neg h4, if_pos h5]
    · rw [hst]
      cases hx : Lx.sign (c :: r) with
      | some x => rfl
      | none =>
        by_cases h38 : c = 38
        · simp only [if_pos h38]
        · exfalso
          have he := Lx.sign_none hx h1 h4 h38
          simp [Lx.ends, Lx.stop] at he
          rcases h5 with h5 | h5 | h5 | h5 | h5 | h5 | h5
          all_goals (subst h5; revert he; decide)
  · refine ⟨39, .inr ⟨?_, rfl⟩, fun _ _ => run_enter Tryd.func39 rfl rfl _ _, fun m => ?_⟩
    · unfold startsT
      simp only [if_neg h1, if_neg h2, if_neg h3, if_neg h4, if_neg h5]
    · have hns : Lx.sign (c :: r) = none := by
        simp only [not_or] at h5
        unfold Lx.sign
        simp [h5.1, h5.2.1, h5.2.2.1, h5.2.2.2.1, h5.2.2.2.2.1, h5.2.2.2.2.2.1, h5.2.2.2.2.2.2]
      have h38 : ¬ c = 38 := fun e => h5 (.inr (.inl e))
      refine step_word hl hI (Lx.sign_none hns h1 h4 h38) ?_ (hd m)
      rw [hst, hns]
      simp only [if_neg h38]
      rfl
theorem stepR_drewN {x : Lx.Step} {e : Ending} {W W' : World} {m n : Nat} (h : StepR B g S (W.drewN m) x e W') : StepR B g S (W.drewN n) x e W' := by
  have hb : ∀ W', Below B (W.drewN m) W' → Below B (W.drewN n) W' := fun W' h => ⟨h.os, h.tape, h.output, h.size, h.block⟩
  cases x with
  | more l' o hs => exact ⟨h.1, h.2.1, hb _ h.2.2⟩
  | fail n k => exact ⟨h.1, hb _ h.2⟩
  | done o => exact h
/-- How all steps end. -/
def AllR (B : Nat) (S : L) (W : World) (x : Except (Nat × Nat) (List Tok)) (e : Ending) (W' : World) : Prop :=
  match x with
  | .ok o => (∃ vt, e = .returned vt ∧ W'.ownsRow B 33 4 vt o.length (cellsT (nl S) o)) ∧ Below B W W'
  | .error (n, k) => e = .panicked (flt n (1 + nl S - k : Nat)) ∧ Below B W W'
set_option maxHeartbeats 1600000 in
set_option maxRecDepth 100000 in
theorem all_r (hI : Inv S σ) (h0 : 0 < B) (hg0 : Sgn W) (h : Mem W B g S σ) : Calls Tryd.prog 24 #[.pointer (some ⟨g, 0, none⟩)] W (AllR B S W (Lx.run σ.l σ.ts σ.hs)) := by
  have hmf : ∀ (fn : Fn) (first cap : Array Value) (w : World), (Instr.makeFunc fn first cap).run Tryd.prog w = .ok (.func fn first cap) w := fun _ _ _ _ => rfl
  have H := Lib.hid h
  have HI := Lib.hid hI
  have HG := Lib.hid (And.intro h0 hg0)
  clear h hI h0 hg0
  go_enter Tryd.func24, Tryd.ntmps24
  go_wp2
  go_loopw [] (fun wr => ∃ σ' : St, Lx.run σ.l σ.ts σ.hs = Lx.run σ'.l σ'.ts σ'.hs ∧ Inv S σ' ∧ Mem wr B g S σ' ∧ Below B W wr) (fun wr => S.length - atOf g wr)
  case atStart => exact ⟨σ, rfl, HI.out, H.out, Below.refl _ _⟩
  case round =>
    obtain ⟨σ', hr, hi, hm, hb⟩ := hrel
    have HR := Lib.hid hr
    have HI' := Lib.hid hi
    have HM := Lib.hid hm
    have HB := Lib.hid hb
    have hL := left_v B g S σ' wr hm
    clear hr hi hb hm
    cases hl : σ'.l with
    | nil =>
      rw [show decide (σ'.l ≠ []) = false by rw [hl]; rfl] at hL
      have HL := Lib.hid hL
      clear hL
      have hrun : Lx.run σ'.l σ'.ts σ'.hs = (if σ'.hs = [] then .ok (σ'.ts ++ [⟨4, [], [], 0⟩]) else .error (20, ((σ'.ts.getLast?.map Tok.left).getD 0))) := by
        rw [Lx.run_at, hl]
        unfold Lx.step
        by_cases e : σ'.hs = []
        · simp only [if_pos e]
        · simp only [if_neg e]
      have HRUN := Lib.hid hrun
      clear hrun
      by_cases hh : σ'.hs = []
      · obtain ⟨b, hb1, hb2, hS⟩ := HM.out.line
        have hts := HI'.out.room
        have HLN := Lib.hid (show 1 + nl S - 0 = b by rw [hb2, hl]; rfl)
        have HBG := Lib.hid (fun m => begin_v B g S σ' b hb1 (wr.drewN m) (HM.out.drewN m))
        have HTE := Lib.hid (fun W hW => tell_v B g S { σ' with b := b } 4 ⟨#[]⟩ ⟨4, [], [], 0⟩ rfl rfl rfl HLN.out (by show σ'.ts.length ≤ 5000; omega) W hW)
        obtain ⟨p, n, vt, vh, vx, ms, mp, hx⟩ := HM.out
        obtain ⟨A, c, rfl, _⟩ := own_map hx.her
        obtain ⟨⟨_, _, _, _, _, c5, _⟩, hz⟩ := hx.facts
        have c55 : wr.cell? ⟨g, 5, none⟩ = some (.slice A 0 c) := by rw [hh] at c5; exact c5
        have HH := Lib.hid hh
        clear hb1 hb2 hS hts hx c5 hh hl
        go_wp2_with (first
          | (go_at_call 37; (with_reducible refine HL.out.mono ?_); rintro e w2 ⟨rfl, m, rfl⟩)
          | (go_at_call 40; (with_reducible refine (HBG.out _).mono ?_); rintro e w3 ⟨rfl, hm3, hb3⟩; have HM3 := Lib.hid hm3; have HB3 := Lib.hid hb3; clear hm3 hb3)
          | (go_at_call 41; (with_reducible refine (HTE.out _ HM3.out).mono ?_); rintro e w4 ⟨rfl, ⟨p4, n4, vt4, vh4, vx4, ms4, mp4, hx4⟩, hb4⟩; obtain ⟨⟨_, _, _, _, d4, _⟩, dz⟩ := hx4.facts; have HX4 := Lib.hid hx4; have HB4 := Lib.hid hb4; clear hx4 hb4))
        go_ret
        rw [HR.out, HRUN.out, if_pos HH.out]
        exact ⟨⟨vt4, rfl, HX4.out.tok⟩, (HB.out.trans ((Below.drewN _ _ _).trans HB3.out)).trans HB4.out⟩
      · have HRF := Lib.hid (fun m => refuse_v B g S σ' (wr.drewN m) (HM.out.drewN m))
        obtain ⟨p, n, vt, vh, vx, ms, mp, hx⟩ := HM.out
        obtain ⟨A, c, rfl, _⟩ := own_map hx.her
        obtain ⟨⟨_, _, _, _, _, c5, _⟩, hz⟩ := hx.facts
        have hpos : (0 : Int) < (σ'.hs.length : Int) := by have := List.length_pos_iff.2 hh; omega
        have hfew := HI'.out.few
        have hroom := HI'.out.room
        have hbig := hx.big
        have hlast : σ'.b = 1 + nl S - ((σ'.ts.getLast?.map Tok.left).getD 0) := by
          cases hg : σ'.ts.getLast? with
          | none =>
            rw [List.getLast?_eq_none_iff] at hg
            rw [hg] at hfew
            simp at hfew
            exact absurd hfew hh
          | some t => exact HI'.out.last t hg
        have HLAST := Lib.hid hlast
        have HH := Lib.hid hh
        have hs5 : σ'.hs.length ≤ 5000 := by omega
        clear hx hh hl hfew hroom hbig hlast
        go_wp2_with (first
          | (go_at_call 37; (with_reducible refine HL.out.mono ?_); rintro e w2 ⟨rfl, m, rfl⟩)
          | (go_at_call 36; (with_reducible refine (HRF.out _).mono ?_); rintro e w3 ⟨rfl, rfl⟩))
        refine bodyPost_panic rfl ?_
        rw [HR.out, HRUN.out, if_neg HH.out]
        exact ⟨by rw [HLAST.out]; rfl, HB.out.trans (Below.drewN _ _ _)⟩
    | cons c r =>
      rw [show decide (σ'.l ≠ []) = true by rw [hl]; rfl] at hL
      have HL := Lib.hid hL
      clear hL
      obtain ⟨f, hf, hent, hcall⟩ := start_v hl HI'.out HG.out.1 (HG.out.2.keep HB.out HG.out.1) HM.out
      have HPK := Lib.hid (fun W hW => peek_v B g S σ' c r hl W hW)
      have HRA := Lib.hid (Lx.run_at σ'.l σ'.ts σ'.hs)
      have HLT := Lib.hid (fun l' o hs => Lx.step_lt (l := σ'.l) (l' := l') (out := σ'.ts) (out' := o) (here := σ'.hs) (here' := hs))
      have HCL := Lib.hid hcall
      clear hcall hl
      rcases hf with hf | ⟨hf, rfl⟩
      · cases hx : Lx.step σ'.l σ'.ts σ'.hs with
        | done o =>
          have hcl := HCL.out
          rw [hx] at hcl
          obtain ⟨e, w', fr, hd, _⟩ := hcl 0 []
          exact hd.elim
        | fail n9 k9 =>
          have hcl := HCL.out
          rw [hx] at hcl
          have HC := Lib.hid hcl
          have HX := Lib.hid hx
          clear hcl hx
          go_wp2_with (first
            | (go_at_call 37; (with_reducible refine HL.out.mono ?_); rintro e w2 ⟨rfl, m, rfl⟩))
          obtain ⟨w0, hw0⟩ : ∃ w0, w0 = wr.drewN m := ⟨_, rfl⟩
          rw [← hw0]
          have hm0 : Mem w0 B g S σ' := by rw [hw0]; exact HM.out.drewN m
          have HB0 := Lib.hid (show Below B W w0 by rw [hw0]; exact HB.out.trans (Below.drewN _ _ _))
          have HCC := Lib.hid (show ∀ n, Calls Tryd.prog f #[.pointer (some ⟨g, 0, none⟩)] (w0.drewN n) (StepR B g S (w0.drewN n) (.fail n9 k9)) from fun n => by rw [hw0, World.drewN_drewN]; exact (HC.out (m + n)).mono fun e w' hh => stepR_drewN hh)
          have HP := Lib.hid (fun n => HPK.out (w0.drewN n) (hm0.drewN n))
          obtain ⟨p, n, vt, vh, vx, ms, mp, hx⟩ := hm0
          obtain ⟨⟨_, _, _, _, _, _, _, _, _, c9, _⟩, hz⟩ := hx.facts
          have hlook := hx.st.look c
          rw [hf] at hlook
          have hlook2 : ∀ n, (Instr.lookup 49 (.map (some ms)) (.int .u8 (c.toNat : Int)) true).run Tryd.prog (w0.drewN n) = .ok (.tuple #[.func (.func f) #[.pointer (some ⟨g, 0, none⟩)] #[], .bool true]) (w0.drewN n) := hlook
          have HM0 := Lib.hid hx
          clear hlook hx hw0 HC
          go_quiet ((go_at_call 38; exact Calls.quiet_of (HP.out _)))
          go_wp2
          refine (HCC.out _).mono ?_
          rintro e w3 ⟨rfl, hb3⟩
          refine bodyPost_panic (P := Tryd.prog) (fn := Tryd.f24) rfl ?_
          rw [HR.out, HRA.out, HX.out]
          exact ⟨rfl, HB0.out.trans ((Below.drewN _ _ _).trans hb3)⟩
        | more l9 o9 h9 =>
          have hcl := HCL.out
          rw [hx] at hcl
          have HC := Lib.hid hcl
          have HX := Lib.hid hx
          clear hcl hx
          go_wp2_with (first
            | (go_at_call 37; (with_reducible refine HL.out.mono ?_); rintro e w2 ⟨rfl, m, rfl⟩))
          obtain ⟨w0, hw0⟩ : ∃ w0, w0 = wr.drewN m := ⟨_, rfl⟩
          rw [← hw0]
          have hm0 : Mem w0 B g S σ' := by rw [hw0]; exact HM.out.drewN m
          have HB0 := Lib.hid (show Below B W w0 by rw [hw0]; exact HB.out.trans (Below.drewN _ _ _))
          have HCC := Lib.hid (show ∀ n, Calls Tryd.prog f #[.pointer (some ⟨g, 0, none⟩)] (w0.drewN n) (StepR B g S (w0.drewN n) (.more l9 o9 h9)) from fun n => by rw [hw0, World.drewN_drewN]; exact (HC.out (m + n)).mono fun e w' hh => stepR_drewN hh)
          have HP := Lib.hid (fun n => HPK.out (w0.drewN n) (hm0.drewN n))
          obtain ⟨p, n, vt, vh, vx, ms, mp, hx⟩ := hm0
          obtain ⟨⟨_, _, _, _, _, _, _, _, _, c9, _⟩, hz⟩ := hx.facts
          have hlook := hx.st.look c
          rw [hf] at hlook
          have hlook2 : ∀ n, (Instr.lookup 49 (.map (some ms)) (.int .u8 (c.toNat : Int)) true).run Tryd.prog (w0.drewN n) = .ok (.tuple #[.func (.func f) #[.pointer (some ⟨g, 0, none⟩)] #[], .bool true]) (w0.drewN n) := hlook
          have HM0 := Lib.hid hx
          clear hlook hx hw0 HC
          go_quiet ((go_at_call 38; exact Calls.quiet_of (HP.out _)))
          go_wp2
          refine (HCC.out _).mono ?_
          rintro e w3 ⟨rfl, ⟨σ3, e1, e2, e3, hi3, hm3⟩, hb3⟩
          have HE := Lib.hid (And.intro e1 (And.intro e2 e3))
          have HI3 := Lib.hid hi3
          have HM3 := Lib.hid hm3
          have HB3 := Lib.hid hb3
          clear e1 e2 e3 hi3 hm3 hb3
          go_wp2
          go_roundw
          case rel => exact ⟨σ3, by rw [HR.out, HRA.out, HX.out, HE.out.1, HE.out.2.1, HE.out.2.2], HI3.out, HM3.out, HB0.out.trans ((Below.drewN _ _ _).trans HB3.out)⟩
          case measure =>
            rw [HM3.out.left, HM.out.left, HE.out.1]
            exact HLT.out _ _ _ HX.out
      · have hent2 := hent
        cases hx : Lx.step σ'.l σ'.ts σ'.hs with
        | done o =>
          have hcl := HCL.out
          rw [hx] at hcl
          obtain ⟨e, w', fr, hd, _⟩ := hcl 0 []
          exact hd.elim
        | fail n9 k9 =>
          have hcl := HCL.out
          rw [hx] at hcl
          have HC := Lib.hid hcl
          have HX := Lib.hid hx
          clear hcl hx
          go_wp2_with (first
            | (go_at_call 37; (with_reducible refine HL.out.mono ?_); rintro e w2 ⟨rfl, m, rfl⟩))
          obtain ⟨w0, hw0⟩ : ∃ w0, w0 = wr.drewN m := ⟨_, rfl⟩
          rw [← hw0]
          have hm0 : Mem w0 B g S σ' := by rw [hw0]; exact HM.out.drewN m
          have HB0 := Lib.hid (show Below B W w0 by rw [hw0]; exact HB.out.trans (Below.drewN _ _ _))
          have HCC := Lib.hid (show ∀ n, Calls Tryd.prog 39 #[.pointer (some ⟨g, 0, none⟩)] (w0.drewN n) (StepR B g S (w0.drewN n) (.fail n9 k9)) from fun n => by rw [hw0, World.drewN_drewN]; exact (HC.out (m + n)).mono fun e w' hh => stepR_drewN hh)
          have HP := Lib.hid (fun n => HPK.out (w0.drewN n) (hm0.drewN n))
          obtain ⟨p, n, vt, vh, vx, ms, mp, hx⟩ := hm0
          obtain ⟨⟨_, _, _, _, _, _, _, _, _, c9, _⟩, hz⟩ := hx.facts
          have hlook := hx.st.look c
          rw [hf] at hlook
          have hlook2 : ∀ n, (Instr.lookup 49 (.map (some ms)) (.int .u8 (c.toNat : Int)) true).run Tryd.prog (w0.drewN n) = .ok (.tuple #[.nilFunc, .bool false]) (w0.drewN n) := hlook
          have HM0 := Lib.hid hx
          clear hlook hx hw0 HC
          go_quiet ((go_at_call 38; exact Calls.quiet_of (HP.out _)))
          go_wp2_with (first
            | (go_at_call 39; (with_reducible refine (HCC.out _).mono ?_); rintro e w3 ⟨rfl, hb3⟩))
          refine bodyPost_panic (P := Tryd.prog) (fn := Tryd.f24) rfl ?_
          rw [HR.out, HRA.out, HX.out]
          exact ⟨rfl, HB0.out.trans ((Below.drewN _ _ _).trans hb3)⟩
        | more l9 o9 h9 =>
          have hcl := HCL.out
          rw [hx] at hcl
          have HC := Lib.hid hcl
          have HX := Lib.hid hx
          clear hcl hx
          go_wp2_with (first
            | (go_at_call 37; (with_reducible refine HL.out.mono ?_); rintro e w2 ⟨rfl, m, rfl⟩))
          obtain ⟨w0, hw0⟩ : ∃ w0, w0 = wr.drewN m := ⟨_, rfl⟩
          rw [← hw0]
          have hm0 : Mem w0 B g S σ' := by rw [hw0]; exact HM.out.drewN m
          have HB0 := Lib.hid (show Below B W w0 by rw [hw0]; exact HB.out.trans (Below.drewN _ _ _))
          have HCC := Lib.hid (show ∀ n, Calls Tryd.prog 39 #[.pointer (some ⟨g, 0, none⟩)] (w0.drewN n) (StepR B g S (w0.drewN n) (.more l9 o9 h9)) from fun n => by rw [hw0, World.drewN_drewN]; exact (HC.out (m + n)).mono fun e w' hh => stepR_drewN hh)
          have HP := Lib.hid (fun n => HPK.out (w0.drewN n) (hm0.drewN n))
          obtain ⟨p, n, vt, vh, vx, ms, mp, hx⟩ := hm0
          obtain ⟨⟨_, _, _, _, _, _, _, _, _, c9, _⟩, hz⟩ := hx.facts
          have hlook := hx.st.look c
          rw [hf] at hlook
          have hlook2 : ∀ n, (Instr.lookup 49 (.map (some ms)) (.int .u8 (c.toNat : Int)) true).run Tryd.prog (w0.drewN n) = .ok (.tuple #[.nilFunc, .bool false]) (w0.drewN n) := hlook
          have HM0 := Lib.hid hx
          clear hlook hx hw0 HC
          go_quiet ((go_at_call 38; exact Calls.quiet_of (HP.out _)))
          go_wp2_with (first
            | (go_at_call 39; (with_reducible refine (HCC.out _).mono ?_); rintro e w3 ⟨rfl, ⟨σ3, e1, e2, e3, hi3, hm3⟩, hb3⟩; have HE := Lib.hid (And.intro e1 (And.intro e2 e3)); have HI3 := Lib.hid hi3; have HM3 := Lib.hid hm3; have HB3 := Lib.hid hb3; clear e1 e2 e3 hi3 hm3 hb3))
          go_roundw
          case rel => exact ⟨σ3, by rw [HR.out, HRA.out, HX.out, HE.out.1, HE.out.2.1, HE.out.2.2], HI3.out, HM3.out, HB0.out.trans ((Below.drewN _ _ _).trans HB3.out)⟩
          case measure =>
            rw [HM3.out.left, HM.out.left, HE.out.1]
            exact HLT.out _ _ _ HX.out
end
end Go.Proofs.YtnjabmacbgehlaaDoor
