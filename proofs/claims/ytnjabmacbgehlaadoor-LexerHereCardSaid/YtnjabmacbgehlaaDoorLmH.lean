/- The lexer's reader: the parts of a word that hold no others. No premises. -/
import Derived.Test.YtnjabmacbgehlaaDoorLmF
import Derived.Test.YtnjabmacbgehlaaDoorLxA
namespace Go.Proofs.YtnjabmacbgehlaaDoor
open Go.RowKit Go.Maps
open Lx (nl Tok R sq ar up part pre)
/-- Behind a part: the rest, and what was read. -/
def St.to (σ : St) (k : Nat) (r t : L) : St := { σ with l := r, q := σ.q ++ t, j := decide (r.length + (σ.q ++ t).length ≠ k) }
/-- Within a word that had k bytes ahead of it. -/
structure Nm (k : Nat) (σ : St) : Prop where
  j : σ.j = decide (σ.l.length + σ.q.length ≠ k)
  le : σ.l.length + σ.q.length ≤ k
  top : k ≤ 4096
theorem Nm.to_ {k : Nat} {σ : St} (h : Nm k σ) {r t : L} (hr : r.length + (σ.q ++ t).length ≤ k) : Nm k (σ.to k r t) := ⟨rfl, hr, h.top⟩
theorem St.to_to (σ : St) (k : Nat) (r t r' t' : L) : (σ.to k r t).to k r' t' = σ.to k r' (t ++ t') := by simp [St.to]
theorem Nm.self {k : Nat} {σ : St} (h : Nm k σ) : σ.to k σ.l [] = σ := by
  cases σ
  have hj := h.j
  simp only at hj
  unfold St.to
  simp only [List.append_nil]
  rw [hj]
/-- How a part ends. -/
def Fin (B g : Nat) (S : L) (σ : St) (k : Nat) (W : World) (x : R) (e : Ending) (W' : World) : Prop :=
  match x with
  | .ok (t, r) => e = .returned (.tuple #[]) ∧ Mem W' B g S (σ.to k r t) ∧ Below B W W' ∧ r.length + (σ.q ++ t).length ≤ k
  | .error n => e = .panicked (flt n σ.b) ∧ Below B W W'
theorem take_k (B g : Nat) (S : L) (k : Nat) (σ : St) (c : UInt8) (r : L) (hl : σ.l = c :: r) (hn : Nm k σ) (W : World) (h : Mem W B g S σ) : Calls Tryd.prog 48 #[.pointer (some ⟨g, 0, none⟩)] W fun e W' => e = .returned (.int .u8 (c.toNat : Int)) ∧ Mem W' B g S (σ.to k r [c]) ∧ Below B W W' ∧ r.length + (σ.q ++ [c]).length ≤ k := by
  have hle := hn.le
  have hj := hn.j
  have htop := hn.top
  rw [hl] at hle hj
  simp only [List.length_cons] at hle hj
  refine (take_v B g S σ c r hl (by omega) W h).mono ?_
  rintro e W' ⟨h1, h2, h3⟩
  refine ⟨h1, ?_, h3, by simp only [List.length_append, List.length_cons, List.length_nil]; omega⟩
  have e1 : σ.to k r [c] = { σ with l := r, q := σ.q ++ [c] } := by
    unfold St.to
    rw [hj]
    simp only [List.length_append, List.length_cons, List.length_nil]
    congr 2
    rw [show r.length + (σ.q.length + (0 + 1)) = r.length + 1 + σ.q.length by omega]
  rw [e1]
  exact h2
def escM : L → R
  | [] => .error 20
  | b :: q => .ok (if b = 10 then [] else [92, b], q)
set_option maxRecDepth 100000 in
theorem escape_v (B g : Nat) (S : L) (k : Nat) (σ : St) (r : L) (hl : σ.l = 92 :: r) (hn : Nm k σ) (W : World) (h : Mem W B g S σ) : Calls Tryd.prog 32 #[.pointer (some ⟨g, 0, none⟩)] W (Fin B g S σ k W (escM r)) := by
  have hle := hn.le
  rw [hl] at hle
  simp only [List.length_cons] at hle
  match r, hl, hle with
  | [], hl, hle =>
    have HJ := Lib.hid (passJoin_no B g S σ (by rw [hl]; rfl) W h)
    have HT := Lib.hid (fun m => take_k B g S k σ 92 [] hl hn (W.drewN m) (h.drewN m))
    clear h hl hle
    go_enter Tryd.func32, Tryd.ntmps32
    go_wp2_with (first
      | (go_at_call 44; (with_reducible refine HJ.out.mono ?_); rintro e w1 ⟨rfl, m, rfl⟩)
      | (go_at_call 48; first | ((with_reducible refine (HT.out _).mono ?_); rintro e w2 ⟨rfl, hm2, hb2, hk2⟩; have HT2 := Lib.hid (take_bad B g S (σ.to k [] [92]) rfl w2 hm2); have HB2 := Lib.hid hb2; clear hm2 hb2) | ((with_reducible refine HT2.out.mono ?_); rintro e w3 ⟨rfl, m3, rfl⟩)))
    exact bodyPost_panic rfl ⟨rfl, ((Below.drewN _ _ _).trans HB2.out).trans (Below.drewN _ _ _)⟩
  | b :: q, hl, hle =>
    simp only [List.length_cons] at hle
    by_cases hb : b = 10
    · subst hb
      have HJ := Lib.hid (passJoin_v B g S σ q hl W h)
      have HN := Lib.hid hn
      have HLE := Lib.hid hle
      clear h hl hn hle
      go_enter Tryd.func32, Tryd.ntmps32
      go_wp2_with (first
        | (go_at_call 44; (with_reducible refine HJ.out.mono ?_); rintro e w1 ⟨rfl, ⟨p, n, vt, vh, vx, ms, mp, hm⟩, hb⟩; obtain ⟨⟨_, _, _, _, _, _, _, c7, _⟩, hz⟩ := hm.facts; have HM := Lib.hid hm; have HB := Lib.hid hb; clear hm hb))
      go_end0
      have hto : σ.to k q [] = { σ with l := q, j := true } := by
        unfold St.to
        simp only [List.append_nil]
        congr 1
        have := HLE.out
        exact decide_eq_true (by omega)
      refine ⟨rfl, ?_, HB.out.setCell HM.out.low _, by have := HLE.out; simp only [if_pos, List.append_nil]; omega⟩
      rw [if_pos rfl, hto]
      exact (HM.out.set 7 _ (σ' := { σ with l := q, j := true }) (by simp) HM.out.cut HM.out.at_ HM.out.ln rfl rfl rfl).mem
    · have HJ := Lib.hid (passJoin_no B g S σ (by rw [hl]; simp [List.isPrefixOf]; intro e; exact absurd e.symm hb) W h)
      have HT := Lib.hid (fun m => take_k B g S k σ 92 (b :: q) hl hn (W.drewN m) (h.drewN m))
      have HN := Lib.hid hn
      have HNB := Lib.hid hb
      clear h hl hn hle hb
      go_enter Tryd.func32, Tryd.ntmps32
      go_wp2_with (first
        | (go_at_call 44; (with_reducible refine HJ.out.mono ?_); rintro e w1 ⟨rfl, m, rfl⟩)
        | (go_at_call 48; first | ((with_reducible refine (HT.out _).mono ?_); rintro e w2 ⟨rfl, hm2, hb2, hk2⟩; have HT2 := Lib.hid (take_k B g S k (σ.to k (b :: q) [92]) b q rfl (HN.out.to_ hk2) w2 hm2); have HB2 := Lib.hid hb2; clear hm2 hb2) | ((with_reducible refine HT2.out.mono ?_); rintro e w3 ⟨rfl, hm3, hb3, hk3⟩)))
      go_end0
      rw [St.to_to] at hm3
      show Fin B g S σ k W (.ok (if b = 10 then [] else [92, b], q)) _ _
      rw [if_neg HNB.out]
      exact ⟨rfl, hm3, ((Below.drewN _ _ _).trans HB2.out).trans hb3, by simpa [St.to] using hk3⟩
def sqM (r : L) : R := match sq r with | none => .error 20 | some (t, q) => .ok (39 :: t, q)
set_option maxRecDepth 100000 in
theorem single_v (B g : Nat) (S : L) (k : Nat) (σ : St) (r : L) (hl : σ.l = 39 :: r) (hn : Nm k σ) (W : World) (h : Mem W B g S σ) : Calls Tryd.prog 33 #[.pointer (some ⟨g, 0, none⟩)] W (Fin B g S σ k W (sqM r)) := by
  have HT := Lib.hid (take_k B g S k σ 39 r hl hn W h)
  have HN := Lib.hid hn
  clear h hl hn
  go_enter Tryd.func33, Tryd.ntmps33
  go_wp2_with (first
    | (go_at_call 48; (with_reducible refine HT.out.mono ?_); rintro e w2 ⟨rfl, hm2, hb2, hk2⟩; have HM2 := Lib.hid hm2; have HB2 := Lib.hid hb2; have HK2 := Lib.hid hk2; clear hm2 hb2 hk2))
  go_loopw [] (fun wr => ∃ (l' t0 : L), sq r = (sq l').map (fun p => (t0 ++ p.1, p.2)) ∧ Mem wr B g S (σ.to k l' (39 :: t0)) ∧ Below B W wr ∧ l'.length + (σ.q ++ 39 :: t0).length ≤ k) (fun wr => S.length - atOf g wr)
  case atStart => exact ⟨r, [], by simp, HM2.out, HB2.out, HK2.out⟩
  case round =>
    obtain ⟨l', t0, hs, hm, hb, hk⟩ := hrel
    have HS := Lib.hid hs
    have HM := Lib.hid hm
    have HB := Lib.hid hb
    have HK := Lib.hid hk
    clear hs hb
    cases l' with
    | nil =>
      have HT := Lib.hid (take_bad B g S (σ.to k [] (39 :: t0)) rfl wr hm)
      clear hm hk
      go_wp2_with (first
        | (go_at_call 48; (with_reducible refine HT.out.mono ?_); rintro e w2 ⟨rfl, m, rfl⟩))
      refine bodyPost_panic rfl ?_
      unfold sqM
      rw [HS.out]
      exact ⟨rfl, HB.out.trans (Below.drewN _ _ _)⟩
    | cons c l'' =>
      have HT := Lib.hid (take_k B g S k (σ.to k (c :: l'') (39 :: t0)) c l'' rfl (HN.out.to_ hk) wr hm)
      clear hm hk
      by_cases hc : c = 39
      · have h39 : ((c.toNat : Int) != 39) = false := byt_nne 39 hc
        go_wp2_with (first
          | (go_at_call 48; (with_reducible refine HT.out.mono ?_); rintro e w2 ⟨rfl, hm2, hb2, hk2⟩; have HM2 := Lib.hid hm2; have HB2 := Lib.hid hb2; have HK2 := Lib.hid hk2; clear hm2 hb2 hk2))
        go_end0
        unfold sqM
        rw [HS.out, sq, if_pos hc]
        have hm := HM2.out
        rw [St.to_to, hc] at hm
        have hk := HK2.out
        exact ⟨rfl, hm, HB.out.trans HB2.out, by rw [hc] at hk; simpa [St.to] using hk⟩
      · have h39 : ((c.toNat : Int) != 39) = true := byt_neq 39 hc
        go_wp2_with (first
          | (go_at_call 48; (with_reducible refine HT.out.mono ?_); rintro e w2 ⟨rfl, hm2, hb2, hk2⟩; have HM2 := Lib.hid hm2; have HB2 := Lib.hid hb2; have HK2 := Lib.hid hk2; clear hm2 hb2 hk2))
        go_roundw
        case rel =>
          have hm := HM2.out
          rw [St.to_to] at hm
          have hk := HK2.out
          refine ⟨l'', t0 ++ [c], ?_, hm, HB.out.trans HB2.out, by simpa [St.to] using hk⟩
          rw [HS.out, sq, if_neg hc, Option.map_map]
          congr 1
          funext p
          simp
        case measure => rw [HM2.out.left, HM.out.left]; simp [St.to]
end Go.Proofs.YtnjabmacbgehlaaDoor
