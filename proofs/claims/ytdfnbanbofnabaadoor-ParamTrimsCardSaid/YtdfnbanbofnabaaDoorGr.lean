/- Cut. No premises. -/
import Derived.Test.YtdfnbanbofnabaaDoorGq
namespace Go.Proofs.YtdfnbanbofnabaaDoor
open Go.RowKit Go.Maps
namespace Gl
/-- Beginnings, or ends, that signs tell. -/
def QC (d : Bool) (g : List Sg) (s : L) (n : Nat) : Prop := n ≤ s.length ∧ Tells g (if d = true then s.drop (s.length - n) else s.take n)
theorem qc_begin (g : List Sg) (s : L) (n : Nat) : QB g s n ↔ QC false g s n := Iff.rfl
theorem qc_end (g : List Sg) (s : L) (n : Nat) : QB g.reverse s.reverse n ↔ QC true g s n := by
  unfold QB QC
  rw [List.length_reverse, List.take_reverse, tells_reverse]
  rfl
def cutOf (d : Bool) (s : L) (v : Option Nat) : L := if d = true then s.take (s.length - v.getD 0) else s.drop (v.getD 0)
end Gl
namespace Gs
theorem ov_max (v : Option Nat) : max (ov v) 0 = ((v.getD 0 : Nat) : Int) := by
  cases v with
  | none => rfl
  | some p => simp [ov]
theorem best_le {l : Bool} {d : Bool} {g : List Gl.Sg} {s : L} {v : Option Nat} (h : Gl.Best l (Gl.QC d g s) v) : v.getD 0 ≤ s.length := by
  cases v with
  | none => exact Nat.zero_le _
  | some p => exact h.1.1
set_option maxRecDepth 100000 in
set_option maxHeartbeats 1600000 in
theorem Cut_v (s t m : L) (d l : Bool) (w : World) (ht : t.length ≤ 4096) (hs : s.length ≤ 100000) : Calls Tryd.prog 16 #[.string (mkS s), .agg #[.string (mkS t), .string (mkS m)], .bool d, .bool l] w fun e w' => ∃ v, e = .returned (.string (mkS (Gl.cutOf d s v))) ∧ Gl.Best l (Gl.QC d (Gl.sgF t m 0) s) v ∧ Later w w' := by
  have HS := Lib.hid (fun W => signs_v t m W ht)
  have HL := Lib.hid (Later.alloc w (.cells #[.string (mkS t), .string (mkS m)] 29))
  have HGL := Lib.hid (Gl.sgF_len t m 0)
  obtain ⟨g, hg⟩ : ∃ g, g = Gl.sgF t m 0 := ⟨_, rfl⟩
  rw [← hg] at HS HGL ⊢
  clear hg
  have hsi : ((mkS s).size : Int) = (s.length : Int) := by rw [mkS_size]
  have hs1 : (s.length : Int) ≤ 100000 := by omega
  cases d with
  | false =>
    go_enter Tryd.func16, Tryd.ntmps16
    go_wp2_with (first
      | (go_at_call 19; (with_reducible refine (HS.out _).mono ?_); rintro e w3 ⟨v, rfl, ⟨xs, hx⟩, hl3⟩; obtain ⟨A, n, c, rfl, hnc, hA, hn, hrs⟩ := hx.rdS; (have HRU := Lib.hid (runs_v g A n c w3 hrs hnc (by have := HGL.out; omega) hA)); (have HL3 := Lib.hid (HL.out.trans hl3)); (have HN := Lib.hid hn); clear hl3 hx hrs hA hnc hn)
      | (go_at_call 22; (with_reducible refine HRU.out.mono ?_); rintro e w4 ⟨A', c', n', rfl, ⟨h1, h2, h3⟩, hl4⟩; obtain ⟨r0, rest, q1, q2, q3⟩ := Gl.runsOf_eq g; rw [q1] at h3; (have HMA := Lib.hid (reach_v r0 rest s l A' n' c' w4 h3 q2 h1 (by have := HGL.out; have := HN.out; omega) hs)); (have HQ3 := Lib.hid q3); (have HL4 := Lib.hid (HL3.out.trans hl4)); clear hl4 h1 h2 h3 q1 q2 q3)
      | (go_at_call 21; (with_reducible refine HMA.out.mono ?_); rintro e w5 ⟨v, rfl, hv, hl5⟩; rw [← HQ3.out] at hv; (have HL5 := Lib.hid (HL4.out.trans hl5)); clear hl5; (have hv2 := Gl.Best.iff (fun n => Gl.qc_begin g s n) hv); (have hle := best_le (d := false) hv2); (have hmx := ov_max v); obtain ⟨q, hq⟩ : ∃ q, q = v.getD 0 := ⟨_, rfl⟩; rw [← hq] at hle hmx; obtain ⟨z, hz⟩ : ∃ z, z = ov v := ⟨_, rfl⟩; rw [← hz] at hmx ⊢; (have HQ := Lib.hid hq); (have HV := Lib.hid hv2); clear hv hq hv2 hz; (have hq0 : (0 : Int) ≤ (q : Int) := by omega); (have hq1 : (q : Int) ≤ (s.length : Int) := by omega); (have hq2 : (q : Int) ≤ ((mkS s).size : Int) := by omega)))
    go_ret
    refine ⟨v, ?_, HV.out, HL5.out⟩
    rw [show Gl.cutOf false s v = s.drop q by rw [HQ.out]; rfl, ← drop_text]
    rfl
  | true =>
    have HBW := Lib.hid (fun W => backwards_v s W hs)
    go_enter Tryd.func16, Tryd.ntmps16
    go_wp2_with (first
      | (go_at_call 19; (with_reducible refine (HS.out _).mono ?_); rintro e w3 ⟨v, rfl, ⟨xs, hx⟩, hl3⟩; (have HRV := Lib.hid (reverse_v hx hl3.size (by have := HGL.out; omega))); (have HL3 := Lib.hid (HL.out.trans hl3)); clear hl3 hx)
      | (go_at_call 20; (with_reducible refine HRV.out.mono ?_); rintro e w4 ⟨rfl, hx, hl4⟩; obtain ⟨A, n, c, rfl, hnc, hA, hn, hrs⟩ := hx.rdS; (have HRU := Lib.hid (runs_v g.reverse A n c w4 hrs hnc (by have := HGL.out; rw [List.length_reverse] at hn; omega) hA)); (have HL4 := Lib.hid (show Later w w4 from Below.trans HL3.out (Below.mono hl4 (by simp)))); (have HN := Lib.hid hn); clear hl4 hx hrs hA hnc hn)
      | (go_at_call 22; (with_reducible refine HRU.out.mono ?_); rintro e w5 ⟨A', c', n', rfl, ⟨h1, h2, h3⟩, hl5⟩; obtain ⟨r0, rest, q1, q2, q3⟩ := Gl.runsOf_eq g.reverse; rw [q1] at h3; (have HMA := Lib.hid (fun W (hW : Later w5 W) => reach_v r0 rest s.reverse l A' n' c' W (h3.later hW) q2 h1 (by have := HGL.out; have := HN.out; rw [List.length_reverse] at this; omega) (by rw [List.length_reverse]; exact hs))); (have HQ3 := Lib.hid q3); (have HL5 := Lib.hid (HL4.out.trans hl5)); clear hl5 h1 h2 h3 q1 q2 q3)
      | (go_at_call 23; (with_reducible refine (HBW.out _).mono ?_); rintro e w6 ⟨rfl, hl6⟩; (have HM6 := Lib.hid (HMA.out _ hl6)); (have HL6 := Lib.hid (HL5.out.trans hl6)); clear hl6)
      | (go_at_call 21; (with_reducible refine HM6.out.mono ?_); rintro e w7 ⟨v, rfl, hv, hl7⟩; rw [← HQ3.out] at hv; (have HL5 := Lib.hid (HL6.out.trans hl7)); clear hl7; (have hv2 := Gl.Best.iff (fun n => Gl.qc_end g s n) hv); (have hle := best_le (d := true) hv2); (have hmx := ov_max v); obtain ⟨q, hq⟩ : ∃ q, q = v.getD 0 := ⟨_, rfl⟩; rw [← hq] at hle hmx; obtain ⟨z, hz⟩ : ∃ z, z = ov v := ⟨_, rfl⟩; rw [← hz] at hmx ⊢; (have HQ := Lib.hid hq); (have HV := Lib.hid hv2); clear hv hq hv2 hz; (have hq0 : (0 : Int) ≤ (q : Int) := by omega); (have hq1 : (q : Int) ≤ (s.length : Int) := by omega); (have hq2 : (q : Int) ≤ ((mkS s).size : Int) := by omega)))
    go_ret
    refine ⟨v, ?_, HV.out, HL5.out⟩
    rw [show Gl.cutOf true s v = s.take (s.length - q) by rw [HQ.out]; rfl, ← take_text]
    show Ending.returned (Value.string _) = _
    congr 3
end Gs
end Go.Proofs.YtdfnbanbofnabaaDoor
