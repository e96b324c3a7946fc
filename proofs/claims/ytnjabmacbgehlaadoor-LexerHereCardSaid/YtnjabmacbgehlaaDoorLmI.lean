/- The lexer's reader: arithmetic parts. No premises. -/
import Derived.Test.YtnjabmacbgehlaaDoorLmH
namespace Go.Proofs.YtnjabmacbgehlaaDoor
open Go.RowKit Go.Maps
open Lx (nl Tok R sq ar up part pre)
def arM (r : L) : R := match ar 0 r with | none => .error 20 | some (t, q) => .ok (36 :: 40 :: 40 :: t, q)
/-- One byte of an arithmetic part. -/
theorem ar_step (o : Nat) (c : UInt8) (l : L) (h : ¬ (c = 41 ∧ o = 0)) : ar o (c :: l) = (ar (if c = 41 then o - 1 else if c = 40 then o + 1 else o) l).map fun p => (c :: p.1, p.2) := by
  by_cases h1 : c = 41
  · cases o with
    | zero => exact absurd ⟨h1, rfl⟩ h
    | succ o => simp [ar, h1]
  · simp [ar, h1]
theorem map_more (t0 : L) (c : UInt8) (x : Option (L × L)) : (x.map fun p => (c :: p.1, p.2)).map (fun p => (t0 ++ p.1, p.2)) = x.map fun p => ((t0 ++ [c]) ++ p.1, p.2) := by
  rw [Option.map_map]; congr 1; funext p; simp
set_option maxRecDepth 100000 in
theorem reckoned_v (B g : Nat) (S : L) (k : Nat) (σ : St) (r : L) (hl : σ.l = 36 :: 40 :: 40 :: r) (hn : Nm k σ) (W : World) (h : Mem W B g S σ) : Calls Tryd.prog 51 #[.pointer (some ⟨g, 0, none⟩)] W (Fin B g S σ k W (arM r)) := by
  have H := Lib.hid h
  have HN := Lib.hid hn
  have HL := Lib.hid hl
  have hle := hn.le
  have htop := hn.top
  have hrl : r.length ≤ 4093 := by rw [hl] at hle; simp only [List.length_cons] at hle; omega
  clear h hl hn
  go_enter Tryd.func51, Tryd.ntmps51
  go_wp2
  go_loopw [3] (fun i wr => ∃ m : Nat, m ≤ 3 ∧ i = .int .i64 (m : Int) ∧ Mem wr B g S (σ.to k (σ.l.drop m) (σ.l.take m)) ∧ Below B W wr ∧ (σ.l.drop m).length + (σ.q ++ σ.l.take m).length ≤ k) (fun i _ => 3 - (intOf i).toNat)
  case atStart => exact ⟨0, by omega, rfl, by simpa [HN.out.self] using H.out, Below.refl _ _, by simpa using hle⟩
  case round =>
    obtain ⟨m, hm3, rfl, hm, hb, hk⟩ := hrel
    have HM := Lib.hid hm
    have HB := Lib.hid hb
    have HK := Lib.hid hk
    clear hb
    by_cases hlt : m < 3
    · have hll : m < σ.l.length := by rw [HL.out]; simp; omega
      have hd := List.drop_eq_getElem_cons hll
      have e1 : σ.l.take m ++ [σ.l[m]'hll] = σ.l.take (m + 1) := by rw [List.take_succ_eq_append_getElem hll]
      obtain ⟨c, hc⟩ : ∃ c, c = σ.l[m]'hll := ⟨_, rfl⟩
      rw [← hc] at hd e1
      have HT := Lib.hid (take_k B g S k (σ.to k (σ.l.drop m) (σ.l.take m)) c (σ.l.drop (m + 1)) hd (HN.out.to_ hk) wr hm)
      have HE := Lib.hid e1
      clear hm hk hd hc hll e1
      go_wp2_with (first
        | (go_at_call 48; (with_reducible refine HT.out.mono ?_); rintro e w2 ⟨rfl, hm2, hb2, hk2⟩; have HM2 := Lib.hid hm2; have HB2 := Lib.hid hb2; have HK2 := Lib.hid hk2; clear hm2 hb2 hk2))
      go_roundw
      case rel =>
        have hm := HM2.out
        rw [St.to_to, HE.out] at hm
        have hk := HK2.out
        refine ⟨m + 1, by omega, by go_num, hm, HB.out.trans HB2.out, ?_⟩
        rw [← HE.out]
        simpa [St.to] using hk
      case measure => simp [intOf]; omega
    · have hm33 : m = 3 := by omega
      have e1 : σ.l.drop m = r := by rw [HL.out, hm33]; rfl
      have e2 : σ.l.take m = [36, 40, 40] := by rw [HL.out, hm33]; rfl
      rw [e1, e2] at HM HK
      clear hm hk e1 e2 hm33
      go_wp2
      go_loopw [2] (fun i wr => ∃ (o : Nat) (l' t0 : L), i = .int .i64 (o : Int) ∧ o + l'.length ≤ r.length ∧ ar 0 r = (ar o l').map (fun p => (t0 ++ p.1, p.2)) ∧ Mem wr B g S (σ.to k l' ([36, 40, 40] ++ t0)) ∧ Below B W wr ∧ l'.length + (σ.q ++ ([36, 40, 40] ++ t0)).length ≤ k) (fun _ wr => S.length - atOf g wr)
      case atStart => exact ⟨0, r, [], rfl, by omega, by simp, HM.out, HB.out, HK.out⟩
      case round =>
        obtain ⟨o, l', t0, rfl, hol, hs, hm, hb, hk⟩ := hrel
        have HS := Lib.hid hs
        have HM := Lib.hid hm
        have HB := Lib.hid hb
        have HK := Lib.hid hk
        clear hs hb
        by_cases ho : 0 < o
        · have ho0 : (0 : Int) < (o : Int) := by omega
          cases l' with
          | nil =>
            have HT := Lib.hid (take_bad B g S _ rfl wr hm)
            clear hm hk
            go_wp2_with (first
              | (go_at_call 48; (with_reducible refine HT.out.mono ?_); rintro e w2 ⟨rfl, m, rfl⟩))
            refine bodyPost_panic rfl ?_
            unfold arM
            rw [HS.out]
            exact ⟨rfl, HB.out.trans (Below.drewN _ _ _)⟩
          | cons c l'' =>
            have HT := Lib.hid (take_k B g S k (σ.to k (c :: l'') ([36, 40, 40] ++ t0)) c l'' rfl (HN.out.to_ hk) wr hm)
            have hst := ar_step o c l'' (by rintro ⟨_, e⟩; omega)
            have HST := Lib.hid hst
            simp only [List.length_cons] at hol
            clear hm hk hst
            by_cases hc : c = 41
            · have h41 : ((c.toNat : Int) == 41) = true := byt_eq 41 hc
              have h40 : ((c.toNat : Int) == 40) = false := byt_ne 40 (by rw [hc]; decide)
              go_wp2_with (first
                | (go_at_call 48; (with_reducible refine HT.out.mono ?_); rintro e w2 ⟨rfl, hm2, hb2, hk2⟩; have HM2 := Lib.hid hm2; have HB2 := Lib.hid hb2; have HK2 := Lib.hid hk2; clear hm2 hb2 hk2))
              go_roundw
              case rel =>
                have hm := HM2.out
                rw [St.to_to] at hm
                have hk := HK2.out
                refine ⟨o - 1, l'', t0 ++ [c], int_eq (by omega), by omega, ?_, by rw [← List.append_assoc]; exact hm, HB.out.trans HB2.out, by simpa [St.to] using hk⟩
                rw [HS.out, HST.out, map_more, if_pos hc]
              case measure => rw [HM2.out.left, HM.out.left]; simp [St.to]
            · have h41 : ((c.toNat : Int) == 41) = false := byt_ne 41 hc
              by_cases hc2 : c = 40
              · have h40 : ((c.toNat : Int) == 40) = true := byt_eq 40 hc2
                go_wp2_with (first
                  | (go_at_call 48; (with_reducible refine HT.out.mono ?_); rintro e w2 ⟨rfl, hm2, hb2, hk2⟩; have HM2 := Lib.hid hm2; have HB2 := Lib.hid hb2; have HK2 := Lib.hid hk2; clear hm2 hb2 hk2))
                go_roundw
                case rel =>
                  have hm := HM2.out
                  rw [St.to_to] at hm
                  have hk := HK2.out
                  refine ⟨o + 1, l'', t0 ++ [c], int_eq (by omega), by omega, ?_, by rw [← List.append_assoc]; exact hm, HB.out.trans HB2.out, by simpa [St.to] using hk⟩
                  rw [HS.out, HST.out, map_more, if_neg hc, if_pos hc2]
                case measure => rw [HM2.out.left, HM.out.left]; simp [St.to]
              · have h40 : ((c.toNat : Int) == 40) = false := byt_ne 40 hc2
                go_wp2_with (first
                  | (go_at_call 48; (with_reducible refine HT.out.mono ?_); rintro e w2 ⟨rfl, hm2, hb2, hk2⟩; have HM2 := Lib.hid hm2; have HB2 := Lib.hid hb2; have HK2 := Lib.hid hk2; clear hm2 hb2 hk2))
                go_roundw
                case rel =>
                  have hm := HM2.out
                  rw [St.to_to] at hm
                  have hk := HK2.out
                  refine ⟨o, l'', t0 ++ [c], rfl, by omega, ?_, by rw [← List.append_assoc]; exact hm, HB.out.trans HB2.out, by simpa [St.to] using hk⟩
                  rw [HS.out, HST.out, map_more, if_neg hc, if_neg hc2]
                case measure => rw [HM2.out.left, HM.out.left]; simp [St.to]
        · have ho0 : ¬ (0 : Int) < (o : Int) := by omega
          obtain rfl : o = 0 := by omega
          cases l' with
          | nil =>
            have HT := Lib.hid (peek_bad B g S _ rfl wr hm)
            clear hm hk
            go_wp2_with (first
              | (go_at_call 38; (with_reducible refine HT.out.mono ?_); rintro e w2 ⟨rfl, m, rfl⟩))
            refine bodyPost_panic rfl ?_
            unfold arM
            rw [HS.out]
            exact ⟨rfl, HB.out.trans (Below.drewN _ _ _)⟩
          | cons c l'' =>
            have HP := Lib.hid (peek_v B g S _ c l'' rfl wr hm)
            have HT := Lib.hid (fun m => take_k B g S k (σ.to k (c :: l'') ([36, 40, 40] ++ t0)) c l'' rfl (HN.out.to_ hk) (wr.drewN m) (hm.drewN m))
            simp only [List.length_cons] at hol
            clear hm hk
            by_cases hc : c = 41
            · have h41 : ((c.toNat : Int) != 41) = false := byt_nne 41 hc
              cases l'' with
              | nil =>
                go_wp2_with (first
                  | (go_at_call 38; (with_reducible refine HP.out.mono ?_); rintro e w2 ⟨rfl, m, rfl⟩)
                  | (go_at_call 48; first | ((with_reducible refine (HT.out _).mono ?_); rintro e w2 ⟨rfl, hm2, hb2, hk2⟩; have HT2 := Lib.hid (take_bad B g S _ rfl w2 hm2); have HB2 := Lib.hid hb2; clear hm2 hb2 hk2) | ((with_reducible refine HT2.out.mono ?_); rintro e w3 ⟨rfl, m3, rfl⟩)))
                refine bodyPost_panic rfl ?_
                unfold arM
                rw [HS.out]
                simp only [ar, if_pos hc, Option.map_none]
                exact ⟨rfl, (HB.out.trans ((Below.drewN _ _ _).trans HB2.out)).trans (Below.drewN _ _ _)⟩
              | cons b q' =>
                by_cases hb41 : b = 41
                · have h42 : ((b.toNat : Int) != 41) = false := byt_nne 41 hb41
                  go_wp2_with (first
                    | (go_at_call 38; (with_reducible refine HP.out.mono ?_); rintro e w2 ⟨rfl, m, rfl⟩)
                    | (go_at_call 48; first | ((with_reducible refine (HT.out _).mono ?_); rintro e w2 ⟨rfl, hm2, hb2, hk2⟩; have HT2 := Lib.hid (take_k B g S k ((σ.to k (c :: b :: q') ([36, 40, 40] ++ t0)).to k (b :: q') [c]) b q' rfl ((HN.out.to_ HK.out).to_ hk2) w2 hm2); have HB2 := Lib.hid hb2; clear hm2 hb2 hk2) | ((with_reducible refine HT2.out.mono ?_); rintro e w3 ⟨rfl, hm3, hb3, hk3⟩)))
                  go_end0
                  rw [St.to_to, St.to_to] at hm3
                  have e9 : ar 0 r = some (t0 ++ [41, 41], q') := by rw [HS.out]; simp [ar, hc, hb41]
                  unfold arM
                  rw [e9]
                  have e8 : [36, 40, 40] ++ t0 ++ ([c] ++ [b]) = 36 :: 40 :: 40 :: (t0 ++ [41, 41]) := by rw [hc, hb41]; simp
                  have e7 : σ.q ++ ([36, 40, 40] ++ t0) ++ [c] ++ [b] = σ.q ++ 36 :: 40 :: 40 :: (t0 ++ [41, 41]) := by rw [hc, hb41]; simp
                  have hm4 : Mem w3 B g S (σ.to k q' ([36, 40, 40] ++ t0 ++ ([c] ++ [b]))) := by simpa using hm3
                  rw [e8] at hm4
                  refine ⟨rfl, hm4, (HB.out.trans ((Below.drewN _ _ _).trans HB2.out)).trans hb3, ?_⟩
                  rw [← e7]
                  exact hk3
                · have h42 : ((b.toNat : Int) != 41) = true := byt_neq 41 hb41
                  go_wp2_with (first
                    | (go_at_call 38; (with_reducible refine HP.out.mono ?_); rintro e w2 ⟨rfl, m, rfl⟩)
                    | (go_at_call 48; first | ((with_reducible refine (HT.out _).mono ?_); rintro e w2 ⟨rfl, hm2, hb2, hk2⟩; have HT2 := Lib.hid (take_k B g S k ((σ.to k (c :: b :: q') ([36, 40, 40] ++ t0)).to k (b :: q') [c]) b q' rfl ((HN.out.to_ HK.out).to_ hk2) w2 hm2); have HB2 := Lib.hid hb2; clear hm2 hb2 hk2) | ((with_reducible refine HT2.out.mono ?_); rintro e w3 ⟨rfl, hm3, hb3, hk3⟩; have HB3 := Lib.hid hb3; have HR := Lib.hid (refuse_v B g S _ w3 hm3); clear hm3 hb3 hk3))
                    | (go_at_call 36; (with_reducible refine HR.out.mono ?_); rintro e w4 ⟨rfl, rfl⟩))
                  refine bodyPost_panic rfl ?_
                  unfold arM
                  rw [HS.out]
                  simp only [ar, if_pos hc, if_neg hb41, Option.map_none]
                  exact ⟨rfl, (HB.out.trans ((Below.drewN _ _ _).trans HB2.out)).trans HB3.out⟩
            · have h41 : ((c.toNat : Int) != 41) = true := byt_neq 41 hc
              have h43 : ((c.toNat : Int) == 41) = false := byt_ne 41 hc
              have HST := Lib.hid (ar_step 0 c l'' (by rintro ⟨e, _⟩; exact hc e))
              by_cases hc2 : c = 40
              · have h40 : ((c.toNat : Int) == 40) = true := byt_eq 40 hc2
                go_wp2_with (first
                  | (go_at_call 38; (with_reducible refine HP.out.mono ?_); rintro e w2 ⟨rfl, m, rfl⟩)
                  | (go_at_call 48; (with_reducible refine (HT.out _).mono ?_); rintro e w2 ⟨rfl, hm2, hb2, hk2⟩; have HM2 := Lib.hid hm2; have HB2 := Lib.hid hb2; have HK2 := Lib.hid hk2; clear hm2 hb2 hk2))
                go_roundw
                case rel =>
                  have hm := HM2.out
                  rw [St.to_to] at hm
                  have hk := HK2.out
                  refine ⟨1, l'', t0 ++ [c], by first | rfl | simp, by omega, ?_, by rw [← List.append_assoc]; exact hm, HB.out.trans ((Below.drewN _ _ _).trans HB2.out), by simpa [St.to] using hk⟩
                  rw [HS.out, HST.out, map_more, if_neg hc, if_pos hc2]
                case measure => rw [HM2.out.left, HM.out.left]; simp [St.to]
              · have h40 : ((c.toNat : Int) == 40) = false := byt_ne 40 hc2
                go_wp2_with (first
                  | (go_at_call 38; (with_reducible refine HP.out.mono ?_); rintro e w2 ⟨rfl, m, rfl⟩)
                  | (go_at_call 48; (with_reducible refine (HT.out _).mono ?_); rintro e w2 ⟨rfl, hm2, hb2, hk2⟩; have HM2 := Lib.hid hm2; have HB2 := Lib.hid hb2; have HK2 := Lib.hid hk2; clear hm2 hb2 hk2))
                go_roundw
                case rel =>
                  have hm := HM2.out
                  rw [St.to_to] at hm
                  have hk := HK2.out
                  refine ⟨0, l'', t0 ++ [c], by first | rfl | simp, by omega, ?_, by rw [← List.append_assoc]; exact hm, HB.out.trans ((Below.drewN _ _ _).trans HB2.out), by simpa [St.to] using hk⟩
                  rw [HS.out, HST.out, map_more, if_neg hc, if_neg hc2]
                case measure => rw [HM2.out.left, HM.out.left]; simp [St.to]
end Go.Proofs.YtnjabmacbgehlaaDoor
