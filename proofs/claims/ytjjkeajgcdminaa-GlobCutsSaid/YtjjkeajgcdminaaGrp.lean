/- The document's Pick. No premises. -/
import Derived.Test.YtjjkeajgcdminaaGcu
import Derived.Sort.Walk0
namespace Go.Proofs.Ytjjkeajgcdminaa
open Go.RowKit Go.Maps
namespace Gl
theorem lt_of_not {x s : L} (h : ¬ x < s) (hn : ¬ x = s) : s < x := by
  rcases le_or_lt x s with h1 | h1
  · exact absurd (lt_of_le_ne h1 hn) h
  · exact h1
/-- What is picked of the first k names, rising, without twins. -/
structure Picks (t m : L) (ns : List L) (k : Nat) (ps : List L) : Prop where
  up : ps.Pairwise (· < ·)
  mem : ∀ x, x ∈ ps ↔ x ∈ picked t m (ns.take k)
theorem Picks.zero {t m : L} {ns : List L} : Picks t m ns 0 [] := ⟨.nil, fun x => by simp [picked]⟩
theorem picked_next {t m : L} {ns : List L} {k : Nat} (h : k < ns.length) : picked t m (ns.take (k + 1)) = picked t m (ns.take k) ++ if may t ns[k] && tb (sgF t m 0) ns[k] then [ns[k]] else [] := by
  unfold picked
  rw [List.take_succ_eq_append_getElem h, List.filter_append]
  congr 1
  by_cases h : (may t ns[k] && tb (sgF t m 0) ns[k]) = true
  · simp [h]
  · simp [h]
theorem Picks.no {t m : L} {ns : List L} {k : Nat} {ps : List L} (h : Picks t m ns k ps) (hn : picked t m (ns.take (k + 1)) = picked t m (ns.take k)) : Picks t m ns (k + 1) ps := ⟨h.up, by rw [hn]; exact h.mem⟩
theorem Picks.twin {t m s : L} {ns : List L} {k : Nat} {ps : List L} (h : Picks t m ns k ps) (hn : picked t m (ns.take (k + 1)) = picked t m (ns.take k) ++ [s]) (hs : s ∈ ps) : Picks t m ns (k + 1) ps := ⟨h.up, fun x => by
  rw [hn, List.mem_append, ← h.mem]
  constructor
  · exact .inl
  · rintro (h1 | h1)
    · exact h1
    · rw [List.mem_singleton.1 h1]; exact hs⟩
theorem Picks.ins {t m s : L} {ns : List L} {k j : Nat} {ps : List L} (h : Picks t m ns k ps) (hn : picked t m (ns.take (k + 1)) = picked t m (ns.take k) ++ [s]) (hj : j ≤ ps.length) (hlo : ∀ i (h : i < ps.length), i < j → ps[i] < s) (hhi : ∀ h : j < ps.length, s < ps[j]) : Picks t m ns (k + 1) (ps.take j ++ s :: ps.drop j) := by
  have hd : ∀ b ∈ ps.drop j, s < b := fun b hb => by
    obtain ⟨i, hi, rfl⟩ := List.mem_iff_getElem.1 hb
    rw [List.length_drop] at hi
    rw [List.getElem_drop]
    have h1 := hhi (by omega)
    rcases Nat.eq_zero_or_pos i with e | e
    · subst e; exact h1
    · exact List.lt_trans h1 (List.pairwise_iff_getElem.1 h.up j (j + i) (by omega) (by omega) (by omega))
  have ht : ∀ a ∈ ps.take j, a < s := fun a ha => by
    obtain ⟨i, hi, rfl⟩ := List.mem_iff_getElem.1 ha
    rw [List.length_take] at hi
    rw [List.getElem_take]
    exact hlo i (by omega) (by omega)
  refine ⟨?_, fun x => ?_⟩
  · rw [List.pairwise_append, List.pairwise_cons]
    refine ⟨h.up.sublist (List.take_sublist ..), ⟨hd, h.up.sublist (List.drop_sublist ..)⟩, fun a ha b hb => ?_⟩
    rcases List.mem_cons.1 hb with e | e
    · rw [e]; exact ht a ha
    · exact List.lt_trans (ht a ha) (hd b e)
  · rw [hn, List.mem_append, List.mem_append, List.mem_cons, ← h.mem]
    have e : x ∈ ps ↔ x ∈ ps.take j ∨ x ∈ ps.drop j := by
      conv => lhs; rw [← List.take_append_drop j ps]
      exact List.mem_append
    rw [e, List.mem_singleton]
    constructor
    · rintro (h | h | h)
      · exact .inl (.inl h)
      · exact .inr h
      · exact .inl (.inr h)
    · rintro ((h | h) | h)
      · exact .inl h
      · exact .inr (.inr h)
      · exact .inr (.inl h)
theorem Picks.done {t m : L} {ns ps : List L} {k : Nat} (h : Picks t m ns k ps) (hk : ns.length ≤ k) : ps = pick t m ns := by
  obtain ⟨h1, h2⟩ := pick_up t m ns
  refine up_one _ _ h.up h1 fun x => ?_
  rw [h.mem, h2, List.take_of_length_le hk]
end Gl
theorem one_sv (l : List L) : ∀ u ∈ l.map sv, u.oneCell' = true := by
  intro u hu
  obtain ⟨x, _, rfl⟩ := List.mem_map.1 hu
  rfl
namespace Gr
open Gs
set_option maxRecDepth 100000 in
set_option maxHeartbeats 6400000 in
theorem Pick_v (t m : L) (ns : List L) (A0 : Option Addr) (n c0 : Nat) (w : World) (ht : t.length ≤ 4096) (hr : Rd w w.heap.size A0 n (ns.map sv)) (hn : n ≤ 1000) (hs : ∀ s ∈ ns, s.length ≤ 4096) : Calls Try.prog 17 #[.string (mkS t), .string (mkS m), .slice A0 n c0] w fun e w' => ∃ A' k c', e = .returned (.slice A' k c') ∧ Rd w' w'.heap.size A' k ((Gl.pick t m ns).map sv) ∧ Later w w' := by
  have HM := Lib.hid (fun s (h : s ∈ ns) W => Match_v t m s W ht (hs s h))
  have HLEN := Lib.hid (show ns.length = n from hr.len_map)
  have HRD := Lib.hid hr
  obtain ⟨i0, hi, hz0, hz1, hz2⟩ := info_parts info_str
  clear hr hs ht
  go_enter Try.func17, Try.ntmps17
  go_wp2_with fail
  go_loopw [7, 8] (fun s7 s8 wr => ∃ (k : Nat) (A : Option Addr) (c : Nat) (ps : List L) (p : Nat), s7 = .slice A p c ∧ s8 = .int .i64 (k : Int) ∧ k ≤ n ∧ ps.length = p ∧ p ≤ k ∧ p ≤ c ∧ Rd wr wr.heap.size A p (ps.map sv) ∧ Gl.Picks t m ns k ps ∧ Later w wr) (fun _ i _ => n - (intOf i).toNat)
  case atStart => exact ⟨0, none, 0, [], 0, rfl, rfl, Nat.zero_le _, rfl, Nat.le_refl _, Nat.le_refl _, Rd.nil_, Gl.Picks.zero, Later.refl _⟩
  case round =>
    obtain ⟨k, A, c, ps, p, rfl, rfl, hk, hpl, hpk, hpc, hro, hup, hlr⟩ := hrel
    have HPL := Lib.hid hpl
    have HUP := Lib.hid hup
    have HLR := Lib.hid hlr
    have HRO := Lib.hid hro
    clear hpl hup hlr hro
    by_cases hkn : k < n
    · obtain ⟨ad, hl, rfl, hb, hcell⟩ := (HRD.out.below HLR.out).at_map hkn
      have HSN := Lib.hid (Gl.picked_next (t := t) (m := m) hl)
      obtain ⟨s, hsn⟩ : ∃ s, s = ns[k] := ⟨_, rfl⟩
      rw [← hsn] at hcell HSN
      have hcell2 : wr.cell? (ad.add k) = some (.string (mkS s)) := hcell
      have HMA := Lib.hid (HM.out s (by rw [hsn]; exact List.getElem_mem _))
      have hkn2 : (k : Int) < (n : Int) := by omega
      clear hcell hsn
      cases s with
      | nil =>
        have HMY := Lib.hid (show Gl.may t [] = false from rfl)
        have he : ((mkS []).toList == ([] : List UInt8)) = true := by rw [toList_mkS]; rfl
        go_wp2_with fail
        go_roundw
        case rel => exact ⟨k + 1, A, c, ps, p, rfl, by go_num, by omega, HPL.out, by omega, hpc, HRO.out, HUP.out.no (by rw [HSN.out]; simp [HMY.out]), HLR.out⟩
        case measure => simp [intOf]; omega
      | cons b r =>
        have he : ((mkS (b :: r)).toList == ([] : List UInt8)) = false := by rw [toList_mkS]; rfl
        have hne : ¬ (mkS (b :: r)).toList = [] := by rw [toList_mkS]; exact List.cons_ne_nil _ _
        have hsz : 0 < (mkS (b :: r)).size := by rw [mkS_size]; simp
        have hg : ∀ h, (mkS (b :: r))[0]'h = b := fun _ => rfl
        have HMM := Lib.hid (show Gl.may t (b :: r) = (b != 46 || Gl.dot t) from rfl)
        obtain ⟨s, hss⟩ : ∃ s, s = b :: r := ⟨_, rfl⟩
        rw [← hss] at he hne hsz hg HMM HSN HMA hcell2
        have hsz2 : (0 : Int) < ((mkS s).size : Int) := by omega
        clear hss
        by_cases hc : b = 46
        · have hb2 : (b.toNat : Int) = 46 := by rw [hc]; rfl
          have hbe := byt_eq 46 hc
          cases t with
          | nil =>
            have HMY := Lib.hid (show Gl.may [] s = false by rw [HMM.out, hc]; rfl)
            have het : ((mkS []).toList == ([] : List UInt8)) = true := by rw [toList_mkS]; rfl
            go_wp2_with fail
            go_roundw
            case rel => exact ⟨k + 1, A, c, ps, p, rfl, by go_num, by omega, HPL.out, by omega, hpc, HRO.out, HUP.out.no (by rw [HSN.out]; simp [HMY.out]), HLR.out⟩
            case measure => simp [intOf]; omega
          | cons d q =>
            have het : ((mkS (d :: q)).toList == ([] : List UInt8)) = false := by rw [toList_mkS]; rfl
            have hnet : ¬ (mkS (d :: q)).toList = [] := by rw [toList_mkS]; exact List.cons_ne_nil _ _
            have hszt : 0 < (mkS (d :: q)).size := by rw [mkS_size]; simp
            have hgt : ∀ h, (mkS (d :: q))[0]'h = d := fun _ => rfl
            have hdt : Gl.dot (d :: q) = (d == 46) := rfl
            obtain ⟨t, htt⟩ : ∃ t, t = d :: q := ⟨_, rfl⟩
            rw [← htt] at HM HUP HMA HSN HMM het hnet hszt hgt hdt ⊢
            have hszt2 : (0 : Int) < ((mkS t).size : Int) := by omega
            clear htt
            by_cases hd : d = 46
            · have hd2 : (d.toNat : Int) = 46 := by rw [hd]; rfl
              have hde := byt_eq 46 hd
              have HMY := Lib.hid (show Gl.may t s = true by rw [HMM.out, hdt, hd]; simp)
              clear hdt
              cases htb : Gl.tb (Gl.sgF t m 0) s with
              | false =>
                rw [htb] at HMA
                go_wp2_with (first
                  | (go_at_call 11; (with_reducible refine (HMA.out _).mono ?_); rintro e w6 ⟨rfl, hl6⟩; (have HL6 := Lib.hid (HLR.out.trans hl6)); (have HR6 := Lib.hid ((HRO.out.below hl6).more hl6.size)); (have hcell6 := cell_keeps hl6 hcell2); clear hl6 hcell2))
                go_roundw
                case rel => exact ⟨k + 1, A, c, ps, p, rfl, by go_num, by omega, HPL.out, by omega, hpc, HR6.out, HUP.out.no (by rw [HSN.out]; simp [htb]), HL6.out⟩
                case measure => simp [intOf]; omega
              | true =>
                rw [htb] at HMA
                have HIN := Lib.hid (fun (j : Nat) (hj : j ≤ p) => HUP.out.ins (s := s) (j := j) (by rw [HSN.out]; simp [htb, HMY.out]) (by have := HPL.out; omega))
                have HEQ := Lib.hid (fun (h : s ∈ ps) => HUP.out.twin (s := s) (by rw [HSN.out]; simp [htb, HMY.out]) h)
                clear htb
                go_wp2_with (first
                  | (go_at_call 11; (with_reducible refine (HMA.out _).mono ?_); rintro e w6 ⟨rfl, hl6⟩; (have HL6 := Lib.hid (HLR.out.trans hl6)); (have HR6 := Lib.hid ((HRO.out.below hl6).more hl6.size)); (have hcell6 := cell_keeps hl6 hcell2); clear hl6 hcell2))
                go_loopw [11] (fun s11 wq => ∃ j : Nat, s11 = .int .i64 (j : Int) ∧ j ≤ p ∧ (∀ i (h : i < ps.length), i < j → ps[i] < s) ∧ wq = w6) (fun i _ => p - (intOf i).toNat)
                case atStart => exact ⟨0, rfl, Nat.zero_le _, fun i h h2 => by omega, rfl⟩
                case round =>
                  obtain ⟨j, rfl, hj, hlo, hwq⟩ := hrel
                  subst hwq
                  have HLO := Lib.hid hlo
                  clear hlo
                  by_cases hjp : j < p
                  · obtain ⟨ad9, hl9, rfl, hb9, hc9⟩ := HR6.out.at_map hjp
                    have hjp2 : (j : Int) < (p : Int) := by omega
                    obtain ⟨x, hx⟩ : ∃ x, x = ps[j] := ⟨_, rfl⟩
                    rw [← hx] at hc9
                    have hc92 : wr.cell? (ad9.add j) = some (.string (mkS x)) := hc9
                    have HXJ := Lib.hid hx
                    clear hx hc9
                    by_cases hlt : x < s
                    · have hcmp : Op.bytesLess (mkS x).toList (mkS s).toList = true := by rw [toList_mkS, toList_mkS, bytesLess_eq]; exact decide_eq_true hlt
                      go_wp2_with fail
                      go_roundw
                      case rel => exact ⟨j + 1, by go_num, by omega, fun i h h2 => by
                        by_cases e : i = j
                        · subst e; rw [← HXJ.out]; exact hlt
                        · exact HLO.out i h (by omega), trivial⟩
                      case measure => simp [intOf]; omega
                    · have hcmp : Op.bytesLess (mkS x).toList (mkS s).toList = false := by rw [toList_mkS, toList_mkS, bytesLess_eq]; exact decide_eq_false hlt
                      by_cases hxs : x = s
                      · have heq : ((mkS x).toList == (mkS s).toList) = true := by rw [hxs]; exact beq_self_eq_true _
                        have HXS := Lib.hid hxs
                        clear hxs hlt
                        go_wp2_with fail
                        go_roundw
                        case rel => exact ⟨k + 1, _, c, ps, p, rfl, by go_num, by omega, HPL.out, by omega, hpc, HR6.out, HEQ.out (by rw [← HXS.out, HXJ.out]; exact List.getElem_mem _), HL6.out⟩
                        case measure => simp [intOf]; omega
                      · have heq : ((mkS x).toList == (mkS s).toList) = false := by rw [toList_mkS, toList_mkS]; simpa using hxs
                        have HHI := Lib.hid (show ∀ h : j < ps.length, s < ps[j] from fun h => by rw [← HXJ.out]; exact Gl.lt_of_not hlt hxs)
                        clear hxs hlt
                        have HT6 := Lib.hid (show Rd wr wr.heap.size (some ad9) j ((ps.take j).map sv) by have := HR6.out.take_ hj; rwa [← List.map_take] at this)
                        have HD6 := Lib.hid (show Rd wr wr.heap.size (some (ad9.add j)) (p - j) ((ps.drop j).map sv) by have := HR6.out.cut (k := j) hj hpc; rw [if_neg (by omega), ← List.map_drop] at this; exact this)
                        go_wp2_with (first
                          | (at_builtin; refine wpList_appN wr rfl (.tmp 71) (.tmp 74) _ rfl wr.heap.size 9 i0 (.string ⟨#[]⟩) 16 Try.underlying29 hi hz0 hz1 hz2 rfl (.slice none 0 0) [] rfl (World.ownsRow_nil _ _ _ 1) wr.heap.size (some ad9) j c ((ps.take j).map sv) rfl HT6.out (one_sv _) ?hby1 ?hle1 (Nat.le_refl _) ?_; (case hby1 => have := HPL.out; simp; omega); (case hle1 => have := HPL.out; simp; omega); intro v7 w7 hg7; (have HG7 := Lib.hid hg7); clear hg7)
                          | (at_builtin; refine wpList_app1 w7 (.string (mkS s)) rfl (.tmp 76) (.tmp 78) _ rfl wr.heap.size 9 i0 (.string ⟨#[]⟩) 16 Try.underlying29 hi hz0 hz1 hz2 rfl rfl v7 _ rfl HG7.out.own rfl ?hby2 ?hle2 HG7.out.grown.size ?_; (case hby2 => have := HPL.out; simp; omega); (case hle2 => have := HPL.out; simp; omega); intro v8 w8 hg8; (have HG8 := Lib.hid (HG7.out.trans hg8)); clear hg8)
                          | (at_builtin; refine wpList_appN w8 rfl (.tmp 80) (.tmp 83) _ rfl wr.heap.size 9 i0 (.string ⟨#[]⟩) 16 Try.underlying29 hi hz0 hz1 hz2 rfl v8 _ rfl HG8.out.own wr.heap.size _ (p - j) _ ((ps.drop j).map sv) rfl (HD6.out.below HG8.out.belowNil) (one_sv _) ?hby3 ?hle3 HG8.out.grown.size ?_; (case hby3 => have := HPL.out; simp; omega); (case hle3 => have := HPL.out; simp; omega); intro v9 w9 hg9; (have hg9b := HG8.out.trans hg9); obtain ⟨A9, c9, rfl, hc9, hr9, _⟩ := own_slice hg9b.own; (have HR9 := Lib.hid hr9); (have HG9 := Lib.hid hg9b.belowNil); clear hg9 hg9b hr9))
                        go_roundw
                        case rel =>
                          have hlen : ([] ++ (ps.take j).map sv ++ [Value.string (mkS s)] ++ (ps.drop j).map sv).length = p + 1 := by have := HPL.out; simp; omega
                          rw [hlen] at hc9
                          refine ⟨k + 1, A9, c9, ps.take j ++ s :: ps.drop j, p + 1, by (have := HPL.out; first | rfl | (congr 1; omega) | (congr 1; simp; omega)), by go_num, by omega, by have := HPL.out; simp; omega, by omega, by omega, ?_, ?_, HL6.out.trans HG9.out⟩
                          · have := HR9.out
                            rw [hlen] at this
                            simpa [sv] using this
                          · exact HIN.out j hj HLO.out HHI.out
                        case measure => simp [intOf]; omega
                  · have hjp2 : ¬ ((j : Int) < (p : Int)) := by omega
                    have HHI := Lib.hid (show ∀ h : j < ps.length, s < ps[j] from fun h => by have := HPL.out; omega)
                    have HT6 := Lib.hid (show Rd wr wr.heap.size A j ((ps.take j).map sv) by have := HR6.out.take_ hj; rwa [← List.map_take] at this)
                    have HD6 := Lib.hid (show Rd wr wr.heap.size (if c = j then A else A.map (·.add j)) (p - j) ((ps.drop j).map sv) by have := HR6.out.cut hj hpc; rwa [← List.map_drop] at this)
                    go_wp2_with (first
                      | (at_builtin; refine wpList_appN wr rfl (.tmp 71) (.tmp 74) _ rfl wr.heap.size 9 i0 (.string ⟨#[]⟩) 16 Try.underlying29 hi hz0 hz1 hz2 rfl (.slice none 0 0) [] rfl (World.ownsRow_nil _ _ _ 1) wr.heap.size A j c ((ps.take j).map sv) rfl HT6.out (one_sv _) ?hby1 ?hle1 (Nat.le_refl _) ?_; (case hby1 => have := HPL.out; simp; omega); (case hle1 => have := HPL.out; simp; omega); intro v7 w7 hg7; (have HG7 := Lib.hid hg7); clear hg7)
                      | (at_builtin; refine wpList_app1 w7 (.string (mkS s)) rfl (.tmp 76) (.tmp 78) _ rfl wr.heap.size 9 i0 (.string ⟨#[]⟩) 16 Try.underlying29 hi hz0 hz1 hz2 rfl rfl v7 _ rfl HG7.out.own rfl ?hby2 ?hle2 HG7.out.grown.size ?_; (case hby2 => have := HPL.out; simp; omega); (case hle2 => have := HPL.out; simp; omega); intro v8 w8 hg8; (have HG8 := Lib.hid (HG7.out.trans hg8)); clear hg8)
                      | (at_builtin; refine wpList_appN w8 rfl (.tmp 80) (.tmp 83) _ rfl wr.heap.size 9 i0 (.string ⟨#[]⟩) 16 Try.underlying29 hi hz0 hz1 hz2 rfl v8 _ rfl HG8.out.own wr.heap.size _ (p - j) _ ((ps.drop j).map sv) rfl (HD6.out.below HG8.out.belowNil) (one_sv _) ?hby3 ?hle3 HG8.out.grown.size ?_; (case hby3 => have := HPL.out; simp; omega); (case hle3 => have := HPL.out; simp; omega); intro v9 w9 hg9; (have hg9b := HG8.out.trans hg9); obtain ⟨A9, c9, rfl, hc9, hr9, _⟩ := own_slice hg9b.own; (have HR9 := Lib.hid hr9); (have HG9 := Lib.hid hg9b.belowNil); clear hg9 hg9b hr9))
                    go_roundw
                    case rel =>
                      have hlen : ([] ++ (ps.take j).map sv ++ [Value.string (mkS s)] ++ (ps.drop j).map sv).length = p + 1 := by have := HPL.out; simp; omega
                      rw [hlen] at hc9
                      refine ⟨k + 1, A9, c9, ps.take j ++ s :: ps.drop j, p + 1, by (have := HPL.out; first | rfl | (congr 1; omega) | (congr 1; simp; omega)), by go_num, by omega, by have := HPL.out; simp; omega, by omega, by omega, ?_, ?_, HL6.out.trans HG9.out⟩
                      · have := HR9.out
                        rw [hlen] at this
                        simpa [sv] using this
                      · exact HIN.out j hj HLO.out HHI.out
                    case measure => simp [intOf]; omega
            · have hde := byt_ne 46 hd
              have hd2 : ¬ (d.toNat : Int) = 46 := by simpa using hde
              have HMY := Lib.hid (show Gl.may t s = false by rw [HMM.out, hdt, hc]; simp [hd])
              clear hdt
              go_wp2_with fail
              go_roundw
              case rel => exact ⟨k + 1, A, c, ps, p, rfl, by go_num, by omega, HPL.out, by omega, hpc, HRO.out, HUP.out.no (by rw [HSN.out]; simp [HMY.out]), HLR.out⟩
              case measure => simp [intOf]; omega
        · have hbe := byt_ne 46 hc
          have hb2 : ¬ (b.toNat : Int) = 46 := by simpa using hbe
          have HMY := Lib.hid (show Gl.may t s = true by rw [HMM.out]; simp [hc])
          cases htb : Gl.tb (Gl.sgF t m 0) s with
          | false =>
            rw [htb] at HMA
            go_wp2_with (first
              | (go_at_call 11; (with_reducible refine (HMA.out _).mono ?_); rintro e w6 ⟨rfl, hl6⟩; (have HL6 := Lib.hid (HLR.out.trans hl6)); (have HR6 := Lib.hid ((HRO.out.below hl6).more hl6.size)); (have hcell6 := cell_keeps hl6 hcell2); clear hl6 hcell2))
            go_roundw
            case rel => exact ⟨k + 1, A, c, ps, p, rfl, by go_num, by omega, HPL.out, by omega, hpc, HR6.out, HUP.out.no (by rw [HSN.out]; simp [htb]), HL6.out⟩
            case measure => simp [intOf]; omega
          | true =>
            rw [htb] at HMA
            have HIN := Lib.hid (fun (j : Nat) (hj : j ≤ p) => HUP.out.ins (s := s) (j := j) (by rw [HSN.out]; simp [htb, HMY.out]) (by have := HPL.out; omega))
            have HEQ := Lib.hid (fun (h : s ∈ ps) => HUP.out.twin (s := s) (by rw [HSN.out]; simp [htb, HMY.out]) h)
            clear htb
            go_wp2_with (first
              | (go_at_call 11; (with_reducible refine (HMA.out _).mono ?_); rintro e w6 ⟨rfl, hl6⟩; (have HL6 := Lib.hid (HLR.out.trans hl6)); (have HR6 := Lib.hid ((HRO.out.below hl6).more hl6.size)); (have hcell6 := cell_keeps hl6 hcell2); clear hl6 hcell2))
            go_loopw [11] (fun s11 wq => ∃ j : Nat, s11 = .int .i64 (j : Int) ∧ j ≤ p ∧ (∀ i (h : i < ps.length), i < j → ps[i] < s) ∧ wq = w6) (fun i _ => p - (intOf i).toNat)
            case atStart => exact ⟨0, rfl, Nat.zero_le _, fun i h h2 => by omega, rfl⟩
            case round =>
              obtain ⟨j, rfl, hj, hlo, hwq⟩ := hrel
              subst hwq
              have HLO := Lib.hid hlo
              clear hlo
              by_cases hjp : j < p
              · obtain ⟨ad9, hl9, rfl, hb9, hc9⟩ := HR6.out.at_map hjp
                have hjp2 : (j : Int) < (p : Int) := by omega
                obtain ⟨x, hx⟩ : ∃ x, x = ps[j] := ⟨_, rfl⟩
                rw [← hx] at hc9
                have hc92 : wr.cell? (ad9.add j) = some (.string (mkS x)) := hc9
                have HXJ := Lib.hid hx
                clear hx hc9
                by_cases hlt : x < s
                · have hcmp : Op.bytesLess (mkS x).toList (mkS s).toList = true := by rw [toList_mkS, toList_mkS, bytesLess_eq]; exact decide_eq_true hlt
                  go_wp2_with fail
                  go_roundw
                  case rel => exact ⟨j + 1, by go_num, by omega, fun i h h2 => by
                    by_cases e : i = j
                    · subst e; rw [← HXJ.out]; exact hlt
                    · exact HLO.out i h (by omega), trivial⟩
                  case measure => simp [intOf]; omega
                · have hcmp : Op.bytesLess (mkS x).toList (mkS s).toList = false := by rw [toList_mkS, toList_mkS, bytesLess_eq]; exact decide_eq_false hlt
                  by_cases hxs : x = s
                  · have heq : ((mkS x).toList == (mkS s).toList) = true := by rw [hxs]; exact beq_self_eq_true _
                    have HXS := Lib.hid hxs
                    clear hxs hlt
                    go_wp2_with fail
                    go_roundw
                    case rel => exact ⟨k + 1, _, c, ps, p, rfl, by go_num, by omega, HPL.out, by omega, hpc, HR6.out, HEQ.out (by rw [← HXS.out, HXJ.out]; exact List.getElem_mem _), HL6.out⟩
                    case measure => simp [intOf]; omega
                  · have heq : ((mkS x).toList == (mkS s).toList) = false := by rw [toList_mkS, toList_mkS]; simpa using hxs
                    have HHI := Lib.hid (show ∀ h : j < ps.length, s < ps[j] from fun h => by rw [← HXJ.out]; exact Gl.lt_of_not hlt hxs)
                    clear hxs hlt
                    have HT6 := Lib.hid (show Rd wr wr.heap.size (some ad9) j ((ps.take j).map sv) by have := HR6.out.take_ hj; rwa [← List.map_take] at this)
                    have HD6 := Lib.hid (show Rd wr wr.heap.size (some (ad9.add j)) (p - j) ((ps.drop j).map sv) by have := HR6.out.cut (k := j) hj hpc; rw [if_neg (by omega), ← List.map_drop] at this; exact this)
                    go_wp2_with (first
                      | (at_builtin; refine wpList_appN wr rfl (.tmp 71) (.tmp 74) _ rfl wr.heap.size 9 i0 (.string ⟨#[]⟩) 16 Try.underlying29 hi hz0 hz1 hz2 rfl (.slice none 0 0) [] rfl (World.ownsRow_nil _ _ _ 1) wr.heap.size (some ad9) j c ((ps.take j).map sv) rfl HT6.out (one_sv _) ?hby1 ?hle1 (Nat.le_refl _) ?_; (case hby1 => have := HPL.out; simp; omega); (case hle1 => have := HPL.out; simp; omega); intro v7 w7 hg7; (have HG7 := Lib.hid hg7); clear hg7)
                      | (at_builtin; refine wpList_app1 w7 (.string (mkS s)) rfl (.tmp 76) (.tmp 78) _ rfl wr.heap.size 9 i0 (.string ⟨#[]⟩) 16 Try.underlying29 hi hz0 hz1 hz2 rfl rfl v7 _ rfl HG7.out.own rfl ?hby2 ?hle2 HG7.out.grown.size ?_; (case hby2 => have := HPL.out; simp; omega); (case hle2 => have := HPL.out; simp; omega); intro v8 w8 hg8; (have HG8 := Lib.hid (HG7.out.trans hg8)); clear hg8)
                      | (at_builtin; refine wpList_appN w8 rfl (.tmp 80) (.tmp 83) _ rfl wr.heap.size 9 i0 (.string ⟨#[]⟩) 16 Try.underlying29 hi hz0 hz1 hz2 rfl v8 _ rfl HG8.out.own wr.heap.size _ (p - j) _ ((ps.drop j).map sv) rfl (HD6.out.below HG8.out.belowNil) (one_sv _) ?hby3 ?hle3 HG8.out.grown.size ?_; (case hby3 => have := HPL.out; simp; omega); (case hle3 => have := HPL.out; simp; omega); intro v9 w9 hg9; (have hg9b := HG8.out.trans hg9); obtain ⟨A9, c9, rfl, hc9, hr9, _⟩ := own_slice hg9b.own; (have HR9 := Lib.hid hr9); (have HG9 := Lib.hid hg9b.belowNil); clear hg9 hg9b hr9))
                    go_roundw
                    case rel =>
                      have hlen : ([] ++ (ps.take j).map sv ++ [Value.string (mkS s)] ++ (ps.drop j).map sv).length = p + 1 := by have := HPL.out; simp; omega
                      rw [hlen] at hc9
                      refine ⟨k + 1, A9, c9, ps.take j ++ s :: ps.drop j, p + 1, by (have := HPL.out; first | rfl | (congr 1; omega) | (congr 1; simp; omega)), by go_num, by omega, by have := HPL.out; simp; omega, by omega, by omega, ?_, ?_, HL6.out.trans HG9.out⟩
                      · have := HR9.out
                        rw [hlen] at this
                        simpa [sv] using this
                      · exact HIN.out j hj HLO.out HHI.out
                    case measure => simp [intOf]; omega
              · have hjp2 : ¬ ((j : Int) < (p : Int)) := by omega
                have HHI := Lib.hid (show ∀ h : j < ps.length, s < ps[j] from fun h => by have := HPL.out; omega)
                have HT6 := Lib.hid (show Rd wr wr.heap.size A j ((ps.take j).map sv) by have := HR6.out.take_ hj; rwa [← List.map_take] at this)
                have HD6 := Lib.hid (show Rd wr wr.heap.size (if c = j then A else A.map (·.add j)) (p - j) ((ps.drop j).map sv) by have := HR6.out.cut hj hpc; rwa [← List.map_drop] at this)
                go_wp2_with (first
                  | (at_builtin; refine wpList_appN wr rfl (.tmp 71) (.tmp 74) _ rfl wr.heap.size 9 i0 (.string ⟨#[]⟩) 16 Try.underlying29 hi hz0 hz1 hz2 rfl (.slice none 0 0) [] rfl (World.ownsRow_nil _ _ _ 1) wr.heap.size A j c ((ps.take j).map sv) rfl HT6.out (one_sv _) ?hby1 ?hle1 (Nat.le_refl _) ?_; (case hby1 => have := HPL.out; simp; omega); (case hle1 => have := HPL.out; simp; omega); intro v7 w7 hg7; (have HG7 := Lib.hid hg7); clear hg7)
                  | (at_builtin; refine wpList_app1 w7 (.string (mkS s)) rfl (.tmp 76) (.tmp 78) _ rfl wr.heap.size 9 i0 (.string ⟨#[]⟩) 16 Try.underlying29 hi hz0 hz1 hz2 rfl rfl v7 _ rfl HG7.out.own rfl ?hby2 ?hle2 HG7.out.grown.size ?_; (case hby2 => have := HPL.out; simp; omega); (case hle2 => have := HPL.out; simp; omega); intro v8 w8 hg8; (have HG8 := Lib.hid (HG7.out.trans hg8)); clear hg8)
                  | (at_builtin; refine wpList_appN w8 rfl (.tmp 80) (.tmp 83) _ rfl wr.heap.size 9 i0 (.string ⟨#[]⟩) 16 Try.underlying29 hi hz0 hz1 hz2 rfl v8 _ rfl HG8.out.own wr.heap.size _ (p - j) _ ((ps.drop j).map sv) rfl (HD6.out.below HG8.out.belowNil) (one_sv _) ?hby3 ?hle3 HG8.out.grown.size ?_; (case hby3 => have := HPL.out; simp; omega); (case hle3 => have := HPL.out; simp; omega); intro v9 w9 hg9; (have hg9b := HG8.out.trans hg9); obtain ⟨A9, c9, rfl, hc9, hr9, _⟩ := own_slice hg9b.own; (have HR9 := Lib.hid hr9); (have HG9 := Lib.hid hg9b.belowNil); clear hg9 hg9b hr9))
                go_roundw
                case rel =>
                  have hlen : ([] ++ (ps.take j).map sv ++ [Value.string (mkS s)] ++ (ps.drop j).map sv).length = p + 1 := by have := HPL.out; simp; omega
                  rw [hlen] at hc9
                  refine ⟨k + 1, A9, c9, ps.take j ++ s :: ps.drop j, p + 1, by (have := HPL.out; first | rfl | (congr 1; omega) | (congr 1; simp; omega)), by go_num, by omega, by have := HPL.out; simp; omega, by omega, by omega, ?_, ?_, HL6.out.trans HG9.out⟩
                  · have := HR9.out
                    rw [hlen] at this
                    simpa [sv] using this
                  · exact HIN.out j hj HLO.out HHI.out
                case measure => simp [intOf]; omega
    · have hkn2 : ¬ ((k : Int) < (n : Int)) := by omega
      have HDN := Lib.hid (HUP.out.done (by have := HLEN.out; omega))
      go_wp2_with fail
      go_ret
      exact ⟨A, p, ⟨c, rfl⟩, by rw [← HDN.out]; exact HRO.out, HLR.out⟩
end Gr
end Go.Proofs.Ytjjkeajgcdminaa
