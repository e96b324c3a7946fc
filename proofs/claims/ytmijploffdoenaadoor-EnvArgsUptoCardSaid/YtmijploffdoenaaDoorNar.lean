/- EnvArgs: the walk of the statement's text. Behind Vd; arguments as a machine holds them. -/
import Derived.Test.YtmijploffdoenaaDoorEh
namespace Go.Proofs.YtmijploffdoenaaDoor
open Go.RowKit Go.Maps
namespace envArgs
open En
theorem ifs_one (f : B) : ifs (setV [] IFS f) = f := by
  unfold En.ifs
  rw [var_set_self]
  rfl
theorem set_ifs (e : E) (f : B) : En.set nm e IFS f = { e with vars := setV e.vars IFS f } := by unfold En.set; rw [if_pos (by decide)]
theorem get_star (e : E) : En.get nm e [42] = (joined ((ifs e.vars).take 1) e.args, !e.args.isEmpty) := by
  unfold En.get
  rw [if_neg (by decide), if_neg (by decide), if_neg (by decide), if_neg (by decide), if_neg (by decide), if_pos (by decide)]
theorem get_one (e : E) : En.get nm e [49] = told e.args[0]? := by
  unfold En.get
  rw [if_neg (by decide), if_neg (by decide), if_neg (by decide), if_neg (by decide), if_neg (by decide), if_neg (by decide)]
  rfl
theorem get_far (e : E) (h : e.args.length ≤ 14) : En.get nm e [49, 53] = ([], false) := by
  unfold En.get
  rw [if_neg (by decide), if_neg (by decide), if_neg (by decide), if_neg (by decide), if_neg (by decide), if_neg (by decide)]
  have : arg e.args [49, 53] = none := arg_past (by have h2 : val [49, 53] = 15 := (by decide); omega)
  rw [this]
  rfl
set_option maxRecDepth 100000 in
set_option maxHeartbeats 25600000 in
theorem walkL (W : World) (hd : Vd W) (A : Option Addr) (n cc : Nat) (a : List B) (hr : Rd W W.heap.size A n (a.map fun x => .string (mkS x))) (hnc : n ≤ cc) (hcm : cc ≤ 9223372036854775807) (hx : ∀ x ∈ a, x.length ≤ 1048576) (q : UInt8) (f : B) (hf : f.length ≤ 9223372036854775807) : Calls Tryd.prog 5 #[.slice A n cc, .int .u8 (q.toNat : Int), .string (mkS f)] W fun x W' => x = .returned (.bool true) ∧ Later W W' := by
  have HAW := Lib.hid (awake_v W hd)
  have HD := Lib.hid hd
  have HR := Lib.hid hr
  have hfs : ((mkS f).size : Int) = (f.length : Int) := by rw [mkS_size]
  have hnl : a.length = n := hr.len_map
  have HNL := Lib.hid hnl
  have HX := Lib.hid hx
  have htl : ∀ l : B, (mkS l).toList = l := toList_mkS
  have HC := Lib.hid (And.intro hnc hcm)
  obtain ⟨k, hk⟩ : ∃ k : Nat, (wrap64 (q.toNat : Int)).tmod 14 = (k : Int) ∧ k < 14 := ⟨q.toNat % 14, by
    have h1 := UInt8.toNat_lt q
    have h2 : wrap64 (q.toNat : Int) = (q.toNat : Int) := by unfold wrap64; omega
    rw [h2]
    exact ⟨by rw [Int.tmod_eq_emod_of_nonneg (by omega)]; omega, by omega⟩⟩
  obtain ⟨hk, hk14⟩ := hk
  clear hd hr hnl hx
  go_enter Tryd.func5, Tryd.ntmps5
  go_wp2_with fail
  go_at_call 6
  with_reducible refine HAW.out.mono ?_
  rintro x wa ⟨rfl, hla⟩
  have HLA := Lib.hid hla
  clear hla
  by_cases g1 : (12 : Int) < (n : Int)
  · go_wp2
    go_ret
    exact ⟨rfl, HLA.out⟩
  by_cases g2 : (9 : Int) < (f.length : Int)
  · go_wp2
    go_ret
    exact ⟨rfl, HLA.out⟩
  have hn12 : n ≤ 12 := by omega
  have hf9 : f.length ≤ 9 := by omega
  obtain ⟨e1, he1⟩ : ∃ e1, e1 = En.set nm ⟨[], a, 0, []⟩ IFS f := ⟨_, rfl⟩
  have HSE := Lib.hid (show ∀ w v, RdE w v ⟨[], a, 0, []⟩ → Calls Tryd.prog 8 #[v, .string ⟨#[73, 70, 83]⟩, .string (mkS f)] w fun x w' => En.Told w w' x e1 from fun w v h => by
    rw [he1]
    exact set_v v ⟨[], a, 0, []⟩ IFS f w h Rises.nil (by show 0 ≤ _; omega) (by rw [HNL.out]; omega) (by decide))
  have HE0 := Lib.hid (show RdE wa (.agg #[.slice none 0 0, .slice A n cc, .int .i64 0, .string ⟨#[]⟩]) ⟨[], a, 0, []⟩ from ⟨_, A, n, cc, rfl, RdP.nil _ _, (HR.out.below HLA.out).more HLA.out.size, HC.out.1, HC.out.2⟩)
  have HE1 := Lib.hid he1
  clear he1
  go_wp2_with fail
  go_at_call 8
  with_reducible refine (HSE.out _ _ HE0.out).mono ?_
  rintro x w2 ⟨⟨v, rfl, hf2⟩, hl2⟩
  obtain ⟨A5, c5, A4, c4, rfl, w3, hw3, hho3, hl3⟩ := told_new hf2
  obtain ⟨b, hb⟩ : ∃ b, b = w2.heap.size := ⟨_, rfl⟩
  have hal1 : e1.args.length = n := by rw [HE1.out, set_args]; exact HNL.out
  obtain ⟨m1, hm1⟩ : ∃ m1, m1 = e1.vars.length := ⟨_, rfl⟩
  rw [hal1, ← hm1] at hw3 hho3 ⊢
  rw [← hb] at hho3
  have HO3 := Lib.hid hho3
  have HL3 := Lib.hid (HLA.out.trans (hl2.trans hl3))
  have HW3 := Lib.hid (And.intro hw3 hb)
  have HM1 := Lib.hid hm1
  have hve : e1.vars = setV [] IFS f := by rw [HE1.out, set_ifs]
  have hvl : e1.vars.length ≤ 1000 := by rw [hve]; show (put (unset [] IFS) IFS f).length ≤ _; rw [put_len]; show 0 + 1 ≤ _; decide
  have HSH := Lib.hid (fun w v (h : RdE w v e1) => shift_v v e1 (k : Int) w h (by omega) (by rw [hal1]; omega))
  have HVE := Lib.hid (And.intro hve hal1)
  clear hf2 hl2 hw3 hho3 hl3 hb hm1 hve hvl hal1
  go_wp2_with fail
  rw [← HW3.out.1, ← HW3.out.2]
  obtain ⟨p0, p1, p2, p3⟩ := HO3.out.c
  go_wp2_with fail
  go_at_call 14
  with_reducible refine (HSH.out _ _ HO3.out.2).mono ?_
  rintro x w4 ⟨⟨v, rfl, hf4⟩, hl4⟩
  obtain ⟨fE, hfE⟩ : ∃ fE, fE = shiftE e1 (k : Int) := ⟨_, rfl⟩
  rw [← hfE] at hf4
  obtain ⟨A7, c7, A8, c8, rfl, w5, hw5, hho5, hl5⟩ := told_new hf4
  obtain ⟨bf, hbf⟩ : ∃ bf, bf = w4.heap.size := ⟨_, rfl⟩
  obtain ⟨m2, hm2⟩ : ∃ m2, m2 = fE.vars.length := ⟨_, rfl⟩
  obtain ⟨n2, hn2⟩ : ∃ n2, n2 = fE.args.length := ⟨_, rfl⟩
  rw [← hm2, ← hn2] at hw5 hho5 ⊢
  rw [← hbf] at hho5
  have HO5 := Lib.hid (HO3.out.later (hl4.trans hl5))
  have HF5 := Lib.hid hho5
  have HL5 := Lib.hid (HL3.out.trans (hl4.trans hl5))
  have HW5 := Lib.hid (And.intro hw5 hbf)
  have HFE := Lib.hid hfE
  clear hf4 hl4 hw5 hho5 hl5 hbf hm2 hn2 hfE p0 p1 p2 p3
  have hsb : shiftB e1 (k : Int) = decide (k ≤ n) := by
    unfold shiftB
    rw [HVE.out.2, decide_eq_decide]
    omega
  rw [hsb]
  clear hsb
  by_cases hkn : k ≤ n
  · rw [decide_eq_true hkn]
    have hkn1 : (k : Int) ≤ (n : Int) := by omega
    have hfa : fE = { e1 with args := a.drop k } := by
      rw [HFE.out]
      unfold shiftE
      have he : e1.args = a := by rw [HE1.out, set_args]
      rw [if_pos (by rw [HVE.out.2]; omega), he, Int.toNat_natCast]
    have hfif : ifs fE.vars = f := by rw [hfa]; show ifs e1.vars = f; rw [HVE.out.1, ifs_one]
    have hdl : fE.args.length = n - k := by rw [hfa]; show (a.drop k).length = _; rw [List.length_drop, HNL.out]
    have hfs2 : e1.status = 0 := by rw [HE1.out, (set_status _ _ _).1]
    have hsm : Small fE := ⟨by rw [hdl]; omega, by
      rw [hfa]
      intro x hx2
      have := HX.out x (List.mem_of_mem_drop hx2)
      omega, by rw [hfa]; show e1.status ≤ _; rw [hfs2]; decide, by rw [hfif]; exact hf⟩
    obtain ⟨J, hJ⟩ : ∃ J, J = joined (f.take 1) (a.drop k) := ⟨_, rfl⟩
    have HGS := Lib.hid (show ∀ w v, RdE w v fE → Vd w → Calls Tryd.prog 20 #[v, .string ⟨#[42]⟩] w fun x w' => x = .returned (.tuple #[.string (mkS J), .bool (decide (k < n))]) ∧ Later w w' from
      GetOk.of (s := [42]) hsm (by decide) (by
        rw [get_star, hfif, hfa, hJ]
        have : (!(a.drop k).isEmpty) = decide (k < n) := by
          rw [Bool.eq_iff_iff, decide_eq_true_iff, Bool.not_eq_true', ← Bool.not_eq_true, List.isEmpty_iff, ← List.length_eq_zero_iff, List.length_drop, HNL.out]
          omega
        rw [this]))
    have HGF := Lib.hid (show ∀ w v, RdE w v fE → Vd w → Calls Tryd.prog 20 #[v, .string ⟨#[49, 53]⟩] w fun x w' => x = .returned (.tuple #[.string (mkS []), .bool false]) ∧ Later w w' from
      GetOk.of (s := [49, 53]) hsm (by decide) (get_far fE (by rw [hdl]; omega)))
    obtain ⟨o1, ho1⟩ : ∃ o1, o1 = (a.drop k)[0]? := ⟨_, rfl⟩
    have HG1 := Lib.hid (show ∀ w v, RdE w v fE → Vd w → Calls Tryd.prog 20 #[v, .string ⟨#[49]⟩] w fun x w' => x = .returned (.tuple #[.string (mkS (told o1).1), .bool (told o1).2]) ∧ Later w w' from
      GetOk.of (s := [49]) hsm (by decide) (by rw [get_one, hfa, ho1]))
    have HJ := Lib.hid hJ
    have HO1 := Lib.hid ho1
    clear hfa hfif hdl hfs2 hsm hJ ho1
    go_wp2_with fail
    rw [← HW5.out.1, ← HW5.out.2]
    go_loopw [12, 13] (fun s12 s13 wz => ∃ (i : Nat), s13 = .int .i64 (i : Int) ∧ k ≤ i ∧ i ≤ n ∧ s12 = .string (mkS (joined (f.take 1) ((a.drop k).take (i - k)))) ∧ wz = w5) (fun _ i _ => n - (intOf i).toNat)
    case atStart => exact ⟨k, rfl, Nat.le_refl _, hkn, by rw [Nat.sub_self, List.take_zero]; rfl, rfl⟩
    case round =>
      obtain ⟨i, rfl, hki, hin, rfl, hwz⟩ := hrel
      have hwz := hwz.symm
      subst hwz
      obtain ⟨jj, hjj⟩ : ∃ jj, jj = joined (f.take 1) ((a.drop k).take (i - k)) := ⟨_, rfl⟩
      rw [← hjj]
      have HJJ := Lib.hid hjj
      have hi0 : (0 : Int) ≤ (i : Int) := by omega
      by_cases hlt : i < n
      · have hi1 : (i : Int) < (n : Int) := by omega
        obtain ⟨ad, hil, rfl, hg, hcc⟩ := HR.out.at_map (k := i) hlt
        obtain ⟨x, hx⟩ : ∃ x, x = a[i] := ⟨_, rfl⟩
        have p1 : w5.cell? (ad.add i) = some (.string (mkS x)) := (HL5.out.cell (p := ad.add i) (by rw [block_add]; exact hg)).trans (by rw [hx]; exact hcc)
        have hxl : x.length ≤ 1048576 := HX.out x (by rw [hx]; exact List.getElem_mem hil)
        have hdi : i - k < (a.drop k).length := by rw [List.length_drop, HNL.out]; omega
        have hjt := joined_take (f.take 1) hdi
        rw [← hjj, show (a.drop k)[i - k] = x by rw [List.getElem_drop, hx]; congr 1; omega] at hjt
        have hjl : jj.length ≤ 20000000 := by
          have h1 := joined_len (f.take 1) 1048576 ((a.drop k).take (i - k)) (fun z hz => HX.out z (List.mem_of_mem_drop (List.mem_of_mem_take hz)))
          have h2 : ((a.drop k).take (i - k)).length ≤ 12 := by rw [List.length_take]; omega
          have h3 : (f.take 1).length ≤ 1 := by rw [List.length_take]; omega
          have h4 : ((a.drop k).take (i - k)).length * (1048576 + (f.take 1).length) ≤ 12 * 1048577 := Nat.mul_le_mul h2 (by omega)
          rw [hjj]; omega
        have HJT := Lib.hid hjt
        have HRI := Lib.hid (show i + 1 - k = i - k + 1 by omega)
        have hkk : (k : Int) ≤ (i : Int) := by omega
        clear hcc hg hx hjt hjj hdi
        by_cases hik : i = k
        · have h5 : ¬ (k : Int) < (i : Int) := by omega
          have hs2 : ¬ 9223372036854775807 < (mkS jj).size + (mkS x).size := by rw [mkS_size, mkS_size]; omega
          have hadd : mkS jj ++ mkS x = mkS (jj ++ x) := mkS_add _ _
          have HJ9 := Lib.hid (show joined (f.take 1) ((a.drop k).take (i + 1 - k)) = jj ++ x by rw [HRI.out, HJT.out, if_pos (by omega)]; rfl)
          clear hik
          go_wp2
          refine ⟨⟨i + 1, congrArg (Value.int .i64) (by omega), by omega, by omega, by rw [HJ9.out], trivial⟩, by simp only [intOf]; omega⟩
        · have h5 : (k : Int) < (i : Int) := by omega
          by_cases hf0 : f = []
          · have k1 : (f == ([] : List UInt8)) = true := by simpa using hf0
            have hs2 : ¬ 9223372036854775807 < (mkS jj).size + (mkS x).size := by rw [mkS_size, mkS_size]; omega
            have hadd : mkS jj ++ mkS x = mkS (jj ++ x) := mkS_add _ _
            have HJ9 := Lib.hid (show joined (f.take 1) ((a.drop k).take (i + 1 - k)) = jj ++ x by rw [HRI.out, HJT.out, if_neg (by omega), hf0]; rfl)
            clear hik hf0
            go_wp2
            refine ⟨⟨i + 1, congrArg (Value.int .i64) (by omega), by omega, by omega, by rw [HJ9.out], trivial⟩, by simp only [intOf]; omega⟩
          · have k1 : (f == ([] : List UInt8)) = false := by simpa using hf0
            obtain ⟨f1, hf1⟩ : ∃ f1, f1 = f.take 1 := ⟨_, rfl⟩
            have hex : (mkS f).extract 0 1 = mkS f1 := by rw [take_one, hf1]
            have hfl1 : f1.length ≤ 1 := by rw [hf1, List.length_take]; omega
            have hflp : (1 : Int) ≤ (f.length : Int) := by
              have : 0 < f.length := List.length_pos_iff.2 hf0
              omega
            have hs1 : ¬ 9223372036854775807 < (mkS jj).size + (mkS f1).size := by rw [mkS_size, mkS_size]; omega
            have hadd1 : mkS jj ++ mkS f1 = mkS (jj ++ f1) := mkS_add _ _
            have hs2 : ¬ 9223372036854775807 < (mkS (jj ++ f1)).size + (mkS x).size := by rw [mkS_size, mkS_size, List.length_append]; omega
            have hadd2 : mkS (jj ++ f1) ++ mkS x = mkS (jj ++ f1 ++ x) := mkS_add _ _
            have HJ9 := Lib.hid (show joined (f.take 1) ((a.drop k).take (i + 1 - k)) = jj ++ f1 ++ x by rw [HRI.out, HJT.out, if_neg (by omega), hf1, List.append_assoc])
            clear hik hf0 hf1
            go_wp2
            refine ⟨⟨i + 1, congrArg (Value.int .i64) (by omega), by omega, by omega, by rw [HJ9.out, List.append_assoc], trivial⟩, by simp only [intOf]; omega⟩
      · have hie : i = n := by omega
        have hJ : jj = J := by rw [hjj, hie, HJ.out, List.take_of_length_le (l := a.drop k) (by rw [List.length_drop, HNL.out]; omega)]
        rw [hJ]
        have hi1 : ¬ (i : Int) < (n : Int) := by omega
        have HVD := Lib.hid (fun w (h : Later W w) => HD.out.later h)
        clear hjj hJ HJJ
        by_cases hq : k < n
        · have hqi : (k : Int) < (n : Int) := by omega
          obtain ⟨ad, hil, rfl, hg, hcc⟩ := HR.out.at_map (k := k) hq
          obtain ⟨x, hx⟩ : ∃ x, x = a[k] := ⟨_, rfl⟩
          have hto : told o1 = (x, true) := by
            rw [HO1.out, List.getElem?_drop, Nat.add_zero, List.getElem?_eq_getElem hil, ← hx]
            rfl
          have hgs := HGS.out
          have hg1 := HG1.out
          rw [decide_eq_true hq] at hgs
          rw [hto] at hg1
          have HGS2 := Lib.hid hgs
          have HG2 := Lib.hid hg1
          have HB := Lib.hid hg
          have HCC := Lib.hid (show W.cell? (ad.add k) = some (.string (mkS x)) by rw [hx]; exact hcc)
          clear hgs hg1 hto hx hg hcc
          obtain ⟨p0, p1, p2, p3⟩ := HF5.out.c
          go_wp2_with fail
          go_at_call 20
          with_reducible refine (HGS2.out _ _ HF5.out.2 (HVD.out _ HL5.out)).mono ?_
          rintro y w6 ⟨rfl, hl6⟩
          have HF6 := Lib.hid (HF5.out.later hl6)
          have HO6 := Lib.hid (HO5.out.later hl6)
          have HL6 := Lib.hid (HL5.out.trans hl6)
          clear hl6 p0 p1 p2 p3
          obtain ⟨p0, p1, p2, p3⟩ := HF6.out.c
          go_wp2_with fail
          go_at_call 20
          with_reducible refine (HG2.out _ _ HF6.out.2 (HVD.out _ HL6.out)).mono ?_
          rintro y w7 ⟨rfl, hl7⟩
          have HF7 := Lib.hid (HF6.out.later hl7)
          have HO7 := Lib.hid (HO6.out.later hl7)
          have HL7 := Lib.hid (HL6.out.trans hl7)
          clear hl7 p0 p1 p2 p3
          obtain ⟨p0, p1, p2, p3⟩ := HF7.out.c
          go_wp2_with fail
          go_at_call 20
          with_reducible refine (HGF.out _ _ HF7.out.2 (HVD.out _ HL7.out)).mono ?_
          rintro y w8 ⟨rfl, hl8⟩
          have HO8 := Lib.hid (HO7.out.later hl8)
          have HL8 := Lib.hid (HL7.out.trans hl8)
          clear hl8 p0 p1 p2 p3
          have p1 : w8.cell? (ad.add k) = some (.string (mkS x)) := (HL8.out.cell (p := ad.add k) (by rw [block_add]; exact HB.out)).trans HCC.out
          have k1 : (x == x) = true := by simp
          have k2 : (J == J) = true := by simp
          obtain ⟨q0, q1, q2, q3⟩ := HO8.out.c
          go_wp2
          go_ret
          exact ⟨rfl, HL8.out⟩
        · have hqi : ¬ (k : Int) < (n : Int) := by omega
          have hto : told o1 = ([], false) := by
            rw [HO1.out, List.getElem?_drop, Nat.add_zero, List.getElem?_eq_none (by rw [HNL.out]; omega)]
            rfl
          have hgs := HGS.out
          have hg1 := HG1.out
          rw [decide_eq_false hq] at hgs
          rw [hto] at hg1
          have HGS2 := Lib.hid hgs
          have HG2 := Lib.hid hg1
          clear hgs hg1 hto
          obtain ⟨p0, p1, p2, p3⟩ := HF5.out.c
          go_wp2_with fail
          go_at_call 20
          with_reducible refine (HGS2.out _ _ HF5.out.2 (HVD.out _ HL5.out)).mono ?_
          rintro y w6 ⟨rfl, hl6⟩
          have HF6 := Lib.hid (HF5.out.later hl6)
          have HO6 := Lib.hid (HO5.out.later hl6)
          have HL6 := Lib.hid (HL5.out.trans hl6)
          clear hl6 p0 p1 p2 p3
          obtain ⟨p0, p1, p2, p3⟩ := HF6.out.c
          go_wp2_with fail
          go_at_call 20
          with_reducible refine (HG2.out _ _ HF6.out.2 (HVD.out _ HL6.out)).mono ?_
          rintro y w7 ⟨rfl, hl7⟩
          have HF7 := Lib.hid (HF6.out.later hl7)
          have HO7 := Lib.hid (HO6.out.later hl7)
          have HL7 := Lib.hid (HL6.out.trans hl7)
          clear hl7 p0 p1 p2 p3
          obtain ⟨p0, p1, p2, p3⟩ := HF7.out.c
          go_wp2_with fail
          go_at_call 20
          with_reducible refine (HGF.out _ _ HF7.out.2 (HVD.out _ HL7.out)).mono ?_
          rintro y w8 ⟨rfl, hl8⟩
          have HO8 := Lib.hid (HO7.out.later hl8)
          have HL8 := Lib.hid (HL7.out.trans hl8)
          clear hl8 p0 p1 p2 p3
          have k2 : (J == J) = true := by simp
          obtain ⟨q0, q1, q2, q3⟩ := HO8.out.c
          go_wp2
          go_ret
          exact ⟨rfl, HL8.out⟩
  · rw [decide_eq_false hkn]
    have hkn1 : ¬ (k : Int) ≤ (n : Int) := by omega
    have HSM := Lib.hid (show Calls Tryd.prog 19 #[.agg #[.slice A5 m1 c5, .slice A4 n c4, .int .i64 (e1.status : Int), .string (mkS e1.flags)], .agg #[.slice A7 m2 c7, .slice A8 n2 c8, .int .i64 (fE.status : Int), .string (mkS fE.flags)]] w5 fun x w' => x = .returned (.bool true) ∧ Later w5 w' from by
      have := same_v _ _ e1 fE w5 HO5.out.2 HF5.out.2
      have he : fE = e1 := by rw [HFE.out]; unfold shiftE; rw [if_neg (by rw [HVE.out.2]; omega)]
      have hq : eqE e1 fE = true := by rw [he]; unfold eqE; simp
      rw [hq] at this
      exact this)
    obtain ⟨p0, p1, p2, p3⟩ := HO5.out.c
    rw [HW5.out.1] at p0 p1 p2 p3
    go_wp2_with (go_at_call 19; rw [← HW5.out.1]; (with_reducible refine HSM.out.mono ?_); rintro x w9 ⟨rfl, hl9⟩; (have HL9 := Lib.hid (HL5.out.trans hl9)); clear hl9)
    go_ret
    exact ⟨rfl, HL9.out⟩
end envArgs
end Go.Proofs.YtmijploffdoenaaDoor
