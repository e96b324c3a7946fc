/- GlobBoth: the walk of its text. No premises. -/
import Derived.Test.YtjjkeajgcdminaaGPlaiW
namespace Go.Proofs.Ytjjkeajgcdminaa
open Go.RowKit Go.Maps
namespace Gl
def noOpen (t : L) (k : Nat) : Prop := ∀ i : Nat, i < k → t[i]? ≠ some 91
theorem noOpen_zero (t : L) : noOpen t 0 := fun i h => by omega
theorem noOpen_next {t : L} {k : Nat} {b : UInt8} (h : noOpen t k) (hb : t[k]? = some b) (hn : b ≠ 91) : noOpen t (k + 1) := by
  intro i hi
  by_cases e : i = k
  · subst e; rw [hb]; exact fun h => hn (Option.some.inj h)
  · exact h i (by omega)
theorem both {pt pm qt qm a b : L} (hl : pm.length = pt.length) (ho : noOpen pt pt.length) (h1 : tb (sgF pt pm 0) a = true) (h2 : tb (sgF qt qm 0) b = true) : tb (sgF (pt ++ qt) (pm ++ qm) 0) (a ++ b) = true := by
  have ho' : ∀ i : Nat, pt[i]? ≠ some 91 := fun i => by
    by_cases h : i < pt.length
    · exact ho i h
    · rw [List.getElem?_eq_none (by omega)]; exact fun h => by cases h
  rw [sgF_app hl ho' pt.length 0 (by omega) (Nat.zero_le _), tb_iff, tells_app]
  rw [tb_iff] at h1 h2
  exact ⟨a.length, by simp, by simpa using h1, by simpa using h2⟩
theorem set_am (n : Nat) (h : n < 256) : tb (sgF [91, 97, 45, 109, 93] [] 0) [UInt8.ofNat n] = (decide (97 ≤ n) && decide (n ≤ 109)) := (by decide +kernel : ∀ i : Fin 256, tb (sgF [91, 97, 45, 109, 93] [] 0) [UInt8.ofNat i.val] = (decide (97 ≤ i.val) && decide (i.val ≤ 109))) ⟨n, h⟩
theorem set_no (n : Nat) (h : n < 256) : tb (sgF [91, 33, 97, 45, 109, 93] [] 0) [UInt8.ofNat n] = !(decide (97 ≤ n) && decide (n ≤ 109)) := (by decide +kernel : ∀ i : Fin 256, tb (sgF [91, 33, 97, 45, 109, 93] [] 0) [UInt8.ofNat i.val] = !(decide (97 ≤ i.val) && decide (i.val ≤ 109))) ⟨n, h⟩
theorem one_any (n : Nat) (h : n < 256) : tb (sgF [63] [] 0) [UInt8.ofNat n] = true := (by decide +kernel : ∀ i : Fin 256, tb (sgF [63] [] 0) [UInt8.ofNat i.val] = true) ⟨n, h⟩
end Gl
namespace globBoth
open Gs
set_option maxRecDepth 100000 in
set_option maxHeartbeats 6400000 in
theorem walkL (pt pm qt qm a b : L) (n : Nat) (hn : n < 256) (hpb : pt.length + pm.length ≤ 1048576) (hqb : qt.length + qm.length ≤ 1048576) (hab : a.length ≤ 1048576) (hbb : b.length ≤ 1048576) (w : World) : Calls Try.prog 7 #[.agg #[.string (mkS pt), .string (mkS pm)], .agg #[.string (mkS qt), .string (mkS qm)], .string (mkS a), .string (mkS b), .int .u8 (n : Int)] w fun e w' => e = .returned (.bool true) ∧ Later w w' := by
  have HA := Lib.hid (fun W => awake_v W)
  have s1 : ((mkS pt).size : Int) = (pt.length : Int) := by rw [mkS_size]
  have s2 : ((mkS pm).size : Int) = (pm.length : Int) := by rw [mkS_size]
  have s3 : ((mkS qt).size : Int) = (qt.length : Int) := by rw [mkS_size]
  have s5 : ((mkS a).size : Int) = (a.length : Int) := by rw [mkS_size]
  have s6 : ((mkS b).size : Int) = (b.length : Int) := by rw [mkS_size]
  have HZ := Lib.hid (show (mkS pt).size ≤ 1048576 ∧ (mkS pm).size ≤ 1048576 ∧ (mkS qt).size ≤ 1048576 ∧ (mkS qm).size ≤ 1048576 ∧ (mkS a).size ≤ 1048576 ∧ (mkS b).size ≤ 1048576 by simp only [mkS_size]; omega)
  have HL := Lib.hid ((Later.alloc w (.cells #[.string (mkS pt), .string (mkS pm)] 23)).trans (Later.alloc _ (.cells #[.string (mkS qt), .string (mkS qm)] 23)))
  have HP := Lib.hid ((Box.new w pt pm).later (Later.alloc _ (.cells #[.string (mkS qt), .string (mkS qm)] 23)))
  have HQ := Lib.hid (show Box ((w.alloc (.cells #[.string (mkS pt), .string (mkS pm)] 23)).alloc (.cells #[.string (mkS qt), .string (mkS qm)] 23)) (w.heap.size + 1) qt qm by
    have := Box.new (w.alloc (.cells #[.string (mkS pt), .string (mkS pm)] 23)) qt qm
    rwa [show (w.alloc (.cells #[.string (mkS pt), .string (mkS pm)] 23)).heap.size = w.heap.size + 1 from Array.size_push ..] at this)
  clear hpb hqb hab hbb
  by_cases h1 : (20 : Int) < (pt.length : Int)
  · go_enter Try.func7, Try.ntmps7
    go_wp2_with (first
      | (go_at_call 8; (with_reducible refine (HA.out _).mono ?_); rintro e w1 ⟨rfl, hl1⟩; (have HL1 := Lib.hid (HL.out.trans hl1)); (have HP1 := Lib.hid (HP.out.later hl1)); (have HQ1 := Lib.hid (HQ.out.later hl1)); obtain ⟨c0, c1⟩ := HP1.out.cells; obtain ⟨c2, c3⟩ := HQ1.out.cells; clear hl1))
    go_ret
    exact ⟨rfl, HL1.out⟩
  · by_cases h2 : (20 : Int) < (qt.length : Int)
    · go_enter Try.func7, Try.ntmps7
      go_wp2_with (first
        | (go_at_call 8; (with_reducible refine (HA.out _).mono ?_); rintro e w1 ⟨rfl, hl1⟩; (have HL1 := Lib.hid (HL.out.trans hl1)); (have HP1 := Lib.hid (HP.out.later hl1)); (have HQ1 := Lib.hid (HQ.out.later hl1)); obtain ⟨c0, c1⟩ := HP1.out.cells; obtain ⟨c2, c3⟩ := HQ1.out.cells; clear hl1))
      go_ret
      exact ⟨rfl, HL1.out⟩
    · by_cases h3 : (30 : Int) < (a.length : Int)
      · go_enter Try.func7, Try.ntmps7
        go_wp2_with (first
          | (go_at_call 8; (with_reducible refine (HA.out _).mono ?_); rintro e w1 ⟨rfl, hl1⟩; (have HL1 := Lib.hid (HL.out.trans hl1)); (have HP1 := Lib.hid (HP.out.later hl1)); (have HQ1 := Lib.hid (HQ.out.later hl1)); obtain ⟨c0, c1⟩ := HP1.out.cells; obtain ⟨c2, c3⟩ := HQ1.out.cells; clear hl1))
        go_ret
        exact ⟨rfl, HL1.out⟩
      · by_cases h4 : (30 : Int) < (b.length : Int)
        · go_enter Try.func7, Try.ntmps7
          go_wp2_with (first
            | (go_at_call 8; (with_reducible refine (HA.out _).mono ?_); rintro e w1 ⟨rfl, hl1⟩; (have HL1 := Lib.hid (HL.out.trans hl1)); (have HP1 := Lib.hid (HP.out.later hl1)); (have HQ1 := Lib.hid (HQ.out.later hl1)); obtain ⟨c0, c1⟩ := HP1.out.cells; obtain ⟨c2, c3⟩ := HQ1.out.cells; clear hl1))
          go_ret
          exact ⟨rfl, HL1.out⟩
        · by_cases hml : (pm.length : Int) = (pt.length : Int)
          · have hml2 : pm.length = pt.length := by omega
            have HML := Lib.hid hml2
            have hp1 : pt.length ≤ 20 := by omega
            have hq1 : qt.length ≤ 20 := by omega
            have ha1 : a.length ≤ 30 := by omega
            have hb1 : b.length ≤ 30 := by omega
            obtain ⟨B1, hB1⟩ : ∃ B, B = Gl.tb (Gl.sgF pt pm 0) a := ⟨_, rfl⟩
            obtain ⟨B2, hB2⟩ : ∃ B, B = Gl.tb (Gl.sgF qt qm 0) b := ⟨_, rfl⟩
            have HM1 := Lib.hid (fun W => Match_v pt pm a W (by omega) (by omega))
            have HM2 := Lib.hid (fun W => Match_v qt qm b W (by omega) (by omega))
            have HM3 := Lib.hid (fun W => Match_v (pt ++ qt) (pm ++ qm) (a ++ b) W (by rw [List.length_append]; omega) (by rw [List.length_append]; omega))
            have HX := Lib.hid (fun W => (by have := Match_v [91, 97, 45, 109, 93] [] [UInt8.ofNat n] W (by decide) (by simp); rwa [Gl.set_am n hn] at this : Calls Try.prog 10 #[.agg #[.string ⟨#[91, 97, 45, 109, 93]⟩, .string ⟨#[]⟩], .string (mkS [UInt8.ofNat n])] W fun e w' => e = .returned (.bool (decide (97 ≤ n) && decide (n ≤ 109))) ∧ Later W w'))
            have HY := Lib.hid (fun W => (by have := Match_v [91, 33, 97, 45, 109, 93] [] [UInt8.ofNat n] W (by decide) (by simp); rwa [Gl.set_no n hn] at this : Calls Try.prog 10 #[.agg #[.string ⟨#[91, 33, 97, 45, 109, 93]⟩, .string ⟨#[]⟩], .string (mkS [UInt8.ofNat n])] W fun e w' => e = .returned (.bool (!(decide (97 ≤ n) && decide (n ≤ 109)))) ∧ Later W w'))
            have HQQ := Lib.hid (fun W => (by have := Match_v [63] [] [UInt8.ofNat n] W (by decide) (by simp); rwa [Gl.one_any n hn] at this : Calls Try.prog 10 #[.agg #[.string ⟨#[63]⟩, .string ⟨#[]⟩], .string (mkS [UInt8.ofNat n])] W fun e w' => e = .returned (.bool true) ∧ Later W w'))
            rw [← hB1] at HM1
            rw [← hB2] at HM2
            have HB12 := Lib.hid (⟨hB1, hB2⟩ : B1 = Gl.tb (Gl.sgF pt pm 0) a ∧ B2 = Gl.tb (Gl.sgF qt qm 0) b)
            have HCV := Lib.hid (fun W => str1 W n hn)
            clear hB1 hB2 hml2 hn hp1 hq1 ha1 hb1
            go_enter Try.func7, Try.ntmps7
            go_wp2_with (first
              | (go_at_call 8; (with_reducible refine (HA.out _).mono ?_); rintro e w1 ⟨rfl, hl1⟩; (have HL1 := Lib.hid (HL.out.trans hl1)); (have HP1 := Lib.hid (HP.out.later hl1)); (have HQ1 := Lib.hid (HQ.out.later hl1)); obtain ⟨c0, c1⟩ := HP1.out.cells; obtain ⟨c2, c3⟩ := HQ1.out.cells; clear hl1))
            go_loopw [12, 13] (fun s12 s13 wr => ∃ (o : Bool) (k : Nat), s12 = .bool o ∧ s13 = .int .i64 (k : Int) ∧ k ≤ pt.length ∧ (o = false → Gl.noOpen pt k) ∧ Box wr w.heap.size pt pm ∧ Box wr (w.heap.size + 1) qt qm ∧ Later w wr) (fun _ i _ => pt.length - (intOf i).toNat)
            case atStart => exact ⟨false, 0, rfl, rfl, Nat.zero_le _, fun _ => Gl.noOpen_zero _, HP1.out, HQ1.out, HL1.out⟩
            case round =>
              obtain ⟨o, k, rfl, rfl, hk, hno, hp, hq, hlr⟩ := hrel
              have HNO := Lib.hid hno
              have HPR := Lib.hid hp
              have HQR := Lib.hid hq
              have HLR := Lib.hid hlr
              obtain ⟨c0, c1⟩ := hp.cells
              clear hno hp hq hlr
              by_cases hkn : k < pt.length
              · have hk2 : (k : Int) < (pt.length : Int) := by omega
                cases o with
                | true =>
                  go_wp2_with fail
                  go_roundw
                  case rel => exact ⟨true, k + 1, rfl, by go_num, by omega, fun h => absurd h (by decide), HPR.out, HQR.out, HLR.out⟩
                  case measure => simp [intOf]; omega
                | false =>
                  have hk3 : k < (mkS pt).size := by rw [mkS_size]; exact hkn
                  have HG := Lib.hid (get_byte pt k hk3)
                  by_cases hb : ((mkS pt)[k].toNat : Int) = 91
                  · have hbb : (((mkS pt)[k].toNat : Int) == 91) = true := by simpa using hb
                    go_wp2_with fail
                    go_roundw
                    case rel => exact ⟨true, k + 1, rfl, by go_num, by omega, fun h => absurd h (by decide), HPR.out, HQR.out, HLR.out⟩
                    case measure => simp [intOf]; omega
                  · have hbb : (((mkS pt)[k].toNat : Int) == 91) = false := by simpa using hb
                    go_wp2_with fail
                    go_roundw
                    case rel => exact ⟨false, k + 1, rfl, by go_num, by omega, fun _ => Gl.noOpen_next (HNO.out rfl) HG.out (fun e => hb (by rw [e]; rfl)), HPR.out, HQR.out, HLR.out⟩
                    case measure => simp [intOf]; omega
              · have hk2 : ¬ ((k : Int) < (pt.length : Int)) := by omega
                have hke : k = pt.length := by omega
                have HKE := Lib.hid hke
                clear hke
                obtain ⟨z1, z2, z3, z4, z5, z6⟩ := HZ.out
                obtain ⟨c2, c3⟩ := HQR.out.cells
                have i1 : mkS pt ++ mkS qt = mkS (pt ++ qt) := mkS_add _ _
                have i2 : mkS pm ++ mkS qm = mkS (pm ++ qm) := mkS_add _ _
                have i3 : mkS a ++ mkS b = mkS (a ++ b) := mkS_add _ _
                have HLC := Lib.hid (HLR.out.trans (Later.alloc wr (.cells #[.string (mkS (pt ++ qt)), .string (mkS (pm ++ qm))] 23)))
                have HPW := Lib.hid (HPR.out.later (Later.alloc wr (.cells #[.string (mkS (pt ++ qt)), .string (mkS (pm ++ qm))] 23)))
                have HQW := Lib.hid (HQR.out.later (Later.alloc wr (.cells #[.string (mkS (pt ++ qt)), .string (mkS (pm ++ qm))] 23)))
                have HRW := Lib.hid (Box.new wr (pt ++ qt) (pm ++ qm))
                obtain ⟨d0, d1⟩ := HPW.out.cells
                obtain ⟨d2, d3⟩ := HQW.out.cells
                obtain ⟨d4, d5⟩ := HRW.out.cells
                have hcv := HCV.out
                have hcv2 : ∀ cap : Nat, (convert 36 9 (.slice (some ⟨wr.heap.size + 1, 0, none⟩) 1 cap)).run Try.prog ((wr.alloc (.cells #[.string (mkS (pt ++ qt)), .string (mkS (pm ++ qm))] 23)).alloc (.cells #[.int .u8 (n : Int)] 5)) = .ok (.string (mkS [UInt8.ofNat n])) ((wr.alloc (.cells #[.string (mkS (pt ++ qt)), .string (mkS (pm ++ qm))] 23)).alloc (.cells #[.int .u8 (n : Int)] 5)) := fun cap => by
                  have := HCV.out (wr.alloc (.cells #[.string (mkS (pt ++ qt)), .string (mkS (pm ++ qm))] 23)) cap
                  rwa [show (wr.alloc (.cells #[.string (mkS (pt ++ qt)), .string (mkS (pm ++ qm))] 23)).heap.size = wr.heap.size + 1 from Array.size_push ..] at this
                cases o with
                | true =>
                  by_cases h97 : (97 : Int) ≤ (n : Int)
                  · by_cases h109 : (n : Int) ≤ 109
                    · rw [show (decide (97 ≤ n) && decide (n ≤ 109)) = true by simp; omega] at HX HY
                      go_wp2_with (first
                        | (go_at_call 10; (with_reducible refine (HX.out _).mono ?_); rintro e w8 ⟨rfl, hl8⟩; (have HLC := Lib.hid (HLC.out.trans (Later.trans (Later.alloc _ _) hl8))); clear hl8)
                        | (go_at_call 10; (with_reducible refine (HY.out _).mono ?_); rintro e w9 ⟨rfl, hl9⟩; (have HLC := Lib.hid (HLC.out.trans hl9)); clear hl9)
                        | (go_at_call 10; (with_reducible refine (HQQ.out _).mono ?_); rintro e w10 ⟨rfl, hl10⟩; (have HLC := Lib.hid (HLC.out.trans hl10)); clear hl10))
                      go_ret
                      exact ⟨by first | rfl | exact ret_bool (by simp; omega), HLC.out⟩
                    · rw [show (decide (97 ≤ n) && decide (n ≤ 109)) = false by simp; omega] at HX HY
                      have h109b : (109 : Int) < (n : Int) := by omega
                      go_wp2_with (first
                        | (go_at_call 10; (with_reducible refine (HX.out _).mono ?_); rintro e w8 ⟨rfl, hl8⟩; (have HLC := Lib.hid (HLC.out.trans (Later.trans (Later.alloc _ _) hl8))); clear hl8)
                        | (go_at_call 10; (with_reducible refine (HY.out _).mono ?_); rintro e w9 ⟨rfl, hl9⟩; (have HLC := Lib.hid (HLC.out.trans hl9)); clear hl9)
                        | (go_at_call 10; (with_reducible refine (HQQ.out _).mono ?_); rintro e w10 ⟨rfl, hl10⟩; (have HLC := Lib.hid (HLC.out.trans hl10)); clear hl10))
                      go_ret
                      exact ⟨by first | rfl | exact ret_bool (by simp; omega), HLC.out⟩
                  · rw [show (decide (97 ≤ n) && decide (n ≤ 109)) = false by simp; omega] at HX HY
                    have h97b : (n : Int) < 97 := by omega
                    go_wp2_with (first
                      | (go_at_call 10; (with_reducible refine (HX.out _).mono ?_); rintro e w8 ⟨rfl, hl8⟩; (have HLC := Lib.hid (HLC.out.trans (Later.trans (Later.alloc _ _) hl8))); clear hl8)
                      | (go_at_call 10; (with_reducible refine (HY.out _).mono ?_); rintro e w9 ⟨rfl, hl9⟩; (have HLC := Lib.hid (HLC.out.trans hl9)); clear hl9)
                      | (go_at_call 10; (with_reducible refine (HQQ.out _).mono ?_); rintro e w10 ⟨rfl, hl10⟩; (have HLC := Lib.hid (HLC.out.trans hl10)); clear hl10))
                    go_ret
                    exact ⟨by first | rfl | exact ret_bool (by simp; omega), HLC.out⟩
                | false =>
                  cases B1 with
                  | false =>
                    by_cases h97 : (97 : Int) ≤ (n : Int)
                    · by_cases h109 : (n : Int) ≤ 109
                      · rw [show (decide (97 ≤ n) && decide (n ≤ 109)) = true by simp; omega] at HX HY
                        go_wp2_with (first
                          | (go_at_call 10; (with_reducible refine (HM1.out _).mono ?_); rintro e w5 ⟨rfl, hl5⟩; (have HLC := Lib.hid (HLC.out.trans hl5)); (have HQ5 := Lib.hid (HQW.out.later hl5)); (have HR5 := Lib.hid (HRW.out.later hl5)); obtain ⟨e2, e3⟩ := HQ5.out.cells; obtain ⟨e4, e5⟩ := HR5.out.cells; clear hl5 d0 d1 d2 d3 d4 d5)
                          | (go_at_call 10; (with_reducible refine (HX.out _).mono ?_); rintro e w8 ⟨rfl, hl8⟩; (have HLC := Lib.hid (HLC.out.trans (Later.trans (Later.alloc _ _) hl8))); clear hl8)
                          | (go_at_call 10; (with_reducible refine (HY.out _).mono ?_); rintro e w9 ⟨rfl, hl9⟩; (have HLC := Lib.hid (HLC.out.trans hl9)); clear hl9)
                          | (go_at_call 10; (with_reducible refine (HQQ.out _).mono ?_); rintro e w10 ⟨rfl, hl10⟩; (have HLC := Lib.hid (HLC.out.trans hl10)); clear hl10))
                        go_ret
                        exact ⟨by first | rfl | exact ret_bool (by simp; omega), HLC.out⟩
                      · rw [show (decide (97 ≤ n) && decide (n ≤ 109)) = false by simp; omega] at HX HY
                        have h109b : (109 : Int) < (n : Int) := by omega
                        go_wp2_with (first
                          | (go_at_call 10; (with_reducible refine (HM1.out _).mono ?_); rintro e w5 ⟨rfl, hl5⟩; (have HLC := Lib.hid (HLC.out.trans hl5)); (have HQ5 := Lib.hid (HQW.out.later hl5)); (have HR5 := Lib.hid (HRW.out.later hl5)); obtain ⟨e2, e3⟩ := HQ5.out.cells; obtain ⟨e4, e5⟩ := HR5.out.cells; clear hl5 d0 d1 d2 d3 d4 d5)
                          | (go_at_call 10; (with_reducible refine (HX.out _).mono ?_); rintro e w8 ⟨rfl, hl8⟩; (have HLC := Lib.hid (HLC.out.trans (Later.trans (Later.alloc _ _) hl8))); clear hl8)
                          | (go_at_call 10; (with_reducible refine (HY.out _).mono ?_); rintro e w9 ⟨rfl, hl9⟩; (have HLC := Lib.hid (HLC.out.trans hl9)); clear hl9)
                          | (go_at_call 10; (with_reducible refine (HQQ.out _).mono ?_); rintro e w10 ⟨rfl, hl10⟩; (have HLC := Lib.hid (HLC.out.trans hl10)); clear hl10))
                        go_ret
                        exact ⟨by first | rfl | exact ret_bool (by simp; omega), HLC.out⟩
                    · rw [show (decide (97 ≤ n) && decide (n ≤ 109)) = false by simp; omega] at HX HY
                      have h97b : (n : Int) < 97 := by omega
                      go_wp2_with (first
                        | (go_at_call 10; (with_reducible refine (HM1.out _).mono ?_); rintro e w5 ⟨rfl, hl5⟩; (have HLC := Lib.hid (HLC.out.trans hl5)); (have HQ5 := Lib.hid (HQW.out.later hl5)); (have HR5 := Lib.hid (HRW.out.later hl5)); obtain ⟨e2, e3⟩ := HQ5.out.cells; obtain ⟨e4, e5⟩ := HR5.out.cells; clear hl5 d0 d1 d2 d3 d4 d5)
                        | (go_at_call 10; (with_reducible refine (HX.out _).mono ?_); rintro e w8 ⟨rfl, hl8⟩; (have HLC := Lib.hid (HLC.out.trans (Later.trans (Later.alloc _ _) hl8))); clear hl8)
                        | (go_at_call 10; (with_reducible refine (HY.out _).mono ?_); rintro e w9 ⟨rfl, hl9⟩; (have HLC := Lib.hid (HLC.out.trans hl9)); clear hl9)
                        | (go_at_call 10; (with_reducible refine (HQQ.out _).mono ?_); rintro e w10 ⟨rfl, hl10⟩; (have HLC := Lib.hid (HLC.out.trans hl10)); clear hl10))
                      go_ret
                      exact ⟨by first | rfl | exact ret_bool (by simp; omega), HLC.out⟩
                  | true =>
                    cases B2 with
                    | false =>
                      by_cases h97 : (97 : Int) ≤ (n : Int)
                      · by_cases h109 : (n : Int) ≤ 109
                        · rw [show (decide (97 ≤ n) && decide (n ≤ 109)) = true by simp; omega] at HX HY
                          go_wp2_with (first
                            | (go_at_call 10; (with_reducible refine (HM1.out _).mono ?_); rintro e w5 ⟨rfl, hl5⟩; (have HLC := Lib.hid (HLC.out.trans hl5)); (have HQ5 := Lib.hid (HQW.out.later hl5)); (have HR5 := Lib.hid (HRW.out.later hl5)); obtain ⟨e2, e3⟩ := HQ5.out.cells; obtain ⟨e4, e5⟩ := HR5.out.cells; clear hl5 d0 d1 d2 d3 d4 d5)
                            | (go_at_call 10; (with_reducible refine (HM2.out _).mono ?_); rintro e w6 ⟨rfl, hl6⟩; (have HLC := Lib.hid (HLC.out.trans hl6)); (have HR6 := Lib.hid (HR5.out.later hl6)); obtain ⟨g4, g5⟩ := HR6.out.cells; clear hl6 e2 e3 e4 e5)
                            | (go_at_call 10; (with_reducible refine (HX.out _).mono ?_); rintro e w8 ⟨rfl, hl8⟩; (have HLC := Lib.hid (HLC.out.trans (Later.trans (Later.alloc _ _) hl8))); clear hl8)
                            | (go_at_call 10; (with_reducible refine (HY.out _).mono ?_); rintro e w9 ⟨rfl, hl9⟩; (have HLC := Lib.hid (HLC.out.trans hl9)); clear hl9)
                            | (go_at_call 10; (with_reducible refine (HQQ.out _).mono ?_); rintro e w10 ⟨rfl, hl10⟩; (have HLC := Lib.hid (HLC.out.trans hl10)); clear hl10))
                          go_ret
                          exact ⟨by first | rfl | exact ret_bool (by simp; omega), HLC.out⟩
                        · rw [show (decide (97 ≤ n) && decide (n ≤ 109)) = false by simp; omega] at HX HY
                          have h109b : (109 : Int) < (n : Int) := by omega
                          go_wp2_with (first
                            | (go_at_call 10; (with_reducible refine (HM1.out _).mono ?_); rintro e w5 ⟨rfl, hl5⟩; (have HLC := Lib.hid (HLC.out.trans hl5)); (have HQ5 := Lib.hid (HQW.out.later hl5)); (have HR5 := Lib.hid (HRW.out.later hl5)); obtain ⟨e2, e3⟩ := HQ5.out.cells; obtain ⟨e4, e5⟩ := HR5.out.cells; clear hl5 d0 d1 d2 d3 d4 d5)
                            | (go_at_call 10; (with_reducible refine (HM2.out _).mono ?_); rintro e w6 ⟨rfl, hl6⟩; (have HLC := Lib.hid (HLC.out.trans hl6)); (have HR6 := Lib.hid (HR5.out.later hl6)); obtain ⟨g4, g5⟩ := HR6.out.cells; clear hl6 e2 e3 e4 e5)
                            | (go_at_call 10; (with_reducible refine (HX.out _).mono ?_); rintro e w8 ⟨rfl, hl8⟩; (have HLC := Lib.hid (HLC.out.trans (Later.trans (Later.alloc _ _) hl8))); clear hl8)
                            | (go_at_call 10; (with_reducible refine (HY.out _).mono ?_); rintro e w9 ⟨rfl, hl9⟩; (have HLC := Lib.hid (HLC.out.trans hl9)); clear hl9)
                            | (go_at_call 10; (with_reducible refine (HQQ.out _).mono ?_); rintro e w10 ⟨rfl, hl10⟩; (have HLC := Lib.hid (HLC.out.trans hl10)); clear hl10))
                          go_ret
                          exact ⟨by first | rfl | exact ret_bool (by simp; omega), HLC.out⟩
                      · rw [show (decide (97 ≤ n) && decide (n ≤ 109)) = false by simp; omega] at HX HY
                        have h97b : (n : Int) < 97 := by omega
                        go_wp2_with (first
                          | (go_at_call 10; (with_reducible refine (HM1.out _).mono ?_); rintro e w5 ⟨rfl, hl5⟩; (have HLC := Lib.hid (HLC.out.trans hl5)); (have HQ5 := Lib.hid (HQW.out.later hl5)); (have HR5 := Lib.hid (HRW.out.later hl5)); obtain ⟨e2, e3⟩ := HQ5.out.cells; obtain ⟨e4, e5⟩ := HR5.out.cells; clear hl5 d0 d1 d2 d3 d4 d5)
                          | (go_at_call 10; (with_reducible refine (HM2.out _).mono ?_); rintro e w6 ⟨rfl, hl6⟩; (have HLC := Lib.hid (HLC.out.trans hl6)); (have HR6 := Lib.hid (HR5.out.later hl6)); obtain ⟨g4, g5⟩ := HR6.out.cells; clear hl6 e2 e3 e4 e5)
                          | (go_at_call 10; (with_reducible refine (HX.out _).mono ?_); rintro e w8 ⟨rfl, hl8⟩; (have HLC := Lib.hid (HLC.out.trans (Later.trans (Later.alloc _ _) hl8))); clear hl8)
                          | (go_at_call 10; (with_reducible refine (HY.out _).mono ?_); rintro e w9 ⟨rfl, hl9⟩; (have HLC := Lib.hid (HLC.out.trans hl9)); clear hl9)
                          | (go_at_call 10; (with_reducible refine (HQQ.out _).mono ?_); rintro e w10 ⟨rfl, hl10⟩; (have HLC := Lib.hid (HLC.out.trans hl10)); clear hl10))
                        go_ret
                        exact ⟨by first | rfl | exact ret_bool (by simp; omega), HLC.out⟩
                    | true =>
                      rw [Gl.both HML.out (HKE.out ▸ HNO.out rfl) HB12.out.1.symm HB12.out.2.symm] at HM3
                      by_cases h97 : (97 : Int) ≤ (n : Int)
                      · by_cases h109 : (n : Int) ≤ 109
                        · rw [show (decide (97 ≤ n) && decide (n ≤ 109)) = true by simp; omega] at HX HY
                          go_wp2_with (first
                            | (go_at_call 10; (with_reducible refine (HM1.out _).mono ?_); rintro e w5 ⟨rfl, hl5⟩; (have HLC := Lib.hid (HLC.out.trans hl5)); (have HQ5 := Lib.hid (HQW.out.later hl5)); (have HR5 := Lib.hid (HRW.out.later hl5)); obtain ⟨e2, e3⟩ := HQ5.out.cells; obtain ⟨e4, e5⟩ := HR5.out.cells; clear hl5 d0 d1 d2 d3 d4 d5)
                            | (go_at_call 10; (with_reducible refine (HM2.out _).mono ?_); rintro e w6 ⟨rfl, hl6⟩; (have HLC := Lib.hid (HLC.out.trans hl6)); (have HR6 := Lib.hid (HR5.out.later hl6)); obtain ⟨g4, g5⟩ := HR6.out.cells; clear hl6 e2 e3 e4 e5)
                            | (go_at_call 10; (with_reducible refine (HM3.out _).mono ?_); rintro e w7 ⟨rfl, hl7⟩; (have HLC := Lib.hid (HLC.out.trans hl7)); clear hl7 g4 g5)
                            | (go_at_call 10; (with_reducible refine (HX.out _).mono ?_); rintro e w8 ⟨rfl, hl8⟩; (have HLC := Lib.hid (HLC.out.trans (Later.trans (Later.alloc _ _) hl8))); clear hl8)
                            | (go_at_call 10; (with_reducible refine (HY.out _).mono ?_); rintro e w9 ⟨rfl, hl9⟩; (have HLC := Lib.hid (HLC.out.trans hl9)); clear hl9)
                            | (go_at_call 10; (with_reducible refine (HQQ.out _).mono ?_); rintro e w10 ⟨rfl, hl10⟩; (have HLC := Lib.hid (HLC.out.trans hl10)); clear hl10))
                          go_ret
                          exact ⟨by first | rfl | exact ret_bool (by simp; omega), HLC.out⟩
                        · rw [show (decide (97 ≤ n) && decide (n ≤ 109)) = false by simp; omega] at HX HY
                          have h109b : (109 : Int) < (n : Int) := by omega
                          go_wp2_with (first
                            | (go_at_call 10; (with_reducible refine (HM1.out _).mono ?_); rintro e w5 ⟨rfl, hl5⟩; (have HLC := Lib.hid (HLC.out.trans hl5)); (have HQ5 := Lib.hid (HQW.out.later hl5)); (have HR5 := Lib.hid (HRW.out.later hl5)); obtain ⟨e2, e3⟩ := HQ5.out.cells; obtain ⟨e4, e5⟩ := HR5.out.cells; clear hl5 d0 d1 d2 d3 d4 d5)
                            | (go_at_call 10; (with_reducible refine (HM2.out _).mono ?_); rintro e w6 ⟨rfl, hl6⟩; (have HLC := Lib.hid (HLC.out.trans hl6)); (have HR6 := Lib.hid (HR5.out.later hl6)); obtain ⟨g4, g5⟩ := HR6.out.cells; clear hl6 e2 e3 e4 e5)
                            | (go_at_call 10; (with_reducible refine (HM3.out _).mono ?_); rintro e w7 ⟨rfl, hl7⟩; (have HLC := Lib.hid (HLC.out.trans hl7)); clear hl7 g4 g5)
                            | (go_at_call 10; (with_reducible refine (HX.out _).mono ?_); rintro e w8 ⟨rfl, hl8⟩; (have HLC := Lib.hid (HLC.out.trans (Later.trans (Later.alloc _ _) hl8))); clear hl8)
                            | (go_at_call 10; (with_reducible refine (HY.out _).mono ?_); rintro e w9 ⟨rfl, hl9⟩; (have HLC := Lib.hid (HLC.out.trans hl9)); clear hl9)
                            | (go_at_call 10; (with_reducible refine (HQQ.out _).mono ?_); rintro e w10 ⟨rfl, hl10⟩; (have HLC := Lib.hid (HLC.out.trans hl10)); clear hl10))
                          go_ret
                          exact ⟨by first | rfl | exact ret_bool (by simp; omega), HLC.out⟩
                      · rw [show (decide (97 ≤ n) && decide (n ≤ 109)) = false by simp; omega] at HX HY
                        have h97b : (n : Int) < 97 := by omega
                        go_wp2_with (first
                          | (go_at_call 10; (with_reducible refine (HM1.out _).mono ?_); rintro e w5 ⟨rfl, hl5⟩; (have HLC := Lib.hid (HLC.out.trans hl5)); (have HQ5 := Lib.hid (HQW.out.later hl5)); (have HR5 := Lib.hid (HRW.out.later hl5)); obtain ⟨e2, e3⟩ := HQ5.out.cells; obtain ⟨e4, e5⟩ := HR5.out.cells; clear hl5 d0 d1 d2 d3 d4 d5)
                          | (go_at_call 10; (with_reducible refine (HM2.out _).mono ?_); rintro e w6 ⟨rfl, hl6⟩; (have HLC := Lib.hid (HLC.out.trans hl6)); (have HR6 := Lib.hid (HR5.out.later hl6)); obtain ⟨g4, g5⟩ := HR6.out.cells; clear hl6 e2 e3 e4 e5)
                          | (go_at_call 10; (with_reducible refine (HM3.out _).mono ?_); rintro e w7 ⟨rfl, hl7⟩; (have HLC := Lib.hid (HLC.out.trans hl7)); clear hl7 g4 g5)
                          | (go_at_call 10; (with_reducible refine (HX.out _).mono ?_); rintro e w8 ⟨rfl, hl8⟩; (have HLC := Lib.hid (HLC.out.trans (Later.trans (Later.alloc _ _) hl8))); clear hl8)
                          | (go_at_call 10; (with_reducible refine (HY.out _).mono ?_); rintro e w9 ⟨rfl, hl9⟩; (have HLC := Lib.hid (HLC.out.trans hl9)); clear hl9)
                          | (go_at_call 10; (with_reducible refine (HQQ.out _).mono ?_); rintro e w10 ⟨rfl, hl10⟩; (have HLC := Lib.hid (HLC.out.trans hl10)); clear hl10))
                        go_ret
                        exact ⟨by first | rfl | exact ret_bool (by simp; omega), HLC.out⟩
          · have hml3 : ((pm.length : Int) == (pt.length : Int)) = false := by simp; omega
            have hml4 : ((pm.length : Int) != (pt.length : Int)) = true := by simp; omega
            go_enter Try.func7, Try.ntmps7
            go_wp2_with (first
              | (go_at_call 8; (with_reducible refine (HA.out _).mono ?_); rintro e w1 ⟨rfl, hl1⟩; (have HL1 := Lib.hid (HL.out.trans hl1)); (have HP1 := Lib.hid (HP.out.later hl1)); (have HQ1 := Lib.hid (HQ.out.later hl1)); obtain ⟨c0, c1⟩ := HP1.out.cells; obtain ⟨c2, c3⟩ := HQ1.out.cells; clear hl1))
            go_ret
            exact ⟨rfl, HL1.out⟩
theorem walk (w : World) (pt : ByteArray) (_ : pt.size ≤ maxLen) (pm : ByteArray) (_ : pm.size ≤ maxLen) (hp : pt.size + pm.size ≤ 1048576) (qt : ByteArray) (_ : qt.size ≤ maxLen) (qm : ByteArray) (_ : qm.size ≤ maxLen) (hq : qt.size + qm.size ≤ 1048576) (a : ByteArray) (_ : a.size ≤ maxLen) (ha : a.size ≤ 1048576) (b : ByteArray) (_ : b.size ≤ maxLen) (hb : b.size ≤ 1048576) (x : Int) (hx : (Lit.int .u8 x).wf = true) : Calls Try.prog 7 #[.agg #[.string pt, .string pm], .agg #[.string qt, .string qm], .string a, .string b, .int .u8 x] w fun e w' => e = .returned (.bool true) ∧ Below w.heap.size w w' := by
  have hx2 := bounds_u8 hx
  obtain ⟨n, rfl⟩ := Int.eq_ofNat_of_zero_le hx2.1
  have := walkL pt.data.toList pm.data.toList qt.data.toList qm.data.toList a.data.toList b.data.toList n (by omega) hp hq ha hb w
  rw [mkS_of, mkS_of, mkS_of, mkS_of, mkS_of, mkS_of] at this
  exact this.mono fun e w' ⟨h1, h2⟩ => ⟨h1, h2⟩
end globBoth
end Go.Proofs.Ytjjkeajgcdminaa
