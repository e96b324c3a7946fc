/- THE WALK OF SplitBlanks: blanks at either end, and more of them, change nothing. No premises. -/
import Derived.Test.YtghdimcdkjlpcaaJColW
namespace Go.Proofs.Ytghdimcdkjlpcaa
open Go.RowKit Go.Maps
namespace Jo
/-- So many pairs of blanks. -/
def tabs : Nat → L
  | 0 => []
  | k + 1 => tabs k ++ [9, 32]
theorem tabs_len (k : Nat) : (tabs k).length = 2 * k := by
  induction k with
  | zero => rfl
  | succ k ih => simp only [tabs, List.length_append, ih, List.length_cons, List.length_nil]; omega
theorem tabs_white (k : Nat) : ∀ c ∈ tabs k, whiteB c = true := by
  induction k with
  | zero => intro c hc; cases hc
  | succ k ih =>
    intro c hc
    rcases List.mem_append.1 hc with hc | hc
    · exact ih c hc
    · simp at hc; rcases hc with rfl | rfl <;> rfl
theorem glue_snoc (lead sep : L) : ∀ (a : List L) (x : L), glue lead sep (a ++ [x]) = glue lead sep a ++ ((if a = [] then lead else sep) ++ x)
  | [], x => by simp [glue]
  | w :: a, x => by
    have := glue_snoc sep sep a x
    simp only [List.cons_append, glue, this]
    by_cases h : a = []
    · subst h; simp [glue]
    · simp [h]
theorem glue_len (lead sep : L) (n : Nat) : ∀ (a : List L), (∀ x ∈ a, x.length ≤ 30) → lead.length ≤ n → sep.length ≤ n → (glue lead sep a).length ≤ a.length * (30 + n)
  | [], _, _, _ => by simp [glue]
  | x :: a, h, h1, h2 => by
    have h3 := h x (List.mem_cons_self ..)
    have h4 := glue_len sep sep n a (fun y hy => h y (List.mem_cons_of_mem _ hy)) h2 h2
    simp only [glue, List.length_append, List.length_cons, Nat.add_mul] at h4 ⊢
    omega
theorem glue_take {lead sep : L} {ts : List L} {k : Nat} (h : k < ts.length) : glue lead sep (ts.take (k + 1)) = glue lead sep (ts.take k) ++ ((if k = 0 then lead else sep) ++ ts[k]) := by
  rw [List.take_succ_eq_append_getElem h, glue_snoc]
  have e : (ts.take k = []) ↔ k = 0 := by
    rw [List.take_eq_nil_iff]
    constructor
    · rintro (h1 | h1)
      · exact h1
      · rw [h1] at h; simp at h
    · exact .inl
  by_cases hk : k = 0
  · rw [if_pos (e.2 hk), if_pos hk]
  · rw [if_neg (fun h1 => hk (e.1 h1)), if_neg hk]
end Jo
namespace splitBlanks
open Jo
set_option maxRecDepth 100000 in
set_option maxHeartbeats 6400000 in
theorem walk_m (w : World) (A0 : Option Addr) (n c0 : Nat) (ts : List L) (q : UInt8) (hr : Rd w w.heap.size A0 n (ts.map sv)) (hsz : ∀ x ∈ ts, x.length ≤ 9223372036854775807) :
    Calls Try.prog 6 #[.slice A0 n c0, .int .u8 (q.toNat : Int)] w fun e w' => e = .returned (.bool true) ∧ Later w w' := by
  have HAW := Lib.hid (fun W => awake_v W)
  have HR := Lib.hid hr
  have HTN := Lib.hid (show ts.length = n from hr.len_map)
  have HSZ := Lib.hid hsz
  clear hr hsz
  by_cases b0 : n > 30
  · have k0 : (30 : Int) < (n : Int) := by omega
    go_enter Try.func6, Try.ntmps6
    go_wp2_with (go_at_call 8; (with_reducible refine (HAW.out _).mono ?_); rintro e w1 ⟨rfl, hl1⟩; (have HL1 := Lib.hid hl1); (have HR1 := Lib.hid ((HR.out.below hl1).more hl1.size)); clear hl1)
    go_ret
    exact ⟨rfl, HL1.out⟩
  have k0 : ¬ (30 : Int) < (n : Int) := by omega
  go_enter Try.func6, Try.ntmps6
  go_wp2_with (go_at_call 8; (with_reducible refine (HAW.out _).mono ?_); rintro e w1 ⟨rfl, hl1⟩; (have HL1 := Lib.hid hl1); (have HR1 := Lib.hid ((HR.out.below hl1).more hl1.size)); clear hl1)
  obtain ⟨kk, hkk⟩ : ∃ kk : Nat, kk = q.toNat % 5 + 1 := ⟨_, rfl⟩
  have hk5 : kk ≤ 5 ∧ 0 < kk := by omega
  have hke : (q.toNat : Int) % 5 + 1 = (kk : Int) := by omega
  rw [hke]
  have HK5 := Lib.hid hk5
  clear hkk hke hk5
  go_loopw [6, 7, 9] (fun s6 s7 s9 wr => ∃ i : Nat, s9 = .int .i64 (i : Int) ∧ i ≤ n ∧ s6 = .string (mkS (glue [] [32] (ts.take i))) ∧ s7 = .string (mkS (glue (tabs kk) (tabs kk) (ts.take i))) ∧ (∀ x ∈ ts.take i, x.length ≤ 30 ∧ x ≠ [] ∧ ∀ c ∈ x, whiteB c = false) ∧ wr = w1) (fun _ _ i _ => n - (intOf i).toNat)
  case atStart => exact ⟨0, rfl, Nat.zero_le _, rfl, rfl, by simp, rfl⟩
  case round =>
    obtain ⟨i, rfl, hi, rfl, rfl, hok, hw⟩ := hrel
    have hw := hw.symm
    subst hw
    have HOK := Lib.hid hok
    clear hok
    have hi0 : (0 : Int) ≤ (i : Int) := by omega
    by_cases hlt : i < n
    · have hi1 : (i : Int) < (n : Int) := by omega
      obtain ⟨ad, hl1, rfl, _, hc⟩ := HR1.out.at_map (k := i) hlt
      obtain ⟨x, hx⟩ : ∃ x, x = ts[i] := ⟨_, rfl⟩
      rw [← hx] at hc
      have hc1 : w1.cell? (ad.add i) = some (.string (mkS x)) := hc
      have hxs : ((mkS x).size : Int) = (x.length : Int) := by rw [mkS_size]
      have htl : ∀ l : L, (mkS l).toList = l := mkS_toList
      have HXM := Lib.hid (show x.length ≤ 9223372036854775807 from HSZ.out x (by rw [hx]; exact List.getElem_mem hl1))
      have HTK := Lib.hid (show ts.take (i + 1) = ts.take i ++ [x] by rw [hx]; exact List.take_succ_eq_append_getElem hl1)
      have HG1 := Lib.hid (show glue [] [32] (ts.take (i + 1)) = glue [] [32] (ts.take i) ++ ((if i = 0 then [] else [32]) ++ x) by rw [hx]; exact glue_take hl1)
      have HG2 := Lib.hid (show glue (tabs kk) (tabs kk) (ts.take (i + 1)) = glue (tabs kk) (tabs kk) (ts.take i) ++ (tabs kk ++ x) by
        have := glue_take (lead := tabs kk) (sep := tabs kk) hl1
        rw [hx]
        simpa using this)
      have HCL := Lib.hid (show (glue [] [32] (ts.take i)).length ≤ 2000 ∧ (glue (tabs kk) (tabs kk) (ts.take i)).length ≤ 2000 by
        have h2 : (ts.take i).length ≤ 30 := by rw [List.length_take]; omega
        have h3 := glue_len [] [32] 10 (ts.take i) (fun y hy => (HOK.out y hy).1) (by simp) (by simp)
        have h4 := glue_len (tabs kk) (tabs kk) 10 (ts.take i) (fun y hy => (HOK.out y hy).1) (by rw [tabs_len]; have := HK5.out; omega) (by rw [tabs_len]; have := HK5.out; omega)
        omega)
      obtain ⟨y, hy⟩ : ∃ y, y = glue [] [32] (ts.take i) := ⟨_, rfl⟩
      obtain ⟨z, hz⟩ : ∃ z, z = glue (tabs kk) (tabs kk) (ts.take i) := ⟨_, rfl⟩
      rw [← hy] at HG1
      rw [← hz] at HG2
      rw [← hy, ← hz] at HCL
      rw [← hy, ← hz]
      clear hc hx hl1 hy hz
      by_cases b1 : x.length > 30
      · have k1 : (30 : Int) < (x.length : Int) := by omega
        go_wp2
        go_ret
        exact ⟨rfl, HL1.out⟩
      have k1 : ¬ (30 : Int) < (x.length : Int) := by omega
      by_cases b2 : x = []
      · have k2 : (x == []) = true := by simp [b2]
        go_wp2
        go_ret
        exact ⟨rfl, HL1.out⟩
      have k2 : (x == []) = false := by simpa using b2
      have HX2 := Lib.hid (show x.length ≤ 30 ∧ x ≠ [] from ⟨by omega, b2⟩)
      clear b2
      go_wp2_with fail
      go_loopw [10] (fun s10 wi => ∃ k : Nat, s10 = .int .i64 (k : Int) ∧ k ≤ x.length ∧ (∀ c ∈ x.take k, whiteB c = false) ∧ wi = w1) (fun k _ => x.length - (intOf k).toNat)
      case atStart => exact ⟨0, rfl, Nat.zero_le _, by simp, rfl⟩
      case round =>
        obtain ⟨k, rfl, hk, hno, hw⟩ := hrel
        have hw := hw.symm
        subst hw
        have HNO := Lib.hid hno
        clear hno
        have hk0 : (0 : Int) ≤ (k : Int) := by omega
        have hx20 := HX2.out.1
        by_cases hkx : k < x.length
        · have hk1 : (k : Int) < (x.length : Int) := by omega
          have hk2 : k < (mkS x).size := by rw [mkS_size]; exact hkx
          obtain ⟨c, hq⟩ : ∃ c, c = (mkS x)[k] := ⟨_, rfl⟩
          have hq2 : x[k] = c := by rw [hq]; exact (mkS_get x k hk2 hkx).symm
          have HTX := Lib.hid (show x.take (k + 1) = x.take k ++ [c] by rw [List.take_succ_eq_append_getElem hkx]; exact congrArg (fun z => x.take k ++ [z]) hq2)
          have hqt : (mkS x)[k] = c := hq.symm
          clear hq hq2
          by_cases hc32 : c = 32
          · have f32 : ((c.toNat : Int) == 32) = true := f8 (n := 32) (b := true) (by decide) (by simpa using hc32)
            clear hc32
            go_wp2
            go_ret
            exact ⟨rfl, HL1.out⟩
          by_cases hc9 : c = 9
          · have f32 : ((c.toNat : Int) == 32) = false := f8 (n := 32) (b := false) (by decide) (by simpa using hc32)
            have f9 : ((c.toNat : Int) == 9) = true := f8 (n := 9) (b := true) (by decide) (by simpa using hc9)
            clear hc32 hc9
            go_wp2
            go_ret
            exact ⟨rfl, HL1.out⟩
          by_cases hc10 : c = 10
          · have f32 : ((c.toNat : Int) == 32) = false := f8 (n := 32) (b := false) (by decide) (by simpa using hc32)
            have f9 : ((c.toNat : Int) == 9) = false := f8 (n := 9) (b := false) (by decide) (by simpa using hc9)
            have f10 : ((c.toNat : Int) == 10) = true := f8 (n := 10) (b := true) (by decide) (by simpa using hc10)
            clear hc32 hc9 hc10
            go_wp2
            go_ret
            exact ⟨rfl, HL1.out⟩
          have f32 : ((c.toNat : Int) == 32) = false := f8 (n := 32) (b := false) (by decide) (by simpa using hc32)
          have f9 : ((c.toNat : Int) == 9) = false := f8 (n := 9) (b := false) (by decide) (by simpa using hc9)
          have f10 : ((c.toNat : Int) == 10) = false := f8 (n := 10) (b := false) (by decide) (by simpa using hc10)
          have H58 := Lib.hid (show whiteB c = false by simp [whiteB, hc32, hc9, hc10])
          clear hc32 hc9 hc10
          go_wp2
          go_roundw
          case rel =>
            refine ⟨k + 1, by go_num, by omega, ?_, trivial⟩
            intro c' hc
            rw [HTX.out] at hc
            rcases List.mem_append.1 hc with hc | hc
            · exact HNO.out c' hc
            · rw [List.mem_singleton.1 hc]; exact H58.out
          case measure => simp [intOf]; omega
        · rw [List.take_of_length_le (by omega)] at HNO
          have hy1 := HCL.out.1
          have hz1 := HCL.out.2
          have hx1 := HX2.out.1
          obtain ⟨u, hu⟩ : ∃ u, u = y ++ ((if i = 0 then [] else [32]) ++ x) := ⟨_, rfl⟩
          rw [← hu] at HG1
          have HWALK : True := trivial
          by_cases hi00 : i = 0
          · have hi2 : ¬ (0 : Int) < (i : Int) := by omega
            have hi3 : ¬ 0 < i := by omega
            have hs1 : ¬ 9223372036854775807 < (mkS y).size + (mkS x).size := by rw [mkS_size, mkS_size]; omega
            have hadd : mkS y ++ mkS x = mkS u := by rw [mkS_add, hu, if_pos hi00]; rfl
            clear hu hi00
            go_wp2_with fail
            go_loopw [7, 12] (fun s7 s12 wi => ∃ j : Nat, s12 = .int .i64 (j : Int) ∧ j ≤ kk ∧ s7 = .string (mkS (z ++ tabs j)) ∧ wi = w1) (fun _ j _ => kk - (intOf j).toNat)
            case atStart => exact ⟨0, rfl, Nat.zero_le _, by simp [tabs], rfl⟩
            case round =>
              obtain ⟨j, rfl, hj, rfl, hw⟩ := hrel
              have hw := hw.symm
              subst hw
              have hj0 : (0 : Int) ≤ (j : Int) := by omega
              have hk55 := HK5.out
              by_cases hjk : j < kk
              · have hj1 : (j : Int) < (kk : Int) := by omega
                have hs3 : ¬ 9223372036854775807 < (mkS (z ++ tabs j)).size + 2 := by rw [mkS_size, List.length_append, tabs_len]; omega
                have hadd2 : mkS (z ++ tabs j) ++ ({ data := #[9, 32] } : ByteArray) = mkS (z ++ tabs (j + 1)) := by rw [show ({ data := #[9, 32] } : ByteArray) = mkS [9, 32] from rfl, mkS_add, List.append_assoc]; rfl
                go_wp2
                go_roundw
                case rel => exact ⟨j + 1, by go_num, by omega, rfl, trivial⟩
                case measure => simp [intOf]; omega
              · have hjk2 : kk = j := by omega
                subst hjk2
                have hs4 : ¬ 9223372036854775807 < (mkS (z ++ tabs kk)).size + (mkS x).size := by rw [mkS_size, mkS_size, List.length_append, tabs_len]; omega
                have hadd3 : mkS (z ++ tabs kk) ++ mkS x = mkS (z ++ (tabs kk ++ x)) := by rw [mkS_add, List.append_assoc]
                go_wp2
                go_roundw
                case rel =>
                  refine ⟨i + 1, by go_num, by omega, ?_, ?_, ?_, trivial⟩
                  · rw [HG1.out]
                  · rw [HG2.out]
                  · intro z' hz'
                    rw [HTK.out] at hz'
                    rcases List.mem_append.1 hz' with hz' | hz'
                    · exact HOK.out z' hz'
                    · rw [List.mem_singleton.1 hz']; exact ⟨HX2.out.1, HX2.out.2, HNO.out⟩
                case measure => simp [intOf]; omega
          · have hi2 : (0 : Int) < (i : Int) := by omega
            have hi3 : 0 < i := by omega
            have hs1 : ¬ 9223372036854775807 < (mkS y).size + 1 := by rw [mkS_size]; omega
            have hs2 : ¬ 9223372036854775807 < (mkS y).size + 1 + (mkS x).size := by rw [mkS_size, mkS_size]; omega
            have hadd : mkS y ++ ({ data := #[32] } : ByteArray) ++ mkS x = mkS u := by rw [show ({ data := #[32] } : ByteArray) = mkS [32] from rfl, mkS_add, mkS_add, hu, if_neg hi00, List.append_assoc]
            clear hu hi00
            go_wp2_with fail
            go_loopw [7, 12] (fun s7 s12 wi => ∃ j : Nat, s12 = .int .i64 (j : Int) ∧ j ≤ kk ∧ s7 = .string (mkS (z ++ tabs j)) ∧ wi = w1) (fun _ j _ => kk - (intOf j).toNat)
            case atStart => exact ⟨0, rfl, Nat.zero_le _, by simp [tabs], rfl⟩
            case round =>
              obtain ⟨j, rfl, hj, rfl, hw⟩ := hrel
              have hw := hw.symm
              subst hw
              have hj0 : (0 : Int) ≤ (j : Int) := by omega
              have hk55 := HK5.out
              by_cases hjk : j < kk
              · have hj1 : (j : Int) < (kk : Int) := by omega
                have hs3 : ¬ 9223372036854775807 < (mkS (z ++ tabs j)).size + 2 := by rw [mkS_size, List.length_append, tabs_len]; omega
                have hadd2 : mkS (z ++ tabs j) ++ ({ data := #[9, 32] } : ByteArray) = mkS (z ++ tabs (j + 1)) := by rw [show ({ data := #[9, 32] } : ByteArray) = mkS [9, 32] from rfl, mkS_add, List.append_assoc]; rfl
                go_wp2
                go_roundw
                case rel => exact ⟨j + 1, by go_num, by omega, rfl, trivial⟩
                case measure => simp [intOf]; omega
              · have hjk2 : kk = j := by omega
                subst hjk2
                have hs4 : ¬ 9223372036854775807 < (mkS (z ++ tabs kk)).size + (mkS x).size := by rw [mkS_size, mkS_size, List.length_append, tabs_len]; omega
                have hadd3 : mkS (z ++ tabs kk) ++ mkS x = mkS (z ++ (tabs kk ++ x)) := by rw [mkS_add, List.append_assoc]
                go_wp2
                go_roundw
                case rel =>
                  refine ⟨i + 1, by go_num, by omega, ?_, ?_, ?_, trivial⟩
                  · rw [HG1.out]
                  · rw [HG2.out]
                  · intro z' hz'
                    rw [HTK.out] at hz'
                    rcases List.mem_append.1 hz' with hz' | hz'
                    · exact HOK.out z' hz'
                    · rw [List.mem_singleton.1 hz']; exact ⟨HX2.out.1, HX2.out.2, HNO.out⟩
                case measure => simp [intOf]; omega
    · have htk : ts.take i = ts := List.take_of_length_le (by have := HTN.out; omega)
      rw [htk] at HOK ⊢
      have hkn0 : tabs kk ≠ [] := by
        intro h
        have := congrArg List.length h
        rw [tabs_len] at this
        have := HK5.out
        simp at *
        omega
      have hl1 := glue_len [] [32] 10 ts (fun y hy => (HOK.out y hy).1) (by simp) (by simp)
      have hl2 := glue_len (tabs kk) (tabs kk) 10 ts (fun y hy => (HOK.out y hy).1) (by rw [tabs_len]; have := HK5.out; omega) (by rw [tabs_len]; have := HK5.out; omega)
      have hg1 := split_glue [] [32] [] (by simp) (by simp [whiteB]) (by simp) (by simp) ts (fun x hx => (HOK.out x hx).2)
      have hg2 := split_glue (tabs kk) (tabs kk) [10] (tabs_white kk) (tabs_white kk) hkn0 (by simp [whiteB]) ts (fun x hx => (HOK.out x hx).2)
      rw [List.append_nil] at hg1
      have hn := HTN.out
      obtain ⟨D, hD⟩ : ∃ D, D = glue [] [32] ts := ⟨_, rfl⟩
      obtain ⟨z, hz⟩ : ∃ z, z = glue (tabs kk) (tabs kk) ts := ⟨_, rfl⟩
      rw [← hD] at hl1 hg1 ⊢
      rw [← hz] at hl2 hg2 ⊢
      obtain ⟨E, hE⟩ : ∃ E, E = z ++ [10] := ⟨_, rfl⟩
      have hEl : E.length = z.length + 1 := by rw [hE, List.length_append]; rfl
      have hs5 : ¬ 9223372036854775807 < (mkS z).size + 1 := by rw [mkS_size]; omega
      have hadd5 : mkS z ++ ({ data := #[10] } : ByteArray) = mkS E := by rw [show ({ data := #[10] } : ByteArray) = mkS [10] from rfl, mkS_add, hE]
      rw [← hE] at hg2
      have hz1 : (D.zip (List.replicate D.length (115 : UInt8))).length ≤ 100000 := by rw [List.length_zip, List.length_replicate]; omega
      have hz2 : (E.zip (List.replicate E.length (115 : UInt8))).length ≤ 100000 := by rw [List.length_zip, List.length_replicate]; omega
      have HO1 := Lib.hid (show ∀ W : World, Calls Try.prog 14 #[.string (mkS D), .int .u8 115] W fun e w' => e = .returned (.agg #[.string (mkS D), .string (mkS (List.replicate D.length 115))]) ∧ Later W w' from fun W => of_v D 115 W (by omega))
      have HO2 := Lib.hid (show ∀ W : World, Calls Try.prog 14 #[.string (mkS E), .int .u8 115] W fun e w' => e = .returned (.agg #[.string (mkS E), .string (mkS (List.replicate E.length 115))]) ∧ Later W w' from fun W => of_v E 115 W (by omega))
      have HS1 := Lib.hid (show ∀ W : World, Calls Try.prog 9 #[.agg #[.string (mkS D), .string (mkS (List.replicate D.length 115))], .string ⟨#[32, 9, 10]⟩] W fun e w' => ∃ v, e = .returned v ∧ Later W w' ∧ w'.ownsRow W.heap.size 23 2 v (ts.map fun w => of w 115).length (rows (ts.map fun w => of w 115)) from fun W => by
        have := split_v D (List.replicate D.length 115) blanks W (by omega) hz1
        rw [of_zip, hg1] at this
        exact this)
      have HS2 := Lib.hid (show ∀ W : World, Calls Try.prog 9 #[.agg #[.string (mkS E), .string (mkS (List.replicate E.length 115))], .string ⟨#[32, 9, 10]⟩] W fun e w' => ∃ v, e = .returned v ∧ Later W w' ∧ w'.ownsRow W.heap.size 23 2 v (ts.map fun w => of w 115).length (rows (ts.map fun w => of w 115)) from fun W => by
        have := split_v E (List.replicate E.length 115) blanks W (by omega) hz2
        rw [of_zip, hg2] at this
        exact this)
      have HFL := Lib.hid (show (ts.map fun w => of w 115).length = n by rw [List.length_map]; exact hn)
      have hni : i = n := by omega
      clear htk hD hE hz hz1 hz2 hl1 hl2 hg1 hg2 hEl hkn0 hn hlt
      have htl : ∀ l : L, (mkS l).toList = l := mkS_toList
      go_wp2_with (first
        | (go_at_call 14; (with_reducible refine (HO1.out _).mono ?_); rintro e w2 ⟨rfl, hl2⟩; (have HL2 := Lib.hid (HL1.out.trans hl2)); (have HR2 := Lib.hid ((HR1.out.below hl2).more hl2.size)); clear hl2)
        | (go_at_call 9; (with_reducible refine (HS1.out _).mono ?_); rintro e w3 ⟨v3, rfl, hl3, ho3⟩; (have hr3 := RdR.of_own ho3); (rw [HFL.out] at ho3); obtain ⟨A7, c7, hv7, _⟩ := own_any ho3; subst hv7; (have HL3 := Lib.hid (HL2.out.trans hl3)); (have HRV := Lib.hid hr3); (have HR3 := Lib.hid ((HR2.out.below hl3).more hl3.size)); clear hl3 ho3 hr3)
        | (go_at_call 14; (with_reducible refine (HO2.out _).mono ?_); rintro e w4 ⟨rfl, hl4⟩; (have HL4 := Lib.hid (HL3.out.trans hl4)); (have HLL4 := Lib.hid hl4); (have HR4 := Lib.hid ((HR3.out.below hl4).more hl4.size)); clear hl4)
        | (go_at_call 9; (with_reducible refine (HS2.out _).mono ?_); rintro e w5 ⟨v5, rfl, hl5, ho5⟩; (have hr5 := RdR.of_own ho5); (rw [HFL.out] at ho5); obtain ⟨A8, c8, hv8, _⟩ := own_any ho5; subst hv8; (have HL5 := Lib.hid (HL4.out.trans hl5)); (have HL35 := Lib.hid (HLL4.out.trans hl5)); (have HRV5 := Lib.hid hr5); (have HR5 := Lib.hid ((HR4.out.below hl5).more hl5.size)); clear hl5 ho5 hr5))
      go_loopw [15] (fun s15 wr => ∃ k : Nat, s15 = .int .i64 (k : Int) ∧ k ≤ n ∧ Later w5 wr) (fun k _ => n - (intOf k).toNat)
      case atStart => exact ⟨0, rfl, Nat.zero_le _, Later.refl _⟩
      case round =>
        obtain ⟨k, rfl, hk, hlw⟩ := hrel
        have HLW := Lib.hid hlw
        clear hlw
        have hk0 : (0 : Int) ≤ (k : Int) := by omega
        by_cases hkn : k < n
        · have hk1 : (k : Int) < (n : Int) := by omega
          obtain ⟨g, cg, e, hg, hcc⟩ := HRV.out.at_ (by rw [List.length_map, HFL.out]; omega)
          injection e with e e1 e2
          clear e1
          subst e e2
          obtain ⟨g4, cg4, e, hg4, hcc4⟩ := HRV5.out.at_ (by rw [List.length_map, HFL.out]; omega)
          injection e with e e1 e2
          clear e1
          subst e e2
          obtain ⟨ad, hl1, rfl, hadb, hc⟩ := HR5.out.at_map (k := k) hkn
          obtain ⟨x, hx⟩ : ∃ x, x = ts[k] := ⟨_, rfl⟩
          obtain ⟨p1, p2⟩ := hcc k (by rw [List.length_map, HFL.out]; exact hkn)
          obtain ⟨q1, q2⟩ := hcc4 k (by rw [List.length_map, HFL.out]; exact hkn)
          rw [List.getElem_map, List.getElem_map] at p1 p2 q1 q2
          have p1' : w3.cell? ⟨g, k * 2, none⟩ = some (.string (mkS x)) := by rw [p1, hx]; show some (Value.string (mkS (ft (of ts[k] 115)))) = _; rw [ft_of]
          have p2' : w3.cell? ⟨g, k * 2 + 1, none⟩ = some (.string (mkS (List.replicate x.length 115))) := by rw [p2, hx]; show some (Value.string (mkS (fm (of ts[k] 115)))) = _; rw [fm_of]
          have q1' : w5.cell? ⟨g4, k * 2, none⟩ = some (.string (mkS x)) := by rw [q1, hx]; show some (Value.string (mkS (ft (of ts[k] 115)))) = _; rw [ft_of]
          have q2' : w5.cell? ⟨g4, k * 2 + 1, none⟩ = some (.string (mkS (List.replicate x.length 115))) := by rw [q2, hx]; show some (Value.string (mkS (fm (of ts[k] 115)))) = _; rw [fm_of]
          have r1' : w5.cell? (ad.add k) = some (.string (mkS x)) := by rw [hx]; exact hc
          have p1 := (HL35.out.cell (p := ⟨g, k * 2, none⟩) hg).trans p1'
          have p2 := (HL35.out.cell (p := ⟨g, k * 2 + 1, none⟩) hg).trans p2'
          have hg5 := Nat.lt_of_lt_of_le hg HL35.out.size
          have mv : ∀ (p : Addr) (v : Value) (W : World), p.block < w5.heap.size → w5.cell? p = some v → Later wr W → W.cell? p = some v := fun p v W hp hv hl => ((HLW.out.trans hl).cell hp).trans hv
          have HQ1 := Lib.hid (show ∀ W, Later wr W → W.cell? ⟨g, k * 2, none⟩ = some (.string (mkS x)) ∧ W.cell? ⟨g, k * 2 + 1, none⟩ = some (.string (mkS (List.replicate x.length 115))) from fun W hl => ⟨mv _ _ W hg5 p1 hl, mv _ _ W hg5 p2 hl⟩)
          have HQ3 := Lib.hid (show ∀ W, Later wr W → W.cell? ⟨g4, k * 2, none⟩ = some (.string (mkS x)) ∧ W.cell? ⟨g4, k * 2 + 1, none⟩ = some (.string (mkS (List.replicate x.length 115))) from fun W hl => ⟨mv _ _ W hg4 q1' hl, mv _ _ W hg4 q2' hl⟩)
          have HQ2 := Lib.hid (show ∀ W, Later wr W → W.cell? (ad.add k) = some (.string (mkS x)) from fun W hl => mv _ _ W (by rw [block_add]; exact hadb) r1' hl)
          clear mv p1 p2 q1 q2 p1' p2' q1' q2' r1' hcc hcc4 hc hx hl1
          go_wp2
          refine wp_region_owes (by kernel_rfl) (fun W => Later wr W) (Later) (Later.refl) [Sp.val (.slice (some ⟨g, 0, none⟩) n c7), Sp.val (.int .i64 (k : Int)), Sp.val (.pointer (some ⟨g, k * 2, none⟩)), Sp.val (.pointer (some ⟨g, k * 2, none⟩)), Sp.val (.string (mkS x)), Sp.val (.slice (some ad) n c0), Sp.val (.int .i64 (k : Int)), Sp.val (.pointer (some (ad.add k))), Sp.val (.string (mkS x)), Sp.val (.bool false), Sp.val (.bool false), Sp.val (.slice (some ⟨g4, 0, none⟩) n c8), Sp.val (.int .i64 (k : Int)), Sp.val (.pointer (some ⟨g4, k * 2, none⟩)), Sp.val (.agg #[.string (mkS x), .string (mkS (List.replicate x.length 115))]), Sp.val (.slice (some ⟨g, 0, none⟩) n c7), Sp.val (.int .i64 (k : Int)), Sp.val (.pointer (some ⟨g, k * 2, none⟩)), Sp.val (.agg #[.string (mkS x), .string (mkS (List.replicate x.length 115))]), Sp.val (.bool false), Sp.val (.bool false)] (by kernel_rfl) (Later.drew wr) ?_ ?_
          · refine ⟨?_, ?_, ?_, ?_, ?_, ?_, ?_, ?_, ?_, ?_, ?_, ?_, ?_, ?_, ?_, ?_, ?_, ?_, ?_, ?_, ?_, trivial⟩
            · -- 0: slot 119 := Op.move t13
              refine fun a w hC hs => .inl ⟨?_, ?_⟩
              · rfl
              have e13 : a.tmps.getD 13 undef = .slice (some ⟨g, 0, none⟩) n c7 := hs.free 13 rfl
              exact ⟨e13, hC, Later.refl _⟩
            · -- 1: slot 120 := Op.move t15
              refine fun a w hC hs => .inl ⟨?_, ?_⟩
              · rfl
              have e15 : a.tmps.getD 15 undef = .int .i64 (k : Int) := hs.free 15 rfl
              exact ⟨e15, hC, Later.refl _⟩
            · -- 2: slot 121 := Op.indexAddr 25 t119 t120
              refine fun a w hC hs => .inl ⟨?_, ?_⟩
              · rfl
              have e119 : a.tmps.getD 119 undef = .slice (some ⟨g, 0, none⟩) n c7 := hs.dep 0 _ rfl rfl
              have e120 : a.tmps.getD 120 undef = .int .i64 (k : Int) := hs.dep 1 _ rfl rfl
              refine ValWp.pure (v := .pointer (some ⟨g, k * 2, none⟩)) (fun K' hK' => ?_) ⟨rfl, hC, Later.refl _⟩
              simp only [ValWp, execOp, Act.eval, e119, e120]
              go_simp
              all_goals exact hK'
            · -- 3: slot 122 := Op.fieldAddr 23 t121 0
              refine fun a w hC hs => .inl ⟨?_, ?_⟩
              · rfl
              have e121 : a.tmps.getD 121 undef = .pointer (some ⟨g, k * 2, none⟩) := hs.dep 2 _ rfl rfl
              refine ValWp.pure (v := .pointer (some ⟨g, k * 2, none⟩)) (fun K' hK' => ?_) ⟨rfl, hC, Later.refl _⟩
              simp only [ValWp, execOp, Act.eval, e121]
              go_simp
              all_goals exact hK'
            · -- 4: slot 123 := Op.load 9 t122
              refine fun a w hC hs => .inl ⟨?_, ?_⟩
              · rfl
              have e122 : a.tmps.getD 122 undef = .pointer (some ⟨g, k * 2, none⟩) := hs.dep 3 _ rfl rfl
              obtain ⟨q0, q1⟩ := HQ1.out w hC
              refine ValWp.pure (v := .string (mkS x)) (fun K' hK' => ?_) ⟨rfl, hC, Later.refl _⟩
              simp only [ValWp, execOp, Act.eval, e122]
              go_simp
              all_goals exact hK'
            · -- 5: slot 124 := Op.move t0
              refine fun a w hC hs => .inl ⟨?_, ?_⟩
              · rfl
              have e0 : a.tmps.getD 0 undef = .slice (some ad) n c0 := hs.free 0 rfl
              exact ⟨e0, hC, Later.refl _⟩
            · -- 6: slot 125 := Op.move t15
              refine fun a w hC hs => .inl ⟨?_, ?_⟩
              · rfl
              have e15 : a.tmps.getD 15 undef = .int .i64 (k : Int) := hs.free 15 rfl
              exact ⟨e15, hC, Later.refl _⟩
            · -- 7: slot 126 := Op.indexAddr 39 t124 t125
              refine fun a w hC hs => .inl ⟨?_, ?_⟩
              · rfl
              have e124 : a.tmps.getD 124 undef = .slice (some ad) n c0 := hs.dep 5 _ rfl rfl
              have e125 : a.tmps.getD 125 undef = .int .i64 (k : Int) := hs.dep 6 _ rfl rfl
              refine ValWp.pure (v := .pointer (some (ad.add k))) (fun K' hK' => ?_) ⟨rfl, hC, Later.refl _⟩
              simp only [ValWp, execOp, Act.eval, e124, e125]
              go_simp
              all_goals exact hK'
            · -- 8: slot 127 := Op.load 9 t126
              refine fun a w hC hs => .inl ⟨?_, ?_⟩
              · rfl
              have e126 : a.tmps.getD 126 undef = .pointer (some (ad.add k)) := hs.dep 7 _ rfl rfl
              have q0 := HQ2.out w hC
              refine ValWp.pure (v := .string (mkS x)) (fun K' hK' => ?_) ⟨rfl, hC, Later.refl _⟩
              simp only [ValWp, execOp, Act.eval, e126]
              go_simp
              all_goals exact hK'
            · -- 9: slot 128 := Op.binOp BinOp.neq 9 t123 t127 9
              refine fun a w hC hs => .inl ⟨?_, ?_⟩
              · rfl
              have e123 : a.tmps.getD 123 undef = .string (mkS x) := hs.dep 4 _ rfl rfl
              have e127 : a.tmps.getD 127 undef = .string (mkS x) := hs.dep 8 _ rfl rfl
              refine ValWp.pure (v := .bool false) (fun K' hK' => ?_) ⟨rfl, hC, Later.refl _⟩
              simp only [ValWp, execOp, Act.eval, e123, e127]
              go_simp
              all_goals exact hK'
            · -- 10: slot 129 := Op.move t128
              refine fun a w hC hs => .inl ⟨?_, ?_⟩
              · rfl
              have e128 : a.tmps.getD 128 undef = .bool false := hs.dep 9 _ rfl rfl
              exact ⟨e128, hC, Later.refl _⟩
            · -- 11: slot 130 := Op.move t14 guarded (10, 'false')
              refine fun a w hC hs => .inl ⟨?_, ?_⟩
              · exact (by unfold Region.wanted; dsimp only; rw [yielded_bool (d := 129) rfl (hs.dep 10 _ rfl rfl)]; rfl)
              have e14 : a.tmps.getD 14 undef = .slice (some ⟨g4, 0, none⟩) n c8 := hs.free 14 rfl
              exact ⟨e14, hC, Later.refl _⟩
            · -- 12: slot 131 := Op.move t15 guarded (10, 'false')
              refine fun a w hC hs => .inl ⟨?_, ?_⟩
              · exact (by unfold Region.wanted; dsimp only; rw [yielded_bool (d := 129) rfl (hs.dep 10 _ rfl rfl)]; rfl)
              have e15 : a.tmps.getD 15 undef = .int .i64 (k : Int) := hs.free 15 rfl
              exact ⟨e15, hC, Later.refl _⟩
            · -- 13: slot 132 := Op.indexAddr 25 t130 t131 guarded (10, 'false')
              refine fun a w hC hs => .inl ⟨?_, ?_⟩
              · exact (by unfold Region.wanted; dsimp only; rw [yielded_bool (d := 129) rfl (hs.dep 10 _ rfl rfl)]; rfl)
              have e130 : a.tmps.getD 130 undef = .slice (some ⟨g4, 0, none⟩) n c8 := hs.dep 11 _ rfl rfl
              have e131 : a.tmps.getD 131 undef = .int .i64 (k : Int) := hs.dep 12 _ rfl rfl
              refine ValWp.pure (v := .pointer (some ⟨g4, k * 2, none⟩)) (fun K' hK' => ?_) ⟨rfl, hC, Later.refl _⟩
              simp only [ValWp, execOp, Act.eval, e130, e131]
              go_simp
              all_goals exact hK'
            · -- 14: slot 133 := Op.load 23 t132 guarded (10, 'false')
              refine fun a w hC hs => .inl ⟨?_, ?_⟩
              · exact (by unfold Region.wanted; dsimp only; rw [yielded_bool (d := 129) rfl (hs.dep 10 _ rfl rfl)]; rfl)
              have e132 : a.tmps.getD 132 undef = .pointer (some ⟨g4, k * 2, none⟩) := hs.dep 13 _ rfl rfl
              obtain ⟨q0, q1⟩ := HQ3.out w hC
              exact ValWp.loadR rfl e132 (row_load q0 q1) ⟨rfl, hC, Later.refl _⟩
            · -- 15: slot 134 := Op.move t13 guarded (10, 'false')
              refine fun a w hC hs => .inl ⟨?_, ?_⟩
              · exact (by unfold Region.wanted; dsimp only; rw [yielded_bool (d := 129) rfl (hs.dep 10 _ rfl rfl)]; rfl)
              have e13 : a.tmps.getD 13 undef = .slice (some ⟨g, 0, none⟩) n c7 := hs.free 13 rfl
              exact ⟨e13, hC, Later.refl _⟩
            · -- 16: slot 135 := Op.move t15 guarded (10, 'false')
              refine fun a w hC hs => .inl ⟨?_, ?_⟩
              · exact (by unfold Region.wanted; dsimp only; rw [yielded_bool (d := 129) rfl (hs.dep 10 _ rfl rfl)]; rfl)
              have e15 : a.tmps.getD 15 undef = .int .i64 (k : Int) := hs.free 15 rfl
              exact ⟨e15, hC, Later.refl _⟩
            · -- 17: slot 136 := Op.indexAddr 25 t134 t135 guarded (10, 'false')
              refine fun a w hC hs => .inl ⟨?_, ?_⟩
              · exact (by unfold Region.wanted; dsimp only; rw [yielded_bool (d := 129) rfl (hs.dep 10 _ rfl rfl)]; rfl)
              have e134 : a.tmps.getD 134 undef = .slice (some ⟨g, 0, none⟩) n c7 := hs.dep 15 _ rfl rfl
              have e135 : a.tmps.getD 135 undef = .int .i64 (k : Int) := hs.dep 16 _ rfl rfl
              refine ValWp.pure (v := .pointer (some ⟨g, k * 2, none⟩)) (fun K' hK' => ?_) ⟨rfl, hC, Later.refl _⟩
              simp only [ValWp, execOp, Act.eval, e134, e135]
              go_simp
              all_goals exact hK'
            · -- 18: slot 137 := Op.load 23 t136 guarded (10, 'false')
              refine fun a w hC hs => .inl ⟨?_, ?_⟩
              · exact (by unfold Region.wanted; dsimp only; rw [yielded_bool (d := 129) rfl (hs.dep 10 _ rfl rfl)]; rfl)
              have e136 : a.tmps.getD 136 undef = .pointer (some ⟨g, k * 2, none⟩) := hs.dep 17 _ rfl rfl
              obtain ⟨q0, q1⟩ := HQ1.out w hC
              exact ValWp.loadR rfl e136 (row_load q0 q1) ⟨rfl, hC, Later.refl _⟩
            · -- 19: slot 138 := Op.binOp BinOp.neq 23 t133 t137 23 guarded (10, 'false')
              refine fun a w hC hs => .inl ⟨?_, ?_⟩
              · exact (by unfold Region.wanted; dsimp only; rw [yielded_bool (d := 129) rfl (hs.dep 10 _ rfl rfl)]; rfl)
              have e133 : a.tmps.getD 133 undef = .agg #[.string (mkS x), .string (mkS (List.replicate x.length 115))] := hs.dep 14 _ rfl rfl
              have e137 : a.tmps.getD 137 undef = .agg #[.string (mkS x), .string (mkS (List.replicate x.length 115))] := hs.dep 18 _ rfl rfl
              refine ValWp.pure (v := .bool false) (fun K' hK' => ?_) ⟨rfl, hC, Later.refl _⟩
              simp only [ValWp, execOp, Act.eval, e133, e137]
              go_simp
              all_goals exact hK'
            · -- 20: slot 139 := Op.pick t129 (const (Value.bool true)) t138
              refine fun a w hC hs => .inl ⟨?_, ?_⟩
              · rfl
              have e129 : a.tmps.getD 129 undef = .bool false := hs.dep 10 _ rfl rfl
              have e138 : a.tmps.getD 138 undef = .bool false := hs.dep 19 _ rfl rfl
              refine ValWp.pure (v := .bool false) (fun K' hK' => ?_) ⟨rfl, hC, Later.refl _⟩
              simp only [ValWp, execOp, Act.eval, e129, e138]
              go_simp
              all_goals exact hK'
          · intro a W hC hd hsz hfree hs
            obtain ⟨u119, hu119⟩ : ∃ u, u = a.tmps.getD 119 undef := ⟨_, rfl⟩
            obtain ⟨u120, hu120⟩ : ∃ u, u = a.tmps.getD 120 undef := ⟨_, rfl⟩
            obtain ⟨u121, hu121⟩ : ∃ u, u = a.tmps.getD 121 undef := ⟨_, rfl⟩
            obtain ⟨u122, hu122⟩ : ∃ u, u = a.tmps.getD 122 undef := ⟨_, rfl⟩
            obtain ⟨u123, hu123⟩ : ∃ u, u = a.tmps.getD 123 undef := ⟨_, rfl⟩
            obtain ⟨u124, hu124⟩ : ∃ u, u = a.tmps.getD 124 undef := ⟨_, rfl⟩
            obtain ⟨u125, hu125⟩ : ∃ u, u = a.tmps.getD 125 undef := ⟨_, rfl⟩
            obtain ⟨u126, hu126⟩ : ∃ u, u = a.tmps.getD 126 undef := ⟨_, rfl⟩
            obtain ⟨u127, hu127⟩ : ∃ u, u = a.tmps.getD 127 undef := ⟨_, rfl⟩
            obtain ⟨u128, hu128⟩ : ∃ u, u = a.tmps.getD 128 undef := ⟨_, rfl⟩
            obtain ⟨u129, hu129⟩ : ∃ u, u = a.tmps.getD 129 undef := ⟨_, rfl⟩
            obtain ⟨u130, hu130⟩ : ∃ u, u = a.tmps.getD 130 undef := ⟨_, rfl⟩
            obtain ⟨u131, hu131⟩ : ∃ u, u = a.tmps.getD 131 undef := ⟨_, rfl⟩
            obtain ⟨u132, hu132⟩ : ∃ u, u = a.tmps.getD 132 undef := ⟨_, rfl⟩
            obtain ⟨u133, hu133⟩ : ∃ u, u = a.tmps.getD 133 undef := ⟨_, rfl⟩
            obtain ⟨u134, hu134⟩ : ∃ u, u = a.tmps.getD 134 undef := ⟨_, rfl⟩
            obtain ⟨u135, hu135⟩ : ∃ u, u = a.tmps.getD 135 undef := ⟨_, rfl⟩
            obtain ⟨u136, hu136⟩ : ∃ u, u = a.tmps.getD 136 undef := ⟨_, rfl⟩
            obtain ⟨u137, hu137⟩ : ∃ u, u = a.tmps.getD 137 undef := ⟨_, rfl⟩
            obtain ⟨u138, hu138⟩ : ∃ u, u = a.tmps.getD 138 undef := ⟨_, rfl⟩
            have hal : AllAt a 0 [_, _, _, _, _, _, _, _, _, _, _, _, _, _, _, _, _, _, _, _, _, _, _, _, _, _, _, _, _, _, _, _, _, _, _, _, _, _, _, _, _, _, _, _, _, _, _, _, _, _, _, _, _, _, _, _, _, _, _, _, _, _, _, _, _, _, _, _, _, _, _, _, _, _, _, _, _, _, _, _, _, _, _, _, _, _, _, _, _, _, _, _, _, _, _, _, _, _, _, _, _, _, _, _, _, _, _, _, _, _, _, _, _, _, _, _, _, _, _, u119, u120, u121, u122, u123, u124, u125, u126, u127, u128, u129, u130, u131, u132, u133, u134, u135, u136, u137, u138, .bool false] := ⟨hfree 0 rfl, hfree 1 rfl, hfree 2 rfl, hfree 3 rfl, hfree 4 rfl, hfree 5 rfl, hfree 6 rfl, hfree 7 rfl, hfree 8 rfl, hfree 9 rfl, hfree 10 rfl, hfree 11 rfl, hfree 12 rfl, hfree 13 rfl, hfree 14 rfl, hfree 15 rfl, hfree 16 rfl, hfree 17 rfl, hfree 18 rfl, hfree 19 rfl, hfree 20 rfl, hfree 21 rfl, hfree 22 rfl, hfree 23 rfl, hfree 24 rfl, hfree 25 rfl, hfree 26 rfl, hfree 27 rfl, hfree 28 rfl, hfree 29 rfl, hfree 30 rfl, hfree 31 rfl, hfree 32 rfl, hfree 33 rfl, hfree 34 rfl, hfree 35 rfl, hfree 36 rfl, hfree 37 rfl, hfree 38 rfl, hfree 39 rfl, hfree 40 rfl, hfree 41 rfl, hfree 42 rfl, hfree 43 rfl, hfree 44 rfl, hfree 45 rfl, hfree 46 rfl, hfree 47 rfl, hfree 48 rfl, hfree 49 rfl, hfree 50 rfl, hfree 51 rfl, hfree 52 rfl, hfree 53 rfl, hfree 54 rfl, hfree 55 rfl, hfree 56 rfl, hfree 57 rfl, hfree 58 rfl, hfree 59 rfl, hfree 60 rfl, hfree 61 rfl, hfree 62 rfl, hfree 63 rfl, hfree 64 rfl, hfree 65 rfl, hfree 66 rfl, hfree 67 rfl, hfree 68 rfl, hfree 69 rfl, hfree 70 rfl, hfree 71 rfl, hfree 72 rfl, hfree 73 rfl, hfree 74 rfl, hfree 75 rfl, hfree 76 rfl, hfree 77 rfl, hfree 78 rfl, hfree 79 rfl, hfree 80 rfl, hfree 81 rfl, hfree 82 rfl, hfree 83 rfl, hfree 84 rfl, hfree 85 rfl, hfree 86 rfl, hfree 87 rfl, hfree 88 rfl, hfree 89 rfl, hfree 90 rfl, hfree 91 rfl, hfree 92 rfl, hfree 93 rfl, hfree 94 rfl, hfree 95 rfl, hfree 96 rfl, hfree 97 rfl, hfree 98 rfl, hfree 99 rfl, hfree 100 rfl, hfree 101 rfl, hfree 102 rfl, hfree 103 rfl, hfree 104 rfl, hfree 105 rfl, hfree 106 rfl, hfree 107 rfl, hfree 108 rfl, hfree 109 rfl, hfree 110 rfl, hfree 111 rfl, hfree 112 rfl, hfree 113 rfl, hfree 114 rfl, hfree 115 rfl, hfree 116 rfl, hfree 117 rfl, hfree 118 rfl, hu119.symm, hu120.symm, hu121.symm, hu122.symm, hu123.symm, hu124.symm, hu125.symm, hu126.symm, hu127.symm, hu128.symm, hu129.symm, hu130.symm, hu131.symm, hu132.symm, hu133.symm, hu134.symm, hu135.symm, hu136.symm, hu137.symm, hu138.symm, hs 20 _ rfl, trivial⟩
            have hlit := fun h => act_lit hd h hal
            rw [hlit hsz]
            simp only [Array.getD_eq_getD_getElem?, List.getElem?_toArray, List.getElem?_cons_zero, List.getElem?_cons_succ, Option.getD_some]
            clear hlit hal hd hsz hfree hs hu119 hu120 hu121 hu122 hu123 hu124 hu125 hu126 hu127 hu128 hu129 hu130 hu131 hu132 hu133 hu134 hu135 hu136 hu137 hu138
            have HLW2 := Lib.hid (HLW.out.trans hC)
            clear hC
            go_wp2
            go_roundw
            case rel => exact ⟨k + 1, by go_num, by omega, HLW2.out⟩
            case measure => simp [intOf]; omega
        · have HLA := Lib.hid (HL5.out.trans HLW.out)
          go_wp2
          go_ret
          exact ⟨rfl, HLA.out⟩
theorem walk (w : World) (A : Option Addr) (n c : Nat) (l : List ByteArray) (h : Rd w w.heap.size A n (l.map Value.string) ∧ (∀ s ∈ l, s.size ≤ maxLen) ∧ n ≤ c ∧ c ≤ maxLen) (q : Int) (hq : (Lit.int .u8 q).wf = true) :
    Calls Try.prog 6 #[.slice A n c, .int .u8 q] w fun e w' => e = .returned (.bool true) ∧ Below w.heap.size w w' := by
  obtain ⟨h1, h2, _, _⟩ := h
  obtain ⟨c0, c1⟩ := bounds_u8 hq
  rw [strs_L] at h1
  have := walk_m w A n c _ (UInt8.ofNat q.toNat) h1 fun x hx => by
    obtain ⟨s, hs, rfl⟩ := List.mem_map.1 hx
    exact h2 s hs
  rw [show ((UInt8.ofNat q.toNat).toNat : Int) = q by simp; omega] at this
  exact this
end splitBlanks
end Go.Proofs.Ytghdimcdkjlpcaa
