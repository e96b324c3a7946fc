/- The walk of TapeCuts: whatever the script, the answers and the cut are, the call returns true. -/
import Derived.Test.YtemokpnepnmmkaaMx
import Derived.Test.YtemokpnepnmmkaaMo
namespace Go.Proofs.Ytemokpnepnmmkaa
namespace tapeCuts
open Go.RowKit
abbrev Args (w : World) (sc : List UInt8) (A1 : Option Addr) (n1 c1 : Nat) (xs : List Ans) : Prop :=
  RdA w w.heap.size A1 n1 xs ∧ (∀ x ∈ xs, okA x) ∧ n1 ≤ maxLen ∧ n1 ≤ c1 ∧ sc.length ≤ 9223372036854775807
theorem fits_few {n : Nat} {xs : List Ans} (h : fewA n xs = true) (ho : ∀ x ∈ xs, okA x) : (∀ x ∈ xs, fitA x ∧ ∀ r ∈ x.l, r.length ≤ 100000000) ∧ n ≤ 40 ∧ ((∀ x ∈ xs, (tellX x).length ≤ 3000)) := by
  obtain ⟨h1, h2⟩ := fewA_yes h
  refine ⟨fun x hx => ?_, h1, fun x hx => (short_tell x (h2 x hx) (ho x hx)).2⟩
  have h3 := short_tell x (h2 x hx) (ho x hx)
  obtain ⟨a, b, c⟩ := h2 x hx
  exact ⟨⟨ho x hx, by omega, by omega, by omega⟩, fun r hr => by have := c r hr; omega⟩
set_option maxRecDepth 100000 in
theorem walkX (w : World) (sc : List UInt8) (A1 : Option Addr) (n1 c1 : Nat) (xs : List Ans) (cut : Int) (h : Args w sc A1 n1 c1 xs) (hx : fewA n1 xs = false ∨ (fewA n1 xs = true ∧ 4096 < sc.length)) :
    Calls Try.prog 5 #[.string (mkS sc), .slice A1 n1 c1, .int .u16 cut] w fun e w' => e = .returned (.bool true) ∧ Below w.heap.size w w' := by
  have H := Lib.hid h
  have hz := mkS_size sc
  obtain ⟨k, hk⟩ : ∃ k, sc.length = k := ⟨_, rfl⟩
  rw [hk] at hz hx
  clear h hk
  rcases hx with hx | ⟨hx, h2⟩
  all_goals
    go_enter Try.func5, Try.ntmps5
    go_wp2_with (first
      | (go_at_call 8; (with_reducible refine (tapeAwake_v _).mono ?_); rintro e w1 ⟨rfl, hb1⟩; have HB1 := Lib.hid hb1; clear hb1)
      | (go_at_call 9; (with_reducible refine (fewA_v _ _ _ xs w1 (H.out.1.later HB1.out) H.out.2.2.1).mono ?_); rintro e w2 ⟨rfl, rfl⟩; rw [hx]))
    go_ret
    exact ⟨rfl, HB1.out⟩
attribute [local go_sem ↓] Go.wp_at_zero Go.wp_at_succ
set_option maxRecDepth 100000 in
set_option maxHeartbeats 2000000 in
theorem walkM (w : World) (sc : List UInt8) (A1 : Option Addr) (n1 c1 : Nat) (xs : List Ans) (ct : Nat) (h : Args w sc A1 n1 c1 xs) (hx : fewA n1 xs = true) (h4 : sc.length ≤ 4096) (hct : ct < 65536) :
    Calls Try.prog 5 #[.string (mkS sc), .slice A1 n1 c1, .int .u16 (ct : Int)] w fun e w' => e = .returned (.bool true) ∧ Below w.heap.size w w' := by
  obtain ⟨k1, k2, k3⟩ := fits_few hx h.2.1
  have hz := mkS_size sc
  obtain ⟨L, hL⟩ : ∃ L, L = frameL (markL ++ sc) ++ bodyL xs := ⟨_, rfl⟩
  have hLl : L.length ≤ 140000 ∧ 0 < L.length := by
    have h1 := frameL_len (markL ++ sc)
    have h2 : (markL ++ sc).length = 14 + sc.length := by rw [List.length_append]; rfl
    have h3 := numL_ten (show (markL ++ sc).length < 18446744073709551616 by omega)
    have h5 := bodyL_small xs k3
    have h6 : xs.length ≤ 40 := by rw [h.1.1]; exact k2
    rw [hL, List.length_append]; omega
  have cn := fun W => wnew_v sc W h4
  have ca := fun B g v W hw hB hr => wadd_v B g v (frameL (markL ++ sc)) A1 n1 c1 xs W hw hB hr h.2.2.1 (fun x hx => (k1 x hx).1) (by have := hLl.1; rw [hL, List.length_append] at this; omega)
  rw [← hL] at ca
  by_cases hall : xs.all okB = true
  case neg =>
    have hallf : xs.all okB = false := by simpa using hall
    rw [hallf] at ca
    have PK := Lib.hid (And.intro cn ca)
    have H := Lib.hid h
    obtain ⟨sz, hsz⟩ : ∃ z, sc.length = z := ⟨_, rfl⟩
    rw [hsz] at hz h4
    have h4i : ¬ 4096 < sz := by omega
    clear cn ca h k1 k2 k3 hLl hL hsz h4 hall hallf
    go_enter Try.func5, Try.ntmps5
    go_wp2_with (first
      | (go_at_call 8; (with_reducible refine (tapeAwake_v _).mono ?_); rintro e w1 ⟨rfl, hb1⟩; have HB1 := Lib.hid hb1; clear hb1)
      | (go_at_call 9; (with_reducible refine (fewA_v _ _ _ xs w1 (H.out.1.later HB1.out) H.out.2.2.1).mono ?_); rintro e w2 ⟨rfl, rfl⟩; rw [hx])
      | (go_at_call 10; (with_reducible refine (PK.out.1 _).mono ?_); rintro e w3 ⟨g, v, rfl, hw3, hl3⟩; have W3 := Lib.hid hw3; have L3 := Lib.hid (Below.trans HB1.out (Below.mono hl3 HB1.out.size)); have HA := Lib.hid (((H.out.1.later HB1.out).below hl3).apart (S := wS g v) hl3.size hw3.high); have HS3 := Lib.hid hl3.size; clear hw3 hl3)
      | (go_at_call 11; (with_reducible refine (PK.out.2 _ _ _ _ W3.out HS3.out HA.out).mono ?_); rintro e w4 ⟨v4, rfl, hw4, ho4, hm4⟩; have L4 := Lib.hid (Below.trans L3.out (ho4.below L3.out.size fun i hi => Nat.le_trans HB1.out.size (W3.out.high i hi))); clear hw4 ho4 hm4))
    go_ret
    exact ⟨rfl, L4.out⟩
  rw [hall] at ca
  have htw : xs.takeWhile okB = xs := by
    have : ∀ l : List Ans, l.all okB = true → l.takeWhile okB = l := by
      intro l
      induction l with
      | nil => simp
      | cons x l ih =>
        intro h
        rw [List.all_cons, Bool.and_eq_true] at h
        rw [List.takeWhile_cons, if_pos h.1, ih h.2]
    exact this xs hall
  have hgood : ∀ x ∈ xs, goodA x := fun x hx => ⟨List.all_eq_true.1 hall x hx, k1 x hx⟩
  have hLt : L = tapeL sc xs := by rw [hL, tapeL_body, htw]
  have cb := fun B g v W hw => wbytes_k (B := B) (g := g) (v := v) (L := L) W hw hLl.2 (by omega)
  have hLc : L.length ≤ 140000 := hLl.1
  obtain ⟨m, hm⟩ : ∃ m, L.length = m := ⟨_, rfl⟩
  obtain ⟨k, hk⟩ : ∃ k : Nat, (ct : Int) % ((m : Int) + 1) = (k : Int) := ⟨((ct : Int) % ((m : Int) + 1)).toNat, by have := Int.emod_nonneg (ct : Int) (show (m : Int) + 1 ≠ 0 by omega); omega⟩
  have hkm : k ≤ m := by have := Int.emod_lt_of_pos (ct : Int) (show (0 : Int) < (m : Int) + 1 by omega); omega
  rw [hm] at hLc cb
  have hctw : IntKind.i64.wrap (ct : Int) = (ct : Int) := by rw [IntKind.wrap_i64]; omega
  have hmw := wrap64_v (x := (m : Int) + 1) (by omega) (by omega)
  have hcut := tape_cut sc xs k h4 hgood (by rw [← hLt, hm]; exact hkm)
  rw [← hLt] at hcut
  have ch := fun W => refHead_v sc W (by omega)
  obtain ⟨hd, hhd⟩ : ∃ hd, hd = (frameL (markL ++ sc)).length := ⟨_, rfl⟩
  obtain ⟨TH, hTH⟩ : ∃ T, T = mkS (frameL (markL ++ sc)) := ⟨_, rfl⟩
  have zTH : TH.size = hd := by rw [hTH, mkS_size, hhd]
  rw [← hTH] at ch
  rw [← hhd] at hcut
  have hkl : (L.take k).length = k := by rw [List.length_take]; omega
  have H := Lib.hid h
  obtain ⟨sz, hsz⟩ : ∃ z, sc.length = z := ⟨_, rfl⟩
  rw [hsz] at hz h4
  have h4i : ¬ 4096 < sz := by omega
  by_cases hkh : k < hd
  · rw [if_pos hkh] at hcut
    have cr := fun A c W hr hc hcm => readT_k hcut A k c W hr (by omega) hc hcm
    have PK := Lib.hid (And.intro cn (And.intro ca (And.intro cb (And.intro cr ch))))
    clear cn ca cb cr ch h k1 k2 k3 hLl hL hsz h4 hall htw hgood hLt hcut hhd hTH hkl
    have HM := Lib.hid hm
    clear hm
    go_enter Try.func5, Try.ntmps5
    go_wp2_with (first
      | (go_at_call 8; (with_reducible refine (tapeAwake_v _).mono ?_); rintro e w1 ⟨rfl, hb1⟩; have HB1 := Lib.hid hb1; clear hb1)
      | (go_at_call 9; (with_reducible refine (fewA_v _ _ _ xs w1 (H.out.1.later HB1.out) H.out.2.2.1).mono ?_); rintro e w2 ⟨rfl, rfl⟩; rw [hx])
      | (go_at_call 10; (with_reducible refine (PK.out.1 _).mono ?_); rintro e w3 ⟨g, v, rfl, hw3, hl3⟩; have W3 := Lib.hid hw3; have L3 := Lib.hid (Below.trans HB1.out (Below.mono hl3 HB1.out.size)); have HA := Lib.hid (((H.out.1.later HB1.out).below hl3).apart (S := wS g v) hl3.size hw3.high); have HS3 := Lib.hid hl3.size; clear hw3 hl3)
      | (go_at_call 11; (with_reducible refine (PK.out.2.1 _ _ _ _ W3.out HS3.out HA.out).mono ?_); rintro e w4 ⟨v4, rfl, hw4, ho4, hm4⟩; have W4 := Lib.hid hw4; have L4 := Lib.hid (Below.trans L3.out (ho4.below L3.out.size fun i hi => Nat.le_trans HB1.out.size (W3.out.high i hi))); clear hw4 ho4 hm4)
      | (go_at_call 12; (with_reducible refine (PK.out.2.2.1 _ _ _ _ W4.out).mono ?_); rintro e w5 ⟨A5, c5, rfl, hm5, hl5, hr5, hc5, hx5⟩; have L5 := Lib.hid (Below.trans L4.out (Below.mono hl5 L4.out.size)); have hki0 : (0 : Int) ≤ (k : Int) := (by omega); have hki1 : (k : Int) ≤ (c5 : Int) := (by omega); have hr5k := hr5.take_ hkm; rw [← List.map_take] at hr5k; have R5k := Lib.hid (And.intro hr5k (And.intro (Nat.le_trans hkm hc5) hx5)); clear hm5 hl5 hr5 hc5 hx5 hr5k)
      | (go_at_call 18; (with_reducible refine (PK.out.2.2.2.1 _ _ _ R5k.out.1 R5k.out.2.1 R5k.out.2.2).mono ?_); rintro e w9 ⟨A9, c9, rfl, hl9, hr9, hc9⟩; have HX9 := Lib.hid (tape_cells w9 (.string ⟨#[]⟩) (.slice A9 0 c9)); have L9 := Lib.hid (Below.trans L5.out (Below.mono (Later.trans hl9 (Later.alloc w9 (.cells #[.string ⟨#[]⟩, .slice A9 0 c9] 41))) L5.out.size)); clear hl9 hr9 hc9)
      | (go_at_call 13; (with_reducible refine (PK.out.2.2.2.2 _).mono ?_); rintro e w10 ⟨rfl, hl10⟩; obtain ⟨x0, x1⟩ := HX9.out _ hl10; have L10 := Lib.hid (Below.trans L9.out (Below.mono hl10 L9.out.size)); clear hl10))
    go_ret
    exact ⟨rfl, L10.out⟩
  · rw [if_neg hkh] at hcut
    have hwp := rows_pos sc xs k (by rw [← hhd]; exact hkh)
    have hwl := rows_le sc xs k
    obtain ⟨wh, hwh⟩ : ∃ wh, wholeF (rowsT sc xs) k = wh + 1 := ⟨wholeF (rowsT sc xs) k - 1, by omega⟩
    have hatr := fun j hj hjw => rows_at sc xs k j hj hjw
    have hz0 := rows_zero sc xs
    rw [← hhd] at hz0
    rw [hwh] at hcut hwl hatr
    rw [show wh + 1 - 1 = wh by omega] at hcut
    obtain ⟨en, hen⟩ : ∃ en, en = endF (rowsT sc xs) (wh + 1) := ⟨_, rfl⟩
    rw [← hen] at hcut
    obtain ⟨ee, hee⟩ : ∃ ee, ee = (if k = en then 0 else 10) := ⟨_, rfl⟩
    rw [← hee] at hcut
    have hwn : wh ≤ n1 := by have := h.1.1; omega
    have htl : (xs.take wh).length = wh := by rw [List.length_take]; have := h.1.1; omega
    have cr : ∀ A c W, Rd W W.heap.size A k ((L.take k).map bv) → k ≤ c → c ≤ maxLen → Calls Try.prog 18 #[.slice A k c] W fun r w' => ∃ A' c', r = .returned (.tuple #[.agg #[.string (mkS sc), .slice A' wh c'], .int .i64 (en : Int), .int .i64 (ee : Int)]) ∧ Later W w' ∧ RdA w' w'.heap.size A' wh (xs.take wh) ∧ wh ≤ c' := fun A c W hr hc hcm => by
      have h1 := readT_k hcut A k c W hr (by omega) hc hcm
      rwa [htl] at h1
    have PK := Lib.hid (And.intro cn (And.intro ca (And.intro cb (And.intro cr ch))))
    have hwc1 : (wh : Int) ≤ (c1 : Int) := by have := h.2.2.2.1; omega
    have HWC := Lib.hid hwc1
    have HATR := Lib.hid (And.intro hatr (And.intro hz0 (And.intro hen (And.intro hee (And.intro k1 (And.intro hm (fun j => show endF (rowsT sc xs) j ≤ 140000 from Nat.le_trans (endF_le (rowsT sc xs) j) (by rw [show (rowsT sc xs).flatMap frameL = L from hLt.symm, hm]; exact hLc)))))))) 
    have hkmx : k ≤ 140000 := by omega
    have hnm : n1 ≤ 9223372036854775807 := h.2.2.1
    clear cn ca cb cr ch h k1 k2 k3 hLl hL hsz h4 hall htw hgood hLt hcut hhd hTH hkl hatr hz0 hen hee hwh hwp htl hm hwc1
    go_enter Try.func5, Try.ntmps5
    go_wp2_with (first
      | (go_at_call 8; (with_reducible refine (tapeAwake_v _).mono ?_); rintro e w1 ⟨rfl, hb1⟩; have HB1 := Lib.hid hb1; clear hb1)
      | (go_at_call 9; (with_reducible refine (fewA_v _ _ _ xs w1 (H.out.1.later HB1.out) H.out.2.2.1).mono ?_); rintro e w2 ⟨rfl, rfl⟩; rw [hx])
      | (go_at_call 10; (with_reducible refine (PK.out.1 _).mono ?_); rintro e w3 ⟨g, v, rfl, hw3, hl3⟩; have W3 := Lib.hid hw3; have L3 := Lib.hid (Below.trans HB1.out (Below.mono hl3 HB1.out.size)); have HA := Lib.hid (((H.out.1.later HB1.out).below hl3).apart (S := wS g v) hl3.size hw3.high); have HS3 := Lib.hid hl3.size; clear hw3 hl3)
      | (go_at_call 11; (with_reducible refine (PK.out.2.1 _ _ _ _ W3.out HS3.out HA.out).mono ?_); rintro e w4 ⟨v4, rfl, hw4, ho4, hm4⟩; have W4 := Lib.hid hw4; have L4 := Lib.hid (Below.trans L3.out (ho4.below L3.out.size fun i hi => Nat.le_trans HB1.out.size (W3.out.high i hi))); clear hw4 ho4 hm4)
      | (go_at_call 12; (with_reducible refine (PK.out.2.2.1 _ _ _ _ W4.out).mono ?_); rintro e w5 ⟨A5, c5, rfl, hm5, hl5, hr5, hc5, hx5⟩; have L5 := Lib.hid (Below.trans L4.out (Below.mono hl5 L4.out.size)); have hki0 : (0 : Int) ≤ (k : Int) := (by omega); have hki1 : (k : Int) ≤ (c5 : Int) := (by omega); have hr5k := hr5.take_ hkm; rw [← List.map_take] at hr5k; have R5k := Lib.hid (And.intro hr5k (And.intro (Nat.le_trans hkm hc5) hx5)); clear hm5 hl5 hr5 hc5 hx5 hr5k)
      | (go_at_call 18; (with_reducible refine (PK.out.2.2.2.1 _ _ _ R5k.out.1 R5k.out.2.1 R5k.out.2.2).mono ?_); rintro e w9 ⟨A9, c9, rfl, hl9, hr9, hc9⟩; have R9 := Lib.hid (hr9.later (Later.alloc w9 (.cells #[.string (mkS sc), .slice A9 wh c9] 41))); have HX9 := Lib.hid (tape_cells w9 (.string (mkS sc)) (.slice A9 wh c9)); have L9 := Lib.hid (Below.trans L5.out (Below.mono (Later.trans hl9 (Later.alloc w9 (.cells #[.string (mkS sc), .slice A9 wh c9] 41))) L5.out.size)); clear hl9 hr9 hc9)
      | (go_at_call 13; (with_reducible refine (PK.out.2.2.2.2 _).mono ?_); rintro e w10 ⟨rfl, hl10⟩; obtain ⟨x0, x1⟩ := HX9.out _ hl10; have HL10 := Lib.hid hl10; have L10 := Lib.hid (Below.trans L9.out (Below.mono hl10 L9.out.size)); clear hl10))
    go_loopw [15, 16] (fun x y wr => ∃ j : Nat, j ≤ wh ∧ y = .int .i64 (j : Int) ∧ x = .int .i64 (endF (rowsT sc xs) (j + 1) : Int) ∧ Later w10 wr) (fun _ y _ => n1 - (intOf y).toNat)
    case atStart => exact ⟨0, by omega, rfl, by rw [HATR.out.2.1], Later.refl _⟩
    case round =>
      obtain ⟨j, hj, rfl, rfl, hlr⟩ := hrel
      obtain ⟨ej, hej⟩ : ∃ ej, ej = endF (rowsT sc xs) (j + 1) := ⟨_, rfl⟩
      rw [← hej]
      have HEJ := Lib.hid hej
      have HLR := Lib.hid hlr
      clear hej hlr
      by_cases hjn : j < n1
      · have hjx : j < xs.length := by rw [H.out.1.1]; exact hjn
        obtain ⟨ad, A', c', rfl, hx1⟩ := (H.out.1.later (Below.trans L10.out (Below.mono HLR.out L10.out.size))).2 j hjx
        have hat := HATR.out.1 j hjx (by omega)
        have hfx := (HATR.out.2.2.2.2.1 xs[j] (List.getElem_mem hjx)).1
        obtain ⟨x, hx0⟩ : ∃ x, x = xs[j]'hjx := ⟨_, rfl⟩
        rw [← hx0] at hx1 hat hfx
        obtain ⟨f, hf⟩ : ∃ f, f = tellX x := ⟨_, rfl⟩
        have cte : ∀ W, Later wr W → Calls Try.prog 16 #[.agg #[.int .i64 x.k, .int .i64 x.e, .int .i64 x.n, .int .i64 x.m, .string (mkS x.t), .slice A' x.l.length c', .int .i64 x.s]] W fun r W' => r = .returned (.string (mkS f)) ∧ Later W W' := fun W h => by
          rw [hf]
          exact refTell_v x.k x.e x.n x.m x.t A' x.l.length c' x.l x.s W (rd_later hx1.row h) (by have := hfx.2.1; omega) (by have := hfx.2.2.1; omega) hfx.1.1.1 hfx.1.1.2 hfx.1.2.1 hfx.1.2.2
        have co := fun W => refOne_v f W (by have := hfx.2.2.2; rw [hf]; omega)
        rw [← hf, ← HEJ.out] at hat
        obtain ⟨fl, hfl⟩ : ∃ fl, fl = (frameL f).length := ⟨_, rfl⟩
        have hflb : fl ≤ 65550 := by
          rw [hfl, frameL_len]
          have h5 := hfx.2.2.2
          rw [← hf] at h5
          have := numL_ten (show f.length < 18446744073709551616 by omega); omega
        obtain ⟨T, hT⟩ : ∃ T, T = mkS (frameL f) := ⟨_, rfl⟩
        have zT : T.size = fl := by rw [hT, mkS_size, hfl]
        rw [← hT] at co
        rw [← hfl] at hat
        have hejb : ej ≤ 140000 := by rw [HEJ.out]; exact HATR.out.2.2.2.2.2.2 (j + 1)
        obtain ⟨_, q0, q1, q2, q3, q4, q5, q6, _, _⟩ := hx1
        have CTE := Lib.hid cte
        have CO := Lib.hid co
        have HAT := Lib.hid hat
        have hj0 : (0 : Int) ≤ (j : Int) := by omega
        have hj1 : (j : Int) < (n1 : Int) := by omega
        have hs0 : (0 : Int) ≤ (ej : Int) + (fl : Int) := by omega
        have hs1 : (ej : Int) + (fl : Int) ≤ 4611686018427387904 := by omega
        have hww := wrap64_v hs0 hs1
        clear cte co hat hfx hx0 hf hfl hT hs0 hs1
        by_cases hbr : k < ej + fl
        · have hbi : (k : Int) < (ej : Int) + (fl : Int) := by omega
          have hwj : wh = j := by have := HAT.out.1 hbr; omega
          have hene : en = ej := by rw [HATR.out.2.2.1, HEJ.out, hwj]
          clear hbr hejb hflb
          go_wp2_with (first
          | (go_at_call 16; (with_reducible refine (CTE.out _ (Later.refl _)).mono ?_); rintro e w11 ⟨rfl, hl11⟩; have L11 := Lib.hid hl11; clear hl11)
          | (go_at_call 15; (with_reducible refine (CO.out _).mono ?_); rintro e w12 ⟨rfl, hl12⟩; have HLB := Lib.hid (Later.trans HLR.out (Later.trans L11.out hl12)); clear hl12))
          obtain rfl := hwj
          obtain rfl := hene
          clear q0 q1 q2 q3 q4 q5 q6 hj hjn hjx hj0 hj1 hbi hww
          have HXR := Lib.hid (fun w (h : Later w12 w) => HX9.out w (Later.trans HL10.out (Later.trans HLB.out h)))
          have CSM := Lib.hid (fun w (h : Later w12 w) => same_v A9 (some ad) wh c9 c1 (xs.take wh) w (R9.out.later (Later.trans HL10.out (Later.trans HLB.out h))) ((H.out.1.take hwn).later (Below.trans L10.out (Below.mono (Later.trans HLB.out h) L10.out.size))) (Nat.le_trans hwn H.out.2.2.1))
          have LB := Lib.hid (Below.trans L10.out (Below.mono HLB.out L10.out.size))
          have hee := HATR.out.2.2.2.1
          clear x0 x1
          by_cases hke : k = en
          · rw [if_pos hke] at hee
            have HCE := Lib.hid (show ((en : Int) == (k : Int)) = true by simp; omega)
            clear hke
            subst hee
            refine wp_region_owes (by kernel_rfl) (fun W => Later w12 W) (Later) (Later.refl) [Sp.val (.pointer (some ⟨w9.heap.size, 0, none⟩)), Sp.val (.string (mkS sc)), Sp.val (.string (mkS sc)), Sp.val (.bool true), Sp.val (.bool true), Sp.val (.pointer (some ⟨w9.heap.size, 1, none⟩)), Sp.val (.slice A9 wh c9), Sp.val (.slice (some ad) n1 c1), Sp.val (.int .i64 (wh : Int)), Sp.val (.slice (some ad) wh c1), Sp.val (.bool true), Sp.val (.bool true), Sp.val (.bool true), Sp.val (.int .i64 (en : Int)), Sp.val (.int .i64 (en : Int)), Sp.val (.bool true), Sp.val (.bool true), Sp.val (.bool true), Sp.val (.int .i64 0), Sp.val (.bool true), Sp.val (.int .i64 (en : Int)), Sp.val (.int .i64 (k : Int)), Sp.val (.bool true), Sp.val (.bool true), Sp.val (.bool true), Sp.val (.bool true), Sp.val (.int .i64 0), Sp.val (.bool true), Sp.val (.bool true), Sp.val (undef), Sp.val (undef), Sp.val (.bool true), Sp.val (.bool true), Sp.val (.bool true)] (by kernel_rfl) (Later.drew w12) ?_ ?_
            · refine ⟨?_, ?_, ?_, ?_, ?_, ?_, ?_, ?_, ?_, ?_, ?_, ?_, ?_, ?_, ?_, ?_, ?_, ?_, ?_, ?_, ?_, ?_, ?_, ?_, ?_, ?_, ?_, ?_, ?_, ?_, ?_, ?_, ?_, ?_, trivial⟩
              · -- 0: slot 98 := Op.fieldAddr 41 t12 0
                refine fun a w hC hs => .inl ⟨?_, ?_⟩
                · rfl
                have e12 : a.tmps.getD 12 undef = .pointer (some ⟨w9.heap.size, 0, none⟩) := hs.free 12 rfl
                refine ValWp.pure (v := .pointer (some ⟨w9.heap.size, 0, none⟩)) (fun K' hK' => ?_) ⟨rfl, hC, Later.refl _⟩
                simp only [ValWp, execOp, Act.eval, e12]
                go_simp
                all_goals exact hK'
              · -- 1: slot 99 := Op.load 9 t98
                refine fun a w hC hs => .inl ⟨?_, ?_⟩
                · rfl
                have e98 : a.tmps.getD 98 undef = .pointer (some ⟨w9.heap.size, 0, none⟩) := hs.dep 0 _ rfl rfl
                obtain ⟨x0, x1⟩ := HXR.out w hC
                refine ValWp.pure (v := .string (mkS sc)) (fun K' hK' => ?_) ⟨rfl, hC, Later.refl _⟩
                simp only [ValWp, execOp, Act.eval, e98]
                go_simp
                all_goals exact hK'
              · -- 2: slot 100 := Op.move t0
                refine fun a w hC hs => .inl ⟨?_, ?_⟩
                · rfl
                have e0 : a.tmps.getD 0 undef = .string (mkS sc) := hs.free 0 rfl
                exact ⟨e0, hC, Later.refl _⟩
              · -- 3: slot 101 := Op.binOp BinOp.eql 9 t99 t100 9
                refine fun a w hC hs => .inl ⟨?_, ?_⟩
                · rfl
                have e99 : a.tmps.getD 99 undef = .string (mkS sc) := hs.dep 1 _ rfl rfl
                have e100 : a.tmps.getD 100 undef = .string (mkS sc) := hs.dep 2 _ rfl rfl
                refine ValWp.pure (v := .bool true) (fun K' hK' => ?_) ⟨rfl, hC, Later.refl _⟩
                simp only [ValWp, execOp, Act.eval, e99, e100]
                go_simp
                all_goals exact hK'
              · -- 4: slot 102 := Op.move t101
                refine fun a w hC hs => .inl ⟨?_, ?_⟩
                · rfl
                have e101 : a.tmps.getD 101 undef = .bool true := hs.dep 3 _ rfl rfl
                exact ⟨e101, hC, Later.refl _⟩
              · -- 5: slot 103 := Op.fieldAddr 41 t12 1 guarded (4, 'true')
                refine fun a w hC hs => .inl ⟨?_, ?_⟩
                · exact (by unfold Region.wanted; dsimp only; rw [yielded_bool (d := 102) rfl (hs.dep 4 _ rfl rfl)]; rfl)
                have e12 : a.tmps.getD 12 undef = .pointer (some ⟨w9.heap.size, 0, none⟩) := hs.free 12 rfl
                refine ValWp.pure (v := .pointer (some ⟨w9.heap.size, 1, none⟩)) (fun K' hK' => ?_) ⟨rfl, hC, Later.refl _⟩
                simp only [ValWp, execOp, Act.eval, e12]
                go_simp
                all_goals exact hK'
              · -- 6: slot 104 := Op.load 22 t103 guarded (4, 'true')
                refine fun a w hC hs => .inl ⟨?_, ?_⟩
                · exact (by unfold Region.wanted; dsimp only; rw [yielded_bool (d := 102) rfl (hs.dep 4 _ rfl rfl)]; rfl)
                have e103 : a.tmps.getD 103 undef = .pointer (some ⟨w9.heap.size, 1, none⟩) := hs.dep 5 _ rfl rfl
                obtain ⟨x0, x1⟩ := HXR.out w hC
                refine ValWp.pure (v := .slice A9 wh c9) (fun K' hK' => ?_) ⟨rfl, hC, Later.refl _⟩
                simp only [ValWp, execOp, Act.eval, e103]
                go_simp
                all_goals exact hK'
              · -- 7: slot 105 := Op.move t1 guarded (4, 'true')
                refine fun a w hC hs => .inl ⟨?_, ?_⟩
                · exact (by unfold Region.wanted; dsimp only; rw [yielded_bool (d := 102) rfl (hs.dep 4 _ rfl rfl)]; rfl)
                have e1 : a.tmps.getD 1 undef = .slice (some ad) n1 c1 := hs.free 1 rfl
                exact ⟨e1, hC, Later.refl _⟩
              · -- 8: slot 106 := Op.move t16 guarded (4, 'true')
                refine fun a w hC hs => .inl ⟨?_, ?_⟩
                · exact (by unfold Region.wanted; dsimp only; rw [yielded_bool (d := 102) rfl (hs.dep 4 _ rfl rfl)]; rfl)
                have e16 : a.tmps.getD 16 undef = .int .i64 (wh : Int) := hs.free 16 rfl
                exact ⟨e16, hC, Later.refl _⟩
              · -- 9: slot 107 := Op.slice 22 t105 none (some t106) none guarded (4, 'true')
                refine fun a w hC hs => .inl ⟨?_, ?_⟩
                · exact (by unfold Region.wanted; dsimp only; rw [yielded_bool (d := 102) rfl (hs.dep 4 _ rfl rfl)]; rfl)
                have e105 : a.tmps.getD 105 undef = .slice (some ad) n1 c1 := hs.dep 7 _ rfl rfl
                have e106 : a.tmps.getD 106 undef = .int .i64 (wh : Int) := hs.dep 8 _ rfl rfl
                have hw0 : (0 : Int) ≤ (wh : Int) := by omega
                have hw1 := HWC.out
                refine ValWp.pure (v := .slice (some ad) wh c1) (fun K' hK' => ?_) ⟨rfl, hC, Later.refl _⟩
                simp only [ValWp, execOp, Act.eval, Option.map_some, Option.map_none, e105, e106]
                go_simp
                all_goals exact hK'
              · -- 10: slot 108 := Op.call { value (Operand.func 20), args := #[t104, t107], argTypes := #[22, 22] } guarded (4, 'true')
                refine fun a w hC hs => .inl ⟨?_, ?_⟩
                · exact (by unfold Region.wanted; dsimp only; rw [yielded_bool (d := 102) rfl (hs.dep 4 _ rfl rfl)]; rfl)
                have e104 : a.tmps.getD 104 undef = .slice A9 wh c9 := hs.dep 6 _ rfl rfl
                have e107 : a.tmps.getD 107 undef = .slice (some ad) wh c1 := hs.dep 9 _ rfl rfl
                refine ValWp.call #[.slice A9 wh c9, .slice (some ad) wh c1] rfl rfl Try.func20 rfl rfl (by simp only [List.map_toArray, List.map_cons, List.map_nil, Act.eval, e104, e107]) ?_
                refine (CSM.out w hC).mono ?_
                rintro r w' ⟨rfl, hb⟩
                exact ⟨_, rfl, rfl, Later.trans hC hb, hb⟩
              · -- 11: slot 109 := Op.pick t102 t108 (const (Value.bool false))
                refine fun a w hC hs => .inl ⟨?_, ?_⟩
                · rfl
                have e102 : a.tmps.getD 102 undef = .bool true := hs.dep 4 _ rfl rfl
                have e108 : a.tmps.getD 108 undef = .bool true := hs.dep 10 _ rfl rfl
                refine ValWp.pure (v := .bool true) (fun K' hK' => ?_) ⟨rfl, hC, Later.refl _⟩
                simp only [ValWp, execOp, Act.eval, e102, e108]
                go_simp
                all_goals exact hK'
              · -- 12: slot 110 := Op.move t109
                refine fun a w hC hs => .inl ⟨?_, ?_⟩
                · rfl
                have e109 : a.tmps.getD 109 undef = .bool true := hs.dep 11 _ rfl rfl
                exact ⟨e109, hC, Later.refl _⟩
              · -- 13: slot 111 := Op.move t13 guarded (12, 'true')
                refine fun a w hC hs => .inl ⟨?_, ?_⟩
                · exact (by unfold Region.wanted; dsimp only; rw [yielded_bool (d := 110) rfl (hs.dep 12 _ rfl rfl)]; rfl)
                have e13 : a.tmps.getD 13 undef = .int .i64 (en : Int) := hs.free 13 rfl
                exact ⟨e13, hC, Later.refl _⟩
              · -- 14: slot 112 := Op.move t15 guarded (12, 'true')
                refine fun a w hC hs => .inl ⟨?_, ?_⟩
                · exact (by unfold Region.wanted; dsimp only; rw [yielded_bool (d := 110) rfl (hs.dep 12 _ rfl rfl)]; rfl)
                have e15 : a.tmps.getD 15 undef = .int .i64 (en : Int) := hs.free 15 rfl
                exact ⟨e15, hC, Later.refl _⟩
              · -- 15: slot 113 := Op.binOp BinOp.eql 3 t111 t112 3 guarded (12, 'true')
                refine fun a w hC hs => .inl ⟨?_, ?_⟩
                · exact (by unfold Region.wanted; dsimp only; rw [yielded_bool (d := 110) rfl (hs.dep 12 _ rfl rfl)]; rfl)
                have e111 : a.tmps.getD 111 undef = .int .i64 (en : Int) := hs.dep 13 _ rfl rfl
                have e112 : a.tmps.getD 112 undef = .int .i64 (en : Int) := hs.dep 14 _ rfl rfl
                refine ValWp.pure (v := .bool true) (fun K' hK' => ?_) ⟨rfl, hC, Later.refl _⟩
                simp only [ValWp, execOp, Act.eval, e111, e112]
                go_simp
                all_goals exact hK'
              · -- 16: slot 114 := Op.pick t110 t113 (const (Value.bool false))
                refine fun a w hC hs => .inl ⟨?_, ?_⟩
                · rfl
                have e110 : a.tmps.getD 110 undef = .bool true := hs.dep 12 _ rfl rfl
                have e113 : a.tmps.getD 113 undef = .bool true := hs.dep 15 _ rfl rfl
                refine ValWp.pure (v := .bool true) (fun K' hK' => ?_) ⟨rfl, hC, Later.refl _⟩
                simp only [ValWp, execOp, Act.eval, e110, e113]
                go_simp
                all_goals exact hK'
              · -- 17: slot 115 := Op.move t114
                refine fun a w hC hs => .inl ⟨?_, ?_⟩
                · rfl
                have e114 : a.tmps.getD 114 undef = .bool true := hs.dep 16 _ rfl rfl
                exact ⟨e114, hC, Later.refl _⟩
              · -- 18: slot 116 := Op.move t14 guarded (17, 'true')
                refine fun a w hC hs => .inl ⟨?_, ?_⟩
                · exact (by unfold Region.wanted; dsimp only; rw [yielded_bool (d := 115) rfl (hs.dep 17 _ rfl rfl)]; rfl)
                have e14 : a.tmps.getD 14 undef = .int .i64 0 := hs.free 14 rfl
                exact ⟨e14, hC, Later.refl _⟩
              · -- 19: slot 117 := Op.binOp BinOp.eql 42 t116 (const (0:i64)) 42 guarded (17, 'true')
                refine fun a w hC hs => .inl ⟨?_, ?_⟩
                · exact (by unfold Region.wanted; dsimp only; rw [yielded_bool (d := 115) rfl (hs.dep 17 _ rfl rfl)]; rfl)
                have e116 : a.tmps.getD 116 undef = .int .i64 0 := hs.dep 18 _ rfl rfl
                refine ValWp.pure (v := .bool true) (fun K' hK' => ?_) ⟨rfl, hC, Later.refl _⟩
                simp only [ValWp, execOp, Act.eval, e116]
                go_simp
                all_goals exact hK'
              · -- 20: slot 118 := Op.move t15 guarded (17, 'true')
                refine fun a w hC hs => .inl ⟨?_, ?_⟩
                · exact (by unfold Region.wanted; dsimp only; rw [yielded_bool (d := 115) rfl (hs.dep 17 _ rfl rfl)]; rfl)
                have e15 : a.tmps.getD 15 undef = .int .i64 (en : Int) := hs.free 15 rfl
                exact ⟨e15, hC, Later.refl _⟩
              · -- 21: slot 119 := Op.move t11 guarded (17, 'true')
                refine fun a w hC hs => .inl ⟨?_, ?_⟩
                · exact (by unfold Region.wanted; dsimp only; rw [yielded_bool (d := 115) rfl (hs.dep 17 _ rfl rfl)]; rfl)
                have e11 : a.tmps.getD 11 undef = .int .i64 (k : Int) := hs.free 11 rfl
                exact ⟨e11, hC, Later.refl _⟩
              · -- 22: slot 120 := Op.binOp BinOp.eql 3 t118 t119 3 guarded (17, 'true')
                refine fun a w hC hs => .inl ⟨?_, ?_⟩
                · exact (by unfold Region.wanted; dsimp only; rw [yielded_bool (d := 115) rfl (hs.dep 17 _ rfl rfl)]; rfl)
                have e118 : a.tmps.getD 118 undef = .int .i64 (en : Int) := hs.dep 20 _ rfl rfl
                have e119 : a.tmps.getD 119 undef = .int .i64 (k : Int) := hs.dep 21 _ rfl rfl
                have hce := HCE.out
                refine ValWp.pure (v := .bool true) (fun K' hK' => ?_) ⟨rfl, hC, Later.refl _⟩
                simp only [ValWp, execOp, Act.eval, e118, e119]
                go_simp
                all_goals exact hK'
              · -- 23: slot 121 := Op.binOp BinOp.eql 4 t117 t120 4 guarded (17, 'true')
                refine fun a w hC hs => .inl ⟨?_, ?_⟩
                · exact (by unfold Region.wanted; dsimp only; rw [yielded_bool (d := 115) rfl (hs.dep 17 _ rfl rfl)]; rfl)
                have e117 : a.tmps.getD 117 undef = .bool true := hs.dep 19 _ rfl rfl
                have e120 : a.tmps.getD 120 undef = .bool true := hs.dep 22 _ rfl rfl
                refine ValWp.pure (v := .bool true) (fun K' hK' => ?_) ⟨rfl, hC, Later.refl _⟩
                simp only [ValWp, execOp, Act.eval, e117, e120]
                go_simp
                all_goals exact hK'
              · -- 24: slot 122 := Op.pick t115 t121 (const (Value.bool false))
                refine fun a w hC hs => .inl ⟨?_, ?_⟩
                · rfl
                have e115 : a.tmps.getD 115 undef = .bool true := hs.dep 17 _ rfl rfl
                have e121 : a.tmps.getD 121 undef = .bool true := hs.dep 23 _ rfl rfl
                refine ValWp.pure (v := .bool true) (fun K' hK' => ?_) ⟨rfl, hC, Later.refl _⟩
                simp only [ValWp, execOp, Act.eval, e115, e121]
                go_simp
                all_goals exact hK'
              · -- 25: slot 123 := Op.move t122
                refine fun a w hC hs => .inl ⟨?_, ?_⟩
                · rfl
                have e122 : a.tmps.getD 122 undef = .bool true := hs.dep 24 _ rfl rfl
                exact ⟨e122, hC, Later.refl _⟩
              · -- 26: slot 124 := Op.move t14 guarded (25, 'true')
                refine fun a w hC hs => .inl ⟨?_, ?_⟩
                · exact (by unfold Region.wanted; dsimp only; rw [yielded_bool (d := 123) rfl (hs.dep 25 _ rfl rfl)]; rfl)
                have e14 : a.tmps.getD 14 undef = .int .i64 0 := hs.free 14 rfl
                exact ⟨e14, hC, Later.refl _⟩
              · -- 27: slot 125 := Op.binOp BinOp.eql 42 t124 (const (0:i64)) 42 guarded (25, 'true')
                refine fun a w hC hs => .inl ⟨?_, ?_⟩
                · exact (by unfold Region.wanted; dsimp only; rw [yielded_bool (d := 123) rfl (hs.dep 25 _ rfl rfl)]; rfl)
                have e124 : a.tmps.getD 124 undef = .int .i64 0 := hs.dep 26 _ rfl rfl
                refine ValWp.pure (v := .bool true) (fun K' hK' => ?_) ⟨rfl, hC, Later.refl _⟩
                simp only [ValWp, execOp, Act.eval, e124]
                go_simp
                all_goals exact hK'
              · -- 28: slot 126 := Op.move t125 guarded (25, 'true')
                refine fun a w hC hs => .inl ⟨?_, ?_⟩
                · exact (by unfold Region.wanted; dsimp only; rw [yielded_bool (d := 123) rfl (hs.dep 25 _ rfl rfl)]; rfl)
                have e125 : a.tmps.getD 125 undef = .bool true := hs.dep 27 _ rfl rfl
                exact ⟨e125, hC, Later.refl _⟩
              · -- 29: slot 127 := Op.move t14 guarded (28, 'false')
                exact fun a w hC hs => .inr ⟨(by unfold Region.wanted; dsimp only; rw [yielded_bool (d := 126) rfl (hs.dep 28 _ rfl rfl)]; rfl), rfl⟩
              · -- 30: slot 128 := Op.binOp BinOp.eql 42 t127 (const (10:i64)) 42 guarded (28, 'false')
                exact fun a w hC hs => .inr ⟨(by unfold Region.wanted; dsimp only; rw [yielded_bool (d := 126) rfl (hs.dep 28 _ rfl rfl)]; rfl), rfl⟩
              · -- 31: slot 129 := Op.pick t126 (const (Value.bool true)) t128 guarded (25, 'true')
                refine fun a w hC hs => .inl ⟨?_, ?_⟩
                · exact (by unfold Region.wanted; dsimp only; rw [yielded_bool (d := 123) rfl (hs.dep 25 _ rfl rfl)]; rfl)
                have e126 : a.tmps.getD 126 undef = .bool true := hs.dep 28 _ rfl rfl
                have e128 : a.tmps.getD 128 undef = undef := hs.dep 30 _ rfl rfl
                refine ValWp.pure (v := .bool true) (fun K' hK' => ?_) ⟨rfl, hC, Later.refl _⟩
                simp only [ValWp, execOp, Act.eval, e126, e128]
                go_simp
                all_goals exact hK'
              · -- 32: slot 130 := Op.pick t123 t129 (const (Value.bool false))
                refine fun a w hC hs => .inl ⟨?_, ?_⟩
                · rfl
                have e123 : a.tmps.getD 123 undef = .bool true := hs.dep 25 _ rfl rfl
                have e129 : a.tmps.getD 129 undef = .bool true := hs.dep 31 _ rfl rfl
                refine ValWp.pure (v := .bool true) (fun K' hK' => ?_) ⟨rfl, hC, Later.refl _⟩
                simp only [ValWp, execOp, Act.eval, e123, e129]
                go_simp
                all_goals exact hK'
              · -- 33: slot 6 := Op.assign t130
                refine fun a w hC hs => .inl ⟨?_, ?_⟩
                · rfl
                have e130 : a.tmps.getD 130 undef = .bool true := hs.dep 32 _ rfl rfl
                exact ⟨e130, hC, Later.refl _⟩
            · intro a X hC hd hs hf hr
              have e6 : a.tmps.getD 6 undef = .bool true := hr 33 _ rfl
              have hd' : a.defers = [] := hd
              clear hd hs hf hr
              go_wp2
              refine bodyPost_ret (results_tmp rfl _ _ _) hd' ?_
              exact ⟨by rw [e6], Below.trans LB.out (Below.mono hC LB.out.size)⟩
          · rw [if_neg hke] at hee
            have HCE := Lib.hid (show ((en : Int) == (k : Int)) = false by simp; omega)
            clear hke
            subst hee
            refine wp_region_owes (by kernel_rfl) (fun W => Later w12 W) (Later) (Later.refl) [Sp.val (.pointer (some ⟨w9.heap.size, 0, none⟩)), Sp.val (.string (mkS sc)), Sp.val (.string (mkS sc)), Sp.val (.bool true), Sp.val (.bool true), Sp.val (.pointer (some ⟨w9.heap.size, 1, none⟩)), Sp.val (.slice A9 wh c9), Sp.val (.slice (some ad) n1 c1), Sp.val (.int .i64 (wh : Int)), Sp.val (.slice (some ad) wh c1), Sp.val (.bool true), Sp.val (.bool true), Sp.val (.bool true), Sp.val (.int .i64 (en : Int)), Sp.val (.int .i64 (en : Int)), Sp.val (.bool true), Sp.val (.bool true), Sp.val (.bool true), Sp.val (.int .i64 10), Sp.val (.bool false), Sp.val (.int .i64 (en : Int)), Sp.val (.int .i64 (k : Int)), Sp.val (.bool false), Sp.val (.bool true), Sp.val (.bool true), Sp.val (.bool true), Sp.val (.int .i64 10), Sp.val (.bool false), Sp.val (.bool false), Sp.val (.int .i64 10), Sp.val (.bool true), Sp.val (.bool true), Sp.val (.bool true), Sp.val (.bool true)] (by kernel_rfl) (Later.drew w12) ?_ ?_
            · refine ⟨?_, ?_, ?_, ?_, ?_, ?_, ?_, ?_, ?_, ?_, ?_, ?_, ?_, ?_, ?_, ?_, ?_, ?_, ?_, ?_, ?_, ?_, ?_, ?_, ?_, ?_, ?_, ?_, ?_, ?_, ?_, ?_, ?_, ?_, trivial⟩
              · -- 0: slot 98 := Op.fieldAddr 41 t12 0
                refine fun a w hC hs => .inl ⟨?_, ?_⟩
                · rfl
                have e12 : a.tmps.getD 12 undef = .pointer (some ⟨w9.heap.size, 0, none⟩) := hs.free 12 rfl
                refine ValWp.pure (v := .pointer (some ⟨w9.heap.size, 0, none⟩)) (fun K' hK' => ?_) ⟨rfl, hC, Later.refl _⟩
                simp only [ValWp, execOp, Act.eval, e12]
                go_simp
                all_goals exact hK'
              · -- 1: slot 99 := Op.load 9 t98
                refine fun a w hC hs => .inl ⟨?_, ?_⟩
                · rfl
                have e98 : a.tmps.getD 98 undef = .pointer (some ⟨w9.heap.size, 0, none⟩) := hs.dep 0 _ rfl rfl
                obtain ⟨x0, x1⟩ := HXR.out w hC
                refine ValWp.pure (v := .string (mkS sc)) (fun K' hK' => ?_) ⟨rfl, hC, Later.refl _⟩
                simp only [ValWp, execOp, Act.eval, e98]
                go_simp
                all_goals exact hK'
              · -- 2: slot 100 := Op.move t0
                refine fun a w hC hs => .inl ⟨?_, ?_⟩
                · rfl
                have e0 : a.tmps.getD 0 undef = .string (mkS sc) := hs.free 0 rfl
                exact ⟨e0, hC, Later.refl _⟩
              · -- 3: slot 101 := Op.binOp BinOp.eql 9 t99 t100 9
                refine fun a w hC hs => .inl ⟨?_, ?_⟩
                · rfl
                have e99 : a.tmps.getD 99 undef = .string (mkS sc) := hs.dep 1 _ rfl rfl
                have e100 : a.tmps.getD 100 undef = .string (mkS sc) := hs.dep 2 _ rfl rfl
                refine ValWp.pure (v := .bool true) (fun K' hK' => ?_) ⟨rfl, hC, Later.refl _⟩
                simp only [ValWp, execOp, Act.eval, e99, e100]
                go_simp
                all_goals exact hK'
              · -- 4: slot 102 := Op.move t101
                refine fun a w hC hs => .inl ⟨?_, ?_⟩
                · rfl
                have e101 : a.tmps.getD 101 undef = .bool true := hs.dep 3 _ rfl rfl
                exact ⟨e101, hC, Later.refl _⟩
              · -- 5: slot 103 := Op.fieldAddr 41 t12 1 guarded (4, 'true')
                refine fun a w hC hs => .inl ⟨?_, ?_⟩
                · exact (by unfold Region.wanted; dsimp only; rw [yielded_bool (d := 102) rfl (hs.dep 4 _ rfl rfl)]; rfl)
                have e12 : a.tmps.getD 12 undef = .pointer (some ⟨w9.heap.size, 0, none⟩) := hs.free 12 rfl
                refine ValWp.pure (v := .pointer (some ⟨w9.heap.size, 1, none⟩)) (fun K' hK' => ?_) ⟨rfl, hC, Later.refl _⟩
                simp only [ValWp, execOp, Act.eval, e12]
                go_simp
                all_goals exact hK'
              · -- 6: slot 104 := Op.load 22 t103 guarded (4, 'true')
                refine fun a w hC hs => .inl ⟨?_, ?_⟩
                · exact (by unfold Region.wanted; dsimp only; rw [yielded_bool (d := 102) rfl (hs.dep 4 _ rfl rfl)]; rfl)
                have e103 : a.tmps.getD 103 undef = .pointer (some ⟨w9.heap.size, 1, none⟩) := hs.dep 5 _ rfl rfl
                obtain ⟨x0, x1⟩ := HXR.out w hC
                refine ValWp.pure (v := .slice A9 wh c9) (fun K' hK' => ?_) ⟨rfl, hC, Later.refl _⟩
                simp only [ValWp, execOp, Act.eval, e103]
                go_simp
                all_goals exact hK'
              · -- 7: slot 105 := Op.move t1 guarded (4, 'true')
                refine fun a w hC hs => .inl ⟨?_, ?_⟩
                · exact (by unfold Region.wanted; dsimp only; rw [yielded_bool (d := 102) rfl (hs.dep 4 _ rfl rfl)]; rfl)
                have e1 : a.tmps.getD 1 undef = .slice (some ad) n1 c1 := hs.free 1 rfl
                exact ⟨e1, hC, Later.refl _⟩
              · -- 8: slot 106 := Op.move t16 guarded (4, 'true')
                refine fun a w hC hs => .inl ⟨?_, ?_⟩
                · exact (by unfold Region.wanted; dsimp only; rw [yielded_bool (d := 102) rfl (hs.dep 4 _ rfl rfl)]; rfl)
                have e16 : a.tmps.getD 16 undef = .int .i64 (wh : Int) := hs.free 16 rfl
                exact ⟨e16, hC, Later.refl _⟩
              · -- 9: slot 107 := Op.slice 22 t105 none (some t106) none guarded (4, 'true')
                refine fun a w hC hs => .inl ⟨?_, ?_⟩
                · exact (by unfold Region.wanted; dsimp only; rw [yielded_bool (d := 102) rfl (hs.dep 4 _ rfl rfl)]; rfl)
                have e105 : a.tmps.getD 105 undef = .slice (some ad) n1 c1 := hs.dep 7 _ rfl rfl
                have e106 : a.tmps.getD 106 undef = .int .i64 (wh : Int) := hs.dep 8 _ rfl rfl
                have hw0 : (0 : Int) ≤ (wh : Int) := by omega
                have hw1 := HWC.out
                refine ValWp.pure (v := .slice (some ad) wh c1) (fun K' hK' => ?_) ⟨rfl, hC, Later.refl _⟩
                simp only [ValWp, execOp, Act.eval, Option.map_some, Option.map_none, e105, e106]
                go_simp
                all_goals exact hK'
              · -- 10: slot 108 := Op.call { value (Operand.func 20), args := #[t104, t107], argTypes := #[22, 22] } guarded (4, 'true')
                refine fun a w hC hs => .inl ⟨?_, ?_⟩
                · exact (by unfold Region.wanted; dsimp only; rw [yielded_bool (d := 102) rfl (hs.dep 4 _ rfl rfl)]; rfl)
                have e104 : a.tmps.getD 104 undef = .slice A9 wh c9 := hs.dep 6 _ rfl rfl
                have e107 : a.tmps.getD 107 undef = .slice (some ad) wh c1 := hs.dep 9 _ rfl rfl
                refine ValWp.call #[.slice A9 wh c9, .slice (some ad) wh c1] rfl rfl Try.func20 rfl rfl (by simp only [List.map_toArray, List.map_cons, List.map_nil, Act.eval, e104, e107]) ?_
                refine (CSM.out w hC).mono ?_
                rintro r w' ⟨rfl, hb⟩
                exact ⟨_, rfl, rfl, Later.trans hC hb, hb⟩
              · -- 11: slot 109 := Op.pick t102 t108 (const (Value.bool false))
                refine fun a w hC hs => .inl ⟨?_, ?_⟩
                · rfl
                have e102 : a.tmps.getD 102 undef = .bool true := hs.dep 4 _ rfl rfl
                have e108 : a.tmps.getD 108 undef = .bool true := hs.dep 10 _ rfl rfl
                refine ValWp.pure (v := .bool true) (fun K' hK' => ?_) ⟨rfl, hC, Later.refl _⟩
                simp only [ValWp, execOp, Act.eval, e102, e108]
                go_simp
                all_goals exact hK'
              · -- 12: slot 110 := Op.move t109
                refine fun a w hC hs => .inl ⟨?_, ?_⟩
                · rfl
                have e109 : a.tmps.getD 109 undef = .bool true := hs.dep 11 _ rfl rfl
                exact ⟨e109, hC, Later.refl _⟩
              · -- 13: slot 111 := Op.move t13 guarded (12, 'true')
                refine fun a w hC hs => .inl ⟨?_, ?_⟩
                · exact (by unfold Region.wanted; dsimp only; rw [yielded_bool (d := 110) rfl (hs.dep 12 _ rfl rfl)]; rfl)
                have e13 : a.tmps.getD 13 undef = .int .i64 (en : Int) := hs.free 13 rfl
                exact ⟨e13, hC, Later.refl _⟩
              · -- 14: slot 112 := Op.move t15 guarded (12, 'true')
                refine fun a w hC hs => .inl ⟨?_, ?_⟩
                · exact (by unfold Region.wanted; dsimp only; rw [yielded_bool (d := 110) rfl (hs.dep 12 _ rfl rfl)]; rfl)
                have e15 : a.tmps.getD 15 undef = .int .i64 (en : Int) := hs.free 15 rfl
                exact ⟨e15, hC, Later.refl _⟩
              · -- 15: slot 113 := Op.binOp BinOp.eql 3 t111 t112 3 guarded (12, 'true')
                refine fun a w hC hs => .inl ⟨?_, ?_⟩
                · exact (by unfold Region.wanted; dsimp only; rw [yielded_bool (d := 110) rfl (hs.dep 12 _ rfl rfl)]; rfl)
                have e111 : a.tmps.getD 111 undef = .int .i64 (en : Int) := hs.dep 13 _ rfl rfl
                have e112 : a.tmps.getD 112 undef = .int .i64 (en : Int) := hs.dep 14 _ rfl rfl
                refine ValWp.pure (v := .bool true) (fun K' hK' => ?_) ⟨rfl, hC, Later.refl _⟩
                simp only [ValWp, execOp, Act.eval, e111, e112]
                go_simp
                all_goals exact hK'
              · -- 16: slot 114 := Op.pick t110 t113 (const (Value.bool false))
                refine fun a w hC hs => .inl ⟨?_, ?_⟩
                · rfl
                have e110 : a.tmps.getD 110 undef = .bool true := hs.dep 12 _ rfl rfl
                have e113 : a.tmps.getD 113 undef = .bool true := hs.dep 15 _ rfl rfl
                refine ValWp.pure (v := .bool true) (fun K' hK' => ?_) ⟨rfl, hC, Later.refl _⟩
                simp only [ValWp, execOp, Act.eval, e110, e113]
                go_simp
                all_goals exact hK'
              · -- 17: slot 115 := Op.move t114
                refine fun a w hC hs => .inl ⟨?_, ?_⟩
                · rfl
                have e114 : a.tmps.getD 114 undef = .bool true := hs.dep 16 _ rfl rfl
                exact ⟨e114, hC, Later.refl _⟩
              · -- 18: slot 116 := Op.move t14 guarded (17, 'true')
                refine fun a w hC hs => .inl ⟨?_, ?_⟩
                · exact (by unfold Region.wanted; dsimp only; rw [yielded_bool (d := 115) rfl (hs.dep 17 _ rfl rfl)]; rfl)
                have e14 : a.tmps.getD 14 undef = .int .i64 10 := hs.free 14 rfl
                exact ⟨e14, hC, Later.refl _⟩
              · -- 19: slot 117 := Op.binOp BinOp.eql 42 t116 (const (0:i64)) 42 guarded (17, 'true')
                refine fun a w hC hs => .inl ⟨?_, ?_⟩
                · exact (by unfold Region.wanted; dsimp only; rw [yielded_bool (d := 115) rfl (hs.dep 17 _ rfl rfl)]; rfl)
                have e116 : a.tmps.getD 116 undef = .int .i64 10 := hs.dep 18 _ rfl rfl
                refine ValWp.pure (v := .bool false) (fun K' hK' => ?_) ⟨rfl, hC, Later.refl _⟩
                simp only [ValWp, execOp, Act.eval, e116]
                go_simp
                all_goals exact hK'
              · -- 20: slot 118 := Op.move t15 guarded (17, 'true')
                refine fun a w hC hs => .inl ⟨?_, ?_⟩
                · exact (by unfold Region.wanted; dsimp only; rw [yielded_bool (d := 115) rfl (hs.dep 17 _ rfl rfl)]; rfl)
                have e15 : a.tmps.getD 15 undef = .int .i64 (en : Int) := hs.free 15 rfl
                exact ⟨e15, hC, Later.refl _⟩
              · -- 21: slot 119 := Op.move t11 guarded (17, 'true')
                refine fun a w hC hs => .inl ⟨?_, ?_⟩
                · exact (by unfold Region.wanted; dsimp only; rw [yielded_bool (d := 115) rfl (hs.dep 17 _ rfl rfl)]; rfl)
                have e11 : a.tmps.getD 11 undef = .int .i64 (k : Int) := hs.free 11 rfl
                exact ⟨e11, hC, Later.refl _⟩
              · -- 22: slot 120 := Op.binOp BinOp.eql 3 t118 t119 3 guarded (17, 'true')
                refine fun a w hC hs => .inl ⟨?_, ?_⟩
                · exact (by unfold Region.wanted; dsimp only; rw [yielded_bool (d := 115) rfl (hs.dep 17 _ rfl rfl)]; rfl)
                have e118 : a.tmps.getD 118 undef = .int .i64 (en : Int) := hs.dep 20 _ rfl rfl
                have e119 : a.tmps.getD 119 undef = .int .i64 (k : Int) := hs.dep 21 _ rfl rfl
                have hce := HCE.out
                refine ValWp.pure (v := .bool false) (fun K' hK' => ?_) ⟨rfl, hC, Later.refl _⟩
                simp only [ValWp, execOp, Act.eval, e118, e119]
                go_simp
                all_goals exact hK'
              · -- 23: slot 121 := Op.binOp BinOp.eql 4 t117 t120 4 guarded (17, 'true')
                refine fun a w hC hs => .inl ⟨?_, ?_⟩
                · exact (by unfold Region.wanted; dsimp only; rw [yielded_bool (d := 115) rfl (hs.dep 17 _ rfl rfl)]; rfl)
                have e117 : a.tmps.getD 117 undef = .bool false := hs.dep 19 _ rfl rfl
                have e120 : a.tmps.getD 120 undef = .bool false := hs.dep 22 _ rfl rfl
                refine ValWp.pure (v := .bool true) (fun K' hK' => ?_) ⟨rfl, hC, Later.refl _⟩
                simp only [ValWp, execOp, Act.eval, e117, e120]
                go_simp
                all_goals exact hK'
              · -- 24: slot 122 := Op.pick t115 t121 (const (Value.bool false))
                refine fun a w hC hs => .inl ⟨?_, ?_⟩
                · rfl
                have e115 : a.tmps.getD 115 undef = .bool true := hs.dep 17 _ rfl rfl
                have e121 : a.tmps.getD 121 undef = .bool true := hs.dep 23 _ rfl rfl
                refine ValWp.pure (v := .bool true) (fun K' hK' => ?_) ⟨rfl, hC, Later.refl _⟩
                simp only [ValWp, execOp, Act.eval, e115, e121]
                go_simp
                all_goals exact hK'
              · -- 25: slot 123 := Op.move t122
                refine fun a w hC hs => .inl ⟨?_, ?_⟩
                · rfl
                have e122 : a.tmps.getD 122 undef = .bool true := hs.dep 24 _ rfl rfl
                exact ⟨e122, hC, Later.refl _⟩
              · -- 26: slot 124 := Op.move t14 guarded (25, 'true')
                refine fun a w hC hs => .inl ⟨?_, ?_⟩
                · exact (by unfold Region.wanted; dsimp only; rw [yielded_bool (d := 123) rfl (hs.dep 25 _ rfl rfl)]; rfl)
                have e14 : a.tmps.getD 14 undef = .int .i64 10 := hs.free 14 rfl
                exact ⟨e14, hC, Later.refl _⟩
              · -- 27: slot 125 := Op.binOp BinOp.eql 42 t124 (const (0:i64)) 42 guarded (25, 'true')
                refine fun a w hC hs => .inl ⟨?_, ?_⟩
                · exact (by unfold Region.wanted; dsimp only; rw [yielded_bool (d := 123) rfl (hs.dep 25 _ rfl rfl)]; rfl)
                have e124 : a.tmps.getD 124 undef = .int .i64 10 := hs.dep 26 _ rfl rfl
                refine ValWp.pure (v := .bool false) (fun K' hK' => ?_) ⟨rfl, hC, Later.refl _⟩
                simp only [ValWp, execOp, Act.eval, e124]
                go_simp
                all_goals exact hK'
              · -- 28: slot 126 := Op.move t125 guarded (25, 'true')
                refine fun a w hC hs => .inl ⟨?_, ?_⟩
                · exact (by unfold Region.wanted; dsimp only; rw [yielded_bool (d := 123) rfl (hs.dep 25 _ rfl rfl)]; rfl)
                have e125 : a.tmps.getD 125 undef = .bool false := hs.dep 27 _ rfl rfl
                exact ⟨e125, hC, Later.refl _⟩
              · -- 29: slot 127 := Op.move t14 guarded (28, 'false')
                refine fun a w hC hs => .inl ⟨?_, ?_⟩
                · exact (by unfold Region.wanted; dsimp only; rw [yielded_bool (d := 126) rfl (hs.dep 28 _ rfl rfl)]; rfl)
                have e14 : a.tmps.getD 14 undef = .int .i64 10 := hs.free 14 rfl
                exact ⟨e14, hC, Later.refl _⟩
              · -- 30: slot 128 := Op.binOp BinOp.eql 42 t127 (const (10:i64)) 42 guarded (28, 'false')
                refine fun a w hC hs => .inl ⟨?_, ?_⟩
                · exact (by unfold Region.wanted; dsimp only; rw [yielded_bool (d := 126) rfl (hs.dep 28 _ rfl rfl)]; rfl)
                have e127 : a.tmps.getD 127 undef = .int .i64 10 := hs.dep 29 _ rfl rfl
                refine ValWp.pure (v := .bool true) (fun K' hK' => ?_) ⟨rfl, hC, Later.refl _⟩
                simp only [ValWp, execOp, Act.eval, e127]
                go_simp
                all_goals exact hK'
              · -- 31: slot 129 := Op.pick t126 (const (Value.bool true)) t128 guarded (25, 'true')
                refine fun a w hC hs => .inl ⟨?_, ?_⟩
                · exact (by unfold Region.wanted; dsimp only; rw [yielded_bool (d := 123) rfl (hs.dep 25 _ rfl rfl)]; rfl)
                have e126 : a.tmps.getD 126 undef = .bool false := hs.dep 28 _ rfl rfl
                have e128 : a.tmps.getD 128 undef = .bool true := hs.dep 30 _ rfl rfl
                refine ValWp.pure (v := .bool true) (fun K' hK' => ?_) ⟨rfl, hC, Later.refl _⟩
                simp only [ValWp, execOp, Act.eval, e126, e128]
                go_simp
                all_goals exact hK'
              · -- 32: slot 130 := Op.pick t123 t129 (const (Value.bool false))
                refine fun a w hC hs => .inl ⟨?_, ?_⟩
                · rfl
                have e123 : a.tmps.getD 123 undef = .bool true := hs.dep 25 _ rfl rfl
                have e129 : a.tmps.getD 129 undef = .bool true := hs.dep 31 _ rfl rfl
                refine ValWp.pure (v := .bool true) (fun K' hK' => ?_) ⟨rfl, hC, Later.refl _⟩
                simp only [ValWp, execOp, Act.eval, e123, e129]
                go_simp
                all_goals exact hK'
              · -- 33: slot 6 := Op.assign t130
                refine fun a w hC hs => .inl ⟨?_, ?_⟩
                · rfl
                have e130 : a.tmps.getD 130 undef = .bool true := hs.dep 32 _ rfl rfl
                exact ⟨e130, hC, Later.refl _⟩
            · intro a X hC hd hs hf hr
              have e6 : a.tmps.getD 6 undef = .bool true := hr 33 _ rfl
              have hd' : a.defers = [] := hd
              clear hd hs hf hr
              go_wp2
              refine bodyPost_ret (results_tmp rfl _ _ _) hd' ?_
              exact ⟨by rw [e6], Below.trans LB.out (Below.mono hC LB.out.size)⟩
        · have hbi : ¬ (k : Int) < (ej : Int) + (fl : Int) := by omega
          have hjw : j + 1 ≤ wh := by have := HAT.out.2.1 (by omega); omega
          clear hbr hejb hflb
          go_wp2_with (first
          | (go_at_call 16; (with_reducible refine (CTE.out _ (Later.refl _)).mono ?_); rintro e w11 ⟨rfl, hl11⟩; have L11 := Lib.hid hl11; clear hl11)
          | (go_at_call 15; (with_reducible refine (CO.out _).mono ?_); rintro e w12 ⟨rfl, hl12⟩; have HLB := Lib.hid (Later.trans HLR.out (Later.trans L11.out hl12)); clear hl12))
          go_roundw
          case rel => exact ⟨j + 1, hjw, by go_num, int_eq (by rw [HAT.out.2.2]; omega), HLB.out⟩
          case measure => simp [intOf]; omega
      · have hwj : wh = j := by omega
        have hene : en = ej := by rw [HATR.out.2.2.1, HEJ.out, hwj]
        have hji : ¬ (j : Int) < (n1 : Int) := by omega
        have HLB := HLR
        go_wp2
        obtain rfl := hwj
        obtain rfl := hene
        clear hj hjn hji
        have HXR := Lib.hid (fun w (h : Later wr w) => HX9.out w (Later.trans HL10.out (Later.trans HLB.out h)))
        have CSM := Lib.hid (fun w (h : Later wr w) => same_v A9 A1 wh c9 c1 (xs.take wh) w (R9.out.later (Later.trans HL10.out (Later.trans HLB.out h))) ((H.out.1.take hwn).later (Below.trans L10.out (Below.mono (Later.trans HLB.out h) L10.out.size))) (Nat.le_trans hwn H.out.2.2.1))
        have LB := Lib.hid (Below.trans L10.out (Below.mono HLB.out L10.out.size))
        have hee := HATR.out.2.2.2.1
        clear x0 x1
        by_cases hke : k = en
        · rw [if_pos hke] at hee
          have HCE := Lib.hid (show ((en : Int) == (k : Int)) = true by simp; omega)
          clear hke
          subst hee
          refine wp_region_owes (by kernel_rfl) (fun W => Later wr W) (Later) (Later.refl) [Sp.val (.pointer (some ⟨w9.heap.size, 0, none⟩)), Sp.val (.string (mkS sc)), Sp.val (.string (mkS sc)), Sp.val (.bool true), Sp.val (.bool true), Sp.val (.pointer (some ⟨w9.heap.size, 1, none⟩)), Sp.val (.slice A9 wh c9), Sp.val (.slice A1 n1 c1), Sp.val (.int .i64 (wh : Int)), Sp.val (.slice A1 wh c1), Sp.val (.bool true), Sp.val (.bool true), Sp.val (.bool true), Sp.val (.int .i64 (en : Int)), Sp.val (.int .i64 (en : Int)), Sp.val (.bool true), Sp.val (.bool true), Sp.val (.bool true), Sp.val (.int .i64 0), Sp.val (.bool true), Sp.val (.int .i64 (en : Int)), Sp.val (.int .i64 (k : Int)), Sp.val (.bool true), Sp.val (.bool true), Sp.val (.bool true), Sp.val (.bool true), Sp.val (.int .i64 0), Sp.val (.bool true), Sp.val (.bool true), Sp.val (undef), Sp.val (undef), Sp.val (.bool true), Sp.val (.bool true), Sp.val (.bool true)] (by kernel_rfl) (Later.drew wr) ?_ ?_
          · refine ⟨?_, ?_, ?_, ?_, ?_, ?_, ?_, ?_, ?_, ?_, ?_, ?_, ?_, ?_, ?_, ?_, ?_, ?_, ?_, ?_, ?_, ?_, ?_, ?_, ?_, ?_, ?_, ?_, ?_, ?_, ?_, ?_, ?_, ?_, trivial⟩
            · -- 0: slot 98 := Op.fieldAddr 41 t12 0
              refine fun a w hC hs => .inl ⟨?_, ?_⟩
              · rfl
              have e12 : a.tmps.getD 12 undef = .pointer (some ⟨w9.heap.size, 0, none⟩) := hs.free 12 rfl
              refine ValWp.pure (v := .pointer (some ⟨w9.heap.size, 0, none⟩)) (fun K' hK' => ?_) ⟨rfl, hC, Later.refl _⟩
              simp only [ValWp, execOp, Act.eval, e12]
              go_simp
              all_goals exact hK'
            · -- 1: slot 99 := Op.load 9 t98
              refine fun a w hC hs => .inl ⟨?_, ?_⟩
              · rfl
              have e98 : a.tmps.getD 98 undef = .pointer (some ⟨w9.heap.size, 0, none⟩) := hs.dep 0 _ rfl rfl
              obtain ⟨x0, x1⟩ := HXR.out w hC
              refine ValWp.pure (v := .string (mkS sc)) (fun K' hK' => ?_) ⟨rfl, hC, Later.refl _⟩
              simp only [ValWp, execOp, Act.eval, e98]
              go_simp
              all_goals exact hK'
            · -- 2: slot 100 := Op.move t0
              refine fun a w hC hs => .inl ⟨?_, ?_⟩
              · rfl
              have e0 : a.tmps.getD 0 undef = .string (mkS sc) := hs.free 0 rfl
              exact ⟨e0, hC, Later.refl _⟩
            · -- 3: slot 101 := Op.binOp BinOp.eql 9 t99 t100 9
              refine fun a w hC hs => .inl ⟨?_, ?_⟩
              · rfl
              have e99 : a.tmps.getD 99 undef = .string (mkS sc) := hs.dep 1 _ rfl rfl
              have e100 : a.tmps.getD 100 undef = .string (mkS sc) := hs.dep 2 _ rfl rfl
              refine ValWp.pure (v := .bool true) (fun K' hK' => ?_) ⟨rfl, hC, Later.refl _⟩
              simp only [ValWp, execOp, Act.eval, e99, e100]
              go_simp
              all_goals exact hK'
            · -- 4: slot 102 := Op.move t101
              refine fun a w hC hs => .inl ⟨?_, ?_⟩
              · rfl
              have e101 : a.tmps.getD 101 undef = .bool true := hs.dep 3 _ rfl rfl
              exact ⟨e101, hC, Later.refl _⟩
            · -- 5: slot 103 := Op.fieldAddr 41 t12 1 guarded (4, 'true')
              refine fun a w hC hs => .inl ⟨?_, ?_⟩
              · exact (by unfold Region.wanted; dsimp only; rw [yielded_bool (d := 102) rfl (hs.dep 4 _ rfl rfl)]; rfl)
              have e12 : a.tmps.getD 12 undef = .pointer (some ⟨w9.heap.size, 0, none⟩) := hs.free 12 rfl
              refine ValWp.pure (v := .pointer (some ⟨w9.heap.size, 1, none⟩)) (fun K' hK' => ?_) ⟨rfl, hC, Later.refl _⟩
              simp only [ValWp, execOp, Act.eval, e12]
              go_simp
              all_goals exact hK'
            · -- 6: slot 104 := Op.load 22 t103 guarded (4, 'true')
              refine fun a w hC hs => .inl ⟨?_, ?_⟩
              · exact (by unfold Region.wanted; dsimp only; rw [yielded_bool (d := 102) rfl (hs.dep 4 _ rfl rfl)]; rfl)
              have e103 : a.tmps.getD 103 undef = .pointer (some ⟨w9.heap.size, 1, none⟩) := hs.dep 5 _ rfl rfl
              obtain ⟨x0, x1⟩ := HXR.out w hC
              refine ValWp.pure (v := .slice A9 wh c9) (fun K' hK' => ?_) ⟨rfl, hC, Later.refl _⟩
              simp only [ValWp, execOp, Act.eval, e103]
              go_simp
              all_goals exact hK'
            · -- 7: slot 105 := Op.move t1 guarded (4, 'true')
              refine fun a w hC hs => .inl ⟨?_, ?_⟩
              · exact (by unfold Region.wanted; dsimp only; rw [yielded_bool (d := 102) rfl (hs.dep 4 _ rfl rfl)]; rfl)
              have e1 : a.tmps.getD 1 undef = .slice A1 n1 c1 := hs.free 1 rfl
              exact ⟨e1, hC, Later.refl _⟩
            · -- 8: slot 106 := Op.move t16 guarded (4, 'true')
              refine fun a w hC hs => .inl ⟨?_, ?_⟩
              · exact (by unfold Region.wanted; dsimp only; rw [yielded_bool (d := 102) rfl (hs.dep 4 _ rfl rfl)]; rfl)
              have e16 : a.tmps.getD 16 undef = .int .i64 (wh : Int) := hs.free 16 rfl
              exact ⟨e16, hC, Later.refl _⟩
            · -- 9: slot 107 := Op.slice 22 t105 none (some t106) none guarded (4, 'true')
              refine fun a w hC hs => .inl ⟨?_, ?_⟩
              · exact (by unfold Region.wanted; dsimp only; rw [yielded_bool (d := 102) rfl (hs.dep 4 _ rfl rfl)]; rfl)
              have e105 : a.tmps.getD 105 undef = .slice A1 n1 c1 := hs.dep 7 _ rfl rfl
              have e106 : a.tmps.getD 106 undef = .int .i64 (wh : Int) := hs.dep 8 _ rfl rfl
              have hw0 : (0 : Int) ≤ (wh : Int) := by omega
              have hw1 := HWC.out
              refine ValWp.pure (v := .slice A1 wh c1) (fun K' hK' => ?_) ⟨rfl, hC, Later.refl _⟩
              simp only [ValWp, execOp, Act.eval, Option.map_some, Option.map_none, e105, e106]
              go_simp
              all_goals exact hK'
            · -- 10: slot 108 := Op.call { value (Operand.func 20), args := #[t104, t107], argTypes := #[22, 22] } guarded (4, 'true')
              refine fun a w hC hs => .inl ⟨?_, ?_⟩
              · exact (by unfold Region.wanted; dsimp only; rw [yielded_bool (d := 102) rfl (hs.dep 4 _ rfl rfl)]; rfl)
              have e104 : a.tmps.getD 104 undef = .slice A9 wh c9 := hs.dep 6 _ rfl rfl
              have e107 : a.tmps.getD 107 undef = .slice A1 wh c1 := hs.dep 9 _ rfl rfl
              refine ValWp.call #[.slice A9 wh c9, .slice A1 wh c1] rfl rfl Try.func20 rfl rfl (by simp only [List.map_toArray, List.map_cons, List.map_nil, Act.eval, e104, e107]) ?_
              refine (CSM.out w hC).mono ?_
              rintro r w' ⟨rfl, hb⟩
              exact ⟨_, rfl, rfl, Later.trans hC hb, hb⟩
            · -- 11: slot 109 := Op.pick t102 t108 (const (Value.bool false))
              refine fun a w hC hs => .inl ⟨?_, ?_⟩
              · rfl
              have e102 : a.tmps.getD 102 undef = .bool true := hs.dep 4 _ rfl rfl
              have e108 : a.tmps.getD 108 undef = .bool true := hs.dep 10 _ rfl rfl
              refine ValWp.pure (v := .bool true) (fun K' hK' => ?_) ⟨rfl, hC, Later.refl _⟩
              simp only [ValWp, execOp, Act.eval, e102, e108]
              go_simp
              all_goals exact hK'
            · -- 12: slot 110 := Op.move t109
              refine fun a w hC hs => .inl ⟨?_, ?_⟩
              · rfl
              have e109 : a.tmps.getD 109 undef = .bool true := hs.dep 11 _ rfl rfl
              exact ⟨e109, hC, Later.refl _⟩
            · -- 13: slot 111 := Op.move t13 guarded (12, 'true')
              refine fun a w hC hs => .inl ⟨?_, ?_⟩
              · exact (by unfold Region.wanted; dsimp only; rw [yielded_bool (d := 110) rfl (hs.dep 12 _ rfl rfl)]; rfl)
              have e13 : a.tmps.getD 13 undef = .int .i64 (en : Int) := hs.free 13 rfl
              exact ⟨e13, hC, Later.refl _⟩
            · -- 14: slot 112 := Op.move t15 guarded (12, 'true')
              refine fun a w hC hs => .inl ⟨?_, ?_⟩
              · exact (by unfold Region.wanted; dsimp only; rw [yielded_bool (d := 110) rfl (hs.dep 12 _ rfl rfl)]; rfl)
              have e15 : a.tmps.getD 15 undef = .int .i64 (en : Int) := hs.free 15 rfl
              exact ⟨e15, hC, Later.refl _⟩
            · -- 15: slot 113 := Op.binOp BinOp.eql 3 t111 t112 3 guarded (12, 'true')
              refine fun a w hC hs => .inl ⟨?_, ?_⟩
              · exact (by unfold Region.wanted; dsimp only; rw [yielded_bool (d := 110) rfl (hs.dep 12 _ rfl rfl)]; rfl)
              have e111 : a.tmps.getD 111 undef = .int .i64 (en : Int) := hs.dep 13 _ rfl rfl
              have e112 : a.tmps.getD 112 undef = .int .i64 (en : Int) := hs.dep 14 _ rfl rfl
              refine ValWp.pure (v := .bool true) (fun K' hK' => ?_) ⟨rfl, hC, Later.refl _⟩
              simp only [ValWp, execOp, Act.eval, e111, e112]
              go_simp
              all_goals exact hK'
            · -- 16: slot 114 := Op.pick t110 t113 (const (Value.bool false))
              refine fun a w hC hs => .inl ⟨?_, ?_⟩
              · rfl
              have e110 : a.tmps.getD 110 undef = .bool true := hs.dep 12 _ rfl rfl
              have e113 : a.tmps.getD 113 undef = .bool true := hs.dep 15 _ rfl rfl
              refine ValWp.pure (v := .bool true) (fun K' hK' => ?_) ⟨rfl, hC, Later.refl _⟩
              simp only [ValWp, execOp, Act.eval, e110, e113]
              go_simp
              all_goals exact hK'
            · -- 17: slot 115 := Op.move t114
              refine fun a w hC hs => .inl ⟨?_, ?_⟩
              · rfl
              have e114 : a.tmps.getD 114 undef = .bool true := hs.dep 16 _ rfl rfl
              exact ⟨e114, hC, Later.refl _⟩
            · -- 18: slot 116 := Op.move t14 guarded (17, 'true')
              refine fun a w hC hs => .inl ⟨?_, ?_⟩
              · exact (by unfold Region.wanted; dsimp only; rw [yielded_bool (d := 115) rfl (hs.dep 17 _ rfl rfl)]; rfl)
              have e14 : a.tmps.getD 14 undef = .int .i64 0 := hs.free 14 rfl
              exact ⟨e14, hC, Later.refl _⟩
            · -- 19: slot 117 := Op.binOp BinOp.eql 42 t116 (const (0:i64)) 42 guarded (17, 'true')
              refine fun a w hC hs => .inl ⟨?_, ?_⟩
              · exact (by unfold Region.wanted; dsimp only; rw [yielded_bool (d := 115) rfl (hs.dep 17 _ rfl rfl)]; rfl)
              have e116 : a.tmps.getD 116 undef = .int .i64 0 := hs.dep 18 _ rfl rfl
              refine ValWp.pure (v := .bool true) (fun K' hK' => ?_) ⟨rfl, hC, Later.refl _⟩
              simp only [ValWp, execOp, Act.eval, e116]
              go_simp
              all_goals exact hK'
            · -- 20: slot 118 := Op.move t15 guarded (17, 'true')
              refine fun a w hC hs => .inl ⟨?_, ?_⟩
              · exact (by unfold Region.wanted; dsimp only; rw [yielded_bool (d := 115) rfl (hs.dep 17 _ rfl rfl)]; rfl)
              have e15 : a.tmps.getD 15 undef = .int .i64 (en : Int) := hs.free 15 rfl
              exact ⟨e15, hC, Later.refl _⟩
            · -- 21: slot 119 := Op.move t11 guarded (17, 'true')
              refine fun a w hC hs => .inl ⟨?_, ?_⟩
              · exact (by unfold Region.wanted; dsimp only; rw [yielded_bool (d := 115) rfl (hs.dep 17 _ rfl rfl)]; rfl)
              have e11 : a.tmps.getD 11 undef = .int .i64 (k : Int) := hs.free 11 rfl
              exact ⟨e11, hC, Later.refl _⟩
            · -- 22: slot 120 := Op.binOp BinOp.eql 3 t118 t119 3 guarded (17, 'true')
              refine fun a w hC hs => .inl ⟨?_, ?_⟩
              · exact (by unfold Region.wanted; dsimp only; rw [yielded_bool (d := 115) rfl (hs.dep 17 _ rfl rfl)]; rfl)
              have e118 : a.tmps.getD 118 undef = .int .i64 (en : Int) := hs.dep 20 _ rfl rfl
              have e119 : a.tmps.getD 119 undef = .int .i64 (k : Int) := hs.dep 21 _ rfl rfl
              have hce := HCE.out
              refine ValWp.pure (v := .bool true) (fun K' hK' => ?_) ⟨rfl, hC, Later.refl _⟩
              simp only [ValWp, execOp, Act.eval, e118, e119]
              go_simp
              all_goals exact hK'
            · -- 23: slot 121 := Op.binOp BinOp.eql 4 t117 t120 4 guarded (17, 'true')
              refine fun a w hC hs => .inl ⟨?_, ?_⟩
              · exact (by unfold Region.wanted; dsimp only; rw [yielded_bool (d := 115) rfl (hs.dep 17 _ rfl rfl)]; rfl)
              have e117 : a.tmps.getD 117 undef = .bool true := hs.dep 19 _ rfl rfl
              have e120 : a.tmps.getD 120 undef = .bool true := hs.dep 22 _ rfl rfl
              refine ValWp.pure (v := .bool true) (fun K' hK' => ?_) ⟨rfl, hC, Later.refl _⟩
              simp only [ValWp, execOp, Act.eval, e117, e120]
              go_simp
              all_goals exact hK'
            · -- 24: slot 122 := Op.pick t115 t121 (const (Value.bool false))
              refine fun a w hC hs => .inl ⟨?_, ?_⟩
              · rfl
              have e115 : a.tmps.getD 115 undef = .bool true := hs.dep 17 _ rfl rfl
              have e121 : a.tmps.getD 121 undef = .bool true := hs.dep 23 _ rfl rfl
              refine ValWp.pure (v := .bool true) (fun K' hK' => ?_) ⟨rfl, hC, Later.refl _⟩
              simp only [ValWp, execOp, Act.eval, e115, e121]
              go_simp
              all_goals exact hK'
            · -- 25: slot 123 := Op.move t122
              refine fun a w hC hs => .inl ⟨?_, ?_⟩
              · rfl
              have e122 : a.tmps.getD 122 undef = .bool true := hs.dep 24 _ rfl rfl
              exact ⟨e122, hC, Later.refl _⟩
            · -- 26: slot 124 := Op.move t14 guarded (25, 'true')
              refine fun a w hC hs => .inl ⟨?_, ?_⟩
              · exact (by unfold Region.wanted; dsimp only; rw [yielded_bool (d := 123) rfl (hs.dep 25 _ rfl rfl)]; rfl)
              have e14 : a.tmps.getD 14 undef = .int .i64 0 := hs.free 14 rfl
              exact ⟨e14, hC, Later.refl _⟩
            · -- 27: slot 125 := Op.binOp BinOp.eql 42 t124 (const (0:i64)) 42 guarded (25, 'true')
              refine fun a w hC hs => .inl ⟨?_, ?_⟩
              · exact (by unfold Region.wanted; dsimp only; rw [yielded_bool (d := 123) rfl (hs.dep 25 _ rfl rfl)]; rfl)
              have e124 : a.tmps.getD 124 undef = .int .i64 0 := hs.dep 26 _ rfl rfl
              refine ValWp.pure (v := .bool true) (fun K' hK' => ?_) ⟨rfl, hC, Later.refl _⟩
              simp only [ValWp, execOp, Act.eval, e124]
              go_simp
              all_goals exact hK'
            · -- 28: slot 126 := Op.move t125 guarded (25, 'true')
              refine fun a w hC hs => .inl ⟨?_, ?_⟩
              · exact (by unfold Region.wanted; dsimp only; rw [yielded_bool (d := 123) rfl (hs.dep 25 _ rfl rfl)]; rfl)
              have e125 : a.tmps.getD 125 undef = .bool true := hs.dep 27 _ rfl rfl
              exact ⟨e125, hC, Later.refl _⟩
            · -- 29: slot 127 := Op.move t14 guarded (28, 'false')
              exact fun a w hC hs => .inr ⟨(by unfold Region.wanted; dsimp only; rw [yielded_bool (d := 126) rfl (hs.dep 28 _ rfl rfl)]; rfl), rfl⟩
            · -- 30: slot 128 := Op.binOp BinOp.eql 42 t127 (const (10:i64)) 42 guarded (28, 'false')
              exact fun a w hC hs => .inr ⟨(by unfold Region.wanted; dsimp only; rw [yielded_bool (d := 126) rfl (hs.dep 28 _ rfl rfl)]; rfl), rfl⟩
            · -- 31: slot 129 := Op.pick t126 (const (Value.bool true)) t128 guarded (25, 'true')
              refine fun a w hC hs => .inl ⟨?_, ?_⟩
              · exact (by unfold Region.wanted; dsimp only; rw [yielded_bool (d := 123) rfl (hs.dep 25 _ rfl rfl)]; rfl)
              have e126 : a.tmps.getD 126 undef = .bool true := hs.dep 28 _ rfl rfl
              have e128 : a.tmps.getD 128 undef = undef := hs.dep 30 _ rfl rfl
              refine ValWp.pure (v := .bool true) (fun K' hK' => ?_) ⟨rfl, hC, Later.refl _⟩
              simp only [ValWp, execOp, Act.eval, e126, e128]
              go_simp
              all_goals exact hK'
            · -- 32: slot 130 := Op.pick t123 t129 (const (Value.bool false))
              refine fun a w hC hs => .inl ⟨?_, ?_⟩
              · rfl
              have e123 : a.tmps.getD 123 undef = .bool true := hs.dep 25 _ rfl rfl
              have e129 : a.tmps.getD 129 undef = .bool true := hs.dep 31 _ rfl rfl
              refine ValWp.pure (v := .bool true) (fun K' hK' => ?_) ⟨rfl, hC, Later.refl _⟩
              simp only [ValWp, execOp, Act.eval, e123, e129]
              go_simp
              all_goals exact hK'
            · -- 33: slot 6 := Op.assign t130
              refine fun a w hC hs => .inl ⟨?_, ?_⟩
              · rfl
              have e130 : a.tmps.getD 130 undef = .bool true := hs.dep 32 _ rfl rfl
              exact ⟨e130, hC, Later.refl _⟩
          · intro a X hC hd hs hf hr
            have e6 : a.tmps.getD 6 undef = .bool true := hr 33 _ rfl
            have hd' : a.defers = [] := hd
            clear hd hs hf hr
            go_wp2
            refine bodyPost_ret (results_tmp rfl _ _ _) hd' ?_
            exact ⟨by rw [e6], Below.trans LB.out (Below.mono hC LB.out.size)⟩
        · rw [if_neg hke] at hee
          have HCE := Lib.hid (show ((en : Int) == (k : Int)) = false by simp; omega)
          clear hke
          subst hee
          refine wp_region_owes (by kernel_rfl) (fun W => Later wr W) (Later) (Later.refl) [Sp.val (.pointer (some ⟨w9.heap.size, 0, none⟩)), Sp.val (.string (mkS sc)), Sp.val (.string (mkS sc)), Sp.val (.bool true), Sp.val (.bool true), Sp.val (.pointer (some ⟨w9.heap.size, 1, none⟩)), Sp.val (.slice A9 wh c9), Sp.val (.slice A1 n1 c1), Sp.val (.int .i64 (wh : Int)), Sp.val (.slice A1 wh c1), Sp.val (.bool true), Sp.val (.bool true), Sp.val (.bool true), Sp.val (.int .i64 (en : Int)), Sp.val (.int .i64 (en : Int)), Sp.val (.bool true), Sp.val (.bool true), Sp.val (.bool true), Sp.val (.int .i64 10), Sp.val (.bool false), Sp.val (.int .i64 (en : Int)), Sp.val (.int .i64 (k : Int)), Sp.val (.bool false), Sp.val (.bool true), Sp.val (.bool true), Sp.val (.bool true), Sp.val (.int .i64 10), Sp.val (.bool false), Sp.val (.bool false), Sp.val (.int .i64 10), Sp.val (.bool true), Sp.val (.bool true), Sp.val (.bool true), Sp.val (.bool true)] (by kernel_rfl) (Later.drew wr) ?_ ?_
          · refine ⟨?_, ?_, ?_, ?_, ?_, ?_, ?_, ?_, ?_, ?_, ?_, ?_, ?_, ?_, ?_, ?_, ?_, ?_, ?_, ?_, ?_, ?_, ?_, ?_, ?_, ?_, ?_, ?_, ?_, ?_, ?_, ?_, ?_, ?_, trivial⟩
            · -- 0: slot 98 := Op.fieldAddr 41 t12 0
              refine fun a w hC hs => .inl ⟨?_, ?_⟩
              · rfl
              have e12 : a.tmps.getD 12 undef = .pointer (some ⟨w9.heap.size, 0, none⟩) := hs.free 12 rfl
              refine ValWp.pure (v := .pointer (some ⟨w9.heap.size, 0, none⟩)) (fun K' hK' => ?_) ⟨rfl, hC, Later.refl _⟩
              simp only [ValWp, execOp, Act.eval, e12]
              go_simp
              all_goals exact hK'
            · -- 1: slot 99 := Op.load 9 t98
              refine fun a w hC hs => .inl ⟨?_, ?_⟩
              · rfl
              have e98 : a.tmps.getD 98 undef = .pointer (some ⟨w9.heap.size, 0, none⟩) := hs.dep 0 _ rfl rfl
              obtain ⟨x0, x1⟩ := HXR.out w hC
              refine ValWp.pure (v := .string (mkS sc)) (fun K' hK' => ?_) ⟨rfl, hC, Later.refl _⟩
              simp only [ValWp, execOp, Act.eval, e98]
              go_simp
              all_goals exact hK'
            · -- 2: slot 100 := Op.move t0
              refine fun a w hC hs => .inl ⟨?_, ?_⟩
              · rfl
              have e0 : a.tmps.getD 0 undef = .string (mkS sc) := hs.free 0 rfl
              exact ⟨e0, hC, Later.refl _⟩
            · -- 3: slot 101 := Op.binOp BinOp.eql 9 t99 t100 9
              refine fun a w hC hs => .inl ⟨?_, ?_⟩
              · rfl
              have e99 : a.tmps.getD 99 undef = .string (mkS sc) := hs.dep 1 _ rfl rfl
              have e100 : a.tmps.getD 100 undef = .string (mkS sc) := hs.dep 2 _ rfl rfl
              refine ValWp.pure (v := .bool true) (fun K' hK' => ?_) ⟨rfl, hC, Later.refl _⟩
              simp only [ValWp, execOp, Act.eval, e99, e100]
              go_simp
              all_goals exact hK'
            · -- 4: slot 102 := Op.move t101
              refine fun a w hC hs => .inl ⟨?_, ?_⟩
              · rfl
              have e101 : a.tmps.getD 101 undef = .bool true := hs.dep 3 _ rfl rfl
              exact ⟨e101, hC, Later.refl _⟩
            · -- 5: slot 103 := Op.fieldAddr 41 t12 1 guarded (4, 'true')
              refine fun a w hC hs => .inl ⟨?_, ?_⟩
              · exact (by unfold Region.wanted; dsimp only; rw [yielded_bool (d := 102) rfl (hs.dep 4 _ rfl rfl)]; rfl)
              have e12 : a.tmps.getD 12 undef = .pointer (some ⟨w9.heap.size, 0, none⟩) := hs.free 12 rfl
              refine ValWp.pure (v := .pointer (some ⟨w9.heap.size, 1, none⟩)) (fun K' hK' => ?_) ⟨rfl, hC, Later.refl _⟩
              simp only [ValWp, execOp, Act.eval, e12]
              go_simp
              all_goals exact hK'
            · -- 6: slot 104 := Op.load 22 t103 guarded (4, 'true')
              refine fun a w hC hs => .inl ⟨?_, ?_⟩
              · exact (by unfold Region.wanted; dsimp only; rw [yielded_bool (d := 102) rfl (hs.dep 4 _ rfl rfl)]; rfl)
              have e103 : a.tmps.getD 103 undef = .pointer (some ⟨w9.heap.size, 1, none⟩) := hs.dep 5 _ rfl rfl
              obtain ⟨x0, x1⟩ := HXR.out w hC
              refine ValWp.pure (v := .slice A9 wh c9) (fun K' hK' => ?_) ⟨rfl, hC, Later.refl _⟩
              simp only [ValWp, execOp, Act.eval, e103]
              go_simp
              all_goals exact hK'
            · -- 7: slot 105 := Op.move t1 guarded (4, 'true')
              refine fun a w hC hs => .inl ⟨?_, ?_⟩
              · exact (by unfold Region.wanted; dsimp only; rw [yielded_bool (d := 102) rfl (hs.dep 4 _ rfl rfl)]; rfl)
              have e1 : a.tmps.getD 1 undef = .slice A1 n1 c1 := hs.free 1 rfl
              exact ⟨e1, hC, Later.refl _⟩
            · -- 8: slot 106 := Op.move t16 guarded (4, 'true')
              refine fun a w hC hs => .inl ⟨?_, ?_⟩
              · exact (by unfold Region.wanted; dsimp only; rw [yielded_bool (d := 102) rfl (hs.dep 4 _ rfl rfl)]; rfl)
              have e16 : a.tmps.getD 16 undef = .int .i64 (wh : Int) := hs.free 16 rfl
              exact ⟨e16, hC, Later.refl _⟩
            · -- 9: slot 107 := Op.slice 22 t105 none (some t106) none guarded (4, 'true')
              refine fun a w hC hs => .inl ⟨?_, ?_⟩
              · exact (by unfold Region.wanted; dsimp only; rw [yielded_bool (d := 102) rfl (hs.dep 4 _ rfl rfl)]; rfl)
              have e105 : a.tmps.getD 105 undef = .slice A1 n1 c1 := hs.dep 7 _ rfl rfl
              have e106 : a.tmps.getD 106 undef = .int .i64 (wh : Int) := hs.dep 8 _ rfl rfl
              have hw0 : (0 : Int) ≤ (wh : Int) := by omega
              have hw1 := HWC.out
              refine ValWp.pure (v := .slice A1 wh c1) (fun K' hK' => ?_) ⟨rfl, hC, Later.refl _⟩
              simp only [ValWp, execOp, Act.eval, Option.map_some, Option.map_none, e105, e106]
              go_simp
              all_goals exact hK'
            · -- 10: slot 108 := Op.call { value (Operand.func 20), args := #[t104, t107], argTypes := #[22, 22] } guarded (4, 'true')
              refine fun a w hC hs => .inl ⟨?_, ?_⟩
              · exact (by unfold Region.wanted; dsimp only; rw [yielded_bool (d := 102) rfl (hs.dep 4 _ rfl rfl)]; rfl)
              have e104 : a.tmps.getD 104 undef = .slice A9 wh c9 := hs.dep 6 _ rfl rfl
              have e107 : a.tmps.getD 107 undef = .slice A1 wh c1 := hs.dep 9 _ rfl rfl
              refine ValWp.call #[.slice A9 wh c9, .slice A1 wh c1] rfl rfl Try.func20 rfl rfl (by simp only [List.map_toArray, List.map_cons, List.map_nil, Act.eval, e104, e107]) ?_
              refine (CSM.out w hC).mono ?_
              rintro r w' ⟨rfl, hb⟩
              exact ⟨_, rfl, rfl, Later.trans hC hb, hb⟩
            · -- 11: slot 109 := Op.pick t102 t108 (const (Value.bool false))
              refine fun a w hC hs => .inl ⟨?_, ?_⟩
              · rfl
              have e102 : a.tmps.getD 102 undef = .bool true := hs.dep 4 _ rfl rfl
              have e108 : a.tmps.getD 108 undef = .bool true := hs.dep 10 _ rfl rfl
              refine ValWp.pure (v := .bool true) (fun K' hK' => ?_) ⟨rfl, hC, Later.refl _⟩
              simp only [ValWp, execOp, Act.eval, e102, e108]
              go_simp
              all_goals exact hK'
            · -- 12: slot 110 := Op.move t109
              refine fun a w hC hs => .inl ⟨?_, ?_⟩
              · rfl
              have e109 : a.tmps.getD 109 undef = .bool true := hs.dep 11 _ rfl rfl
              exact ⟨e109, hC, Later.refl _⟩
            · -- 13: slot 111 := Op.move t13 guarded (12, 'true')
              refine fun a w hC hs => .inl ⟨?_, ?_⟩
              · exact (by unfold Region.wanted; dsimp only; rw [yielded_bool (d := 110) rfl (hs.dep 12 _ rfl rfl)]; rfl)
              have e13 : a.tmps.getD 13 undef = .int .i64 (en : Int) := hs.free 13 rfl
              exact ⟨e13, hC, Later.refl _⟩
            · -- 14: slot 112 := Op.move t15 guarded (12, 'true')
              refine fun a w hC hs => .inl ⟨?_, ?_⟩
              · exact (by unfold Region.wanted; dsimp only; rw [yielded_bool (d := 110) rfl (hs.dep 12 _ rfl rfl)]; rfl)
              have e15 : a.tmps.getD 15 undef = .int .i64 (en : Int) := hs.free 15 rfl
              exact ⟨e15, hC, Later.refl _⟩
            · -- 15: slot 113 := Op.binOp BinOp.eql 3 t111 t112 3 guarded (12, 'true')
              refine fun a w hC hs => .inl ⟨?_, ?_⟩
              · exact (by unfold Region.wanted; dsimp only; rw [yielded_bool (d := 110) rfl (hs.dep 12 _ rfl rfl)]; rfl)
              have e111 : a.tmps.getD 111 undef = .int .i64 (en : Int) := hs.dep 13 _ rfl rfl
              have e112 : a.tmps.getD 112 undef = .int .i64 (en : Int) := hs.dep 14 _ rfl rfl
              refine ValWp.pure (v := .bool true) (fun K' hK' => ?_) ⟨rfl, hC, Later.refl _⟩
              simp only [ValWp, execOp, Act.eval, e111, e112]
              go_simp
              all_goals exact hK'
            · -- 16: slot 114 := Op.pick t110 t113 (const (Value.bool false))
              refine fun a w hC hs => .inl ⟨?_, ?_⟩
              · rfl
              have e110 : a.tmps.getD 110 undef = .bool true := hs.dep 12 _ rfl rfl
              have e113 : a.tmps.getD 113 undef = .bool true := hs.dep 15 _ rfl rfl
              refine ValWp.pure (v := .bool true) (fun K' hK' => ?_) ⟨rfl, hC, Later.refl _⟩
              simp only [ValWp, execOp, Act.eval, e110, e113]
              go_simp
              all_goals exact hK'
            · -- 17: slot 115 := Op.move t114
              refine fun a w hC hs => .inl ⟨?_, ?_⟩
              · rfl
              have e114 : a.tmps.getD 114 undef = .bool true := hs.dep 16 _ rfl rfl
              exact ⟨e114, hC, Later.refl _⟩
            · -- 18: slot 116 := Op.move t14 guarded (17, 'true')
              refine fun a w hC hs => .inl ⟨?_, ?_⟩
              · exact (by unfold Region.wanted; dsimp only; rw [yielded_bool (d := 115) rfl (hs.dep 17 _ rfl rfl)]; rfl)
              have e14 : a.tmps.getD 14 undef = .int .i64 10 := hs.free 14 rfl
              exact ⟨e14, hC, Later.refl _⟩
            · -- 19: slot 117 := Op.binOp BinOp.eql 42 t116 (const (0:i64)) 42 guarded (17, 'true')
              refine fun a w hC hs => .inl ⟨?_, ?_⟩
              · exact (by unfold Region.wanted; dsimp only; rw [yielded_bool (d := 115) rfl (hs.dep 17 _ rfl rfl)]; rfl)
              have e116 : a.tmps.getD 116 undef = .int .i64 10 := hs.dep 18 _ rfl rfl
              refine ValWp.pure (v := .bool false) (fun K' hK' => ?_) ⟨rfl, hC, Later.refl _⟩
              simp only [ValWp, execOp, Act.eval, e116]
              go_simp
              all_goals exact hK'
            · -- 20: slot 118 := Op.move t15 guarded (17, 'true')
              refine fun a w hC hs => .inl ⟨?_, ?_⟩
              · exact (by unfold Region.wanted; dsimp only; rw [yielded_bool (d := 115) rfl (hs.dep 17 _ rfl rfl)]; rfl)
              have e15 : a.tmps.getD 15 undef = .int .i64 (en : Int) := hs.free 15 rfl
              exact ⟨e15, hC, Later.refl _⟩
            · -- 21: slot 119 := Op.move t11 guarded (17, 'true')
              refine fun a w hC hs => .inl ⟨?_, ?_⟩
              · exact (by unfold Region.wanted; dsimp only; rw [yielded_bool (d := 115) rfl (hs.dep 17 _ rfl rfl)]; rfl)
              have e11 : a.tmps.getD 11 undef = .int .i64 (k : Int) := hs.free 11 rfl
              exact ⟨e11, hC, Later.refl _⟩
            · -- 22: slot 120 := Op.binOp BinOp.eql 3 t118 t119 3 guarded (17, 'true')
              refine fun a w hC hs => .inl ⟨?_, ?_⟩
              · exact (by unfold Region.wanted; dsimp only; rw [yielded_bool (d := 115) rfl (hs.dep 17 _ rfl rfl)]; rfl)
              have e118 : a.tmps.getD 118 undef = .int .i64 (en : Int) := hs.dep 20 _ rfl rfl
              have e119 : a.tmps.getD 119 undef = .int .i64 (k : Int) := hs.dep 21 _ rfl rfl
              have hce := HCE.out
              refine ValWp.pure (v := .bool false) (fun K' hK' => ?_) ⟨rfl, hC, Later.refl _⟩
              simp only [ValWp, execOp, Act.eval, e118, e119]
              go_simp
              all_goals exact hK'
            · -- 23: slot 121 := Op.binOp BinOp.eql 4 t117 t120 4 guarded (17, 'true')
              refine fun a w hC hs => .inl ⟨?_, ?_⟩
              · exact (by unfold Region.wanted; dsimp only; rw [yielded_bool (d := 115) rfl (hs.dep 17 _ rfl rfl)]; rfl)
              have e117 : a.tmps.getD 117 undef = .bool false := hs.dep 19 _ rfl rfl
              have e120 : a.tmps.getD 120 undef = .bool false := hs.dep 22 _ rfl rfl
              refine ValWp.pure (v := .bool true) (fun K' hK' => ?_) ⟨rfl, hC, Later.refl _⟩
              simp only [ValWp, execOp, Act.eval, e117, e120]
              go_simp
              all_goals exact hK'
            · -- 24: slot 122 := Op.pick t115 t121 (const (Value.bool false))
              refine fun a w hC hs => .inl ⟨?_, ?_⟩
              · rfl
              have e115 : a.tmps.getD 115 undef = .bool true := hs.dep 17 _ rfl rfl
              have e121 : a.tmps.getD 121 undef = .bool true := hs.dep 23 _ rfl rfl
              refine ValWp.pure (v := .bool true) (fun K' hK' => ?_) ⟨rfl, hC, Later.refl _⟩
              simp only [ValWp, execOp, Act.eval, e115, e121]
              go_simp
              all_goals exact hK'
            · -- 25: slot 123 := Op.move t122
              refine fun a w hC hs => .inl ⟨?_, ?_⟩
              · rfl
              have e122 : a.tmps.getD 122 undef = .bool true := hs.dep 24 _ rfl rfl
              exact ⟨e122, hC, Later.refl _⟩
            · -- 26: slot 124 := Op.move t14 guarded (25, 'true')
              refine fun a w hC hs => .inl ⟨?_, ?_⟩
              · exact (by unfold Region.wanted; dsimp only; rw [yielded_bool (d := 123) rfl (hs.dep 25 _ rfl rfl)]; rfl)
              have e14 : a.tmps.getD 14 undef = .int .i64 10 := hs.free 14 rfl
              exact ⟨e14, hC, Later.refl _⟩
            · -- 27: slot 125 := Op.binOp BinOp.eql 42 t124 (const (0:i64)) 42 guarded (25, 'true')
              refine fun a w hC hs => .inl ⟨?_, ?_⟩
              · exact (by unfold Region.wanted; dsimp only; rw [yielded_bool (d := 123) rfl (hs.dep 25 _ rfl rfl)]; rfl)
              have e124 : a.tmps.getD 124 undef = .int .i64 10 := hs.dep 26 _ rfl rfl
              refine ValWp.pure (v := .bool false) (fun K' hK' => ?_) ⟨rfl, hC, Later.refl _⟩
              simp only [ValWp, execOp, Act.eval, e124]
              go_simp
              all_goals exact hK'
            · -- 28: slot 126 := Op.move t125 guarded (25, 'true')
              refine fun a w hC hs => .inl ⟨?_, ?_⟩
              · exact (by unfold Region.wanted; dsimp only; rw [yielded_bool (d := 123) rfl (hs.dep 25 _ rfl rfl)]; rfl)
              have e125 : a.tmps.getD 125 undef = .bool false := hs.dep 27 _ rfl rfl
              exact ⟨e125, hC, Later.refl _⟩
            · -- 29: slot 127 := Op.move t14 guarded (28, 'false')
              refine fun a w hC hs => .inl ⟨?_, ?_⟩
              · exact (by unfold Region.wanted; dsimp only; rw [yielded_bool (d := 126) rfl (hs.dep 28 _ rfl rfl)]; rfl)
              have e14 : a.tmps.getD 14 undef = .int .i64 10 := hs.free 14 rfl
              exact ⟨e14, hC, Later.refl _⟩
            · -- 30: slot 128 := Op.binOp BinOp.eql 42 t127 (const (10:i64)) 42 guarded (28, 'false')
              refine fun a w hC hs => .inl ⟨?_, ?_⟩
              · exact (by unfold Region.wanted; dsimp only; rw [yielded_bool (d := 126) rfl (hs.dep 28 _ rfl rfl)]; rfl)
              have e127 : a.tmps.getD 127 undef = .int .i64 10 := hs.dep 29 _ rfl rfl
              refine ValWp.pure (v := .bool true) (fun K' hK' => ?_) ⟨rfl, hC, Later.refl _⟩
              simp only [ValWp, execOp, Act.eval, e127]
              go_simp
              all_goals exact hK'
            · -- 31: slot 129 := Op.pick t126 (const (Value.bool true)) t128 guarded (25, 'true')
              refine fun a w hC hs => .inl ⟨?_, ?_⟩
              · exact (by unfold Region.wanted; dsimp only; rw [yielded_bool (d := 123) rfl (hs.dep 25 _ rfl rfl)]; rfl)
              have e126 : a.tmps.getD 126 undef = .bool false := hs.dep 28 _ rfl rfl
              have e128 : a.tmps.getD 128 undef = .bool true := hs.dep 30 _ rfl rfl
              refine ValWp.pure (v := .bool true) (fun K' hK' => ?_) ⟨rfl, hC, Later.refl _⟩
              simp only [ValWp, execOp, Act.eval, e126, e128]
              go_simp
              all_goals exact hK'
            · -- 32: slot 130 := Op.pick t123 t129 (const (Value.bool false))
              refine fun a w hC hs => .inl ⟨?_, ?_⟩
              · rfl
              have e123 : a.tmps.getD 123 undef = .bool true := hs.dep 25 _ rfl rfl
              have e129 : a.tmps.getD 129 undef = .bool true := hs.dep 31 _ rfl rfl
              refine ValWp.pure (v := .bool true) (fun K' hK' => ?_) ⟨rfl, hC, Later.refl _⟩
              simp only [ValWp, execOp, Act.eval, e123, e129]
              go_simp
              all_goals exact hK'
            · -- 33: slot 6 := Op.assign t130
              refine fun a w hC hs => .inl ⟨?_, ?_⟩
              · rfl
              have e130 : a.tmps.getD 130 undef = .bool true := hs.dep 32 _ rfl rfl
              exact ⟨e130, hC, Later.refl _⟩
          · intro a X hC hd hs hf hr
            have e6 : a.tmps.getD 6 undef = .bool true := hr 33 _ rfl
            have hd' : a.defers = [] := hd
            clear hd hs hf hr
            go_wp2
            refine bodyPost_ret (results_tmp rfl _ _ _) hd' ?_
            exact ⟨by rw [e6], Below.trans LB.out (Below.mono hC LB.out.size)⟩
theorem walk (w : World) (s : ByteArray) (hs : s.size ≤ maxLen) (A1 : Option Addr) (n1 c1 : Nat) (xs : List Ans) (h1 : RdA w w.heap.size A1 n1 xs ∧ (∀ x ∈ xs, okA x) ∧ n1 ≤ c1 ∧ c1 ≤ maxLen) (cut : Int) (hcut : (Lit.int .u16 cut).wf = true) :
    Calls Try.prog 5 #[.string s, .slice A1 n1 c1, .int .u16 cut] w fun e w' => e = .returned (.bool true) ∧ Below w.heap.size w w' := by
  obtain ⟨sc, rfl, hsl⟩ := mkS_self s
  obtain ⟨hc1, hc2⟩ := bounds_u16 hcut
  obtain ⟨ct, rfl⟩ := Int.eq_ofNat_of_zero_le hc1
  have h : Args w sc A1 n1 c1 xs := ⟨h1.1, h1.2.1, Nat.le_trans h1.2.2.1 h1.2.2.2, h1.2.2.1, by rw [hsl]; exact hs⟩
  by_cases hf : fewA n1 xs = true
  case neg => exact walkX w sc A1 n1 c1 xs _ h (.inl (by simpa using hf))
  by_cases h4 : 4096 < sc.length
  · exact walkX w sc A1 n1 c1 xs _ h (.inr ⟨hf, h4⟩)
  exact walkM w sc A1 n1 c1 xs ct h hf (by omega) (by omega)
end tapeCuts
end Go.Proofs.Ytemokpnepnmmkaa
