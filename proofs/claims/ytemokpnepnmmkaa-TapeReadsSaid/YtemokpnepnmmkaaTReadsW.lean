/- The walk of TapeReads: whatever the script, the answers, the cut and the rows are, the call returns true. -/
import Derived.Test.YtemokpnepnmmkaaMx
import Derived.Test.YtemokpnepnmmkaaMe
namespace Go.Proofs.Ytemokpnepnmmkaa
namespace tapeReads
open Go.RowKit
theorem tape_len (bs : List UInt8) : (tapeM bs).2.1.length ≤ bs.length := by
  have h1 := scan_count bs.length bs
  unfold tapeM
  split
  · simp
  · rename_i h rows he
    rw [he, List.length_cons] at h1
    have h2 := toldsM_len rows
    split
    · split
      · dsimp only; omega
      · dsimp only; omega
    · simp
abbrev Args (w : World) (sc : List UInt8) (A1 : Option Addr) (n1 : Nat) (xs : List Ans) (A3 : Option Addr) (n3 : Nat) (ls : List (List UInt8)) : Prop :=
  RdA w w.heap.size A1 n1 xs ∧ (∀ x ∈ xs, okA x) ∧ n1 ≤ maxLen ∧ RdL w w.heap.size A3 n3 ls ∧ n3 ≤ 9223372036854775807 ∧ sc.length ≤ 9223372036854775807
theorem fits_few {n : Nat} {xs : List Ans} (h : fewA n xs = true) (ho : ∀ x ∈ xs, okA x) : (∀ x ∈ xs, fitA x ∧ ∀ r ∈ x.l, r.length ≤ 100000000) ∧ n ≤ 40 ∧ ((∀ x ∈ xs, (tellX x).length ≤ 3000)) := by
  obtain ⟨h1, h2⟩ := fewA_yes h
  refine ⟨fun x hx => ?_, h1, fun x hx => (short_tell x (h2 x hx) (ho x hx)).2⟩
  have h3 := short_tell x (h2 x hx) (ho x hx)
  obtain ⟨a, b, c⟩ := h2 x hx
  exact ⟨⟨ho x hx, by omega, by omega, by omega⟩, fun r hr => by have := c r hr; omega⟩
set_option maxRecDepth 100000 in
theorem walkX (w : World) (sc : List UInt8) (A1 : Option Addr) (n1 c1 : Nat) (xs : List Ans) (cut : Int) (A3 : Option Addr) (n3 c3 : Nat) (ls : List (List UInt8)) (h : Args w sc A1 n1 xs A3 n3 ls) (hx : fewA n1 xs = false ∨ (fewA n1 xs = true ∧ 4096 < sc.length) ∨ (fewA n1 xs = true ∧ ¬ 4096 < sc.length ∧ 9 < n3)) :
    Calls Try.prog 4 #[.string (mkS sc), .slice A1 n1 c1, .int .u16 cut, .slice A3 n3 c3] w fun e w' => e = .returned (.bool true) ∧ Below w.heap.size w w' := by
  have H := Lib.hid h
  have hz := mkS_size sc
  obtain ⟨k, hk⟩ : ∃ k, sc.length = k := ⟨_, rfl⟩
  rw [hk] at hz hx
  clear h hk
  rcases hx with hx | ⟨hx, h2⟩ | ⟨hx, h2, h3⟩
  all_goals
    go_enter Try.func4, Try.ntmps4
    go_wp2_with (first
      | (go_at_call 8; (with_reducible refine (tapeAwake_v _).mono ?_); rintro e w1 ⟨rfl, hb1⟩; have HB1 := Lib.hid hb1; clear hb1)
      | (go_at_call 9; (with_reducible refine (fewA_v _ _ _ xs w1 (H.out.1.later HB1.out) H.out.2.2.1).mono ?_); rintro e w2 ⟨rfl, rfl⟩; rw [hx]))
    go_ret
    exact ⟨rfl, HB1.out⟩
attribute [local go_sem ↓] Go.wp_at_zero Go.wp_at_succ
set_option maxRecDepth 100000 in
set_option maxHeartbeats 2000000 in
theorem walkM (w : World) (sc : List UInt8) (A1 : Option Addr) (n1 c1 : Nat) (xs : List Ans) (ct : Nat) (A3 : Option Addr) (n3 c3 : Nat) (ls : List (List UInt8)) (h : Args w sc A1 n1 xs A3 n3 ls) (hx : fewA n1 xs = true) (h4 : sc.length ≤ 4096) (h9 : n3 ≤ 9) (hct : ct < 65536) :
    Calls Try.prog 4 #[.string (mkS sc), .slice A1 n1 c1, .int .u16 (ct : Int), .slice A3 n3 c3] w fun e w' => e = .returned (.bool true) ∧ Below w.heap.size w w' := by
  obtain ⟨i0, hi, hz0, hz1, hz2⟩ := info_parts info_u8
  obtain ⟨k1, k2, k3⟩ := fits_few hx h.2.1
  have hz := mkS_size sc
  obtain ⟨L, hL⟩ : ∃ L, L = frameL (markL ++ sc) ++ bodyL xs := ⟨_, rfl⟩
  have hLl : L.length ≤ 140000 ∧ 0 < L.length := by
    have h1 := frameL_len (markL ++ sc)
    have h2 : (markL ++ sc).length = 14 + sc.length := by rw [List.length_append]; rfl
    have h3 := numL_ten (show (markL ++ sc).length < 18446744073709551616 by omega)
    have h5 := bodyL_small xs k3
    have h6 : xs.length ≤ 40 := by rw [h.1.1]; exact k2
    rw [hL, List.length_append]; omega
  have cn := fun W => wnew_v sc W h4
  have ca := fun B g v W hw hB hr => wadd_v B g v (frameL (markL ++ sc)) A1 n1 c1 xs W hw hB hr h.2.2.1 (fun x hx => (k1 x hx).1) (by have := hLl.1; rw [hL, List.length_append] at this; omega)
  rw [← hL] at ca
  have cb := fun B g v W hw => wbytes_k (B := B) (g := g) (v := v) (L := L) W hw hLl.2 (by omega)
  have hLc : L.length ≤ 140000 := hLl.1
  obtain ⟨m, hm⟩ : ∃ m, L.length = m := ⟨_, rfl⟩
  obtain ⟨k, hk⟩ : ∃ k : Nat, (ct : Int) % ((m : Int) + 1) = (k : Int) := ⟨((ct : Int) % ((m : Int) + 1)).toNat, by have := Int.emod_nonneg (ct : Int) (show (m : Int) + 1 ≠ 0 by omega); omega⟩
  have hkm : k ≤ m := by have := Int.emod_lt_of_pos (ct : Int) (show (0 : Int) < (m : Int) + 1 by omega); omega
  rw [hm] at hLc cb
  have hctw : IntKind.i64.wrap (ct : Int) = (ct : Int) := by rw [IntKind.wrap_i64]; omega
  have hmw := wrap64_v (x := (m : Int) + 1) (by omega) (by omega)
  have PK := Lib.hid (And.intro cn (And.intro ca cb))
  have H := Lib.hid h
  have HM := Lib.hid (And.intro hm hLc)
  obtain ⟨sz, hsz⟩ : ∃ z, sc.length = z := ⟨_, rfl⟩
  rw [hsz] at hz h4
  have h4i : ¬ 4096 < sz := by omega
  have h9i : ¬ 9 < n3 := by omega
  clear cn ca cb h k1 k2 k3 hLl hm hL hsz h4
  go_enter Try.func4, Try.ntmps4
  go_wp2_with (first
    | (go_at_call 8; (with_reducible refine (tapeAwake_v _).mono ?_); rintro e w1 ⟨rfl, hb1⟩; have HB1 := Lib.hid hb1; clear hb1)
    | (go_at_call 9; (with_reducible refine (fewA_v _ _ _ xs w1 (H.out.1.later HB1.out) H.out.2.2.1).mono ?_); rintro e w2 ⟨rfl, rfl⟩; rw [hx]))
  go_loop [11] (fun i => ∃ j : Nat, j ≤ n3 ∧ i = .int .i64 (j : Int) ∧ ∀ (t : Nat) (h : t < ls.length), t < j → ls[t].length ≤ 600) (fun i => n3 - (intOf i).toNat)
  case atStart => exact ⟨0, by omega, rfl, fun j _ h => by omega⟩
  case round =>
    obtain ⟨j, hj, rfl, hall⟩ := hrel
    have HALL := Lib.hid hall
    clear hall
    have hj0 : (0 : Int) ≤ (j : Int) := by omega
    by_cases hjn : j < n3
    · have hjl : j < ls.length := by rw [H.out.2.2.2.1.1]; exact hjn
      obtain ⟨ad, A', n', c', rfl, hb, hc, hr', hcm⟩ := (H.out.2.2.2.1.later HB1.out).2 j hjl
      have hlen' := hr'.len
      have HR' := Lib.hid hlen'
      clear hr' hlen' hcm
      have hj1 : (j : Int) < (n3 : Int) := by omega
      by_cases h6 : 600 < n'
      · go_wp2
        go_ret
        exact ⟨rfl, HB1.out⟩
      · go_wp2
        go_round
        case rel => exact ⟨j + 1, by omega, by go_num, fun t ht htj => by
          by_cases e : t = j
          · subst e; have := HR'.out; omega
          · exact HALL.out t ht (by omega)⟩
        case measure => simp [intOf]; omega
    · have h600 : ∀ r ∈ ls, r.length ≤ 600 := fun r hr => by
        obtain ⟨t, ht, rfl⟩ := List.getElem_of_mem hr
        exact HALL.out t ht (by have := H.out.2.2.2.1.1; omega)
      have hfs := frames_small h600
      have hlsl : ls.length ≤ 9 := by rw [H.out.2.2.2.1.1]; exact h9
      have cput := fun W (hW : Below w.heap.size w W) => putF_v A3 n3 c3 w.heap.size ls W (H.out.2.2.2.1.keep hW) hW.size (by omega) (fun r hr => by have := h600 r hr; omega) (by omega)
      obtain ⟨F, hF⟩ : ∃ F, F = ls.flatMap frameL := ⟨_, rfl⟩
      rw [← hF] at cput hfs
      have CPUT := Lib.hid cput
      have HFL := Lib.hid (show F.length ≤ 6000 by omega)
      clear h600 hfs hlsl cput hF HALL
      go_wp2_with (first
        | (go_at_call 10; (with_reducible refine (PK.out.1 _).mono ?_); rintro e w3 ⟨g, v, rfl, hw3, hl3⟩; have W3 := Lib.hid hw3; have L3 := Lib.hid (Below.trans HB1.out (Below.mono hl3 HB1.out.size)); have HA := Lib.hid (((H.out.1.later HB1.out).below hl3).apart (S := wS g v) hl3.size hw3.high); have HS3 := Lib.hid hl3.size; clear hw3 hl3)
        | (go_at_call 11; (with_reducible refine (PK.out.2.1 _ _ _ _ W3.out HS3.out HA.out).mono ?_); rintro e w4 ⟨v4, rfl, hw4, ho4, hm4⟩; have W4 := Lib.hid hw4; have L4 := Lib.hid (Below.trans L3.out (ho4.below L3.out.size fun i hi => Nat.le_trans HB1.out.size (W3.out.high i hi))); clear hw4 ho4 hm4)
        | (go_at_call 12; (with_reducible refine (PK.out.2.2 _ _ _ _ W4.out).mono ?_); rintro e w5 ⟨A5, c5, rfl, hm5, hl5, hr5, hc5, hx5⟩; have L5 := Lib.hid (Below.trans L4.out (Below.mono hl5 L4.out.size)); have R5 := Lib.hid (And.intro hr5 (And.intro hc5 hx5)); have hki0 : (0 : Int) ≤ (k : Int) := (by omega); have hki1 : (k : Int) ≤ (c5 : Int) := (by omega); have hr5k := hr5.take_ hkm; rw [← List.map_take] at hr5k; have R5k := Lib.hid hr5k; clear hm5 hl5 hr5 hc5 hx5 hr5k)
        | (at_builtin; refine wpList_appN w5 rfl (.tmp 60) (.tmp 68) _ rfl w5.heap.size 5 i0 (.int .u8 0) 1 Try.underlying28 hi hz0 hz1 hz2 rfl (.slice none 0 0) [] rfl (World.ownsRow_nil w5 _ _ 1) _ A5 k c5 ((L.take k).map bv) rfl R5k.out (bv_one _) ?hby ?hle (Nat.le_refl _) ?_; (case hby => simp only [List.length_nil]; omega); (case hle => simp only [List.length_nil]; omega); intro v6 w6 hg6; rw [List.nil_append] at hg6; have HG6 := Lib.hid hg6; have L6 := Lib.hid (Below.trans L5.out (hg6.belowNil.mono L5.out.size)); clear hg6)
        | (go_at_call 17; (with_reducible refine (CPUT.out _ L6.out).mono ?_); rintro e w7 ⟨v7, rfl, hg7⟩; have HG7 := Lib.hid (HG6.out.then_ hg7.belowNil); obtain ⟨A7, c7, rfl, h71, h72, h73⟩ := own_map hg7.own; have R7 := Lib.hid h72; have HS7 := Lib.hid (Nat.le_trans HG6.out.grown.size hg7.grown.size); clear hg7 h71 h72 h73)
        | (at_builtin; refine wpList_appN w7 rfl (.tmp 70) (.tmp 72) _ rfl w5.heap.size 5 i0 (.int .u8 0) 1 Try.underlying28 hi hz0 hz1 hz2 rfl v6 _ rfl HG7.out.own _ A7 F.length c7 (F.map bv) rfl R7.out (bv_one _) ?hby2 ?hle2 HS7.out ?_; (case hby2 => have := HFL.out; have := HM.out; simp only [List.length_map, List.length_take]; omega); (case hle2 => have := HFL.out; have := HM.out; simp only [List.length_map, List.length_take]; omega); intro v8 w8 hg8; have hg9 := HG7.out.trans hg8; rw [← List.map_append] at hg9; obtain ⟨D, hD⟩ : ∃ D, D = L.take k ++ F := ⟨_, rfl⟩; rw [← hD] at hg9; have hDl := Lib.hid (show D.length ≤ 150000 by have := HFL.out; have := HM.out; rw [hD, List.length_append, List.length_take]; omega); clear hD; have L8 := Lib.hid (Below.trans L5.out (hg9.belowNil.mono L5.out.size)); have HG8 := Lib.hid hg9; obtain ⟨A8, c8, rfl, h81, h82, h83, h84⟩ := own_mapC hg9.own; have R8 := Lib.hid (And.intro h83 (And.intro h81 h82)); clear hg8 hg9 h81 h82 h83 h84))
      obtain ⟨n8, hn8⟩ : ∃ n, D.length = n := ⟨_, rfl⟩
      rw [hn8] at R8 hDl ⊢
      have HN8 := Lib.hid hn8
      clear hn8
      go_loopw [14, 15] (fun v i wr => ∃ (j n : Nat) (A : Option Addr) (c : Nat) (D : List UInt8), j ≤ 2 ∧ i = .int .i64 (j : Int) ∧ v = .slice A n c ∧ D.length = n ∧ n ≤ 150000 ∧ Rd wr wr.heap.size A n (D.map bv) ∧ n ≤ c ∧ c ≤ maxLen ∧ Below w.heap.size w wr) (fun _ i _ => 2 - (intOf i).toNat)
      case atStart => exact ⟨0, n8, A8, c8, D, by omega, rfl, rfl, HN8.out, hDl.out, R8.out.1, R8.out.2.1, R8.out.2.2, L8.out⟩
      case round =>
        clear HG6 HG7 HG8 R8 R7 R5 R5k W3 W4 HA HS3 HS7 hDl L8 PK
        obtain ⟨j2, n, A, c, D2, hj2, rfl, rfl, hD2, hn, hrd, hc, hcx, hbel⟩ := hrel
        have HBL := Lib.hid hbel
        by_cases hjn2 : j2 < 2
        · obtain ⟨⟨S, R, m2, e2⟩, hres⟩ : ∃ z, tapeM D2 = z := ⟨_, rfl⟩
          have hRl : R.length ≤ maxLen := by have := tape_len D2; rw [hres] at this; dsimp only at this; unfold maxLen; omega
          have cr := readT_k hres A n c wr hrd (by omega) hc hcx
          have crr := fun W => refReadT_k hres W (by omega)
          have cs := fun A A' c c' W h h' => same_v A A' R.length c c' R W h h' hRl
          have hcv := fun W (h : Later wr W) => run_str_of (P := Try.prog) (rd_later hrd h) 28 9 5 Try.underlying28 Try.underlying5 Try.underlying9 c
          have PQ := Lib.hid (And.intro cr (And.intro crr (And.intro cs hcv)))
          clear cr crr cs hcv hrd hres hD2 hbel hRl
          go_wp2_with (first
            | (go_at_call 18; (with_reducible refine PQ.out.1.mono ?_); rintro e w9 ⟨A9, c9, rfl, hl9, hr9, hc9⟩; have hcv9 := PQ.out.2.2.2 _ (Later.trans hl9 (Later.alloc w9 (.cells #[.string (mkS S), .slice A9 R.length c9] 41))); have L9 := Lib.hid (Later.trans hl9 (Later.alloc w9 (.cells #[.string (mkS S), .slice A9 R.length c9] 41))); have R9 := Lib.hid (hr9.later (Later.alloc w9 (.cells #[.string (mkS S), .slice A9 R.length c9] 41))); clear hl9 hr9 hc9)
            | (go_at_call 19; (with_reducible refine (PQ.out.2.1 _).mono ?_); rintro e w10 ⟨A10, c10, rfl, hl10, hr10, hc10⟩; have hl11 := Later.trans hl10 (Later.alloc w10 (.cells #[.string (mkS S), .slice A10 R.length c10] 45)); have L10 := Lib.hid (Later.trans L9.out hl11); have R10 := Lib.hid (R9.out.later hl11); have R11 := Lib.hid (hr10.later (Later.alloc w10 (.cells #[.string (mkS S), .slice A10 R.length c10] 45))); obtain ⟨x0, x1⟩ := tape_cells w9 (.string (mkS S)) (.slice A9 R.length c9) _ hl11; clear hl10 hl11 hr10 hc10 hcv9)
            | (go_at_call 20; (with_reducible refine (PQ.out.2.2.1 A9 A10 c9 c10 _ R10.out R11.out).mono ?_); rintro e w12 ⟨rfl, hl12⟩; have L12 := Lib.hid (Below.trans HBL.out (Below.mono (Later.trans L10.out hl12) HBL.out.size)); clear hl12)
            | (go_at_call 17; (with_reducible refine (CPUT.out _ L12.out).mono ?_); rintro e w13 ⟨v13, rfl, hg13⟩; have L13 := Lib.hid (Below.trans L12.out (hg13.belowNil.mono L12.out.size)); obtain ⟨A13, c13, rfl, h131, h132, h133, _⟩ := own_mapC hg13.own; have R13 := Lib.hid (And.intro h133 (And.intro h131 h132)); clear hg13 h131 h132 h133))
          go_roundw
          case rel => exact ⟨j2 + 1, F.length, A13, c13, F, by omega, by go_num, rfl, rfl, by have := HFL.out; omega, R13.out.1, R13.out.2.1, R13.out.2.2, L13.out⟩
          case measure => simp [intOf]; omega
        · have hjn3 : ¬ (j2 : Int) < 2 := by omega
          clear hrd hbel
          go_wp2
          go_ret
          exact ⟨rfl, HBL.out⟩
theorem walk (w : World) (s : ByteArray) (hs : s.size ≤ maxLen) (A1 : Option Addr) (n1 c1 : Nat) (xs : List Ans) (h1 : RdA w w.heap.size A1 n1 xs ∧ (∀ x ∈ xs, okA x) ∧ n1 ≤ c1 ∧ c1 ≤ maxLen) (cut : Int) (hcut : (Lit.int .u16 cut).wf = true) (A3 : Option Addr) (n3 c3 : Nat) (ls : List (List UInt8)) (h3 : RdL w w.heap.size A3 n3 ls ∧ n3 ≤ c3 ∧ c3 ≤ maxLen) :
    Calls Try.prog 4 #[.string s, .slice A1 n1 c1, .int .u16 cut, .slice A3 n3 c3] w fun e w' => e = .returned (.bool true) ∧ Below w.heap.size w w' := by
  obtain ⟨sc, rfl, hsl⟩ := mkS_self s
  obtain ⟨hc1, hc2⟩ := bounds_u16 hcut
  obtain ⟨ct, rfl⟩ := Int.eq_ofNat_of_zero_le hc1
  have h : Args w sc A1 n1 xs A3 n3 ls := ⟨h1.1, h1.2.1, Nat.le_trans h1.2.2.1 h1.2.2.2, h3.1, Nat.le_trans h3.2.1 h3.2.2, by rw [hsl]; exact hs⟩
  by_cases hf : fewA n1 xs = true
  case neg => exact walkX w sc A1 n1 c1 xs _ A3 n3 c3 ls h (.inl (by simpa using hf))
  by_cases h4 : 4096 < sc.length
  · exact walkX w sc A1 n1 c1 xs _ A3 n3 c3 ls h (.inr (.inl ⟨hf, h4⟩))
  by_cases h9 : 9 < n3
  · exact walkX w sc A1 n1 c1 xs _ A3 n3 c3 ls h (.inr (.inr ⟨hf, h4, h9⟩))
  exact walkM w sc A1 n1 c1 xs ct A3 n3 c3 ls h hf (by omega) (by omega) (by omega)
end tapeReads
end Go.Proofs.Ytemokpnepnmmkaa
