/- THE WALK OF SplitColons: between separators that are no blanks stands a field each. No premises. -/
import Derived.Test.YtghdimcdkjlpcaaJaw
namespace Go.Proofs.Ytghdimcdkjlpcaa
open Go.RowKit Go.Maps
namespace Jo
theorem of_zip (s : L) (m : UInt8) : s.zip (List.replicate s.length m) = of s m := by
  unfold of
  induction s with
  | nil => rfl
  | cons c s ih => rw [List.length_cons, List.replicate_succ, List.zip_cons_cons, ih]; rfl
theorem ft_of (s : L) (m : UInt8) : ft (of s m) = s := by unfold ft of; rw [List.map_map]; exact List.map_id s
theorem fm_of (s : L) (m : UInt8) : fm (of s m) = List.replicate s.length m := by
  unfold fm of
  rw [List.map_map]
  induction s with
  | nil => rfl
  | cons c s ih => rw [List.map_cons, ih]; rfl
theorem colons_app (a b : List L) : colons (a ++ b) = colons a ++ colons b := by
  induction a with
  | nil => rfl
  | cons w a ih => simp only [List.cons_append, colons, ih, List.append_assoc]
theorem colons_take {ts : List L} {k : Nat} (h : k < ts.length) : colons (ts.take (k + 1)) = colons (ts.take k) ++ (ts[k] ++ [58]) := by
  rw [List.take_succ_eq_append_getElem h, colons_app]
  rfl
theorem colons_len : ∀ (ts : List L), (∀ x ∈ ts, x.length ≤ 20) → (colons ts).length ≤ ts.length * 21
  | [], _ => by simp [colons]
  | x :: ts, h => by
    have h1 := h x (List.mem_cons_self ..)
    have h2 := colons_len ts (fun y hy => h y (List.mem_cons_of_mem _ hy))
    simp only [colons, List.length_append, List.length_cons]
    omega
theorem strs_L (l : List ByteArray) : l.map Value.string = (l.map fun s => s.data.toList).map sv := by
  rw [List.map_map]
  refine List.map_congr_left fun s _ => ?_
  show Value.string s = .string (mkS s.data.toList)
  rw [mkS_of]
end Jo
namespace splitColons
open Jo
set_option maxRecDepth 100000 in
set_option maxHeartbeats 6400000 in
theorem walk_m (w : World) (A0 : Option Addr) (n c0 : Nat) (ts : List L) (hr : Rd w w.heap.size A0 n (ts.map sv)) (hsz : ∀ x ∈ ts, x.length ≤ 9223372036854775807) :
    Calls Try.prog 7 #[.slice A0 n c0] w fun e w' => e = .returned (.bool true) ∧ Later w w' := by
  have HAW := Lib.hid (fun W => awake_v W)
  have HR := Lib.hid hr
  have HTN := Lib.hid (show ts.length = n from hr.len_map)
  have HSZ := Lib.hid hsz
  clear hr hsz
  by_cases b0 : n > 30
  · have k0 : (30 : Int) < (n : Int) := by omega
    go_enter Try.func7, Try.ntmps7
    go_wp2_with (go_at_call 8; (with_reducible refine (HAW.out _).mono ?_); rintro e w1 ⟨rfl, hl1⟩; (have HL1 := Lib.hid hl1); (have HR1 := Lib.hid ((HR.out.below hl1).more hl1.size)); clear hl1)
    go_ret
    exact ⟨rfl, HL1.out⟩
  have k0 : ¬ (30 : Int) < (n : Int) := by omega
  go_enter Try.func7, Try.ntmps7
  go_wp2_with (go_at_call 8; (with_reducible refine (HAW.out _).mono ?_); rintro e w1 ⟨rfl, hl1⟩; (have HL1 := Lib.hid hl1); (have HR1 := Lib.hid ((HR.out.below hl1).more hl1.size)); clear hl1)
  go_loopw [4, 5] (fun s4 s5 wr => ∃ i : Nat, s5 = .int .i64 (i : Int) ∧ i ≤ n ∧ s4 = .string (mkS (colons (ts.take i))) ∧ (∀ x ∈ ts.take i, x.length ≤ 20 ∧ ∀ c ∈ x, c ≠ 58) ∧ wr = w1) (fun _ i _ => n - (intOf i).toNat)
  case atStart => exact ⟨0, rfl, Nat.zero_le _, rfl, by simp, rfl⟩
  case round =>
    obtain ⟨i, rfl, hi, rfl, hok, hw⟩ := hrel
    have hw := hw.symm
    subst hw
    have HOK := Lib.hid hok
    clear hok
    have hi0 : (0 : Int) ≤ (i : Int) := by omega
    by_cases hlt : i < n
    · have hi1 : (i : Int) < (n : Int) := by omega
      obtain ⟨ad, hl1, rfl, _, hc⟩ := HR1.out.at_map (k := i) hlt
      obtain ⟨x, hx⟩ : ∃ x, x = ts[i] := ⟨_, rfl⟩
      rw [← hx] at hc
      have hc1 : w1.cell? (ad.add i) = some (.string (mkS x)) := hc
      have hxs : ((mkS x).size : Int) = (x.length : Int) := by rw [mkS_size]
      have HXM := Lib.hid (show x.length ≤ 9223372036854775807 from HSZ.out x (by rw [hx]; exact List.getElem_mem hl1))
      have HTK := Lib.hid (show ts.take (i + 1) = ts.take i ++ [x] by rw [hx]; exact List.take_succ_eq_append_getElem hl1)
      have HCT := Lib.hid (show colons (ts.take (i + 1)) = colons (ts.take i) ++ (x ++ [58]) by rw [hx]; exact colons_take hl1)
      have HCL := Lib.hid (show (colons (ts.take i)).length ≤ 1000 by
        have h1 := colons_len (ts.take i) (fun y hy => (HOK.out y hy).1)
        have h2 : (ts.take i).length ≤ 30 := by rw [List.length_take]; omega
        omega)
      obtain ⟨y, hy⟩ : ∃ y, y = colons (ts.take i) := ⟨_, rfl⟩
      rw [← hy] at HCT HCL ⊢
      clear hc hx hl1 hy
      by_cases b1 : x.length > 20
      · have k1 : (20 : Int) < (x.length : Int) := by omega
        go_wp2
        go_ret
        exact ⟨rfl, HL1.out⟩
      have k1 : ¬ (20 : Int) < (x.length : Int) := by omega
      have HX2 := Lib.hid (show x.length ≤ 20 by omega)
      go_wp2_with fail
      go_loopw [6] (fun s6 wi => ∃ k : Nat, s6 = .int .i64 (k : Int) ∧ k ≤ x.length ∧ (∀ c ∈ x.take k, c ≠ 58) ∧ wi = w1) (fun k _ => x.length - (intOf k).toNat)
      case atStart => exact ⟨0, rfl, Nat.zero_le _, by simp, rfl⟩
      case round =>
        obtain ⟨k, rfl, hk, hno, hw⟩ := hrel
        have hw := hw.symm
        subst hw
        have HNO := Lib.hid hno
        clear hno
        have hk0 : (0 : Int) ≤ (k : Int) := by omega
        have hx20 := HX2.out
        by_cases hkx : k < x.length
        · have hk1 : (k : Int) < (x.length : Int) := by omega
          have hk2 : k < (mkS x).size := by rw [mkS_size]; exact hkx
          obtain ⟨q, hq⟩ : ∃ q, q = (mkS x)[k] := ⟨_, rfl⟩
          have hq2 : x[k] = q := by rw [hq]; exact (mkS_get x k hk2 hkx).symm
          have HTX := Lib.hid (show x.take (k + 1) = x.take k ++ [q] by rw [List.take_succ_eq_append_getElem hkx]; exact congrArg (fun z => x.take k ++ [z]) hq2)
          have hqt : (mkS x)[k] = q := hq.symm
          by_cases h58 : q = 58
          · have f58 : ((q.toNat : Int) == 58) = true := f8 (n := 58) (b := true) (by decide) (by simpa using h58)
            clear hq hq2 h58
            go_wp2
            go_ret
            exact ⟨rfl, HL1.out⟩
          · have f58 : ((q.toNat : Int) == 58) = false := f8 (n := 58) (b := false) (by decide) (by simpa using h58)
            have H58 := Lib.hid h58
            clear hq hq2 h58
            go_wp2
            go_roundw
            case rel =>
              refine ⟨k + 1, by go_num, by omega, ?_, trivial⟩
              intro c hc
              rw [HTX.out] at hc
              rcases List.mem_append.1 hc with hc | hc
              · exact HNO.out c hc
              · rw [List.mem_singleton.1 hc]; exact H58.out
            case measure => simp [intOf]; omega
        · rw [List.take_of_length_le (by omega)] at HNO
          have hsum1 : ¬ 9223372036854775807 < (mkS x).size + 1 := by rw [mkS_size]; omega
          have hsum2 : ¬ 9223372036854775807 < (mkS y).size + ((mkS x).size + 1) := by rw [mkS_size, mkS_size]; have := HCL.out; omega
          go_wp2
          go_roundw
          case rel =>
            refine ⟨i + 1, by go_num, by omega, ?_, ?_, trivial⟩
            · rw [HCT.out, show ({ data := #[58] } : ByteArray) = mkS [58] from rfl, mkS_add, mkS_add]
            · intro z hz
              rw [HTK.out] at hz
              rcases List.mem_append.1 hz with hz | hz
              · exact HOK.out z hz
              · rw [List.mem_singleton.1 hz]; exact ⟨HX2.out, HNO.out⟩
          case measure => simp [intOf]; omega
    · have htk : ts.take i = ts := List.take_of_length_le (by have := HTN.out; omega)
      rw [htk] at HOK ⊢
      obtain ⟨D, hD⟩ : ∃ D, D = colons ts := ⟨_, rfl⟩
      have hDl : D.length ≤ 1000 := by
        have h1 := colons_len ts (fun y hy => (HOK.out y hy).1)
        have := HTN.out
        rw [hD]; omega
      rw [← hD]
      have hz1 : (D.zip (List.replicate D.length (115 : UInt8))).length ≤ 100000 := by rw [List.length_zip, List.length_replicate]; omega
      have hz2 : (D.zip (List.replicate D.length (113 : UInt8))).length ≤ 100000 := by rw [List.length_zip, List.length_replicate]; omega
      have HO1 := Lib.hid (show ∀ W : World, Calls Try.prog 14 #[.string (mkS D), .int .u8 115] W fun e w' => e = .returned (.agg #[.string (mkS D), .string (mkS (List.replicate D.length 115))]) ∧ Later W w' from fun W => of_v D 115 W (by omega))
      have HO2 := Lib.hid (show ∀ W : World, Calls Try.prog 14 #[.string (mkS D), .int .u8 113] W fun e w' => e = .returned (.agg #[.string (mkS D), .string (mkS (List.replicate D.length 113))]) ∧ Later W w' from fun W => of_v D 113 W (by omega))
      have HS1 := Lib.hid (show ∀ W : World, Calls Try.prog 9 #[.agg #[.string (mkS D), .string (mkS (List.replicate D.length 115))], .string ⟨#[58]⟩] W fun e w' => ∃ v, e = .returned v ∧ Later W w' ∧ w'.ownsRow W.heap.size 23 2 v (ts.map fun w => of w 115).length (rows (ts.map fun w => of w 115)) from fun W => by
        have := split_v D (List.replicate D.length 115) [58] W (by omega) hz1
        rw [of_zip, hD, split_colons ts (fun x hx => (HOK.out x hx).2), ← hD] at this
        exact this)
      have HS2 := Lib.hid (show ∀ W : World, Calls Try.prog 9 #[.agg #[.string (mkS D), .string (mkS (List.replicate D.length 113))], .string ⟨#[58]⟩] W fun e w' => ∃ v, e = .returned v ∧ Later W w' ∧ w'.ownsRow W.heap.size 23 2 v (if D = [] then [] else [of D 113] : List Rw).length (rows (if D = [] then [] else [of D 113])) from fun W => by
        have := split_v D (List.replicate D.length 113) [58] W (by omega) hz2
        rw [of_zip, split_q] at this
        exact this)
      have HFL := Lib.hid (show (ts.map fun w => of w 115).length = n by rw [List.length_map]; exact HTN.out)
      have hni : i = n := by omega
      have HDD := Lib.hid hDl
      clear htk hD hz1 hz2 hDl hlt
      have htl : ∀ l : L, (mkS l).toList = l := mkS_toList
      go_wp2_with (first
        | (go_at_call 14; (with_reducible refine (HO1.out _).mono ?_); rintro e w2 ⟨rfl, hl2⟩; (have HL2 := Lib.hid (HL1.out.trans hl2)); (have HR2 := Lib.hid ((HR1.out.below hl2).more hl2.size)); clear hl2)
        | (go_at_call 9; (with_reducible refine (HS1.out _).mono ?_); rintro e w3 ⟨v3, rfl, hl3, ho3⟩; (have hr3 := RdR.of_own ho3); (rw [HFL.out] at ho3); obtain ⟨A7, c7, hv7, _⟩ := own_any ho3; subst hv7; (have HL3 := Lib.hid (HL2.out.trans hl3)); (have HRV := Lib.hid hr3); (have HR3 := Lib.hid ((HR2.out.below hl3).more hl3.size)); clear hl3 ho3 hr3))
      go_loopw [8] (fun s8 wr => ∃ k : Nat, s8 = .int .i64 (k : Int) ∧ k ≤ n ∧ Later w3 wr) (fun k _ => n - (intOf k).toNat)
      case atStart => exact ⟨0, rfl, Nat.zero_le _, Later.refl _⟩
      case round =>
        obtain ⟨k, rfl, hk, hlw⟩ := hrel
        have HLW := Lib.hid hlw
        clear hlw
        have hk0 : (0 : Int) ≤ (k : Int) := by omega
        by_cases hkn : k < n
        · have hk1 : (k : Int) < (n : Int) := by omega
          obtain ⟨g, cg, e, hg, hcc⟩ := HRV.out.at_ (by rw [List.length_map, HFL.out]; omega)
          injection e with e e1 e2
          clear e1
          subst e e2
          obtain ⟨ad, hl1, rfl, hadb, hc⟩ := HR3.out.at_map (k := k) hkn
          obtain ⟨x, hx⟩ : ∃ x, x = ts[k] := ⟨_, rfl⟩
          have p1 := (hcc k (by rw [List.length_map, HFL.out]; exact hkn)).1
          rw [List.getElem_map, List.getElem_map] at p1
          have p1' : w3.cell? ⟨g, k * 2, none⟩ = some (.string (mkS x)) := by rw [p1, hx]; show some (Value.string (mkS (ft (of ts[k] 115)))) = _; rw [ft_of]
          have p2 : w3.cell? (ad.add k) = some (.string (mkS x)) := by rw [hx]; exact hc
          have hxs : ((mkS x).size : Int) = (x.length : Int) := by rw [mkS_size]
          obtain ⟨C0, hC0⟩ : ∃ C0 : Nat → Value → World → Prop, C0 = fun _ _ w9 => w9 = wr.drew := ⟨_, rfl⟩
          have H0 := Lib.hid (show C0 0 undef wr.drew by rw [hC0])
          have hlt3 : ∀ w9, Later wr w9 → w9.cell? ⟨g, k * 2, none⟩ = some (.string (mkS x)) ∧ w9.cell? (ad.add k) = some (.string (mkS x)) := fun w9 hl => ⟨(hl.cell (p := ⟨g, k * 2, none⟩) (Nat.lt_of_lt_of_le hg HLW.out.size)).trans ((HLW.out.cell (p := ⟨g, k * 2, none⟩) hg).trans p1'), (hl.cell (p := ad.add k) (by rw [block_add]; exact Nat.lt_of_lt_of_le hadb HLW.out.size)).trans ((HLW.out.cell (p := ad.add k) (by rw [block_add]; exact hadb)).trans p2)⟩
          have HQ1 := Lib.hid (show ∀ (j : Nat) (u : Value) (w9 : World), C0 j u w9 → w9.cell? ⟨g, k * 2, none⟩ = some (.string (mkS x)) from fun j u w9 h => by rw [hC0] at h; subst h; exact (hlt3 _ (Later.drew wr)).1)
          have HQ2 := Lib.hid (show ∀ (j : Nat) (u : Value) (w9 : World), C0 j u w9 → w9.cell? (ad.add k) = some (.string (mkS x)) from fun j u w9 h => by rw [hC0] at h; subst h; exact (hlt3 _ (Later.drew wr)).2)
          have HE := Lib.hid (show ∀ (u : Value) (w9 : World), C0 0 u w9 → w9 = wr.drew from fun u w9 h => by rw [hC0] at h; exact h)
          clear hC0 hlt3 p1 p1' p2 hc hcc hx hl1
          go_wp2
          refine wp_region_seq (by kernel_rfl) [] (C0) [some (.slice (some ⟨g, 0, none⟩) n c7), some (.int .i64 (k : Int)), some (.pointer (some ⟨g, k * 2, none⟩)), some (.pointer (some ⟨g, k * 2, none⟩)), some (.string (mkS x)), some (.slice (some ad) n c0), some (.int .i64 (k : Int)), some (.pointer (some (ad.add k))), some (.string (mkS x)), some (.bool false)] (by decide) (by decide) (by kernel_rfl) (by kernel_rfl) (H0.out) ?_ ?_
          · refine ⟨?_, ?_, ?_, ?_, ?_, ?_, ?_, ?_, ?_, ?_, trivial⟩
            · -- 0: slot 65 := Op.move t7
              refine OwesS.q rfl fun a w9 j u hC hb hs => ⟨rfl, ?_⟩
              have e7 : a.tmps.getD 7 undef = .slice (some ⟨g, 0, none⟩) n c7 := hs.free 7 rfl
              refine ValWp.pure (v := .slice (some ⟨g, 0, none⟩) n c7) (fun K' hK' => ?_) ⟨rfl, rfl⟩
              simp only [ValWp, execOp, Act.eval, e7]
              go_simp
              all_goals exact hK'
            · -- 1: slot 66 := Op.move t8
              refine OwesS.q rfl fun a w9 j u hC hb hs => ⟨rfl, ?_⟩
              have e8 : a.tmps.getD 8 undef = .int .i64 (k : Int) := hs.free 8 rfl
              refine ValWp.pure (v := .int .i64 (k : Int)) (fun K' hK' => ?_) ⟨rfl, rfl⟩
              simp only [ValWp, execOp, Act.eval, e8]
              go_simp
              all_goals exact hK'
            · -- 2: slot 67 := Op.indexAddr 25 t65 t66
              refine OwesS.q rfl fun a w9 j u hC hb hs => ⟨rfl, ?_⟩
              have e65 : a.tmps.getD 65 undef = .slice (some ⟨g, 0, none⟩) n c7 := hs.dep 0 _ rfl rfl
              have e66 : a.tmps.getD 66 undef = .int .i64 (k : Int) := hs.dep 1 _ rfl rfl
              refine ValWp.pure (v := .pointer (some ⟨g, k * 2, none⟩)) (fun K' hK' => ?_) ⟨rfl, rfl⟩
              simp only [ValWp, execOp, Act.eval, e65, e66]
              go_simp
              all_goals exact hK'
            · -- 3: slot 68 := Op.fieldAddr 23 t67 0
              refine OwesS.q rfl fun a w9 j u hC hb hs => ⟨rfl, ?_⟩
              have e67 : a.tmps.getD 67 undef = .pointer (some ⟨g, k * 2, none⟩) := hs.dep 2 _ rfl rfl
              refine ValWp.pure (v := .pointer (some ⟨g, k * 2, none⟩)) (fun K' hK' => ?_) ⟨rfl, rfl⟩
              simp only [ValWp, execOp, Act.eval, e67]
              go_simp
              all_goals exact hK'
            · -- 4: slot 69 := Op.load 9 t68
              refine OwesS.q rfl fun a w9 j u hC hb hs => ⟨rfl, ?_⟩
              have e68 : a.tmps.getD 68 undef = .pointer (some ⟨g, k * 2, none⟩) := hs.dep 3 _ rfl rfl
              have q0 := HQ1.out j u w9 hC
              refine ValWp.pure (v := .string (mkS x)) (fun K' hK' => ?_) ⟨rfl, rfl⟩
              simp only [ValWp, execOp, Act.eval, e68]
              go_simp
              all_goals exact hK'
            · -- 5: slot 70 := Op.move t0
              refine OwesS.q rfl fun a w9 j u hC hb hs => ⟨rfl, ?_⟩
              have e0 : a.tmps.getD 0 undef = .slice (some ad) n c0 := hs.free 0 rfl
              refine ValWp.pure (v := .slice (some ad) n c0) (fun K' hK' => ?_) ⟨rfl, rfl⟩
              simp only [ValWp, execOp, Act.eval, e0]
              go_simp
              all_goals exact hK'
            · -- 6: slot 71 := Op.move t8
              refine OwesS.q rfl fun a w9 j u hC hb hs => ⟨rfl, ?_⟩
              have e8 : a.tmps.getD 8 undef = .int .i64 (k : Int) := hs.free 8 rfl
              refine ValWp.pure (v := .int .i64 (k : Int)) (fun K' hK' => ?_) ⟨rfl, rfl⟩
              simp only [ValWp, execOp, Act.eval, e8]
              go_simp
              all_goals exact hK'
            · -- 7: slot 72 := Op.indexAddr 39 t70 t71
              refine OwesS.q rfl fun a w9 j u hC hb hs => ⟨rfl, ?_⟩
              have e70 : a.tmps.getD 70 undef = .slice (some ad) n c0 := hs.dep 5 _ rfl rfl
              have e71 : a.tmps.getD 71 undef = .int .i64 (k : Int) := hs.dep 6 _ rfl rfl
              refine ValWp.pure (v := .pointer (some (ad.add k))) (fun K' hK' => ?_) ⟨rfl, rfl⟩
              simp only [ValWp, execOp, Act.eval, e70, e71]
              go_simp
              all_goals exact hK'
            · -- 8: slot 73 := Op.load 9 t72
              refine OwesS.q rfl fun a w9 j u hC hb hs => ⟨rfl, ?_⟩
              have e72 : a.tmps.getD 72 undef = .pointer (some (ad.add k)) := hs.dep 7 _ rfl rfl
              have q0 := HQ2.out j u w9 hC
              refine ValWp.pure (v := .string (mkS x)) (fun K' hK' => ?_) ⟨rfl, rfl⟩
              simp only [ValWp, execOp, Act.eval, e72]
              go_simp
              all_goals exact hK'
            · -- 9: slot 74 := Op.binOp BinOp.neq 9 t69 t73 9
              refine OwesS.q rfl fun a w9 j u hC hb hs => ⟨rfl, ?_⟩
              have e69 : a.tmps.getD 69 undef = .string (mkS x) := hs.dep 4 _ rfl rfl
              have e73 : a.tmps.getD 73 undef = .string (mkS x) := hs.dep 8 _ rfl rfl
              refine ValWp.pure (v := .bool false) (fun K' hK' => ?_) ⟨rfl, rfl⟩
              simp only [ValWp, execOp, Act.eval, e69, e73]
              go_simp
              all_goals exact hK'
          · intro a w9 u hC hl hd hsz hfree hs
            obtain ⟨u65, hu65⟩ : ∃ u, u = a.tmps.getD 65 undef := ⟨_, rfl⟩
            obtain ⟨u66, hu66⟩ : ∃ u, u = a.tmps.getD 66 undef := ⟨_, rfl⟩
            obtain ⟨u67, hu67⟩ : ∃ u, u = a.tmps.getD 67 undef := ⟨_, rfl⟩
            obtain ⟨u68, hu68⟩ : ∃ u, u = a.tmps.getD 68 undef := ⟨_, rfl⟩
            obtain ⟨u69, hu69⟩ : ∃ u, u = a.tmps.getD 69 undef := ⟨_, rfl⟩
            obtain ⟨u70, hu70⟩ : ∃ u, u = a.tmps.getD 70 undef := ⟨_, rfl⟩
            obtain ⟨u71, hu71⟩ : ∃ u, u = a.tmps.getD 71 undef := ⟨_, rfl⟩
            obtain ⟨u72, hu72⟩ : ∃ u, u = a.tmps.getD 72 undef := ⟨_, rfl⟩
            obtain ⟨u73, hu73⟩ : ∃ u, u = a.tmps.getD 73 undef := ⟨_, rfl⟩
            have hal : AllAt a 0 [_, _, _, _, _, _, _, _, _, _, _, _, _, _, _, _, _, _, _, _, _, _, _, _, _, _, _, _, _, _, _, _, _, _, _, _, _, _, _, _, _, _, _, _, _, _, _, _, _, _, _, _, _, _, _, _, _, _, _, _, _, _, _, _, _, u65, u66, u67, u68, u69, u70, u71, u72, u73, .bool false, _, _, _, _, _, _, _, _, _, _, _, _, _, _, _, _, _, _, _, _, _, _, _, _, _, _] := ⟨hfree 0 rfl, hfree 1 rfl, hfree 2 rfl, hfree 3 rfl, hfree 4 rfl, hfree 5 rfl, hfree 6 rfl, hfree 7 rfl, hfree 8 rfl, hfree 9 rfl, hfree 10 rfl, hfree 11 rfl, hfree 12 rfl, hfree 13 rfl, hfree 14 rfl, hfree 15 rfl, hfree 16 rfl, hfree 17 rfl, hfree 18 rfl, hfree 19 rfl, hfree 20 rfl, hfree 21 rfl, hfree 22 rfl, hfree 23 rfl, hfree 24 rfl, hfree 25 rfl, hfree 26 rfl, hfree 27 rfl, hfree 28 rfl, hfree 29 rfl, hfree 30 rfl, hfree 31 rfl, hfree 32 rfl, hfree 33 rfl, hfree 34 rfl, hfree 35 rfl, hfree 36 rfl, hfree 37 rfl, hfree 38 rfl, hfree 39 rfl, hfree 40 rfl, hfree 41 rfl, hfree 42 rfl, hfree 43 rfl, hfree 44 rfl, hfree 45 rfl, hfree 46 rfl, hfree 47 rfl, hfree 48 rfl, hfree 49 rfl, hfree 50 rfl, hfree 51 rfl, hfree 52 rfl, hfree 53 rfl, hfree 54 rfl, hfree 55 rfl, hfree 56 rfl, hfree 57 rfl, hfree 58 rfl, hfree 59 rfl, hfree 60 rfl, hfree 61 rfl, hfree 62 rfl, hfree 63 rfl, hfree 64 rfl, hu65.symm, hu66.symm, hu67.symm, hu68.symm, hu69.symm, hu70.symm, hu71.symm, hu72.symm, hu73.symm, hs 9 _ rfl, hfree 75 rfl, hfree 76 rfl, hfree 77 rfl, hfree 78 rfl, hfree 79 rfl, hfree 80 rfl, hfree 81 rfl, hfree 82 rfl, hfree 83 rfl, hfree 84 rfl, hfree 85 rfl, hfree 86 rfl, hfree 87 rfl, hfree 88 rfl, hfree 89 rfl, hfree 90 rfl, hfree 91 rfl, hfree 92 rfl, hfree 93 rfl, hfree 94 rfl, hfree 95 rfl, hfree 96 rfl, hfree 97 rfl, hfree 98 rfl, hfree 99 rfl, hfree 100 rfl, trivial⟩
            have hlit := fun h => act_lit hd h hal
            rw [hlit hsz]
            simp only [Array.getD_eq_getD_getElem?, List.getElem?_toArray, List.getElem?_cons_zero, List.getElem?_cons_succ, Option.getD_some]
            clear hlit hal hd hsz hfree hs hu65 hu66 hu67 hu68 hu69 hu70 hu71 hu72 hu73

            have hw9 := (HE.out u w9 hC).symm
            subst hw9
            clear hC hl
            go_wp2
            go_roundw
            case rel => exact ⟨k + 1, by go_num, by omega, HLW.out.trans (Later.drew wr)⟩
            case measure => simp [intOf]; omega
        · have HLA := Lib.hid (HL3.out.trans HLW.out)
          by_cases hDe : D = []
          · subst hDe
            rw [if_pos rfl] at HS2
            have HO3 := Lib.hid (show ∀ W : World, Calls Try.prog 14 #[.string (mkS []), .int .u8 113] W fun e w' => e = .returned (.agg #[.string (mkS []), .string (mkS [])]) ∧ Later W w' from HO2.out)
            have HS3 := Lib.hid (show ∀ W : World, Calls Try.prog 9 #[.agg #[.string (mkS []), .string (mkS [])], .string ⟨#[58]⟩] W fun e w' => ∃ v, e = .returned v ∧ Later W w' ∧ w'.ownsRow W.heap.size 23 2 v 0 [] from HS2.out)
            clear HO2 HS2
            go_wp2_with (first
              | (go_at_call 14; (with_reducible refine (HO3.out _).mono ?_); rintro e w4 ⟨rfl, hl4⟩; (have HL4 := Lib.hid (HLA.out.trans hl4)); clear hl4)
              | (go_at_call 9; (with_reducible refine (HS3.out _).mono ?_); rintro e w5 ⟨v5, rfl, hl5, ho5⟩; obtain ⟨A9, c9, hv9, _⟩ := own_any ho5; subst hv9; (have HL5 := Lib.hid (HL4.out.trans hl5)); clear hl5 ho5))
            go_ret
            exact ⟨rfl, HL5.out⟩
          · rw [if_neg hDe] at HS2
            have hDb : (D == []) = false := by simpa using hDe
            go_wp2_with (first
              | (go_at_call 14; (with_reducible refine (HO2.out _).mono ?_); rintro e w4 ⟨rfl, hl4⟩; (have HL4 := Lib.hid (HLA.out.trans hl4)); clear hl4)
              | (go_at_call 9; (with_reducible refine (HS2.out _).mono ?_); rintro e w5 ⟨v5, rfl, hl5, ho5⟩; (have hr5 := RdR.of_own ho5); obtain ⟨g5, c5, hv5, _, hcc5⟩ := hr5.at_ (by simp); (have q5 := (hcc5 0 (by simp)).1); (have q5' : w5.cell? ⟨g5, 0, none⟩ = some (.string (mkS D)) := by rw [show (⟨g5, 0, none⟩ : Addr) = ⟨g5, 0 * 2, none⟩ from rfl, q5]; show some (Value.string (mkS (ft (of D 113)))) = _; rw [ft_of]); subst hv5; (have HL5 := Lib.hid (HL4.out.trans hl5)); clear hl5 ho5 hr5 q5 hcc5))
            go_ret
            exact ⟨rfl, HL5.out⟩
theorem walk (w : World) (A : Option Addr) (n c : Nat) (l : List ByteArray) (h : Rd w w.heap.size A n (l.map Value.string) ∧ (∀ s ∈ l, s.size ≤ maxLen) ∧ n ≤ c ∧ c ≤ maxLen) :
    Calls Try.prog 7 #[.slice A n c] w fun e w' => e = .returned (.bool true) ∧ Below w.heap.size w w' := by
  obtain ⟨h1, h2, _, _⟩ := h
  rw [strs_L] at h1
  refine walk_m w A n c _ h1 fun x hx => ?_
  obtain ⟨s, hs, rfl⟩ := List.mem_map.1 hx
  exact h2 s hs
end splitColons
end Go.Proofs.Ytghdimcdkjlpcaa
