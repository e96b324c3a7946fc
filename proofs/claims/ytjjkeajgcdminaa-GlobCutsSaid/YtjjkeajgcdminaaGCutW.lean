/- GlobCuts: the walk of its text. No premises. -/
import Derived.Test.YtjjkeajgcdminaaGrp
import Derived.Test.YtjjkeajgcdminaaGPlaiW
import Derived.BigQuiet
namespace Go.Proofs.Ytjjkeajgcdminaa
open Go.RowKit Go.Maps
namespace Gl
theorem upto_some (l d : Bool) (g : List Sg) (s : L) : ∀ n, ∃ v, Upto l d g s n v
  | 0 => ⟨none, upto_zero⟩
  | n + 1 => by
    obtain ⟨v, hv⟩ := upto_some l d g s n
    by_cases h : QC d g s n
    · cases v with
      | none => exact ⟨_, upto_new hv h (.inl rfl)⟩
      | some p =>
        cases l with
        | true => exact ⟨_, upto_new hv h (.inr rfl)⟩
        | false => exact ⟨_, upto_old hv⟩
    · exact ⟨_, upto_no hv h⟩
theorem pick_len (t m : L) (ns : List L) : (pick t m ns).length ≤ ns.length := by
  unfold pick picked
  refine Nat.le_trans (Go.Lib.compact_length_le _) ?_
  rw [List.length_mergeSort]
  exact List.length_filter_le ..
end Gl
/-- Both cut the same. -/
theorem cuts_one (s t m : Gl.L) (d l : Bool) (ht : t.length ≤ 4096) (hs : s.length ≤ 4096) : ∃ C : Gl.L, (∀ W, Calls Try.prog 14 #[.string (mkS s), .agg #[.string (mkS t), .string (mkS m)], .bool d, .bool l] W fun e w' => e = .returned (.string (mkS C)) ∧ Later W w') ∧ (∀ W, Calls Try.prog 15 #[.string (mkS s), .string (mkS t), .string (mkS m), .bool d, .bool l] W fun e w' => e = .returned (.string (mkS C)) ∧ Later W w') := by
  obtain ⟨v0, h0⟩ := Gl.upto_some l d (Gl.sgF t m 0) s (s.length + 1)
  have h1 := Gl.upto_all h0
  refine ⟨Gl.cutOf d s v0, fun W => ?_, fun W => ?_⟩
  · refine (Gs.Cut_v s t m d l W (by omega) (by omega)).mono ?_
    rintro e w' ⟨v, rfl, hv, hl⟩
    rw [Gl.Best.one hv h1]
    exact ⟨rfl, hl⟩
  · refine (Gr.Cut_v s t m d l W ht hs).mono ?_
    rintro e w' ⟨v, rfl, hv, hl⟩
    rw [Gl.Best.one hv h1]
    exact ⟨rfl, hl⟩
namespace globCuts
open Gs
set_option maxRecDepth 100000 in
set_option maxHeartbeats 6400000 in
theorem walkL (s t m : L) (ns : List L) (A : Option Addr) (n c : Nat) (ht : t.length ≤ maxLen) (w0 : World) (hr : Rd w0 w0.heap.size A n (ns.map sv)) : Calls Try.prog 4 #[.string (mkS s), .agg #[.string (mkS t), .string (mkS m)], .slice A n c] w0 fun e w' => e = .returned (.bool true) ∧ Below w0.heap.size w0 w' := by
  have HA := Lib.hid (fun W => awake_v W)
  have HFE := Lib.hid (fun W => few_v t m W (by unfold maxLen at ht; omega))
  have hsi : ((mkS s).size : Int) = (s.length : Int) := by rw [mkS_size]
  have HL := Lib.hid (Later.alloc w0 (.cells #[.string (mkS t), .string (mkS m)] 23))
  have HB := Lib.hid (Box.new w0 t m)
  have HRD := Lib.hid hr
  have HLEN := Lib.hid (show ns.length = n from hr.len_map)
  clear ht hr
  cases hfw : Gl.few t with
  | false =>
    rw [hfw] at HFE
    clear hfw
    go_enter Try.func4, Try.ntmps4
    go_wp2_with (first
      | (go_at_call 8; (with_reducible refine (HA.out _).mono ?_); rintro e w1 ⟨rfl, hl1⟩; (have HL1 := Lib.hid (HL.out.trans hl1)); (have HB1 := Lib.hid (HB.out.later hl1)); obtain ⟨c0, c1⟩ := HB1.out.cells; clear hl1)
      | (go_at_call 9; (with_reducible refine (HFE.out _).mono ?_); rintro e w2 ⟨rfl, hl2⟩; (have HL2 := Lib.hid (HL1.out.trans hl2)); (have HB2 := Lib.hid (HB1.out.later hl2)); clear hl2 c0 c1))
    go_ret
    exact ⟨rfl, HL2.out⟩
  | true =>
    rw [hfw] at HFE
    have ht20 := Gl.few_len hfw
    clear hfw
    by_cases h16 : (16 : Int) < (s.length : Int)
    · clear ht20
      go_enter Try.func4, Try.ntmps4
      go_wp2_with (first
        | (go_at_call 8; (with_reducible refine (HA.out _).mono ?_); rintro e w1 ⟨rfl, hl1⟩; (have HL1 := Lib.hid (HL.out.trans hl1)); (have HB1 := Lib.hid (HB.out.later hl1)); obtain ⟨c0, c1⟩ := HB1.out.cells; clear hl1)
        | (go_at_call 9; (with_reducible refine (HFE.out _).mono ?_); rintro e w2 ⟨rfl, hl2⟩; (have HL2 := Lib.hid (HL1.out.trans hl2)); (have HB2 := Lib.hid (HB1.out.later hl2)); clear hl2 c0 c1))
      go_ret
      exact ⟨rfl, HL2.out⟩
    · by_cases hn20 : (20 : Int) < (n : Int)
      · clear ht20
        go_enter Try.func4, Try.ntmps4
        go_wp2_with (first
          | (go_at_call 8; (with_reducible refine (HA.out _).mono ?_); rintro e w1 ⟨rfl, hl1⟩; (have HL1 := Lib.hid (HL.out.trans hl1)); (have HB1 := Lib.hid (HB.out.later hl1)); obtain ⟨c0, c1⟩ := HB1.out.cells; clear hl1)
          | (go_at_call 9; (with_reducible refine (HFE.out _).mono ?_); rintro e w2 ⟨rfl, hl2⟩; (have HL2 := Lib.hid (HL1.out.trans hl2)); (have HB2 := Lib.hid (HB1.out.later hl2)); clear hl2 c0 c1))
        go_ret
        exact ⟨rfl, HL2.out⟩
      · have hs16 : s.length ≤ 16 := by omega
        obtain ⟨C00, hC00, hD00⟩ := cuts_one s t m false false (by omega) (by omega)
        obtain ⟨C10, hC10, hD10⟩ := cuts_one s t m true false (by omega) (by omega)
        obtain ⟨C01, hC01, hD01⟩ := cuts_one s t m false true (by omega) (by omega)
        obtain ⟨C11, hC11, hD11⟩ := cuts_one s t m true true (by omega) (by omega)
        have HP1 := Lib.hid (fun (hs : ∀ x ∈ ns, x.length ≤ 16) W (hW : Later w0 W) => Gs.Pick_v t m ns A n c W (by omega) ((HRD.out.below hW).more hW.size) (by omega) (fun x h => by have := hs x h; omega))
        have HP2 := Lib.hid (fun (hs : ∀ x ∈ ns, x.length ≤ 16) W (hW : Later w0 W) => Gr.Pick_v t m ns A n c W (by omega) ((HRD.out.below hW).more hW.size) (by omega) (fun x h => by have := hs x h; omega))
        have K00 := Lib.hid hC00
        have K10 := Lib.hid hC10
        have K01 := Lib.hid hC01
        have K11 := Lib.hid hC11
        have J00 := Lib.hid hD00
        have J10 := Lib.hid hD10
        have J01 := Lib.hid hD01
        have J11 := Lib.hid hD11
        clear hC00 hC10 hC01 hC11 hD00 hD10 hD01 hD11 hs16 ht20
        go_enter Try.func4, Try.ntmps4
        go_wp2_with (first
          | (go_at_call 8; (with_reducible refine (HA.out _).mono ?_); rintro e w1 ⟨rfl, hl1⟩; (have HL1 := Lib.hid (HL.out.trans hl1)); (have HB1 := Lib.hid (HB.out.later hl1)); obtain ⟨c0, c1⟩ := HB1.out.cells; clear hl1)
          | (go_at_call 9; (with_reducible refine (HFE.out _).mono ?_); rintro e w2 ⟨rfl, hl2⟩; (have HL2 := Lib.hid (HL1.out.trans hl2)); (have HB2 := Lib.hid (HB1.out.later hl2)); clear hl2 c0 c1))
        go_loopw [9] (fun s9 wr => ∃ k : Nat, s9 = .int .i64 (k : Int) ∧ k ≤ n ∧ (∀ j (h : j < ns.length), j < k → ns[j].length ≤ 16) ∧ wr = w2) (fun i _ => n - (intOf i).toNat)
        case atStart => exact ⟨0, rfl, Nat.zero_le _, fun j h h2 => by omega, rfl⟩
        case round =>
          obtain ⟨k, rfl, hk, hall, hw⟩ := hrel
          subst hw
          have HALL := Lib.hid hall
          clear hall
          by_cases hkn : k < n
          · obtain ⟨ad, hl, rfl, hb, hcell⟩ := (HRD.out.below HL2.out).at_map hkn
            obtain ⟨x, hx⟩ : ∃ x, x = ns[k] := ⟨_, rfl⟩
            rw [← hx] at hcell
            have hcell2 : wr.cell? (ad.add k) = some (.string (mkS x)) := hcell
            have hkn2 : (k : Int) < (n : Int) := by omega
            have hxi : ((mkS x).size : Int) = (x.length : Int) := by rw [mkS_size]
            have HX := Lib.hid hx
            clear hcell hx
            by_cases hx16 : (16 : Int) < (x.length : Int)
            · go_wp2_with fail
              go_ret
              exact ⟨rfl, HL2.out⟩
            · go_wp2_with fail
              go_roundw
              case rel => exact ⟨k + 1, by go_num, by omega, fun j h h2 => by
                by_cases e : j = k
                · subst e; rw [← HX.out]; omega
                · exact HALL.out j h (by omega), trivial⟩
              case measure => simp [intOf]; omega
          · have hkn2 : ¬ ((k : Int) < (n : Int)) := by omega
            have HSM := Lib.hid (show ∀ x ∈ ns, x.length ≤ 16 from fun x hx => by
              obtain ⟨j, hj, rfl⟩ := List.mem_iff_getElem.1 hx
              exact HALL.out j hj (by have := HLEN.out; omega))
            clear HALL
            go_wp2_with fail
            go_loopw [10] (fun s10 wq => ∃ i : Nat, s10 = .int .i64 (i : Int) ∧ i ≤ 4 ∧ Box wq w0.heap.size t m ∧ Later w0 wq) (fun i _ => 4 - (intOf i).toNat)
            case atStart => exact ⟨0, rfl, Nat.zero_le _, HB2.out, HL2.out⟩
            case round =>
              obtain ⟨i, rfl, hi4, hbx, hlr⟩ := hrel
              have HBX := Lib.hid hbx
              have HLR := Lib.hid hlr
              obtain ⟨c0, c1⟩ := hbx.cells
              clear hbx hlr
              rcases (show i = 0 ∨ i = 1 ∨ i = 2 ∨ i = 3 ∨ i = 4 by omega) with hi0 | hi0 | hi0 | hi0 | hi0
              · subst hi0
                clear c0 c1
                go_wp2_with fail
                refine wp_region_owes (by kernel_rfl) (fun W => Later wr W) (Later) (Later.refl) [Sp.val (.string (mkS s)), Sp.val (.agg #[.string (mkS t), .string (mkS m)]), Sp.val (.bool false), Sp.val (.bool false), Sp.val (.string (mkS C00)), Sp.val (.string (mkS s)), Sp.val (.pointer (some ⟨w0.heap.size, 0, none⟩)), Sp.val (.string (mkS t)), Sp.val (.pointer (some ⟨w0.heap.size, 1, none⟩)), Sp.val (.string (mkS m)), Sp.val (.bool false), Sp.val (.bool false), Sp.val (.string (mkS C00)), Sp.val (.bool false)] (by kernel_rfl) (Later.drew wr) ?_ ?_
                · refine ⟨?_, ?_, ?_, ?_, ?_, ?_, ?_, ?_, ?_, ?_, ?_, ?_, ?_, ?_, trivial⟩
                  · -- 0: slot 54 := Op.move t0
                    refine fun a w hC hs => .inl ⟨?_, ?_⟩
                    · rfl
                    have e0 : a.tmps.getD 0 undef = .string (mkS s) := hs.free 0 rfl
                    exact ⟨e0, hC, Later.refl _⟩
                  · -- 1: slot 55 := Op.load 23 t4
                    refine fun a w hC hs => .inl ⟨?_, ?_⟩
                    · rfl
                    have e4 : a.tmps.getD 4 undef = .pointer (some ⟨w0.heap.size, 0, none⟩) := hs.free 4 rfl
                    exact ValWp.loadR rfl e4 (loadO_run _ _ _ _ (HBX.out.later hC) Try.underlying23 rfl (by kernel_rfl)) ⟨rfl, hC, Later.refl _⟩
                  · -- 2: slot 56 := Op.move t11
                    refine fun a w hC hs => .inl ⟨?_, ?_⟩
                    · rfl
                    have e11 : a.tmps.getD 11 undef = .bool false := hs.free 11 rfl
                    exact ⟨e11, hC, Later.refl _⟩
                  · -- 3: slot 57 := Op.move t12
                    refine fun a w hC hs => .inl ⟨?_, ?_⟩
                    · rfl
                    have e12 : a.tmps.getD 12 undef = .bool false := hs.free 12 rfl
                    exact ⟨e12, hC, Later.refl _⟩
                  · -- 4: slot 58 := Op.call { value (Operand.func 14), args := #[t54, t55, t56, t57], argTypes := #[9, 23, 4, 4] }
                    refine fun a w hC hs => .inl ⟨?_, ?_⟩
                    · rfl
                    have e54 : a.tmps.getD 54 undef = .string (mkS s) := hs.dep 0 _ rfl rfl
                    have e55 : a.tmps.getD 55 undef = .agg #[.string (mkS t), .string (mkS m)] := hs.dep 1 _ rfl rfl
                    have e56 : a.tmps.getD 56 undef = .bool false := hs.dep 2 _ rfl rfl
                    have e57 : a.tmps.getD 57 undef = .bool false := hs.dep 3 _ rfl rfl
                    refine ValWp.call #[.string (mkS s), .agg #[.string (mkS t), .string (mkS m)], .bool false, .bool false] rfl rfl Try.func14 rfl rfl (by simp only [List.map_toArray, List.map_cons, List.map_nil, Act.eval, e54, e55, e56, e57]) ?_
                    refine (K00.out w).mono ?_
                    rintro e w' ⟨rfl, hl⟩
                    exact ⟨_, rfl, rfl, Later.trans hC hl, hl⟩
                  · -- 5: slot 59 := Op.move t0
                    refine fun a w hC hs => .inl ⟨?_, ?_⟩
                    · rfl
                    have e0 : a.tmps.getD 0 undef = .string (mkS s) := hs.free 0 rfl
                    exact ⟨e0, hC, Later.refl _⟩
                  · -- 6: slot 60 := Op.fieldAddr 23 t4 0
                    refine fun a w hC hs => .inl ⟨?_, ?_⟩
                    · rfl
                    have e4 : a.tmps.getD 4 undef = .pointer (some ⟨w0.heap.size, 0, none⟩) := hs.free 4 rfl
                    refine ValWp.pure (v := .pointer (some ⟨w0.heap.size, 0, none⟩)) (fun K' hK' => ?_) ⟨rfl, hC, Later.refl _⟩
                    simp only [ValWp, execOp, Act.eval, e4]
                    go_simp
                    all_goals exact hK'
                  · -- 7: slot 61 := Op.load 9 t60
                    refine fun a w hC hs => .inl ⟨?_, ?_⟩
                    · rfl
                    have e60 : a.tmps.getD 60 undef = .pointer (some ⟨w0.heap.size, 0, none⟩) := hs.dep 6 _ rfl rfl
                    obtain ⟨c0, c1⟩ := (HBX.out.later hC).cells
                    refine ValWp.pure (v := .string (mkS t)) (fun K' hK' => ?_) ⟨rfl, hC, Later.refl _⟩
                    simp only [ValWp, execOp, Act.eval, e60]
                    go_simp
                    all_goals exact hK'
                  · -- 8: slot 62 := Op.fieldAddr 23 t4 1
                    refine fun a w hC hs => .inl ⟨?_, ?_⟩
                    · rfl
                    have e4 : a.tmps.getD 4 undef = .pointer (some ⟨w0.heap.size, 0, none⟩) := hs.free 4 rfl
                    refine ValWp.pure (v := .pointer (some ⟨w0.heap.size, 1, none⟩)) (fun K' hK' => ?_) ⟨rfl, hC, Later.refl _⟩
                    simp only [ValWp, execOp, Act.eval, e4]
                    go_simp
                    all_goals exact hK'
                  · -- 9: slot 63 := Op.load 9 t62
                    refine fun a w hC hs => .inl ⟨?_, ?_⟩
                    · rfl
                    have e62 : a.tmps.getD 62 undef = .pointer (some ⟨w0.heap.size, 1, none⟩) := hs.dep 8 _ rfl rfl
                    obtain ⟨c0, c1⟩ := (HBX.out.later hC).cells
                    refine ValWp.pure (v := .string (mkS m)) (fun K' hK' => ?_) ⟨rfl, hC, Later.refl _⟩
                    simp only [ValWp, execOp, Act.eval, e62]
                    go_simp
                    all_goals exact hK'
                  · -- 10: slot 64 := Op.move t11
                    refine fun a w hC hs => .inl ⟨?_, ?_⟩
                    · rfl
                    have e11 : a.tmps.getD 11 undef = .bool false := hs.free 11 rfl
                    exact ⟨e11, hC, Later.refl _⟩
                  · -- 11: slot 65 := Op.move t12
                    refine fun a w hC hs => .inl ⟨?_, ?_⟩
                    · rfl
                    have e12 : a.tmps.getD 12 undef = .bool false := hs.free 12 rfl
                    exact ⟨e12, hC, Later.refl _⟩
                  · -- 12: slot 66 := Op.call { value (Operand.func 15), args := #[t59, t61, t63, t64, t65], argTypes := #[9, 9, 9, 4, 4] }
                    refine fun a w hC hs => .inl ⟨?_, ?_⟩
                    · rfl
                    have e59 : a.tmps.getD 59 undef = .string (mkS s) := hs.dep 5 _ rfl rfl
                    have e61 : a.tmps.getD 61 undef = .string (mkS t) := hs.dep 7 _ rfl rfl
                    have e63 : a.tmps.getD 63 undef = .string (mkS m) := hs.dep 9 _ rfl rfl
                    have e64 : a.tmps.getD 64 undef = .bool false := hs.dep 10 _ rfl rfl
                    have e65 : a.tmps.getD 65 undef = .bool false := hs.dep 11 _ rfl rfl
                    refine ValWp.call #[.string (mkS s), .string (mkS t), .string (mkS m), .bool false, .bool false] rfl rfl Try.func15 rfl rfl (by simp only [List.map_toArray, List.map_cons, List.map_nil, Act.eval, e59, e61, e63, e64, e65]) ?_
                    refine (J00.out w).mono ?_
                    rintro e w' ⟨rfl, hl⟩
                    exact ⟨_, rfl, rfl, Later.trans hC hl, hl⟩
                  · -- 13: slot 67 := Op.binOp BinOp.neq 9 t58 t66 9
                    refine fun a w hC hs => .inl ⟨?_, ?_⟩
                    · rfl
                    have e58 : a.tmps.getD 58 undef = .string (mkS C00) := hs.dep 4 _ rfl rfl
                    have e66 : a.tmps.getD 66 undef = .string (mkS C00) := hs.dep 12 _ rfl rfl
                    refine ValWp.pure (v := .bool false) (fun K' hK' => ?_) ⟨rfl, hC, Later.refl _⟩
                    simp only [ValWp, execOp, Act.eval, e58, e66]
                    go_simp
                    all_goals exact hK'
                · intro a W hC hd hsz hfree hs
                  obtain ⟨u6, hu6⟩ : ∃ u, u = a.tmps.getD 6 undef := ⟨_, rfl⟩
                  obtain ⟨u11, hu11⟩ : ∃ u, u = a.tmps.getD 11 undef := ⟨_, rfl⟩
                  obtain ⟨u12, hu12⟩ : ∃ u, u = a.tmps.getD 12 undef := ⟨_, rfl⟩
                  obtain ⟨u45, hu45⟩ : ∃ u, u = a.tmps.getD 45 undef := ⟨_, rfl⟩
                  obtain ⟨u46, hu46⟩ : ∃ u, u = a.tmps.getD 46 undef := ⟨_, rfl⟩
                  obtain ⟨u47, hu47⟩ : ∃ u, u = a.tmps.getD 47 undef := ⟨_, rfl⟩
                  obtain ⟨u48, hu48⟩ : ∃ u, u = a.tmps.getD 48 undef := ⟨_, rfl⟩
                  obtain ⟨u49, hu49⟩ : ∃ u, u = a.tmps.getD 49 undef := ⟨_, rfl⟩
                  obtain ⟨u50, hu50⟩ : ∃ u, u = a.tmps.getD 50 undef := ⟨_, rfl⟩
                  obtain ⟨u51, hu51⟩ : ∃ u, u = a.tmps.getD 51 undef := ⟨_, rfl⟩
                  obtain ⟨u52, hu52⟩ : ∃ u, u = a.tmps.getD 52 undef := ⟨_, rfl⟩
                  obtain ⟨u53, hu53⟩ : ∃ u, u = a.tmps.getD 53 undef := ⟨_, rfl⟩
                  obtain ⟨u54, hu54⟩ : ∃ u, u = a.tmps.getD 54 undef := ⟨_, rfl⟩
                  obtain ⟨u55, hu55⟩ : ∃ u, u = a.tmps.getD 55 undef := ⟨_, rfl⟩
                  obtain ⟨u56, hu56⟩ : ∃ u, u = a.tmps.getD 56 undef := ⟨_, rfl⟩
                  obtain ⟨u57, hu57⟩ : ∃ u, u = a.tmps.getD 57 undef := ⟨_, rfl⟩
                  obtain ⟨u58, hu58⟩ : ∃ u, u = a.tmps.getD 58 undef := ⟨_, rfl⟩
                  obtain ⟨u59, hu59⟩ : ∃ u, u = a.tmps.getD 59 undef := ⟨_, rfl⟩
                  obtain ⟨u60, hu60⟩ : ∃ u, u = a.tmps.getD 60 undef := ⟨_, rfl⟩
                  obtain ⟨u61, hu61⟩ : ∃ u, u = a.tmps.getD 61 undef := ⟨_, rfl⟩
                  obtain ⟨u62, hu62⟩ : ∃ u, u = a.tmps.getD 62 undef := ⟨_, rfl⟩
                  obtain ⟨u63, hu63⟩ : ∃ u, u = a.tmps.getD 63 undef := ⟨_, rfl⟩
                  obtain ⟨u64, hu64⟩ : ∃ u, u = a.tmps.getD 64 undef := ⟨_, rfl⟩
                  obtain ⟨u65, hu65⟩ : ∃ u, u = a.tmps.getD 65 undef := ⟨_, rfl⟩
                  obtain ⟨u66, hu66⟩ : ∃ u, u = a.tmps.getD 66 undef := ⟨_, rfl⟩
                  have hal : AllAt a 0 [.string (mkS s), .agg #[.string (mkS t), .string (mkS m)], .slice A n c, undef, .pointer (some ⟨w0.heap.size, 0, none⟩), undef, u6, .bool true, .bool true, .int .i64 (k : Int), .int .i64 ((0 : Nat) : Int), u11, u12, undef, undef, undef, .bool true, .bool true, .bool false, .agg #[.string (mkS t), .string (mkS m)], .bool true, .bool true, .bool false, .bool false, .string (mkS s), .int .i64 (s.length : Int), .bool (decide ((16 : Int) < (s.length : Int))), .bool (decide ((16 : Int) < (s.length : Int))), .bool (decide ((16 : Int) < (s.length : Int))), .slice A n c, .int .i64 (n : Int), .bool (decide ((20 : Int) < (n : Int))), .bool (decide ((16 : Int) < (s.length : Int)) || decide ((20 : Int) < (n : Int))), .int .i64 (k : Int), .slice A n c, .int .i64 (n : Int), .bool false, u37, u38, u39, u40, u41, u42, u43, u44, u45, u46, u47, u48, u49, u50, u51, u52, u53, u54, u55, u56, u57, u58, u59, u60, u61, u62, u63, u64, u65, u66, .bool false, undef, undef, undef, undef, undef, undef, undef, undef, undef, undef, undef, undef, undef, undef, undef, undef, undef, undef, undef, undef, undef, undef, undef, undef, undef, undef, undef, undef, undef] := ⟨hfree 0 rfl, hfree 1 rfl, hfree 2 rfl, hfree 3 rfl, hfree 4 rfl, hfree 5 rfl, hu6.symm, hfree 7 rfl, hfree 8 rfl, hfree 9 rfl, hfree 10 rfl, hu11.symm, hu12.symm, hfree 13 rfl, hfree 14 rfl, hfree 15 rfl, hfree 16 rfl, hfree 17 rfl, hfree 18 rfl, hfree 19 rfl, hfree 20 rfl, hfree 21 rfl, hfree 22 rfl, hfree 23 rfl, hfree 24 rfl, hfree 25 rfl, hfree 26 rfl, hfree 27 rfl, hfree 28 rfl, hfree 29 rfl, hfree 30 rfl, hfree 31 rfl, hfree 32 rfl, hfree 33 rfl, hfree 34 rfl, hfree 35 rfl, hfree 36 rfl, hfree 37 rfl, hfree 38 rfl, hfree 39 rfl, hfree 40 rfl, hfree 41 rfl, hfree 42 rfl, hfree 43 rfl, hfree 44 rfl, hu45.symm, hu46.symm, hu47.symm, hu48.symm, hu49.symm, hu50.symm, hu51.symm, hu52.symm, hu53.symm, hu54.symm, hu55.symm, hu56.symm, hu57.symm, hu58.symm, hu59.symm, hu60.symm, hu61.symm, hu62.symm, hu63.symm, hu64.symm, hu65.symm, hu66.symm, hs 13 _ rfl, hfree 68 rfl, hfree 69 rfl, hfree 70 rfl, hfree 71 rfl, hfree 72 rfl, hfree 73 rfl, hfree 74 rfl, hfree 75 rfl, hfree 76 rfl, hfree 77 rfl, hfree 78 rfl, hfree 79 rfl, hfree 80 rfl, hfree 81 rfl, hfree 82 rfl, hfree 83 rfl, hfree 84 rfl, hfree 85 rfl, hfree 86 rfl, hfree 87 rfl, hfree 88 rfl, hfree 89 rfl, hfree 90 rfl, hfree 91 rfl, hfree 92 rfl, hfree 93 rfl, hfree 94 rfl, hfree 95 rfl, hfree 96 rfl, trivial⟩
                  have hlit := fun h => act_lit hd h hal
                  rw [hlit hsz]
                  clear hlit hal hd hsz hfree hs hu6 hu11 hu12 hu45 hu46 hu47 hu48 hu49 hu50 hu51 hu52 hu53 hu54 hu55 hu56 hu57 hu58 hu59 hu60 hu61 hu62 hu63 hu64 hu65 hu66
                  go_wp2_with fail
                  go_roundw
                  case rel => exact ⟨1, by go_num, by omega, HBX.out.later hC, HLR.out.trans hC⟩
                  case measure => simp [intOf]
              · subst hi0
                clear c0 c1
                go_wp2_with fail
                refine wp_region_owes (by kernel_rfl) (fun W => Later wr W) (Later) (Later.refl) [Sp.val (.string (mkS s)), Sp.val (.agg #[.string (mkS t), .string (mkS m)]), Sp.val (.bool true), Sp.val (.bool false), Sp.val (.string (mkS C10)), Sp.val (.string (mkS s)), Sp.val (.pointer (some ⟨w0.heap.size, 0, none⟩)), Sp.val (.string (mkS t)), Sp.val (.pointer (some ⟨w0.heap.size, 1, none⟩)), Sp.val (.string (mkS m)), Sp.val (.bool true), Sp.val (.bool false), Sp.val (.string (mkS C10)), Sp.val (.bool false)] (by kernel_rfl) (Later.drew wr) ?_ ?_
                · refine ⟨?_, ?_, ?_, ?_, ?_, ?_, ?_, ?_, ?_, ?_, ?_, ?_, ?_, ?_, trivial⟩
                  · -- 0: slot 54 := Op.move t0
                    refine fun a w hC hs => .inl ⟨?_, ?_⟩
                    · rfl
                    have e0 : a.tmps.getD 0 undef = .string (mkS s) := hs.free 0 rfl
                    exact ⟨e0, hC, Later.refl _⟩
                  · -- 1: slot 55 := Op.load 23 t4
                    refine fun a w hC hs => .inl ⟨?_, ?_⟩
                    · rfl
                    have e4 : a.tmps.getD 4 undef = .pointer (some ⟨w0.heap.size, 0, none⟩) := hs.free 4 rfl
                    exact ValWp.loadR rfl e4 (loadO_run _ _ _ _ (HBX.out.later hC) Try.underlying23 rfl (by kernel_rfl)) ⟨rfl, hC, Later.refl _⟩
                  · -- 2: slot 56 := Op.move t11
                    refine fun a w hC hs => .inl ⟨?_, ?_⟩
                    · rfl
                    have e11 : a.tmps.getD 11 undef = .bool true := hs.free 11 rfl
                    exact ⟨e11, hC, Later.refl _⟩
                  · -- 3: slot 57 := Op.move t12
                    refine fun a w hC hs => .inl ⟨?_, ?_⟩
                    · rfl
                    have e12 : a.tmps.getD 12 undef = .bool false := hs.free 12 rfl
                    exact ⟨e12, hC, Later.refl _⟩
                  · -- 4: slot 58 := Op.call { value (Operand.func 14), args := #[t54, t55, t56, t57], argTypes := #[9, 23, 4, 4] }
                    refine fun a w hC hs => .inl ⟨?_, ?_⟩
                    · rfl
                    have e54 : a.tmps.getD 54 undef = .string (mkS s) := hs.dep 0 _ rfl rfl
                    have e55 : a.tmps.getD 55 undef = .agg #[.string (mkS t), .string (mkS m)] := hs.dep 1 _ rfl rfl
                    have e56 : a.tmps.getD 56 undef = .bool true := hs.dep 2 _ rfl rfl
                    have e57 : a.tmps.getD 57 undef = .bool false := hs.dep 3 _ rfl rfl
                    refine ValWp.call #[.string (mkS s), .agg #[.string (mkS t), .string (mkS m)], .bool true, .bool false] rfl rfl Try.func14 rfl rfl (by simp only [List.map_toArray, List.map_cons, List.map_nil, Act.eval, e54, e55, e56, e57]) ?_
                    refine (K10.out w).mono ?_
                    rintro e w' ⟨rfl, hl⟩
                    exact ⟨_, rfl, rfl, Later.trans hC hl, hl⟩
                  · -- 5: slot 59 := Op.move t0
                    refine fun a w hC hs => .inl ⟨?_, ?_⟩
                    · rfl
                    have e0 : a.tmps.getD 0 undef = .string (mkS s) := hs.free 0 rfl
                    exact ⟨e0, hC, Later.refl _⟩
                  · -- 6: slot 60 := Op.fieldAddr 23 t4 0
                    refine fun a w hC hs => .inl ⟨?_, ?_⟩
                    · rfl
                    have e4 : a.tmps.getD 4 undef = .pointer (some ⟨w0.heap.size, 0, none⟩) := hs.free 4 rfl
                    refine ValWp.pure (v := .pointer (some ⟨w0.heap.size, 0, none⟩)) (fun K' hK' => ?_) ⟨rfl, hC, Later.refl _⟩
                    simp only [ValWp, execOp, Act.eval, e4]
                    go_simp
                    all_goals exact hK'
                  · -- 7: slot 61 := Op.load 9 t60
                    refine fun a w hC hs => .inl ⟨?_, ?_⟩
                    · rfl
                    have e60 : a.tmps.getD 60 undef = .pointer (some ⟨w0.heap.size, 0, none⟩) := hs.dep 6 _ rfl rfl
                    obtain ⟨c0, c1⟩ := (HBX.out.later hC).cells
                    refine ValWp.pure (v := .string (mkS t)) (fun K' hK' => ?_) ⟨rfl, hC, Later.refl _⟩
                    simp only [ValWp, execOp, Act.eval, e60]
                    go_simp
                    all_goals exact hK'
                  · -- 8: slot 62 := Op.fieldAddr 23 t4 1
                    refine fun a w hC hs => .inl ⟨?_, ?_⟩
                    · rfl
                    have e4 : a.tmps.getD 4 undef = .pointer (some ⟨w0.heap.size, 0, none⟩) := hs.free 4 rfl
                    refine ValWp.pure (v := .pointer (some ⟨w0.heap.size, 1, none⟩)) (fun K' hK' => ?_) ⟨rfl, hC, Later.refl _⟩
                    simp only [ValWp, execOp, Act.eval, e4]
                    go_simp
                    all_goals exact hK'
                  · -- 9: slot 63 := Op.load 9 t62
                    refine fun a w hC hs => .inl ⟨?_, ?_⟩
                    · rfl
                    have e62 : a.tmps.getD 62 undef = .pointer (some ⟨w0.heap.size, 1, none⟩) := hs.dep 8 _ rfl rfl
                    obtain ⟨c0, c1⟩ := (HBX.out.later hC).cells
                    refine ValWp.pure (v := .string (mkS m)) (fun K' hK' => ?_) ⟨rfl, hC, Later.refl _⟩
                    simp only [ValWp, execOp, Act.eval, e62]
                    go_simp
                    all_goals exact hK'
                  · -- 10: slot 64 := Op.move t11
                    refine fun a w hC hs => .inl ⟨?_, ?_⟩
                    · rfl
                    have e11 : a.tmps.getD 11 undef = .bool true := hs.free 11 rfl
                    exact ⟨e11, hC, Later.refl _⟩
                  · -- 11: slot 65 := Op.move t12
                    refine fun a w hC hs => .inl ⟨?_, ?_⟩
                    · rfl
                    have e12 : a.tmps.getD 12 undef = .bool false := hs.free 12 rfl
                    exact ⟨e12, hC, Later.refl _⟩
                  · -- 12: slot 66 := Op.call { value (Operand.func 15), args := #[t59, t61, t63, t64, t65], argTypes := #[9, 9, 9, 4, 4] }
                    refine fun a w hC hs => .inl ⟨?_, ?_⟩
                    · rfl
                    have e59 : a.tmps.getD 59 undef = .string (mkS s) := hs.dep 5 _ rfl rfl
                    have e61 : a.tmps.getD 61 undef = .string (mkS t) := hs.dep 7 _ rfl rfl
                    have e63 : a.tmps.getD 63 undef = .string (mkS m) := hs.dep 9 _ rfl rfl
                    have e64 : a.tmps.getD 64 undef = .bool true := hs.dep 10 _ rfl rfl
                    have e65 : a.tmps.getD 65 undef = .bool false := hs.dep 11 _ rfl rfl
                    refine ValWp.call #[.string (mkS s), .string (mkS t), .string (mkS m), .bool true, .bool false] rfl rfl Try.func15 rfl rfl (by simp only [List.map_toArray, List.map_cons, List.map_nil, Act.eval, e59, e61, e63, e64, e65]) ?_
                    refine (J10.out w).mono ?_
                    rintro e w' ⟨rfl, hl⟩
                    exact ⟨_, rfl, rfl, Later.trans hC hl, hl⟩
                  · -- 13: slot 67 := Op.binOp BinOp.neq 9 t58 t66 9
                    refine fun a w hC hs => .inl ⟨?_, ?_⟩
                    · rfl
                    have e58 : a.tmps.getD 58 undef = .string (mkS C10) := hs.dep 4 _ rfl rfl
                    have e66 : a.tmps.getD 66 undef = .string (mkS C10) := hs.dep 12 _ rfl rfl
                    refine ValWp.pure (v := .bool false) (fun K' hK' => ?_) ⟨rfl, hC, Later.refl _⟩
                    simp only [ValWp, execOp, Act.eval, e58, e66]
                    go_simp
                    all_goals exact hK'
                · intro a W hC hd hsz hfree hs
                  obtain ⟨u6, hu6⟩ : ∃ u, u = a.tmps.getD 6 undef := ⟨_, rfl⟩
                  obtain ⟨u11, hu11⟩ : ∃ u, u = a.tmps.getD 11 undef := ⟨_, rfl⟩
                  obtain ⟨u12, hu12⟩ : ∃ u, u = a.tmps.getD 12 undef := ⟨_, rfl⟩
                  obtain ⟨u45, hu45⟩ : ∃ u, u = a.tmps.getD 45 undef := ⟨_, rfl⟩
                  obtain ⟨u46, hu46⟩ : ∃ u, u = a.tmps.getD 46 undef := ⟨_, rfl⟩
                  obtain ⟨u47, hu47⟩ : ∃ u, u = a.tmps.getD 47 undef := ⟨_, rfl⟩
                  obtain ⟨u48, hu48⟩ : ∃ u, u = a.tmps.getD 48 undef := ⟨_, rfl⟩
                  obtain ⟨u49, hu49⟩ : ∃ u, u = a.tmps.getD 49 undef := ⟨_, rfl⟩
                  obtain ⟨u50, hu50⟩ : ∃ u, u = a.tmps.getD 50 undef := ⟨_, rfl⟩
                  obtain ⟨u51, hu51⟩ : ∃ u, u = a.tmps.getD 51 undef := ⟨_, rfl⟩
                  obtain ⟨u52, hu52⟩ : ∃ u, u = a.tmps.getD 52 undef := ⟨_, rfl⟩
                  obtain ⟨u53, hu53⟩ : ∃ u, u = a.tmps.getD 53 undef := ⟨_, rfl⟩
                  obtain ⟨u54, hu54⟩ : ∃ u, u = a.tmps.getD 54 undef := ⟨_, rfl⟩
                  obtain ⟨u55, hu55⟩ : ∃ u, u = a.tmps.getD 55 undef := ⟨_, rfl⟩
                  obtain ⟨u56, hu56⟩ : ∃ u, u = a.tmps.getD 56 undef := ⟨_, rfl⟩
                  obtain ⟨u57, hu57⟩ : ∃ u, u = a.tmps.getD 57 undef := ⟨_, rfl⟩
                  obtain ⟨u58, hu58⟩ : ∃ u, u = a.tmps.getD 58 undef := ⟨_, rfl⟩
                  obtain ⟨u59, hu59⟩ : ∃ u, u = a.tmps.getD 59 undef := ⟨_, rfl⟩
                  obtain ⟨u60, hu60⟩ : ∃ u, u = a.tmps.getD 60 undef := ⟨_, rfl⟩
                  obtain ⟨u61, hu61⟩ : ∃ u, u = a.tmps.getD 61 undef := ⟨_, rfl⟩
                  obtain ⟨u62, hu62⟩ : ∃ u, u = a.tmps.getD 62 undef := ⟨_, rfl⟩
                  obtain ⟨u63, hu63⟩ : ∃ u, u = a.tmps.getD 63 undef := ⟨_, rfl⟩
                  obtain ⟨u64, hu64⟩ : ∃ u, u = a.tmps.getD 64 undef := ⟨_, rfl⟩
                  obtain ⟨u65, hu65⟩ : ∃ u, u = a.tmps.getD 65 undef := ⟨_, rfl⟩
                  obtain ⟨u66, hu66⟩ : ∃ u, u = a.tmps.getD 66 undef := ⟨_, rfl⟩
                  have hal : AllAt a 0 [.string (mkS s), .agg #[.string (mkS t), .string (mkS m)], .slice A n c, undef, .pointer (some ⟨w0.heap.size, 0, none⟩), undef, u6, .bool true, .bool true, .int .i64 (k : Int), .int .i64 ((1 : Nat) : Int), u11, u12, undef, undef, undef, .bool true, .bool true, .bool false, .agg #[.string (mkS t), .string (mkS m)], .bool true, .bool true, .bool false, .bool false, .string (mkS s), .int .i64 (s.length : Int), .bool (decide ((16 : Int) < (s.length : Int))), .bool (decide ((16 : Int) < (s.length : Int))), .bool (decide ((16 : Int) < (s.length : Int))), .slice A n c, .int .i64 (n : Int), .bool (decide ((20 : Int) < (n : Int))), .bool (decide ((16 : Int) < (s.length : Int)) || decide ((20 : Int) < (n : Int))), .int .i64 (k : Int), .slice A n c, .int .i64 (n : Int), .bool false, u37, u38, u39, u40, u41, u42, u43, u44, u45, u46, u47, u48, u49, u50, u51, u52, u53, u54, u55, u56, u57, u58, u59, u60, u61, u62, u63, u64, u65, u66, .bool false, undef, undef, undef, undef, undef, undef, undef, undef, undef, undef, undef, undef, undef, undef, undef, undef, undef, undef, undef, undef, undef, undef, undef, undef, undef, undef, undef, undef, undef] := ⟨hfree 0 rfl, hfree 1 rfl, hfree 2 rfl, hfree 3 rfl, hfree 4 rfl, hfree 5 rfl, hu6.symm, hfree 7 rfl, hfree 8 rfl, hfree 9 rfl, hfree 10 rfl, hu11.symm, hu12.symm, hfree 13 rfl, hfree 14 rfl, hfree 15 rfl, hfree 16 rfl, hfree 17 rfl, hfree 18 rfl, hfree 19 rfl, hfree 20 rfl, hfree 21 rfl, hfree 22 rfl, hfree 23 rfl, hfree 24 rfl, hfree 25 rfl, hfree 26 rfl, hfree 27 rfl, hfree 28 rfl, hfree 29 rfl, hfree 30 rfl, hfree 31 rfl, hfree 32 rfl, hfree 33 rfl, hfree 34 rfl, hfree 35 rfl, hfree 36 rfl, hfree 37 rfl, hfree 38 rfl, hfree 39 rfl, hfree 40 rfl, hfree 41 rfl, hfree 42 rfl, hfree 43 rfl, hfree 44 rfl, hu45.symm, hu46.symm, hu47.symm, hu48.symm, hu49.symm, hu50.symm, hu51.symm, hu52.symm, hu53.symm, hu54.symm, hu55.symm, hu56.symm, hu57.symm, hu58.symm, hu59.symm, hu60.symm, hu61.symm, hu62.symm, hu63.symm, hu64.symm, hu65.symm, hu66.symm, hs 13 _ rfl, hfree 68 rfl, hfree 69 rfl, hfree 70 rfl, hfree 71 rfl, hfree 72 rfl, hfree 73 rfl, hfree 74 rfl, hfree 75 rfl, hfree 76 rfl, hfree 77 rfl, hfree 78 rfl, hfree 79 rfl, hfree 80 rfl, hfree 81 rfl, hfree 82 rfl, hfree 83 rfl, hfree 84 rfl, hfree 85 rfl, hfree 86 rfl, hfree 87 rfl, hfree 88 rfl, hfree 89 rfl, hfree 90 rfl, hfree 91 rfl, hfree 92 rfl, hfree 93 rfl, hfree 94 rfl, hfree 95 rfl, hfree 96 rfl, trivial⟩
                  have hlit := fun h => act_lit hd h hal
                  rw [hlit hsz]
                  clear hlit hal hd hsz hfree hs hu6 hu11 hu12 hu45 hu46 hu47 hu48 hu49 hu50 hu51 hu52 hu53 hu54 hu55 hu56 hu57 hu58 hu59 hu60 hu61 hu62 hu63 hu64 hu65 hu66
                  go_wp2_with fail
                  go_roundw
                  case rel => exact ⟨2, by go_num, by omega, HBX.out.later hC, HLR.out.trans hC⟩
                  case measure => simp [intOf]
              · subst hi0
                clear c0 c1
                go_wp2_with fail
                refine wp_region_owes (by kernel_rfl) (fun W => Later wr W) (Later) (Later.refl) [Sp.val (.string (mkS s)), Sp.val (.agg #[.string (mkS t), .string (mkS m)]), Sp.val (.bool false), Sp.val (.bool true), Sp.val (.string (mkS C01)), Sp.val (.string (mkS s)), Sp.val (.pointer (some ⟨w0.heap.size, 0, none⟩)), Sp.val (.string (mkS t)), Sp.val (.pointer (some ⟨w0.heap.size, 1, none⟩)), Sp.val (.string (mkS m)), Sp.val (.bool false), Sp.val (.bool true), Sp.val (.string (mkS C01)), Sp.val (.bool false)] (by kernel_rfl) (Later.drew wr) ?_ ?_
                · refine ⟨?_, ?_, ?_, ?_, ?_, ?_, ?_, ?_, ?_, ?_, ?_, ?_, ?_, ?_, trivial⟩
                  · -- 0: slot 54 := Op.move t0
                    refine fun a w hC hs => .inl ⟨?_, ?_⟩
                    · rfl
                    have e0 : a.tmps.getD 0 undef = .string (mkS s) := hs.free 0 rfl
                    exact ⟨e0, hC, Later.refl _⟩
                  · -- 1: slot 55 := Op.load 23 t4
                    refine fun a w hC hs => .inl ⟨?_, ?_⟩
                    · rfl
                    have e4 : a.tmps.getD 4 undef = .pointer (some ⟨w0.heap.size, 0, none⟩) := hs.free 4 rfl
                    exact ValWp.loadR rfl e4 (loadO_run _ _ _ _ (HBX.out.later hC) Try.underlying23 rfl (by kernel_rfl)) ⟨rfl, hC, Later.refl _⟩
                  · -- 2: slot 56 := Op.move t11
                    refine fun a w hC hs => .inl ⟨?_, ?_⟩
                    · rfl
                    have e11 : a.tmps.getD 11 undef = .bool false := hs.free 11 rfl
                    exact ⟨e11, hC, Later.refl _⟩
                  · -- 3: slot 57 := Op.move t12
                    refine fun a w hC hs => .inl ⟨?_, ?_⟩
                    · rfl
                    have e12 : a.tmps.getD 12 undef = .bool true := hs.free 12 rfl
                    exact ⟨e12, hC, Later.refl _⟩
                  · -- 4: slot 58 := Op.call { value (Operand.func 14), args := #[t54, t55, t56, t57], argTypes := #[9, 23, 4, 4] }
                    refine fun a w hC hs => .inl ⟨?_, ?_⟩
                    · rfl
                    have e54 : a.tmps.getD 54 undef = .string (mkS s) := hs.dep 0 _ rfl rfl
                    have e55 : a.tmps.getD 55 undef = .agg #[.string (mkS t), .string (mkS m)] := hs.dep 1 _ rfl rfl
                    have e56 : a.tmps.getD 56 undef = .bool false := hs.dep 2 _ rfl rfl
                    have e57 : a.tmps.getD 57 undef = .bool true := hs.dep 3 _ rfl rfl
                    refine ValWp.call #[.string (mkS s), .agg #[.string (mkS t), .string (mkS m)], .bool false, .bool true] rfl rfl Try.func14 rfl rfl (by simp only [List.map_toArray, List.map_cons, List.map_nil, Act.eval, e54, e55, e56, e57]) ?_
                    refine (K01.out w).mono ?_
                    rintro e w' ⟨rfl, hl⟩
                    exact ⟨_, rfl, rfl, Later.trans hC hl, hl⟩
                  · -- 5: slot 59 := Op.move t0
                    refine fun a w hC hs => .inl ⟨?_, ?_⟩
                    · rfl
                    have e0 : a.tmps.getD 0 undef = .string (mkS s) := hs.free 0 rfl
                    exact ⟨e0, hC, Later.refl _⟩
                  · -- 6: slot 60 := Op.fieldAddr 23 t4 0
                    refine fun a w hC hs => .inl ⟨?_, ?_⟩
                    · rfl
                    have e4 : a.tmps.getD 4 undef = .pointer (some ⟨w0.heap.size, 0, none⟩) := hs.free 4 rfl
                    refine ValWp.pure (v := .pointer (some ⟨w0.heap.size, 0, none⟩)) (fun K' hK' => ?_) ⟨rfl, hC, Later.refl _⟩
                    simp only [ValWp, execOp, Act.eval, e4]
                    go_simp
                    all_goals exact hK'
                  · -- 7: slot 61 := Op.load 9 t60
                    refine fun a w hC hs => .inl ⟨?_, ?_⟩
                    · rfl
                    have e60 : a.tmps.getD 60 undef = .pointer (some ⟨w0.heap.size, 0, none⟩) := hs.dep 6 _ rfl rfl
                    obtain ⟨c0, c1⟩ := (HBX.out.later hC).cells
                    refine ValWp.pure (v := .string (mkS t)) (fun K' hK' => ?_) ⟨rfl, hC, Later.refl _⟩
                    simp only [ValWp, execOp, Act.eval, e60]
                    go_simp
                    all_goals exact hK'
                  · -- 8: slot 62 := Op.fieldAddr 23 t4 1
                    refine fun a w hC hs => .inl ⟨?_, ?_⟩
                    · rfl
                    have e4 : a.tmps.getD 4 undef = .pointer (some ⟨w0.heap.size, 0, none⟩) := hs.free 4 rfl
                    refine ValWp.pure (v := .pointer (some ⟨w0.heap.size, 1, none⟩)) (fun K' hK' => ?_) ⟨rfl, hC, Later.refl _⟩
                    simp only [ValWp, execOp, Act.eval, e4]
                    go_simp
                    all_goals exact hK'
                  · -- 9: slot 63 := Op.load 9 t62
                    refine fun a w hC hs => .inl ⟨?_, ?_⟩
                    · rfl
                    have e62 : a.tmps.getD 62 undef = .pointer (some ⟨w0.heap.size, 1, none⟩) := hs.dep 8 _ rfl rfl
                    obtain ⟨c0, c1⟩ := (HBX.out.later hC).cells
                    refine ValWp.pure (v := .string (mkS m)) (fun K' hK' => ?_) ⟨rfl, hC, Later.refl _⟩
                    simp only [ValWp, execOp, Act.eval, e62]
                    go_simp
                    all_goals exact hK'
                  · -- 10: slot 64 := Op.move t11
                    refine fun a w hC hs => .inl ⟨?_, ?_⟩
                    · rfl
                    have e11 : a.tmps.getD 11 undef = .bool false := hs.free 11 rfl
                    exact ⟨e11, hC, Later.refl _⟩
                  · -- 11: slot 65 := Op.move t12
                    refine fun a w hC hs => .inl ⟨?_, ?_⟩
                    · rfl
                    have e12 : a.tmps.getD 12 undef = .bool true := hs.free 12 rfl
                    exact ⟨e12, hC, Later.refl _⟩
                  · -- 12: slot 66 := Op.call { value (Operand.func 15), args := #[t59, t61, t63, t64, t65], argTypes := #[9, 9, 9, 4, 4] }
                    refine fun a w hC hs => .inl ⟨?_, ?_⟩
                    · rfl
                    have e59 : a.tmps.getD 59 undef = .string (mkS s) := hs.dep 5 _ rfl rfl
                    have e61 : a.tmps.getD 61 undef = .string (mkS t) := hs.dep 7 _ rfl rfl
                    have e63 : a.tmps.getD 63 undef = .string (mkS m) := hs.dep 9 _ rfl rfl
                    have e64 : a.tmps.getD 64 undef = .bool false := hs.dep 10 _ rfl rfl
                    have e65 : a.tmps.getD 65 undef = .bool true := hs.dep 11 _ rfl rfl
                    refine ValWp.call #[.string (mkS s), .string (mkS t), .string (mkS m), .bool false, .bool true] rfl rfl Try.func15 rfl rfl (by simp only [List.map_toArray, List.map_cons, List.map_nil, Act.eval, e59, e61, e63, e64, e65]) ?_
                    refine (J01.out w).mono ?_
                    rintro e w' ⟨rfl, hl⟩
                    exact ⟨_, rfl, rfl, Later.trans hC hl, hl⟩
                  · -- 13: slot 67 := Op.binOp BinOp.neq 9 t58 t66 9
                    refine fun a w hC hs => .inl ⟨?_, ?_⟩
                    · rfl
                    have e58 : a.tmps.getD 58 undef = .string (mkS C01) := hs.dep 4 _ rfl rfl
                    have e66 : a.tmps.getD 66 undef = .string (mkS C01) := hs.dep 12 _ rfl rfl
                    refine ValWp.pure (v := .bool false) (fun K' hK' => ?_) ⟨rfl, hC, Later.refl _⟩
                    simp only [ValWp, execOp, Act.eval, e58, e66]
                    go_simp
                    all_goals exact hK'
                · intro a W hC hd hsz hfree hs
                  obtain ⟨u6, hu6⟩ : ∃ u, u = a.tmps.getD 6 undef := ⟨_, rfl⟩
                  obtain ⟨u11, hu11⟩ : ∃ u, u = a.tmps.getD 11 undef := ⟨_, rfl⟩
                  obtain ⟨u12, hu12⟩ : ∃ u, u = a.tmps.getD 12 undef := ⟨_, rfl⟩
                  obtain ⟨u45, hu45⟩ : ∃ u, u = a.tmps.getD 45 undef := ⟨_, rfl⟩
                  obtain ⟨u46, hu46⟩ : ∃ u, u = a.tmps.getD 46 undef := ⟨_, rfl⟩
                  obtain ⟨u47, hu47⟩ : ∃ u, u = a.tmps.getD 47 undef := ⟨_, rfl⟩
                  obtain ⟨u48, hu48⟩ : ∃ u, u = a.tmps.getD 48 undef := ⟨_, rfl⟩
                  obtain ⟨u49, hu49⟩ : ∃ u, u = a.tmps.getD 49 undef := ⟨_, rfl⟩
                  obtain ⟨u50, hu50⟩ : ∃ u, u = a.tmps.getD 50 undef := ⟨_, rfl⟩
                  obtain ⟨u51, hu51⟩ : ∃ u, u = a.tmps.getD 51 undef := ⟨_, rfl⟩
                  obtain ⟨u52, hu52⟩ : ∃ u, u = a.tmps.getD 52 undef := ⟨_, rfl⟩
                  obtain ⟨u53, hu53⟩ : ∃ u, u = a.tmps.getD 53 undef := ⟨_, rfl⟩
                  obtain ⟨u54, hu54⟩ : ∃ u, u = a.tmps.getD 54 undef := ⟨_, rfl⟩
                  obtain ⟨u55, hu55⟩ : ∃ u, u = a.tmps.getD 55 undef := ⟨_, rfl⟩
                  obtain ⟨u56, hu56⟩ : ∃ u, u = a.tmps.getD 56 undef := ⟨_, rfl⟩
                  obtain ⟨u57, hu57⟩ : ∃ u, u = a.tmps.getD 57 undef := ⟨_, rfl⟩
                  obtain ⟨u58, hu58⟩ : ∃ u, u = a.tmps.getD 58 undef := ⟨_, rfl⟩
                  obtain ⟨u59, hu59⟩ : ∃ u, u = a.tmps.getD 59 undef := ⟨_, rfl⟩
                  obtain ⟨u60, hu60⟩ : ∃ u, u = a.tmps.getD 60 undef := ⟨_, rfl⟩
                  obtain ⟨u61, hu61⟩ : ∃ u, u = a.tmps.getD 61 undef := ⟨_, rfl⟩
                  obtain ⟨u62, hu62⟩ : ∃ u, u = a.tmps.getD 62 undef := ⟨_, rfl⟩
                  obtain ⟨u63, hu63⟩ : ∃ u, u = a.tmps.getD 63 undef := ⟨_, rfl⟩
                  obtain ⟨u64, hu64⟩ : ∃ u, u = a.tmps.getD 64 undef := ⟨_, rfl⟩
                  obtain ⟨u65, hu65⟩ : ∃ u, u = a.tmps.getD 65 undef := ⟨_, rfl⟩
                  obtain ⟨u66, hu66⟩ : ∃ u, u = a.tmps.getD 66 undef := ⟨_, rfl⟩
                  have hal : AllAt a 0 [.string (mkS s), .agg #[.string (mkS t), .string (mkS m)], .slice A n c, undef, .pointer (some ⟨w0.heap.size, 0, none⟩), undef, u6, .bool true, .bool true, .int .i64 (k : Int), .int .i64 ((2 : Nat) : Int), u11, u12, undef, undef, undef, .bool true, .bool true, .bool false, .agg #[.string (mkS t), .string (mkS m)], .bool true, .bool true, .bool false, .bool false, .string (mkS s), .int .i64 (s.length : Int), .bool (decide ((16 : Int) < (s.length : Int))), .bool (decide ((16 : Int) < (s.length : Int))), .bool (decide ((16 : Int) < (s.length : Int))), .slice A n c, .int .i64 (n : Int), .bool (decide ((20 : Int) < (n : Int))), .bool (decide ((16 : Int) < (s.length : Int)) || decide ((20 : Int) < (n : Int))), .int .i64 (k : Int), .slice A n c, .int .i64 (n : Int), .bool false, u37, u38, u39, u40, u41, u42, u43, u44, u45, u46, u47, u48, u49, u50, u51, u52, u53, u54, u55, u56, u57, u58, u59, u60, u61, u62, u63, u64, u65, u66, .bool false, undef, undef, undef, undef, undef, undef, undef, undef, undef, undef, undef, undef, undef, undef, undef, undef, undef, undef, undef, undef, undef, undef, undef, undef, undef, undef, undef, undef, undef] := ⟨hfree 0 rfl, hfree 1 rfl, hfree 2 rfl, hfree 3 rfl, hfree 4 rfl, hfree 5 rfl, hu6.symm, hfree 7 rfl, hfree 8 rfl, hfree 9 rfl, hfree 10 rfl, hu11.symm, hu12.symm, hfree 13 rfl, hfree 14 rfl, hfree 15 rfl, hfree 16 rfl, hfree 17 rfl, hfree 18 rfl, hfree 19 rfl, hfree 20 rfl, hfree 21 rfl, hfree 22 rfl, hfree 23 rfl, hfree 24 rfl, hfree 25 rfl, hfree 26 rfl, hfree 27 rfl, hfree 28 rfl, hfree 29 rfl, hfree 30 rfl, hfree 31 rfl, hfree 32 rfl, hfree 33 rfl, hfree 34 rfl, hfree 35 rfl, hfree 36 rfl, hfree 37 rfl, hfree 38 rfl, hfree 39 rfl, hfree 40 rfl, hfree 41 rfl, hfree 42 rfl, hfree 43 rfl, hfree 44 rfl, hu45.symm, hu46.symm, hu47.symm, hu48.symm, hu49.symm, hu50.symm, hu51.symm, hu52.symm, hu53.symm, hu54.symm, hu55.symm, hu56.symm, hu57.symm, hu58.symm, hu59.symm, hu60.symm, hu61.symm, hu62.symm, hu63.symm, hu64.symm, hu65.symm, hu66.symm, hs 13 _ rfl, hfree 68 rfl, hfree 69 rfl, hfree 70 rfl, hfree 71 rfl, hfree 72 rfl, hfree 73 rfl, hfree 74 rfl, hfree 75 rfl, hfree 76 rfl, hfree 77 rfl, hfree 78 rfl, hfree 79 rfl, hfree 80 rfl, hfree 81 rfl, hfree 82 rfl, hfree 83 rfl, hfree 84 rfl, hfree 85 rfl, hfree 86 rfl, hfree 87 rfl, hfree 88 rfl, hfree 89 rfl, hfree 90 rfl, hfree 91 rfl, hfree 92 rfl, hfree 93 rfl, hfree 94 rfl, hfree 95 rfl, hfree 96 rfl, trivial⟩
                  have hlit := fun h => act_lit hd h hal
                  rw [hlit hsz]
                  clear hlit hal hd hsz hfree hs hu6 hu11 hu12 hu45 hu46 hu47 hu48 hu49 hu50 hu51 hu52 hu53 hu54 hu55 hu56 hu57 hu58 hu59 hu60 hu61 hu62 hu63 hu64 hu65 hu66
                  go_wp2_with fail
                  go_roundw
                  case rel => exact ⟨3, by go_num, by omega, HBX.out.later hC, HLR.out.trans hC⟩
                  case measure => simp [intOf]
              · subst hi0
                clear c0 c1
                go_wp2_with fail
                refine wp_region_owes (by kernel_rfl) (fun W => Later wr W) (Later) (Later.refl) [Sp.val (.string (mkS s)), Sp.val (.agg #[.string (mkS t), .string (mkS m)]), Sp.val (.bool true), Sp.val (.bool true), Sp.val (.string (mkS C11)), Sp.val (.string (mkS s)), Sp.val (.pointer (some ⟨w0.heap.size, 0, none⟩)), Sp.val (.string (mkS t)), Sp.val (.pointer (some ⟨w0.heap.size, 1, none⟩)), Sp.val (.string (mkS m)), Sp.val (.bool true), Sp.val (.bool true), Sp.val (.string (mkS C11)), Sp.val (.bool false)] (by kernel_rfl) (Later.drew wr) ?_ ?_
                · refine ⟨?_, ?_, ?_, ?_, ?_, ?_, ?_, ?_, ?_, ?_, ?_, ?_, ?_, ?_, trivial⟩
                  · -- 0: slot 54 := Op.move t0
                    refine fun a w hC hs => .inl ⟨?_, ?_⟩
                    · rfl
                    have e0 : a.tmps.getD 0 undef = .string (mkS s) := hs.free 0 rfl
                    exact ⟨e0, hC, Later.refl _⟩
                  · -- 1: slot 55 := Op.load 23 t4
                    refine fun a w hC hs => .inl ⟨?_, ?_⟩
                    · rfl
                    have e4 : a.tmps.getD 4 undef = .pointer (some ⟨w0.heap.size, 0, none⟩) := hs.free 4 rfl
                    exact ValWp.loadR rfl e4 (loadO_run _ _ _ _ (HBX.out.later hC) Try.underlying23 rfl (by kernel_rfl)) ⟨rfl, hC, Later.refl _⟩
                  · -- 2: slot 56 := Op.move t11
                    refine fun a w hC hs => .inl ⟨?_, ?_⟩
                    · rfl
                    have e11 : a.tmps.getD 11 undef = .bool true := hs.free 11 rfl
                    exact ⟨e11, hC, Later.refl _⟩
                  · -- 3: slot 57 := Op.move t12
                    refine fun a w hC hs => .inl ⟨?_, ?_⟩
                    · rfl
                    have e12 : a.tmps.getD 12 undef = .bool true := hs.free 12 rfl
                    exact ⟨e12, hC, Later.refl _⟩
                  · -- 4: slot 58 := Op.call { value (Operand.func 14), args := #[t54, t55, t56, t57], argTypes := #[9, 23, 4, 4] }
                    refine fun a w hC hs => .inl ⟨?_, ?_⟩
                    · rfl
                    have e54 : a.tmps.getD 54 undef = .string (mkS s) := hs.dep 0 _ rfl rfl
                    have e55 : a.tmps.getD 55 undef = .agg #[.string (mkS t), .string (mkS m)] := hs.dep 1 _ rfl rfl
                    have e56 : a.tmps.getD 56 undef = .bool true := hs.dep 2 _ rfl rfl
                    have e57 : a.tmps.getD 57 undef = .bool true := hs.dep 3 _ rfl rfl
                    refine ValWp.call #[.string (mkS s), .agg #[.string (mkS t), .string (mkS m)], .bool true, .bool true] rfl rfl Try.func14 rfl rfl (by simp only [List.map_toArray, List.map_cons, List.map_nil, Act.eval, e54, e55, e56, e57]) ?_
                    refine (K11.out w).mono ?_
                    rintro e w' ⟨rfl, hl⟩
                    exact ⟨_, rfl, rfl, Later.trans hC hl, hl⟩
                  · -- 5: slot 59 := Op.move t0
                    refine fun a w hC hs => .inl ⟨?_, ?_⟩
                    · rfl
                    have e0 : a.tmps.getD 0 undef = .string (mkS s) := hs.free 0 rfl
                    exact ⟨e0, hC, Later.refl _⟩
                  · -- 6: slot 60 := Op.fieldAddr 23 t4 0
                    refine fun a w hC hs => .inl ⟨?_, ?_⟩
                    · rfl
                    have e4 : a.tmps.getD 4 undef = .pointer (some ⟨w0.heap.size, 0, none⟩) := hs.free 4 rfl
                    refine ValWp.pure (v := .pointer (some ⟨w0.heap.size, 0, none⟩)) (fun K' hK' => ?_) ⟨rfl, hC, Later.refl _⟩
                    simp only [ValWp, execOp, Act.eval, e4]
                    go_simp
                    all_goals exact hK'
                  · -- 7: slot 61 := Op.load 9 t60
                    refine fun a w hC hs => .inl ⟨?_, ?_⟩
                    · rfl
                    have e60 : a.tmps.getD 60 undef = .pointer (some ⟨w0.heap.size, 0, none⟩) := hs.dep 6 _ rfl rfl
                    obtain ⟨c0, c1⟩ := (HBX.out.later hC).cells
                    refine ValWp.pure (v := .string (mkS t)) (fun K' hK' => ?_) ⟨rfl, hC, Later.refl _⟩
                    simp only [ValWp, execOp, Act.eval, e60]
                    go_simp
                    all_goals exact hK'
                  · -- 8: slot 62 := Op.fieldAddr 23 t4 1
                    refine fun a w hC hs => .inl ⟨?_, ?_⟩
                    · rfl
                    have e4 : a.tmps.getD 4 undef = .pointer (some ⟨w0.heap.size, 0, none⟩) := hs.free 4 rfl
                    refine ValWp.pure (v := .pointer (some ⟨w0.heap.size, 1, none⟩)) (fun K' hK' => ?_) ⟨rfl, hC, Later.refl _⟩
                    simp only [ValWp, execOp, Act.eval, e4]
                    go_simp
                    all_goals exact hK'
                  · -- 9: slot 63 := Op.load 9 t62
                    refine fun a w hC hs => .inl ⟨?_, ?_⟩
                    · rfl
                    have e62 : a.tmps.getD 62 undef = .pointer (some ⟨w0.heap.size, 1, none⟩) := hs.dep 8 _ rfl rfl
                    obtain ⟨c0, c1⟩ := (HBX.out.later hC).cells
                    refine ValWp.pure (v := .string (mkS m)) (fun K' hK' => ?_) ⟨rfl, hC, Later.refl _⟩
                    simp only [ValWp, execOp, Act.eval, e62]
                    go_simp
                    all_goals exact hK'
                  · -- 10: slot 64 := Op.move t11
                    refine fun a w hC hs => .inl ⟨?_, ?_⟩
                    · rfl
                    have e11 : a.tmps.getD 11 undef = .bool true := hs.free 11 rfl
                    exact ⟨e11, hC, Later.refl _⟩
                  · -- 11: slot 65 := Op.move t12
                    refine fun a w hC hs => .inl ⟨?_, ?_⟩
                    · rfl
                    have e12 : a.tmps.getD 12 undef = .bool true := hs.free 12 rfl
                    exact ⟨e12, hC, Later.refl _⟩
                  · -- 12: slot 66 := Op.call { value (Operand.func 15), args := #[t59, t61, t63, t64, t65], argTypes := #[9, 9, 9, 4, 4] }
                    refine fun a w hC hs => .inl ⟨?_, ?_⟩
                    · rfl
                    have e59 : a.tmps.getD 59 undef = .string (mkS s) := hs.dep 5 _ rfl rfl
                    have e61 : a.tmps.getD 61 undef = .string (mkS t) := hs.dep 7 _ rfl rfl
                    have e63 : a.tmps.getD 63 undef = .string (mkS m) := hs.dep 9 _ rfl rfl
                    have e64 : a.tmps.getD 64 undef = .bool true := hs.dep 10 _ rfl rfl
                    have e65 : a.tmps.getD 65 undef = .bool true := hs.dep 11 _ rfl rfl
                    refine ValWp.call #[.string (mkS s), .string (mkS t), .string (mkS m), .bool true, .bool true] rfl rfl Try.func15 rfl rfl (by simp only [List.map_toArray, List.map_cons, List.map_nil, Act.eval, e59, e61, e63, e64, e65]) ?_
                    refine (J11.out w).mono ?_
                    rintro e w' ⟨rfl, hl⟩
                    exact ⟨_, rfl, rfl, Later.trans hC hl, hl⟩
                  · -- 13: slot 67 := Op.binOp BinOp.neq 9 t58 t66 9
                    refine fun a w hC hs => .inl ⟨?_, ?_⟩
                    · rfl
                    have e58 : a.tmps.getD 58 undef = .string (mkS C11) := hs.dep 4 _ rfl rfl
                    have e66 : a.tmps.getD 66 undef = .string (mkS C11) := hs.dep 12 _ rfl rfl
                    refine ValWp.pure (v := .bool false) (fun K' hK' => ?_) ⟨rfl, hC, Later.refl _⟩
                    simp only [ValWp, execOp, Act.eval, e58, e66]
                    go_simp
                    all_goals exact hK'
                · intro a W hC hd hsz hfree hs
                  obtain ⟨u6, hu6⟩ : ∃ u, u = a.tmps.getD 6 undef := ⟨_, rfl⟩
                  obtain ⟨u11, hu11⟩ : ∃ u, u = a.tmps.getD 11 undef := ⟨_, rfl⟩
                  obtain ⟨u12, hu12⟩ : ∃ u, u = a.tmps.getD 12 undef := ⟨_, rfl⟩
                  obtain ⟨u45, hu45⟩ : ∃ u, u = a.tmps.getD 45 undef := ⟨_, rfl⟩
                  obtain ⟨u46, hu46⟩ : ∃ u, u = a.tmps.getD 46 undef := ⟨_, rfl⟩
                  obtain ⟨u47, hu47⟩ : ∃ u, u = a.tmps.getD 47 undef := ⟨_, rfl⟩
                  obtain ⟨u48, hu48⟩ : ∃ u, u = a.tmps.getD 48 undef := ⟨_, rfl⟩
                  obtain ⟨u49, hu49⟩ : ∃ u, u = a.tmps.getD 49 undef := ⟨_, rfl⟩
                  obtain ⟨u50, hu50⟩ : ∃ u, u = a.tmps.getD 50 undef := ⟨_, rfl⟩
                  obtain ⟨u51, hu51⟩ : ∃ u, u = a.tmps.getD 51 undef := ⟨_, rfl⟩
                  obtain ⟨u52, hu52⟩ : ∃ u, u = a.tmps.getD 52 undef := ⟨_, rfl⟩
                  obtain ⟨u53, hu53⟩ : ∃ u, u = a.tmps.getD 53 undef := ⟨_, rfl⟩
                  obtain ⟨u54, hu54⟩ : ∃ u, u = a.tmps.getD 54 undef := ⟨_, rfl⟩
                  obtain ⟨u55, hu55⟩ : ∃ u, u = a.tmps.getD 55 undef := ⟨_, rfl⟩
                  obtain ⟨u56, hu56⟩ : ∃ u, u = a.tmps.getD 56 undef := ⟨_, rfl⟩
                  obtain ⟨u57, hu57⟩ : ∃ u, u = a.tmps.getD 57 undef := ⟨_, rfl⟩
                  obtain ⟨u58, hu58⟩ : ∃ u, u = a.tmps.getD 58 undef := ⟨_, rfl⟩
                  obtain ⟨u59, hu59⟩ : ∃ u, u = a.tmps.getD 59 undef := ⟨_, rfl⟩
                  obtain ⟨u60, hu60⟩ : ∃ u, u = a.tmps.getD 60 undef := ⟨_, rfl⟩
                  obtain ⟨u61, hu61⟩ : ∃ u, u = a.tmps.getD 61 undef := ⟨_, rfl⟩
                  obtain ⟨u62, hu62⟩ : ∃ u, u = a.tmps.getD 62 undef := ⟨_, rfl⟩
                  obtain ⟨u63, hu63⟩ : ∃ u, u = a.tmps.getD 63 undef := ⟨_, rfl⟩
                  obtain ⟨u64, hu64⟩ : ∃ u, u = a.tmps.getD 64 undef := ⟨_, rfl⟩
                  obtain ⟨u65, hu65⟩ : ∃ u, u = a.tmps.getD 65 undef := ⟨_, rfl⟩
                  obtain ⟨u66, hu66⟩ : ∃ u, u = a.tmps.getD 66 undef := ⟨_, rfl⟩
                  have hal : AllAt a 0 [.string (mkS s), .agg #[.string (mkS t), .string (mkS m)], .slice A n c, undef, .pointer (some ⟨w0.heap.size, 0, none⟩), undef, u6, .bool true, .bool true, .int .i64 (k : Int), .int .i64 ((3 : Nat) : Int), u11, u12, undef, undef, undef, .bool true, .bool true, .bool false, .agg #[.string (mkS t), .string (mkS m)], .bool true, .bool true, .bool false, .bool false, .string (mkS s), .int .i64 (s.length : Int), .bool (decide ((16 : Int) < (s.length : Int))), .bool (decide ((16 : Int) < (s.length : Int))), .bool (decide ((16 : Int) < (s.length : Int))), .slice A n c, .int .i64 (n : Int), .bool (decide ((20 : Int) < (n : Int))), .bool (decide ((16 : Int) < (s.length : Int)) || decide ((20 : Int) < (n : Int))), .int .i64 (k : Int), .slice A n c, .int .i64 (n : Int), .bool false, u37, u38, u39, u40, u41, u42, u43, u44, u45, u46, u47, u48, u49, u50, u51, u52, u53, u54, u55, u56, u57, u58, u59, u60, u61, u62, u63, u64, u65, u66, .bool false, undef, undef, undef, undef, undef, undef, undef, undef, undef, undef, undef, undef, undef, undef, undef, undef, undef, undef, undef, undef, undef, undef, undef, undef, undef, undef, undef, undef, undef] := ⟨hfree 0 rfl, hfree 1 rfl, hfree 2 rfl, hfree 3 rfl, hfree 4 rfl, hfree 5 rfl, hu6.symm, hfree 7 rfl, hfree 8 rfl, hfree 9 rfl, hfree 10 rfl, hu11.symm, hu12.symm, hfree 13 rfl, hfree 14 rfl, hfree 15 rfl, hfree 16 rfl, hfree 17 rfl, hfree 18 rfl, hfree 19 rfl, hfree 20 rfl, hfree 21 rfl, hfree 22 rfl, hfree 23 rfl, hfree 24 rfl, hfree 25 rfl, hfree 26 rfl, hfree 27 rfl, hfree 28 rfl, hfree 29 rfl, hfree 30 rfl, hfree 31 rfl, hfree 32 rfl, hfree 33 rfl, hfree 34 rfl, hfree 35 rfl, hfree 36 rfl, hfree 37 rfl, hfree 38 rfl, hfree 39 rfl, hfree 40 rfl, hfree 41 rfl, hfree 42 rfl, hfree 43 rfl, hfree 44 rfl, hu45.symm, hu46.symm, hu47.symm, hu48.symm, hu49.symm, hu50.symm, hu51.symm, hu52.symm, hu53.symm, hu54.symm, hu55.symm, hu56.symm, hu57.symm, hu58.symm, hu59.symm, hu60.symm, hu61.symm, hu62.symm, hu63.symm, hu64.symm, hu65.symm, hu66.symm, hs 13 _ rfl, hfree 68 rfl, hfree 69 rfl, hfree 70 rfl, hfree 71 rfl, hfree 72 rfl, hfree 73 rfl, hfree 74 rfl, hfree 75 rfl, hfree 76 rfl, hfree 77 rfl, hfree 78 rfl, hfree 79 rfl, hfree 80 rfl, hfree 81 rfl, hfree 82 rfl, hfree 83 rfl, hfree 84 rfl, hfree 85 rfl, hfree 86 rfl, hfree 87 rfl, hfree 88 rfl, hfree 89 rfl, hfree 90 rfl, hfree 91 rfl, hfree 92 rfl, hfree 93 rfl, hfree 94 rfl, hfree 95 rfl, hfree 96 rfl, trivial⟩
                  have hlit := fun h => act_lit hd h hal
                  rw [hlit hsz]
                  clear hlit hal hd hsz hfree hs hu6 hu11 hu12 hu45 hu46 hu47 hu48 hu49 hu50 hu51 hu52 hu53 hu54 hu55 hu56 hu57 hu58 hu59 hu60 hu61 hu62 hu63 hu64 hu65 hu66
                  go_wp2_with fail
                  go_roundw
                  case rel => exact ⟨4, by go_num, by omega, HBX.out.later hC, HLR.out.trans hC⟩
                  case measure => simp [intOf]
              · subst hi0
                go_wp2_with (first
                  | (go_at_call 16; (with_reducible refine (HP1.out HSM.out _ HLR.out).mono ?_); rintro e w3 ⟨A3, k3, c3, rfl, hr3, hl3⟩; (have HL3 := Lib.hid (HLR.out.trans hl3)); (have HR3 := Lib.hid hr3); obtain ⟨d0, d1⟩ := (HBX.out.later hl3).cells; clear hr3 hl3)
                  | (go_at_call 17; (with_reducible refine (HP2.out HSM.out _ HL3.out).mono ?_); rintro e w4 ⟨A4, k4, c4, rfl, hr4, hl4⟩; obtain rfl : k4 = k3 := hr4.len_map.symm.trans HR3.out.len_map; (have HL4 := Lib.hid (HL3.out.trans hl4)); (have HR34 := Lib.hid ((HR3.out.below hl4).more hl4.size)); (have HR4 := Lib.hid hr4); clear hr4 hl4))
                go_loopw [15] (fun s15 wq => ∃ j : Nat, s15 = .int .i64 (j : Int) ∧ j ≤ k4 ∧ Later w4 wq) (fun i _ => k4 - (intOf i).toNat)
                case atStart => exact ⟨0, rfl, Nat.zero_le _, Later.refl _⟩
                case round =>
                  obtain ⟨j, rfl, hj, hlq⟩ := hrel
                  have HLQ := Lib.hid hlq
                  clear hlq d0 d1
                  by_cases hjk : j < k4
                  · obtain ⟨a3, hl3, rfl, hb3, hcell3⟩ := (HR34.out.below HLQ.out).at_map hjk
                    obtain ⟨a4, hl4, rfl, hb4, hcell4⟩ := (HR4.out.below HLQ.out).at_map hjk
                    obtain ⟨x, hx⟩ : ∃ x, x = (Gl.pick t m ns)[j] := ⟨_, rfl⟩
                    rw [← hx] at hcell3 hcell4
                    have h3 : wr.cell? (a3.add j) = some (.string (mkS x)) := hcell3
                    have h4 : wr.cell? (a4.add j) = some (.string (mkS x)) := hcell4
                    have hjk2 : (j : Int) < (k4 : Int) := by omega
                    have hk20 : j < 20 := by have h1 := Gl.pick_len t m ns; have h2 := HLEN.out; omega
                    clear hcell3 hcell4 hx
                    go_wp2
                    go_quiet (fail)
                    go_wp2_with fail
                    go_roundw
                    case rel => exact ⟨j + 1, by go_num, by omega, HLQ.out.trans ⟨rfl, rfl, rfl, Nat.le_refl _, fun _ _ => rfl⟩⟩
                    case measure => simp [intOf]; omega
                  · have hjk2 : ¬ ((j : Int) < (k4 : Int)) := by omega
                    go_wp2_with fail
                    go_ret
                    exact ⟨rfl, HL4.out.trans HLQ.out⟩
theorem walk (w : World) (s : ByteArray) (_ : s.size ≤ maxLen) (t : ByteArray) (ht : t.size ≤ maxLen) (m : ByteArray) (_ : m.size ≤ maxLen) (A : Option Addr) (n c : Nat) (l : List ByteArray) (h : Rd w w.heap.size A n (l.map Value.string) ∧ (∀ s ∈ l, s.size ≤ maxLen) ∧ n ≤ c ∧ c ≤ maxLen) : Calls Try.prog 4 #[.string s, .agg #[.string t, .string m], .slice A n c] w fun e w' => e = .returned (.bool true) ∧ Below w.heap.size w w' := by
  have hr : Rd w w.heap.size A n ((l.map fun b => b.data.toList).map sv) := by
    have e : (l.map fun b => b.data.toList).map sv = l.map Value.string := by
      rw [List.map_map]
      refine List.map_congr_left fun b _ => ?_
      show Value.string (mkS b.data.toList) = _
      rw [mkS_of]
    rw [e]; exact h.1
  have := walkL s.data.toList t.data.toList m.data.toList _ A n c ht w hr
  rwa [mkS_of, mkS_of, mkS_of] at this
end globCuts
end Go.Proofs.Ytjjkeajgcdminaa
