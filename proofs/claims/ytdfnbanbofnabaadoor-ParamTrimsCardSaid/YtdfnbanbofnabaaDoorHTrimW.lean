/- ParamTrims: the walk of its text. No premises. -/
import Derived.Test.YtdfnbanbofnabaaDoorHe
import Derived.BigQuiet
namespace Go.Proofs.YtdfnbanbofnabaaDoor
open Go.RowKit Go.Maps
theorem array_2 {cs : Array Value} (h : cs.size = 2) : ∃ a b, cs = #[a, b] := by
  obtain ⟨l⟩ := cs
  match l, h with
  | [a, b], _ => exact ⟨a, b, rfl⟩
namespace Pm
theorem count_one {t : L} {k : Nat} {b : UInt8} (hb : t[k]? = some b) : (t.take (k + 1)).count 42 = (t.take k).count 42 + if b = 42 then 1 else 0 := by
  obtain ⟨hk, e⟩ := List.getElem?_eq_some_iff.1 hb
  rw [List.take_succ_eq_append_getElem hk, List.count_append, e]
  by_cases h : b = 42
  · rw [if_pos h, h]; rfl
  · rw [if_neg h]; simp [h]
end Pm
namespace paramTrims
open Pm Gs
set_option maxRecDepth 100000 in
set_option maxHeartbeats 3200000 in
theorem walkL (op s t m : L) (w0 : World) (hT : Tb w0) (ht : t.length ≤ 9223372036854775807) (hs : s.length ≤ 9223372036854775807) : Calls Tryd.prog 4 #[.string (mkS op), .string (mkS s), .agg #[.string (mkS t), .string (mkS m)]] w0 fun e w' => e = .returned (.bool true) ∧ Later w0 w' := by
  have hst : (mkS t).size = t.length := mkS_size t
  have hsi : ((mkS t).size : Int) = (t.length : Int) := by omega
  have hsj : ((mkS s).size : Int) = (s.length : Int) := by rw [mkS_size]
  have HL := Lib.hid (Later.alloc w0 (.cells #[.string (mkS t), .string (mkS m)] 29))
  have HB := Lib.hid (Box.new w0 t m)
  have HA := Lib.hid (awake_v _ (hT.later HL.out))
  have HS := Lib.hid hst
  clear hst hT
  go_enter Tryd.func4, Tryd.ntmps4
  go_wp2_with (go_at_call 6; (with_reducible refine HA.out.mono ?_); rintro e w1 ⟨rfl, hl1⟩; have HL1 := Lib.hid (HL.out.trans hl1); have HB1 := Lib.hid (HB.out.later hl1); clear hl1)
  go_loopw [8, 9] (fun s3 s4 wr => ∃ a k : Nat, s3 = .int .i64 (a : Int) ∧ s4 = .int .i64 (k : Int) ∧ a ≤ k ∧ k ≤ t.length ∧ a = (t.take k).count 42 ∧ Box wr w0.heap.size t m ∧ Later w0 wr) (fun _ i _ => t.length - (intOf i).toNat)
  case atStart => exact ⟨0, 0, rfl, rfl, Nat.le_refl _, Nat.zero_le _, rfl, HB1.out, HL1.out⟩
  case round =>
    obtain ⟨a, k, rfl, rfl, hak, hk, hcnt, hbox, hlr⟩ := hrel
    obtain ⟨c0, c1⟩ := hbox.cells
    have HC := Lib.hid hcnt
    clear hcnt
    have HBX := Lib.hid hbox
    have HLR := Lib.hid hlr
    clear hbox hlr
    by_cases hkn : k < t.length
    · have hk2 : (k : Int) < (t.length : Int) := by omega
      have hk3 : k < (mkS t).size := by have := HS.out; omega
      have HG := Lib.hid (get_byte t k hk3)
      by_cases hb : ((mkS t)[k].toNat : Int) = 42
      · go_wp2_with fail
        go_roundw
        case rel =>
          refine ⟨a + 1, k + 1, by go_num, by go_num, by omega, by omega, ?_, HBX.out, HLR.out⟩
          rw [count_one HG.out, HC.out, if_pos (UInt8.toNat_inj.1 (by have : (42 : UInt8).toNat = 42 := rfl; omega))]
        case measure => simp [intOf]; omega
      · go_wp2_with fail
        go_roundw
        case rel =>
          refine ⟨a, k + 1, rfl, by go_num, by omega, by omega, ?_, HBX.out, HLR.out⟩
          rw [count_one HG.out, HC.out, if_neg (fun e => hb (by rw [e]; rfl)), Nat.add_zero]
        case measure => simp [intOf]; omega
    · have hk2 : ¬ ((k : Int) < (t.length : Int)) := by omega
      by_cases hg : (t.length : Int) ≤ 20 ∧ (a : Int) ≤ 5 ∧ (s.length : Int) ≤ 16
      · obtain ⟨h20, h5, h16⟩ := hg
        obtain ⟨C, c3, c4⟩ := trim_one op s t m (by omega) (by omega)
        have C1 := Lib.hid c3
        have C2 := Lib.hid c4
        clear c3 c4
        have HEE := Lib.hid (show ((mkS C).toList == (mkS C).toList) = true from beq_self_eq_true _)
        go_wp2_with fail
        refine wp_region_owes (by kernel_rfl) (fun W => Later wr W) (Later) (Later.refl) [Sp.val (.string (mkS op)), Sp.val (.string (mkS s)), Sp.val (.agg #[.string (mkS t), .string (mkS m)]), Sp.val (.string (mkS C)), Sp.val (.string (mkS op)), Sp.val (.string (mkS s)), Sp.val (.pointer (some ⟨w0.heap.size, 0, none⟩)), Sp.val (.string (mkS t)), Sp.val (.pointer (some ⟨w0.heap.size, 1, none⟩)), Sp.val (.string (mkS m)), Sp.val (.string (mkS C)), Sp.val (.bool true), Sp.val (.bool true)] (by kernel_rfl) (Later.drew wr) ?_ ?_
        · refine ⟨?_, ?_, ?_, ?_, ?_, ?_, ?_, ?_, ?_, ?_, ?_, ?_, ?_, trivial⟩
          · -- 0: slot 40 := Op.move t0
            refine fun a w hC hs => .inl ⟨?_, ?_⟩
            · rfl
            have e0 : a.tmps.getD 0 undef = .string (mkS op) := hs.free 0 rfl
            exact ⟨e0, hC, Later.refl _⟩
          · -- 1: slot 41 := Op.move t1
            refine fun a w hC hs => .inl ⟨?_, ?_⟩
            · rfl
            have e1 : a.tmps.getD 1 undef = .string (mkS s) := hs.free 1 rfl
            exact ⟨e1, hC, Later.refl _⟩
          · -- 2: slot 42 := Op.load 29 t5
            refine fun a w hC hs => .inl ⟨?_, ?_⟩
            · rfl
            have e5 : a.tmps.getD 5 undef = .pointer (some ⟨w0.heap.size, 0, none⟩) := hs.free 5 rfl
            obtain ⟨q0, q1⟩ := (HBX.out.later hC).cells
            refine ValWp.pure (v := .agg #[.string (mkS t), .string (mkS m)]) (fun K' hK' => ?_) ⟨rfl, hC, Later.refl _⟩
            simp only [ValWp, execOp, Act.eval, e5]
            go_simp
            all_goals exact hK'
          · -- 3: slot 43 := Op.call { value (Operand.func 12), args := #[t40, t41, t42], argTypes := #[9, 9, 29] }
            refine fun a w hC hs => .inl ⟨?_, ?_⟩
            · rfl
            have e40 : a.tmps.getD 40 undef = .string (mkS op) := hs.dep 0 _ rfl rfl
            have e41 : a.tmps.getD 41 undef = .string (mkS s) := hs.dep 1 _ rfl rfl
            have e42 : a.tmps.getD 42 undef = .agg #[.string (mkS t), .string (mkS m)] := hs.dep 2 _ rfl rfl
            refine ValWp.call #[.string (mkS op), .string (mkS s), .agg #[.string (mkS t), .string (mkS m)]] rfl rfl Tryd.func12 rfl rfl (by simp only [List.map_toArray, List.map_cons, List.map_nil, Act.eval, e40, e41, e42]) ?_
            refine (C1.out w).mono ?_
            rintro e w' ⟨rfl, hl⟩
            exact ⟨_, rfl, rfl, hC.trans hl, hl⟩
          · -- 4: slot 44 := Op.move t0
            refine fun a w hC hs => .inl ⟨?_, ?_⟩
            · rfl
            have e0 : a.tmps.getD 0 undef = .string (mkS op) := hs.free 0 rfl
            exact ⟨e0, hC, Later.refl _⟩
          · -- 5: slot 45 := Op.move t1
            refine fun a w hC hs => .inl ⟨?_, ?_⟩
            · rfl
            have e1 : a.tmps.getD 1 undef = .string (mkS s) := hs.free 1 rfl
            exact ⟨e1, hC, Later.refl _⟩
          · -- 6: slot 46 := Op.fieldAddr 29 t5 0
            refine fun a w hC hs => .inl ⟨?_, ?_⟩
            · rfl
            have e5 : a.tmps.getD 5 undef = .pointer (some ⟨w0.heap.size, 0, none⟩) := hs.free 5 rfl
            refine ValWp.pure (v := .pointer (some ⟨w0.heap.size, 0, none⟩)) (fun K' hK' => ?_) ⟨rfl, hC, Later.refl _⟩
            simp only [ValWp, execOp, Act.eval, e5]
            go_simp
            all_goals exact hK'
          · -- 7: slot 47 := Op.load 9 t46
            refine fun a w hC hs => .inl ⟨?_, ?_⟩
            · rfl
            have e46 : a.tmps.getD 46 undef = .pointer (some ⟨w0.heap.size, 0, none⟩) := hs.dep 6 _ rfl rfl
            obtain ⟨q0, q1⟩ := (HBX.out.later hC).cells
            refine ValWp.pure (v := .string (mkS t)) (fun K' hK' => ?_) ⟨rfl, hC, Later.refl _⟩
            simp only [ValWp, execOp, Act.eval, e46]
            go_simp
            all_goals exact hK'
          · -- 8: slot 48 := Op.fieldAddr 29 t5 1
            refine fun a w hC hs => .inl ⟨?_, ?_⟩
            · rfl
            have e5 : a.tmps.getD 5 undef = .pointer (some ⟨w0.heap.size, 0, none⟩) := hs.free 5 rfl
            refine ValWp.pure (v := .pointer (some ⟨w0.heap.size, 1, none⟩)) (fun K' hK' => ?_) ⟨rfl, hC, Later.refl _⟩
            simp only [ValWp, execOp, Act.eval, e5]
            go_simp
            all_goals exact hK'
          · -- 9: slot 49 := Op.load 9 t48
            refine fun a w hC hs => .inl ⟨?_, ?_⟩
            · rfl
            have e48 : a.tmps.getD 48 undef = .pointer (some ⟨w0.heap.size, 1, none⟩) := hs.dep 8 _ rfl rfl
            obtain ⟨q0, q1⟩ := (HBX.out.later hC).cells
            refine ValWp.pure (v := .string (mkS m)) (fun K' hK' => ?_) ⟨rfl, hC, Later.refl _⟩
            simp only [ValWp, execOp, Act.eval, e48]
            go_simp
            all_goals exact hK'
          · -- 10: slot 50 := Op.call { value (Operand.func 13), args := #[t44, t45, t47, t49], argTypes := #[9, 9, 9, 9] }
            refine fun a w hC hs => .inl ⟨?_, ?_⟩
            · rfl
            have e44 : a.tmps.getD 44 undef = .string (mkS op) := hs.dep 4 _ rfl rfl
            have e45 : a.tmps.getD 45 undef = .string (mkS s) := hs.dep 5 _ rfl rfl
            have e47 : a.tmps.getD 47 undef = .string (mkS t) := hs.dep 7 _ rfl rfl
            have e49 : a.tmps.getD 49 undef = .string (mkS m) := hs.dep 9 _ rfl rfl
            refine ValWp.call #[.string (mkS op), .string (mkS s), .string (mkS t), .string (mkS m)] rfl rfl Tryd.func13 rfl rfl (by simp only [List.map_toArray, List.map_cons, List.map_nil, Act.eval, e44, e45, e47, e49]) ?_
            refine (C2.out w).mono ?_
            rintro e w' ⟨rfl, hl⟩
            exact ⟨_, rfl, rfl, hC.trans hl, hl⟩
          · -- 11: slot 51 := Op.binOp BinOp.eql 9 t43 t50 9
            refine fun a w hC hs => .inl ⟨?_, ?_⟩
            · rfl
            have e43 : a.tmps.getD 43 undef = .string (mkS C) := hs.dep 3 _ rfl rfl
            have e50 : a.tmps.getD 50 undef = .string (mkS C) := hs.dep 10 _ rfl rfl
            have hee := HEE.out
            refine ValWp.pure (v := .bool true) (fun K' hK' => ?_) ⟨rfl, hC, Later.refl _⟩
            simp only [ValWp, execOp, Act.eval, e43, e50]
            go_simp
            all_goals exact hK'
          · -- 12: slot 6 := Op.assign t51
            refine fun a w hC hs => .inl ⟨?_, ?_⟩
            · rfl
            have e51 : a.tmps.getD 51 undef = .bool true := hs.dep 11 _ rfl rfl
            exact ⟨e51, hC, Later.refl _⟩
        · intro a W hC hd hsz hfree hs
          obtain ⟨u0, hu0⟩ : ∃ u, u = a.tmps.getD 0 undef := ⟨_, rfl⟩
          obtain ⟨u1, hu1⟩ : ∃ u, u = a.tmps.getD 1 undef := ⟨_, rfl⟩
          obtain ⟨u2, hu2⟩ : ∃ u, u = a.tmps.getD 2 undef := ⟨_, rfl⟩
          obtain ⟨u3, hu3⟩ : ∃ u, u = a.tmps.getD 3 undef := ⟨_, rfl⟩
          obtain ⟨u4, hu4⟩ : ∃ u, u = a.tmps.getD 4 undef := ⟨_, rfl⟩
          obtain ⟨u5, hu5⟩ : ∃ u, u = a.tmps.getD 5 undef := ⟨_, rfl⟩
          obtain ⟨u7, hu7⟩ : ∃ u, u = a.tmps.getD 7 undef := ⟨_, rfl⟩
          obtain ⟨u8, hu8⟩ : ∃ u, u = a.tmps.getD 8 undef := ⟨_, rfl⟩
          obtain ⟨u9, hu9⟩ : ∃ u, u = a.tmps.getD 9 undef := ⟨_, rfl⟩
          obtain ⟨u10, hu10⟩ : ∃ u, u = a.tmps.getD 10 undef := ⟨_, rfl⟩
          obtain ⟨u11, hu11⟩ : ∃ u, u = a.tmps.getD 11 undef := ⟨_, rfl⟩
          obtain ⟨u12, hu12⟩ : ∃ u, u = a.tmps.getD 12 undef := ⟨_, rfl⟩
          obtain ⟨u13, hu13⟩ : ∃ u, u = a.tmps.getD 13 undef := ⟨_, rfl⟩
          obtain ⟨u14, hu14⟩ : ∃ u, u = a.tmps.getD 14 undef := ⟨_, rfl⟩
          obtain ⟨u15, hu15⟩ : ∃ u, u = a.tmps.getD 15 undef := ⟨_, rfl⟩
          obtain ⟨u16, hu16⟩ : ∃ u, u = a.tmps.getD 16 undef := ⟨_, rfl⟩
          obtain ⟨u17, hu17⟩ : ∃ u, u = a.tmps.getD 17 undef := ⟨_, rfl⟩
          obtain ⟨u18, hu18⟩ : ∃ u, u = a.tmps.getD 18 undef := ⟨_, rfl⟩
          obtain ⟨u19, hu19⟩ : ∃ u, u = a.tmps.getD 19 undef := ⟨_, rfl⟩
          obtain ⟨u20, hu20⟩ : ∃ u, u = a.tmps.getD 20 undef := ⟨_, rfl⟩
          obtain ⟨u21, hu21⟩ : ∃ u, u = a.tmps.getD 21 undef := ⟨_, rfl⟩
          obtain ⟨u22, hu22⟩ : ∃ u, u = a.tmps.getD 22 undef := ⟨_, rfl⟩
          obtain ⟨u23, hu23⟩ : ∃ u, u = a.tmps.getD 23 undef := ⟨_, rfl⟩
          obtain ⟨u24, hu24⟩ : ∃ u, u = a.tmps.getD 24 undef := ⟨_, rfl⟩
          obtain ⟨u25, hu25⟩ : ∃ u, u = a.tmps.getD 25 undef := ⟨_, rfl⟩
          obtain ⟨u26, hu26⟩ : ∃ u, u = a.tmps.getD 26 undef := ⟨_, rfl⟩
          obtain ⟨u27, hu27⟩ : ∃ u, u = a.tmps.getD 27 undef := ⟨_, rfl⟩
          obtain ⟨u28, hu28⟩ : ∃ u, u = a.tmps.getD 28 undef := ⟨_, rfl⟩
          obtain ⟨u29, hu29⟩ : ∃ u, u = a.tmps.getD 29 undef := ⟨_, rfl⟩
          obtain ⟨u30, hu30⟩ : ∃ u, u = a.tmps.getD 30 undef := ⟨_, rfl⟩
          obtain ⟨u31, hu31⟩ : ∃ u, u = a.tmps.getD 31 undef := ⟨_, rfl⟩
          obtain ⟨u32, hu32⟩ : ∃ u, u = a.tmps.getD 32 undef := ⟨_, rfl⟩
          obtain ⟨u33, hu33⟩ : ∃ u, u = a.tmps.getD 33 undef := ⟨_, rfl⟩
          obtain ⟨u34, hu34⟩ : ∃ u, u = a.tmps.getD 34 undef := ⟨_, rfl⟩
          obtain ⟨u35, hu35⟩ : ∃ u, u = a.tmps.getD 35 undef := ⟨_, rfl⟩
          obtain ⟨u36, hu36⟩ : ∃ u, u = a.tmps.getD 36 undef := ⟨_, rfl⟩
          obtain ⟨u37, hu37⟩ : ∃ u, u = a.tmps.getD 37 undef := ⟨_, rfl⟩
          obtain ⟨u38, hu38⟩ : ∃ u, u = a.tmps.getD 38 undef := ⟨_, rfl⟩
          obtain ⟨u39, hu39⟩ : ∃ u, u = a.tmps.getD 39 undef := ⟨_, rfl⟩
          obtain ⟨u40, hu40⟩ : ∃ u, u = a.tmps.getD 40 undef := ⟨_, rfl⟩
          obtain ⟨u41, hu41⟩ : ∃ u, u = a.tmps.getD 41 undef := ⟨_, rfl⟩
          obtain ⟨u42, hu42⟩ : ∃ u, u = a.tmps.getD 42 undef := ⟨_, rfl⟩
          obtain ⟨u43, hu43⟩ : ∃ u, u = a.tmps.getD 43 undef := ⟨_, rfl⟩
          obtain ⟨u44, hu44⟩ : ∃ u, u = a.tmps.getD 44 undef := ⟨_, rfl⟩
          obtain ⟨u45, hu45⟩ : ∃ u, u = a.tmps.getD 45 undef := ⟨_, rfl⟩
          obtain ⟨u46, hu46⟩ : ∃ u, u = a.tmps.getD 46 undef := ⟨_, rfl⟩
          obtain ⟨u47, hu47⟩ : ∃ u, u = a.tmps.getD 47 undef := ⟨_, rfl⟩
          obtain ⟨u48, hu48⟩ : ∃ u, u = a.tmps.getD 48 undef := ⟨_, rfl⟩
          obtain ⟨u49, hu49⟩ : ∃ u, u = a.tmps.getD 49 undef := ⟨_, rfl⟩
          obtain ⟨u50, hu50⟩ : ∃ u, u = a.tmps.getD 50 undef := ⟨_, rfl⟩
          obtain ⟨u51, hu51⟩ : ∃ u, u = a.tmps.getD 51 undef := ⟨_, rfl⟩
          have hal : AllAt a 0 [u0, u1, u2, u3, u4, u5, .bool true, u7, u8, u9, u10, u11, u12, u13, u14, u15, u16, u17, u18, u19, u20, u21, u22, u23, u24, u25, u26, u27, u28, u29, u30, u31, u32, u33, u34, u35, u36, u37, u38, u39, u40, u41, u42, u43, u44, u45, u46, u47, u48, u49, u50, u51] := ⟨hu0.symm, hu1.symm, hu2.symm, hu3.symm, hu4.symm, hu5.symm, hs 12 _ rfl, hu7.symm, hu8.symm, hu9.symm, hu10.symm, hu11.symm, hu12.symm, hu13.symm, hu14.symm, hu15.symm, hu16.symm, hu17.symm, hu18.symm, hu19.symm, hu20.symm, hu21.symm, hu22.symm, hu23.symm, hu24.symm, hu25.symm, hu26.symm, hu27.symm, hu28.symm, hu29.symm, hu30.symm, hu31.symm, hu32.symm, hu33.symm, hu34.symm, hu35.symm, hu36.symm, hu37.symm, hu38.symm, hu39.symm, hu40.symm, hu41.symm, hu42.symm, hu43.symm, hu44.symm, hu45.symm, hu46.symm, hu47.symm, hu48.symm, hu49.symm, hu50.symm, hu51.symm, trivial⟩
          have hlit := fun h => act_lit hd h hal
          rw [hlit hsz]
          clear hlit hal hd hsz hfree hs hu0 hu1 hu2 hu3 hu4 hu5 hu7 hu8 hu9 hu10 hu11 hu12 hu13 hu14 hu15 hu16 hu17 hu18 hu19 hu20 hu21 hu22 hu23 hu24 hu25 hu26 hu27 hu28 hu29 hu30 hu31 hu32 hu33 hu34 hu35 hu36 hu37 hu38 hu39 hu40 hu41 hu42 hu43 hu44 hu45 hu46 hu47 hu48 hu49 hu50 hu51
          go_wp2
          go_ret
          exact ⟨rfl, HLR.out.trans hC⟩
      · by_cases h20 : (t.length : Int) ≤ 20
        · by_cases h5 : (a : Int) ≤ 5
          · have h16 : ¬ (s.length : Int) ≤ 16 := fun h => hg ⟨h20, h5, h⟩
            clear hg
            go_wp2_with fail
            go_ret
            exact ⟨rfl, HLR.out⟩
          · clear hg
            go_wp2_with fail
            go_ret
            exact ⟨rfl, HLR.out⟩
        · clear hg
          go_wp2_with fail
          go_ret
          exact ⟨rfl, HLR.out⟩
theorem walk (w : World) (hT : Tb w) (op : ByteArray) (_hop : op.size ≤ maxLen) (s : ByteArray) (hs : s.size ≤ maxLen) (t : ByteArray) (ht : t.size ≤ maxLen) (m : ByteArray) (_hm : m.size ≤ maxLen) : Calls Tryd.prog 4 #[.string op, .string s, .agg #[.string t, .string m]] w fun e w' => e = .returned (.bool true) ∧ Below w.heap.size w w' := by
  have hl : ∀ x : ByteArray, x.size ≤ maxLen → x.data.toList.length ≤ 9223372036854775807 := fun x hx => by
    have := mkS_size x.data.toList
    rw [mkS_of] at this
    unfold maxLen at hx
    omega
  rw [← mkS_of op, ← mkS_of s, ← mkS_of t, ← mkS_of m]
  exact walkL _ _ _ _ w hT (hl t ht) (hl s hs)
end paramTrims
end Go.Proofs.YtdfnbanbofnabaaDoor
