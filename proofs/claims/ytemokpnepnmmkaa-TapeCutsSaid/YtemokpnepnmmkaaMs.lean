/- The document's One and Take of layer 3: a row's frame as a text, and what a text begins with. -/
import Derived.Test.YtemokpnepnmmkaaMj
import Derived.Test.YtemokpnepnmmkaaMo
import Derived.Test.YtemokpnepnmmkaaMf
import Derived.Test.YtemokpnepnmmkaaMe
import Derived.Test.YtemokpnepnmmkaaMd
import Derived.Test.YtemokpnepnmmkaaMm
import Derived.Test.YtemokpnepnmmkaaMr
namespace Go.Proofs.Ytemokpnepnmmkaa
open Go.RowKit
theorem mkS_mid (bs : List UInt8) (i j : Nat) : (mkS bs).extract i j = mkS ((bs.drop i).take (j - i)) := by
  apply ByteArray.ext
  simp [mkS, List.extract_eq_take_drop]
theorem tailL_len (x : Nat) : (tailL x).length = 4 := tailL_length x
theorem textB_head (t : List UInt8) : textB t = headL t := rfl
set_option maxRecDepth 100000 in
theorem refOne_v (t : List UInt8) (w : World) (ht : t.length ≤ 1000000000) :
    Calls Try.prog 15 #[.string (mkS t)] w fun e w' => e = .returned (.string (mkS (frameL t))) ∧ Later w w' := by
  obtain ⟨h, hh⟩ : ∃ h, h = textB t := ⟨_, rfl⟩
  have hl : h.length ≤ 1000000010 := by rw [hh]; rcases textB_len t with h | h <;> omega
  have c1 := fun W => refText_v t W ht
  rw [← hh] at c1
  obtain ⟨c, hc⟩ : ∃ c, c = crcL h := ⟨_, rfl⟩
  have c2 := fun W => refCrc_v (mkS h) W (by rw [mkS_size]; omega)
  rw [mkS_list, ← hc] at c2
  have c3 := fun W => refTail_v c W (by rw [hc]; exact crcL_lt h)
  obtain ⟨T, hT⟩ : ∃ x, x = mkS h := ⟨_, rfl⟩
  have zT : T.size ≤ 1000000010 := by rw [hT, mkS_size]; exact hl
  obtain ⟨U, hU⟩ : ∃ x, x = mkS (tailL c) := ⟨_, rfl⟩
  have zU : U.size = 4 := by rw [hU, mkS_size]; rfl
  have hf : mkS (frameL t) = T ++ U := by rw [hT, hU, mkS_add, hc, hh]; rfl
  rw [← hT] at c1 c2
  rw [← hU] at c3
  rw [hf]
  have PK := Lib.hid (And.intro c1 (And.intro c2 c3))
  clear c1 c2 c3 hf hT hU hc hh hl
  go_enter Try.func15, Try.ntmps15
  go_wp2_with (first
    | (go_at_call 25; (with_reducible refine (PK.out.1 _).mono ?_); rintro e w1 ⟨rfl, hb1⟩; have HB1 := Lib.hid hb1; clear hb1)
    | (go_at_call 27; (with_reducible refine (PK.out.2.1 _).mono ?_); rintro e w' ⟨rfl, rfl⟩)
    | (go_at_call 26; (with_reducible refine (PK.out.2.2 _).mono ?_); rintro e w2 ⟨rfl, hb2⟩; have HB2 := Lib.hid (Later.trans HB1.out hb2); clear hb2))
  go_ret
  exact ⟨rfl, HB2.out⟩
set_option maxRecDepth 100000 in
set_option maxHeartbeats 1000000 in
theorem refTakeF_v (bs : List UInt8) (w : World) (hn : bs.length ≤ 1000000000000) :
    Calls Try.prog 50 #[.string (mkS bs)] w fun e w' => e = .returned (.tuple #[.string (mkS (takeF bs).1), .int .i64 ((takeF bs).2.1 : Int), .int .i64 ((takeF bs).2.2 : Int)]) ∧ Later w w' := by
  have hs := mkS_size bs
  have hcase := takeM_cases bs
  have hht := heads_le bs
  have htv := fun W => refTake_v (mkS bs) W (by rw [hs]; omega)
  rw [mkS_list] at htv
  obtain ⟨sz, hsz⟩ : ∃ sz, (takeM bs).1 = sz := ⟨_, rfl⟩
  obtain ⟨ho, hhd⟩ : ∃ ho, (takeM bs).2.1 = ho := ⟨_, rfl⟩
  obtain ⟨er, her⟩ : ∃ er, (takeM bs).2.2 = er := ⟨_, rfl⟩
  rw [hsz, hhd, her] at htv hcase
  have HTV := Lib.hid htv
  have hd11 : ho ≤ 11 := by rcases hcase with h | h <;> omega
  have hszl : sz < 18446744073709551616 := by rcases hcase with h | h <;> omega
  have HSZ := Lib.hid hsz
  have HHD := Lib.hid hhd
  have HER := Lib.hid her
  obtain ⟨n, hlen⟩ : ∃ n, bs.length = n := ⟨_, rfl⟩
  rw [hlen] at hs hn
  have HLEN := Lib.hid hlen
  clear htv hsz hhd her hlen hcase hht
  by_cases he0 : er = 0
  case neg =>
    have HF := Lib.hid (takeF_err HER.out he0)
    clear HER
    go_enter Try.func50, Try.ntmps50
    go_wp2_with (go_at_call 67; (with_reducible refine (HTV.out _).mono ?_); rintro e w' ⟨rfl, rfl⟩)
    go_ret3
    exact ⟨by rw [HF.out]; rfl, Later.refl _⟩
  subst he0
  by_cases hbig : 65536 < sz
  · have HF := Lib.hid (takeF_big HER.out (by rw [HSZ.out]; exact hbig))
    go_enter Try.func50, Try.ntmps50
    go_wp2_with (go_at_call 67; (with_reducible refine (HTV.out _).mono ?_); rintro e w' ⟨rfl, rfl⟩)
    go_ret3
    exact ⟨by rw [HF.out]; rfl, Later.refl _⟩
  have hw : IntKind.i64.wrap (sz : Int) = (sz : Int) := by rw [IntKind.wrap_i64]; omega
  by_cases hless : n < ho + sz + 4
  · have HF := Lib.hid (takeF_less HER.out (by rw [HSZ.out]; exact hbig) (by rw [HSZ.out, HHD.out, HLEN.out]; exact hless))
    go_enter Try.func50, Try.ntmps50
    go_wp2_with (go_at_call 67; (with_reducible refine (HTV.out _).mono ?_); rintro e w' ⟨rfl, rfl⟩)
    go_ret3
    exact ⟨by rw [HF.out]; rfl, Later.refl _⟩
  obtain ⟨en, hen⟩ : ∃ en, ho + sz = en := ⟨_, rfl⟩
  have hw2 : (ho : Int) + (sz : Int) = (en : Int) := by omega
  have hi5 : (0 : Int) ≤ (ho : Int) := by omega
  have hi6 : (ho : Int) ≤ (en : Int) := by omega
  have hi7 : (en : Int) ≤ (n : Int) := by omega
  have hi8 : (0 : Int) ≤ (en : Int) := by omega
  have hi9 : (en : Int) ≤ (en : Int) + 4 := by omega
  have hi4 : (en : Int) + 4 ≤ (n : Int) := by omega
  have HEN := Lib.hid hen
  clear hen
  obtain ⟨x, hx⟩ : ∃ x, x = crcL (bs.take en) := ⟨_, rfl⟩
  have hcl : x < 4294967296 := by rw [hx]; exact crcL_lt _
  have cof := fun W => refCrc_v ((mkS bs).extract 0 en) W (by rw [mkS_take, mkS_size, List.length_take]; omega)
  rw [mkS_take, mkS_list, ← hx, ← mkS_take] at cof
  have COF := Lib.hid cof
  have CTL := Lib.hid (fun W => refTail_v x W hcl)
  have HX := Lib.hid hx
  have PKS := Lib.hid (show (IntKind.i64.wrap (en : Int) = (en : Int)) ∧ (wrap64 ((en : Int) + 4 - 4) = (en : Int)) ∧ (((en : Int) + 4).toNat = en + 4) ∧ (wrap64 ((en : Int) + 4) = (en : Int) + 4) from ⟨by rw [IntKind.wrap_i64]; omega, by unfold wrap64; omega, by omega, by unfold wrap64; omega⟩)
  clear cof hx
  by_cases hsum : (bs.drop en).take 4 = tailL x
  · have HF := Lib.hid (takeF_yes (en := en) HER.out (by rw [HSZ.out]; exact hbig) (by rw [HSZ.out, HHD.out, HLEN.out]; exact hless) (by rw [HSZ.out, HHD.out]; exact HEN.out) (by rw [← HX.out]; exact hsum))
    rw [HHD.out, HSZ.out] at HF
    have hcmp : ((mkS (tailL x)).toList == ((mkS bs).extract en (en + 4)).toList) = true := by
      rw [mkS_mid, show en + 4 - en = 4 by omega, hsum]; simp
    have HCMP := Lib.hid hcmp
    clear hsum hcmp
    go_enter Try.func50, Try.ntmps50
    go_wp2_with (go_at_call 67; (with_reducible refine (HTV.out _).mono ?_); rintro e w' ⟨rfl, rfl⟩)
    refine wp_region_owes (by kernel_rfl) (fun W => Later w W) (Later) (Later.refl) [Sp.val (.string (mkS bs)), Sp.val (.int .i64 ((en : Int) + 4)), Sp.val (.int .i64 (en : Int)), Sp.val (.string ((mkS bs).extract 0 en)), Sp.val (.int .u32 (x : Int)), Sp.val (.string (mkS (tailL x))), Sp.val (.string (mkS bs)), Sp.val (.int .i64 ((en : Int) + 4)), Sp.val (.int .i64 (en : Int)), Sp.val (.int .i64 ((en : Int) + 4)), Sp.val (.string ((mkS bs).extract en (en + 4))), Sp.val (.bool false)] (by kernel_rfl) (Later.drew w) ?_ ?_
    · refine ⟨?_, ?_, ?_, ?_, ?_, ?_, ?_, ?_, ?_, ?_, ?_, ?_, trivial⟩
      · -- 0: slot 41 := Op.move t0
        refine fun a w hC hs => .inl ⟨?_, ?_⟩
        · rfl
        have e0 : a.tmps.getD 0 undef = .string (mkS bs) := hs.free 0 rfl
        exact ⟨e0, hC, Later.refl _⟩
      · -- 1: slot 42 := Op.move t9
        refine fun a w hC hs => .inl ⟨?_, ?_⟩
        · rfl
        have e9 : a.tmps.getD 9 undef = .int .i64 ((en : Int) + 4) := hs.free 9 rfl
        exact ⟨e9, hC, Later.refl _⟩
      · -- 2: slot 43 := Op.binOp BinOp.sub 3 t42 (const (4:i64)) 3
        refine fun a w hC hs => .inl ⟨?_, ?_⟩
        · rfl
        have e42 : a.tmps.getD 42 undef = .int .i64 ((en : Int) + 4) := hs.dep 1 _ rfl rfl
        have hsa := PKS.out.1
        have hsb := PKS.out.2.1
        refine ValWp.pure (v := .int .i64 (en : Int)) (fun K' hK' => ?_) ⟨rfl, hC, Later.refl _⟩
        simp only [ValWp, execOp, Act.eval, e42]
        go_simp
        all_goals exact hK'
      · -- 3: slot 44 := Op.slice 9 t41 none (some t43) none
        refine fun a w hC hs => .inl ⟨?_, ?_⟩
        · rfl
        have e41 : a.tmps.getD 41 undef = .string (mkS bs) := hs.dep 0 _ rfl rfl
        have e43 : a.tmps.getD 43 undef = .int .i64 (en : Int) := hs.dep 2 _ rfl rfl
        refine ValWp.pure (v := .string ((mkS bs).extract 0 en)) (fun K' hK' => ?_) ⟨rfl, hC, Later.refl _⟩
        simp only [ValWp, execOp, Act.eval, Option.map_some, Option.map_none, e41, e43]
        go_simp
        all_goals exact hK'
      · -- 4: slot 45 := Op.call { value (Operand.func 27), args := #[t44], argTypes := #[9] }
        refine fun a w hC hs => .inl ⟨?_, ?_⟩
        · rfl
        have e44 : a.tmps.getD 44 undef = .string ((mkS bs).extract 0 en) := hs.dep 3 _ rfl rfl
        refine ValWp.call #[.string ((mkS bs).extract 0 en)] rfl rfl Try.func27 rfl rfl (by simp only [List.map_toArray, List.map_cons, List.map_nil, Act.eval, e44]) ?_
        refine (COF.out w).mono ?_
        rintro r w' ⟨rfl, rfl⟩
        exact ⟨_, rfl, rfl, hC, Later.refl _⟩
      · -- 5: slot 46 := Op.call { value (Operand.func 26), args := #[t45], argTypes := #[59] }
        refine fun a w hC hs => .inl ⟨?_, ?_⟩
        · rfl
        have e45 : a.tmps.getD 45 undef = .int .u32 (x : Int) := hs.dep 4 _ rfl rfl
        refine ValWp.call #[.int .u32 (x : Int)] rfl rfl Try.func26 rfl rfl (by simp only [List.map_toArray, List.map_cons, List.map_nil, Act.eval, e45]) ?_
        refine (CTL.out w).mono ?_
        rintro r w' ⟨rfl, hb⟩
        exact ⟨_, rfl, rfl, Later.trans hC hb, hb⟩
      · -- 6: slot 47 := Op.move t0
        refine fun a w hC hs => .inl ⟨?_, ?_⟩
        · rfl
        have e0 : a.tmps.getD 0 undef = .string (mkS bs) := hs.free 0 rfl
        exact ⟨e0, hC, Later.refl _⟩
      · -- 7: slot 48 := Op.move t9
        refine fun a w hC hs => .inl ⟨?_, ?_⟩
        · rfl
        have e9 : a.tmps.getD 9 undef = .int .i64 ((en : Int) + 4) := hs.free 9 rfl
        exact ⟨e9, hC, Later.refl _⟩
      · -- 8: slot 49 := Op.binOp BinOp.sub 3 t48 (const (4:i64)) 3
        refine fun a w hC hs => .inl ⟨?_, ?_⟩
        · rfl
        have e48 : a.tmps.getD 48 undef = .int .i64 ((en : Int) + 4) := hs.dep 7 _ rfl rfl
        have hsa := PKS.out.1
        have hsb := PKS.out.2.1
        refine ValWp.pure (v := .int .i64 (en : Int)) (fun K' hK' => ?_) ⟨rfl, hC, Later.refl _⟩
        simp only [ValWp, execOp, Act.eval, e48]
        go_simp
        all_goals exact hK'
      · -- 9: slot 50 := Op.move t9
        refine fun a w hC hs => .inl ⟨?_, ?_⟩
        · rfl
        have e9 : a.tmps.getD 9 undef = .int .i64 ((en : Int) + 4) := hs.free 9 rfl
        exact ⟨e9, hC, Later.refl _⟩
      · -- 10: slot 51 := Op.slice 9 t47 (some t49) (some t50) none
        refine fun a w hC hs => .inl ⟨?_, ?_⟩
        · rfl
        have e47 : a.tmps.getD 47 undef = .string (mkS bs) := hs.dep 6 _ rfl rfl
        have e49 : a.tmps.getD 49 undef = .int .i64 (en : Int) := hs.dep 8 _ rfl rfl
        have e50 : a.tmps.getD 50 undef = .int .i64 ((en : Int) + 4) := hs.dep 9 _ rfl rfl
        have htn := PKS.out.2.2.1
        have hwb := PKS.out.2.2.2
        refine ValWp.pure (v := .string ((mkS bs).extract en (en + 4))) (fun K' hK' => ?_) ⟨rfl, hC, Later.refl _⟩
        simp only [ValWp, execOp, Act.eval, Option.map_some, Option.map_none, e47, e49, e50]
        go_simp
        all_goals exact hK'
      · -- 11: slot 52 := Op.binOp BinOp.neq 9 t46 t51 9
        refine fun a w hC hs => .inl ⟨?_, ?_⟩
        · rfl
        have e46 : a.tmps.getD 46 undef = .string (mkS (tailL x)) := hs.dep 5 _ rfl rfl
        have e51 : a.tmps.getD 51 undef = .string ((mkS bs).extract en (en + 4)) := hs.dep 10 _ rfl rfl
        have hcmp := HCMP.out
        refine ValWp.pure (v := .bool false) (fun K' hK' => ?_) ⟨rfl, hC, Later.refl _⟩
        simp only [ValWp, execOp, Act.eval, e46, e51]
        go_simp
        all_goals exact hK'
    · intro a W hC hd hsz hfree hs
      obtain ⟨u0, hu0⟩ : ∃ u, u = a.tmps.getD 0 undef := ⟨_, rfl⟩
      obtain ⟨u1, hu1⟩ : ∃ u, u = a.tmps.getD 1 undef := ⟨_, rfl⟩
      obtain ⟨u2, hu2⟩ : ∃ u, u = a.tmps.getD 2 undef := ⟨_, rfl⟩
      obtain ⟨u3, hu3⟩ : ∃ u, u = a.tmps.getD 3 undef := ⟨_, rfl⟩
      obtain ⟨u4, hu4⟩ : ∃ u, u = a.tmps.getD 4 undef := ⟨_, rfl⟩
      obtain ⟨u5, hu5⟩ : ∃ u, u = a.tmps.getD 5 undef := ⟨_, rfl⟩
      obtain ⟨u6, hu6⟩ : ∃ u, u = a.tmps.getD 6 undef := ⟨_, rfl⟩
      obtain ⟨u7, hu7⟩ : ∃ u, u = a.tmps.getD 7 undef := ⟨_, rfl⟩
      obtain ⟨u10, hu10⟩ : ∃ u, u = a.tmps.getD 10 undef := ⟨_, rfl⟩
      obtain ⟨u11, hu11⟩ : ∃ u, u = a.tmps.getD 11 undef := ⟨_, rfl⟩
      obtain ⟨u12, hu12⟩ : ∃ u, u = a.tmps.getD 12 undef := ⟨_, rfl⟩
      obtain ⟨u13, hu13⟩ : ∃ u, u = a.tmps.getD 13 undef := ⟨_, rfl⟩
      obtain ⟨u14, hu14⟩ : ∃ u, u = a.tmps.getD 14 undef := ⟨_, rfl⟩
      obtain ⟨u15, hu15⟩ : ∃ u, u = a.tmps.getD 15 undef := ⟨_, rfl⟩
      obtain ⟨u16, hu16⟩ : ∃ u, u = a.tmps.getD 16 undef := ⟨_, rfl⟩
      obtain ⟨u17, hu17⟩ : ∃ u, u = a.tmps.getD 17 undef := ⟨_, rfl⟩
      obtain ⟨u18, hu18⟩ : ∃ u, u = a.tmps.getD 18 undef := ⟨_, rfl⟩
      obtain ⟨u19, hu19⟩ : ∃ u, u = a.tmps.getD 19 undef := ⟨_, rfl⟩
      obtain ⟨u20, hu20⟩ : ∃ u, u = a.tmps.getD 20 undef := ⟨_, rfl⟩
      obtain ⟨u21, hu21⟩ : ∃ u, u = a.tmps.getD 21 undef := ⟨_, rfl⟩
      obtain ⟨u22, hu22⟩ : ∃ u, u = a.tmps.getD 22 undef := ⟨_, rfl⟩
      obtain ⟨u23, hu23⟩ : ∃ u, u = a.tmps.getD 23 undef := ⟨_, rfl⟩
      obtain ⟨u24, hu24⟩ : ∃ u, u = a.tmps.getD 24 undef := ⟨_, rfl⟩
      obtain ⟨u25, hu25⟩ : ∃ u, u = a.tmps.getD 25 undef := ⟨_, rfl⟩
      obtain ⟨u26, hu26⟩ : ∃ u, u = a.tmps.getD 26 undef := ⟨_, rfl⟩
      obtain ⟨u27, hu27⟩ : ∃ u, u = a.tmps.getD 27 undef := ⟨_, rfl⟩
      obtain ⟨u28, hu28⟩ : ∃ u, u = a.tmps.getD 28 undef := ⟨_, rfl⟩
      obtain ⟨u29, hu29⟩ : ∃ u, u = a.tmps.getD 29 undef := ⟨_, rfl⟩
      obtain ⟨u30, hu30⟩ : ∃ u, u = a.tmps.getD 30 undef := ⟨_, rfl⟩
      obtain ⟨u31, hu31⟩ : ∃ u, u = a.tmps.getD 31 undef := ⟨_, rfl⟩
      obtain ⟨u32, hu32⟩ : ∃ u, u = a.tmps.getD 32 undef := ⟨_, rfl⟩
      obtain ⟨u33, hu33⟩ : ∃ u, u = a.tmps.getD 33 undef := ⟨_, rfl⟩
      obtain ⟨u34, hu34⟩ : ∃ u, u = a.tmps.getD 34 undef := ⟨_, rfl⟩
      obtain ⟨u35, hu35⟩ : ∃ u, u = a.tmps.getD 35 undef := ⟨_, rfl⟩
      obtain ⟨u36, hu36⟩ : ∃ u, u = a.tmps.getD 36 undef := ⟨_, rfl⟩
      obtain ⟨u37, hu37⟩ : ∃ u, u = a.tmps.getD 37 undef := ⟨_, rfl⟩
      obtain ⟨u38, hu38⟩ : ∃ u, u = a.tmps.getD 38 undef := ⟨_, rfl⟩
      obtain ⟨u39, hu39⟩ : ∃ u, u = a.tmps.getD 39 undef := ⟨_, rfl⟩
      obtain ⟨u40, hu40⟩ : ∃ u, u = a.tmps.getD 40 undef := ⟨_, rfl⟩
      obtain ⟨u41, hu41⟩ : ∃ u, u = a.tmps.getD 41 undef := ⟨_, rfl⟩
      obtain ⟨u42, hu42⟩ : ∃ u, u = a.tmps.getD 42 undef := ⟨_, rfl⟩
      obtain ⟨u43, hu43⟩ : ∃ u, u = a.tmps.getD 43 undef := ⟨_, rfl⟩
      obtain ⟨u44, hu44⟩ : ∃ u, u = a.tmps.getD 44 undef := ⟨_, rfl⟩
      obtain ⟨u45, hu45⟩ : ∃ u, u = a.tmps.getD 45 undef := ⟨_, rfl⟩
      obtain ⟨u46, hu46⟩ : ∃ u, u = a.tmps.getD 46 undef := ⟨_, rfl⟩
      obtain ⟨u47, hu47⟩ : ∃ u, u = a.tmps.getD 47 undef := ⟨_, rfl⟩
      obtain ⟨u48, hu48⟩ : ∃ u, u = a.tmps.getD 48 undef := ⟨_, rfl⟩
      obtain ⟨u49, hu49⟩ : ∃ u, u = a.tmps.getD 49 undef := ⟨_, rfl⟩
      obtain ⟨u50, hu50⟩ : ∃ u, u = a.tmps.getD 50 undef := ⟨_, rfl⟩
      obtain ⟨u51, hu51⟩ : ∃ u, u = a.tmps.getD 51 undef := ⟨_, rfl⟩
      obtain ⟨u53, hu53⟩ : ∃ u, u = a.tmps.getD 53 undef := ⟨_, rfl⟩
      obtain ⟨u54, hu54⟩ : ∃ u, u = a.tmps.getD 54 undef := ⟨_, rfl⟩
      have hal : AllAt a 0 [u0, u1, u2, u3, u4, u5, u6, u7, .string ((mkS bs).extract ho en), .int .i64 ((en : Int) + 4), u10, u11, u12, u13, u14, u15, u16, u17, u18, u19, u20, u21, u22, u23, u24, u25, u26, u27, u28, u29, u30, u31, u32, u33, u34, u35, u36, u37, u38, u39, u40, u41, u42, u43, u44, u45, u46, u47, u48, u49, u50, u51, .bool false, u53, u54] := ⟨hu0.symm, hu1.symm, hu2.symm, hu3.symm, hu4.symm, hu5.symm, hu6.symm, hu7.symm, hfree 8 rfl, hfree 9 rfl, hu10.symm, hu11.symm, hu12.symm, hu13.symm, hu14.symm, hu15.symm, hu16.symm, hu17.symm, hu18.symm, hu19.symm, hu20.symm, hu21.symm, hu22.symm, hu23.symm, hu24.symm, hu25.symm, hu26.symm, hu27.symm, hu28.symm, hu29.symm, hu30.symm, hu31.symm, hu32.symm, hu33.symm, hu34.symm, hu35.symm, hu36.symm, hu37.symm, hu38.symm, hu39.symm, hu40.symm, hu41.symm, hu42.symm, hu43.symm, hu44.symm, hu45.symm, hu46.symm, hu47.symm, hu48.symm, hu49.symm, hu50.symm, hu51.symm, hs 11 _ rfl, hu53.symm, hu54.symm, trivial⟩
      have hlit := fun h => act_lit hd h hal
      rw [hlit hsz]
      clear hlit hal hd hsz hfree hs hu0 hu1 hu2 hu3 hu4 hu5 hu6 hu7 hu10 hu11 hu12 hu13 hu14 hu15 hu16 hu17 hu18 hu19 hu20 hu21 hu22 hu23 hu24 hu25 hu26 hu27 hu28 hu29 hu30 hu31 hu32 hu33 hu34 hu35 hu36 hu37 hu38 hu39 hu40 hu41 hu42 hu43 hu44 hu45 hu46 hu47 hu48 hu49 hu50 hu51 hu53 hu54
      clear COF CTL PKS HCMP HTV
      go_wp2
      go_ret3
      have he : mkS ((bs.drop ho).take sz) = (mkS bs).extract ho en := by rw [mkS_mid, show en - ho = sz by have := HEN.out; omega]
      exact ⟨by rw [HF.out, he]; rfl, hC⟩
  · have HF := Lib.hid (takeF_sum (en := en) HER.out (by rw [HSZ.out]; exact hbig) (by rw [HSZ.out, HHD.out, HLEN.out]; exact hless) (by rw [HSZ.out, HHD.out]; exact HEN.out) (by rw [← HX.out]; exact hsum))
    have hcmp : ((mkS (tailL x)).toList == ((mkS bs).extract en (en + 4)).toList) = false := by
      rw [mkS_mid, show en + 4 - en = 4 by omega, mkS_ne (fun e => hsum e.symm)]
    have HCMP := Lib.hid hcmp
    clear hsum hcmp
    go_enter Try.func50, Try.ntmps50
    go_wp2_with (go_at_call 67; (with_reducible refine (HTV.out _).mono ?_); rintro e w' ⟨rfl, rfl⟩)
    refine wp_region_owes (by kernel_rfl) (fun W => Later w W) (Later) (Later.refl) [Sp.val (.string (mkS bs)), Sp.val (.int .i64 ((en : Int) + 4)), Sp.val (.int .i64 (en : Int)), Sp.val (.string ((mkS bs).extract 0 en)), Sp.val (.int .u32 (x : Int)), Sp.val (.string (mkS (tailL x))), Sp.val (.string (mkS bs)), Sp.val (.int .i64 ((en : Int) + 4)), Sp.val (.int .i64 (en : Int)), Sp.val (.int .i64 ((en : Int) + 4)), Sp.val (.string ((mkS bs).extract en (en + 4))), Sp.val (.bool true)] (by kernel_rfl) (Later.drew w) ?_ ?_
    · refine ⟨?_, ?_, ?_, ?_, ?_, ?_, ?_, ?_, ?_, ?_, ?_, ?_, trivial⟩
      · -- 0: slot 41 := Op.move t0
        refine fun a w hC hs => .inl ⟨?_, ?_⟩
        · rfl
        have e0 : a.tmps.getD 0 undef = .string (mkS bs) := hs.free 0 rfl
        exact ⟨e0, hC, Later.refl _⟩
      · -- 1: slot 42 := Op.move t9
        refine fun a w hC hs => .inl ⟨?_, ?_⟩
        · rfl
        have e9 : a.tmps.getD 9 undef = .int .i64 ((en : Int) + 4) := hs.free 9 rfl
        exact ⟨e9, hC, Later.refl _⟩
      · -- 2: slot 43 := Op.binOp BinOp.sub 3 t42 (const (4:i64)) 3
        refine fun a w hC hs => .inl ⟨?_, ?_⟩
        · rfl
        have e42 : a.tmps.getD 42 undef = .int .i64 ((en : Int) + 4) := hs.dep 1 _ rfl rfl
        have hsa := PKS.out.1
        have hsb := PKS.out.2.1
        refine ValWp.pure (v := .int .i64 (en : Int)) (fun K' hK' => ?_) ⟨rfl, hC, Later.refl _⟩
        simp only [ValWp, execOp, Act.eval, e42]
        go_simp
        all_goals exact hK'
      · -- 3: slot 44 := Op.slice 9 t41 none (some t43) none
        refine fun a w hC hs => .inl ⟨?_, ?_⟩
        · rfl
        have e41 : a.tmps.getD 41 undef = .string (mkS bs) := hs.dep 0 _ rfl rfl
        have e43 : a.tmps.getD 43 undef = .int .i64 (en : Int) := hs.dep 2 _ rfl rfl
        refine ValWp.pure (v := .string ((mkS bs).extract 0 en)) (fun K' hK' => ?_) ⟨rfl, hC, Later.refl _⟩
        simp only [ValWp, execOp, Act.eval, Option.map_some, Option.map_none, e41, e43]
        go_simp
        all_goals exact hK'
      · -- 4: slot 45 := Op.call { value (Operand.func 27), args := #[t44], argTypes := #[9] }
        refine fun a w hC hs => .inl ⟨?_, ?_⟩
        · rfl
        have e44 : a.tmps.getD 44 undef = .string ((mkS bs).extract 0 en) := hs.dep 3 _ rfl rfl
        refine ValWp.call #[.string ((mkS bs).extract 0 en)] rfl rfl Try.func27 rfl rfl (by simp only [List.map_toArray, List.map_cons, List.map_nil, Act.eval, e44]) ?_
        refine (COF.out w).mono ?_
        rintro r w' ⟨rfl, rfl⟩
        exact ⟨_, rfl, rfl, hC, Later.refl _⟩
      · -- 5: slot 46 := Op.call { value (Operand.func 26), args := #[t45], argTypes := #[59] }
        refine fun a w hC hs => .inl ⟨?_, ?_⟩
        · rfl
        have e45 : a.tmps.getD 45 undef = .int .u32 (x : Int) := hs.dep 4 _ rfl rfl
        refine ValWp.call #[.int .u32 (x : Int)] rfl rfl Try.func26 rfl rfl (by simp only [List.map_toArray, List.map_cons, List.map_nil, Act.eval, e45]) ?_
        refine (CTL.out w).mono ?_
        rintro r w' ⟨rfl, hb⟩
        exact ⟨_, rfl, rfl, Later.trans hC hb, hb⟩
      · -- 6: slot 47 := Op.move t0
        refine fun a w hC hs => .inl ⟨?_, ?_⟩
        · rfl
        have e0 : a.tmps.getD 0 undef = .string (mkS bs) := hs.free 0 rfl
        exact ⟨e0, hC, Later.refl _⟩
      · -- 7: slot 48 := Op.move t9
        refine fun a w hC hs => .inl ⟨?_, ?_⟩
        · rfl
        have e9 : a.tmps.getD 9 undef = .int .i64 ((en : Int) + 4) := hs.free 9 rfl
        exact ⟨e9, hC, Later.refl _⟩
      · -- 8: slot 49 := Op.binOp BinOp.sub 3 t48 (const (4:i64)) 3
        refine fun a w hC hs => .inl ⟨?_, ?_⟩
        · rfl
        have e48 : a.tmps.getD 48 undef = .int .i64 ((en : Int) + 4) := hs.dep 7 _ rfl rfl
        have hsa := PKS.out.1
        have hsb := PKS.out.2.1
        refine ValWp.pure (v := .int .i64 (en : Int)) (fun K' hK' => ?_) ⟨rfl, hC, Later.refl _⟩
        simp only [ValWp, execOp, Act.eval, e48]
        go_simp
        all_goals exact hK'
      · -- 9: slot 50 := Op.move t9
        refine fun a w hC hs => .inl ⟨?_, ?_⟩
        · rfl
        have e9 : a.tmps.getD 9 undef = .int .i64 ((en : Int) + 4) := hs.free 9 rfl
        exact ⟨e9, hC, Later.refl _⟩
      · -- 10: slot 51 := Op.slice 9 t47 (some t49) (some t50) none
        refine fun a w hC hs => .inl ⟨?_, ?_⟩
        · rfl
        have e47 : a.tmps.getD 47 undef = .string (mkS bs) := hs.dep 6 _ rfl rfl
        have e49 : a.tmps.getD 49 undef = .int .i64 (en : Int) := hs.dep 8 _ rfl rfl
        have e50 : a.tmps.getD 50 undef = .int .i64 ((en : Int) + 4) := hs.dep 9 _ rfl rfl
        have htn := PKS.out.2.2.1
        have hwb := PKS.out.2.2.2
        refine ValWp.pure (v := .string ((mkS bs).extract en (en + 4))) (fun K' hK' => ?_) ⟨rfl, hC, Later.refl _⟩
        simp only [ValWp, execOp, Act.eval, Option.map_some, Option.map_none, e47, e49, e50]
        go_simp
        all_goals exact hK'
      · -- 11: slot 52 := Op.binOp BinOp.neq 9 t46 t51 9
        refine fun a w hC hs => .inl ⟨?_, ?_⟩
        · rfl
        have e46 : a.tmps.getD 46 undef = .string (mkS (tailL x)) := hs.dep 5 _ rfl rfl
        have e51 : a.tmps.getD 51 undef = .string ((mkS bs).extract en (en + 4)) := hs.dep 10 _ rfl rfl
        have hcmp := HCMP.out
        refine ValWp.pure (v := .bool true) (fun K' hK' => ?_) ⟨rfl, hC, Later.refl _⟩
        simp only [ValWp, execOp, Act.eval, e46, e51]
        go_simp
        all_goals exact hK'
    · intro a W hC hd hsz hfree hs
      obtain ⟨u0, hu0⟩ : ∃ u, u = a.tmps.getD 0 undef := ⟨_, rfl⟩
      obtain ⟨u1, hu1⟩ : ∃ u, u = a.tmps.getD 1 undef := ⟨_, rfl⟩
      obtain ⟨u2, hu2⟩ : ∃ u, u = a.tmps.getD 2 undef := ⟨_, rfl⟩
      obtain ⟨u3, hu3⟩ : ∃ u, u = a.tmps.getD 3 undef := ⟨_, rfl⟩
      obtain ⟨u4, hu4⟩ : ∃ u, u = a.tmps.getD 4 undef := ⟨_, rfl⟩
      obtain ⟨u5, hu5⟩ : ∃ u, u = a.tmps.getD 5 undef := ⟨_, rfl⟩
      obtain ⟨u6, hu6⟩ : ∃ u, u = a.tmps.getD 6 undef := ⟨_, rfl⟩
      obtain ⟨u7, hu7⟩ : ∃ u, u = a.tmps.getD 7 undef := ⟨_, rfl⟩
      obtain ⟨u10, hu10⟩ : ∃ u, u = a.tmps.getD 10 undef := ⟨_, rfl⟩
      obtain ⟨u11, hu11⟩ : ∃ u, u = a.tmps.getD 11 undef := ⟨_, rfl⟩
      obtain ⟨u12, hu12⟩ : ∃ u, u = a.tmps.getD 12 undef := ⟨_, rfl⟩
      obtain ⟨u13, hu13⟩ : ∃ u, u = a.tmps.getD 13 undef := ⟨_, rfl⟩
      obtain ⟨u14, hu14⟩ : ∃ u, u = a.tmps.getD 14 undef := ⟨_, rfl⟩
      obtain ⟨u15, hu15⟩ : ∃ u, u = a.tmps.getD 15 undef := ⟨_, rfl⟩
      obtain ⟨u16, hu16⟩ : ∃ u, u = a.tmps.getD 16 undef := ⟨_, rfl⟩
      obtain ⟨u17, hu17⟩ : ∃ u, u = a.tmps.getD 17 undef := ⟨_, rfl⟩
      obtain ⟨u18, hu18⟩ : ∃ u, u = a.tmps.getD 18 undef := ⟨_, rfl⟩
      obtain ⟨u19, hu19⟩ : ∃ u, u = a.tmps.getD 19 undef := ⟨_, rfl⟩
      obtain ⟨u20, hu20⟩ : ∃ u, u = a.tmps.getD 20 undef := ⟨_, rfl⟩
      obtain ⟨u21, hu21⟩ : ∃ u, u = a.tmps.getD 21 undef := ⟨_, rfl⟩
      obtain ⟨u22, hu22⟩ : ∃ u, u = a.tmps.getD 22 undef := ⟨_, rfl⟩
      obtain ⟨u23, hu23⟩ : ∃ u, u = a.tmps.getD 23 undef := ⟨_, rfl⟩
      obtain ⟨u24, hu24⟩ : ∃ u, u = a.tmps.getD 24 undef := ⟨_, rfl⟩
      obtain ⟨u25, hu25⟩ : ∃ u, u = a.tmps.getD 25 undef := ⟨_, rfl⟩
      obtain ⟨u26, hu26⟩ : ∃ u, u = a.tmps.getD 26 undef := ⟨_, rfl⟩
      obtain ⟨u27, hu27⟩ : ∃ u, u = a.tmps.getD 27 undef := ⟨_, rfl⟩
      obtain ⟨u28, hu28⟩ : ∃ u, u = a.tmps.getD 28 undef := ⟨_, rfl⟩
      obtain ⟨u29, hu29⟩ : ∃ u, u = a.tmps.getD 29 undef := ⟨_, rfl⟩
      obtain ⟨u30, hu30⟩ : ∃ u, u = a.tmps.getD 30 undef := ⟨_, rfl⟩
      obtain ⟨u31, hu31⟩ : ∃ u, u = a.tmps.getD 31 undef := ⟨_, rfl⟩
      obtain ⟨u32, hu32⟩ : ∃ u, u = a.tmps.getD 32 undef := ⟨_, rfl⟩
      obtain ⟨u33, hu33⟩ : ∃ u, u = a.tmps.getD 33 undef := ⟨_, rfl⟩
      obtain ⟨u34, hu34⟩ : ∃ u, u = a.tmps.getD 34 undef := ⟨_, rfl⟩
      obtain ⟨u35, hu35⟩ : ∃ u, u = a.tmps.getD 35 undef := ⟨_, rfl⟩
      obtain ⟨u36, hu36⟩ : ∃ u, u = a.tmps.getD 36 undef := ⟨_, rfl⟩
      obtain ⟨u37, hu37⟩ : ∃ u, u = a.tmps.getD 37 undef := ⟨_, rfl⟩
      obtain ⟨u38, hu38⟩ : ∃ u, u = a.tmps.getD 38 undef := ⟨_, rfl⟩
      obtain ⟨u39, hu39⟩ : ∃ u, u = a.tmps.getD 39 undef := ⟨_, rfl⟩
      obtain ⟨u40, hu40⟩ : ∃ u, u = a.tmps.getD 40 undef := ⟨_, rfl⟩
      obtain ⟨u41, hu41⟩ : ∃ u, u = a.tmps.getD 41 undef := ⟨_, rfl⟩
      obtain ⟨u42, hu42⟩ : ∃ u, u = a.tmps.getD 42 undef := ⟨_, rfl⟩
      obtain ⟨u43, hu43⟩ : ∃ u, u = a.tmps.getD 43 undef := ⟨_, rfl⟩
      obtain ⟨u44, hu44⟩ : ∃ u, u = a.tmps.getD 44 undef := ⟨_, rfl⟩
      obtain ⟨u45, hu45⟩ : ∃ u, u = a.tmps.getD 45 undef := ⟨_, rfl⟩
      obtain ⟨u46, hu46⟩ : ∃ u, u = a.tmps.getD 46 undef := ⟨_, rfl⟩
      obtain ⟨u47, hu47⟩ : ∃ u, u = a.tmps.getD 47 undef := ⟨_, rfl⟩
      obtain ⟨u48, hu48⟩ : ∃ u, u = a.tmps.getD 48 undef := ⟨_, rfl⟩
      obtain ⟨u49, hu49⟩ : ∃ u, u = a.tmps.getD 49 undef := ⟨_, rfl⟩
      obtain ⟨u50, hu50⟩ : ∃ u, u = a.tmps.getD 50 undef := ⟨_, rfl⟩
      obtain ⟨u51, hu51⟩ : ∃ u, u = a.tmps.getD 51 undef := ⟨_, rfl⟩
      obtain ⟨u53, hu53⟩ : ∃ u, u = a.tmps.getD 53 undef := ⟨_, rfl⟩
      obtain ⟨u54, hu54⟩ : ∃ u, u = a.tmps.getD 54 undef := ⟨_, rfl⟩
      have hal : AllAt a 0 [u0, u1, u2, u3, u4, u5, u6, u7, .string ((mkS bs).extract ho en), .int .i64 ((en : Int) + 4), u10, u11, u12, u13, u14, u15, u16, u17, u18, u19, u20, u21, u22, u23, u24, u25, u26, u27, u28, u29, u30, u31, u32, u33, u34, u35, u36, u37, u38, u39, u40, u41, u42, u43, u44, u45, u46, u47, u48, u49, u50, u51, .bool true, u53, u54] := ⟨hu0.symm, hu1.symm, hu2.symm, hu3.symm, hu4.symm, hu5.symm, hu6.symm, hu7.symm, hfree 8 rfl, hfree 9 rfl, hu10.symm, hu11.symm, hu12.symm, hu13.symm, hu14.symm, hu15.symm, hu16.symm, hu17.symm, hu18.symm, hu19.symm, hu20.symm, hu21.symm, hu22.symm, hu23.symm, hu24.symm, hu25.symm, hu26.symm, hu27.symm, hu28.symm, hu29.symm, hu30.symm, hu31.symm, hu32.symm, hu33.symm, hu34.symm, hu35.symm, hu36.symm, hu37.symm, hu38.symm, hu39.symm, hu40.symm, hu41.symm, hu42.symm, hu43.symm, hu44.symm, hu45.symm, hu46.symm, hu47.symm, hu48.symm, hu49.symm, hu50.symm, hu51.symm, hs 11 _ rfl, hu53.symm, hu54.symm, trivial⟩
      have hlit := fun h => act_lit hd h hal
      rw [hlit hsz]
      clear hlit hal hd hsz hfree hs hu0 hu1 hu2 hu3 hu4 hu5 hu6 hu7 hu10 hu11 hu12 hu13 hu14 hu15 hu16 hu17 hu18 hu19 hu20 hu21 hu22 hu23 hu24 hu25 hu26 hu27 hu28 hu29 hu30 hu31 hu32 hu33 hu34 hu35 hu36 hu37 hu38 hu39 hu40 hu41 hu42 hu43 hu44 hu45 hu46 hu47 hu48 hu49 hu50 hu51 hu53 hu54
      clear COF CTL PKS HCMP HTV
      go_wp2
      go_ret3
      exact ⟨by rw [HF.out]; rfl, hC⟩
end Go.Proofs.Ytemokpnepnmmkaa
/- The document's Scan, and its head of a tape. -/
namespace Go.Proofs.Ytemokpnepnmmkaa
open Go.RowKit
def markL : List UInt8 := [107, 105, 110, 101, 116, 111, 115, 99, 111, 112, 101, 32, 49, 10]
theorem mkS_mark : (⟨#[107, 105, 110, 101, 116, 111, 115, 99, 111, 112, 101, 32, 49, 10]⟩ : ByteArray) = mkS markL := rfl
theorem head_add (s : List UInt8) : (⟨#[107, 105, 110, 101, 116, 111, 115, 99, 111, 112, 101, 32, 49, 10]⟩ : ByteArray) ++ mkS s = mkS (markL ++ s) := by rw [mkS_mark, mkS_add]
theorem refHead_v (s : List UInt8) (w : World) (hs : s.length ≤ 100000000) :
    Calls Try.prog 13 #[.string (mkS s)] w fun e w' => e = .returned (.string (mkS (frameL (markL ++ s)))) ∧ Later w w' := by
  have hz := mkS_size s
  obtain ⟨k, hk⟩ : ∃ k, k = s.length := ⟨_, rfl⟩
  rw [← hk] at hz hs
  have ha := head_add s
  have c1 := fun W => refOne_v (markL ++ s) W (by rw [List.length_append, ← hk]; show 14 + k ≤ _; omega)
  obtain ⟨T, hT⟩ : ∃ T, T = mkS (markL ++ s) := ⟨_, rfl⟩
  rw [← hT] at ha c1
  have C1 := Lib.hid c1
  clear c1 hT hk
  go_enter Try.func13, Try.ntmps13
  go_wp2_with (go_at_call 15; (with_reducible refine (C1.out _).mono ?_); rintro e w1 ⟨rfl, hb1⟩; have HB1 := Lib.hid hb1; clear hb1)
  go_ret
  exact ⟨rfl, HB1.out⟩
set_option maxRecDepth 100000 in
set_option maxHeartbeats 1000000 in
theorem refScan_w (bs : List UInt8) (n : Nat) (hlen : bs.length = n) (w : World) (hn : n ≤ 1000000000000) (rows : List (List UInt8)) (m0 e0 : Nat) (hres : scanF n bs = (rows, m0, e0)) :
    Calls Try.prog 35 #[.string (mkS bs)] w fun e w' => ∃ A c, e = .returned (.tuple #[.slice A rows.length c, .int .i64 (m0 : Int), .int .i64 (e0 : Int)]) ∧ Later w w' ∧ Rd w' w'.heap.size A rows.length (rows.map sv) ∧ rows.length ≤ c := by
  obtain ⟨i0, hi, hz0, hz1, hz2⟩ := info_parts info_str
  have hs := mkS_size bs
  rw [hlen] at hs
  have HLEN := Lib.hid hlen
  have HRES := Lib.hid hres
  clear hlen hres
  go_enter Try.func35, Try.ntmps35
  go_wp2
  go_loopw [5, 6] (fun v i wr => ∃ (m : Nat) (ds : List (List UInt8)), m ≤ n ∧ i = .int .i64 (m : Int) ∧ 5 * ds.length ≤ m ∧ At_ bs n ds m ∧ Grew w wr w.heap.size 9 (.slice none 0 0) v (ds.map sv)) (fun _ i _ => n - (intOf i).toNat)
  case atStart => exact ⟨0, [], by omega, rfl, by simp, At_.start bs n HLEN.out, Grew.nil _ _ _⟩
  case round =>
    obtain ⟨m, ds, hm, rfl, h5, hat, hg⟩ := hrel
    have hsz := hg.grown.size
    obtain ⟨A5, c5, rfl, h51, h52, h53⟩ := own_map hg.own
    have HG := Lib.hid hg
    have HAT := Lib.hid hat
    have H51 := Lib.hid h51
    have H52 := Lib.hid h52
    clear hg hat h51 h52 h53
    have hm0 : (0 : Int) ≤ (m : Int) := by omega
    by_cases hlt : m < n
    · have hml : (m : Int) ≤ (n : Int) := by omega
      obtain ⟨⟨row, k, er⟩, htk⟩ : ∃ z, takeF (bs.drop m) = z := ⟨_, rfl⟩
      have hdr := mkS_drop bs m
      rw [hs] at hdr
      have ct := fun W => refTakeF_v (bs.drop m) W (by rw [List.length_drop, HLEN.out]; omega)
      rw [htk] at ct
      dsimp only at ct
      have CT := Lib.hid ct
      have HTK := Lib.hid htk
      clear ct htk
      by_cases he0 : er = 0
      · subst he0
        have h50 := takeF_ok_le (b := bs.drop m) (by rw [HTK.out])
        rw [HTK.out, List.length_drop, HLEN.out] at h50
        dsimp only at h50
        have hst := HAT.out.step (by rw [HLEN.out]; exact hlt) (by rw [HTK.out])
        rw [HTK.out] at hst
        dsimp only at hst
        have HST := Lib.hid hst
        clear hst
        go_wp2_with (first
          | (go_at_call 50; (with_reducible refine (CT.out _).mono ?_); rintro e w2 ⟨rfl, hb2⟩; have HG2 := Lib.hid (HG.out.then_ hb2); have hs2 := Below.size hb2; clear hb2)
          | (at_builtin; refine wpList_app1 w2 (sv row) rfl (.tmp 27) (.tmp 29) _ rfl w.heap.size 9 i0 (.string ⟨#[]⟩) 16 Try.underlying32 hi hz0 hz1 hz2 rfl (sv_one row) (.slice A5 ds.length c5) _ rfl HG2.out.own rfl ?hby ?hle ?hba ?_; (case hby => simp only [List.length_map]; omega); (case hle => simp only [List.length_map]; omega); (case hba => omega); intro v3 w3 hg3; have hg4 := HG2.out.trans hg3; rw [← List.map_singleton (f := sv), ← List.map_append] at hg4; have HG4 := Lib.hid hg4; clear hg3 hg4))
        go_roundw
        case rel => exact ⟨m + k, ds ++ [row], by omega, by go_num, by rw [List.length_append]; simp; omega, HST.out, HG4.out⟩
        case measure => simp [intOf]; omega
      · have hne : ((er : Int) != 0) = true := by simp; exact he0
        have hfin := HAT.out.err (by rw [HLEN.out]; exact hlt) (by rw [HTK.out]; exact he0)
        rw [HTK.out, HRES.out] at hfin
        dsimp only at hfin
        simp only [Prod.mk.injEq] at hfin
        obtain ⟨rfl, rfl, rfl⟩ := hfin
        go_wp2_with (go_at_call 50; (with_reducible refine (CT.out _).mono ?_); rintro e w2 ⟨rfl, hb2⟩; have HB2 := Lib.hid hb2; clear hb2)
        go_ret3
        exact ⟨A5, c5, rfl, Later.trans HG.out.belowNil HB2.out, rd_later H52.out HB2.out, H51.out⟩
    · have hfin := HAT.out.ends (by rw [HLEN.out]; omega)
      rw [HRES.out] at hfin
      simp only [Prod.mk.injEq] at hfin
      obtain ⟨rfl, rfl, rfl⟩ := hfin
      go_wp2
      go_ret3
      exact ⟨A5, c5, rfl, HG.out.belowNil, H52.out, H51.out⟩
theorem refScan_v (bs : List UInt8) (w : World) (hn : bs.length ≤ 1000000000000) : 
    Calls Try.prog 35 #[.string (mkS bs)] w fun e w' => ∃ A c, e = .returned (.tuple #[.slice A (scanF bs.length bs).1.length c, .int .i64 ((scanF bs.length bs).2.1 : Int), .int .i64 ((scanF bs.length bs).2.2 : Int)]) ∧ Later w w' ∧ Rd w' w'.heap.size A (scanF bs.length bs).1.length ((scanF bs.length bs).1.map sv) ∧ (scanF bs.length bs).1.length ≤ c :=
  refScan_w bs _ rfl w hn _ _ _ rfl
end Go.Proofs.Ytemokpnepnmmkaa
/- A tape as plain mathematics: what answers are written, as bytes. No premises. -/
namespace Go.Proofs.Ytemokpnepnmmkaa
def okB (x : Ans) : Bool := fitsB x.k x.k x.e x.s x.l.length
def tellX (x : Ans) : List UInt8 := tellB x.k x.e x.n x.m x.t x.l x.s
/-- What is written of answers: up to the first one that may not be. -/
def bodyL (xs : List Ans) : List UInt8 := (xs.takeWhile okB).flatMap fun x => frameL (tellX x)
theorem bodyL_cons (x : Ans) (xs : List Ans) : bodyL (x :: xs) = if okB x then frameL (tellX x) ++ bodyL xs else [] := by
  unfold bodyL
  rw [List.takeWhile_cons]
  split
  · simp
  · simp
/-- Of answers the first k of which may be. -/
theorem bodyL_at : ∀ (xs : List Ans) (k : Nat), k ≤ xs.length → (∀ (j : Nat) (h : j < xs.length), j < k → okB xs[j] = true) → bodyL xs = bodyL (xs.take k) ++ bodyL (xs.drop k)
  | [], k, _, _ => by simp [bodyL]
  | x :: xs, 0, _, _ => by simp [bodyL]
  | x :: xs, k + 1, hk, h => by
    have h0 : okB x = true := h 0 (by simp) (by omega)
    have ih := bodyL_at xs k (by simpa using hk) fun j hj hjk => by
      have := h (j + 1) (by simpa using hj) (by omega)
      simpa using this
    rw [List.take_succ_cons, List.drop_succ_cons, bodyL_cons, bodyL_cons, if_pos h0, if_pos h0, ih, List.append_assoc]
theorem bodyL_snoc (xs : List Ans) (k : Nat) (hk : k < xs.length) (h : ∀ (j : Nat) (h : j < xs.length), j < k → okB xs[j] = true) (hx : okB xs[k] = true) : bodyL (xs.take (k + 1)) = bodyL (xs.take k) ++ frameL (tellX xs[k]) := by
  have h1 := bodyL_at (xs.take (k + 1)) k (by rw [List.length_take]; omega) fun j hj hjk => by
    rw [List.getElem_take]; exact h j (by rw [List.length_take] at hj; omega) hjk
  rw [h1, List.take_take, Nat.min_eq_left (by omega), List.drop_take, show k + 1 - k = 1 by omega, List.drop_eq_getElem_cons hk, List.take_succ_cons, List.take_zero, bodyL_cons, if_pos hx]
  simp [bodyL]
theorem bodyL_stop (xs : List Ans) (k : Nat) (hk : k < xs.length) (h : ∀ (j : Nat) (h : j < xs.length), j < k → okB xs[j] = true) (hx : okB xs[k] = false) : bodyL xs = bodyL (xs.take k) := by
  rw [bodyL_at xs k (by omega) h, List.drop_eq_getElem_cons hk, bodyL_cons, hx]
  simp
theorem bodyL_le (xs : List Ans) (k : Nat) (hk : k ≤ xs.length) (h : ∀ (j : Nat) (h : j < xs.length), j < k → okB xs[j] = true) : (bodyL (xs.take k)).length ≤ (bodyL xs).length := by
  rw [bodyL_at xs k hk h, List.length_append]; omega
theorem all_of (xs : List Ans) (h : ∀ (j : Nat) (h : j < xs.length), okB xs[j] = true) : xs.all okB = true := by
  rw [List.all_eq_true]
  intro x hx
  obtain ⟨j, hj, rfl⟩ := List.getElem_of_mem hx
  exact h j hj
theorem all_not (xs : List Ans) (k : Nat) (hk : k < xs.length) (hx : okB xs[k] = false) : xs.all okB = false := by
  rw [List.all_eq_false]
  exact ⟨_, List.getElem_mem hk, by simp [hx]⟩
/-- Few answers are short. -/
theorem short_tell (x : Ans) (hx : x.l.length ≤ 20 ∧ x.t.length ≤ 300 ∧ ∀ r ∈ x.l, r.length ≤ 100) (ho : okA x) : (textsB x.l).length ≤ 2200 ∧ (tellX x).length ≤ 3000 := by
  have h1 : (textsB x.l).length ≤ 2200 := Nat.le_trans (textsB_le (M := 100) (by omega) hx.2.2) (by omega)
  refine ⟨h1, ?_⟩
  unfold tellX tellB
  split
  · rename_i hf
    have hk := of_decide_eq_true hf
    obtain ⟨⟨n1, n2⟩, m1, m2⟩ := ho
    have g1 := numL_ten (show x.k.toNat < 18446744073709551616 by omega)
    have g2 := numL_ten (show x.e.toNat < 18446744073709551616 by omega)
    have g3 := numL_ten (zigN_lt n1 n2)
    have g4 := numL_ten (zigN_lt m1 m2)
    have g5 := numL_ten (show x.l.length < 18446744073709551616 by omega)
    have g6 := numL_ten (show x.s.toNat < 18446744073709551616 by omega)
    have g7 : (textB x.t).length ≤ 10 + 300 := by rcases textB_len x.t with h | h <;> omega
    unfold tellL
    simp only [List.length_append]
    omega
  · simp
theorem bodyL_small (xs : List Ans) (h : ∀ x ∈ xs, (tellX x).length ≤ 3000) : (bodyL xs).length ≤ 3014 * xs.length := by
  induction xs with
  | nil => simp [bodyL]
  | cons x xs ih =>
    have h1 := ih fun y hy => h y (List.mem_cons_of_mem _ hy)
    have h2 := h x (List.mem_cons_self ..)
    have h3 := frameL_len (tellX x)
    have h4 := numL_ten (show (tellX x).length < 18446744073709551616 by omega)
    rw [bodyL_cons, List.length_cons]
    split
    · rw [List.length_append]; omega
    · simp
end Go.Proofs.Ytemokpnepnmmkaa
