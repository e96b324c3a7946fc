/- Joined: Kre, Krw, KrP. -/
import Derived.Test.YteljmlodbnfhbaaKja
import Derived.Test.YteljmlodbnfhbaaRows
import Derived.Test.YteljmlodbnfhbaaArgs
import Derived.ChangeOld
import Derived.Test.YteljmlodbnfhbaaUpto
import Derived.JoinedCond
/- Kre -/
namespace Go.Proofs.Yteljmlodbnfhbaa
open Go.RowKit
namespace Ks
set_option maxRecDepth 100000
def n16 (k : Nat) : Value := .int .u16 ((k : Nat) : Int)
theorem unp_errs {p : B} {e1 : Nat} (h : unp p = .error e1) : e1 = 10 ∨ e1 = 11 ∨ e1 = 14 := by
  unfold unp at h
  cases hc : stC.get p with
  | error k =>
    rw [hc] at h
    injection h with h
    rcases stC.errs hc with e | e <;> omega
  | ok ar =>
    obtain ⟨a, r⟩ := ar
    rw [hc] at h
    cases r with
    | nil => cases h
    | cons x r => injection h with h; omega
theorem unp_own {p : B} {t : St} (h : unp p = .ok t) : p = stC.put t ∧ stC.ok t := by
  unfold unp at h
  cases hc : stC.get p with
  | error k => rw [hc] at h; cases h
  | ok ar =>
    obtain ⟨a, r⟩ := ar
    rw [hc] at h
    cases r with
    | nil =>
      injection h with h
      subst h
      obtain ⟨h1, h2⟩ := stC.own hc
      exact ⟨by simpa using h1, h2⟩
    | cons x r => cases h
theorem Rd.lie {w : World} {B n : Nat} {A : Option Addr} {xs : List Value} (h : Rd w B A n xs) (hn : 0 < n) : ∃ g o, A = some ⟨g, o, none⟩ ∧ g < B ∧ ∀ (j : Nat) (u : Value), xs[j]? = some u → w.cell? ⟨g, o + j, none⟩ = some u := by
  obtain ⟨ad, e, hb, hc⟩ := h.2 hn
  have h0 : 0 < xs.length := by rw [h.1]; exact hn
  have h1 := hc 0 xs[0] (List.getElem?_eq_getElem h0)
  obtain ⟨g, o, s⟩ := ad
  have hs : s = none := by
    have h2 : w.cell? ⟨g, o, s⟩ = some xs[0] := by simpa [Addr.add] using h1
    unfold World.cell? at h2
    split at h2
    · cases s with
      | none => rfl
      | some x => simp at h2
    · cases h2
  subst hs
  exact ⟨g, o, e, hb, fun j u hu => by
    have := hc j u hu
    by_cases h0 : j = 0
    · subst h0; simpa [Addr.add] using this
    · simpa [Addr.add, h0] using this⟩
/-- Bytes in a row of the law's own. -/
structure LB (W : World) (g n c2 : Nat) (wr : World) (bs : B) : Prop where
  low : Later W wr
  own : wr.ownsRow W.heap.size 5 1 (.slice (some ⟨g, 0, none⟩) n c2) n (bs.map bv)
theorem LB.put {W wr : World} {g n c2 : Nat} {bs : B} (h : LB W g n c2 wr bs) (r : Nat) (y : UInt8) : LB W g n c2 (wr.drew.setCell ⟨g, r, none⟩ (.int .u8 (y.toNat : Int))) (bs.set r y) := by
  have ho := own_below h.own (Later.drew wr)
  obtain ⟨h1, h2⟩ := ho.stored r (bv y)
  refine ⟨later_of_new (h.low.trans (Later.drew wr)) h2 (h.own.lt g rfl).1, ?_⟩
  rw [List.map_set]
  exact h1
theorem LB.old {W wr : World} {g n c2 : Nat} {bs : B} (h : LB W g n c2 wr bs) {r : Nat} (hr : r < n) (hn : bs.length = n) : ∃ z : UInt8, wr.drew.cell? ⟨g, r, none⟩ = some (.int .u8 (z.toNat : Int)) ∧ wr.drew.frozen? ⟨g, r, none⟩ = false := by
  have ho := own_below h.own (Later.drew wr)
  refine ⟨bs[r]'(by omega), ?_, ho.frozenAt r⟩
  rw [ho.cellAt r (by omega), List.getElem?_map, List.getElem?_eq_getElem (by omega)]
  rfl
set_option maxHeartbeats 12800000 in
theorem reads_law (s : St) (cs : List Value) (W : World) (h : stR.C W W.heap.size cs s) (hx : (stC.put s).length ≤ 20000000) (A : Option Addr) (m c : Nat) (l : List Nat) (hr : Rd W W.heap.size A m (l.map n16)) (hl16 : ∀ a ∈ l, a < 65536) (A' : Option Addr) (mx cx : Nat) (xs : B) (hrx : Rd W W.heap.size A' mx (xs.map bv)) (q : Nat) (hq : q < 65536) :
    Calls Try.prog 4 #[.agg cs.toArray, .slice A m c, .slice A' mx cx, .int .u16 (q : Int)] W fun e W' => e = .returned (.bool true) ∧ Later W W' := by
  have HB := Lib.hid (fun w1 hb hl => box_facts h (by omega) w1 hb hl)
  by_cases hf : fewN s ≤ 300
  · rw [decide_eq_true hf] at HB
    have hok := ok_st h hf
    by_cases hm9 : (9 : Int) < (m : Int)
    · clear h hx hr hl16 hrx hq hok hf
      go_enter Try.func4, Try.ntmps4
      go_wp2_with (first
        | (refine wpList_boxO rfl 40 (.tmp 0) rfl _ rfl ?_; intro w1 hb1 hl1 hs1; obtain ⟨ha1, hld1⟩ := HB.out w1 hb1 hl1; (have HL1 := Lib.hid hl1); (have HLD := Lib.hid hld1); (have HFW := Lib.hid ha1); clear hb1 hl1 hs1 ha1 hld1)
        | (go_at_call 7; (with_reducible refine (awake_v _).mono ?_); rintro e w2 ⟨rfl, hl2⟩; (have HL2 := Lib.hid hl2); clear hl2)
        | (refine wpList_loadRun rfl 40 (.tmp 4) rfl _ _ rfl (HLD.out _ HL2.out) ?_)
        | (go_at_call 8; (with_reducible refine (HFW.out _ HL2.out).mono ?_); rintro e w3 ⟨rfl, hl3⟩; (have HL3 := Lib.hid (HL2.out.trans hl3)); clear hl3))
      go_ret
      exact ⟨rfl, HL1.out.trans HL3.out⟩
    by_cases hmx : (mx : Int) < (m : Int)
    · clear h hx hr hl16 hrx hq hok hf
      go_enter Try.func4, Try.ntmps4
      go_wp2_with (first
        | (refine wpList_boxO rfl 40 (.tmp 0) rfl _ rfl ?_; intro w1 hb1 hl1 hs1; obtain ⟨ha1, hld1⟩ := HB.out w1 hb1 hl1; (have HL1 := Lib.hid hl1); (have HLD := Lib.hid hld1); (have HFW := Lib.hid ha1); clear hb1 hl1 hs1 ha1 hld1)
        | (go_at_call 7; (with_reducible refine (awake_v _).mono ?_); rintro e w2 ⟨rfl, hl2⟩; (have HL2 := Lib.hid hl2); clear hl2)
        | (refine wpList_loadRun rfl 40 (.tmp 4) rfl _ _ rfl (HLD.out _ HL2.out) ?_)
        | (go_at_call 8; (with_reducible refine (HFW.out _ HL2.out).mono ?_); rintro e w3 ⟨rfl, hl3⟩; (have HL3 := Lib.hid (HL2.out.trans hl3)); clear hl3))
      go_ret
      exact ⟨rfl, HL1.out.trans HL3.out⟩
    obtain ⟨n, hn⟩ : ∃ n, n = (stC.put s).length := ⟨_, rfl⟩
    have h29 := st_29 s
    rw [← hn] at h29 hx
    have HPK := Lib.hid (show ∀ w, Later W w → Calls Try.prog 9 #[.agg cs.toArray] w fun e w' => ∃ g c2, e = .returned (.slice (some ⟨g, 0, none⟩) n c2) ∧ n ≤ c2 ∧ LB W g n c2 w' (stC.put s) from fun w hw => by
      refine (packS_v s cs w (stR.more (stR.keep h fun p hp => hw.cell hp) hw.size) hok (by omega)).mono fun e w' hq => ?_
      obtain ⟨v', rfl, hg⟩ := hq
      have ho := hg.own
      rw [List.length_map, ← hn] at ho
      have hl : Later w w' := hg.belowNil
      rcases ho.2 with ⟨_, h0⟩ | ⟨g, cap, cur, rfl, hb, _, hnc, _⟩
      · omega
      · refine ⟨g, cap, rfl, hnc, hw.trans hl, own_up ho (fun k hk => Nat.le_trans hw.size (ho.lt k hk).1)⟩)
    have hn0 : ¬ (n : Int) = 0 := by omega
    have hn1 : (0 : Int) < (n : Int) := by omega
    have hnb : ((n : Int) == 0) = false := by simp; omega
    by_cases h4 : (4000 : Int) < (n : Int)
    · clear h hx hr hl16 hrx hq hok hf h29 hn
      go_enter Try.func4, Try.ntmps4
      go_wp2_with (first
        | (refine wpList_boxO rfl 40 (.tmp 0) rfl _ rfl ?_; intro w1 hb1 hl1 hs1; obtain ⟨ha1, hld1⟩ := HB.out w1 hb1 hl1; (have HL1 := Lib.hid hl1); (have HLD := Lib.hid hld1); (have HFW := Lib.hid ha1); clear hb1 hl1 hs1 ha1 hld1)
        | (go_at_call 7; (with_reducible refine (awake_v _).mono ?_); rintro e w2 ⟨rfl, hl2⟩; (have HL2 := Lib.hid hl2); clear hl2)
        | (refine wpList_loadRun rfl 40 (.tmp 4) rfl _ _ rfl (HLD.out _ HL2.out) ?_)
        | (go_at_call 8; (with_reducible refine (HFW.out _ HL2.out).mono ?_); rintro e w3 ⟨rfl, hl3⟩; (have HL3 := Lib.hid (HL2.out.trans hl3)); clear hl3)
        | (refine wpList_loadRun rfl 40 (.tmp 4) rfl _ _ rfl (HLD.out _ HL3.out) ?_)
        | (go_at_call 9; (with_reducible refine (HPK.out _ (HL1.out.trans HL3.out)).mono ?_); rintro e w4 ⟨g, c2, rfl, hnc, hb4⟩; (have HB4 := Lib.hid hb4); (have HNC := Lib.hid hnc); clear hb4 hnc))
      go_ret
      exact ⟨by simp; omega, HB4.out.low⟩
    have HN := Lib.hid hn
    have HR := Lib.hid hr
    have HRX := Lib.hid hrx
    have HL16 := Lib.hid hl16
    have HON := Lib.hid (show (#[.slice none 0 0, .slice none 0 0, .int .i64 0, .string ⟨#[]⟩, .slice none 0 0, .slice none 0 0, .slice none 0 0, .slice none 0 0, .slice none 0 0, .int .i64 0, .int .i64 0, .int .i64 0, .string ⟨#[]⟩, .slice none 0 0, .int .i64 0, .int .i64 0, .int .i64 0, .int .i64 0, .string ⟨#[]⟩, .slice none 0 0, .int .i64 0, .slice none 0 0, .int .i64 0, .int .i64 0, .int .i64 0, .bool false, .bool false, .bool false, .int .i64 0] : Array Value).all (·.oneCell') = true by simp [Value.oneCell'])
    have HSZ := Lib.hid (show ∀ w : World, Calls Try.prog 13 #[.agg #[.slice none 0 0, .slice none 0 0, .int .i64 0, .string ⟨#[]⟩, .slice none 0 0, .slice none 0 0, .slice none 0 0, .slice none 0 0, .slice none 0 0, .int .i64 0, .int .i64 0, .int .i64 0, .string ⟨#[]⟩, .slice none 0 0, .int .i64 0, .int .i64 0, .int .i64 0, .int .i64 0, .string ⟨#[]⟩, .slice none 0 0, .int .i64 0, .slice none 0 0, .int .i64 0, .int .i64 0, .int .i64 0, .bool false, .bool false, .bool false, .int .i64 0], .agg #[.slice none 0 0, .slice none 0 0, .int .i64 0, .string ⟨#[]⟩, .slice none 0 0, .slice none 0 0, .slice none 0 0, .slice none 0 0, .slice none 0 0, .int .i64 0, .int .i64 0, .int .i64 0, .string ⟨#[]⟩, .slice none 0 0, .int .i64 0, .int .i64 0, .int .i64 0, .int .i64 0, .string ⟨#[]⟩, .slice none 0 0, .int .i64 0, .slice none 0 0, .int .i64 0, .int .i64 0, .int .i64 0, .bool false, .bool false, .bool false, .int .i64 0]] w fun e w' => e = .returned (.bool true) ∧ Later w w' from fun w => (same_v sz sz zState zState w (sz_C _ _) (sz_C _ _) sz_ok sz_ok (by rw [sz_len]; omega) (by rw [sz_len]; omega)).mono fun e w' hq => ⟨by rw [hq.1, decide_eq_true rfl], hq.2⟩)
    have hn4 : n ≤ 4000 := by omega
    have hml : l.length = m := by have := hr.1; simpa using this
    have hmxl : xs.length = mx := by have := hrx.1; simpa using this
    obtain ⟨cut, hcut⟩ : ∃ b : Bool, b = decide (q % 3 = 0) := ⟨_, rfl⟩
    have hmm : m ≤ mx := by omega
    clear h hx hr hl16 hrx hok hf h29 hn
    go_enter Try.func4, Try.ntmps4
    go_wp2_with (first
      | (refine wpList_boxO rfl 40 (.tmp 0) rfl _ rfl ?_; intro w1 hb1 hl1 hs1; obtain ⟨ha1, hld1⟩ := HB.out w1 hb1 hl1; (have HL1 := Lib.hid hl1); (have HLD := Lib.hid hld1); (have HFW := Lib.hid ha1); clear hb1 hl1 hs1 ha1 hld1)
      | (go_at_call 7; (with_reducible refine (awake_v _).mono ?_); rintro e w2 ⟨rfl, hl2⟩; (have HL2 := Lib.hid hl2); clear hl2)
      | (refine wpList_loadRun rfl 40 (.tmp 4) rfl _ _ rfl (HLD.out _ HL2.out) ?_)
      | (go_at_call 8; (with_reducible refine (HFW.out _ HL2.out).mono ?_); rintro e w3 ⟨rfl, hl3⟩; (have HL3 := Lib.hid (HL2.out.trans hl3)); clear hl3)
      | (refine wpList_loadRun rfl 40 (.tmp 4) rfl _ _ rfl (HLD.out _ HL3.out) ?_)
      | (go_at_call 9; (with_reducible refine (HPK.out _ (HL1.out.trans HL3.out)).mono ?_); rintro e w4 ⟨g, c2, rfl, hnc, hb4⟩; (have HB4 := Lib.hid hb4); (have HNC := Lib.hid hnc); clear hb4 hnc))
    go_loopw [12] (fun i wr => ∃ (j : Nat) (bs : B), j ≤ m ∧ i = .int .i64 (j : Int) ∧ bs.length = n ∧ Hid (LB W g n c2 wr bs)) (fun i _ => m - (intOf i).toNat)
    case atStart => exact ⟨0, _, Nat.zero_le _, rfl, HN.out.symm, HB4⟩
    case round =>
      obtain ⟨j, bs, hj, rfl, hbl, HLB0⟩ := hrel
      by_cases hlt : j < m
      · have hj0 : (0 : Int) ≤ (j : Int) := by omega
        have hj1 : (j : Int) < (m : Int) := by omega
        have hj2 : (j : Int) < (mx : Int) := by omega
        obtain ⟨g1, o1, rfl, hg1, hc1⟩ := Rd.lie HR.out (by omega)
        obtain ⟨g3, o3, rfl, hg3, hc3⟩ := Rd.lie HRX.out (by omega)
        obtain ⟨a0, ha0⟩ : ∃ a, a = l[j]'(by omega) := ⟨_, rfl⟩
        obtain ⟨y, hy⟩ : ∃ y, y = xs[j]'(by omega) := ⟨_, rfl⟩
        have ha16 : a0 < 65536 := by rw [ha0]; exact HL16.out _ (List.getElem_mem _)
        obtain ⟨r, hr⟩ : ∃ r, r = a0 % n := ⟨_, rfl⟩
        have hrn : r < n := by rw [hr]; exact Nat.mod_lt _ (by omega)
        have HWR := Lib.hid (show IntKind.i64.wrap (a0 : Int) = (a0 : Int) by rw [IntKind.wrap_i64]; omega)
        have HMOD := Lib.hid (show Int.tmod (a0 : Int) (n : Int) = (r : Int) by rw [hr]; exact (Int.ofNat_tmod a0 n).symm)
        have HNZ := Lib.hid hn0
        have HR0 := Lib.hid (show (0 : Int) ≤ (r : Int) by omega)
        have HRN := Lib.hid (show (r : Int) < (n : Int) by omega)
        have HA1 := Lib.hid (show wr.drew.cell? ⟨g1, o1 + j, none⟩ = some (.int .u16 (a0 : Int)) from ((HLB0.out.low.trans (Later.drew wr)).cell (p := ⟨g1, o1 + j, none⟩) hg1).trans (hc1 j _ (by rw [List.getElem?_map, List.getElem?_eq_getElem (by omega), ← ha0]; rfl)))
        have HX1 := Lib.hid (show wr.drew.cell? ⟨g3, o3 + j, none⟩ = some (.int .u8 (y.toNat : Int)) from ((HLB0.out.low.trans (Later.drew wr)).cell (p := ⟨g3, o3 + j, none⟩) hg3).trans (hc3 j _ (by rw [List.getElem?_map, List.getElem?_eq_getElem (by omega), ← hy]; rfl)))
        obtain ⟨z, hz1, hz2⟩ := HLB0.out.old hrn hbl
        have HOLD := Lib.hid (And.intro hz1 hz2)
        have HPUT := Lib.hid (HLB0.out.put r y)
        clear hc1 hc3 hg1 hg3 ha0 hy ha16 hr hz1 hz2 hrn
        go_wp2_with fail
        refine wp_region_seq (by kernel_rfl) [14] (fun jj _ x => match jj with | 0 => x = wr.drew | _ => LB W g n c2 x (bs.set r y)) [some (.slice (some ⟨g, 0, none⟩) n c2), some (.slice (some ⟨g1, o1, none⟩) m c), some (.int .i64 (j : Int)), some (.pointer (some ⟨g1, o1 + j, none⟩)), some (.int .u16 (a0 : Int)), some (.int .i64 (a0 : Int)), some (.slice (some ⟨g, 0, none⟩) n c2), some (.int .i64 (n : Int)), some (.int .i64 (r : Int)), some (.slice (some ⟨g3, o3, none⟩) mx cx), some (.int .i64 (j : Int)), some (.pointer (some ⟨g3, o3 + j, none⟩)), some (.int .u8 (y.toNat : Int)), some (.pointer (some ⟨g, r, none⟩)), none] (by decide) (by decide) (by kernel_rfl) (by kernel_rfl) (rfl) ?_ ?_
        · refine ⟨?_, ?_, ?_, ?_, ?_, ?_, ?_, ?_, ?_, ?_, ?_, ?_, ?_, ?_, ?_, trivial⟩
          · -- 0: slot 54 := Op.move t11
            refine OwesS.q rfl fun a w j' u hC hb hs => ⟨rfl, ?_⟩
            have e11 : a.tmps.getD 11 undef = .slice (some ⟨g, 0, none⟩) n c2 := hs.free 11 rfl
            refine ValWp.pure (v := .slice (some ⟨g, 0, none⟩) n c2) (fun K' hK' => ?_) ⟨rfl, rfl⟩
            simp only [ValWp, execOp, Act.eval, e11]
            go_simp
            all_goals exact hK'
          · -- 1: slot 55 := Op.move t1
            refine OwesS.q rfl fun a w j' u hC hb hs => ⟨rfl, ?_⟩
            have e1 : a.tmps.getD 1 undef = .slice (some ⟨g1, o1, none⟩) m c := hs.free 1 rfl
            refine ValWp.pure (v := .slice (some ⟨g1, o1, none⟩) m c) (fun K' hK' => ?_) ⟨rfl, rfl⟩
            simp only [ValWp, execOp, Act.eval, e1]
            go_simp
            all_goals exact hK'
          · -- 2: slot 56 := Op.move t12
            refine OwesS.q rfl fun a w j' u hC hb hs => ⟨rfl, ?_⟩
            have e12 : a.tmps.getD 12 undef = .int .i64 (j : Int) := hs.free 12 rfl
            refine ValWp.pure (v := .int .i64 (j : Int)) (fun K' hK' => ?_) ⟨rfl, rfl⟩
            simp only [ValWp, execOp, Act.eval, e12]
            go_simp
            all_goals exact hK'
          · -- 3: slot 57 := Op.indexAddr 62 t55 t56
            refine OwesS.q rfl fun a w j' u hC hb hs => ⟨rfl, ?_⟩
            have e55 : a.tmps.getD 55 undef = .slice (some ⟨g1, o1, none⟩) m c := hs.dep 1 _ rfl rfl
            have e56 : a.tmps.getD 56 undef = .int .i64 (j : Int) := hs.dep 2 _ rfl rfl
            refine ValWp.pure (v := .pointer (some ⟨g1, o1 + j, none⟩)) (fun K' hK' => ?_) ⟨rfl, rfl⟩
            simp only [ValWp, execOp, Act.eval, e55, e56]
            go_simp
            all_goals exact hK'
          · -- 4: slot 58 := Op.load 63 t57
            refine OwesS.q rfl fun a w j' u hC hb hs => ⟨rfl, ?_⟩
            have e57 : a.tmps.getD 57 undef = .pointer (some ⟨g1, o1 + j, none⟩) := hs.dep 3 _ rfl rfl
            have hj0 := hb 0 14 rfl rfl
            obtain rfl : j' = 0 := by omega
            have hw : w = wr.drew := hC
            subst hw
            have q0 := HA1.out
            refine ValWp.pure (v := .int .u16 (a0 : Int)) (fun K' hK' => ?_) ⟨rfl, rfl⟩
            simp only [ValWp, execOp, Act.eval, e57]
            go_simp
            all_goals exact hK'
          · -- 5: slot 59 := Op.convert 63 3 t58
            refine OwesS.q rfl fun a w j' u hC hb hs => ⟨rfl, ?_⟩
            have e58 : a.tmps.getD 58 undef = .int .u16 (a0 : Int) := hs.dep 4 _ rfl rfl
            have q0 := HWR.out
            refine ValWp.pure (v := .int .i64 (a0 : Int)) (fun K' hK' => ?_) ⟨rfl, rfl⟩
            simp only [ValWp, execOp, Act.eval, e58]
            go_simp
            all_goals exact hK'
          · -- 6: slot 60 := Op.move t11
            refine OwesS.q rfl fun a w j' u hC hb hs => ⟨rfl, ?_⟩
            have e11 : a.tmps.getD 11 undef = .slice (some ⟨g, 0, none⟩) n c2 := hs.free 11 rfl
            refine ValWp.pure (v := .slice (some ⟨g, 0, none⟩) n c2) (fun K' hK' => ?_) ⟨rfl, rfl⟩
            simp only [ValWp, execOp, Act.eval, e11]
            go_simp
            all_goals exact hK'
          · -- 7: slot 61 := Op.call { builtin len, args := #[t60], argTypes := #[43] }
            refine OwesS.q rfl fun a w j' u hC hb hs => ⟨rfl, ?_⟩
            have e60 : a.tmps.getD 60 undef = .slice (some ⟨g, 0, none⟩) n c2 := hs.dep 6 _ rfl rfl
            refine ValWp.pure (v := .int .i64 (n : Int)) (fun K' hK' => ?_) ⟨rfl, rfl⟩
            simp only [ValWp, execOp, Act.eval, e60]
            go_simp
            all_goals exact hK'
          · -- 8: slot 62 := Op.binOp BinOp.rem 3 t59 t61 3
            refine OwesS.q rfl fun a w j' u hC hb hs => ⟨rfl, ?_⟩
            have e59 : a.tmps.getD 59 undef = .int .i64 (a0 : Int) := hs.dep 5 _ rfl rfl
            have e61 : a.tmps.getD 61 undef = .int .i64 (n : Int) := hs.dep 7 _ rfl rfl
            have q0 := HMOD.out
            have q1 : ¬ n = 0 := by have := HNZ.out; omega
            refine ValWp.pure (v := .int .i64 (r : Int)) (fun K' hK' => ?_) ⟨rfl, rfl⟩
            simp only [ValWp, execOp, Act.eval, e59, e61]
            go_simp
            all_goals exact hK'
          · -- 9: slot 63 := Op.move t2
            refine OwesS.q rfl fun a w j' u hC hb hs => ⟨rfl, ?_⟩
            have e2 : a.tmps.getD 2 undef = .slice (some ⟨g3, o3, none⟩) mx cx := hs.free 2 rfl
            refine ValWp.pure (v := .slice (some ⟨g3, o3, none⟩) mx cx) (fun K' hK' => ?_) ⟨rfl, rfl⟩
            simp only [ValWp, execOp, Act.eval, e2]
            go_simp
            all_goals exact hK'
          · -- 10: slot 64 := Op.move t12
            refine OwesS.q rfl fun a w j' u hC hb hs => ⟨rfl, ?_⟩
            have e12 : a.tmps.getD 12 undef = .int .i64 (j : Int) := hs.free 12 rfl
            refine ValWp.pure (v := .int .i64 (j : Int)) (fun K' hK' => ?_) ⟨rfl, rfl⟩
            simp only [ValWp, execOp, Act.eval, e12]
            go_simp
            all_goals exact hK'
          · -- 11: slot 65 := Op.indexAddr 43 t63 t64
            refine OwesS.q rfl fun a w j' u hC hb hs => ⟨rfl, ?_⟩
            have e63 : a.tmps.getD 63 undef = .slice (some ⟨g3, o3, none⟩) mx cx := hs.dep 9 _ rfl rfl
            have e64 : a.tmps.getD 64 undef = .int .i64 (j : Int) := hs.dep 10 _ rfl rfl
            refine ValWp.pure (v := .pointer (some ⟨g3, o3 + j, none⟩)) (fun K' hK' => ?_) ⟨rfl, rfl⟩
            simp only [ValWp, execOp, Act.eval, e63, e64]
            go_simp
            all_goals exact hK'
          · -- 12: slot 66 := Op.load 5 t65
            refine OwesS.q rfl fun a w j' u hC hb hs => ⟨rfl, ?_⟩
            have e65 : a.tmps.getD 65 undef = .pointer (some ⟨g3, o3 + j, none⟩) := hs.dep 11 _ rfl rfl
            have hj0 := hb 0 14 rfl rfl
            obtain rfl : j' = 0 := by omega
            have hw : w = wr.drew := hC
            subst hw
            have q0 := HX1.out
            refine ValWp.pure (v := .int .u8 (y.toNat : Int)) (fun K' hK' => ?_) ⟨rfl, rfl⟩
            simp only [ValWp, execOp, Act.eval, e65]
            go_simp
            all_goals exact hK'
          · -- 13: slot 67 := Op.indexAddr 43 t54 t62
            refine OwesS.q rfl fun a w j' u hC hb hs => ⟨rfl, ?_⟩
            have e54 : a.tmps.getD 54 undef = .slice (some ⟨g, 0, none⟩) n c2 := hs.dep 0 _ rfl rfl
            have e62 : a.tmps.getD 62 undef = .int .i64 (r : Int) := hs.dep 8 _ rfl rfl
            have q0 := HR0.out
            have q1 := HRN.out
            refine ValWp.pure (v := .pointer (some ⟨g, r, none⟩)) (fun K' hK' => ?_) ⟨rfl, rfl⟩
            simp only [ValWp, execOp, Act.eval, e54, e62]
            go_simp
            all_goals exact hK'
          · -- 14: slot None := Op.store 5 t67 t66
            refine OwesS.w rfl fun a w u hC hl hs => ⟨rfl, fun K hK => ?_⟩
            have e67 : a.tmps.getD 67 undef = .pointer (some ⟨g, r, none⟩) := hs.dep 13 _ rfl rfl
            have e66 : a.tmps.getD 66 undef = .int .u8 (y.toNat : Int) := hs.dep 12 _ rfl rfl
            have hw : w = wr.drew := hC
            subst hw
            have q0 := HOLD.out.1
            have q1 := HOLD.out.2
            refine wp_of_val ?_
            refine ValWp.pure (v := undef) (w' := wr.drew.setCell ⟨g, r, none⟩ (.int .u8 (y.toNat : Int))) (fun K' hK' => ?_) (hK _ _ trivial HPUT.out)
            simp only [ValWp, execOp, Act.eval, e67, e66]
            go_simp
            all_goals exact hK'
        · intro a w u hC hl hd hsz hfree hs
          obtain ⟨u54, hu54⟩ : ∃ u, u = a.tmps.getD 54 undef := ⟨_, rfl⟩
          obtain ⟨u55, hu55⟩ : ∃ u, u = a.tmps.getD 55 undef := ⟨_, rfl⟩
          obtain ⟨u56, hu56⟩ : ∃ u, u = a.tmps.getD 56 undef := ⟨_, rfl⟩
          obtain ⟨u57, hu57⟩ : ∃ u, u = a.tmps.getD 57 undef := ⟨_, rfl⟩
          obtain ⟨u58, hu58⟩ : ∃ u, u = a.tmps.getD 58 undef := ⟨_, rfl⟩
          obtain ⟨u59, hu59⟩ : ∃ u, u = a.tmps.getD 59 undef := ⟨_, rfl⟩
          obtain ⟨u60, hu60⟩ : ∃ u, u = a.tmps.getD 60 undef := ⟨_, rfl⟩
          obtain ⟨u61, hu61⟩ : ∃ u, u = a.tmps.getD 61 undef := ⟨_, rfl⟩
          obtain ⟨u62, hu62⟩ : ∃ u, u = a.tmps.getD 62 undef := ⟨_, rfl⟩
          obtain ⟨u63, hu63⟩ : ∃ u, u = a.tmps.getD 63 undef := ⟨_, rfl⟩
          obtain ⟨u64, hu64⟩ : ∃ u, u = a.tmps.getD 64 undef := ⟨_, rfl⟩
          obtain ⟨u65, hu65⟩ : ∃ u, u = a.tmps.getD 65 undef := ⟨_, rfl⟩
          obtain ⟨u66, hu66⟩ : ∃ u, u = a.tmps.getD 66 undef := ⟨_, rfl⟩
          obtain ⟨u67, hu67⟩ : ∃ u, u = a.tmps.getD 67 undef := ⟨_, rfl⟩
          have hal : AllAt a 0 [_, _, _, _, _, _, _, _, _, _, _, _, _, _, _, _, _, _, _, _, _, _, _, _, _, _, _, _, _, _, _, _, _, _, _, _, _, _, _, _, _, _, _, _, _, _, _, _, _, _, _, _, _, _, u54, u55, u56, u57, u58, u59, u60, u61, u62, u63, u64, u65, u66, u67, _, _, _, _, _, _, _, _, _, _, _, _, _, _, _, _, _, _, _, _, _, _, _, _, _, _, _, _, _, _, _, _, _, _, _, _, _, _, _, _, _, _, _] := ⟨hfree 0 rfl, hfree 1 rfl, hfree 2 rfl, hfree 3 rfl, hfree 4 rfl, hfree 5 rfl, hfree 6 rfl, hfree 7 rfl, hfree 8 rfl, hfree 9 rfl, hfree 10 rfl, hfree 11 rfl, hfree 12 rfl, hfree 13 rfl, hfree 14 rfl, hfree 15 rfl, hfree 16 rfl, hfree 17 rfl, hfree 18 rfl, hfree 19 rfl, hfree 20 rfl, hfree 21 rfl, hfree 22 rfl, hfree 23 rfl, hfree 24 rfl, hfree 25 rfl, hfree 26 rfl, hfree 27 rfl, hfree 28 rfl, hfree 29 rfl, hfree 30 rfl, hfree 31 rfl, hfree 32 rfl, hfree 33 rfl, hfree 34 rfl, hfree 35 rfl, hfree 36 rfl, hfree 37 rfl, hfree 38 rfl, hfree 39 rfl, hfree 40 rfl, hfree 41 rfl, hfree 42 rfl, hfree 43 rfl, hfree 44 rfl, hfree 45 rfl, hfree 46 rfl, hfree 47 rfl, hfree 48 rfl, hfree 49 rfl, hfree 50 rfl, hfree 51 rfl, hfree 52 rfl, hfree 53 rfl, hu54.symm, hu55.symm, hu56.symm, hu57.symm, hu58.symm, hu59.symm, hu60.symm, hu61.symm, hu62.symm, hu63.symm, hu64.symm, hu65.symm, hu66.symm, hu67.symm, hfree 68 rfl, hfree 69 rfl, hfree 70 rfl, hfree 71 rfl, hfree 72 rfl, hfree 73 rfl, hfree 74 rfl, hfree 75 rfl, hfree 76 rfl, hfree 77 rfl, hfree 78 rfl, hfree 79 rfl, hfree 80 rfl, hfree 81 rfl, hfree 82 rfl, hfree 83 rfl, hfree 84 rfl, hfree 85 rfl, hfree 86 rfl, hfree 87 rfl, hfree 88 rfl, hfree 89 rfl, hfree 90 rfl, hfree 91 rfl, hfree 92 rfl, hfree 93 rfl, hfree 94 rfl, hfree 95 rfl, hfree 96 rfl, hfree 97 rfl, hfree 98 rfl, hfree 99 rfl, hfree 100 rfl, hfree 101 rfl, hfree 102 rfl, hfree 103 rfl, hfree 104 rfl, hfree 105 rfl, hfree 106 rfl, hfree 107 rfl, hfree 108 rfl, hfree 109 rfl, hfree 110 rfl, trivial⟩
          have hlit := fun h => act_lit hd h hal
          rw [hlit hsz]
          simp only [Array.getD_eq_getD_getElem?, List.getElem?_toArray, List.getElem?_cons_zero, List.getElem?_cons_succ, Option.getD_some]
          clear hlit hal hd hsz hfree hs hu54 hu55 hu56 hu57 hu58 hu59 hu60 hu61 hu62 hu63 hu64 hu65 hu66 hu67
          have HNX := Lib.hid (show LB W g n c2 w (bs.set r y) from hC)
          clear hC hl
          go_wp2
          go_roundw
          case rel => exact ⟨j + 1, bs.set r y, by omega, by go_num, by rw [List.length_set]; exact hbl, HNX⟩
          case measure => simp [intOf]; omega
      · have hlt1 : ¬ (j : Int) < (m : Int) := by omega
        clear hj hlt
        cases cut with
        | true =>
          have hq3 : q % 3 = 0 := by simpa using hcut.symm
          clear hcut
          obtain ⟨q3, hq3'⟩ : ∃ r, r = q % 3 := ⟨_, rfl⟩
          have hqm : Int.tmod (q : Int) 3 = (q3 : Int) := by rw [hq3', show (3 : Int) = ((3 : Nat) : Int) from rfl, ← Int.ofNat_tmod]
          have hqm3 : ((q3 : Int) == 0) = true := by simp; omega
          have hqm4 : (q3 : Int) = 0 := by omega
          obtain ⟨k, hk⟩ : ∃ k, k = q % (n + 1) := ⟨_, rfl⟩
          have hkn : k ≤ n := by rw [hk]; have := Nat.mod_lt q (show 0 < n + 1 by omega); omega
          have hkm : Int.tmod (q : Int) ((n : Int) + 1) = (k : Int) := by rw [hk]; exact (Int.ofNat_tmod q (n + 1)).symm
          have hkm2 : (q : Int) % ((n : Int) + 1) = (k : Int) := by rw [hk]; exact (Int.natCast_emod q (n + 1)).symm
          have hnw : IntKind.i64.wrap ((n : Int) + 1) = (n : Int) + 1 := by rw [IntKind.wrap_i64]; omega
          have hqw : IntKind.i64.wrap (q : Int) = (q : Int) := by rw [IntKind.wrap_i64]; omega
          have hn10 : ¬ (n : Int) + 1 = 0 := by omega
          have hkc : (0 : Int) ≤ (k : Int) := by omega
          clear hk hq3' hq3 hqm4
          obtain ⟨p, hp⟩ : ∃ p, p = bs.take k := ⟨_, rfl⟩
          have hpl : p.length ≤ 4000 := by rw [hp, List.length_take]; omega
          have HRD0 := Lib.hid (show Rd wr wr.heap.size (some ⟨g, 0, none⟩) k (p.map bv) by rw [hp, List.map_take]; exact (Rd.of_own (c := c2) HLB0.out.own).take_ hkn)
          have hkc2 : (k : Int) ≤ (c2 : Int) := by have := HNC.out; omega
          have hk4 : k ≤ 4000 := by omega
          have HLOW := Lib.hid HLB0.out.low
          clear hp hkn hbl HLB0
          cases hu : unp p with
          | error e1 =>
            have he : e1 = 10 ∨ e1 = 11 ∨ e1 = 14 := unp_errs hu
            have HUN := Lib.hid (show Calls Try.prog 10 #[.slice (some ⟨g, 0, none⟩) k c2] wr fun e w' => e = .returned (.tuple #[.agg #[.slice none 0 0, .slice none 0 0, .int .i64 0, .string ⟨#[]⟩, .slice none 0 0, .slice none 0 0, .slice none 0 0, .slice none 0 0, .slice none 0 0, .int .i64 0, .int .i64 0, .int .i64 0, .string ⟨#[]⟩, .slice none 0 0, .int .i64 0, .int .i64 0, .int .i64 0, .int .i64 0, .string ⟨#[]⟩, .slice none 0 0, .int .i64 0, .slice none 0 0, .int .i64 0, .int .i64 0, .int .i64 0, .bool false, .bool false, .bool false, .int .i64 0], .int .i64 (e1 : Int)]) ∧ Later wr w' from (unpack_v _ k c2 p wr HRD0.out (by omega)).mono fun e w' hq => by
              obtain ⟨hl, c, k', rfl, hbad, _⟩ := hq
              obtain ⟨rfl, rfl, _⟩ := hbad e1 hu
              exact ⟨rfl, hl⟩)
            clear hu hpl
            rcases he with rfl | rfl | rfl
            all_goals
              go_wp2_with (first
                | (go_at_call 10; (with_reducible refine HUN.out.mono ?_); rintro e w5 ⟨rfl, hl5⟩; (have HL5 := Lib.hid hl5); clear hl5)
                | (refine wpList_allocO 14 rfl rfl 40 rfl #[.slice none 0 0, .slice none 0 0, .int .i64 0, .string ⟨#[]⟩, .slice none 0 0, .slice none 0 0, .slice none 0 0, .slice none 0 0, .slice none 0 0, .int .i64 0, .int .i64 0, .int .i64 0, .string ⟨#[]⟩, .slice none 0 0, .int .i64 0, .int .i64 0, .int .i64 0, .int .i64 0, .string ⟨#[]⟩, .slice none 0 0, .int .i64 0, .slice none 0 0, .int .i64 0, .int .i64 0, .int .i64 0, .bool false, .bool false, .bool false, .int .i64 0] 29 (by kernel_rfl) ?_; intro w6 hw6 hl6 hs6; (have HW6 := Lib.hid hw6); (have HL6 := Lib.hid hl6); clear hw6 hl6 hs6)
                | (refine wpList_storeO rfl 40 (.tmp 14) (.tmp 84) rfl w5.heap.size #[.slice none 0 0, .slice none 0 0, .int .i64 0, .string ⟨#[]⟩, .slice none 0 0, .slice none 0 0, .slice none 0 0, .slice none 0 0, .slice none 0 0, .int .i64 0, .int .i64 0, .int .i64 0, .string ⟨#[]⟩, .slice none 0 0, .int .i64 0, .int .i64 0, .int .i64 0, .int .i64 0, .string ⟨#[]⟩, .slice none 0 0, .int .i64 0, .slice none 0 0, .int .i64 0, .int .i64 0, .int .i64 0, .bool false, .bool false, .bool false, .int .i64 0] #[.slice none 0 0, .slice none 0 0, .int .i64 0, .string ⟨#[]⟩, .slice none 0 0, .slice none 0 0, .slice none 0 0, .slice none 0 0, .slice none 0 0, .int .i64 0, .int .i64 0, .int .i64 0, .string ⟨#[]⟩, .slice none 0 0, .int .i64 0, .int .i64 0, .int .i64 0, .int .i64 0, .string ⟨#[]⟩, .slice none 0 0, .int .i64 0, .slice none 0 0, .int .i64 0, .int .i64 0, .int .i64 0, .bool false, .bool false, .bool false, .int .i64 0] rfl rfl HW6.out (by kernel_rfl) rfl HON.out ?_; intro w7 hw7 hg7 hs7; (have HLD7 := Lib.hid (loadO_run (P := Try.prog) 40 _ _ _ hw7 Try.underlying40 rfl (by kernel_rfl))); (have HL7 := Lib.hid (later_of_new HL6.out hg7 (Nat.le_refl _))); clear hw7 hg7 hs7)
                | (refine wpList_loadRun rfl 40 (.tmp 14) rfl _ _ rfl HLD7.out ?_)
                | (go_at_call 13; (with_reducible refine (HSZ.out w7).mono ?_); rintro e w8 ⟨rfl, hl8⟩; (have HL8 := Lib.hid hl8); clear hl8))
              go_ret
              exact ⟨rfl, ((HLOW.out.trans HL5.out).trans HL7.out).trans HL8.out⟩
          | ok t =>
            obtain ⟨hpt, hok⟩ := unp_own hu
            have hft : fewN t ≤ 100000 := by have h1 := few_ge t; rw [← hpt] at h1; unfold fewN; omega
            have HUN := Lib.hid (show Calls Try.prog 10 #[.slice (some ⟨g, 0, none⟩) k c2] wr fun e w' => ∃ c : List Value, e = .returned (.tuple #[.agg c.toArray, .int .i64 0]) ∧ stR.C w' w'.heap.size c t ∧ Later wr w' from (unpack_v _ k c2 p wr HRD0.out (by omega)).mono fun e w' hq => by
              obtain ⟨hl, c, k', rfl, _, hgood⟩ := hq
              obtain ⟨rfl, hC⟩ := hgood t hu
              exact ⟨c, rfl, hC, hl⟩)
            have HOF := Lib.hid (show ∀ (cx : List Value) (w : World), stR.C w w.heap.size cx t → Calls Try.prog 12 #[.agg cx.toArray] w fun e w' => (∃ c : List Value, e = .returned (.agg c.toArray) ∧ ssR.C w' w'.heap.size c (ssOf t)) ∧ Later w w' from fun cx w hc => of_v t cx w hc hft)
            have HPR := Lib.hid (show ∀ (w : World) (c : List Value), ssR.C w w.heap.size c (ssOf t) → Calls Try.prog 11 #[.agg c.toArray] w fun e w' => e = .returned (.string (mkS p)) ∧ Later w w' from fun w c hc => by
              have h9 := pack_v (ssOf t) c w hc (ssOk_of hok).1 (ssOk_of hok).2 (by rw [ssB_of, ← hpt]; omega)
              rw [ssB_of, ← hpt] at h9
              exact h9)
            clear hu hpl hpt hok hft
            go_wp2_with (first
              | (go_at_call 10; (with_reducible refine HUN.out.mono ?_); rintro e w5 ⟨cs2, rfl, hc5, hl5⟩; obtain ⟨hi5, hz5, ho5⟩ := st_one hc5; (have HI := Lib.hid hi5); (have HSZ5 := Lib.hid hz5); (have HON5 := Lib.hid ho5); (have HC5 := Lib.hid hc5); (have HL5 := Lib.hid hl5); clear hc5 hl5 hi5 hz5 ho5)
              | (refine wpList_allocO 14 rfl rfl 40 rfl #[.slice none 0 0, .slice none 0 0, .int .i64 0, .string ⟨#[]⟩, .slice none 0 0, .slice none 0 0, .slice none 0 0, .slice none 0 0, .slice none 0 0, .int .i64 0, .int .i64 0, .int .i64 0, .string ⟨#[]⟩, .slice none 0 0, .int .i64 0, .int .i64 0, .int .i64 0, .int .i64 0, .string ⟨#[]⟩, .slice none 0 0, .int .i64 0, .slice none 0 0, .int .i64 0, .int .i64 0, .int .i64 0, .bool false, .bool false, .bool false, .int .i64 0] 29 (by kernel_rfl) ?_; intro w6 hw6 hl6 hs6; (have HW6 := Lib.hid hw6); (have HL6 := Lib.hid hl6); clear hw6 hl6 hs6)
              | (refine wpList_storeO rfl 40 (.tmp 14) (.tmp 84) rfl w5.heap.size _ _ rfl rfl HW6.out HI.out HSZ5.out HON5.out ?_; intro w7 hw7 hg7 hs7; (have HW7 := Lib.hid hw7); (have HL7 := Lib.hid (later_of_new HL6.out hg7 (Nat.le_refl _))); clear hw7 hg7 hs7))
            have HLB := Lib.hid (show ∀ w, Later w7 w → (Instr.loadAt 40 (.pointer (some ⟨w5.heap.size, 0, none⟩))).run Try.prog w = .ok (.agg cs2.toArray) w from fun w hw => loadO_run (P := Try.prog) 40 _ _ _ (later_cells hw HW7.out) Try.underlying40 rfl (by rw [List.size_toArray, stR.len HC5.out]; kernel_rfl))
            have HOB := Lib.hid (show ∀ w, Later w7 w → _ from fun w hw => HOF.out cs2 w (stR.more (stR.keep HC5.out fun p hp => (HL7.out.trans hw).cell hp) (HL7.out.trans hw).size))
            have HRD := Lib.hid (show Rd w7 w7.heap.size (some ⟨g, 0, none⟩) k (p.map bv) from Rd.wide (HRD0.out.keep fun p hp => (HL5.out.trans HL7.out).cell hp) (HL5.out.trans HL7.out).size)
            have HEND := Lib.hid ((HLOW.out.trans HL5.out).trans HL7.out)
            refine wp_region_owes (by kernel_rfl) (fun x => Later w7 x) (Later) (Later.refl) [Sp.val (.agg cs2.toArray), spSs t, Sp.val (.string (mkS p)), Sp.val (.slice (some ⟨g, 0, none⟩) n c2), Sp.val (.int .i64 (k : Int)), Sp.val (.slice (some ⟨g, 0, none⟩) k c2), Sp.val (.string (mkS p)), Sp.val (.bool true), Sp.val (.bool true)] (by kernel_rfl) (Later.drew w7) ?_ ?_
            · refine ⟨?_, ?_, ?_, ?_, ?_, ?_, ?_, ?_, ?_, trivial⟩
              · -- 0: slot 103 := Op.load 40 t14
                refine fun a w hC hs => .inl ⟨?_, ?_⟩
                · rfl
                have e14 : a.tmps.getD 14 undef = .pointer (some ⟨w5.heap.size, 0, none⟩) := hs.free 14 rfl
                exact ValWp.loadR rfl e14 (HLB.out w hC) ⟨rfl, hC, Later.refl _⟩
              · -- 1: slot 104 := Op.call { value (Operand.func 12), args := #[t103], argTypes := #[40] }
                refine fun a w hC hs => .inl ⟨?_, ?_⟩
                · rfl
                have e103 : a.tmps.getD 103 undef = .agg cs2.toArray := hs.dep 0 _ rfl rfl
                refine ValWp.call #[.agg cs2.toArray] rfl rfl Try.func12 rfl rfl (by simp only [List.map_toArray, List.map_cons, List.map_nil, Act.eval, e103]) ?_
                refine (HOB.out w hC).mono ?_
                rintro e w' ⟨⟨c, rfl, h2⟩, hl⟩
                exact ⟨_, rfl, ⟨c, rfl, h2⟩, Later.trans hC hl, hl⟩
              · -- 2: slot 105 := Op.call { value (Operand.func 11), args := #[t104], argTypes := #[59] }
                refine fun a w hC hs => .inl ⟨?_, ?_⟩
                · rfl
                obtain ⟨c104, e104, h104⟩ := hs.dep 1 _ rfl rfl
                change a.tmps.getD 104 undef = _ at e104
                refine ValWp.call #[.agg c104.toArray] rfl rfl Try.func11 rfl rfl (by simp only [List.map_toArray, List.map_cons, List.map_nil, Act.eval, e104]) ?_
                refine (HPR.out w c104 h104).mono ?_
                rintro e w' ⟨rfl, hl⟩
                exact ⟨_, rfl, rfl, Later.trans hC hl, hl⟩
              · -- 3: slot 106 := Op.move t11
                refine fun a w hC hs => .inl ⟨?_, ?_⟩
                · rfl
                have e11 : a.tmps.getD 11 undef = .slice (some ⟨g, 0, none⟩) n c2 := hs.free 11 rfl
                exact ⟨e11, hC, Later.refl _⟩
              · -- 4: slot 107 := Op.move t13
                refine fun a w hC hs => .inl ⟨?_, ?_⟩
                · rfl
                have e13 : a.tmps.getD 13 undef = .int .i64 (k : Int) := hs.free 13 rfl
                exact ⟨e13, hC, Later.refl _⟩
              · -- 5: slot 108 := Op.slice 43 t106 none (some t107) none
                refine fun a w hC hs => .inl ⟨?_, ?_⟩
                · rfl
                have e106 : a.tmps.getD 106 undef = .slice (some ⟨g, 0, none⟩) n c2 := hs.dep 3 _ rfl rfl
                have e107 : a.tmps.getD 107 undef = .int .i64 (k : Int) := hs.dep 4 _ rfl rfl
                refine ValWp.pure (v := .slice (some ⟨g, 0, none⟩) k c2) (fun K' hK' => ?_) ⟨rfl, hC, Later.refl _⟩
                simp only [ValWp, execOp, Act.eval, Option.map_some, Option.map_none, e106, e107]
                go_simp
                all_goals exact hK'
              · -- 6: slot 109 := Op.convert 43 9 t108
                refine fun a w hC hs => .inl ⟨?_, ?_⟩
                · rfl
                have e108 : a.tmps.getD 108 undef = .slice (some ⟨g, 0, none⟩) k c2 := hs.dep 5 _ rfl rfl
                have hcv := run_str_of (P := Try.prog) (Rd.wide (HRD.out.keep fun p hp => hC.cell hp) hC.size) 43 9 5 Try.underlying43 Try.underlying5 Try.underlying9 c2
                refine ValWp.pure (v := .string (mkS p)) (fun K' hK' => ?_) ⟨rfl, hC, Later.refl _⟩
                simp only [ValWp, execOp, Act.eval, e108]
                go_simp
                all_goals exact hK'
              · -- 7: slot 110 := Op.binOp BinOp.eql 9 t105 t109 9
                refine fun a w hC hs => .inl ⟨?_, ?_⟩
                · rfl
                have e105 : a.tmps.getD 105 undef = .string (mkS p) := hs.dep 2 _ rfl rfl
                have e109 : a.tmps.getD 109 undef = .string (mkS p) := hs.dep 6 _ rfl rfl
                refine ValWp.pure (v := .bool true) (fun K' hK' => ?_) ⟨rfl, hC, Later.refl _⟩
                simp only [ValWp, execOp, Act.eval, e105, e109]
                go_simp
                all_goals exact hK'
              · -- 8: slot 8 := Op.assign t110
                refine fun a w hC hs => .inl ⟨?_, ?_⟩
                · rfl
                have e110 : a.tmps.getD 110 undef = .bool true := hs.dep 7 _ rfl rfl
                exact ⟨e110, hC, Later.refl _⟩
            · intro a W hC hd hsz hfree hs
              obtain ⟨u103, hu103⟩ : ∃ u, u = a.tmps.getD 103 undef := ⟨_, rfl⟩
              obtain ⟨u104, hu104⟩ : ∃ u, u = a.tmps.getD 104 undef := ⟨_, rfl⟩
              obtain ⟨u105, hu105⟩ : ∃ u, u = a.tmps.getD 105 undef := ⟨_, rfl⟩
              obtain ⟨u106, hu106⟩ : ∃ u, u = a.tmps.getD 106 undef := ⟨_, rfl⟩
              obtain ⟨u107, hu107⟩ : ∃ u, u = a.tmps.getD 107 undef := ⟨_, rfl⟩
              obtain ⟨u108, hu108⟩ : ∃ u, u = a.tmps.getD 108 undef := ⟨_, rfl⟩
              obtain ⟨u109, hu109⟩ : ∃ u, u = a.tmps.getD 109 undef := ⟨_, rfl⟩
              obtain ⟨u110, hu110⟩ : ∃ u, u = a.tmps.getD 110 undef := ⟨_, rfl⟩
              have hal : AllAt a 0 [_, _, _, _, _, _, _, _, .bool true, _, _, _, _, _, _, _, _, _, _, _, _, _, _, _, _, _, _, _, _, _, _, _, _, _, _, _, _, _, _, _, _, _, _, _, _, _, _, _, _, _, _, _, _, _, _, _, _, _, _, _, _, _, _, _, _, _, _, _, _, _, _, _, _, _, _, _, _, _, _, _, _, _, _, _, _, _, _, _, _, _, _, _, _, _, _, _, _, _, _, _, _, _, _, u103, u104, u105, u106, u107, u108, u109, u110] := ⟨hfree 0 rfl, hfree 1 rfl, hfree 2 rfl, hfree 3 rfl, hfree 4 rfl, hfree 5 rfl, hfree 6 rfl, hfree 7 rfl, hs 8 _ rfl, hfree 9 rfl, hfree 10 rfl, hfree 11 rfl, hfree 12 rfl, hfree 13 rfl, hfree 14 rfl, hfree 15 rfl, hfree 16 rfl, hfree 17 rfl, hfree 18 rfl, hfree 19 rfl, hfree 20 rfl, hfree 21 rfl, hfree 22 rfl, hfree 23 rfl, hfree 24 rfl, hfree 25 rfl, hfree 26 rfl, hfree 27 rfl, hfree 28 rfl, hfree 29 rfl, hfree 30 rfl, hfree 31 rfl, hfree 32 rfl, hfree 33 rfl, hfree 34 rfl, hfree 35 rfl, hfree 36 rfl, hfree 37 rfl, hfree 38 rfl, hfree 39 rfl, hfree 40 rfl, hfree 41 rfl, hfree 42 rfl, hfree 43 rfl, hfree 44 rfl, hfree 45 rfl, hfree 46 rfl, hfree 47 rfl, hfree 48 rfl, hfree 49 rfl, hfree 50 rfl, hfree 51 rfl, hfree 52 rfl, hfree 53 rfl, hfree 54 rfl, hfree 55 rfl, hfree 56 rfl, hfree 57 rfl, hfree 58 rfl, hfree 59 rfl, hfree 60 rfl, hfree 61 rfl, hfree 62 rfl, hfree 63 rfl, hfree 64 rfl, hfree 65 rfl, hfree 66 rfl, hfree 67 rfl, hfree 68 rfl, hfree 69 rfl, hfree 70 rfl, hfree 71 rfl, hfree 72 rfl, hfree 73 rfl, hfree 74 rfl, hfree 75 rfl, hfree 76 rfl, hfree 77 rfl, hfree 78 rfl, hfree 79 rfl, hfree 80 rfl, hfree 81 rfl, hfree 82 rfl, hfree 83 rfl, hfree 84 rfl, hfree 85 rfl, hfree 86 rfl, hfree 87 rfl, hfree 88 rfl, hfree 89 rfl, hfree 90 rfl, hfree 91 rfl, hfree 92 rfl, hfree 93 rfl, hfree 94 rfl, hfree 95 rfl, hfree 96 rfl, hfree 97 rfl, hfree 98 rfl, hfree 99 rfl, hfree 100 rfl, hfree 101 rfl, hfree 102 rfl, hu103.symm, hu104.symm, hu105.symm, hu106.symm, hu107.symm, hu108.symm, hu109.symm, hu110.symm, trivial⟩
              have hlit := fun h => act_lit hd h hal
              rw [hlit hsz]
              simp only [Array.getD_eq_getD_getElem?, List.getElem?_toArray, List.getElem?_cons_zero, List.getElem?_cons_succ, Option.getD_some]
              clear hlit hal hd hsz hfree hs hu103 hu104 hu105 hu106 hu107 hu108 hu109 hu110
              have HLL := Lib.hid (Later.trans HEND.out hC)
              clear hC
              go_wp2
              go_ret
              exact ⟨rfl, HLL.out⟩
        | false =>
          have hq3 : ¬ q % 3 = 0 := by simpa using hcut.symm
          clear hcut
          obtain ⟨q3, hq3'⟩ : ∃ r, r = q % 3 := ⟨_, rfl⟩
          have hqm : Int.tmod (q : Int) 3 = (q3 : Int) := by rw [hq3', show (3 : Int) = ((3 : Nat) : Int) from rfl, ← Int.ofNat_tmod]
          have hqm2 : ¬ (q3 : Int) = 0 := by omega
          have hqm3 : ((q3 : Int) == 0) = false := by simp; omega
          obtain ⟨k, hk⟩ : ∃ k, k = n := ⟨_, rfl⟩
          subst hk
          have hkn : k ≤ k := Nat.le_refl _
          have hkc : (0 : Int) ≤ (k : Int) := by omega
          clear hq3' hq3
          obtain ⟨p, hp⟩ : ∃ p, p = bs.take k := ⟨_, rfl⟩
          have hpl : p.length ≤ 4000 := by rw [hp, List.length_take]; omega
          have HRD0 := Lib.hid (show Rd wr wr.heap.size (some ⟨g, 0, none⟩) k (p.map bv) by rw [hp, List.map_take]; exact (Rd.of_own (c := c2) HLB0.out.own).take_ hkn)
          have hkc2 : (k : Int) ≤ (c2 : Int) := by have := HNC.out; omega
          have hk4 : k ≤ 4000 := by omega
          have HLOW := Lib.hid HLB0.out.low
          clear hp hkn hbl HLB0
          cases hu : unp p with
          | error e1 =>
            have he : e1 = 10 ∨ e1 = 11 ∨ e1 = 14 := unp_errs hu
            have HUN := Lib.hid (show Calls Try.prog 10 #[.slice (some ⟨g, 0, none⟩) k c2] wr fun e w' => e = .returned (.tuple #[.agg #[.slice none 0 0, .slice none 0 0, .int .i64 0, .string ⟨#[]⟩, .slice none 0 0, .slice none 0 0, .slice none 0 0, .slice none 0 0, .slice none 0 0, .int .i64 0, .int .i64 0, .int .i64 0, .string ⟨#[]⟩, .slice none 0 0, .int .i64 0, .int .i64 0, .int .i64 0, .int .i64 0, .string ⟨#[]⟩, .slice none 0 0, .int .i64 0, .slice none 0 0, .int .i64 0, .int .i64 0, .int .i64 0, .bool false, .bool false, .bool false, .int .i64 0], .int .i64 (e1 : Int)]) ∧ Later wr w' from (unpack_v _ k c2 p wr HRD0.out (by omega)).mono fun e w' hq => by
              obtain ⟨hl, c, k', rfl, hbad, _⟩ := hq
              obtain ⟨rfl, rfl, _⟩ := hbad e1 hu
              exact ⟨rfl, hl⟩)
            clear hu hpl
            rcases he with rfl | rfl | rfl
            all_goals
              go_wp2_with (first
                | (go_at_call 10; (with_reducible refine HUN.out.mono ?_); rintro e w5 ⟨rfl, hl5⟩; (have HL5 := Lib.hid hl5); clear hl5)
                | (refine wpList_allocO 14 rfl rfl 40 rfl #[.slice none 0 0, .slice none 0 0, .int .i64 0, .string ⟨#[]⟩, .slice none 0 0, .slice none 0 0, .slice none 0 0, .slice none 0 0, .slice none 0 0, .int .i64 0, .int .i64 0, .int .i64 0, .string ⟨#[]⟩, .slice none 0 0, .int .i64 0, .int .i64 0, .int .i64 0, .int .i64 0, .string ⟨#[]⟩, .slice none 0 0, .int .i64 0, .slice none 0 0, .int .i64 0, .int .i64 0, .int .i64 0, .bool false, .bool false, .bool false, .int .i64 0] 29 (by kernel_rfl) ?_; intro w6 hw6 hl6 hs6; (have HW6 := Lib.hid hw6); (have HL6 := Lib.hid hl6); clear hw6 hl6 hs6)
                | (refine wpList_storeO rfl 40 (.tmp 14) (.tmp 84) rfl w5.heap.size #[.slice none 0 0, .slice none 0 0, .int .i64 0, .string ⟨#[]⟩, .slice none 0 0, .slice none 0 0, .slice none 0 0, .slice none 0 0, .slice none 0 0, .int .i64 0, .int .i64 0, .int .i64 0, .string ⟨#[]⟩, .slice none 0 0, .int .i64 0, .int .i64 0, .int .i64 0, .int .i64 0, .string ⟨#[]⟩, .slice none 0 0, .int .i64 0, .slice none 0 0, .int .i64 0, .int .i64 0, .int .i64 0, .bool false, .bool false, .bool false, .int .i64 0] #[.slice none 0 0, .slice none 0 0, .int .i64 0, .string ⟨#[]⟩, .slice none 0 0, .slice none 0 0, .slice none 0 0, .slice none 0 0, .slice none 0 0, .int .i64 0, .int .i64 0, .int .i64 0, .string ⟨#[]⟩, .slice none 0 0, .int .i64 0, .int .i64 0, .int .i64 0, .int .i64 0, .string ⟨#[]⟩, .slice none 0 0, .int .i64 0, .slice none 0 0, .int .i64 0, .int .i64 0, .int .i64 0, .bool false, .bool false, .bool false, .int .i64 0] rfl rfl HW6.out (by kernel_rfl) rfl HON.out ?_; intro w7 hw7 hg7 hs7; (have HLD7 := Lib.hid (loadO_run (P := Try.prog) 40 _ _ _ hw7 Try.underlying40 rfl (by kernel_rfl))); (have HL7 := Lib.hid (later_of_new HL6.out hg7 (Nat.le_refl _))); clear hw7 hg7 hs7)
                | (refine wpList_loadRun rfl 40 (.tmp 14) rfl _ _ rfl HLD7.out ?_)
                | (go_at_call 13; (with_reducible refine (HSZ.out w7).mono ?_); rintro e w8 ⟨rfl, hl8⟩; (have HL8 := Lib.hid hl8); clear hl8))
              go_ret
              exact ⟨rfl, ((HLOW.out.trans HL5.out).trans HL7.out).trans HL8.out⟩
          | ok t =>
            obtain ⟨hpt, hok⟩ := unp_own hu
            have hft : fewN t ≤ 100000 := by have h1 := few_ge t; rw [← hpt] at h1; unfold fewN; omega
            have HUN := Lib.hid (show Calls Try.prog 10 #[.slice (some ⟨g, 0, none⟩) k c2] wr fun e w' => ∃ c : List Value, e = .returned (.tuple #[.agg c.toArray, .int .i64 0]) ∧ stR.C w' w'.heap.size c t ∧ Later wr w' from (unpack_v _ k c2 p wr HRD0.out (by omega)).mono fun e w' hq => by
              obtain ⟨hl, c, k', rfl, _, hgood⟩ := hq
              obtain ⟨rfl, hC⟩ := hgood t hu
              exact ⟨c, rfl, hC, hl⟩)
            have HOF := Lib.hid (show ∀ (cx : List Value) (w : World), stR.C w w.heap.size cx t → Calls Try.prog 12 #[.agg cx.toArray] w fun e w' => (∃ c : List Value, e = .returned (.agg c.toArray) ∧ ssR.C w' w'.heap.size c (ssOf t)) ∧ Later w w' from fun cx w hc => of_v t cx w hc hft)
            have HPR := Lib.hid (show ∀ (w : World) (c : List Value), ssR.C w w.heap.size c (ssOf t) → Calls Try.prog 11 #[.agg c.toArray] w fun e w' => e = .returned (.string (mkS p)) ∧ Later w w' from fun w c hc => by
              have h9 := pack_v (ssOf t) c w hc (ssOk_of hok).1 (ssOk_of hok).2 (by rw [ssB_of, ← hpt]; omega)
              rw [ssB_of, ← hpt] at h9
              exact h9)
            clear hu hpl hpt hok hft
            go_wp2_with (first
              | (go_at_call 10; (with_reducible refine HUN.out.mono ?_); rintro e w5 ⟨cs2, rfl, hc5, hl5⟩; obtain ⟨hi5, hz5, ho5⟩ := st_one hc5; (have HI := Lib.hid hi5); (have HSZ5 := Lib.hid hz5); (have HON5 := Lib.hid ho5); (have HC5 := Lib.hid hc5); (have HL5 := Lib.hid hl5); clear hc5 hl5 hi5 hz5 ho5)
              | (refine wpList_allocO 14 rfl rfl 40 rfl #[.slice none 0 0, .slice none 0 0, .int .i64 0, .string ⟨#[]⟩, .slice none 0 0, .slice none 0 0, .slice none 0 0, .slice none 0 0, .slice none 0 0, .int .i64 0, .int .i64 0, .int .i64 0, .string ⟨#[]⟩, .slice none 0 0, .int .i64 0, .int .i64 0, .int .i64 0, .int .i64 0, .string ⟨#[]⟩, .slice none 0 0, .int .i64 0, .slice none 0 0, .int .i64 0, .int .i64 0, .int .i64 0, .bool false, .bool false, .bool false, .int .i64 0] 29 (by kernel_rfl) ?_; intro w6 hw6 hl6 hs6; (have HW6 := Lib.hid hw6); (have HL6 := Lib.hid hl6); clear hw6 hl6 hs6)
              | (refine wpList_storeO rfl 40 (.tmp 14) (.tmp 84) rfl w5.heap.size _ _ rfl rfl HW6.out HI.out HSZ5.out HON5.out ?_; intro w7 hw7 hg7 hs7; (have HW7 := Lib.hid hw7); (have HL7 := Lib.hid (later_of_new HL6.out hg7 (Nat.le_refl _))); clear hw7 hg7 hs7))
            have HLB := Lib.hid (show ∀ w, Later w7 w → (Instr.loadAt 40 (.pointer (some ⟨w5.heap.size, 0, none⟩))).run Try.prog w = .ok (.agg cs2.toArray) w from fun w hw => loadO_run (P := Try.prog) 40 _ _ _ (later_cells hw HW7.out) Try.underlying40 rfl (by rw [List.size_toArray, stR.len HC5.out]; kernel_rfl))
            have HOB := Lib.hid (show ∀ w, Later w7 w → _ from fun w hw => HOF.out cs2 w (stR.more (stR.keep HC5.out fun p hp => (HL7.out.trans hw).cell hp) (HL7.out.trans hw).size))
            have HRD := Lib.hid (show Rd w7 w7.heap.size (some ⟨g, 0, none⟩) k (p.map bv) from Rd.wide (HRD0.out.keep fun p hp => (HL5.out.trans HL7.out).cell hp) (HL5.out.trans HL7.out).size)
            have HEND := Lib.hid ((HLOW.out.trans HL5.out).trans HL7.out)
            refine wp_region_owes (by kernel_rfl) (fun x => Later w7 x) (Later) (Later.refl) [Sp.val (.agg cs2.toArray), spSs t, Sp.val (.string (mkS p)), Sp.val (.slice (some ⟨g, 0, none⟩) k c2), Sp.val (.int .i64 (k : Int)), Sp.val (.slice (some ⟨g, 0, none⟩) k c2), Sp.val (.string (mkS p)), Sp.val (.bool true), Sp.val (.bool true)] (by kernel_rfl) (Later.drew w7) ?_ ?_
            · refine ⟨?_, ?_, ?_, ?_, ?_, ?_, ?_, ?_, ?_, trivial⟩
              · -- 0: slot 103 := Op.load 40 t14
                refine fun a w hC hs => .inl ⟨?_, ?_⟩
                · rfl
                have e14 : a.tmps.getD 14 undef = .pointer (some ⟨w5.heap.size, 0, none⟩) := hs.free 14 rfl
                exact ValWp.loadR rfl e14 (HLB.out w hC) ⟨rfl, hC, Later.refl _⟩
              · -- 1: slot 104 := Op.call { value (Operand.func 12), args := #[t103], argTypes := #[40] }
                refine fun a w hC hs => .inl ⟨?_, ?_⟩
                · rfl
                have e103 : a.tmps.getD 103 undef = .agg cs2.toArray := hs.dep 0 _ rfl rfl
                refine ValWp.call #[.agg cs2.toArray] rfl rfl Try.func12 rfl rfl (by simp only [List.map_toArray, List.map_cons, List.map_nil, Act.eval, e103]) ?_
                refine (HOB.out w hC).mono ?_
                rintro e w' ⟨⟨c, rfl, h2⟩, hl⟩
                exact ⟨_, rfl, ⟨c, rfl, h2⟩, Later.trans hC hl, hl⟩
              · -- 2: slot 105 := Op.call { value (Operand.func 11), args := #[t104], argTypes := #[59] }
                refine fun a w hC hs => .inl ⟨?_, ?_⟩
                · rfl
                obtain ⟨c104, e104, h104⟩ := hs.dep 1 _ rfl rfl
                change a.tmps.getD 104 undef = _ at e104
                refine ValWp.call #[.agg c104.toArray] rfl rfl Try.func11 rfl rfl (by simp only [List.map_toArray, List.map_cons, List.map_nil, Act.eval, e104]) ?_
                refine (HPR.out w c104 h104).mono ?_
                rintro e w' ⟨rfl, hl⟩
                exact ⟨_, rfl, rfl, Later.trans hC hl, hl⟩
              · -- 3: slot 106 := Op.move t11
                refine fun a w hC hs => .inl ⟨?_, ?_⟩
                · rfl
                have e11 : a.tmps.getD 11 undef = .slice (some ⟨g, 0, none⟩) k c2 := hs.free 11 rfl
                exact ⟨e11, hC, Later.refl _⟩
              · -- 4: slot 107 := Op.move t13
                refine fun a w hC hs => .inl ⟨?_, ?_⟩
                · rfl
                have e13 : a.tmps.getD 13 undef = .int .i64 (k : Int) := hs.free 13 rfl
                exact ⟨e13, hC, Later.refl _⟩
              · -- 5: slot 108 := Op.slice 43 t106 none (some t107) none
                refine fun a w hC hs => .inl ⟨?_, ?_⟩
                · rfl
                have e106 : a.tmps.getD 106 undef = .slice (some ⟨g, 0, none⟩) k c2 := hs.dep 3 _ rfl rfl
                have e107 : a.tmps.getD 107 undef = .int .i64 (k : Int) := hs.dep 4 _ rfl rfl
                refine ValWp.pure (v := .slice (some ⟨g, 0, none⟩) k c2) (fun K' hK' => ?_) ⟨rfl, hC, Later.refl _⟩
                simp only [ValWp, execOp, Act.eval, Option.map_some, Option.map_none, e106, e107]
                go_simp
                all_goals exact hK'
              · -- 6: slot 109 := Op.convert 43 9 t108
                refine fun a w hC hs => .inl ⟨?_, ?_⟩
                · rfl
                have e108 : a.tmps.getD 108 undef = .slice (some ⟨g, 0, none⟩) k c2 := hs.dep 5 _ rfl rfl
                have hcv := run_str_of (P := Try.prog) (Rd.wide (HRD.out.keep fun p hp => hC.cell hp) hC.size) 43 9 5 Try.underlying43 Try.underlying5 Try.underlying9 c2
                refine ValWp.pure (v := .string (mkS p)) (fun K' hK' => ?_) ⟨rfl, hC, Later.refl _⟩
                simp only [ValWp, execOp, Act.eval, e108]
                go_simp
                all_goals exact hK'
              · -- 7: slot 110 := Op.binOp BinOp.eql 9 t105 t109 9
                refine fun a w hC hs => .inl ⟨?_, ?_⟩
                · rfl
                have e105 : a.tmps.getD 105 undef = .string (mkS p) := hs.dep 2 _ rfl rfl
                have e109 : a.tmps.getD 109 undef = .string (mkS p) := hs.dep 6 _ rfl rfl
                refine ValWp.pure (v := .bool true) (fun K' hK' => ?_) ⟨rfl, hC, Later.refl _⟩
                simp only [ValWp, execOp, Act.eval, e105, e109]
                go_simp
                all_goals exact hK'
              · -- 8: slot 8 := Op.assign t110
                refine fun a w hC hs => .inl ⟨?_, ?_⟩
                · rfl
                have e110 : a.tmps.getD 110 undef = .bool true := hs.dep 7 _ rfl rfl
                exact ⟨e110, hC, Later.refl _⟩
            · intro a W hC hd hsz hfree hs
              obtain ⟨u103, hu103⟩ : ∃ u, u = a.tmps.getD 103 undef := ⟨_, rfl⟩
              obtain ⟨u104, hu104⟩ : ∃ u, u = a.tmps.getD 104 undef := ⟨_, rfl⟩
              obtain ⟨u105, hu105⟩ : ∃ u, u = a.tmps.getD 105 undef := ⟨_, rfl⟩
              obtain ⟨u106, hu106⟩ : ∃ u, u = a.tmps.getD 106 undef := ⟨_, rfl⟩
              obtain ⟨u107, hu107⟩ : ∃ u, u = a.tmps.getD 107 undef := ⟨_, rfl⟩
              obtain ⟨u108, hu108⟩ : ∃ u, u = a.tmps.getD 108 undef := ⟨_, rfl⟩
              obtain ⟨u109, hu109⟩ : ∃ u, u = a.tmps.getD 109 undef := ⟨_, rfl⟩
              obtain ⟨u110, hu110⟩ : ∃ u, u = a.tmps.getD 110 undef := ⟨_, rfl⟩
              have hal : AllAt a 0 [_, _, _, _, _, _, _, _, .bool true, _, _, _, _, _, _, _, _, _, _, _, _, _, _, _, _, _, _, _, _, _, _, _, _, _, _, _, _, _, _, _, _, _, _, _, _, _, _, _, _, _, _, _, _, _, _, _, _, _, _, _, _, _, _, _, _, _, _, _, _, _, _, _, _, _, _, _, _, _, _, _, _, _, _, _, _, _, _, _, _, _, _, _, _, _, _, _, _, _, _, _, _, _, _, u103, u104, u105, u106, u107, u108, u109, u110] := ⟨hfree 0 rfl, hfree 1 rfl, hfree 2 rfl, hfree 3 rfl, hfree 4 rfl, hfree 5 rfl, hfree 6 rfl, hfree 7 rfl, hs 8 _ rfl, hfree 9 rfl, hfree 10 rfl, hfree 11 rfl, hfree 12 rfl, hfree 13 rfl, hfree 14 rfl, hfree 15 rfl, hfree 16 rfl, hfree 17 rfl, hfree 18 rfl, hfree 19 rfl, hfree 20 rfl, hfree 21 rfl, hfree 22 rfl, hfree 23 rfl, hfree 24 rfl, hfree 25 rfl, hfree 26 rfl, hfree 27 rfl, hfree 28 rfl, hfree 29 rfl, hfree 30 rfl, hfree 31 rfl, hfree 32 rfl, hfree 33 rfl, hfree 34 rfl, hfree 35 rfl, hfree 36 rfl, hfree 37 rfl, hfree 38 rfl, hfree 39 rfl, hfree 40 rfl, hfree 41 rfl, hfree 42 rfl, hfree 43 rfl, hfree 44 rfl, hfree 45 rfl, hfree 46 rfl, hfree 47 rfl, hfree 48 rfl, hfree 49 rfl, hfree 50 rfl, hfree 51 rfl, hfree 52 rfl, hfree 53 rfl, hfree 54 rfl, hfree 55 rfl, hfree 56 rfl, hfree 57 rfl, hfree 58 rfl, hfree 59 rfl, hfree 60 rfl, hfree 61 rfl, hfree 62 rfl, hfree 63 rfl, hfree 64 rfl, hfree 65 rfl, hfree 66 rfl, hfree 67 rfl, hfree 68 rfl, hfree 69 rfl, hfree 70 rfl, hfree 71 rfl, hfree 72 rfl, hfree 73 rfl, hfree 74 rfl, hfree 75 rfl, hfree 76 rfl, hfree 77 rfl, hfree 78 rfl, hfree 79 rfl, hfree 80 rfl, hfree 81 rfl, hfree 82 rfl, hfree 83 rfl, hfree 84 rfl, hfree 85 rfl, hfree 86 rfl, hfree 87 rfl, hfree 88 rfl, hfree 89 rfl, hfree 90 rfl, hfree 91 rfl, hfree 92 rfl, hfree 93 rfl, hfree 94 rfl, hfree 95 rfl, hfree 96 rfl, hfree 97 rfl, hfree 98 rfl, hfree 99 rfl, hfree 100 rfl, hfree 101 rfl, hfree 102 rfl, hu103.symm, hu104.symm, hu105.symm, hu106.symm, hu107.symm, hu108.symm, hu109.symm, hu110.symm, trivial⟩
              have hlit := fun h => act_lit hd h hal
              rw [hlit hsz]
              simp only [Array.getD_eq_getD_getElem?, List.getElem?_toArray, List.getElem?_cons_zero, List.getElem?_cons_succ, Option.getD_some]
              clear hlit hal hd hsz hfree hs hu103 hu104 hu105 hu106 hu107 hu108 hu109 hu110
              have HLL := Lib.hid (Later.trans HEND.out hC)
              clear hC
              go_wp2
              go_ret
              exact ⟨rfl, HLL.out⟩
  · rw [decide_eq_false hf] at HB
    clear h hx hr hl16 hrx hq hf
    go_enter Try.func4, Try.ntmps4
    go_wp2_with (first
      | (refine wpList_boxO rfl 40 (.tmp 0) rfl _ rfl ?_; intro w1 hb1 hl1 hs1; obtain ⟨ha1, hld1⟩ := HB.out w1 hb1 hl1; (have HL1 := Lib.hid hl1); (have HLD := Lib.hid hld1); (have HFW := Lib.hid ha1); clear hb1 hl1 hs1 ha1 hld1)
      | (go_at_call 7; (with_reducible refine (awake_v _).mono ?_); rintro e w2 ⟨rfl, hl2⟩; (have HL2 := Lib.hid hl2); clear hl2)
      | (refine wpList_loadRun rfl 40 (.tmp 4) rfl _ _ rfl (HLD.out _ HL2.out) ?_)
      | (go_at_call 8; (with_reducible refine (HFW.out _ HL2.out).mono ?_); rintro e w3 ⟨rfl, hl3⟩; (have HL3 := Lib.hid (HL2.out.trans hl3)); clear hl3))
    go_ret
    exact ⟨rfl, HL1.out.trans HL3.out⟩
end Ks
end Go.Proofs.Yteljmlodbnfhbaa
/- Krw -/
namespace Go.Proofs.Yteljmlodbnfhbaa
open Go.RowKit Go.ChangeShapes Go.WideShapes
namespace Ks
section
variable {H : Type} {enc : TypeId × Value → H} {w : World} {base : Nat} {spare : Nat → Bool} {held : Bool} {P : Program}
theorem nats16_of : ∀ zs : List Int, (∀ n ∈ zs, (Lit.int .u16 n).wf = true) → ∃ l : List Nat, zs.map (Value.int .u16) = l.map n16 ∧ ∀ x ∈ l, x < 65536
  | [], _ => ⟨[], rfl, by simp⟩
  | z :: zs, h => by
    obtain ⟨bs, hb, hc⟩ := nats16_of zs fun n hn => h n (List.mem_cons_of_mem _ hn)
    have hz := bounds_u16 (h z (List.mem_cons_self ..))
    refine ⟨z.toNat :: bs, ?_, ?_⟩
    · simp only [List.map_cons, hb, n16]
      congr 2
      omega
    · intro x hx
      rcases List.mem_cons.1 hx with rfl | hx
      · omega
      · exact hc x hx
theorem rd_u16s {t e : TypeId} {a : Option Addr} {len cap : Nat} {d : DataW H} {p : List MemPlace} (ht : P.underlying t = some (.slice e)) (he : P.underlying e = some (.int .u16)) (hc : P.cellsOf e = 1)
    (h : DataW.Trod enc P w base spare held t (.slice a len cap) d p) : ∃ l : List Nat, Rd w w.heap.size a len (l.map n16) ∧ (∀ x ∈ l, x < 65536) ∧ len ≤ cap ∧ cap ≤ maxLen := by
  obtain ⟨zs, h1, h2, h3⟩ := rd_ints ht he hc h
  obtain ⟨bs, hb, hx⟩ := nats16_of zs h2
  exact ⟨bs, hb ▸ h1, hx, h3⟩
end
end Ks
namespace stateReads
theorem walk (W : World) (s : Ks.St) (cs : Array Value) (h : Ks.stR.C W W.heap.size cs.toList s) (hx : (Ks.stC.put s).length ≤ 10 * 1048576) (A : Option Addr) (m c : Nat) (l : List Nat) (hr : Rd W W.heap.size A m (l.map Ks.n16) ∧ (∀ x ∈ l, x < 65536) ∧ m ≤ c ∧ c ≤ maxLen) (A' : Option Addr) (mx cx : Nat) (xs : List UInt8) (hrx : Rd W W.heap.size A' mx (xs.map bv) ∧ mx ≤ cx ∧ cx ≤ maxLen) (q : Int) (hw : (Lit.int .u16 q).wf = true) :
    Calls Try.prog 4 #[.agg cs, .slice A m c, .slice A' mx cx, .int .u16 q] W fun e W' => e = .returned (.bool true) ∧ Below W.heap.size W W' := by
  have hq := bounds_u16 hw
  obtain ⟨k, rfl⟩ := Int.eq_ofNat_of_zero_le hq.1
  exact Ks.reads_law s cs.toList W h (by omega) A m c l hr.1 hr.2.1 A' mx cx xs hrx.1 k (by omega)
end stateReads
end Go.Proofs.Yteljmlodbnfhbaa
/- KrP -/
namespace Go.Proofs.Yteljmlodbnfhbaa
namespace stateReads
open Go.ChangeShapes Go.WideShapes Go.ChangeAt Go.RowKit
open Go.ChangeMaps (open_string shut_string)
theorem own : ownKnob Try.prog.godebug = none := by kernel_rfl
theorem laidOut : laidOutB Try.prog = true := by kernel_rfl
set_option maxRecDepth 100000 in
theorem contract (H : Type) (enc : TypeId × Value → H) (W : World) (base : Nat) (args : Array Value) (ds gs : List (DataW H)) (before : List MemPlace)
    (hval0 : ∀ (j : Nat) t v, Try.f4.params[j]? = some t → args[j]? = some v → Value.okWide Try.prog W .any base t v)
    (hW : DataW.Whole enc Try.prog Try.f4.params.toList Rows.stateReadsSpec.vars false W args.toList ds gs before) (hk : Rows.uptoSmall H (ds ++ gs) = true) :
    Calls Try.prog 4 args W fun e W' => ∃ v, e = .returned v ∧ Rows.stateReadsSpec.post enc Try.prog Try.f4 false true false false W args v W' := by
  have hval : ∀ (j : Nat) t v, Try.f4.params[j]? = some t → args[j]? = some v → Value.okWide Try.prog W .any base t v := hval0
  have hW' := hW
  obtain ⟨p, q, hA0, hV, rfl, hfz, hnd⟩ := hW
  have hA : DataW.TrodAll enc Try.prog W 0 (fun _ => true) true Try.f4.params.toList args.toList ds p := hA0
  rw [Try.params4] at hA hval
  obtain ⟨v0, vs0, d0, ds0, p0, q0, hargs, rfl, rfl, h0, r0⟩ := trodAll_cons hA
  obtain ⟨v1, vs1, d1, ds1, p1, q1, rfl, rfl, rfl, h1, r1⟩ := trodAll_cons r0
  obtain ⟨v2, vs2, d2, ds2, p2, q2, rfl, rfl, rfl, h2, r2⟩ := trodAll_cons r1
  obtain ⟨v3, vs3, d3, ds3, p3, q3, rfl, rfl, rfl, h3, r3⟩ := trodAll_cons r2
  obtain ⟨rfl, rfl, rfl⟩ := trodAll_nil r3
  obtain rfl : args = #[v0, v1, v2, v3] := by cases args; simp_all
  obtain ⟨rfl, rfl⟩ := trodVars_none hV
  have hkk := bulk_bound hk
  have k0 := h0
  have lt0 : ∀ x ∈ p0, x.block < W.heap.size := by obtain ⟨m, hm⟩ := k0; exact DataW.trod_lt m _ _ _ hm
  have k1 := h1
  have lt1 : ∀ x ∈ p1, x.block < W.heap.size := by obtain ⟨m, hm⟩ := k1; exact DataW.trod_lt m _ _ _ hm
  have k2 := h2
  have lt2 : ∀ x ∈ p2, x.block < W.heap.size := by obtain ⟨m, hm⟩ := k2; exact DataW.trod_lt m _ _ _ hm
  have k3 := h3
  have lt3 : ∀ x ∈ p3, x.block < W.heap.size := by obtain ⟨m, hm⟩ := k3; exact DataW.trod_lt m _ _ _ hm
  obtain ⟨cs0, rfl, hz0⟩ := okWide_struct Try.underlying40 (hval 0 40 v0 rfl rfl)
  obtain ⟨a0, w0, z0⟩ := Ks.rd_state h0
  have u0 := Nat.le_trans z0 (Nat.mul_le_mul_left 10 (Nat.le_trans (bulk_part (by simp)) hkk))
  obtain ⟨A1, n1, c1, rfl⟩ := okWide_slice Try.underlying62 (hval 1 62 v1 rfl rfl)
  obtain ⟨a1, w1⟩ := Ks.rd_u16s Try.underlying62 Try.underlying63 (by kernel_rfl) h1
  obtain ⟨A2, n2, c2, rfl⟩ := okWide_slice Try.underlying43 (hval 2 43 v2 rfl rfl)
  obtain ⟨a2, w2⟩ := rd_bytes Try.underlying43 Try.underlying5 (by kernel_rfl) h2
  obtain ⟨a3, rfl, rfl, rfl, w3⟩ := open_int Try.underlying63 (hval 3 63 v3 rfl rfl) h3
  clear hA0 hval0
  refine (walk W a0 cs0 w0 u0 A1 n1 c1 a1 w1 A2 n2 c2 a2 w2 a3 w3).mono fun e W' ⟨he, bel⟩ => ?_
  subst he
  exact ⟨_, rfl, _, _, _, [], _, [], hW', trodAll_mk1 (shut_bool Try.underlying4 _), (trodAll_cons_mk (Below.trod laidOut (by kernel_rfl) (of_decide_eq_true (by kernel_rfl)) k0 bel lt0) (trodAll_cons_mk (Below.trod laidOut (by kernel_rfl) (of_decide_eq_true (by kernel_rfl)) k1 bel lt1) (trodAll_cons_mk (Below.trod laidOut (by kernel_rfl) (of_decide_eq_true (by kernel_rfl)) k2 bel lt2) (trodAll_cons_mk (Below.trod laidOut (by kernel_rfl) (of_decide_eq_true (by kernel_rfl)) k3 bel lt3) trodAll_mk0)))), rfl, bel.frame _, fun h => by cases h⟩
set_option maxRecDepth 100000 in
theorem lifted (os : Os) (started : os.Started) (H : Type) (enc : TypeId × Value → H) (F : Stop.Interp) :
    ReturnsInHanded {} Try.checked os 4 .any ((Rows.OpenSpec.upto Rows.stateReadsSpec).pre6 enc Try.prog Try.f4 Rows.stateReadsUptoRow.domain false) (((Rows.OpenSpec.upto Rows.stateReadsSpec).at F).post enc Try.prog Try.f4 false true false false) := by
  refine returnsInHanded_of_cond (C := Try.checked) (s := Rows.OpenSpec.upto Rows.stateReadsSpec) (k := Rows.uptoSmall) rfl own started (by kernel_rfl) Try.func4
    (OpenSpec.witness (enc := enc) (C := Try.checked) (s := Rows.OpenSpec.upto Rows.stateReadsSpec) (k := Rows.uptoSmall) rfl false ⟨#[], #[.agg #[.slice none 0 0, .slice none 0 0, .int .i64 0, .string ByteArray.empty, .slice none 0 0, .slice none 0 0, .slice none 0 0, .slice none 0 0, .slice none 0 0, .int .i64 0, .int .i64 0, .int .i64 0, .string ByteArray.empty, .slice none 0 0, .int .i64 0, .int .i64 0, .int .i64 0, .int .i64 0, .string ByteArray.empty, .slice none 0 0, .int .i64 0, .slice none 0 0, .int .i64 0, .int .i64 0, .int .i64 0, .bool false, .bool false, .bool false, .int .i64 0], .slice none 0 0, .slice none 0 0, .int .u16 0], []⟩ 8 (by kernel_rfl) (by kernel_rfl) (by kernel_rfl)
      (x := ([.agg [.agg [.agg [.nil, .nil, .lit (.int .i64 0), .lit (.string [])], .nil, .nil, .nil], .nil, .nil, .agg [.lit (.int .i64 0), .lit (.int .i64 0), .lit (.int .i64 0), .lit (.string []), .nil], .agg [.lit (.int .i64 0), .lit (.int .i64 0), .lit (.int .i64 0), .lit (.int .i64 0), .lit (.string []), .nil, .lit (.int .i64 0)], .nil, .lit (.int .i64 0), .lit (.int .i64 0), .lit (.int .i64 0), .lit (.bool false), .lit (.bool false), .lit (.bool false), .lit (.int .i64 0)], .nil, .nil, .lit (.int .u16 0)], [], [])) (by kernel_rfl) rfl (by kernel_rfl)) ?_
  intro W base args ds gs before hval0 hW _ hk _
  exact contract H enc W base args ds gs before hval0 hW hk
theorem proved : Rows.StateReadsUptoSaid :=
  OpenClaim.holds_of_cond 4 Try.f4 rfl rfl rfl rfl rfl rfl rfl ⟨rfl, rfl, rfl, rfl, rfl⟩ rfl rfl rfl rfl rfl (by kernel_rfl) Try.func4 (by kernel_rfl)
    (of_decide_eq_true (by kernel_rfl)) (by unfold Func.isWrapper; first | (rw [if_pos (by decide +kernel)]; kernel_rfl) | (rw [if_neg (by decide +kernel)]; exact ⟨rfl, rfl⟩))
    (fun os started H enc _ F => lifted os started H enc F)
end stateReads
end Go.Proofs.Yteljmlodbnfhbaa
