/- Rows of answers in memory; law 5's same: rows that read alike are the same. -/
import Derived.Test.YtemokpnepnmmkaaMn
import Derived.Test.YtemokpnepnmmkaaMe
import Derived.Test.YtemokpnepnmmkaaMd
import Derived.Deep.Slices
namespace Go.Proofs.Ytemokpnepnmmkaa
open Go.RowKit
structure Ans where
  k : Int
  e : Int
  n : Int
  m : Int
  t : List UInt8
  l : List (List UInt8)
  s : Int
/-- The cells of an answer whose row of texts lies at A. -/
def Ans.cs (a : Ans) (A : Option Addr) (c : Nat) : Array Value := #[.int .i64 a.k, .int .i64 a.e, .int .i64 a.n, .int .i64 a.m, .string (mkS a.t), .slice A a.l.length c, .int .i64 a.s]
/-- An answer lies at ad, as its cells; its row of texts below block B. -/
structure AnsAt (w : World) (B : Nat) (ad : Addr) (a : Ans) (A : Option Addr) (c : Nat) : Prop where
  low : ad.block < B
  c0 : w.cell? ad = some (.int .i64 a.k)
  c1 : w.cell? ⟨ad.block, ad.off + 1, none⟩ = some (.int .i64 a.e)
  c2 : w.cell? ⟨ad.block, ad.off + 2, none⟩ = some (.int .i64 a.n)
  c3 : w.cell? ⟨ad.block, ad.off + 3, none⟩ = some (.int .i64 a.m)
  c4 : w.cell? ⟨ad.block, ad.off + 4, none⟩ = some (.string (mkS a.t))
  c5 : w.cell? ⟨ad.block, ad.off + 5, none⟩ = some (.slice A a.l.length c)
  c6 : w.cell? ⟨ad.block, ad.off + 6, none⟩ = some (.int .i64 a.s)
  row : Rd w B A a.l.length (a.l.map sv)
  most : a.l.length ≤ maxLen
theorem AnsAt.keep {w w' : World} {B : Nat} {ad : Addr} {a : Ans} {A : Option Addr} {c : Nat} (h : AnsAt w B ad a A c) (hk : ∀ p : Addr, p.block < B → w'.cell? p = w.cell? p) : AnsAt w' B ad a A c := by
  have hb : ∀ i : Nat, (⟨ad.block, ad.off + i, none⟩ : Addr).block < B := fun _ => h.low
  exact ⟨h.low, (hk _ h.low).trans h.c0, (hk _ (hb 1)).trans h.c1, (hk _ (hb 2)).trans h.c2, (hk _ (hb 3)).trans h.c3, (hk _ (hb 4)).trans h.c4, (hk _ (hb 5)).trans h.c5, (hk _ (hb 6)).trans h.c6, h.row.keep hk, h.most⟩
theorem AnsAt.more {w : World} {B B' : Nat} {ad : Addr} {a : Ans} {A : Option Addr} {c : Nat} (h : AnsAt w B ad a A c) (hB : B ≤ B') : AnsAt w B' ad a A c :=
  ⟨Nat.lt_of_lt_of_le h.low hB, h.c0, h.c1, h.c2, h.c3, h.c4, h.c5, h.c6, h.row.more hB, h.most⟩
/-- A slice of answers that reads as xs; what it leads to lies below block B. -/
def RdA (w : World) (B : Nat) (A : Option Addr) (n : Nat) (xs : List Ans) : Prop :=
  xs.length = n ∧ ∀ (j : Nat) (h : j < xs.length), ∃ ad A' c', A = some ad ∧ AnsAt w B (ad.add (j * 7)) xs[j] A' c'
theorem RdA.keep {w w' : World} {B n : Nat} {A : Option Addr} {xs : List Ans} (h : RdA w B A n xs) (hk : ∀ p : Addr, p.block < B → w'.cell? p = w.cell? p) : RdA w' B A n xs := by
  refine ⟨h.1, fun j hj => ?_⟩
  obtain ⟨ad, A', c', e, h1⟩ := h.2 j hj
  exact ⟨ad, A', c', e, h1.keep hk⟩
theorem RdA.below {w w' : World} {B n : Nat} {A : Option Addr} {xs : List Ans} (h : RdA w B A n xs) (hb : Below B w w') : RdA w' B A n xs := h.keep fun _ hp => hb.cell hp
theorem RdA.more {w : World} {B B' n : Nat} {A : Option Addr} {xs : List Ans} (h : RdA w B A n xs) (hB : B ≤ B') : RdA w B' A n xs := by
  refine ⟨h.1, fun j hj => ?_⟩
  obtain ⟨ad, A', c', e, h1⟩ := h.2 j hj
  exact ⟨ad, A', c', e, h1.more hB⟩
theorem RdA.later {w w' : World} {n : Nat} {A : Option Addr} {xs : List Ans} (h : RdA w w.heap.size A n xs) (hl : Later w w') : RdA w' w'.heap.size A n xs := (h.below hl).more hl.size
theorem RdA.take {w : World} {B n k : Nat} {A : Option Addr} {xs : List Ans} (h : RdA w B A n xs) (hk : k ≤ n) : RdA w B A k (xs.take k) := by
  refine ⟨by rw [List.length_take, h.1]; omega, fun j hj => ?_⟩
  rw [List.length_take] at hj
  obtain ⟨ad, A', c', e, h1⟩ := h.2 j (by omega)
  rw [List.getElem_take]
  exact ⟨ad, A', c', e, h1⟩
theorem sameA_self (k e n m s : Int) (t : List UInt8) (l : List (List UInt8)) : sameA k e n m s k e n m s t t l l = true := decide_eq_true ⟨rfl, rfl, rfl, rfl, rfl, rfl, rfl⟩
set_option maxRecDepth 100000 in
theorem same_v (A A' : Option Addr) (n c c' : Nat) (xs : List Ans) (w : World) (hr : RdA w w.heap.size A n xs) (hr' : RdA w w.heap.size A' n xs) (hn : n ≤ maxLen) :
    Calls Try.prog 20 #[.slice A n c, .slice A' n c'] w fun e w' => e = .returned (.bool true) ∧ Later w w' := by
  unfold maxLen at hn
  have HR := Lib.hid hr
  have HR' := Lib.hid hr'
  have HL := Lib.hid hr.1
  clear hr hr'
  go_enter Try.func20, Try.ntmps20
  go_wp2
  go_loopw [5] (fun i wr => ∃ k : Nat, k ≤ n ∧ i = .int .i64 (k : Int) ∧ Later w wr) (fun i _ => n - (intOf i).toNat)
  case atStart => exact ⟨0, by omega, rfl, Later.refl _⟩
  case round =>
    obtain ⟨k, hk, rfl, hb⟩ := hrel
    have HB := Lib.hid hb
    clear hb
    by_cases hlt : k < n
    · obtain ⟨ad, A1, c1, rfl, h1⟩ := (HR.out.later HB.out).2 k (by have := HL.out; omega)
      obtain ⟨ad', A2, c2, rfl, h2⟩ := (HR'.out.later HB.out).2 k (by have := HL.out; omega)
      obtain ⟨x, hx⟩ : ∃ x, x = xs[k]'(by have := HL.out; omega) := ⟨_, rfl⟩
      rw [← hx] at h1 h2
      have H1 := Lib.hid h1
      have H2 := Lib.hid h2
      have hk0 : (0 : Int) ≤ (k : Int) := by omega
      have hk1 : (k : Int) < (n : Int) := by omega
      clear h1 h2 hx
      have cs := fun W (h : Later wr W) => refSameA_v x.k x.e x.n x.m x.s x.k x.e x.n x.m x.s x.t x.t A1 A2 x.l.length c1 x.l.length c2 x.l x.l W (rd_later H1.out.row h) (rd_later H2.out.row h) H1.out.most H2.out.most
      rw [sameA_self] at cs
      have CS := Lib.hid cs
      clear cs
      go_wp2
      refine wp_region_owes (by kernel_rfl) (fun W => Later wr W) (Later) (Later.refl) [Sp.val (.slice (some ad) n c), Sp.val (.int .i64 (k : Int)), Sp.val (.pointer (some (ad.add (k * 7)))), Sp.val ((ansV x.k x.e x.n x.m x.t A1 x.l.length c1 x.s)), Sp.val (.slice (some ad') n c'), Sp.val (.int .i64 (k : Int)), Sp.val ((.pointer (some (ad'.add (k * 7))))), Sp.val ((ansV x.k x.e x.n x.m x.t A2 x.l.length c2 x.s)), Sp.val (.bool true), Sp.val (.bool true)] (by kernel_rfl) (Later.drew wr) ?_ ?_
      · refine ⟨?_, ?_, ?_, ?_, ?_, ?_, ?_, ?_, ?_, ?_, trivial⟩
        · -- 0: slot 18 := Op.move t0
          refine fun a w hC hs => .inl ⟨?_, ?_⟩
          · rfl
          have e0 : a.tmps.getD 0 undef = .slice (some ad) n c := hs.free 0 rfl
          exact ⟨e0, hC, Later.refl _⟩
        · -- 1: slot 19 := Op.move t5
          refine fun a w hC hs => .inl ⟨?_, ?_⟩
          · rfl
          have e5 : a.tmps.getD 5 undef = .int .i64 (k : Int) := hs.free 5 rfl
          exact ⟨e5, hC, Later.refl _⟩
        · -- 2: slot 20 := Op.indexAddr 22 t18 t19
          refine fun a w hC hs => .inl ⟨?_, ?_⟩
          · rfl
          have e18 : a.tmps.getD 18 undef = .slice (some ad) n c := hs.dep 0 _ rfl rfl
          have e19 : a.tmps.getD 19 undef = .int .i64 (k : Int) := hs.dep 1 _ rfl rfl
          refine ValWp.pure (v := .pointer (some (ad.add (k * 7)))) (fun K' hK' => ?_) ⟨rfl, hC, Later.refl _⟩
          simp only [ValWp, execOp, Act.eval, e18, e19]
          go_simp
          all_goals exact hK'
        · -- 3: slot 21 := Op.load 34 t20
          refine fun a w hC hs => .inl ⟨?_, ?_⟩
          · rfl
          have e20 : a.tmps.getD 20 undef = .pointer (some (ad.add (k * 7))) := hs.dep 2 _ rfl rfl
          have hz := H1.out.keep fun p hp => Below.cell hC hp
          obtain ⟨_, q0, q1, q2, q3, q4, q5, q6, _, _⟩ := hz
          refine ValWp.pure (v := (ansV x.k x.e x.n x.m x.t A1 x.l.length c1 x.s)) (fun K' hK' => ?_) ⟨rfl, hC, Later.refl _⟩
          simp only [ValWp, execOp, Act.eval, e20]
          go_simp
          all_goals exact hK'
        · -- 4: slot 22 := Op.move t1
          refine fun a w hC hs => .inl ⟨?_, ?_⟩
          · rfl
          have e1 : a.tmps.getD 1 undef = .slice (some ad') n c' := hs.free 1 rfl
          exact ⟨e1, hC, Later.refl _⟩
        · -- 5: slot 23 := Op.move t5
          refine fun a w hC hs => .inl ⟨?_, ?_⟩
          · rfl
          have e5 : a.tmps.getD 5 undef = .int .i64 (k : Int) := hs.free 5 rfl
          exact ⟨e5, hC, Later.refl _⟩
        · -- 6: slot 24 := Op.indexAddr 22 t22 t23
          refine fun a w hC hs => .inl ⟨?_, ?_⟩
          · rfl
          have e22 : a.tmps.getD 22 undef = .slice (some ad') n c' := hs.dep 4 _ rfl rfl
          have e23 : a.tmps.getD 23 undef = .int .i64 (k : Int) := hs.dep 5 _ rfl rfl
          refine ValWp.pure (v := (.pointer (some (ad'.add (k * 7))))) (fun K' hK' => ?_) ⟨rfl, hC, Later.refl _⟩
          simp only [ValWp, execOp, Act.eval, e22, e23]
          go_simp
          all_goals exact hK'
        · -- 7: slot 25 := Op.load 34 t24
          refine fun a w hC hs => .inl ⟨?_, ?_⟩
          · rfl
          have e24 : a.tmps.getD 24 undef = (.pointer (some (ad'.add (k * 7)))) := hs.dep 6 _ rfl rfl
          have hz := H2.out.keep fun p hp => Below.cell hC hp
          obtain ⟨_, q0, q1, q2, q3, q4, q5, q6, _, _⟩ := hz
          refine ValWp.pure (v := (ansV x.k x.e x.n x.m x.t A2 x.l.length c2 x.s)) (fun K' hK' => ?_) ⟨rfl, hC, Later.refl _⟩
          simp only [ValWp, execOp, Act.eval, e24]
          go_simp
          all_goals exact hK'
        · -- 8: slot 26 := Op.call { value (Operand.func 37), args := #[t21, t25], argTypes := #[34, 34] }
          refine fun a w hC hs => .inl ⟨?_, ?_⟩
          · rfl
          have e21 : a.tmps.getD 21 undef = (ansV x.k x.e x.n x.m x.t A1 x.l.length c1 x.s) := hs.dep 3 _ rfl rfl
          have e25 : a.tmps.getD 25 undef = (ansV x.k x.e x.n x.m x.t A2 x.l.length c2 x.s) := hs.dep 7 _ rfl rfl
          refine ValWp.call #[(ansV x.k x.e x.n x.m x.t A1 x.l.length c1 x.s), (ansV x.k x.e x.n x.m x.t A2 x.l.length c2 x.s)] rfl rfl Try.func37 rfl rfl (by simp only [List.map_toArray, List.map_cons, List.map_nil, Act.eval, e21, e25]) ?_
          refine (CS.out w hC).mono ?_
          rintro r w' ⟨rfl, hb⟩
          exact ⟨_, rfl, rfl, Later.trans hC hb, hb⟩
        · -- 9: slot 6 := Op.assign t26
          refine fun a w hC hs => .inl ⟨?_, ?_⟩
          · rfl
          have e26 : a.tmps.getD 26 undef = .bool true := hs.dep 8 _ rfl rfl
          exact ⟨e26, hC, Later.refl _⟩
      · intro a W hC hd hsz hfree hs
        obtain ⟨u4, hu4⟩ : ∃ u, u = a.tmps.getD 4 undef := ⟨_, rfl⟩
        obtain ⟨u12, hu12⟩ : ∃ u, u = a.tmps.getD 12 undef := ⟨_, rfl⟩
        obtain ⟨u13, hu13⟩ : ∃ u, u = a.tmps.getD 13 undef := ⟨_, rfl⟩
        obtain ⟨u14, hu14⟩ : ∃ u, u = a.tmps.getD 14 undef := ⟨_, rfl⟩
        obtain ⟨u15, hu15⟩ : ∃ u, u = a.tmps.getD 15 undef := ⟨_, rfl⟩
        obtain ⟨u16, hu16⟩ : ∃ u, u = a.tmps.getD 16 undef := ⟨_, rfl⟩
        obtain ⟨u17, hu17⟩ : ∃ u, u = a.tmps.getD 17 undef := ⟨_, rfl⟩
        obtain ⟨u18, hu18⟩ : ∃ u, u = a.tmps.getD 18 undef := ⟨_, rfl⟩
        obtain ⟨u19, hu19⟩ : ∃ u, u = a.tmps.getD 19 undef := ⟨_, rfl⟩
        obtain ⟨u20, hu20⟩ : ∃ u, u = a.tmps.getD 20 undef := ⟨_, rfl⟩
        obtain ⟨u21, hu21⟩ : ∃ u, u = a.tmps.getD 21 undef := ⟨_, rfl⟩
        obtain ⟨u22, hu22⟩ : ∃ u, u = a.tmps.getD 22 undef := ⟨_, rfl⟩
        obtain ⟨u23, hu23⟩ : ∃ u, u = a.tmps.getD 23 undef := ⟨_, rfl⟩
        obtain ⟨u24, hu24⟩ : ∃ u, u = a.tmps.getD 24 undef := ⟨_, rfl⟩
        obtain ⟨u25, hu25⟩ : ∃ u, u = a.tmps.getD 25 undef := ⟨_, rfl⟩
        obtain ⟨u26, hu26⟩ : ∃ u, u = a.tmps.getD 26 undef := ⟨_, rfl⟩
        obtain ⟨u27, hu27⟩ : ∃ u, u = a.tmps.getD 27 undef := ⟨_, rfl⟩
        obtain ⟨u28, hu28⟩ : ∃ u, u = a.tmps.getD 28 undef := ⟨_, rfl⟩
        have hal : AllAt a 0 [.slice (some ad) n c, .slice (some ad') n c', undef, undef, u4, .int .i64 (k : Int), .bool true, .slice (some ad) n c, .int .i64 (n : Int), .slice (some ad') n c', .int .i64 (n : Int), .bool false, u12, u13, u14, u15, u16, u17, u18, u19, u20, u21, u22, u23, u24, u25, u26, u27, u28] := ⟨hfree 0 rfl, hfree 1 rfl, hfree 2 rfl, hfree 3 rfl, hu4.symm, hfree 5 rfl, hs 9 _ rfl, hfree 7 rfl, hfree 8 rfl, hfree 9 rfl, hfree 10 rfl, hfree 11 rfl, hu12.symm, hu13.symm, hu14.symm, hu15.symm, hu16.symm, hu17.symm, hu18.symm, hu19.symm, hu20.symm, hu21.symm, hu22.symm, hu23.symm, hu24.symm, hu25.symm, hu26.symm, hu27.symm, hu28.symm, trivial⟩
        have hlit := fun h => act_lit hd h hal
        rw [hlit hsz]
        clear hlit hal hd hsz hfree hs hu4 hu12 hu13 hu14 hu15 hu16 hu17 hu18 hu19 hu20 hu21 hu22 hu23 hu24 hu25 hu26 hu27 hu28

        go_wp2
        go_roundw
        case rel => exact ⟨k + 1, by omega, by go_num, Later.trans HB.out hC⟩
        case measure => simp [intOf]; omega
    · go_wp2
      go_ret
      exact ⟨rfl, HB.out⟩
end Go.Proofs.Ytemokpnepnmmkaa
/- Law 5's few: which answers are few, and short. -/
namespace Go.Proofs.Ytemokpnepnmmkaa
open Go.RowKit
def shortA (x : Ans) : Bool := decide (x.l.length ≤ 20 ∧ x.t.length ≤ 300) && x.l.all (fun r => decide (r.length ≤ 100))
def fewA (n : Nat) (xs : List Ans) : Bool := xs.all shortA && decide (n ≤ 40)
theorem fewA_no {n : Nat} {xs : List Ans} {k : Nat} (hk : k < xs.length) (h : shortA xs[k] = false) : fewA n xs = false := by
  unfold fewA
  rw [Bool.and_eq_false_iff]
  left
  rw [List.all_eq_false]
  exact ⟨_, List.getElem_mem hk, by simp [h]⟩
theorem fewA_yes {n : Nat} {xs : List Ans} (h : fewA n xs = true) : n ≤ 40 ∧ ∀ x ∈ xs, x.l.length ≤ 20 ∧ x.t.length ≤ 300 ∧ ∀ r ∈ x.l, r.length ≤ 100 := by
  unfold fewA at h
  rw [Bool.and_eq_true, List.all_eq_true] at h
  refine ⟨of_decide_eq_true h.2, fun x hx => ?_⟩
  have h1 := h.1 x hx
  unfold shortA at h1
  rw [Bool.and_eq_true, List.all_eq_true] at h1
  have h2 := of_decide_eq_true h1.1
  exact ⟨h2.1, h2.2, fun r hr => of_decide_eq_true (h1.2 r hr)⟩
set_option maxRecDepth 100000 in
set_option maxHeartbeats 1000000 in
theorem fewA_v (A : Option Addr) (n cap : Nat) (xs : List Ans) (w : World) (hr : RdA w w.heap.size A n xs) (hn : n ≤ maxLen) :
    Calls Try.prog 9 #[.slice A n cap] w fun e w' => e = .returned (.bool (fewA n xs)) ∧ w = w' := by
  unfold maxLen at hn
  have HR := Lib.hid hr
  have HL := Lib.hid hr.1
  clear hr
  go_enter Try.func9, Try.ntmps9
  go_wp2
  go_loop [3] (fun i => ∃ k : Nat, k ≤ n ∧ i = .int .i64 (k : Int) ∧ ∀ (j : Nat) (h : j < xs.length), j < k → shortA xs[j] = true) (fun i => n - (intOf i).toNat)
  case atStart => exact ⟨0, by omega, rfl, fun j _ h => by omega⟩
  case round =>
    obtain ⟨k, hk, rfl, hall⟩ := hrel
    have HALL := Lib.hid hall
    clear hall
    by_cases hkn : k < n
    · have hkx : k < xs.length := by have := HL.out; omega
      obtain ⟨ad, A1, c1, rfl, h1⟩ := HR.out.2 k hkx
      obtain ⟨x, hx⟩ : ∃ x, x = xs[k]'hkx := ⟨_, rfl⟩
      rw [← hx] at h1
      have hc4 := h1.c4
      have hc5 := h1.c5
      have HROW := Lib.hid h1.row
      have HX := Lib.hid hx
      have HKX := Lib.hid hkx
      have hno : shortA x = false → fewA n xs = false := fun h => fewA_no hkx (by rw [← hx]; exact h)
      have HNO := Lib.hid hno
      have hz := mkS_size x.t
      obtain ⟨z, hzz⟩ : ∃ z, z = x.t.length := ⟨_, rfl⟩
      rw [← hzz] at hz
      have HZ := Lib.hid hzz
      have hrl : x.l.length ≤ 9223372036854775807 := h1.most
      clear h1 hx hno hzz
      by_cases h20 : 20 < x.l.length
      · have hf := HNO.out (by unfold shortA; rw [Bool.and_eq_false_iff]; left; exact decide_eq_false (by omega))
        have HF := Lib.hid hf
        clear hf
        go_wp2
        go_ret
        exact ⟨by rw [HF.out]; rfl, rfl⟩
      by_cases h300 : 300 < z
      · have hf := HNO.out (by unfold shortA; rw [Bool.and_eq_false_iff]; left; exact decide_eq_false (by have := HZ.out; omega))
        have HF := Lib.hid hf
        clear hf
        go_wp2
        go_ret
        exact ⟨by rw [HF.out]; rfl, rfl⟩
      go_wp2
      go_loop [4] (fun i => ∃ q : Nat, q ≤ x.l.length ∧ i = .int .i64 (q : Int) ∧ ∀ (j : Nat) (h : j < x.l.length), j < q → x.l[j].length ≤ 100) (fun i => x.l.length - (intOf i).toNat)
      case atStart => exact ⟨0, by omega, rfl, fun j _ h => by omega⟩
      case round =>
        obtain ⟨q, hq, rfl, hall⟩ := hrel
        have HQ := Lib.hid hall
        clear hall
        by_cases hql : q < x.l.length
        · obtain ⟨ad5, hl1, rfl, _, hc⟩ := HROW.out.at_map (k := q) hql
          obtain ⟨y, hy⟩ : ∃ y, y = x.l[q] := ⟨_, rfl⟩
          rw [← hy] at hc
          have hcy : w.cell? (ad5.add q) = some (.string (mkS y)) := hc
          have hs := mkS_size y
          obtain ⟨zz, hzz⟩ : ∃ zz, zz = y.length := ⟨_, rfl⟩
          rw [← hzz] at hs
          have HY := Lib.hid hy
          have HZZ := Lib.hid hzz
          clear hc hy hzz
          by_cases h6 : 100 < zz
          · have hf := HNO.out (by
              unfold shortA
              rw [Bool.and_eq_false_iff]
              right
              rw [List.all_eq_false]
              exact ⟨_, List.getElem_mem hl1, by rw [← HY.out, ← HZZ.out]; simp; omega⟩)
            have HF := Lib.hid hf
            clear hf
            go_wp2
            go_ret
            exact ⟨by rw [HF.out]; rfl, rfl⟩
          · go_wp2
            go_round
            case rel => exact ⟨q + 1, by omega, by go_num, fun j hj hjk => by
              by_cases e : j = q
              · subst e; rw [← HY.out, ← HZZ.out]; omega
              · exact HQ.out j hj (by omega)⟩
            case measure => simp [intOf]; omega
        · have hsx : shortA x = true := by
            unfold shortA
            rw [Bool.and_eq_true]
            refine ⟨decide_eq_true (by have := HZ.out; omega), List.all_eq_true.2 fun r hr => ?_⟩
            obtain ⟨j, hj, rfl⟩ := List.getElem_of_mem hr
            exact decide_eq_true (HQ.out j hj (by omega))
          have HSX := Lib.hid hsx
          clear hsx
          go_wp2
          go_round
          case rel => exact ⟨k + 1, by omega, by go_num, fun j hj hjk => by
            by_cases e : j = k
            · subst e; rw [← HX.out]; exact HSX.out
            · exact HALL.out j hj (by omega)⟩
          case measure => simp [intOf]; omega
    · have hf : fewA n xs = decide ((n : Int) ≤ 40) := by
        unfold fewA
        rw [List.all_eq_true.2 fun r hr => ?_, Bool.true_and, decide_eq_decide]
        · omega
        · obtain ⟨j, hj, rfl⟩ := List.getElem_of_mem hr
          exact HALL.out j hj (by have := HL.out; omega)
      have HF := Lib.hid hf
      clear hf
      go_wp2
      go_ret
      exact ⟨by rw [HF.out]; rfl, rfl⟩
end Go.Proofs.Ytemokpnepnmmkaa
/- An argument that is a slice of answers, out of its reading. No premises. -/
namespace Go.Proofs.Ytemokpnepnmmkaa
open Go.RowKit Go.ChangeShapes Go.WideShapes Go.ChangeAt Go.Deep
/-- The numbers of an answer that are written are numbers of 64 bits. -/
def okA (x : Ans) : Prop := (-9223372036854775808 ≤ x.n ∧ x.n ≤ 9223372036854775807) ∧ (-9223372036854775808 ≤ x.m ∧ x.m ≤ 9223372036854775807)
instance : Inhabited Ans := ⟨⟨0, 0, 0, 0, [], [], 0⟩⟩
section
variable {H : Type} {enc : TypeId × Value → H} {P : Program} {w : World} {base : Nat} {spare : Nat → Bool} {held : Bool}
theorem cell_fields {t : TypeId} {fs : Array Field} {cs : List Value} {fuel : Nat} {y : DataW H × List MemPlace} (hs : P.underlying t = some (.struct fs)) (hone : oneCellFields P fs = true)
    (h : DataW.trod enc P w base spare held fuel t cs = some y) :
    ∃ fuel, ∀ (i : Nat) (f : Field) (u : Value), fs[i]? = some f → cs[i]? = some u → ∃ y, DataW.trod enc P w base spare held fuel f.type [u] = some y := by
  obtain ⟨xs, n, _, _, _, hxl, hat⟩ := DataW.trod_struct hs h
  refine ⟨n, fun i f u hi hu => ?_⟩
  obtain ⟨ho, hk⟩ := hone_of hone i f hi
  have h1 := hat i f hi
  rw [ho, hk] at h1
  have hil : i < cs.length := (List.getElem?_eq_some_iff.1 hu).1
  have hu' : cs[i]'hil = u := (List.getElem?_eq_some_iff.1 hu).2
  have e : (cs.drop i).take 1 = [u] := by rw [List.drop_eq_getElem_cons hil, List.take_succ_cons, List.take_zero, hu']
  have hix : i < xs.length := by rw [hxl]; exact (Array.getElem?_eq_some_iff.1 hi).1
  exact ⟨_, (by rw [← e]; exact h1.trans (List.getElem?_eq_getElem hix))⟩
theorem add_ne (a : Addr) (i : Nat) (h : i ≠ 0) : a.add i = ⟨a.block, a.off + i, none⟩ := by unfold Addr.add; rw [if_neg h]
theorem add_0 (a : Addr) : a.add 0 = a := by unfold Addr.add; rw [if_pos rfl]
theorem mkS_self (s : ByteArray) : ∃ l, s = mkS l ∧ l.length = s.size := ⟨s.data.toList, (mkS_of s).symm, rfl⟩
theorem texts_self : ∀ l : List ByteArray, ∃ l' : List (List UInt8), l.map Value.string = l'.map sv
  | [] => ⟨[], rfl⟩
  | s :: l => by
    obtain ⟨l', h⟩ := texts_self l
    obtain ⟨t, ht, _⟩ := mkS_self s
    exact ⟨t :: l', by rw [List.map_cons, List.map_cons, h, ht]; rfl⟩
theorem rd_ans {t e ti tn ts tl es : TypeId} {fs : Array Field} {a : Option Addr} {len cap : Nat} {d : DataW H} {p : List MemPlace} (ht : P.underlying t = some (.slice e)) (he : P.underlying e = some (.struct fs)) (hone : oneCellFields P fs = true) (hC : P.cellsOf e = 7)
    (hty : fs.toList.map (·.type) = [ti, ti, tn, tn, ts, tl, ti]) (h1 : P.underlying ti = some (.int .i64)) (h2 : P.underlying tn = some (.int .i64)) (h3 : P.underlying ts = some .string) (h4 : P.underlying tl = some (.slice es)) (h5 : P.underlying es = some .string) (h6 : P.cellsOf es = 1)
    (h : DataW.Trod enc P w base spare held t (.slice a len cap) d p) : ∃ xs : List Ans, RdA w w.heap.size a len xs ∧ (∀ x ∈ xs, okA x) ∧ len ≤ cap ∧ cap ≤ maxLen := by
  obtain ⟨fuel, hf⟩ := h
  rcases open_slice ht hf with ⟨hcs, _⟩ | ⟨ad, l, c, m, n, D, Pl, hcs, _, hl, hm, hmm, _, hx⟩
  · simp [Value.cells] at hcs
    obtain ⟨rfl, rfl, rfl⟩ := hcs
    exact ⟨[], ⟨rfl, fun j hj => by simp at hj⟩, by simp, Nat.le_refl _, by simp [maxLen]⟩
  simp [Value.cells] at hcs
  obtain ⟨rfl, rfl, rfl⟩ := hcs
  have hlm : len ≤ m := by rw [hmm]; split <;> omega
  have hfs : ∀ i, i < 7 → ∃ f, fs[i]? = some f ∧ some f.type = [ti, ti, tn, tn, ts, tl, ti][i]? := by
    intro i hi
    have hlen : fs.toList.length = 7 := by have := congrArg List.length hty; simpa using this
    have hi' : i < fs.size := by simpa using (show i < fs.toList.length by omega)
    refine ⟨fs[i], Array.getElem?_eq_getElem hi', ?_⟩
    rw [← hty, List.getElem?_map]
    simp [Array.getElem?_toList, Array.getElem?_eq_getElem hi']
  have each : ∀ i, i < len → ∃ z : Ans × Option Addr × Nat, AnsAt w w.heap.size (ad.add (i * 7)) z.1 z.2.1 z.2.2 ∧ okA z.1 := by
    intro i hi
    obtain ⟨cs, hc1, hc2⟩ := hx i (by omega)
    rw [hC] at hc1
    obtain ⟨_, hlen, hcell⟩ := World.cells?_some hc1
    obtain ⟨fu, hfu⟩ := cell_fields he hone hc2
    generalize ad.add (i * 7) = q at hcell
    match cs, hlen with
    | [u0, u1, u2, u3, u4, u5, u6], _ =>
      obtain ⟨f0, g0, k0⟩ := hfs 0 (by omega)
      obtain ⟨f1, g1, k1⟩ := hfs 1 (by omega)
      obtain ⟨f2, g2, k2⟩ := hfs 2 (by omega)
      obtain ⟨f3, g3, k3⟩ := hfs 3 (by omega)
      obtain ⟨f4, g4, k4⟩ := hfs 4 (by omega)
      obtain ⟨f5, g5, k5⟩ := hfs 5 (by omega)
      obtain ⟨f6, g6, k6⟩ := hfs 6 (by omega)
      obtain ⟨y0, e0⟩ := hfu 0 f0 u0 g0 rfl
      obtain ⟨y1, e1⟩ := hfu 1 f1 u1 g1 rfl
      obtain ⟨y2, e2⟩ := hfu 2 f2 u2 g2 rfl
      obtain ⟨y3, e3⟩ := hfu 3 f3 u3 g3 rfl
      obtain ⟨y4, e4⟩ := hfu 4 f4 u4 g4 rfl
      obtain ⟨y5, e5⟩ := hfu 5 f5 u5 g5 rfl
      obtain ⟨y6, e6⟩ := hfu 6 f6 u6 g6 rfl
      have c0 := hcell 0 (by omega)
      have c1 := hcell 1 (by omega)
      have c2 := hcell 2 (by omega)
      have c3 := hcell 3 (by omega)
      have c4 := hcell 4 (by omega)
      have c5 := hcell 5 (by omega)
      have c6 := hcell 6 (by omega)
      rw [add_0] at c0
      rw [add_ne _ _ (by omega)] at c1 c2 c3 c4 c5 c6
      rw [Option.some.inj k0] at e0
      rw [Option.some.inj k1] at e1
      rw [Option.some.inj k2] at e2
      rw [Option.some.inj k3] at e3
      rw [Option.some.inj k4] at e4
      rw [Option.some.inj k5] at e5
      rw [Option.some.inj k6] at e6
      obtain ⟨x0, rfl, _⟩ := field_int h1 e0
      obtain ⟨x1, rfl, _⟩ := field_int h1 e1
      obtain ⟨x2, rfl, w2⟩ := field_int h2 e2
      obtain ⟨x3, rfl, w3⟩ := field_int h2 e3
      obtain ⟨s, rfl, _⟩ := field_string h3 e4
      obtain ⟨A', n', c', ls, rfl, hr, _, hl1, hl2⟩ := field_strings h4 h5 h6 e5
      obtain ⟨x6, rfl, _⟩ := field_int h1 e6
      obtain ⟨tx, rfl, _⟩ := mkS_self s
      obtain ⟨lx, hlx⟩ := texts_self ls
      rw [hlx] at hr
      have hn' := hr.len_map
      subst hn'
      have hlow := World.block_lt_of_cell? w _ c0
      exact ⟨(⟨x0, x1, x2, x3, tx, lx, x6⟩, A', c'), ⟨hlow, c0, c1, c2, c3, c4, c5, c6, hr, Nat.le_trans hl1 hl2⟩, bounds_i64 w2, bounds_i64 w3⟩
  obtain ⟨F, hF⟩ := choose_lt each
  refine ⟨(List.range len).map fun i => (F i).1, ⟨by simp, fun j hj => ?_⟩, fun x hx => ?_, hl, hm⟩
  · have hj' : j < len := by simpa using hj
    refine ⟨ad, (F j).2.1, (F j).2.2, rfl, ?_⟩
    simp only [List.getElem_map, List.getElem_range]
    exact (hF j hj').1
  · obtain ⟨j, hj, rfl⟩ := List.mem_map.1 hx
    exact (hF j (by simpa using hj)).2
end
end Go.Proofs.Ytemokpnepnmmkaa
