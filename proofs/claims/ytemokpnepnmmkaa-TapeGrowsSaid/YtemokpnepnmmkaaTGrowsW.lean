/- The walk of TapeGrows: whatever the script and the answers are, the call returns true. -/
import Derived.Test.YtemokpnepnmmkaaMx
namespace Go.Proofs.Ytemokpnepnmmkaa
namespace tapeGrows
open Go.RowKit
abbrev Args (w : World) (sc : List UInt8) (A1 : Option Addr) (n1 : Nat) (xs : List Ans) : Prop :=
  RdA w w.heap.size A1 n1 xs ∧ (∀ x ∈ xs, okA x) ∧ n1 ≤ maxLen ∧ sc.length ≤ 9223372036854775807
theorem fits_few {n : Nat} {xs : List Ans} (h : fewA n xs = true) (ho : ∀ x ∈ xs, okA x) : (∀ x ∈ xs, fitA x ∧ ∀ r ∈ x.l, r.length ≤ 100000000) ∧ n ≤ 40 ∧ ((∀ x ∈ xs, (tellX x).length ≤ 3000)) := by
  obtain ⟨h1, h2⟩ := fewA_yes h
  refine ⟨fun x hx => ?_, h1, fun x hx => (short_tell x (h2 x hx) (ho x hx)).2⟩
  have h3 := short_tell x (h2 x hx) (ho x hx)
  obtain ⟨a, b, c⟩ := h2 x hx
  exact ⟨⟨ho x hx, by omega, by omega, by omega⟩, fun r hr => by have := c r hr; omega⟩
set_option maxRecDepth 100000 in
theorem walkX (w : World) (sc : List UInt8) (A1 : Option Addr) (n1 c1 : Nat) (xs : List Ans) (h : Args w sc A1 n1 xs) (hx : fewA n1 xs = false ∨ (fewA n1 xs = true ∧ 4096 < sc.length)) :
    Calls Try.prog 6 #[.string (mkS sc), .slice A1 n1 c1] w fun e w' => e = .returned (.bool true) ∧ Below w.heap.size w w' := by
  have H := Lib.hid h
  have hz := mkS_size sc
  obtain ⟨k, hk⟩ : ∃ k, sc.length = k := ⟨_, rfl⟩
  rw [hk] at hz hx
  clear h hk
  rcases hx with hx | ⟨hx, h2⟩
  all_goals
    go_enter Try.func6, Try.ntmps6
    go_wp2_with (first
      | (go_at_call 8; (with_reducible refine (tapeAwake_v _).mono ?_); rintro e w1 ⟨rfl, hb1⟩; have HB1 := Lib.hid hb1; clear hb1)
      | (go_at_call 9; (with_reducible refine (fewA_v _ _ _ xs w1 (H.out.1.later HB1.out) H.out.2.2.1).mono ?_); rintro e w2 ⟨rfl, rfl⟩; rw [hx]))
    go_ret
    exact ⟨rfl, HB1.out⟩
/-- One answer as a row of its own. -/
theorem lit1 (w : World) {B : Nat} {S : Nat → Prop} {x : Ans} {A' : Option Addr} {c' : Nat} (hr : Rd w B A' x.l.length (x.l.map sv)) (hm : x.l.length ≤ maxLen) (hB : B ≤ w.heap.size) (hS : ∀ i, S i → i < w.heap.size) (hS2 : ∀ i, S i → B ≤ i) :
    RdAP (w.alloc (.cells #[.int .i64 x.k, .int .i64 x.e, .int .i64 x.n, .int .i64 x.m, .string (mkS x.t), .slice A' x.l.length c', .int .i64 x.s] 34)) S (some ⟨w.heap.size, 0, none⟩) 1 [x] := by
  have hc : ∀ i, (w.alloc (.cells #[.int .i64 x.k, .int .i64 x.e, .int .i64 x.n, .int .i64 x.m, .string (mkS x.t), .slice A' x.l.length c', .int .i64 x.s] 34)).cell? ⟨w.heap.size, i, none⟩ = (#[.int .i64 x.k, .int .i64 x.e, .int .i64 x.n, .int .i64 x.m, .string (mkS x.t), .slice A' x.l.length c', .int .i64 x.s] : Array Value)[i]? := fun i => cell_of_row _ _ i _ 34 (0, 0) (heap_alloc_new w _)
  refine ⟨rfl, fun j hj => ?_⟩
  obtain rfl : j = 0 := by simpa using hj
  refine ⟨⟨w.heap.size, 0, none⟩, A', c', rfl, ?_, fun h0 y e hSy => ?_, ?_⟩
  · rw [add_lit0]; exact fun h => Nat.lt_irrefl _ (hS _ h)
  · obtain ⟨ad, e2, hb, _⟩ := hr.2 h0
    rw [e] at e2
    cases e2
    have := hS2 _ hSy; omega
  · rw [add_lit0]
    exact ⟨by simp, hc 0, hc 1, hc 2, hc 3, hc 4, hc 5, hc 6, (hr.below ((Below.refl B w).alloc hB _)).more (by simp; omega), hm⟩
theorem body_one {x : Ans} : bodyL [x] = if okB x = true then frameL (tellX x) else [] := by
  rw [bodyL_cons]; split <;> simp [bodyL]
theorem wadd_one (B g : Nat) (v : Value) (D : List UInt8) (A : Option Addr) (x : Ans) (W : World) (hw : Wtr W B g v D) (hB : B ≤ W.heap.size) (hr : RdAP W (wS g v) A 1 [x]) (hfit : fitA x) (hD : D.length ≤ 1000000) :
    Calls Try.prog 11 #[.pointer (some ⟨g, 0, none⟩), .slice A 1 1] W fun e W' => ∃ v', e = .returned (.bool (okB x)) ∧ Wtr W' B g v' (D ++ bodyL [x]) ∧ Only (wS g v) W W' ∧ Moved W v v' := by
  have hb : (bodyL [x]).length ≤ 65600 := by
    rw [body_one]
    split
    · rw [frameL_len]; have := hfit.2.2.2; have := numL_ten (show (tellX x).length < 18446744073709551616 by omega); omega
    · simp
  refine (wadd_v B g v D A 1 1 [x] W hw hB hr (by unfold maxLen; omega) (fun y hy => by rw [List.mem_singleton] at hy; rw [hy]; exact hfit) (by omega)).mono ?_
  rintro e W' ⟨v', rfl, h1, h2, h3⟩
  exact ⟨v', by simp, h1, h2, h3⟩
attribute [local go_sem ↓] Go.wp_at_zero Go.wp_at_succ
set_option maxRecDepth 100000 in
set_option maxHeartbeats 2000000 in
theorem walkM (w : World) (sc : List UInt8) (A1 : Option Addr) (n1 c1 : Nat) (xs : List Ans) (h : Args w sc A1 n1 xs) (hx : fewA n1 xs = true) (h4 : sc.length ≤ 4096) :
    Calls Try.prog 6 #[.string (mkS sc), .slice A1 n1 c1] w fun e w' => e = .returned (.bool true) ∧ Below w.heap.size w w' := by
  obtain ⟨k1, k2, k3⟩ := fits_few hx h.2.1
  have hz := mkS_size sc
  obtain ⟨q0h, hq0h⟩ : ∃ z, z = frameL (markL ++ sc) := ⟨_, rfl⟩
  obtain ⟨L, hL⟩ : ∃ L, L = q0h ++ bodyL xs := ⟨_, rfl⟩
  have hLl : L.length ≤ 140000 ∧ 0 < L.length ∧ q0h.length + (bodyL xs).length = L.length := by
    have h1 := frameL_len (markL ++ sc)
    have h2 : (markL ++ sc).length = 14 + sc.length := by rw [List.length_append]; rfl
    have h3 := numL_ten (show (markL ++ sc).length < 18446744073709551616 by omega)
    have h5 := bodyL_small xs k3
    have h6 : xs.length ≤ 40 := by rw [h.1.1]; exact k2
    rw [← hq0h] at h1
    rw [hL, List.length_append]; omega
  obtain ⟨ys, hys⟩ : ∃ ys, ys = xs.takeWhile okB := ⟨_, rfl⟩
  have hgood : ∀ y ∈ ys, goodA y := by rw [hys]; exact good_take xs k1
  have hLt : L = tapeL sc ys := by rw [hL, hq0h, tapeL_body, hys]
  have hyall : ys.all okB = true := List.all_eq_true.2 fun y hy => (hgood y hy).1
  have hyb : q0h ++ bodyL ys = L := by
    rw [hL, hys]
    unfold bodyL
    have : ∀ l : List Ans, (l.takeWhile okB).takeWhile okB = l.takeWhile okB := fun l => by
      induction l with
      | nil => rfl
      | cons x l ih =>
        rw [List.takeWhile_cons]
        split
        · rename_i hx; rw [List.takeWhile_cons, if_pos hx, ih]
        · rfl
    rw [this]
  have hta := tape_all sc ys h4 hgood
  rw [← hLt] at hta
  have hyl : ys.length ≤ 40 := by rw [hys]; exact Nat.le_trans (List.takeWhile_sublist okB).length_le (by rw [h.1.1]; exact k2)
  have cn := fun W => wnew_v sc W h4
  have ca := fun B g v W hw hB hr => wadd_v B g v (frameL (markL ++ sc)) A1 n1 c1 xs W hw hB hr h.2.2.1 (fun x hx => (k1 x hx).1) (by rw [← hq0h]; omega)
  have cc := fun B g v A c W hw hB hr => wadd_v B g v (frameL (markL ++ sc)) A ys.length c ys W hw hB hr (by unfold maxLen; omega) (fun y hy => (hgood y hy).2.1) (by rw [← hq0h, ← List.length_append, hyb]; omega)
  rw [← hq0h] at cn ca cc
  rw [← hL] at ca
  rw [hyall, hyb] at cc
  have cb := fun B g v W hw => wbytes_k (B := B) (g := g) (v := v) (L := L) W hw hLl.2.1 (by omega)
  have cr := fun A c W hr hc hcm => readT_k hta A L.length c W hr (by omega) hc hcm
  obtain ⟨m, hm⟩ : ∃ m, L.length = m := ⟨_, rfl⟩
  obtain ⟨ny, hny⟩ : ∃ ny, ys.length = ny := ⟨_, rfl⟩
  rw [hm] at cb cr
  rw [hny] at cr cc
  have PK := Lib.hid (And.intro cn (And.intro ca (And.intro cb (And.intro cr cc))))
  have H := Lib.hid h
  have HX := Lib.hid (And.intro hLl (And.intro hL k1))
  obtain ⟨bb, hbb⟩ : ∃ bb, bb = xs.all okB := ⟨_, rfl⟩
  have HBB := Lib.hid hbb
  obtain ⟨sz, hsz⟩ : ∃ z, sc.length = z := ⟨_, rfl⟩
  rw [hsz] at hz h4
  have h4i : ¬ 4096 < sz := by omega
  have hnm : n1 ≤ 9223372036854775807 := h.2.2.1
  clear cn ca cb cr cc h k1 k2 k3 hLl hL hsz h4 hq0h hm hbb hta hyb hyall hLt hgood hys hny hyl
  go_enter Try.func6, Try.ntmps6
  go_wp2_with (first
    | (go_at_call 8; (with_reducible refine (tapeAwake_v _).mono ?_); rintro e w1 ⟨rfl, hb1⟩; have HB1 := Lib.hid hb1; clear hb1)
    | (go_at_call 9; (with_reducible refine (fewA_v _ _ _ xs w1 (H.out.1.later HB1.out) H.out.2.2.1).mono ?_); rintro e w2 ⟨rfl, rfl⟩; rw [hx])
    | (go_at_call 10; (with_reducible refine (PK.out.1 w1).mono ?_); rintro e w3 ⟨ga, va, rfl, hw3, hl3⟩; have W3 := Lib.hid hw3; have L3 := Lib.hid (Later.trans HB1.out hl3); have HL3 := Lib.hid hl3; clear hw3 hl3)
    | (go_at_call 10; (with_reducible refine (PK.out.1 w3).mono ?_); rintro e w4 ⟨gb, vb, rfl, hw4, hl4⟩; have W4 := Lib.hid hw4; have WA4 := Lib.hid (W3.out.later hl4); have L4 := Lib.hid (Later.trans L3.out hl4); have HL4 := Lib.hid hl4; have HS14 := Lib.hid (Nat.le_trans HL3.out.size hl4.size); have HA := Lib.hid (((H.out.1.later HB1.out).below (Later.trans HL3.out hl4)).apart (S := wS ga va) (Nat.le_trans HL3.out.size hl4.size) W3.out.high); clear hw4 hl4)
    | (go_at_call 11; (with_reducible refine (PK.out.2.1 _ ga _ w4 WA4.out HS14.out HA.out).mono ?_); rintro e w5 ⟨va5, rfl, hw5, ho5, hm5⟩; have WA5 := Lib.hid hw5; have L5 := Lib.hid (Below.trans L4.out (ho5.below L4.out.size fun i hi => Nat.le_trans HB1.out.size (W3.out.high i hi))); have WB5 := Lib.hid (W4.out.only ho5 (fun e => by have := W3.out.lt gb e; have := W4.out.low; omega) (fun i e e2 => by have := W3.out.lt i e2; have := (W4.out.own.lt i e).1; omega)); have HS5 := Lib.hid (Nat.le_trans HL4.out.size ho5.size); have HAP : Hid (∀ i, wS gb vb i → ¬ i = ga ∧ va5.ownBlock ≠ some i) := Lib.hid (fun i hi => by
        have h1 := W4.out.high i hi
        have h2 := W4.out.lt i hi
        refine ⟨fun e => by have := W3.out.lt ga (.inl rfl); omega, fun e => ?_⟩
        rcases hm5 with e5 | ⟨j, e5, hj⟩
        · rw [e5] at e; have := W3.out.lt i (.inr e); omega
        · rw [e5] at e; injection e with e; omega); clear hw5 ho5 hm5))
  go_loopw [9, 10] (fun b i wr => ∃ (k : Nat) (q : Bool) (D : List UInt8) (v1 : Value), k ≤ n1 ∧ i = .int .i64 (k : Int) ∧ b = .bool q ∧ (q = true → (∀ (j : Nat) (h : j < xs.length), j < k → okB xs[j] = true) ∧ D = q0h ++ bodyL (xs.take k)) ∧ (q = false → D = L) ∧ Wtr wr w3.heap.size gb v1 D ∧ Only (wS gb vb) w5 wr ∧ Moved w5 vb v1) (fun _ i _ => n1 - (intOf i).toNat)
  case atStart => exact ⟨0, true, q0h, vb, by omega, rfl, rfl, fun _ => ⟨fun j _ h => by omega, by simp [bodyL]⟩, (fun h => by cases h), WB5.out, Only.refl _ _, .inl rfl⟩
  case round =>
    obtain ⟨k, q, D, v1, hk, rfl, rfl, hq1, hq2, hwb, hob, hmb⟩ := hrel
    have HQ := Lib.hid (And.intro hq1 hq2)
    have WBR := Lib.hid hwb
    have OB := Lib.hid hob
    have MB := Lib.hid hmb
    have LR := Lib.hid (Below.trans L5.out (hob.below L5.out.size fun i hi => Nat.le_trans L3.out.size (W4.out.high i hi)))
    clear hq1 hq2 hwb hob hmb
    have hexit : ¬ (k < n1 ∧ q = true) → D = L := by
      intro hn
      rcases Bool.eq_false_or_eq_true q with hq | hq
      · obtain ⟨h1, h2⟩ := HQ.out.1 hq
        have hkn : ¬ k < n1 := fun h => hn ⟨h, hq⟩
        rw [h2, List.take_of_length_le (by rw [H.out.1.1]; omega), HX.out.2.1]
      · exact HQ.out.2 hq
    have HEX := Lib.hid hexit
    clear hexit
    by_cases hgo : k < n1 ∧ q = true
    · obtain ⟨hkn, rfl⟩ := hgo
      have hkx : k < xs.length := by rw [H.out.1.1]; exact hkn
      obtain ⟨ad, A', c', rfl, hx1⟩ := (H.out.1.below LR.out).2 k hkx
      obtain ⟨x, hx0⟩ : ∃ x, x = xs[k]'hkx := ⟨_, rfl⟩
      rw [← hx0] at hx1
      have hfx := (HX.out.2.2 x (by rw [hx0]; exact List.getElem_mem hkx)).1
      obtain ⟨hqa, hqd⟩ := HQ.out.1 rfl
      have hDb : D.length ≤ 140000 := by rw [hqd, List.length_append]; have := bodyL_le xs k (Nat.le_of_lt hkx) hqa; have := HX.out.1; omega
      have hla := Later.alloc wr (.cells #[.int .i64 x.k, .int .i64 x.e, .int .i64 x.n, .int .i64 x.m, .string (mkS x.t), .slice A' x.l.length c', .int .i64 x.s] 34)
      have hlit := lit1 wr (c' := c') hx1.row hx1.most LR.out.size WBR.out.lt (fun i hi => Nat.le_trans L3.out.size (WBR.out.high i hi))
      have cad := wadd_one w3.heap.size gb v1 D _ x _ (WBR.out.later hla) (Nat.le_trans HS5.out (Nat.le_trans OB.out.size hla.size)) hlit hfx (by omega)
      obtain ⟨qx, hqx⟩ : ∃ qx, qx = okB x := ⟨_, rfl⟩
      rw [← hqx] at cad
      have hnext : (qx = true → (∀ (j : Nat) (h : j < xs.length), j < k + 1 → okB xs[j] = true) ∧ D ++ bodyL [x] = q0h ++ bodyL (xs.take (k + 1))) ∧ (qx = false → D ++ bodyL [x] = L) := by
        rw [hqx, hx0]
        refine ⟨fun hb => ⟨fun j hj hjk => ?_, ?_⟩, fun hb => ?_⟩
        · by_cases e : j = k
          · subst e; exact hb
          · exact hqa j hj (by omega)
        · rw [body_one, if_pos hb, bodyL_snoc xs k hkx hqa hb, hqd, List.append_assoc]
        · rw [body_one, if_neg (by rw [hb]; simp), List.append_nil, hqd, ← bodyL_stop xs k hkx hqa hb, HX.out.2.1]
      obtain ⟨_, y0, y1, y2, y3, y4, y5, y6, _, _⟩ := hx1
      have CAD := Lib.hid cad
      have HNX := Lib.hid hnext
      have HLA := Lib.hid hla
      have hk0 : (0 : Int) ≤ (k : Int) := by omega
      have hk1 : (k : Int) < (n1 : Int) := by omega
      clear cad hnext hla hlit hfx hqa hqd hDb hx0 hqx
      go_wp2_with (go_at_call 11; (with_reducible refine CAD.out.mono ?_); rintro e w6 ⟨v6, rfl, hw6, ho6, hm6⟩; have W6 := Lib.hid hw6; have O6 := Lib.hid (Only.step OB.out MB.out ((Only.later HLA.out).trans ho6)); have M6 := Lib.hid (Moved.trans_ MB.out OB.out.size (Moved.trans_ (.inl rfl) HLA.out.size hm6)); clear hw6 ho6 hm6)
      go_roundw
      case rel => exact ⟨k + 1, qx, D ++ bodyL [x], v6, by omega, by go_num, rfl, HNX.out.1, HNX.out.2, W6.out, O6.out, M6.out⟩
      case measure => simp [intOf]; omega
    have hDL := HEX.out hgo
    have hdl : L = D := hDL.symm
    obtain rfl := hdl
    have WAR := Lib.hid (WA5.out.only OB.out (fun e => (HAP.out ga e).1 rfl) (fun i e e2 => (HAP.out i e2).2 e))
    have hstep : ((decide ((k : Int) < (n1 : Int))) = true → q = true → False) := fun h1 h2 => hgo ⟨by have := of_decide_eq_true h1; omega, h2⟩
    have hcase : (¬ (k : Int) < (n1 : Int)) ∨ ((k : Int) < (n1 : Int) ∧ q = false) := by
      by_cases h1 : (k : Int) < (n1 : Int)
      · right
        refine ⟨h1, ?_⟩
        rcases Bool.eq_false_or_eq_true q with hq | hq
        · exact absurd ⟨by omega, hq⟩ hgo
        · exact hq
      · exact .inl h1
    clear hstep HEX hDL hgo HQ
    rcases hcase with hc1 | ⟨hc1, rfl⟩
    all_goals
      go_wp2_with (first
        | (go_at_call 12; (with_reducible refine (PK.out.2.2.1 _ ga _ wr WAR.out).mono ?_); rintro e w7 ⟨A7, c7, rfl, hm7, hl7, hr7, hc7, hx7⟩; have L7 := Lib.hid hl7; have R7 := Lib.hid (And.intro hr7 (And.intro hc7 hx7)); clear hm7 hl7 hr7 hc7 hx7)
        | (go_at_call 18; (with_reducible refine (PK.out.2.2.2.1 _ _ w7 R7.out.1 R7.out.2.1 R7.out.2.2).mono ?_); rintro e w8 ⟨A8, c8, rfl, hl8, hr8, hc8⟩; have HX8 := Lib.hid (tape_cells w8 (.string (mkS sc)) (.slice A8 ny c8)); have R8 := Lib.hid (hr8.later (Later.alloc w8 (.cells #[.string (mkS sc), .slice A8 ny c8] 41))); have L8 := Lib.hid (Later.trans L7.out (Later.trans hl8 (Later.alloc w8 (.cells #[.string (mkS sc), .slice A8 ny c8] 41)))); clear hl8 hr8 hc8)
        | (go_at_call 10; (with_reducible refine (PK.out.1 _).mono ?_); rintro e w9 ⟨gc, vc, rfl, hw9, hl9⟩; obtain ⟨x0, x1⟩ := HX8.out w9 hl9; have WC9 := Lib.hid hw9; have L9 := Lib.hid (Later.trans L8.out hl9); have HS9 := Lib.hid hl9.size; have HC9 := Lib.hid ((R8.out.below hl9).apart (S := wS gc vc) hl9.size hw9.high); clear hw9 hl9)
        | (go_at_call 11; (with_reducible refine (PK.out.2.2.2.2 _ gc _ A8 c8 w9 WC9.out HS9.out HC9.out).mono ?_); rintro e wb ⟨vc2, rfl, hwc, hoc, hmc⟩; have WC := Lib.hid hwc; have WA := Lib.hid ((WAR.out.later L9.out).only hoc (fun e => by have := WC9.out.high ga e; have := WAR.out.lt ga (.inl rfl); have := L8.out.size; omega) (fun i e e2 => by have := WC9.out.high i e2; have := WAR.out.lt i (.inr e); have := L8.out.size; omega)); have WB := Lib.hid ((WBR.out.later L9.out).only hoc (fun e => by have := WC9.out.high gb e; have := WBR.out.lt gb (.inl rfl); have := L8.out.size; omega) (fun i e e2 => by have := WC9.out.high i e2; have := WBR.out.lt i (.inr e); have := L8.out.size; omega)); have LB := Lib.hid (Below.trans (Below.trans LR.out (Below.mono L9.out LR.out.size)) (hoc.below (Nat.le_trans LR.out.size L9.out.size) fun i hi => Nat.le_trans LR.out.size (Nat.le_trans L8.out.size (WC9.out.high i hi)))); clear x0 x1 hwc hoc hmc))
      refine wp_region_owes (by kernel_rfl) (fun W => Later wb W) (Later) (Later.refl) [Sp.val (.pointer (some ⟨ga, 0, none⟩)), spBytes m L, Sp.val (.string (mkS L)), Sp.val (.pointer (some ⟨gb, 0, none⟩)), spBytes m L, Sp.val (.string (mkS L)), Sp.val (.bool true), Sp.val (.bool true), Sp.val (.bool true), Sp.val (.bool true), Sp.val (.bool true), Sp.val (.int .i64 0), Sp.val (.bool true), Sp.val (.bool true), Sp.val (.bool true), Sp.val (.int .i64 (m : Int)), Sp.val (.pointer (some ⟨ga, 0, none⟩)), spBytes m L, Sp.val (.int .i64 (m : Int)), Sp.val (.bool true), Sp.val (.bool true), Sp.val (.bool true), Sp.val (.pointer (some ⟨gc, 0, none⟩)), spBytes m L, Sp.val (.string (mkS L)), Sp.val (.pointer (some ⟨ga, 0, none⟩)), spBytes m L, Sp.val (.string (mkS L)), Sp.val (.bool true), Sp.val (.bool true), Sp.val (.bool true)] (by kernel_rfl) (Later.drew wb) ?_ ?_
      · refine ⟨?_, ?_, ?_, ?_, ?_, ?_, ?_, ?_, ?_, ?_, ?_, ?_, ?_, ?_, ?_, ?_, ?_, ?_, ?_, ?_, ?_, ?_, ?_, ?_, ?_, ?_, ?_, ?_, ?_, ?_, ?_, trivial⟩
        · -- 0: slot 73 := Op.move t7
          refine fun a w hC hs => .inl ⟨?_, ?_⟩
          · rfl
          have e7 : a.tmps.getD 7 undef = .pointer (some ⟨ga, 0, none⟩) := hs.free 7 rfl
          exact ⟨e7, hC, Later.refl _⟩
        · -- 1: slot 74 := Op.call { value (Operand.func 12), args := #[t73], argTypes := #[25] }
          refine fun a w hC hs => .inl ⟨?_, ?_⟩
          · rfl
          have e73 : a.tmps.getD 73 undef = .pointer (some ⟨ga, 0, none⟩) := hs.dep 0 _ rfl rfl
          refine ValWp.call #[.pointer (some ⟨ga, 0, none⟩)] rfl rfl Try.func12 rfl rfl (by simp only [List.map_toArray, List.map_cons, List.map_nil, Act.eval, e73]) ?_
          refine (PK.out.2.2.1 _ _ _ w (WA.out.later hC)).mono ?_
          rintro r w' ⟨A, c, rfl, _, hl, hr, _, _⟩
          exact ⟨_, rfl, ⟨A, c, rfl, hr⟩, Later.trans hC hl, hl⟩
        · -- 2: slot 75 := Op.convert 28 9 t74
          refine fun a w hC hs => .inl ⟨?_, ?_⟩
          · rfl
          obtain ⟨A74, c74, e74, h74⟩ := hs.dep 1 _ rfl rfl
          change a.tmps.getD 74 undef = _ at e74
          have hcv := run_str_of (P := Try.prog) h74 28 9 5 Try.underlying28 Try.underlying5 Try.underlying9 c74
          refine ValWp.pure (v := .string (mkS L)) (fun K' hK' => ?_) ⟨rfl, hC, Later.refl _⟩
          simp only [ValWp, execOp, Act.eval, e74]
          go_simp
          all_goals exact hK'
        · -- 3: slot 76 := Op.move t8
          refine fun a w hC hs => .inl ⟨?_, ?_⟩
          · rfl
          have e8 : a.tmps.getD 8 undef = .pointer (some ⟨gb, 0, none⟩) := hs.free 8 rfl
          exact ⟨e8, hC, Later.refl _⟩
        · -- 4: slot 77 := Op.call { value (Operand.func 12), args := #[t76], argTypes := #[25] }
          refine fun a w hC hs => .inl ⟨?_, ?_⟩
          · rfl
          have e76 : a.tmps.getD 76 undef = .pointer (some ⟨gb, 0, none⟩) := hs.dep 3 _ rfl rfl
          refine ValWp.call #[.pointer (some ⟨gb, 0, none⟩)] rfl rfl Try.func12 rfl rfl (by simp only [List.map_toArray, List.map_cons, List.map_nil, Act.eval, e76]) ?_
          refine (PK.out.2.2.1 _ _ _ w (WB.out.later hC)).mono ?_
          rintro r w' ⟨A, c, rfl, _, hl, hr, _, _⟩
          exact ⟨_, rfl, ⟨A, c, rfl, hr⟩, Later.trans hC hl, hl⟩
        · -- 5: slot 78 := Op.convert 28 9 t77
          refine fun a w hC hs => .inl ⟨?_, ?_⟩
          · rfl
          obtain ⟨A77, c77, e77, h77⟩ := hs.dep 4 _ rfl rfl
          change a.tmps.getD 77 undef = _ at e77
          have hcv := run_str_of (P := Try.prog) h77 28 9 5 Try.underlying28 Try.underlying5 Try.underlying9 c77
          refine ValWp.pure (v := .string (mkS L)) (fun K' hK' => ?_) ⟨rfl, hC, Later.refl _⟩
          simp only [ValWp, execOp, Act.eval, e77]
          go_simp
          all_goals exact hK'
        · -- 6: slot 79 := Op.binOp BinOp.eql 9 t75 t78 9
          refine fun a w hC hs => .inl ⟨?_, ?_⟩
          · rfl
          have e75 : a.tmps.getD 75 undef = .string (mkS L) := hs.dep 2 _ rfl rfl
          have e78 : a.tmps.getD 78 undef = .string (mkS L) := hs.dep 5 _ rfl rfl
          refine ValWp.pure (v := .bool true) (fun K' hK' => ?_) ⟨rfl, hC, Later.refl _⟩
          simp only [ValWp, execOp, Act.eval, e75, e78]
          go_simp
          all_goals exact hK'
        · -- 7: slot 80 := Op.move t79
          refine fun a w hC hs => .inl ⟨?_, ?_⟩
          · rfl
          have e79 : a.tmps.getD 79 undef = .bool true := hs.dep 6 _ rfl rfl
          exact ⟨e79, hC, Later.refl _⟩
        · -- 8: slot 81 := Op.move t15 guarded (7, 'true')
          refine fun a w hC hs => .inl ⟨?_, ?_⟩
          · exact (by unfold Region.wanted; dsimp only; rw [yielded_bool (d := 80) rfl (hs.dep 7 _ rfl rfl)]; rfl)
          have e15 : a.tmps.getD 15 undef = .bool true := hs.free 15 rfl
          exact ⟨e15, hC, Later.refl _⟩
        · -- 9: slot 82 := Op.pick t80 t81 (const (Value.bool false))
          refine fun a w hC hs => .inl ⟨?_, ?_⟩
          · rfl
          have e80 : a.tmps.getD 80 undef = .bool true := hs.dep 7 _ rfl rfl
          have e81 : a.tmps.getD 81 undef = .bool true := hs.dep 8 _ rfl rfl
          refine ValWp.pure (v := .bool true) (fun K' hK' => ?_) ⟨rfl, hC, Later.refl _⟩
          simp only [ValWp, execOp, Act.eval, e80, e81]
          go_simp
          all_goals exact hK'
        · -- 10: slot 83 := Op.move t82
          refine fun a w hC hs => .inl ⟨?_, ?_⟩
          · rfl
          have e82 : a.tmps.getD 82 undef = .bool true := hs.dep 9 _ rfl rfl
          exact ⟨e82, hC, Later.refl _⟩
        · -- 11: slot 84 := Op.move t13 guarded (10, 'true')
          refine fun a w hC hs => .inl ⟨?_, ?_⟩
          · exact (by unfold Region.wanted; dsimp only; rw [yielded_bool (d := 83) rfl (hs.dep 10 _ rfl rfl)]; rfl)
          have e13 : a.tmps.getD 13 undef = .int .i64 0 := hs.free 13 rfl
          exact ⟨e13, hC, Later.refl _⟩
        · -- 12: slot 85 := Op.binOp BinOp.eql 42 t84 (const (0:i64)) 42 guarded (10, 'true')
          refine fun a w hC hs => .inl ⟨?_, ?_⟩
          · exact (by unfold Region.wanted; dsimp only; rw [yielded_bool (d := 83) rfl (hs.dep 10 _ rfl rfl)]; rfl)
          have e84 : a.tmps.getD 84 undef = .int .i64 0 := hs.dep 11 _ rfl rfl
          refine ValWp.pure (v := .bool true) (fun K' hK' => ?_) ⟨rfl, hC, Later.refl _⟩
          simp only [ValWp, execOp, Act.eval, e84]
          go_simp
          all_goals exact hK'
        · -- 13: slot 86 := Op.pick t83 t85 (const (Value.bool false))
          refine fun a w hC hs => .inl ⟨?_, ?_⟩
          · rfl
          have e83 : a.tmps.getD 83 undef = .bool true := hs.dep 10 _ rfl rfl
          have e85 : a.tmps.getD 85 undef = .bool true := hs.dep 12 _ rfl rfl
          refine ValWp.pure (v := .bool true) (fun K' hK' => ?_) ⟨rfl, hC, Later.refl _⟩
          simp only [ValWp, execOp, Act.eval, e83, e85]
          go_simp
          all_goals exact hK'
        · -- 14: slot 87 := Op.move t86
          refine fun a w hC hs => .inl ⟨?_, ?_⟩
          · rfl
          have e86 : a.tmps.getD 86 undef = .bool true := hs.dep 13 _ rfl rfl
          exact ⟨e86, hC, Later.refl _⟩
        · -- 15: slot 88 := Op.move t12 guarded (14, 'true')
          refine fun a w hC hs => .inl ⟨?_, ?_⟩
          · exact (by unfold Region.wanted; dsimp only; rw [yielded_bool (d := 87) rfl (hs.dep 14 _ rfl rfl)]; rfl)
          have e12 : a.tmps.getD 12 undef = .int .i64 (m : Int) := hs.free 12 rfl
          exact ⟨e12, hC, Later.refl _⟩
        · -- 16: slot 89 := Op.move t7 guarded (14, 'true')
          refine fun a w hC hs => .inl ⟨?_, ?_⟩
          · exact (by unfold Region.wanted; dsimp only; rw [yielded_bool (d := 87) rfl (hs.dep 14 _ rfl rfl)]; rfl)
          have e7 : a.tmps.getD 7 undef = .pointer (some ⟨ga, 0, none⟩) := hs.free 7 rfl
          exact ⟨e7, hC, Later.refl _⟩
        · -- 17: slot 90 := Op.call { value (Operand.func 12), args := #[t89], argTypes := #[25] } guarded (14, 'true')
          refine fun a w hC hs => .inl ⟨?_, ?_⟩
          · exact (by unfold Region.wanted; dsimp only; rw [yielded_bool (d := 87) rfl (hs.dep 14 _ rfl rfl)]; rfl)
          have e89 : a.tmps.getD 89 undef = .pointer (some ⟨ga, 0, none⟩) := hs.dep 16 _ rfl rfl
          refine ValWp.call #[.pointer (some ⟨ga, 0, none⟩)] rfl rfl Try.func12 rfl rfl (by simp only [List.map_toArray, List.map_cons, List.map_nil, Act.eval, e89]) ?_
          refine (PK.out.2.2.1 _ _ _ w (WA.out.later hC)).mono ?_
          rintro r w' ⟨A, c, rfl, _, hl, hr, _, _⟩
          exact ⟨_, rfl, ⟨A, c, rfl, hr⟩, Later.trans hC hl, hl⟩
        · -- 18: slot 91 := Op.call { builtin len, args := #[t90], argTypes := #[28] } guarded (14, 'true')
          refine fun a w hC hs => .inl ⟨?_, ?_⟩
          · exact (by unfold Region.wanted; dsimp only; rw [yielded_bool (d := 87) rfl (hs.dep 14 _ rfl rfl)]; rfl)
          obtain ⟨A90, c90, e90, h90⟩ := hs.dep 17 _ rfl rfl
          change a.tmps.getD 90 undef = _ at e90
          refine ValWp.pure (v := .int .i64 (m : Int)) (fun K' hK' => ?_) ⟨rfl, hC, Later.refl _⟩
          simp only [ValWp, execOp]
          go_simp
          all_goals exact hK'
        · -- 19: slot 92 := Op.binOp BinOp.eql 3 t88 t91 3 guarded (14, 'true')
          refine fun a w hC hs => .inl ⟨?_, ?_⟩
          · exact (by unfold Region.wanted; dsimp only; rw [yielded_bool (d := 87) rfl (hs.dep 14 _ rfl rfl)]; rfl)
          have e88 : a.tmps.getD 88 undef = .int .i64 (m : Int) := hs.dep 15 _ rfl rfl
          have e91 : a.tmps.getD 91 undef = .int .i64 (m : Int) := hs.dep 18 _ rfl rfl
          refine ValWp.pure (v := .bool true) (fun K' hK' => ?_) ⟨rfl, hC, Later.refl _⟩
          simp only [ValWp, execOp, Act.eval, e88, e91]
          go_simp
          all_goals exact hK'
        · -- 20: slot 93 := Op.pick t87 t92 (const (Value.bool false))
          refine fun a w hC hs => .inl ⟨?_, ?_⟩
          · rfl
          have e87 : a.tmps.getD 87 undef = .bool true := hs.dep 14 _ rfl rfl
          have e92 : a.tmps.getD 92 undef = .bool true := hs.dep 19 _ rfl rfl
          refine ValWp.pure (v := .bool true) (fun K' hK' => ?_) ⟨rfl, hC, Later.refl _⟩
          simp only [ValWp, execOp, Act.eval, e87, e92]
          go_simp
          all_goals exact hK'
        · -- 21: slot 94 := Op.move t93
          refine fun a w hC hs => .inl ⟨?_, ?_⟩
          · rfl
          have e93 : a.tmps.getD 93 undef = .bool true := hs.dep 20 _ rfl rfl
          exact ⟨e93, hC, Later.refl _⟩
        · -- 22: slot 95 := Op.move t14 guarded (21, 'true')
          refine fun a w hC hs => .inl ⟨?_, ?_⟩
          · exact (by unfold Region.wanted; dsimp only; rw [yielded_bool (d := 94) rfl (hs.dep 21 _ rfl rfl)]; rfl)
          have e14 : a.tmps.getD 14 undef = .pointer (some ⟨gc, 0, none⟩) := hs.free 14 rfl
          exact ⟨e14, hC, Later.refl _⟩
        · -- 23: slot 96 := Op.call { value (Operand.func 12), args := #[t95], argTypes := #[25] } guarded (21, 'true')
          refine fun a w hC hs => .inl ⟨?_, ?_⟩
          · exact (by unfold Region.wanted; dsimp only; rw [yielded_bool (d := 94) rfl (hs.dep 21 _ rfl rfl)]; rfl)
          have e95 : a.tmps.getD 95 undef = .pointer (some ⟨gc, 0, none⟩) := hs.dep 22 _ rfl rfl
          refine ValWp.call #[.pointer (some ⟨gc, 0, none⟩)] rfl rfl Try.func12 rfl rfl (by simp only [List.map_toArray, List.map_cons, List.map_nil, Act.eval, e95]) ?_
          refine (PK.out.2.2.1 _ _ _ w (WC.out.later hC)).mono ?_
          rintro r w' ⟨A, c, rfl, _, hl, hr, _, _⟩
          exact ⟨_, rfl, ⟨A, c, rfl, hr⟩, Later.trans hC hl, hl⟩
        · -- 24: slot 97 := Op.convert 28 9 t96 guarded (21, 'true')
          refine fun a w hC hs => .inl ⟨?_, ?_⟩
          · exact (by unfold Region.wanted; dsimp only; rw [yielded_bool (d := 94) rfl (hs.dep 21 _ rfl rfl)]; rfl)
          obtain ⟨A96, c96, e96, h96⟩ := hs.dep 23 _ rfl rfl
          change a.tmps.getD 96 undef = _ at e96
          have hcv := run_str_of (P := Try.prog) h96 28 9 5 Try.underlying28 Try.underlying5 Try.underlying9 c96
          refine ValWp.pure (v := .string (mkS L)) (fun K' hK' => ?_) ⟨rfl, hC, Later.refl _⟩
          simp only [ValWp, execOp, Act.eval, e96]
          go_simp
          all_goals exact hK'
        · -- 25: slot 98 := Op.move t7 guarded (21, 'true')
          refine fun a w hC hs => .inl ⟨?_, ?_⟩
          · exact (by unfold Region.wanted; dsimp only; rw [yielded_bool (d := 94) rfl (hs.dep 21 _ rfl rfl)]; rfl)
          have e7 : a.tmps.getD 7 undef = .pointer (some ⟨ga, 0, none⟩) := hs.free 7 rfl
          exact ⟨e7, hC, Later.refl _⟩
        · -- 26: slot 99 := Op.call { value (Operand.func 12), args := #[t98], argTypes := #[25] } guarded (21, 'true')
          refine fun a w hC hs => .inl ⟨?_, ?_⟩
          · exact (by unfold Region.wanted; dsimp only; rw [yielded_bool (d := 94) rfl (hs.dep 21 _ rfl rfl)]; rfl)
          have e98 : a.tmps.getD 98 undef = .pointer (some ⟨ga, 0, none⟩) := hs.dep 25 _ rfl rfl
          refine ValWp.call #[.pointer (some ⟨ga, 0, none⟩)] rfl rfl Try.func12 rfl rfl (by simp only [List.map_toArray, List.map_cons, List.map_nil, Act.eval, e98]) ?_
          refine (PK.out.2.2.1 _ _ _ w (WA.out.later hC)).mono ?_
          rintro r w' ⟨A, c, rfl, _, hl, hr, _, _⟩
          exact ⟨_, rfl, ⟨A, c, rfl, hr⟩, Later.trans hC hl, hl⟩
        · -- 27: slot 100 := Op.convert 28 9 t99 guarded (21, 'true')
          refine fun a w hC hs => .inl ⟨?_, ?_⟩
          · exact (by unfold Region.wanted; dsimp only; rw [yielded_bool (d := 94) rfl (hs.dep 21 _ rfl rfl)]; rfl)
          obtain ⟨A99, c99, e99, h99⟩ := hs.dep 26 _ rfl rfl
          change a.tmps.getD 99 undef = _ at e99
          have hcv := run_str_of (P := Try.prog) h99 28 9 5 Try.underlying28 Try.underlying5 Try.underlying9 c99
          refine ValWp.pure (v := .string (mkS L)) (fun K' hK' => ?_) ⟨rfl, hC, Later.refl _⟩
          simp only [ValWp, execOp, Act.eval, e99]
          go_simp
          all_goals exact hK'
        · -- 28: slot 101 := Op.binOp BinOp.eql 9 t97 t100 9 guarded (21, 'true')
          refine fun a w hC hs => .inl ⟨?_, ?_⟩
          · exact (by unfold Region.wanted; dsimp only; rw [yielded_bool (d := 94) rfl (hs.dep 21 _ rfl rfl)]; rfl)
          have e97 : a.tmps.getD 97 undef = .string (mkS L) := hs.dep 24 _ rfl rfl
          have e100 : a.tmps.getD 100 undef = .string (mkS L) := hs.dep 27 _ rfl rfl
          refine ValWp.pure (v := .bool true) (fun K' hK' => ?_) ⟨rfl, hC, Later.refl _⟩
          simp only [ValWp, execOp, Act.eval, e97, e100]
          go_simp
          all_goals exact hK'
        · -- 29: slot 102 := Op.pick t94 t101 (const (Value.bool false))
          refine fun a w hC hs => .inl ⟨?_, ?_⟩
          · rfl
          have e94 : a.tmps.getD 94 undef = .bool true := hs.dep 21 _ rfl rfl
          have e101 : a.tmps.getD 101 undef = .bool true := hs.dep 28 _ rfl rfl
          refine ValWp.pure (v := .bool true) (fun K' hK' => ?_) ⟨rfl, hC, Later.refl _⟩
          simp only [ValWp, execOp, Act.eval, e94, e101]
          go_simp
          all_goals exact hK'
        · -- 30: slot 4 := Op.assign t102
          refine fun a w hC hs => .inl ⟨?_, ?_⟩
          · rfl
          have e102 : a.tmps.getD 102 undef = .bool true := hs.dep 29 _ rfl rfl
          exact ⟨e102, hC, Later.refl _⟩
      · intro a X hC hd hs hf hr
        have e4 : a.tmps.getD 4 undef = .bool true := hr 30 _ rfl
        have hd' : a.defers = [] := hd
        clear hd hs hf hr
        go_wp2
        refine bodyPost_ret (results_tmp rfl _ _ _) hd' ?_
        exact ⟨by rw [e4], Below.trans LB.out (Below.mono hC LB.out.size)⟩
theorem walk (w : World) (s : ByteArray) (hs : s.size ≤ maxLen) (A1 : Option Addr) (n1 c1 : Nat) (xs : List Ans) (h1 : RdA w w.heap.size A1 n1 xs ∧ (∀ x ∈ xs, okA x) ∧ n1 ≤ c1 ∧ c1 ≤ maxLen) :
    Calls Try.prog 6 #[.string s, .slice A1 n1 c1] w fun e w' => e = .returned (.bool true) ∧ Below w.heap.size w w' := by
  obtain ⟨sc, rfl, hsl⟩ := mkS_self s
  have h : Args w sc A1 n1 xs := ⟨h1.1, h1.2.1, Nat.le_trans h1.2.2.1 h1.2.2.2, by rw [hsl]; exact hs⟩
  by_cases hf : fewA n1 xs = true
  case neg => exact walkX w sc A1 n1 c1 xs h (.inl (by simpa using hf))
  by_cases h4 : 4096 < sc.length
  · exact walkX w sc A1 n1 c1 xs h (.inr ⟨hf, h4⟩)
  exact walkM w sc A1 n1 c1 xs h hf (by omega)
end tapeGrows
end Go.Proofs.Ytemokpnepnmmkaa
