/- The walk of TapeWrites: whatever the script and the answers are, the call returns true. -/
import Derived.Test.YtemokpnepnmmkaaMx
import Derived.Test.YtemokpnepnmmkaaMo
namespace Go.Proofs.Ytemokpnepnmmkaa
open Go.RowKit
theorem Made.first {w w' : World} {A : Option Addr} {n c : Nat} {L : List UInt8} (h : Made w w' (.slice A n c) L) (hp : 0 < L.length) : ∃ (g : Nat) (b : UInt8), A = some ⟨g, 0, none⟩ ∧ w.heap.size ≤ g ∧ g < w'.heap.size ∧ w'.cell? ⟨g, 0, none⟩ = some (.int .u8 (b.toNat : Int)) ∧ w'.frozen? ⟨g, 0, none⟩ = false := by
  obtain ⟨A2, c2, e, _, hr, _⟩ := own_map h.own
  cases e
  obtain ⟨ad, e1, _, hc⟩ := hr.2 hp
  subst e1
  rcases h.own.2 with ⟨e, _⟩ | ⟨k, cap, cur, e, hb, hh, _⟩
  · cases e
  · injection e with e
    injection e with e
    subst e
    have h0 := hc 0 (bv L[0]) (by rw [List.getElem?_map, List.getElem?_eq_getElem hp]; rfl)
    rw [add_lit0] at h0
    exact ⟨k, L[0], rfl, hb, (Array.getElem?_eq_some_iff.1 hh).1, h0, (cell_row hh 0).2⟩
namespace tapeWrites
abbrev Args (w : World) (sc : List UInt8) (A1 : Option Addr) (n1 : Nat) (xs : List Ans) : Prop :=
  RdA w w.heap.size A1 n1 xs ∧ (∀ x ∈ xs, okA x) ∧ n1 ≤ maxLen ∧ sc.length ≤ 9223372036854775807
theorem fits_few {n : Nat} {xs : List Ans} (h : fewA n xs = true) (ho : ∀ x ∈ xs, okA x) : (∀ x ∈ xs, fitA x ∧ ∀ r ∈ x.l, r.length ≤ 100000000) ∧ n ≤ 40 ∧ ((∀ x ∈ xs, (tellX x).length ≤ 3000)) := by
  obtain ⟨h1, h2⟩ := fewA_yes h
  refine ⟨fun x hx => ?_, h1, fun x hx => (short_tell x (h2 x hx) (ho x hx)).2⟩
  have h3 := short_tell x (h2 x hx) (ho x hx)
  obtain ⟨a, b, c⟩ := h2 x hx
  exact ⟨⟨ho x hx, by omega, by omega, by omega⟩, fun r hr => by have := c r hr; omega⟩
set_option maxRecDepth 100000 in
theorem walkX (w : World) (sc : List UInt8) (A1 : Option Addr) (n1 c1 : Nat) (xs : List Ans) (h : Args w sc A1 n1 xs) (hx : fewA n1 xs = false ∨ (fewA n1 xs = true ∧ 5000 < sc.length)) :
    Calls Try.prog 3 #[.string (mkS sc), .slice A1 n1 c1] w fun e w' => e = .returned (.bool true) ∧ Below w.heap.size w w' := by
  have H := Lib.hid h
  have hz := mkS_size sc
  obtain ⟨k, hk⟩ : ∃ k, sc.length = k := ⟨_, rfl⟩
  rw [hk] at hz hx
  clear h hk
  rcases hx with hx | ⟨hx, h2⟩
  all_goals
    go_enter Try.func3, Try.ntmps3
    go_wp2_with (first
      | (go_at_call 8; (with_reducible refine (tapeAwake_v _).mono ?_); rintro e w1 ⟨rfl, hb1⟩; have HB1 := Lib.hid hb1; clear hb1)
      | (go_at_call 9; (with_reducible refine (fewA_v _ _ _ xs w1 (H.out.1.later HB1.out) H.out.2.2.1).mono ?_); rintro e w2 ⟨rfl, rfl⟩; rw [hx]))
    go_ret
    exact ⟨rfl, HB1.out⟩
set_option maxRecDepth 100000 in
theorem walkL (w : World) (sc : List UInt8) (A1 : Option Addr) (n1 c1 : Nat) (xs : List Ans) (h : Args w sc A1 n1 xs) (hx : fewA n1 xs = true) (h4 : 4096 < sc.length) (h5 : ¬ 5000 < sc.length) :
    Calls Try.prog 3 #[.string (mkS sc), .slice A1 n1 c1] w fun e w' => e = .returned (.bool true) ∧ Below w.heap.size w w' := by
  have H := Lib.hid h
  have hz := mkS_size sc
  have CN := Lib.hid (fun W => wnew_long sc W h4)
  have CA := Lib.hid (fun W => wadd_nil A1 n1 c1 W)
  have CB := Lib.hid wbytes_nil
  obtain ⟨k, hk⟩ : ∃ k, sc.length = k := ⟨_, rfl⟩
  rw [hk] at hz h4 h5
  clear h hk
  go_enter Try.func3, Try.ntmps3
  go_wp2_with (first
    | (go_at_call 8; (with_reducible refine (tapeAwake_v _).mono ?_); rintro e w1 ⟨rfl, hb1⟩; have HB1 := Lib.hid hb1; clear hb1)
    | (go_at_call 9; (with_reducible refine (fewA_v _ _ _ xs w1 (H.out.1.later HB1.out) H.out.2.2.1).mono ?_); rintro e w2 ⟨rfl, rfl⟩; rw [hx])
    | (go_at_call 10; (with_reducible refine (CN.out _).mono ?_); rintro e w2 ⟨rfl, rfl⟩)
    | (go_at_call 11; (with_reducible refine (CA.out _).mono ?_); rintro e w2 ⟨rfl, rfl⟩)
    | (go_at_call 12; (with_reducible refine (CB.out _).mono ?_); rintro e w2 ⟨rfl, rfl⟩))
  go_ret
  exact ⟨rfl, HB1.out⟩
attribute [local go_sem ↓] Go.wp_at_zero Go.wp_at_succ
set_option maxRecDepth 100000 in
set_option maxHeartbeats 2000000 in
theorem walkM (w : World) (sc : List UInt8) (A1 : Option Addr) (n1 c1 : Nat) (xs : List Ans) (h : Args w sc A1 n1 xs) (hx : fewA n1 xs = true) (h4 : sc.length ≤ 4096) :
    Calls Try.prog 3 #[.string (mkS sc), .slice A1 n1 c1] w fun e w' => e = .returned (.bool true) ∧ Below w.heap.size w w' := by
  obtain ⟨k1, k2, k3⟩ := fits_few hx h.2.1
  have hz := mkS_size sc
  obtain ⟨hq0, hhd⟩ : ∃ hq0, hq0 = frameL (markL ++ sc) := ⟨_, rfl⟩
  obtain ⟨L, hL⟩ : ∃ L, L = hq0 ++ bodyL xs := ⟨_, rfl⟩
  have hLl : L.length ≤ 140000 ∧ 0 < L.length ∧ hq0.length + (bodyL xs).length = L.length := by
    have h1 := frameL_len (markL ++ sc)
    have h2 : (markL ++ sc).length = 14 + sc.length := by rw [List.length_append]; rfl
    have h3 := numL_ten (show (markL ++ sc).length < 18446744073709551616 by omega)
    have h5 := bodyL_small xs k3
    have h6 : xs.length ≤ 40 := by rw [h.1.1]; exact k2
    rw [← hhd] at h1
    rw [hL, List.length_append]; omega
  have cn := fun W => wnew_v sc W h4
  have ca := fun B g v W hw hB hr => wadd_v B g v (frameL (markL ++ sc)) A1 n1 c1 xs W hw hB hr h.2.2.1 (fun x hx => (k1 x hx).1) (by rw [← hhd]; omega)
  have cb := fun B g v W hw => wbytes_k (B := B) (g := g) (v := v) (L := L) W hw hLl.2.1 (by omega)
  have ch := fun W => refHead_v sc W (by omega)
  rw [← hhd] at cn ca ch
  rw [← hL] at ca
  obtain ⟨bb, hbb⟩ : ∃ bb, bb = xs.all okB := ⟨_, rfl⟩
  rw [← hbb] at ca
  obtain ⟨m, hm⟩ : ∃ m, L.length = m := ⟨_, rfl⟩
  rw [hm] at cb
  have PK := Lib.hid (And.intro cn (And.intro ca (And.intro cb ch)))
  have H := Lib.hid h
  have HX := Lib.hid (And.intro hLl (And.intro hL (And.intro hbb (And.intro k1 hm))))
  obtain ⟨sz, hsz⟩ : ∃ z, sc.length = z := ⟨_, rfl⟩
  rw [hsz] at hz h4
  have h4i : ¬ 4096 < sz := by omega
  have h5i : ¬ 5000 < sz := by omega
  have hnm : n1 ≤ 9223372036854775807 := h.2.2.1
  clear cn ca cb ch h k1 k2 k3 hLl hL hsz h4 hhd hbb hm
  go_enter Try.func3, Try.ntmps3
  go_wp2_with (first
    | (go_at_call 8; (with_reducible refine (tapeAwake_v _).mono ?_); rintro e w1 ⟨rfl, hb1⟩; have HB1 := Lib.hid hb1; clear hb1)
    | (go_at_call 9; (with_reducible refine (fewA_v _ _ _ xs w1 (H.out.1.later HB1.out) H.out.2.2.1).mono ?_); rintro e w2 ⟨rfl, rfl⟩; rw [hx])
    | (go_at_call 10; (with_reducible refine (PK.out.1 _).mono ?_); rintro e w3 ⟨g, v, rfl, hw3, hl3⟩; have W3 := Lib.hid hw3; have L3 := Lib.hid (Later.trans HB1.out hl3); have HL3 := Lib.hid hl3; clear hw3 hl3)
    | (go_at_call 13; (with_reducible refine (PK.out.2.2.2 _).mono ?_); rintro e w4 ⟨rfl, hl4⟩; have L4 := Lib.hid (Later.trans L3.out hl4); have W4 := Lib.hid (W3.out.later hl4); have HL4 := Lib.hid (Later.trans HL3.out hl4); clear hl4))
  go_loopw [8, 9, 10] (fun s b i wr => ∃ (k : Nat) (q : Bool) (D : List UInt8), k ≤ n1 ∧ i = .int .i64 (k : Int) ∧ b = .bool q ∧ s = .string (mkS D) ∧ (q = true → (∀ (j : Nat) (h : j < xs.length), j < k → okB xs[j] = true) ∧ D = hq0 ++ bodyL (xs.take k)) ∧ (q = false → bb = false ∧ D = L) ∧ Later w4 wr) (fun _ _ i _ => n1 - (intOf i).toNat)
  case atStart => exact ⟨0, true, hq0, by omega, rfl, rfl, rfl, fun _ => ⟨fun j _ h => by omega, by simp [bodyL]⟩, (fun h => by cases h), Later.refl _⟩
  case round =>
    obtain ⟨k, q, D, hk, rfl, rfl, rfl, hq1, hq2, hlr⟩ := hrel
    have HQ := Lib.hid (And.intro hq1 hq2)
    have HLR := Lib.hid hlr
    clear hq1 hq2 hlr
    by_cases hkn : k < n1
    · rcases Bool.eq_false_or_eq_true q with hq | hq
      case inr =>
        have hqb : bb = q := by rw [(HQ.out.2 hq).1, hq]
        have hdl : L = D := (HQ.out.2 hq).2.symm
        have hkni : (k : Int) < (n1 : Int) := by omega
        have WR := Lib.hid (W4.out.later HLR.out)
        have BR := Lib.hid (Nat.le_trans HL4.out.size HLR.out.size)
        have AR := Lib.hid (((H.out.1.later HB1.out).below (Later.trans HL4.out HLR.out)).apart (S := wS g v) BR.out WR.out.high)
        have LR := Lib.hid (Later.trans L4.out HLR.out)
        have hmp : (0 : Int) < (m : Int) := by have := HX.out.1; have := HX.out.2.2.2.2; omega
        obtain rfl := hqb
        obtain rfl := hdl
        clear HQ
        go_wp2_with (first
          | (go_at_call 11; (with_reducible refine (PK.out.2.1 _ _ _ _ WR.out BR.out AR.out).mono ?_); rintro e w5 ⟨v5, rfl, hw5, ho5, hm5⟩; have W5 := Lib.hid hw5; have L5 := Lib.hid (Below.trans LR.out (ho5.below LR.out.size fun i hi => Nat.le_trans HB1.out.size (WR.out.high i hi))); clear hw5 ho5 hm5)
          | (go_at_call 12; (with_reducible refine (PK.out.2.2.1 _ _ _ w5 W5.out).mono ?_); rintro e w6 ⟨A6, c6, rfl, hm6, hl6, hr6, hc6, hx6⟩; have W6 := Lib.hid (W5.out.later hl6); have L6 := Lib.hid (Below.trans L5.out (Below.mono hl6 L5.out.size)); have hcv6 := run_str_of (P := Try.prog) hr6 28 9 5 Try.underlying28 Try.underlying5 Try.underlying9 c6; clear hm6 hl6 hr6 hc6 hx6)
          | (go_at_call 12; (with_reducible refine (PK.out.2.2.1 _ _ _ w6 W6.out).mono ?_); rintro e w7 ⟨A7, c7, rfl, hm7, hl7, hr7, hc7, hx7⟩; obtain ⟨g7, y7, rfl, hlo7, hlt7, hce7, hfr7⟩ := hm7.first HX.out.1.2.1; have HW8 := Lib.hid (fun u => (W6.out.later hl7).only (only_set w7 g7 0 u) (fun e => by have := W6.out.lt g (.inl rfl); omega) (fun i e e2 => by have := W6.out.lt i (.inr e); omega)); have L8 := Lib.hid (fun u => Below.trans (Below.trans L6.out (Below.mono hl7 L6.out.size)) ((only_set w7 g7 0 u).below (Nat.le_trans L6.out.size hl7.size) fun i e => by rw [e]; exact Nat.le_trans L6.out.size hlo7)); clear hcv6 hm7 hl7 hr7 hc7 hx7)
          | (go_at_call 12; (with_reducible refine (PK.out.2.2.1 _ _ _ _ (HW8.out _)).mono ?_); rintro e w9 ⟨A9, c9, rfl, hm9, hl9, hr9, hc9, hx9⟩; have L9 := Lib.hid (Below.trans (L8.out _) (Below.mono hl9 (L8.out _).size)); have hcv9 := run_str_of (P := Try.prog) hr9 28 9 5 Try.underlying28 Try.underlying5 Try.underlying9 c9; clear hm9 hl9 hr9 hc9 hx9))
        go_ret
        exact ⟨rfl, L9.out⟩
      subst hq
      · have hkx : k < xs.length := by rw [H.out.1.1]; exact hkn
        obtain ⟨ad, A', c', rfl, hx1⟩ := (H.out.1.later (Later.trans L4.out HLR.out)).2 k hkx
        obtain ⟨x, hx0⟩ : ∃ x, x = xs[k]'hkx := ⟨_, rfl⟩
        rw [← hx0] at hx1
        have hfx := (HX.out.2.2.2.1 x (by rw [hx0]; exact List.getElem_mem hkx)).1
        have H1 := Lib.hid hx1
        have HX0 := Lib.hid hx0
        have hk0 : (0 : Int) ≤ (k : Int) := by omega
        have hk1 : (k : Int) < (n1 : Int) := by omega
        obtain ⟨hqa, hqd⟩ := HQ.out.1 rfl
        have cf := fun W' => refFits_v x.k x.k x.e x.n x.m x.t A' x.l.length c' x.s W'
        have HQA := Lib.hid hqa
        have HQD := Lib.hid hqd
        clear hx1 hqa hqd HQ
        by_cases hb : okB x = true
        · rw [show fitsB x.k x.k x.e x.s x.l.length = true from hb] at cf
          have CF := Lib.hid cf
          obtain ⟨f, hf⟩ : ∃ f, f = tellX x := ⟨_, rfl⟩
          have cte : ∀ W, Later wr W → Calls Try.prog 16 #[.agg #[.int .i64 x.k, .int .i64 x.e, .int .i64 x.n, .int .i64 x.m, .string (mkS x.t), .slice A' x.l.length c', .int .i64 x.s]] W fun r W' => r = .returned (.string (mkS f)) ∧ Later W W' := fun W h => by
            rw [hf]
            exact refTell_v x.k x.e x.n x.m x.t A' x.l.length c' x.l x.s W (rd_later H1.out.row h) (by have := hfx.2.1; omega) (by have := hfx.2.2.1; omega) hfx.1.1.1 hfx.1.1.2 hfx.1.2.1 hfx.1.2.2
          have co := fun W => refOne_v f W (by have := hfx.2.2.2; rw [hf]; omega)
          have hsn := bodyL_snoc xs k hkx HQA.out (by rw [← hx0]; exact hb)
          rw [← hx0, ← hf] at hsn
          have hlen1 := bodyL_le xs (k + 1) hkx (fun j hj hjk => by
            by_cases e : j = k
            · subst e; rw [← hx0]; exact hb
            · exact HQA.out j hj (by omega))
          obtain ⟨T, hT⟩ : ∃ T, T = frameL f := ⟨_, rfl⟩
          rw [← hT] at co hsn
          obtain ⟨D2, hD2⟩ : ∃ D2, D2 = D ++ T := ⟨_, rfl⟩
          have hD2' : D2 = hq0 ++ bodyL (xs.take (k + 1)) := by rw [hD2, hsn, HQD.out, List.append_assoc]
          have hDb : D2.length ≤ 140000 := by rw [hD2', List.length_append]; have := HX.out.1; omega
          have hDb1 : D.length + T.length ≤ 140000 := by rw [← List.length_append, ← hD2]; exact hDb
          have zD := mkS_size D
          have zT := mkS_size T
          have had : mkS D ++ mkS T = mkS D2 := by rw [mkS_add, hD2]
          obtain ⟨dl, hdl⟩ : ∃ dl, D.length = dl := ⟨_, rfl⟩
          obtain ⟨tl, htl⟩ : ∃ tl, T.length = tl := ⟨_, rfl⟩
          rw [hdl, htl] at hDb1
          rw [hdl] at zD
          rw [htl] at zT
          have CTE := Lib.hid cte
          have CO := Lib.hid co
          have HD2 := Lib.hid hD2'
          have HB := Lib.hid hb
          clear cf cte co hsn hlen1 hf hT hD2 hD2' hDb hdl htl hb hx0 hfx
          go_wp2
          refine wp_region_owes (by kernel_rfl) (fun W => Later wr W) (Later) (Later.refl) [Sp.val (.slice (some ad) n1 c1), Sp.val (.int .i64 (k : Int)), Sp.val (.pointer (some (ad.add (k * 7)))), Sp.val (.pointer (some (ad.add (k * 7)))), Sp.val (.int .i64 x.k), Sp.val (.slice (some ad) n1 c1), Sp.val (.int .i64 (k : Int)), Sp.val (.pointer (some (ad.add (k * 7)))), Sp.val ((ansV x.k x.e x.n x.m x.t A' x.l.length c' x.s)), Sp.val (.bool true), Sp.val (.bool true)] (by kernel_rfl) (Later.drew wr) ?_ ?_
          · refine ⟨?_, ?_, ?_, ?_, ?_, ?_, ?_, ?_, ?_, ?_, ?_, trivial⟩
            · -- 0: slot 54 := Op.move t1
              refine fun a w hC hs => .inl ⟨?_, ?_⟩
              · rfl
              have e1 : a.tmps.getD 1 undef = .slice (some ad) n1 c1 := hs.free 1 rfl
              exact ⟨e1, hC, Later.refl _⟩
            · -- 1: slot 55 := Op.move t10
              refine fun a w hC hs => .inl ⟨?_, ?_⟩
              · rfl
              have e10 : a.tmps.getD 10 undef = .int .i64 (k : Int) := hs.free 10 rfl
              exact ⟨e10, hC, Later.refl _⟩
            · -- 2: slot 56 := Op.indexAddr 22 t54 t55
              refine fun a w hC hs => .inl ⟨?_, ?_⟩
              · rfl
              have e54 : a.tmps.getD 54 undef = .slice (some ad) n1 c1 := hs.dep 0 _ rfl rfl
              have e55 : a.tmps.getD 55 undef = .int .i64 (k : Int) := hs.dep 1 _ rfl rfl
              refine ValWp.pure (v := .pointer (some (ad.add (k * 7)))) (fun K' hK' => ?_) ⟨rfl, hC, Later.refl _⟩
              simp only [ValWp, execOp, Act.eval, e54, e55]
              go_simp
              all_goals exact hK'
            · -- 3: slot 57 := Op.fieldAddr 34 t56 0
              refine fun a w hC hs => .inl ⟨?_, ?_⟩
              · rfl
              have e56 : a.tmps.getD 56 undef = .pointer (some (ad.add (k * 7))) := hs.dep 2 _ rfl rfl
              refine ValWp.pure (v := .pointer (some (ad.add (k * 7)))) (fun K' hK' => ?_) ⟨rfl, hC, Later.refl _⟩
              simp only [ValWp, execOp, Act.eval, e56]
              go_simp
              all_goals exact hK'
            · -- 4: slot 58 := Op.load 3 t57
              refine fun a w hC hs => .inl ⟨?_, ?_⟩
              · rfl
              have e57 : a.tmps.getD 57 undef = .pointer (some (ad.add (k * 7))) := hs.dep 3 _ rfl rfl
              have hz := H1.out.keep fun p hp => Below.cell hC hp
              obtain ⟨_, q0, q1, q2, q3, q4, q5, q6, _, _⟩ := hz
              refine ValWp.pure (v := .int .i64 x.k) (fun K' hK' => ?_) ⟨rfl, hC, Later.refl _⟩
              simp only [ValWp, execOp, Act.eval, e57]
              go_simp
              all_goals exact hK'
            · -- 5: slot 59 := Op.move t1
              refine fun a w hC hs => .inl ⟨?_, ?_⟩
              · rfl
              have e1 : a.tmps.getD 1 undef = .slice (some ad) n1 c1 := hs.free 1 rfl
              exact ⟨e1, hC, Later.refl _⟩
            · -- 6: slot 60 := Op.move t10
              refine fun a w hC hs => .inl ⟨?_, ?_⟩
              · rfl
              have e10 : a.tmps.getD 10 undef = .int .i64 (k : Int) := hs.free 10 rfl
              exact ⟨e10, hC, Later.refl _⟩
            · -- 7: slot 61 := Op.indexAddr 22 t59 t60
              refine fun a w hC hs => .inl ⟨?_, ?_⟩
              · rfl
              have e59 : a.tmps.getD 59 undef = .slice (some ad) n1 c1 := hs.dep 5 _ rfl rfl
              have e60 : a.tmps.getD 60 undef = .int .i64 (k : Int) := hs.dep 6 _ rfl rfl
              refine ValWp.pure (v := .pointer (some (ad.add (k * 7)))) (fun K' hK' => ?_) ⟨rfl, hC, Later.refl _⟩
              simp only [ValWp, execOp, Act.eval, e59, e60]
              go_simp
              all_goals exact hK'
            · -- 8: slot 62 := Op.load 34 t61
              refine fun a w hC hs => .inl ⟨?_, ?_⟩
              · rfl
              have e61 : a.tmps.getD 61 undef = .pointer (some (ad.add (k * 7))) := hs.dep 7 _ rfl rfl
              have hz := H1.out.keep fun p hp => Below.cell hC hp
              obtain ⟨_, q0, q1, q2, q3, q4, q5, q6, _, _⟩ := hz
              refine ValWp.pure (v := (ansV x.k x.e x.n x.m x.t A' x.l.length c' x.s)) (fun K' hK' => ?_) ⟨rfl, hC, Later.refl _⟩
              simp only [ValWp, execOp, Act.eval, e61]
              go_simp
              all_goals exact hK'
            · -- 9: slot 63 := Op.call { value (Operand.func 14), args := #[t58, t62], argTypes := #[3, 34] }
              refine fun a w hC hs => .inl ⟨?_, ?_⟩
              · rfl
              have e58 : a.tmps.getD 58 undef = .int .i64 x.k := hs.dep 4 _ rfl rfl
              have e62 : a.tmps.getD 62 undef = (ansV x.k x.e x.n x.m x.t A' x.l.length c' x.s) := hs.dep 8 _ rfl rfl
              refine ValWp.call #[.int .i64 x.k, (ansV x.k x.e x.n x.m x.t A' x.l.length c' x.s)] rfl rfl Try.func14 rfl rfl (by simp only [List.map_toArray, List.map_cons, List.map_nil, Act.eval, e58, e62]) ?_
              refine (CF.out w).mono ?_
              rintro r w' ⟨rfl, hb⟩
              exact ⟨_, rfl, rfl, Later.trans hC hb, hb⟩
            · -- 10: slot 9 := Op.assign t63
              refine fun a w hC hs => .inl ⟨?_, ?_⟩
              · rfl
              have e63 : a.tmps.getD 63 undef = .bool true := hs.dep 9 _ rfl rfl
              exact ⟨e63, hC, Later.refl _⟩
          · intro a W hC hd hsz hfree hs
            obtain ⟨u45, hu45⟩ : ∃ u, u = a.tmps.getD 45 undef := ⟨_, rfl⟩
            obtain ⟨u46, hu46⟩ : ∃ u, u = a.tmps.getD 46 undef := ⟨_, rfl⟩
            obtain ⟨u47, hu47⟩ : ∃ u, u = a.tmps.getD 47 undef := ⟨_, rfl⟩
            obtain ⟨u48, hu48⟩ : ∃ u, u = a.tmps.getD 48 undef := ⟨_, rfl⟩
            obtain ⟨u49, hu49⟩ : ∃ u, u = a.tmps.getD 49 undef := ⟨_, rfl⟩
            obtain ⟨u50, hu50⟩ : ∃ u, u = a.tmps.getD 50 undef := ⟨_, rfl⟩
            obtain ⟨u51, hu51⟩ : ∃ u, u = a.tmps.getD 51 undef := ⟨_, rfl⟩
            obtain ⟨u52, hu52⟩ : ∃ u, u = a.tmps.getD 52 undef := ⟨_, rfl⟩
            obtain ⟨u53, hu53⟩ : ∃ u, u = a.tmps.getD 53 undef := ⟨_, rfl⟩
            obtain ⟨u54, hu54⟩ : ∃ u, u = a.tmps.getD 54 undef := ⟨_, rfl⟩
            obtain ⟨u55, hu55⟩ : ∃ u, u = a.tmps.getD 55 undef := ⟨_, rfl⟩
            obtain ⟨u56, hu56⟩ : ∃ u, u = a.tmps.getD 56 undef := ⟨_, rfl⟩
            obtain ⟨u57, hu57⟩ : ∃ u, u = a.tmps.getD 57 undef := ⟨_, rfl⟩
            obtain ⟨u58, hu58⟩ : ∃ u, u = a.tmps.getD 58 undef := ⟨_, rfl⟩
            obtain ⟨u59, hu59⟩ : ∃ u, u = a.tmps.getD 59 undef := ⟨_, rfl⟩
            obtain ⟨u60, hu60⟩ : ∃ u, u = a.tmps.getD 60 undef := ⟨_, rfl⟩
            obtain ⟨u61, hu61⟩ : ∃ u, u = a.tmps.getD 61 undef := ⟨_, rfl⟩
            obtain ⟨u62, hu62⟩ : ∃ u, u = a.tmps.getD 62 undef := ⟨_, rfl⟩
            obtain ⟨u63, hu63⟩ : ∃ u, u = a.tmps.getD 63 undef := ⟨_, rfl⟩
            obtain ⟨u64, hu64⟩ : ∃ u, u = a.tmps.getD 64 undef := ⟨_, rfl⟩
            obtain ⟨u65, hu65⟩ : ∃ u, u = a.tmps.getD 65 undef := ⟨_, rfl⟩
            obtain ⟨u66, hu66⟩ : ∃ u, u = a.tmps.getD 66 undef := ⟨_, rfl⟩
            obtain ⟨u67, hu67⟩ : ∃ u, u = a.tmps.getD 67 undef := ⟨_, rfl⟩
            obtain ⟨u68, hu68⟩ : ∃ u, u = a.tmps.getD 68 undef := ⟨_, rfl⟩
            obtain ⟨u69, hu69⟩ : ∃ u, u = a.tmps.getD 69 undef := ⟨_, rfl⟩
            obtain ⟨u70, hu70⟩ : ∃ u, u = a.tmps.getD 70 undef := ⟨_, rfl⟩
            obtain ⟨u71, hu71⟩ : ∃ u, u = a.tmps.getD 71 undef := ⟨_, rfl⟩
            obtain ⟨u72, hu72⟩ : ∃ u, u = a.tmps.getD 72 undef := ⟨_, rfl⟩
            have hal : AllAt a 0 [.string (mkS sc), .slice (some ad) n1 c1, undef, undef, .bool false, .bool true, .bool true, .pointer (some ⟨g, 0, none⟩), .string (mkS D), .bool true, .int .i64 (k : Int), undef, .bool true, .bool true, .bool false, .slice (some ad) n1 c1, .bool true, .bool true, .bool false, .bool false, .string (mkS sc), .int .i64 (sz : Int), .bool (decide ((5000 : Int) < (sz : Int))), .bool (decide ((5000 : Int) < (sz : Int))), .string (mkS sc), .pointer (some ⟨g, 0, none⟩), .string (mkS sc), .int .i64 (sz : Int), .bool (decide ((4096 : Int) < (sz : Int))), undef, undef, undef, undef, undef, undef, undef, undef, undef, undef, undef, undef, undef, undef, .string (mkS sc), .string (mkS hq0), u45, u46, u47, u48, u49, u50, u51, u52, u53, u54, u55, u56, u57, u58, u59, u60, u61, u62, u63, u64, u65, u66, u67, u68, u69, u70, u71, u72, undef, undef, undef, undef, undef, undef, undef, undef, undef, undef, undef, undef, undef, undef, undef, undef, undef, undef, undef, undef, undef, undef, undef, undef, undef, undef, undef, undef] := ⟨hfree 0 rfl, hfree 1 rfl, hfree 2 rfl, hfree 3 rfl, hfree 4 rfl, hfree 5 rfl, hfree 6 rfl, hfree 7 rfl, hfree 8 rfl, hs 10 _ rfl, hfree 10 rfl, hfree 11 rfl, hfree 12 rfl, hfree 13 rfl, hfree 14 rfl, hfree 15 rfl, hfree 16 rfl, hfree 17 rfl, hfree 18 rfl, hfree 19 rfl, hfree 20 rfl, hfree 21 rfl, hfree 22 rfl, hfree 23 rfl, hfree 24 rfl, hfree 25 rfl, hfree 26 rfl, hfree 27 rfl, hfree 28 rfl, hfree 29 rfl, hfree 30 rfl, hfree 31 rfl, hfree 32 rfl, hfree 33 rfl, hfree 34 rfl, hfree 35 rfl, hfree 36 rfl, hfree 37 rfl, hfree 38 rfl, hfree 39 rfl, hfree 40 rfl, hfree 41 rfl, hfree 42 rfl, hfree 43 rfl, hfree 44 rfl, hu45.symm, hu46.symm, hu47.symm, hu48.symm, hu49.symm, hu50.symm, hu51.symm, hu52.symm, hu53.symm, hu54.symm, hu55.symm, hu56.symm, hu57.symm, hu58.symm, hu59.symm, hu60.symm, hu61.symm, hu62.symm, hu63.symm, hu64.symm, hu65.symm, hu66.symm, hu67.symm, hu68.symm, hu69.symm, hu70.symm, hu71.symm, hu72.symm, hfree 73 rfl, hfree 74 rfl, hfree 75 rfl, hfree 76 rfl, hfree 77 rfl, hfree 78 rfl, hfree 79 rfl, hfree 80 rfl, hfree 81 rfl, hfree 82 rfl, hfree 83 rfl, hfree 84 rfl, hfree 85 rfl, hfree 86 rfl, hfree 87 rfl, hfree 88 rfl, hfree 89 rfl, hfree 90 rfl, hfree 91 rfl, hfree 92 rfl, hfree 93 rfl, hfree 94 rfl, hfree 95 rfl, hfree 96 rfl, hfree 97 rfl, hfree 98 rfl, hfree 99 rfl, hfree 100 rfl, trivial⟩
            have hlit := fun h => act_lit hd h hal
            rw [hlit hsz]
            clear hlit hal hd hsz hfree hs hu45 hu46 hu47 hu48 hu49 hu50 hu51 hu52 hu53 hu54 hu55 hu56 hu57 hu58 hu59 hu60 hu61 hu62 hu63 hu64 hu65 hu66 hu67 hu68 hu69 hu70 hu71 hu72
            have HLC := Lib.hid hC
            obtain ⟨_, q0, q1, q2, q3, q4, q5, q6, _, _⟩ := H1.out.keep fun p hp => Below.cell hC hp
            clear hC CF
            go_wp2_with (first
              | (go_at_call 16; (with_reducible refine (CTE.out _ HLC.out).mono ?_); rintro e w11 ⟨rfl, hl11⟩; have L11 := Lib.hid hl11; clear hl11)
              | (go_at_call 15; (with_reducible refine (CO.out _).mono ?_); rintro e w12 ⟨rfl, hl12⟩; have HLB := Lib.hid (Later.trans HLR.out (Later.trans HLC.out (Later.trans L11.out hl12))); clear hl12))
            go_roundw
            case rel => exact ⟨k + 1, true, D2, by omega, by go_num, rfl, rfl, fun _ => ⟨fun j hj hjk => by
              by_cases e : j = k
              · subst e; rw [← HX0.out]; exact HB.out
              · exact HQA.out j hj (by omega), HD2.out⟩, (fun h => by cases h), HLB.out⟩
            case measure => simp [intOf]; omega
        · have hbf : okB x = false := by simpa using hb
          rw [show fitsB x.k x.k x.e x.s x.l.length = false from hbf] at cf
          have CF := Lib.hid cf
          have hstop := bodyL_stop xs k hkx HQA.out (by rw [← hx0]; exact hbf)
          have hnot := all_not xs k hkx (by rw [← hx0]; exact hbf)
          have HST := Lib.hid (show bb = false ∧ D = L from ⟨by rw [HX.out.2.2.1, hnot], by rw [HX.out.2.1, hstop, HQD.out]⟩)
          clear cf hstop hnot hb hbf hx0 hfx
          go_wp2
          refine wp_region_owes (by kernel_rfl) (fun W => Later wr W) (Later) (Later.refl) [Sp.val (.slice (some ad) n1 c1), Sp.val (.int .i64 (k : Int)), Sp.val (.pointer (some (ad.add (k * 7)))), Sp.val (.pointer (some (ad.add (k * 7)))), Sp.val (.int .i64 x.k), Sp.val (.slice (some ad) n1 c1), Sp.val (.int .i64 (k : Int)), Sp.val (.pointer (some (ad.add (k * 7)))), Sp.val ((ansV x.k x.e x.n x.m x.t A' x.l.length c' x.s)), Sp.val (.bool false), Sp.val (.bool false)] (by kernel_rfl) (Later.drew wr) ?_ ?_
          · refine ⟨?_, ?_, ?_, ?_, ?_, ?_, ?_, ?_, ?_, ?_, ?_, trivial⟩
            · -- 0: slot 54 := Op.move t1
              refine fun a w hC hs => .inl ⟨?_, ?_⟩
              · rfl
              have e1 : a.tmps.getD 1 undef = .slice (some ad) n1 c1 := hs.free 1 rfl
              exact ⟨e1, hC, Later.refl _⟩
            · -- 1: slot 55 := Op.move t10
              refine fun a w hC hs => .inl ⟨?_, ?_⟩
              · rfl
              have e10 : a.tmps.getD 10 undef = .int .i64 (k : Int) := hs.free 10 rfl
              exact ⟨e10, hC, Later.refl _⟩
            · -- 2: slot 56 := Op.indexAddr 22 t54 t55
              refine fun a w hC hs => .inl ⟨?_, ?_⟩
              · rfl
              have e54 : a.tmps.getD 54 undef = .slice (some ad) n1 c1 := hs.dep 0 _ rfl rfl
              have e55 : a.tmps.getD 55 undef = .int .i64 (k : Int) := hs.dep 1 _ rfl rfl
              refine ValWp.pure (v := .pointer (some (ad.add (k * 7)))) (fun K' hK' => ?_) ⟨rfl, hC, Later.refl _⟩
              simp only [ValWp, execOp, Act.eval, e54, e55]
              go_simp
              all_goals exact hK'
            · -- 3: slot 57 := Op.fieldAddr 34 t56 0
              refine fun a w hC hs => .inl ⟨?_, ?_⟩
              · rfl
              have e56 : a.tmps.getD 56 undef = .pointer (some (ad.add (k * 7))) := hs.dep 2 _ rfl rfl
              refine ValWp.pure (v := .pointer (some (ad.add (k * 7)))) (fun K' hK' => ?_) ⟨rfl, hC, Later.refl _⟩
              simp only [ValWp, execOp, Act.eval, e56]
              go_simp
              all_goals exact hK'
            · -- 4: slot 58 := Op.load 3 t57
              refine fun a w hC hs => .inl ⟨?_, ?_⟩
              · rfl
              have e57 : a.tmps.getD 57 undef = .pointer (some (ad.add (k * 7))) := hs.dep 3 _ rfl rfl
              have hz := H1.out.keep fun p hp => Below.cell hC hp
              obtain ⟨_, q0, q1, q2, q3, q4, q5, q6, _, _⟩ := hz
              refine ValWp.pure (v := .int .i64 x.k) (fun K' hK' => ?_) ⟨rfl, hC, Later.refl _⟩
              simp only [ValWp, execOp, Act.eval, e57]
              go_simp
              all_goals exact hK'
            · -- 5: slot 59 := Op.move t1
              refine fun a w hC hs => .inl ⟨?_, ?_⟩
              · rfl
              have e1 : a.tmps.getD 1 undef = .slice (some ad) n1 c1 := hs.free 1 rfl
              exact ⟨e1, hC, Later.refl _⟩
            · -- 6: slot 60 := Op.move t10
              refine fun a w hC hs => .inl ⟨?_, ?_⟩
              · rfl
              have e10 : a.tmps.getD 10 undef = .int .i64 (k : Int) := hs.free 10 rfl
              exact ⟨e10, hC, Later.refl _⟩
            · -- 7: slot 61 := Op.indexAddr 22 t59 t60
              refine fun a w hC hs => .inl ⟨?_, ?_⟩
              · rfl
              have e59 : a.tmps.getD 59 undef = .slice (some ad) n1 c1 := hs.dep 5 _ rfl rfl
              have e60 : a.tmps.getD 60 undef = .int .i64 (k : Int) := hs.dep 6 _ rfl rfl
              refine ValWp.pure (v := .pointer (some (ad.add (k * 7)))) (fun K' hK' => ?_) ⟨rfl, hC, Later.refl _⟩
              simp only [ValWp, execOp, Act.eval, e59, e60]
              go_simp
              all_goals exact hK'
            · -- 8: slot 62 := Op.load 34 t61
              refine fun a w hC hs => .inl ⟨?_, ?_⟩
              · rfl
              have e61 : a.tmps.getD 61 undef = .pointer (some (ad.add (k * 7))) := hs.dep 7 _ rfl rfl
              have hz := H1.out.keep fun p hp => Below.cell hC hp
              obtain ⟨_, q0, q1, q2, q3, q4, q5, q6, _, _⟩ := hz
              refine ValWp.pure (v := (ansV x.k x.e x.n x.m x.t A' x.l.length c' x.s)) (fun K' hK' => ?_) ⟨rfl, hC, Later.refl _⟩
              simp only [ValWp, execOp, Act.eval, e61]
              go_simp
              all_goals exact hK'
            · -- 9: slot 63 := Op.call { value (Operand.func 14), args := #[t58, t62], argTypes := #[3, 34] }
              refine fun a w hC hs => .inl ⟨?_, ?_⟩
              · rfl
              have e58 : a.tmps.getD 58 undef = .int .i64 x.k := hs.dep 4 _ rfl rfl
              have e62 : a.tmps.getD 62 undef = (ansV x.k x.e x.n x.m x.t A' x.l.length c' x.s) := hs.dep 8 _ rfl rfl
              refine ValWp.call #[.int .i64 x.k, (ansV x.k x.e x.n x.m x.t A' x.l.length c' x.s)] rfl rfl Try.func14 rfl rfl (by simp only [List.map_toArray, List.map_cons, List.map_nil, Act.eval, e58, e62]) ?_
              refine (CF.out w).mono ?_
              rintro r w' ⟨rfl, hb⟩
              exact ⟨_, rfl, rfl, Later.trans hC hb, hb⟩
            · -- 10: slot 9 := Op.assign t63
              refine fun a w hC hs => .inl ⟨?_, ?_⟩
              · rfl
              have e63 : a.tmps.getD 63 undef = .bool false := hs.dep 9 _ rfl rfl
              exact ⟨e63, hC, Later.refl _⟩
          · intro a W hC hd hsz hfree hs
            obtain ⟨u45, hu45⟩ : ∃ u, u = a.tmps.getD 45 undef := ⟨_, rfl⟩
            obtain ⟨u46, hu46⟩ : ∃ u, u = a.tmps.getD 46 undef := ⟨_, rfl⟩
            obtain ⟨u47, hu47⟩ : ∃ u, u = a.tmps.getD 47 undef := ⟨_, rfl⟩
            obtain ⟨u48, hu48⟩ : ∃ u, u = a.tmps.getD 48 undef := ⟨_, rfl⟩
            obtain ⟨u49, hu49⟩ : ∃ u, u = a.tmps.getD 49 undef := ⟨_, rfl⟩
            obtain ⟨u50, hu50⟩ : ∃ u, u = a.tmps.getD 50 undef := ⟨_, rfl⟩
            obtain ⟨u51, hu51⟩ : ∃ u, u = a.tmps.getD 51 undef := ⟨_, rfl⟩
            obtain ⟨u52, hu52⟩ : ∃ u, u = a.tmps.getD 52 undef := ⟨_, rfl⟩
            obtain ⟨u53, hu53⟩ : ∃ u, u = a.tmps.getD 53 undef := ⟨_, rfl⟩
            obtain ⟨u54, hu54⟩ : ∃ u, u = a.tmps.getD 54 undef := ⟨_, rfl⟩
            obtain ⟨u55, hu55⟩ : ∃ u, u = a.tmps.getD 55 undef := ⟨_, rfl⟩
            obtain ⟨u56, hu56⟩ : ∃ u, u = a.tmps.getD 56 undef := ⟨_, rfl⟩
            obtain ⟨u57, hu57⟩ : ∃ u, u = a.tmps.getD 57 undef := ⟨_, rfl⟩
            obtain ⟨u58, hu58⟩ : ∃ u, u = a.tmps.getD 58 undef := ⟨_, rfl⟩
            obtain ⟨u59, hu59⟩ : ∃ u, u = a.tmps.getD 59 undef := ⟨_, rfl⟩
            obtain ⟨u60, hu60⟩ : ∃ u, u = a.tmps.getD 60 undef := ⟨_, rfl⟩
            obtain ⟨u61, hu61⟩ : ∃ u, u = a.tmps.getD 61 undef := ⟨_, rfl⟩
            obtain ⟨u62, hu62⟩ : ∃ u, u = a.tmps.getD 62 undef := ⟨_, rfl⟩
            obtain ⟨u63, hu63⟩ : ∃ u, u = a.tmps.getD 63 undef := ⟨_, rfl⟩
            obtain ⟨u64, hu64⟩ : ∃ u, u = a.tmps.getD 64 undef := ⟨_, rfl⟩
            obtain ⟨u65, hu65⟩ : ∃ u, u = a.tmps.getD 65 undef := ⟨_, rfl⟩
            obtain ⟨u66, hu66⟩ : ∃ u, u = a.tmps.getD 66 undef := ⟨_, rfl⟩
            obtain ⟨u67, hu67⟩ : ∃ u, u = a.tmps.getD 67 undef := ⟨_, rfl⟩
            obtain ⟨u68, hu68⟩ : ∃ u, u = a.tmps.getD 68 undef := ⟨_, rfl⟩
            obtain ⟨u69, hu69⟩ : ∃ u, u = a.tmps.getD 69 undef := ⟨_, rfl⟩
            obtain ⟨u70, hu70⟩ : ∃ u, u = a.tmps.getD 70 undef := ⟨_, rfl⟩
            obtain ⟨u71, hu71⟩ : ∃ u, u = a.tmps.getD 71 undef := ⟨_, rfl⟩
            obtain ⟨u72, hu72⟩ : ∃ u, u = a.tmps.getD 72 undef := ⟨_, rfl⟩
            have hal : AllAt a 0 [.string (mkS sc), .slice (some ad) n1 c1, undef, undef, .bool false, .bool true, .bool true, .pointer (some ⟨g, 0, none⟩), .string (mkS D), .bool false, .int .i64 (k : Int), undef, .bool true, .bool true, .bool false, .slice (some ad) n1 c1, .bool true, .bool true, .bool false, .bool false, .string (mkS sc), .int .i64 (sz : Int), .bool (decide ((5000 : Int) < (sz : Int))), .bool (decide ((5000 : Int) < (sz : Int))), .string (mkS sc), .pointer (some ⟨g, 0, none⟩), .string (mkS sc), .int .i64 (sz : Int), .bool (decide ((4096 : Int) < (sz : Int))), undef, undef, undef, undef, undef, undef, undef, undef, undef, undef, undef, undef, undef, undef, .string (mkS sc), .string (mkS hq0), u45, u46, u47, u48, u49, u50, u51, u52, u53, u54, u55, u56, u57, u58, u59, u60, u61, u62, u63, u64, u65, u66, u67, u68, u69, u70, u71, u72, undef, undef, undef, undef, undef, undef, undef, undef, undef, undef, undef, undef, undef, undef, undef, undef, undef, undef, undef, undef, undef, undef, undef, undef, undef, undef, undef, undef] := ⟨hfree 0 rfl, hfree 1 rfl, hfree 2 rfl, hfree 3 rfl, hfree 4 rfl, hfree 5 rfl, hfree 6 rfl, hfree 7 rfl, hfree 8 rfl, hs 10 _ rfl, hfree 10 rfl, hfree 11 rfl, hfree 12 rfl, hfree 13 rfl, hfree 14 rfl, hfree 15 rfl, hfree 16 rfl, hfree 17 rfl, hfree 18 rfl, hfree 19 rfl, hfree 20 rfl, hfree 21 rfl, hfree 22 rfl, hfree 23 rfl, hfree 24 rfl, hfree 25 rfl, hfree 26 rfl, hfree 27 rfl, hfree 28 rfl, hfree 29 rfl, hfree 30 rfl, hfree 31 rfl, hfree 32 rfl, hfree 33 rfl, hfree 34 rfl, hfree 35 rfl, hfree 36 rfl, hfree 37 rfl, hfree 38 rfl, hfree 39 rfl, hfree 40 rfl, hfree 41 rfl, hfree 42 rfl, hfree 43 rfl, hfree 44 rfl, hu45.symm, hu46.symm, hu47.symm, hu48.symm, hu49.symm, hu50.symm, hu51.symm, hu52.symm, hu53.symm, hu54.symm, hu55.symm, hu56.symm, hu57.symm, hu58.symm, hu59.symm, hu60.symm, hu61.symm, hu62.symm, hu63.symm, hu64.symm, hu65.symm, hu66.symm, hu67.symm, hu68.symm, hu69.symm, hu70.symm, hu71.symm, hu72.symm, hfree 73 rfl, hfree 74 rfl, hfree 75 rfl, hfree 76 rfl, hfree 77 rfl, hfree 78 rfl, hfree 79 rfl, hfree 80 rfl, hfree 81 rfl, hfree 82 rfl, hfree 83 rfl, hfree 84 rfl, hfree 85 rfl, hfree 86 rfl, hfree 87 rfl, hfree 88 rfl, hfree 89 rfl, hfree 90 rfl, hfree 91 rfl, hfree 92 rfl, hfree 93 rfl, hfree 94 rfl, hfree 95 rfl, hfree 96 rfl, hfree 97 rfl, hfree 98 rfl, hfree 99 rfl, hfree 100 rfl, trivial⟩
            have hlit := fun h => act_lit hd h hal
            rw [hlit hsz]
            clear hlit hal hd hsz hfree hs hu45 hu46 hu47 hu48 hu49 hu50 hu51 hu52 hu53 hu54 hu55 hu56 hu57 hu58 hu59 hu60 hu61 hu62 hu63 hu64 hu65 hu66 hu67 hu68 hu69 hu70 hu71 hu72
            have HLC := Lib.hid (Later.trans HLR.out hC)
            clear hC CF
            go_wp2
            go_roundw
            case rel => exact ⟨k + 1, false, D, by omega, by go_num, rfl, rfl, (fun h => by cases h), fun _ => HST.out, HLC.out⟩
            case measure => simp [intOf]; omega
    · have hqb : bb = q ∧ L = D := by
        rcases Bool.eq_false_or_eq_true q with hq | hq
        · obtain ⟨h1, h2⟩ := HQ.out.1 hq
          have he : xs.take k = xs := List.take_of_length_le (by rw [H.out.1.1]; omega)
          rw [he] at h2
          exact ⟨by rw [HX.out.2.2.1, hq]; exact all_of xs fun j hj => h1 j hj (by have := H.out.1.1; omega), by rw [HX.out.2.1, h2]⟩
        · exact ⟨by rw [(HQ.out.2 hq).1, hq], (HQ.out.2 hq).2.symm⟩
      obtain ⟨hqb, hdl⟩ := hqb
      have hkni : ¬ (k : Int) < (n1 : Int) := by omega
      have WR := Lib.hid (W4.out.later HLR.out)
      have BR := Lib.hid (Nat.le_trans HL4.out.size HLR.out.size)
      have AR := Lib.hid (((H.out.1.later HB1.out).below (Later.trans HL4.out HLR.out)).apart (S := wS g v) BR.out WR.out.high)
      have LR := Lib.hid (Later.trans L4.out HLR.out)
      have hmp : (0 : Int) < (m : Int) := by have := HX.out.1; have := HX.out.2.2.2.2; omega
      obtain rfl := hqb
      obtain rfl := hdl
      clear HQ
      go_wp2_with (first
        | (go_at_call 11; (with_reducible refine (PK.out.2.1 _ _ _ _ WR.out BR.out AR.out).mono ?_); rintro e w5 ⟨v5, rfl, hw5, ho5, hm5⟩; have W5 := Lib.hid hw5; have L5 := Lib.hid (Below.trans LR.out (ho5.below LR.out.size fun i hi => Nat.le_trans HB1.out.size (WR.out.high i hi))); clear hw5 ho5 hm5)
        | (go_at_call 12; (with_reducible refine (PK.out.2.2.1 _ _ _ w5 W5.out).mono ?_); rintro e w6 ⟨A6, c6, rfl, hm6, hl6, hr6, hc6, hx6⟩; have W6 := Lib.hid (W5.out.later hl6); have L6 := Lib.hid (Below.trans L5.out (Below.mono hl6 L5.out.size)); have hcv6 := run_str_of (P := Try.prog) hr6 28 9 5 Try.underlying28 Try.underlying5 Try.underlying9 c6; clear hm6 hl6 hr6 hc6 hx6)
        | (go_at_call 12; (with_reducible refine (PK.out.2.2.1 _ _ _ w6 W6.out).mono ?_); rintro e w7 ⟨A7, c7, rfl, hm7, hl7, hr7, hc7, hx7⟩; obtain ⟨g7, y7, rfl, hlo7, hlt7, hce7, hfr7⟩ := hm7.first HX.out.1.2.1; have HW8 := Lib.hid (fun u => (W6.out.later hl7).only (only_set w7 g7 0 u) (fun e => by have := W6.out.lt g (.inl rfl); omega) (fun i e e2 => by have := W6.out.lt i (.inr e); omega)); have L8 := Lib.hid (fun u => Below.trans (Below.trans L6.out (Below.mono hl7 L6.out.size)) ((only_set w7 g7 0 u).below (Nat.le_trans L6.out.size hl7.size) fun i e => by rw [e]; exact Nat.le_trans L6.out.size hlo7)); clear hcv6 hm7 hl7 hr7 hc7 hx7)
        | (go_at_call 12; (with_reducible refine (PK.out.2.2.1 _ _ _ _ (HW8.out _)).mono ?_); rintro e w9 ⟨A9, c9, rfl, hm9, hl9, hr9, hc9, hx9⟩; have L9 := Lib.hid (Below.trans (L8.out _) (Below.mono hl9 (L8.out _).size)); have hcv9 := run_str_of (P := Try.prog) hr9 28 9 5 Try.underlying28 Try.underlying5 Try.underlying9 c9; clear hm9 hl9 hr9 hc9 hx9))
      go_ret
      exact ⟨rfl, L9.out⟩
theorem walk (w : World) (s : ByteArray) (hs : s.size ≤ maxLen) (A1 : Option Addr) (n1 c1 : Nat) (xs : List Ans) (h1 : RdA w w.heap.size A1 n1 xs ∧ (∀ x ∈ xs, okA x) ∧ n1 ≤ c1 ∧ c1 ≤ maxLen) :
    Calls Try.prog 3 #[.string s, .slice A1 n1 c1] w fun e w' => e = .returned (.bool true) ∧ Below w.heap.size w w' := by
  obtain ⟨sc, rfl, hsl⟩ := mkS_self s
  have h : Args w sc A1 n1 xs := ⟨h1.1, h1.2.1, Nat.le_trans h1.2.2.1 h1.2.2.2, by rw [hsl]; exact hs⟩
  by_cases hf : fewA n1 xs = true
  case neg => exact walkX w sc A1 n1 c1 xs h (.inl (by simpa using hf))
  by_cases h5 : 5000 < sc.length
  · exact walkX w sc A1 n1 c1 xs h (.inr ⟨hf, h5⟩)
  by_cases h4 : 4096 < sc.length
  · exact walkL w sc A1 n1 c1 xs h hf h4 h5
  exact walkM w sc A1 n1 c1 xs h hf (by omega)
end tapeWrites
end Go.Proofs.Ytemokpnepnmmkaa
