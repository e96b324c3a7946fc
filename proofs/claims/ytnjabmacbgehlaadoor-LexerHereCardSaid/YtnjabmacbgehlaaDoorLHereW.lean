/- The walk of LexerHere: whatever the lines, the word and the rest are, the call returns true. -/
import Derived.Test.YtnjabmacbgehlaaDoorLBlanksW
import Derived.Test.YtnjabmacbgehlaaDoorLxH
import Derived.Deep.MidRow
import Derived.Deep.WholeRow
import Derived.Deep.RegionHeld
namespace Go.Proofs.YtnjabmacbgehlaaDoor
open Go.RowKit Go.Maps
open Lx (nl Tok)
namespace lexerHere
theorem wpList_loadRun {P : Program} {ops : Array Oper} {rest : List Oper} {op : Oper} {a : Act} {w : World} {Q : Exit → Act → World → Prop} (hgd : op.guard = none) (ty : TypeId) (x : Operand) (ho : op.op = .load ty x) (p v : Value) (hx : a.eval x = p) (hr : (Instr.loadAt ty p).run P w = .ok v w) (h : wpList P ops Q rest (a.put op.dst v) w) : wpList P ops Q (op :: rest) a w :=
  wpList_plain hgd fun _ hK => by
    unfold Oper.wp execOp
    simp only [ho, hx, Sem.run_bind, hr, Result.andThen_ok, Sem.run_pure]
    exact hK _ _ h
theorem wpList_storeRun {P : Program} {ops : Array Oper} {rest : List Oper} {op : Oper} {a : Act} {w w' : World} {Q : Exit → Act → World → Prop} (hgd : op.guard = none) (ty : TypeId) (x y : Operand) (ho : op.op = .store ty x y) (p v : Value) (hx : a.eval x = p) (hy : a.eval y = v) (hr : (Instr.storeAt ty p v).run P w = .ok () w') (h : wpList P ops Q rest (a.put op.dst undef) w') : wpList P ops Q (op :: rest) a w :=
  wpList_plain hgd fun _ hK => by
    unfold Oper.wp execOp
    simp only [ho, hx, hy, Sem.run_bind, hr, Result.andThen_ok, Sem.run_pure]
    exact hK _ _ h
theorem tok_load {w : World} {B N n c : Nat} {e : TypeId} {ad : Addr} {ts : List Tok} (h : w.ownsRow B e 4 (.slice (some ad) n c) n (cellsT N ts)) (hn : n = ts.length) (i : Nat) (hi : i < ts.length) : (Instr.loadAt 33 (.pointer (some (ad.add (i * 4))))).run Tryd.prog w = .ok (.agg (tcs N ts[i])) w ∧ TokAt w N (ad.add (i * 4)) ts[i] ∧ ad.block < w.heap.size := by
  subst hn
  have ht := toks_at h i hi
  obtain ⟨ad', c', e1, _, _, hb, _⟩ := tok_at h hi
  injection e1 with e2 _ _
  injection e2 with e2
  subst e2
  rcases h.2 with ⟨h8, _⟩ | ⟨g, cap, cur, h9, _⟩
  · cases h8
  · injection h9 with h9 _ _
    injection h9 with h9
    subst h9
    refine ⟨?_, ht, hb⟩
    rw [add_lit0] at ht ⊢
    refine run_loadAt_mid (P := Tryd.prog) w g (i * 4) 33 (tcs N ts[i]).toList _ (fun j v hv => ?_) Tryd.underlying33 rfl (by kernel_rfl)
    have hj : j < 4 := (List.getElem?_eq_some_iff.1 hv).1
    match j, hj with
    | 0, _ => cases hv; exact ht.c0
    | 1, _ => cases hv; exact ht.c1
    | 2, _ => cases hv; exact ht.c2
    | 3, _ => cases hv; exact ht.c3
theorem tok_store (w : World) (c0 : Array Value) (k k' : Int) (t b : ByteArray) (h0 : c0.size = 4) : (Instr.storeAt 33 (.pointer (some ⟨w.heap.size, 0, none⟩)) (.agg #[.int .i64 k, .string t, .string b, .int .i64 k'])).run Tryd.prog (w.alloc (.cells c0 33)) = .ok () (w.alloc (.cells #[.int .i64 k, .string t, .string b, .int .i64 k'] 33)) :=
  run_storeAt_new w _ c0 _ (by kernel_rfl) h0 (Array.all_eq_true_iff_forall_mem.2 (by intro v hv; simp only [List.mem_toArray, List.mem_cons, List.not_mem_nil, or_false] at hv; rcases hv with rfl | rfl | rfl | rfl <;> rfl))
theorem tok_loadN (w : World) (b : Nat) (k k' : Int) (t s : ByteArray) (h : w.heap[b]? = some (.cells #[.int .i64 k, .string t, .string s, .int .i64 k'] 33 (0, 0))) : (Instr.loadAt 33 (.pointer (some ⟨b, 0, none⟩))).run Tryd.prog w = .ok (.agg #[.int .i64 k, .string t, .string s, .int .i64 k']) w := by
  refine run_loadAt_mid (P := Tryd.prog) w b 0 33 [.int .i64 k, .string t, .string s, .int .i64 k'] _ (fun j v hv => ?_) Tryd.underlying33 rfl (by kernel_rfl)
  rw [Nat.zero_add, cell_of_row _ _ j _ _ _ h]
  simpa using hv
theorem wrap_four (a b : Nat) (h : b = a + 4) (hb : a ≤ 5000) : wrap64 ((a : Int) + 4) = (b : Int) ∧ IntKind.i64.wrap ((a : Int) + 4) = (b : Int) := by
  subst h
  exact ⟨by unfold wrap64; omega, by rw [IntKind.wrap_i64]; omega⟩
theorem linesL_short (ls : List (List UInt8)) (h : ∀ x ∈ ls, x.length ≤ 60) : (Lx.linesL ls).length ≤ 61 * ls.length := by
  unfold Lx.linesL
  induction ls with
  | nil => simp
  | cons x ls ih =>
    have h1 := h x (by simp)
    have h2 := ih fun y hy => h y (by simp [hy])
    simp only [List.flatMap_cons, List.length_append, List.length_cons, List.length_nil]
    omega
def wdL (b : Bool) : List UInt8 := if b then [34, 69, 34] else [69]
def wdS (b : Bool) : ByteArray := if b then ⟨#[34, 69, 34]⟩ else ⟨#[69]⟩
abbrev hereL (b : Bool) (t more : List UInt8) : List UInt8 := 97 :: 32 :: 60 :: 60 :: (wdL b ++ 10 :: (t ++ (69 :: 10 :: more)))
set_option maxHeartbeats 1600000 in
set_option maxRecDepth 100000 in
theorem walkX (w : World) (hg : Sgn w) (A1 : Option Addr) (n1 c1 : Nat) (b : Bool) (more : List UInt8) (h : (20 : Int) < (n1 : Int) ∨ ¬ (20 : Int) < (n1 : Int) ∧ (300 : Int) < ((mkS more).size : Int)) :
    Calls Tryd.prog 8 #[.slice A1 n1 c1, .bool b, .string (mkS more)] w fun e w' => e = .returned (.bool true) ∧ Below w.heap.size w w' := by
  have HA := Lib.hid (awake_v w hg)
  clear hg
  rcases h with h | ⟨h, h1⟩
  all_goals
    go_enter Tryd.func8, Tryd.ntmps8
    go_wp2_with (go_at_call 9; (with_reducible refine HA.out.mono ?_); rintro e w1 ⟨rfl, hb1⟩; have HB1 := Lib.hid hb1; clear hb1)
    go_ret
    exact ⟨rfl, HB1.out⟩
set_option maxHeartbeats 3200000 in
set_option maxRecDepth 100000 in
theorem walkM (w : World) (hg : Sgn w) (A1 : Option Addr) (n1 c1 : Nat) (ls : List (List UInt8)) (b : Bool) (more : List UInt8) (h : lexerQuotes.Args w A1 n1 c1 ls) (h20 : ¬ (20 : Int) < (n1 : Int)) (h300 : ¬ (300 : Int) < ((mkS more).size : Int)) :
    Calls Tryd.prog 8 #[.slice A1 n1 c1, .bool b, .string (mkS more)] w fun e w' => e = .returned (.bool true) ∧ Below w.heap.size w w' := by
  have HA := Lib.hid (awake_v w hg)
  have HR := Lib.hid h.1
  have hlen : ls.length = n1 := by have := h.1.1; rw [List.length_map] at this; exact this
  have HN := Lib.hid hlen
  have HG := Lib.hid hg
  have hml : more.length ≤ 300 := by have := mkS_size more; omega
  have HML := Lib.hid hml
  clear h hg hlen hml
  go_enter Tryd.func8, Tryd.ntmps8
  go_wp2_with (go_at_call 9; (with_reducible refine HA.out.mono ?_); rintro e w1 ⟨rfl, hb1⟩; have HB1 := Lib.hid hb1; clear hb1)
  have HR1 := Lib.hid ((HR.out.below HB1.out).more HB1.out.size)
  go_loopw [8, 9] (fun s i wr => ∃ j : Nat, j ≤ n1 ∧ i = .int .i64 (j : Int) ∧ s = .string (mkS (Lx.linesL (ls.take j))) ∧ wr = w1 ∧ ∀ x ∈ ls.take j, x.length ≤ 60 ∧ (x ≠ [69] ∧ ∀ c ∈ x, c ≠ 10)) (fun s i _ => n1 - (intOf i).toNat)
  case atStart => exact ⟨0, by omega, rfl, rfl, rfl, by simp⟩
  case round =>
    obtain ⟨j, hj, rfl, rfl, hw, hok⟩ := hrel
    subst hw
    have HOK := Lib.hid hok
    clear hok
    have hj0 : (0 : Int) ≤ (j : Int) := by omega
    by_cases hjn : j < n1
    · obtain ⟨ad, rfl, hjl, hc⟩ := strs_at HR1.out hjn
      have hj1 : (j : Int) < (n1 : Int) := by omega
      obtain ⟨x, hx⟩ : ∃ x, x = ls[j] := ⟨_, rfl⟩
      rw [← hx] at hc
      have HTK := Lib.hid (show ls.take (j + 1) = ls.take j ++ [x] by rw [List.take_succ_eq_append_getElem hjl, hx])
      clear hx hjl
      obtain ⟨m, hm⟩ : ∃ m, m = x.length := ⟨_, rfl⟩
      have hz : (mkS x).size = m := by rw [mkS_size, hm]
      have HM := Lib.hid hm
      clear hm
      by_cases h60 : (60 : Int) < (m : Int)
      · go_wp2
        go_ret
        exact ⟨rfl, HB1.out⟩
      by_cases hE : x = [69]
      · have e1 : ((mkS x).toList == ([69] : List UInt8)) = true := by rw [toList_mkS, hE]; rfl
        clear hE
        go_wp2
        go_ret
        exact ⟨rfl, HB1.out⟩
      have e1 : ((mkS x).toList == ([69] : List UInt8)) = false := by rw [toList_mkS]; exact beq_eq_false_iff_ne.2 hE
      have HE := Lib.hid hE
      clear hE
      go_wp2
      go_loopw [10] (fun k wx => ∃ i : Nat, i ≤ m ∧ k = .int .i64 (i : Int) ∧ wx = wr ∧ ∀ c ∈ x.take i, c ≠ 10) (fun k _ => m - (intOf k).toNat)
      case atStart => exact ⟨0, by omega, rfl, rfl, by simp⟩
      case round =>
        obtain ⟨i, hi, rfl, hw, hn⟩ := hrel
        subst hw
        have HNQ := Lib.hid hn
        clear hn
        by_cases him : i < m
        · have hil : i < x.length := by rw [← HM.out]; exact him
          have hi0 : (0 : Int) ≤ (i : Int) := by omega
          have hi1 : (i : Int) < ((mkS x).size : Int) := by omega
          have hi2 : (i : Int) < (m : Int) := by omega
          obtain ⟨c, hcx⟩ : ∃ c, c = x[i] := ⟨_, rfl⟩
          have hgx : ∀ h, (mkS x)[i]'h = c := by rw [hcx]; exact sgetk x i hil
          have HNX := Lib.hid (show c ≠ 10 → ∀ c ∈ x.take (i + 1), c ≠ 10 from fun h d hd => by
            rw [List.take_succ_eq_append_getElem hil, List.mem_append] at hd
            rcases hd with hd | hd
            · exact HNQ.out d hd
            · rw [List.mem_singleton] at hd; rw [hd, ← hcx]; exact h)
          clear hcx hil
          by_cases h39 : c = 10
          · have hq : ((c.toNat : Int) == 10) = true := by rw [h39]; rfl
            go_wp2
            go_ret
            exact ⟨rfl, HB1.out⟩
          · have hq : ((c.toNat : Int) == 10) = false := by
              rw [beq_eq_false_iff_ne]
              intro e
              exact h39 (UInt8.toNat_inj.1 (by have : (10 : UInt8).toNat = 10 := rfl; omega))
            go_wp2
            go_roundw
            case rel => exact ⟨i + 1, by omega, by go_num, by first | rfl | trivial, HNX.out h39⟩
            case measure => simp [intOf]; omega
        · have hie : ¬ (i : Int) < (m : Int) := by omega
          have HNA := Lib.hid (show ∀ c ∈ x, c ≠ 10 from fun c hc => HNQ.out c (by rw [List.take_of_length_le (by rw [← HM.out]; omega)]; exact hc))
          have hlx := HM.out
          obtain ⟨q2, hq2⟩ : ∃ q2, q2 = mkS (x ++ [10]) := ⟨_, rfl⟩
          obtain ⟨s0, hs0⟩ : ∃ s0, s0 = Lx.linesL (ls.take j) := ⟨_, rfl⟩
          have a2 : mkS x ++ (⟨#[10]⟩ : ByteArray) = q2 := by rw [hq2]; exact mkS_add x [10]
          have a3 : mkS s0 ++ q2 = mkS (s0 ++ (x ++ [10])) := by rw [hq2, mkS_add]
          have z2 : q2.size ≤ 70 := by rw [hq2, mkS_size, List.length_append]; simp; omega
          have z3 : (mkS s0).size ≤ 2000 := by
            rw [mkS_size, hs0]
            have := linesL_short (ls.take j) fun x hx => (HOK.out x hx).1
            rw [List.length_take] at this
            omega
          have HS0 := Lib.hid hs0
          rw [← hs0]
          clear hq2 hs0 hlx
          go_wp2
          go_roundw
          case rel =>
            refine ⟨j + 1, by omega, by go_num, ?_, by first | rfl | trivial, ?_⟩
            · rw [HTK.out, HS0.out]; simp [Lx.linesL]
            · intro y hy
              rw [HTK.out, List.mem_append] at hy
              rcases hy with hy | hy
              · exact HOK.out y hy
              · rw [List.mem_singleton] at hy; subst hy; exact ⟨by have := HM.out; omega, HE.out, HNA.out⟩
          case measure => simp [intOf]; omega
    · have hje : j = n1 := by omega
      have htk : ls.take j = ls := by rw [List.take_of_length_le]; rw [HN.out]; omega
      have hok := HOK.out
      rw [htk] at hok ⊢
      have hjn1 : ¬ (j : Int) < (n1 : Int) := by omega
      obtain ⟨t, ht⟩ : ∃ t, t = Lx.linesL ls := ⟨_, rfl⟩
      have htl : t.length ≤ 1220 := by have := linesL_short ls fun x hx => (hok x hx).1; rw [HN.out] at this; rw [ht]; omega
      obtain ⟨ta, tb, tc, td, hah⟩ := Lx.all_here (wdL b) (by cases b; exact .inl rfl; exact .inr rfl) ls (fun x hx => (hok x hx).2) more
      rw [← ht] at hah ⊢
      have hwl : (wdL b).length ≤ 3 := by cases b <;> decide
      obtain ⟨p, hp⟩ : ∃ p, p = hereL b t more := ⟨_, rfl⟩
      have hpl : p.length ≤ 4096 := by rw [hp]; have := HML.out; simp only [List.length_cons, List.length_append]; omega
      rw [show (97 :: 32 :: 60 :: 60 :: (wdL b ++ 10 :: (t ++ (69 :: 10 :: more)))) = p from hp.symm] at hah
      have hal := fun W (hW : Later w W) => all_v p hpl W (HG.out.later hW)
      have ham := fun W (hW : Later w W) => all_v more (by have := HML.out; omega) W (HG.out.later hW)
      rw [hah] at hal
      have a5 : (⟨#[97, 32, 60, 60]⟩ : ByteArray) ++ wdS b ++ (⟨#[10]⟩ : ByteArray) ++ mkS t ++ (⟨#[69, 10]⟩ : ByteArray) ++ mkS more = mkS p := by
        rw [show (⟨#[97, 32, 60, 60]⟩ : ByteArray) = mkS [97, 32, 60, 60] from rfl, show wdS b = mkS (wdL b) by cases b <;> rfl, show (⟨#[10]⟩ : ByteArray) = mkS [10] from rfl, show (⟨#[69, 10]⟩ : ByteArray) = mkS [69, 10] from rfl, mkS_add, mkS_add, mkS_add, mkS_add, mkS_add, hp]
        simp
      have zt := mkS_size t
      have HTL := Lib.hid htl
      clear hp hah hok htk hpl hwl ht
      cases hmo : Lx.all more with
      | error nk =>
        obtain ⟨nn, kk⟩ := nk
        rw [hmo] at hal ham
        obtain ⟨hn, _⟩ := (Lx.all_lines more).1 nn kk hmo
        have HAL := Lib.hid (show ∀ W, Later w W → Calls Tryd.prog 16 #[.string (mkS p)] W fun e W' => e = .returned (.tuple #[.slice none 0 0, .int .i64 (nn : Int), .int .i64 ((1 + nl p - kk : Nat) : Int)]) ∧ Later W W' from fun W hW => hal W hW)
        have HAM := Lib.hid (show ∀ W, Later w W → Calls Tryd.prog 16 #[.string (mkS more)] W fun e W' => e = .returned (.tuple #[.slice none 0 0, .int .i64 (nn : Int), .int .i64 ((1 + nl more - kk : Nat) : Int)]) ∧ Later W W' from fun W hW => ham W hW)
        have f1 : ((nn : Int) != 0) = true := by simp; omega
        have f2 : ((nn : Int) != (nn : Int)) = false := by simp
        have f3 : ((nn : Int) == (nn : Int)) = true := by simp
        clear hal ham hmo hn
        cases b
        all_goals
          simp only [wdS, if_true, if_false, Bool.false_eq_true] at a5
          go_wp2_with (go_at_call 16; first
            | ((with_reducible refine (HAL.out _ HB1.out).mono ?_); rintro e w2 ⟨rfl, hl2⟩; have HL2 := Lib.hid (HB1.out.trans hl2); clear hl2)
            | ((with_reducible refine (HAM.out _ HL2.out).mono ?_); rintro e w3 ⟨rfl, hl3⟩; have HL3 := Lib.hid (HL2.out.trans hl3); clear hl3))
          go_ret
          exact ⟨rfl, HL3.out⟩
      | ok o =>
        rw [hmo] at hal ham
        obtain ⟨n3, hn3⟩ : ∃ n3, n3 = o.length := ⟨_, rfl⟩
        obtain ⟨n2, hn2⟩ : ∃ n2, n2 = n3 + 4 := ⟨_, rfl⟩
        have hop := (lexerLines.lined more o hmo).pos
        have hos := (Lx.all_small hmo).1
        have hn39 : n3 ≤ 301 := by have := HML.out; omega
        have hn3p : 0 < n3 := by omega
        obtain ⟨L4, hL4⟩ : ∃ L4 : List Tok, L4 = ⟨1, [97], [], ta⟩ :: ⟨2, [60, 60], [], tb⟩ :: ⟨1, wdL b, t, tc⟩ :: ⟨3, [], [], td⟩ :: o := ⟨_, rfl⟩
        have hl4 : L4.length = n2 := by rw [hL4, hn2, hn3]; rfl
        have HAL := Lib.hid (show ∀ W, Later w W → Calls Tryd.prog 16 #[.string (mkS p)] W fun e W' => (∃ vt, e = .returned (.tuple #[vt, .int .i64 0, .int .i64 0]) ∧ W'.ownsRow W.heap.size 33 4 vt n2 (cellsT (nl p) L4)) ∧ Later W W' from fun W hW => by
          have h9 : Calls Tryd.prog 16 #[.string (mkS p)] W (AllC p W (.ok L4)) := by rw [hL4]; exact hal W hW
          rw [← hl4]
          exact h9)
        have HAM := Lib.hid (show ∀ W, Later w W → Calls Tryd.prog 16 #[.string (mkS more)] W fun e W' => (∃ vt, e = .returned (.tuple #[vt, .int .i64 0, .int .i64 0]) ∧ W'.ownsRow W.heap.size 33 4 vt n3 (cellsT (nl more) o)) ∧ Later W W' from fun W hW => by rw [hn3]; exact ham W hW)
        have HL4 := Lib.hid hL4
        have HL4N := Lib.hid hl4
        have HN3 := Lib.hid hn3
        have HN2 := Lib.hid hn2
        have hn29 : n2 ≤ 400 := by omega
        have hn24 : (4 : Int) < (n2 : Int) := by omega
        have hn2p : 0 < n2 := by omega
        have hn22 : (2 : Int) < (n2 : Int) := by omega
        have hn23 : (3 : Int) < (n2 : Int) := by omega
        obtain ⟨hw1, hw2⟩ := wrap_four n3 n2 hn2 (by omega)
        have est := str_selfn t
        clear hal ham hmo hop hos hL4 hl4 hn2 hn3
        have HWS := Lib.hid (show mkS (wdL b) = wdS b by cases b <;> rfl)
        cases b
        all_goals
          simp only [wdS, if_true, if_false, Bool.false_eq_true] at a5
          go_wp2_with (go_at_call 16; first
            | ((with_reducible refine (HAL.out _ HB1.out).mono ?_); rintro e w2 ⟨⟨vt, rfl, ho⟩, hl2⟩; obtain ⟨ad, c2, hv2, hc2⟩ := two_at ho HL4N.out.symm hn2p; subst hv2; have HO2 := Lib.hid ho; have HL2 := Lib.hid (HB1.out.trans hl2); clear ho hl2)
            | ((with_reducible refine (HAM.out _ HL2.out).mono ?_); rintro e w3 ⟨⟨vt, rfl, ho⟩, hl3⟩; obtain ⟨ad2, c3, hv3, hc3⟩ := two_at ho HN3.out hn3p; subst hv3; have HO3 := Lib.hid ho; have ho2 := own_below HO2.out hl3; have hat := toks_at (ts := L4) (by rw [HL4N.out]; exact ho2); simp only [HL4.out] at hat; have x22 : w3.cell? ⟨ad.block, ad.off + 8 + 2, none⟩ = some (.string (mkS t)) := (hat 2 (by simp)).c2; have x21 := (hat 2 (by simp)).c1; (first | (have x21' : w3.cell? ⟨ad.block, ad.off + 8 + 1, none⟩ = some (.string ⟨#[34, 69, 34]⟩) := x21) | (have x21' : w3.cell? ⟨ad.block, ad.off + 8 + 1, none⟩ = some (.string ⟨#[69]⟩) := x21)); have x30 : w3.cell? ⟨ad.block, ad.off + 12, none⟩ = some (.int .i64 3) := (hat 3 (by simp)).c0; have HO23 := Lib.hid ho2; have HL3 := Lib.hid (HL2.out.trans hl3); clear ho hl3 ho2 hat x21))
          clear hw1 hw2
          go_loopw [18] (fun i wx => ∃ i' : Nat, i' ≤ n3 ∧ i = .int .i64 (i' : Int) ∧ Later w3 wx) (fun i _ => n3 - (intOf i).toNat)
          case atStart => exact ⟨0, by omega, rfl, Later.refl _⟩
          case round =>
            obtain ⟨i, hi, rfl, hlx⟩ := hrel
            by_cases hin : i < n3
            · have hi0 : (0 : Int) ≤ (i : Int) := by omega
              have hi1 : (i : Int) < (n3 : Int) := by omega
              obtain ⟨i4, hi4⟩ : ∃ i4, i4 = i + 4 := ⟨_, rfl⟩
              have hi40 : (0 : Int) ≤ (i4 : Int) := by omega
              have hi41 : (i4 : Int) < (n2 : Int) := by have := HN2.out; omega
              have hi5 : i ≤ 5000 := by omega
              have HI4 := Lib.hid hi4
              have h4l : i4 < L4.length := by have q1 := HL4N.out; have q2 := HN2.out; omega
              have h3l : i < o.length := by rw [← HN3.out]; exact hin
              obtain ⟨t9, ht9⟩ : ∃ t9, t9 = o[i] := ⟨_, rfl⟩
              have hL9 : L4[i4] = t9 := by rw [ht9]; simp only [HL4.out, hi4]; rfl
              have A1 := tok_load (own_below HO23.out hlx) HL4N.out.symm i4 h4l
              have A2 := tok_load (own_below HO3.out hlx) HN3.out i h3l
              rw [hL9] at A1
              rw [← ht9] at A2
              obtain ⟨y4, hy4⟩ : ∃ y4 : Nat, y4 = 1 + nl p - t9.left := ⟨_, rfl⟩
              obtain ⟨y3, hy3⟩ : ∃ y3 : Nat, y3 = 1 + nl more - t9.left := ⟨_, rfl⟩
              obtain ⟨k9, hk9⟩ : ∃ k9 : Int, k9 = (t9.kind : Int) := ⟨_, rfl⟩
              unfold tcs at A1 A2
              rw [← hy4, ← hk9] at A1
              rw [← hy3, ← hk9] at A2
              have hld := Lib.hid A1.1
              have x3 := A2.2.1.c3
              rw [← hy3] at x3
              have hblk : (ad2.add (i * 4)).block < wr.heap.size := by rw [show (ad2.add (i * 4)).block = ad2.block from by unfold Addr.add; split <;> rfl]; exact A2.2.2
              have x3' : (wr.alloc (.cells #[.int .i64 k9, .string (mkS t9.text), .string (mkS t9.body), .int .i64 (y4 : Int)] 33)).cell? ⟨(ad2.add (i * 4)).block, (ad2.add (i * 4)).off + 3, none⟩ = some (.int .i64 (y3 : Int)) := (Below.cell (p := ⟨(ad2.add (i * 4)).block, (ad2.add (i * 4)).off + 3, none⟩) (Below.alloc (Below.refl _ wr) (Nat.le_refl _) _) hblk).trans x3
              have hst := Lib.hid (tok_store wr #[.int .i64 0, .string ByteArray.empty, .string ByteArray.empty, .int .i64 0] k9 (y4 : Int) (mkS t9.text) (mkS t9.body) rfl)
              obtain ⟨u1, hu1⟩ : ∃ u1, u1 = mkS t9.text := ⟨_, rfl⟩
              obtain ⟨u2, hu2⟩ : ∃ u2, u2 = mkS t9.body := ⟨_, rfl⟩
              rw [← hu1, ← hu2] at hld hst x3'
              have HLX := Lib.hid hlx
              have HSV := Lib.hid (show ∃ h3l : i < o.length, t9 = o[i] ∧ y3 = 1 + nl more - t9.left ∧ k9 = (t9.kind : Int) ∧ u1 = mkS t9.text ∧ u2 = mkS t9.body from ⟨h3l, ht9, hy3, hk9, hu1, hu2⟩)
              obtain ⟨hwi1, hwi2⟩ := wrap_four i i4 hi4 hi5
              clear hi5 hi4 h4l h3l ht9 hL9 A1 A2 hy4 hy3 hk9 x3 hlx hu1 hu2
              go_wp2_with (first
                | (refine wpList_loadRun rfl 33 (.tmp 141) rfl (.pointer (some (ad.add (i4 * 4)))) _ rfl hld.out ?_)
                | (refine wpList_storeRun rfl 33 (.tmp 19) (.tmp 142) rfl _ _ rfl rfl hst.out ?_))
              obtain ⟨h3l, ht9, hy3, hk9, hu1, hu2⟩ := HSV.out
              clear HSV
              obtain ⟨wq, hwq⟩ : ∃ wq, wq = wr.alloc (.cells #[.int .i64 k9, .string u1, .string u2, .int .i64 (y3 : Int)] 33) := ⟨_, rfl⟩
              rw [← hwq]
              have hwl : Later wr wq := by rw [hwq]; exact Later.alloc _ _
              have hbq : wq.heap[wr.heap.size]? = some (.cells #[.int .i64 k9, .string u1, .string u2, .int .i64 (y3 : Int)] 33 (0, 0)) := by rw [hwq]; exact heap_alloc_last _ _
              have hz5 := (tok_load (own_below HO3.out ((HLX.out.trans hwl).trans (Later.drew wq))) HN3.out i h3l).2.1
              rw [← ht9] at hz5
              obtain ⟨z0, z1, z2, z3⟩ := hz5
              rw [← hy3] at z3
              rw [← hk9] at z0
              rw [← hu1] at z1
              rw [← hu2] at z2
              have hq0 : wq.drew.cell? ⟨wr.heap.size, 0, none⟩ = some (.int .i64 k9) := by rw [cell_of_row wq.drew _ _ _ _ _ hbq]; rfl
              have hq1 : wq.drew.cell? ⟨wr.heap.size, 1, none⟩ = some (.string u1) := by rw [cell_of_row wq.drew _ _ _ _ _ hbq]; rfl
              have hq2 : wq.drew.cell? ⟨wr.heap.size, 2, none⟩ = some (.string u2) := by rw [cell_of_row wq.drew _ _ _ _ _ hbq]; rfl
              have hq3 : wq.drew.cell? ⟨wr.heap.size, 3, none⟩ = some (.int .i64 (y3 : Int)) := by rw [cell_of_row wq.drew _ _ _ _ _ hbq]; rfl
              have HLQ := Lib.hid (HLX.out.trans hwl)
              clear hld hst x3' hwi1 hwi2 hbq hwl hwq h3l ht9 hy3 hk9 hu1 hu2
              go_region_held (fun W => W.cell? ⟨wr.heap.size, 0, none⟩ = some (.int .i64 k9) ∧ W.cell? ⟨wr.heap.size, 1, none⟩ = some (.string u1) ∧ W.cell? ⟨wr.heap.size, 2, none⟩ = some (.string u2) ∧ W.cell? ⟨wr.heap.size, 3, none⟩ = some (.int .i64 (y3 : Int)) ∧ W.cell? (ad2.add (i * 4)) = some (.int .i64 k9) ∧ W.cell? ⟨(ad2.add (i * 4)).block, (ad2.add (i * 4)).off + 1, none⟩ = some (.string u1) ∧ W.cell? ⟨(ad2.add (i * 4)).block, (ad2.add (i * 4)).off + 2, none⟩ = some (.string u2) ∧ W.cell? ⟨(ad2.add (i * 4)).block, (ad2.add (i * 4)).off + 3, none⟩ = some (.int .i64 (y3 : Int))) (first | assumption | exact ⟨hq0, hq1, hq2, hq3, z0, z1, z2, z3⟩) (fail)
              all_goals go_wp2
              go_roundw
              case rel => exact ⟨i + 1, by omega, by go_num, HLQ.out.trans (Later.drew _)⟩
              case measure => simp [intOf]; omega
            · have hie : ¬ (i : Int) < (n3 : Int) := by omega
              go_wp2
              go_ret
              exact ⟨rfl, HL3.out.trans hlx⟩
theorem walk (w : World) (hg : Sgn w) (A1 : Option Addr) (n1 c1 : Nat) (l : List ByteArray) (h : Rd w w.heap.size A1 n1 (l.map Value.string) ∧ (∀ s ∈ l, s.size ≤ maxLen) ∧ n1 ≤ c1 ∧ c1 ≤ maxLen) (b : Bool) (_hb : True) (t : ByteArray) (_ht : t.size ≤ maxLen) :
    Calls Tryd.prog 8 #[.slice A1 n1 c1, .bool b, .string t] w fun e w' => e = .returned (.bool true) ∧ Below w.heap.size w w' := by
  obtain ⟨ls, h1⟩ := strs_of h.1
  obtain ⟨more, rfl⟩ : ∃ a, t = mkS a := ⟨_, (mkS_of t).symm⟩
  by_cases h20 : (20 : Int) < (n1 : Int)
  · exact walkX w hg A1 n1 c1 b more (.inl h20)
  by_cases h300 : (300 : Int) < ((mkS more).size : Int)
  · exact walkX w hg A1 n1 c1 b more (.inr ⟨h20, h300⟩)
  · exact walkM w hg A1 n1 c1 ls b more ⟨h1, h.2.2⟩ h20 h300
end lexerHere
end Go.Proofs.YtnjabmacbgehlaaDoor
