/- The walk of LexerLines: whatever the script is, the call returns true. -/
import Derived.Test.YtnjabmacbgehlaaDoorLQuotesW
import Derived.Test.YtnjabmacbgehlaaDoorLxL
namespace Go.Proofs.YtnjabmacbgehlaaDoor
open Go.RowKit Go.Maps
open Lx (nl Tok)
theorem own_few {w : World} {B n : Nat} {e : TypeId} {v : Value} {xs : List Value} (h : w.ownsRow B e 4 v n xs) : n ≤ maxLen := by
  rcases h.2 with ⟨rfl, h0⟩ | ⟨g, cap, cur, rfl, hb, hh, hnc, hcm, hcs, htake⟩
  · omega
  · exact Nat.le_trans hnc hcm
namespace lexerLines
structure Lined (N : Nat) (o : List Tok) : Prop where
  fall : o.Pairwise fun a b => b.left ≤ a.left
  four : ∀ (j : Nat) (hj : j < o.length), o[j].kind = 4 ↔ j + 1 = o.length
  body : ∀ (j : Nat) (hj : j < o.length), o[j].kind ≠ 1 → o[j].body = []
  low : ∀ (j : Nat) (hj : j < o.length), o[j].left ≤ N
  few : (o.filter fun t => t.kind == 3).length ≤ N
  last : ∀ (j : Nat) (hj : j < o.length), j + 1 = o.length → o[j].left = 0
  pos : 0 < o.length
theorem lined (s : List UInt8) (o : List Tok) (h : Lx.all s = .ok o) : Lined (nl s) o := by
  obtain ⟨out, rfl, l, hT⟩ := (Lx.all_lines s).2 o h
  have hlen : (out ++ [(⟨4, [], [], 0⟩ : Tok)]).length = out.length + 1 := by simp
  have hat : ∀ (j : Nat) (hj : j < (out ++ [(⟨4, [], [], 0⟩ : Tok)]).length), (j = out.length ∧ (out ++ [(⟨4, [], [], 0⟩ : Tok)])[j] = ⟨4, [], [], 0⟩) ∨ (j < out.length ∧ (out ++ [(⟨4, [], [], 0⟩ : Tok)])[j] ∈ out) := by
    intro j hj
    by_cases h1 : j < out.length
    · exact .inr ⟨h1, by rw [List.getElem_append_left h1]; exact List.getElem_mem _⟩
    · have h2 : j = out.length := by omega
      subst h2
      exact .inl ⟨rfl, by simp⟩
  refine ⟨?_, fun j hj => ?_, fun j hj => ?_, fun j hj => ?_, ?_, fun j hj e => ?_, by omega⟩
  · rw [List.pairwise_append]
    exact ⟨hT.fall, by simp, fun a _ b hb => by rw [List.mem_singleton] at hb; subst hb; exact Nat.zero_le _⟩
  · rcases hat j hj with ⟨e, h2⟩ | ⟨e, h2⟩
    · rw [h2]; simp [e]
    · have := (hT.kind _ h2).1
      exact ⟨fun h => absurd h this, fun h => by omega⟩
  · rcases hat j hj with ⟨e, h2⟩ | ⟨e, h2⟩
    · intro _; rw [h2]
    · exact (hT.kind _ h2).2
  · rcases hat j hj with ⟨e, h2⟩ | ⟨e, h2⟩
    · rw [h2]; exact Nat.zero_le _
    · exact hT.high _ h2
  · have := hT.few
    rw [List.filter_append]
    simp
    omega
  · rcases hat j hj with ⟨_, h2⟩ | ⟨h1, _⟩
    · rw [h2]
    · omega
set_option maxHeartbeats 1600000 in
set_option maxRecDepth 100000 in
theorem walkX (w : World) (hg : Sgn w) (s : List UInt8) (h : (3000 : Int) < ((mkS s).size : Int)) :
    Calls Tryd.prog 4 #[.string (mkS s)] w fun e w' => e = .returned (.bool true) ∧ Below w.heap.size w w' := by
  have HA := Lib.hid (awake_v w hg)
  clear hg
  go_enter Tryd.func4, Tryd.ntmps4
  go_wp2_with (go_at_call 9; (with_reducible refine HA.out.mono ?_); rintro e w1 ⟨rfl, hb1⟩; have HB1 := Lib.hid hb1; clear hb1)
  go_ret
  exact ⟨rfl, HB1.out⟩
theorem nl_le (l : List UInt8) : nl l ≤ l.length := by
  induction l with
  | nil => exact Nat.le_refl _
  | cons c r ih => unfold nl; rw [List.length_cons]; split <;> omega
set_option maxHeartbeats 3200000 in
set_option maxRecDepth 100000 in
theorem walkE (w : World) (hg : Sgn w) (s : List UInt8) (h : ¬ (3000 : Int) < ((mkS s).size : Int)) (n k : Nat) (hall : Lx.all s = .error (n, k)) :
    Calls Tryd.prog 4 #[.string (mkS s)] w fun e w' => e = .returned (.bool true) ∧ Below w.heap.size w w' := by
  have HA := Lib.hid (awake_v w hg)
  have hz := mkS_size s
  obtain ⟨m, hm⟩ : ∃ m, m = s.length := ⟨_, rfl⟩
  rw [← hm] at hz
  have hm3 : m ≤ 3000 := by omega
  obtain ⟨N, hN⟩ : ∃ N, N = nl s := ⟨_, rfl⟩
  obtain ⟨hn, hk⟩ := (Lx.all_lines s).1 n k hall
  have HAL := Lib.hid (show ∀ W, Later w W → Calls Tryd.prog 16 #[.string (mkS s)] W fun e W' => e = .returned (.tuple #[.slice none 0 0, .int .i64 (n : Int), .int .i64 ((1 + N - k : Nat) : Int)]) ∧ Later W W' from fun W hW => by
    have := all_v s (by omega) W (hg.later hW)
    rw [hall] at this
    rw [hN]
    exact this)
  rw [← hN] at hk
  obtain ⟨y, hy⟩ : ∃ y, y = 1 + N - k := ⟨_, rfl⟩
  rw [← hy] at HAL
  have hy1 : 1 ≤ y := by omega
  have hy2 : y ≤ 1 + N := by omega
  clear hall hy hk
  have HM := Lib.hid hm
  have HNN := Lib.hid hN
  clear hg hm hN
  go_enter Tryd.func4, Tryd.ntmps4
  go_wp2_with (first
    | (go_at_call 9; (with_reducible refine HA.out.mono ?_); rintro e w1 ⟨rfl, hb1⟩; have HB1 := Lib.hid hb1; clear hb1)
    | (go_at_call 16; (with_reducible refine (HAL.out _ HB1.out).mono ?_); rintro e w2 ⟨rfl, hl2⟩; have HL2 := Lib.hid (HB1.out.trans hl2); clear hl2))
  go_loopw [7, 8] (fun a i wr => ∃ k : Nat, k ≤ m ∧ i = .int .i64 (k : Int) ∧ a = .int .i64 ((1 + nl (s.take k) : Nat) : Int) ∧ wr = w2) (fun a i _ => m - (intOf i).toNat)
  case atStart => exact ⟨0, by omega, rfl, rfl, rfl⟩
  case round =>
    obtain ⟨k, hk, rfl, rfl, hw⟩ := hrel
    subst hw
    have hk0 : (0 : Int) ≤ (k : Int) := by omega
    by_cases hkm : k < m
    · have hkl : k < s.length := by rw [← HM.out]; exact hkm
      obtain ⟨c, hc⟩ : ∃ c, c = s[k] := ⟨_, rfl⟩
      have hgx : ∀ h, (mkS s)[k]'h = c := by rw [hc]; exact sgetk s k hkl
      have hk1 : (k : Int) < (m : Int) := by omega
      obtain ⟨a, ha⟩ : ∃ a, a = 1 + nl (s.take k) := ⟨_, rfl⟩
      have hal : a ≤ 3001 := by
        have h1 : nl (s.take k) ≤ (s.take k).length := nl_le _
        rw [List.length_take] at h1
        omega
      have HNX := Lib.hid (show 1 + nl (s.take (k + 1)) = a + nl [c] by rw [List.take_succ_eq_append_getElem hkl, Lx.nl_append, ← hc, ha]; omega)
      rw [← ha]
      clear hc hkl ha
      by_cases h10 : c = 10
      · have hq : ((c.toNat : Int) == 10) = true := by rw [h10]; rfl
        go_wp2
        go_roundw
        case rel => exact ⟨k + 1, by omega, by go_num, by rw [HNX.out, h10]; show _ = Value.int .i64 ((a + 1 : Nat) : Int); go_num, by first | rfl | trivial⟩
        case measure => simp [intOf]; omega
      · have hq : ((c.toNat : Int) == 10) = false := by
          rw [beq_eq_false_iff_ne]
          intro e
          exact h10 (UInt8.toNat_inj.1 (by have : (10 : UInt8).toNat = 10 := rfl; omega))
        go_wp2
        go_roundw
        case rel => exact ⟨k + 1, by omega, by go_num, by rw [HNX.out, show nl [c] = 0 by unfold nl; rw [if_neg h10]; rfl]; rfl, by first | rfl | trivial⟩
        case measure => simp [intOf]; omega
    · have hke : ¬ (k : Int) < (m : Int) := by omega
      have htk : s.take k = s := by rw [List.take_of_length_le]; rw [← HM.out]; omega
      obtain ⟨al, hal⟩ : ∃ al, al = 1 + N := ⟨_, rfl⟩
      rw [htk, ← HNN.out, ← hal]
      clear htk
      have hy3 : (1 : Int) ≤ (y : Int) := by omega
      have hy4 : (y : Int) ≤ (al : Int) := by omega
      clear hal
      rcases hn with hn | hn
      all_goals
        subst hn
        go_wp2
        go_ret
        exact ⟨rfl, HL2.out⟩
set_option maxHeartbeats 3200000 in
set_option maxRecDepth 100000 in
theorem walkO (w : World) (hg : Sgn w) (s : List UInt8) (h : ¬ (3000 : Int) < ((mkS s).size : Int)) (o : List Tok) (hall : Lx.all s = .ok o) :
    Calls Tryd.prog 4 #[.string (mkS s)] w fun e w' => e = .returned (.bool true) ∧ Below w.heap.size w w' := by
  have HA := Lib.hid (awake_v w hg)
  have hz := mkS_size s
  obtain ⟨m, hm⟩ : ∃ m, m = s.length := ⟨_, rfl⟩
  rw [← hm] at hz
  have hm3 : m ≤ 3000 := by omega
  obtain ⟨N, hN⟩ : ∃ N, N = nl s := ⟨_, rfl⟩
  have hLN := lined s o hall
  rw [← hN] at hLN
  obtain ⟨n, hn⟩ : ∃ n, n = o.length := ⟨_, rfl⟩
  have HAL := Lib.hid (show ∀ W, Later w W → Calls Tryd.prog 16 #[.string (mkS s)] W fun e W' => (∃ vt, e = .returned (.tuple #[vt, .int .i64 0, .int .i64 0]) ∧ W'.ownsRow W.heap.size 33 4 vt n (cellsT N o)) ∧ Later W W' from fun W hW => by
    have := all_v s (by omega) W (hg.later hW)
    rw [hall] at this
    rw [hn, hN]
    exact this)
  have HLI := Lib.hid hLN
  have HNO := Lib.hid hn
  have hnp : 0 < n := by have := hLN.pos; omega
  clear hall hLN hn
  have HM := Lib.hid hm
  have HNN := Lib.hid hN
  clear hg hm hN
  go_enter Tryd.func4, Tryd.ntmps4
  go_wp2_with (first
    | (go_at_call 9; (with_reducible refine HA.out.mono ?_); rintro e w1 ⟨rfl, hb1⟩; have HB1 := Lib.hid hb1; clear hb1)
    | (go_at_call 16; (with_reducible refine (HAL.out _ HB1.out).mono ?_); rintro e w2 ⟨⟨vt, rfl, ho⟩, hl2⟩; obtain ⟨ad, c2, hv2, hc2⟩ := two_at ho HNO.out hnp; subst hv2; have HO2 := Lib.hid ho; have HL2 := Lib.hid (HB1.out.trans hl2); clear ho hl2))
  go_loopw [7, 8] (fun a i wr => ∃ k : Nat, k ≤ m ∧ i = .int .i64 (k : Int) ∧ a = .int .i64 ((1 + nl (s.take k) : Nat) : Int) ∧ wr = w2) (fun a i _ => m - (intOf i).toNat)
  case atStart => exact ⟨0, by omega, rfl, rfl, rfl⟩
  case round =>
    obtain ⟨k, hk, rfl, rfl, hw⟩ := hrel
    subst hw
    have hk0 : (0 : Int) ≤ (k : Int) := by omega
    by_cases hkm : k < m
    · have hkl : k < s.length := by rw [← HM.out]; exact hkm
      obtain ⟨c, hc⟩ : ∃ c, c = s[k] := ⟨_, rfl⟩
      have hgx : ∀ h, (mkS s)[k]'h = c := by rw [hc]; exact sgetk s k hkl
      have hk1 : (k : Int) < (m : Int) := by omega
      obtain ⟨a, ha⟩ : ∃ a, a = 1 + nl (s.take k) := ⟨_, rfl⟩
      have hal : a ≤ 3001 := by
        have h1 : nl (s.take k) ≤ (s.take k).length := nl_le _
        rw [List.length_take] at h1
        omega
      have HNX := Lib.hid (show 1 + nl (s.take (k + 1)) = a + nl [c] by rw [List.take_succ_eq_append_getElem hkl, Lx.nl_append, ← hc, ha]; omega)
      rw [← ha]
      clear hc hkl ha
      by_cases h10 : c = 10
      · have hq : ((c.toNat : Int) == 10) = true := by rw [h10]; rfl
        go_wp2
        go_roundw
        case rel => exact ⟨k + 1, by omega, by go_num, by rw [HNX.out, h10]; show _ = Value.int .i64 ((a + 1 : Nat) : Int); go_num, by first | rfl | trivial⟩
        case measure => simp [intOf]; omega
      · have hq : ((c.toNat : Int) == 10) = false := by
          rw [beq_eq_false_iff_ne]
          intro e
          exact h10 (UInt8.toNat_inj.1 (by have : (10 : UInt8).toNat = 10 := rfl; omega))
        go_wp2
        go_roundw
        case rel => exact ⟨k + 1, by omega, by go_num, by rw [HNX.out, show nl [c] = 0 by unfold nl; rw [if_neg h10]; rfl]; rfl, by first | rfl | trivial⟩
        case measure => simp [intOf]; omega
    · have hke : ¬ (k : Int) < (m : Int) := by omega
      have htk : s.take k = s := by rw [List.take_of_length_le]; rw [← HM.out]; omega
      obtain ⟨al, hal⟩ : ∃ al, al = 1 + N := ⟨_, rfl⟩
      rw [htk, ← HNN.out, ← hal]
      clear htk
      have hmx := own_few HO2.out
      have hmx2 : n ≤ 9223372036854775807 := by unfold maxLen at hmx; omega
      have hat := toks_at (ts := o) (by rw [← HNO.out]; exact HO2.out)
      have HAT := Lib.hid hat
      obtain ⟨n1, hn1⟩ : ∃ n1, n1 + 1 = n := ⟨n - 1, by omega⟩
      have hw1 : wrap64 ((n : Int) - 1) = (n1 : Int) := by unfold wrap64; omega
      have hw2 : IntKind.i64.wrap ((n : Int) - 1) = (n1 : Int) := by rw [IntKind.wrap_i64]; omega
      have HN1 := Lib.hid hn1
      have hnI : (0 : Int) < (n : Int) := by omega
      have hn1I : (0 : Int) ≤ (n1 : Int) := by omega
      have hn1J : (n1 : Int) < (n : Int) := by omega
      have hal9 : al ≤ 9223372036854775807 := by have := nl_le s; have := HNN.out; have := HM.out; omega
      have HALN := Lib.hid hal
      clear hat hmx hn1 hal
      go_wp2
      go_loopw [9, 10, 11] (fun z c i wx => ∃ j : Nat, j ≤ n ∧ i = .int .i64 (j : Int) ∧ (∃ zz : Nat, z = .int .i64 (zz : Int) ∧ ∀ hj : j < o.length, zz ≤ 1 + N - o[j].left) ∧ c = .int .i64 (((o.take j).filter fun t => t.kind == 3).length : Int) ∧ wx = wr) (fun z c i _ => n - (intOf i).toNat)
      case atStart => exact ⟨0, by omega, rfl, ⟨1, rfl, fun hj => by have := HLI.out.low 0 hj; omega⟩, rfl, rfl⟩
      case round =>
        obtain ⟨j, hj, rfl, ⟨zz, rfl, hzz⟩, rfl, hw⟩ := hrel
        subst hw
        have hj0 : (0 : Int) ≤ (j : Int) := by omega
        obtain ⟨cnt, hcnt⟩ : ∃ cnt, cnt = ((o.take j).filter fun t => t.kind == 3).length := ⟨_, rfl⟩
        have hcn : cnt ≤ N := by
          rw [hcnt]
          refine Nat.le_trans ?_ HLI.out.few
          exact List.Sublist.length_le (List.Sublist.filter _ (List.take_sublist j o))
        rw [← hcnt]
        have HCNT := Lib.hid hcnt
        have hN9 : N + 1 ≤ 9223372036854775807 := by have := HALN.out; omega
        clear hcnt
        by_cases hjn : j < n
        · have hjl : j < o.length := by rw [← HNO.out]; exact hjn
          have hti := HAT.out j hjl
          have hzy := hzz hjl
          have h4 := HLI.out.four j hjl
          have hbd := HLI.out.body j hjl
          have hlw := HLI.out.low j hjl
          have hnext : ∀ hj' : j + 1 < o.length, 1 + N - o[j].left ≤ 1 + N - o[j + 1].left := fun hj' => by
            have := (List.pairwise_iff_getElem.1 HLI.out.fall) j (j + 1) hjl hj' (by omega)
            omega
          have htk : ((o.take (j + 1)).filter fun t => t.kind == 3).length = cnt + (if o[j].kind = 3 then 1 else 0) := by
            rw [List.take_succ_eq_append_getElem hjl, List.filter_append, List.length_append, ← HCNT.out]
            congr 1
            by_cases h3 : o[j].kind = 3
            · simp [h3]
            · simp [h3]
          obtain ⟨t, ht⟩ : ∃ t, t = o[j] := ⟨_, rfl⟩
          rw [← ht] at hti hzy h4 hbd hlw htk
          have HNX := Lib.hid (show ∀ hj' : j + 1 < o.length, 1 + N - t.left ≤ 1 + N - o[j + 1].left by rw [ht]; exact hnext)
          have t0 := hti.c0
          have t2 := hti.c2
          have t3 := hti.c3
          obtain ⟨kd, bo, y, hkd, hbo, hy⟩ : ∃ kd bo y, kd = t.kind ∧ bo = t.body ∧ y = 1 + N - t.left := ⟨_, _, _, rfl, rfl, rfl⟩
          rw [← hkd] at t0 h4 hbd htk
          rw [← hbo] at t2 hbd
          rw [← hy] at t3 hzy HNX
          have HTK := Lib.hid htk
          have hyal : y ≤ al := by have := HALN.out; omega
          have g1 : ¬ (y : Int) < (zz : Int) := by omega
          have g2 : ¬ (al : Int) < (y : Int) := by omega
          have hj1 : (j : Int) < (n : Int) := by omega
          have h4' : kd = 4 ↔ j = n1 := by rw [h4]; have := HNO.out; have := HN1.out; omega
          clear hti hzz hnext htk ht hjl hzy h4 hlw hkd hbo hy
          by_cases hlast : j = n1
          · have hk4 : kd = 4 := h4'.2 hlast
            have hb := hbd (by omega)
            subst hk4
            subst hb
            have e1 : ((j : Int) == (n1 : Int)) = true := by rw [hlast]; simp
            have t2' : wr.cell? ⟨(ad.add (j * 4)).block, (ad.add (j * 4)).off + 2, none⟩ = some (.string ⟨#[]⟩) := t2
            have t0' : wr.cell? (ad.add (j * 4)) = some (.int .i64 4) := t0
            clear h4' hbd t2 t0 hlast
            go_wp2
            go_roundw
            case rel => exact ⟨j + 1, by omega, by go_num, ⟨y, rfl, HNX.out⟩, by rw [HTK.out]; rfl, by first | rfl | trivial⟩
            case measure => simp [intOf]; omega
          · have hk4 : kd ≠ 4 := fun h => hlast (h4'.1 h)
            have e1 : ((j : Int) == (n1 : Int)) = false := by simp; omega
            have e2 : ((kd : Int) == 4) = false := by simp; omega
            by_cases hk1 : kd = 1
            · subst hk1
              have t0' : wr.cell? (ad.add (j * 4)) = some (.int .i64 1) := t0
              clear h4' hbd t0 t2 e2
              go_wp2
              go_roundw
              case rel => exact ⟨j + 1, by omega, by go_num, ⟨y, rfl, HNX.out⟩, by rw [HTK.out]; rfl, by first | rfl | trivial⟩
              case measure => simp [intOf]; omega
            · have hb := hbd hk1
              subst hb
              have t2' : wr.cell? ⟨(ad.add (j * 4)).block, (ad.add (j * 4)).off + 2, none⟩ = some (.string ⟨#[]⟩) := t2
              clear h4' hbd t2
              by_cases hk3 : kd = 3
              · subst hk3
                have t0' : wr.cell? (ad.add (j * 4)) = some (.int .i64 3) := t0
                clear t0 e2
                go_wp2
                go_roundw
                case rel => exact ⟨j + 1, by omega, by go_num, ⟨y, rfl, HNX.out⟩, by rw [HTK.out]; show _ = Value.int .i64 ((cnt + 1 : Nat) : Int); go_num, by first | rfl | trivial⟩
                case measure => simp [intOf]; omega
              · have e3 : ((kd : Int) != 1) = true := by simp; omega
                have e4 : ((kd : Int) == 3) = false := by simp; omega
                have e5 : ((kd : Int) == 1) = false := by simp; omega
                go_wp2
                go_roundw
                case rel => exact ⟨j + 1, by omega, by go_num, ⟨y, rfl, HNX.out⟩, by rw [HTK.out, if_neg hk3]; rfl, by first | rfl | trivial⟩
                case measure => simp [intOf]; omega
        · have hje : ¬ (j : Int) < (n : Int) := by omega
          have hn1l : n1 < o.length := by have := HNO.out; have := HN1.out; omega
          have hti := HAT.out n1 hn1l
          have hl0 := HLI.out.last n1 hn1l (by have := HNO.out; have := HN1.out; omega)
          have t3 := hti.c3
          rw [hl0] at t3
          have t3' : wr.cell? ⟨(ad.add (n1 * 4)).block, (ad.add (n1 * 4)).off + 3, none⟩ = some (.int .i64 (al : Int)) := by rw [t3, HALN.out]; rfl
          have hcal : (cnt : Int) < (al : Int) := by have := HALN.out; omega
          clear hti hl0 t3 hzz
          go_wp2
          go_ret
          exact ⟨rfl, HL2.out⟩
theorem walk (w : World) (hg : Sgn w) (t : ByteArray) (ht : t.size ≤ maxLen) :
    Calls Tryd.prog 4 #[.string t] w fun e w' => e = .returned (.bool true) ∧ Below w.heap.size w w' := by
  obtain ⟨s, rfl⟩ : ∃ s, t = mkS s := ⟨_, (mkS_of t).symm⟩
  by_cases h : (3000 : Int) < ((mkS s).size : Int)
  · exact walkX w hg s h
  · cases ha : Lx.all s with
    | error nk => exact walkE w hg s h nk.1 nk.2 (by rw [ha])
    | ok o => exact walkO w hg s h o ha
end lexerLines
end Go.Proofs.YtnjabmacbgehlaaDoor
