/- varint's Take: what it tells of any bytes. -/
import Derived.Test.YtemokpnepnmmkaaProg
import Derived.Test.YtemokpnepnmmkaaMa
import Derived.Laws.ShiftsVarLaws
namespace Go.Proofs.Ytemokpnepnmmkaa
open Go.RowKit
theorem ne_cast (c d : Nat) : ((c : Int) != (d : Int)) = (c != d) := by rw [Bool.eq_iff_iff]; simp; omega
theorem beq_cast (c d : Nat) : ((c : Int) == (d : Int)) = (c == d) := by rw [Bool.eq_iff_iff]; simp; omega
def mayB (c i : Nat) : Bool := decide (i = 0 ∨ (c ≠ 0 ∧ (i < 9 ∨ c = 1)))
theorem mayB_1 (c i : Nat) (h0 : ¬ i = 0) (h9 : i < 9) : ((c : Int) != 0) = mayB c i := by
  have e := ne_cast c 0
  rw [show ((0 : Nat) : Int) = 0 from rfl] at e
  rw [e, mayB, Bool.eq_iff_iff]; simp [h0, h9]
theorem mayB_2 (c i : Nat) (h0 : ¬ i = 0) (h9 : ¬ i < 9) : ((c : Int) != 0 && (decide ((i : Int) < 9) || (c : Int) == 1)) = mayB c i := by
  have e := ne_cast c 0
  have e1 := beq_cast c 1
  rw [show ((0 : Nat) : Int) = 0 from rfl] at e
  rw [show ((1 : Nat) : Int) = 1 from rfl] at e1
  have e2 : decide ((i : Int) < 9) = decide (i < 9) := by rw [decide_eq_decide]; omega
  rw [e, e1, e2, mayB, Bool.eq_iff_iff]; simp [h0, h9]
theorem mayEnd_v (c i : Nat) (w : World) (hc : c < 256) (hi : i ≤ 10) :
    Calls Try.prog 78 #[.int .u8 (c : Int), .int .i64 (i : Int)] w fun e w' => e = .returned (.bool (mayB c i)) ∧ w = w' := by
  by_cases h0 : i = 0
  · subst h0
    go_enter Try.func78, Try.ntmps78
    go_wp2
    go_ret
    simp [mayB]
  · by_cases hc0 : c = 0
    · subst hc0
      go_enter Try.func78, Try.ntmps78
      go_wp2
      go_ret
      simp [mayB, h0]
    · by_cases h9 : i < 9
      · go_enter Try.func78, Try.ntmps78
        go_wp2
        go_ret
        exact ⟨by rw [← mayB_1 c i h0 h9]; rfl, rfl⟩
      · go_enter Try.func78, Try.ntmps78
        go_wp2
        go_ret
        exact ⟨by rw [← mayB_2 c i h0 h9]; rfl, rfl⟩
def cut64 (n : Nat) : Nat := n % 18446744073709551616
theorem cut64_lt {n : Nat} (h : n < 18446744073709551616) : cut64 n = n := Nat.mod_eq_of_lt h
theorem or_step (v k c : Nat) (hv : v < 128 ^ k) (hk : k ≤ 9) : bits .or .u64 (cut64 v : Int) (IntKind.u64.wrap ((c : Int) % 128 * 2 ^ (7 * k))) = (cut64 (v + 128 ^ k * (c % 128)) : Int) := by
  have e : (c : Int) % 128 * 2 ^ (7 * k) = ((c % 128 * 2 ^ (7 * k) : Nat) : Int) := by simp
  have ew : IntKind.u64.wrap ((c % 128 * 2 ^ (7 * k) : Nat) : Int) = ((c % 128 * 2 ^ (7 * k) % 18446744073709551616 : Nat) : Int) := by
    rw [IntKind.wrap_u64]; simp
  have hv2 : v < 18446744073709551616 := Nat.lt_of_lt_of_le hv (Nat.le_trans (Nat.pow_le_pow_right (by omega) hk) (by omega))
  rw [e, ew, cut64_lt hv2, u64_or_nat _ _ hv2 (Nat.mod_lt _ (by omega)), Nat.or_comm]
  have hp : ∀ j, j = k → v < 128 ^ j → j ≤ 9 → c % 128 * 2 ^ (7 * j) % 18446744073709551616 ||| v = cut64 (v + 128 ^ j * (c % 128)) := by
    intro j _ hvj hj
    unfold cut64
    match j, hj with
    | 0, _ => rw [nat_join (7 * 0) _ _ (by omega) (by omega)]; omega
    | 1, _ => rw [nat_join (7 * 1) _ _ (by omega) (by omega)]; omega
    | 2, _ => rw [nat_join (7 * 2) _ _ (by omega) (by omega)]; omega
    | 3, _ => rw [nat_join (7 * 3) _ _ (by omega) (by omega)]; omega
    | 4, _ => rw [nat_join (7 * 4) _ _ (by omega) (by omega)]; omega
    | 5, _ => rw [nat_join (7 * 5) _ _ (by omega) (by omega)]; omega
    | 6, _ => rw [nat_join (7 * 6) _ _ (by omega) (by omega)]; omega
    | 7, _ => rw [nat_join (7 * 7) _ _ (by omega) (by omega)]; omega
    | 8, _ => rw [nat_join (7 * 8) _ _ (by omega) (by omega)]; omega
    | 9, _ => rw [nat_join (7 * 9) _ _ (by omega) (by omega)]; omega
  rw [hp k rfl hv hk]
theorem val_take_lt (bs : List UInt8) (k : Nat) : val (bs.take k) < 128 ^ k := by
  have h := val_lt (bs.take k)
  exact Nat.lt_of_lt_of_le h (Nat.pow_le_pow_right (by omega) (by simp; omega))
theorem or_take (bs : List UInt8) (k c : Nat) (h : k < bs.length) (hk : k ≤ 9) (hc : c = bs[k].toNat) :
    bits .or .u64 (cut64 (val (bs.take k)) : Int) (IntKind.u64.wrap ((c : Int) % 128 * 2 ^ (7 * k))) = (cut64 (val (bs.take (k + 1))) : Int) := by
  rw [or_step _ k c (val_take_lt bs k) hk, val_snoc bs k h, hc]
theorem takeM_yes (bs : List UInt8) (k : Nat) (h : k < bs.length) (h10 : k < 10) (hh : heads bs = k) (hm : mayB bs[k].toNat k = true) :
    takeM bs = (val (bs.take (k + 1)), k + 1, 0) ∧ val (bs.take (k + 1)) < 18446744073709551616 := by
  have hx : takeM bs = (val (bs.take (k + 1)), k + 1, 0) := by
    have e : bs.getD k 0 = bs[k] := by simp [List.getD, List.getElem?_eq_getElem h]
    unfold takeM
    rw [hh, e, if_neg (by omega), if_neg (by omega), if_neg]
    simp [mayB] at hm
    rintro (⟨a, b⟩ | ⟨a, b⟩)
    · rcases hm with hm | hm
      · omega
      · exact hm.1 b
    · rcases hm with hm | hm
      · omega
      · rcases hm.2 with h9 | h1
        · omega
        · omega
  rcases takeM_cases bs with h1 | h1
  · have := h1.2.2.2.2.2.1; rw [hx] at this; exact ⟨hx, this⟩
  · rw [hx] at h1; simp at h1
theorem takeM_no (bs : List UInt8) (k : Nat) (h : k < bs.length) (h10 : k < 10) (hh : heads bs = k) (hm : mayB bs[k].toNat k = false) : takeM bs = (0, 0, 11) := by
  have e : bs.getD k 0 = bs[k] := by simp [List.getD, List.getElem?_eq_getElem h]
  unfold takeM
  rw [hh, e, if_neg (by omega), if_neg (by omega), if_pos]
  simp only [mayB, decide_eq_false_iff_not] at hm
  by_cases h0 : bs[k].toNat = 0
  · left; exact ⟨by omega, h0⟩
  · right; omega
theorem take_ret (a b c d e f : Int) (h1 : a = d) (h2 : b = e) (h3 : c = f) : Ending.returned (.tuple #[.int .u64 a, .int .i64 b, .int .i64 c]) = .returned (.tuple #[.int .u64 d, .int .i64 e, .int .i64 f]) := by rw [h1, h2, h3]
set_option maxRecDepth 100000 in
set_option maxHeartbeats 800000 in
theorem take_v (A : Option Addr) (n cap B : Nat) (bs : List UInt8) (w : World) (hr : Rd w B A n (bs.map bv)) (hn : n ≤ 140737488351232) :
    Calls Try.prog 71 #[.slice A n cap] w fun e w' => e = .returned (.tuple #[.int .u64 ((takeM bs).1 : Int), .int .i64 ((takeM bs).2.1 : Int), .int .i64 ((takeM bs).2.2 : Int)]) ∧ w = w' := by
  have hlen := Lib.hid hr.len
  have hh := heads_le bs
  obtain ⟨m, hm, hm1, hm2, hm3⟩ : ∃ m, m = min n 10 ∧ m ≤ n ∧ m ≤ 10 ∧ (m < n → 10 ≤ m) := ⟨_, rfl, by omega, by omega, by omega⟩
  have HM := Lib.hid hm
  clear hm
  by_cases hn10 : n ≤ 10
  all_goals
    go_enter Try.func71, Try.ntmps71
    go_wp2
    go_loop [5, 11] (fun x i => ∃ k : Nat, k ≤ m ∧ k ≤ heads bs ∧ i = .int .i64 (k : Int) ∧ x = .int .u64 (cut64 (val (bs.take k)) : Int)) (fun _ i => 10 - (intOf i).toNat)
    case atStart => exact ⟨0, by omega, by omega, rfl, rfl⟩
    case round =>
      obtain ⟨k, hk1, hk2, rfl, rfl⟩ := hrel
      have HR := Lib.hid hr
      clear hr
      by_cases hlt : k < m
      · obtain ⟨ad, hl, rfl, hb, hc⟩ := HR.out.byte (k := k) (by omega)
        obtain ⟨c, hcc⟩ : ∃ c, c = bs[k].toNat := ⟨_, rfl⟩
        have hc' : w.cell? (ad.add k) = some (.int .u8 (c : Int)) := by rw [hc, hcc]; rfl
        have hc256 : c < 256 := by rw [hcc]; exact UInt8.toNat_lt _
        have hat := Lib.hid (heads_at bs k hl (by omega) hk2)
        have HC := Lib.hid hcc
        clear hcc hc
        by_cases h128 : 128 ≤ c
        · go_wp2
          go_round
          case rel => exact ⟨k + 1, by omega, hat.out.1 (by rw [← HC.out]; exact h128), by go_num, int_eq (or_take bs k c hl (by omega) HC.out)⟩
          case measure => simp [intOf]; omega
        · have hk9 : k ≤ 10 := by omega
          have hto := Lib.hid (or_take bs k c hl (by omega) HC.out)
          have hhk : heads bs = k := hat.out.2 (by rw [← HC.out]; omega)
          have HK := Lib.hid hhk
          clear hhk
          by_cases hmb : mayB c k = true
          · have ht := Lib.hid (takeM_yes bs k hl (by omega) HK.out (by rw [← HC.out]; exact hmb))
            have HMB := Lib.hid hmb
            clear hmb
            go_wp2_with (go_at_call 78; refine (mayEnd_v _ _ _ hc256 hk9).mono ?_; rintro e w' ⟨rfl, rfl⟩; rw [HMB.out])
            go_ret3
            exact ⟨take_ret _ _ _ _ _ _ (by rw [hto.out, ht.out.1, cut64_lt ht.out.2]) (by rw [ht.out.1]; simp) (by rw [ht.out.1]; simp), rfl⟩
          · have hmb' : mayB c k = false := by simpa using hmb
            have ht := Lib.hid (takeM_no bs k hl (by omega) HK.out (by rw [← HC.out]; exact hmb'))
            have HMB := Lib.hid hmb'
            clear hmb hmb'
            go_wp2_with (go_at_call 78; refine (mayEnd_v _ _ _ hc256 hk9).mono ?_; rintro e w' ⟨rfl, rfl⟩; rw [HMB.out])
            go_ret3
            exact ⟨take_ret _ _ _ _ _ _ (by rw [ht.out]; rfl) (by rw [ht.out]; rfl) (by rw [ht.out]; rfl), rfl⟩
      · have hkm : heads bs = m ∧ k = m := by have := hlen.out; have := HM.out; omega
        have HK := Lib.hid hkm
        clear hkm
        by_cases hn10' : n < 10
        · have ht : takeM bs = (0, 0, 10) := by
            unfold takeM; have := hlen.out; have := HM.out; have := HK.out; rw [if_neg (by omega), if_pos (by omega)]
          have HT := Lib.hid ht
          clear ht
          go_wp2
          all_goals
            go_ret3
            exact ⟨take_ret _ _ _ _ _ _ (by rw [HT.out]; rfl) (by rw [HT.out]; rfl) (by rw [HT.out]; rfl), rfl⟩
        · have ht : takeM bs = (0, 0, 11) := by
            unfold takeM; have := hlen.out; have := HM.out; have := HK.out; rw [if_pos (by omega)]
          have HT := Lib.hid ht
          clear ht
          go_wp2
          all_goals
            go_ret3
            exact ⟨take_ret _ _ _ _ _ _ (by rw [HT.out]; rfl) (by rw [HT.out]; rfl) (by rw [HT.out]; rfl), rfl⟩
end Go.Proofs.Ytemokpnepnmmkaa
/- varint's add and Put: the bytes that each one makes. -/
namespace Go.Proofs.Ytemokpnepnmmkaa
open Go.RowKit
theorem bv_of {c : UInt8} {x : Int} (h : x = (c.toNat : Int)) : Value.int .u8 x = bv c := by rw [h]; rfl
theorem add_more (bs done : List UInt8) (z : Nat) : List.map bv (bs ++ done) ++ [Value.int .u8 ((z : Int) % 128 + 128)] = (bs ++ (done ++ [UInt8.ofNat (z % 128 + 128)])).map bv := by
  simp only [List.map_append, List.map_cons, List.map_nil, bv, byte_of (show z % 128 + 128 < 256 by omega)]
  simp
theorem add_last (bs done : List UInt8) (z : Nat) (h : z < 128) : List.map bv (bs ++ done) ++ [Value.int .u8 (z : Int)] = (bs ++ (done ++ numL z)).map bv := by
  rw [numL_lt h]
  simp only [List.map_append, List.map_cons, List.map_nil, bv, byte_of (show z < 256 by omega)]
  simp
theorem u64_div128 (z : Nat) (h : z < 18446744073709551616) : IntKind.u64.wrap ((z : Int) / 128) = (z : Int) / 128 := by rw [IntKind.wrap_u64]; omega
set_option maxRecDepth 100000 in
theorem add_v (base : Nat) (v : Value) (bs : List UInt8) (x : Nat) (w : World) (hown : w.ownsRow base 5 1 v (bs.map bv).length (bs.map bv)) (hb : base ≤ w.heap.size)
    (hx : x < 18446744073709551616) (hl : bs.length ≤ 100000000000000) :
    Calls Try.prog 55 #[v, .int .u64 (x : Int)] w fun e w' => ∃ v', e = .returned v' ∧ Grew w w' base 5 v v' ((bs ++ numL x).map bv) := by
  obtain ⟨i0, hi, hz0, hz1, hz2⟩ := info_parts info_u8
  have h10 := Lib.hid (numL_ten hx)
  have HX := Lib.hid hx
  clear hx
  go_enter Try.func55, Try.ntmps55
  go_wp2
  go_loopw [0, 1] (fun v' y wr => ∃ (done : List UInt8) (z : Nat), y = .int .u64 (z : Int) ∧ Hid (z < 18446744073709551616) ∧ numL x = done ++ numL z ∧ Grew w wr base 5 v v' ((bs ++ done).map bv)) (fun _ y _ => (intOf y).toNat)
  case atStart => exact ⟨[], x, rfl, HX, rfl, by simpa using Grew.refl hown⟩
  case round =>
    obtain ⟨done, z, rfl, hz, hd, hg⟩ := hrel
    have hle := numL_ne z
    have hlen : done.length + (numL z).length ≤ 10 := by have := h10.out; rw [hd, List.length_append] at this; exact this
    have HD := Lib.hid hd
    clear hd
    have hsz := hg.grown.size
    by_cases h128 : 128 ≤ z
    · have hdv := u64_div128 z hz.out
      go_wp2_with (at_builtin; refine wpList_app1 _ _ rfl (.tmp 7) (.tmp 12) _ rfl base 5 i0 (.int .u8 0) 1 Try.underlying28 hi hz0 hz1 hz2 rfl rfl u0 _ rfl hg.own rfl (by simp; omega) (by simp; omega) (by omega) ?_; intro v1 w1 hg1)
      go_roundw
      case rel =>
        rw [add_more] at hg1
        refine ⟨done ++ [UInt8.ofNat (z % 128 + 128)], z / 128, by go_num, ?_, ?_, hg.trans hg1⟩
        · have := hz.out; show z / 128 < _; omega
        · rw [HD.out, numL_ge h128]; simp
      case measure => simp [intOf]; omega
    · have hw8 : IntKind.u8.wrap (z : Int) = (z : Int) := by rw [IntKind.wrap_u8']; omega
      go_wp2_with (at_builtin; refine wpList_app1 _ _ rfl (.tmp 16) (.tmp 19) _ rfl base 5 i0 (.int .u8 0) 1 Try.underlying28 hi hz0 hz1 hz2 rfl rfl u0 _ rfl hg.own rfl (by simp; omega) (by simp; omega) (by omega) ?_; intro v1 w1 hg1)
      go_ret
      refine ⟨v1, rfl, ?_⟩
      rw [add_last _ _ _ (by omega), ← HD.out] at hg1
      exact hg.trans hg1
theorem flat_snoc {α : Type} (f : α → List UInt8) (l : List α) (k : Nat) (h : k < l.length) : (l.take (k + 1)).flatMap f = (l.take k).flatMap f ++ f l[k] := by
  have e := List.take_succ_eq_append_getElem h
  rw [e, List.flatMap_append]; simp
theorem putL_len (l : List Nat) (h : ∀ x ∈ l, x < 18446744073709551616) : (putL l).length ≤ 10 * l.length := by
  induction l with
  | nil => simp [putL]
  | cons x r ih =>
    have h1 := ih (fun y hy => h y (List.mem_cons_of_mem _ hy))
    have h2 := numL_ten (h x (List.mem_cons_self ..))
    simp only [putL, List.flatMap_cons, List.length_append, List.length_cons] at h1 ⊢
    omega
theorem flat_take_len {α : Type} (f : α → List UInt8) (l : List α) (k : Nat) : ((l.take k).flatMap f).length ≤ (l.flatMap f).length := by
  conv => rhs; rw [← List.take_append_drop k l]
  rw [List.flatMap_append, List.length_append]; omega
theorem flat_at_len {α : Type} (f : α → List UInt8) (l : List α) (k : Nat) (h : k < l.length) : ((l.take k).flatMap f).length + (f l[k]).length ≤ (l.flatMap f).length := by
  have := flat_take_len f l (k + 1)
  rw [flat_snoc f l k h, List.length_append] at this
  exact this
set_option maxRecDepth 100000 in
theorem put_v (A : Option Addr) (n cap B : Nat) (l : List Nat) (w : World) (hr : Rd w B A n (l.map nv)) (hB : B ≤ w.heap.size) (hn : n ≤ 1000000000000) (hx : ∀ x ∈ l, x < 18446744073709551616) :
    Calls Try.prog 40 #[.slice A n cap] w fun e w' => ∃ v', e = .returned v' ∧ Grew w w' w.heap.size 5 (.slice none 0 0) v' ((putL l).map bv) := by
  have hlen := Lib.hid hr.len_map
  have HX := Lib.hid hx
  have hpl := Lib.hid (putL_len l hx)
  have HR := Lib.hid hr
  clear hx hr
  go_enter Try.func40, Try.ntmps40
  go_wp2
  go_loopw [3, 8] (fun v i wr => ∃ k : Nat, k ≤ n ∧ i = .int .i64 (k : Int) ∧ Grew w wr w.heap.size 5 (.slice none 0 0) v ((putL (l.take k)).map bv)) (fun _ i _ => n - (intOf i).toNat)
  case atStart => exact ⟨0, by omega, rfl, Grew.nil _ _ _⟩
  case round =>
    obtain ⟨k, hk, rfl, hg⟩ := hrel
    have hsz := hg.grown.size
    by_cases hlt : k < n
    · obtain ⟨ad, hl, rfl, hb, hc⟩ := (HR.out.below (hg.belowNil.mono hB)).at_map (k := k) hlt
      have hxk : l[k] < 18446744073709551616 := HX.out _ (List.getElem_mem hl)
      have hbl : (putL (l.take k)).length ≤ 100000000000000 := by
        have h1 := flat_take_len numL l k
        have h2 := hpl.out
        have h3 := hlen.out
        unfold putL at h2 ⊢; omega
      obtain ⟨x, hxx⟩ : ∃ x, x = l[k] := ⟨_, rfl⟩
      rw [← hxx] at hxk hc
      have hc' : wr.cell? (ad.add k) = some (.int .u64 (x : Int)) := hc
      have HXX := Lib.hid hxx
      have HXK := Lib.hid hxk
      have HG := Lib.hid hg
      clear hc hxx hxk hg
      go_wp2_with (go_at_call 55; refine (add_v w.heap.size _ (putL (l.take k)) x wr HG.out.own hsz HXK.out hbl).mono ?_; rintro e w1 ⟨v1, rfl, hg1⟩)
      go_roundw
      case rel =>
        refine ⟨k + 1, by omega, by go_num, ?_⟩
        have e : putL (l.take (k + 1)) = putL (l.take k) ++ numL x := by rw [HXX.out]; exact flat_snoc numL l k hl
        rw [e]
        exact HG.out.trans hg1
      case measure => simp [intOf]; omega
    · have hkn : k = n := by omega
      have e : l.take k = l := by rw [List.take_of_length_le]; have := hlen.out; omega
      rw [e] at hg
      have HE := Lib.hid e
      clear e hkn
      go_wp2
      go_ret
      exact ⟨_, rfl, hg⟩
end Go.Proofs.Ytemokpnepnmmkaa
/- varint's Texts: the bytes that it makes. -/
namespace Go.Proofs.Ytemokpnepnmmkaa
open Go.RowKit
theorem textL_len (s : ByteArray) : (textL s).length = (numL s.size).length + s.size := by rw [textL, List.length_append, size_toList]
theorem texts_at (l : List ByteArray) (k : Nat) (hl : k < l.length) {T : Nat} (hx : (textsL l).length ≤ T) : (textsL (l.take k)).length + (numL l[k].size).length + l[k].size ≤ T := by
  have h1 := flat_at_len textL l k hl
  rw [textL_len] at h1
  exact Nat.le_trans (by rw [Nat.add_assoc]; exact h1) hx
set_option maxRecDepth 100000 in
theorem texts_v (A : Option Addr) (n cap B : Nat) (l : List ByteArray) (w : World) (hr : Rd w B A n (l.map Value.string)) (hB : B ≤ w.heap.size) (hn : n ≤ 140737488351232) (hx : (textsL l).length ≤ 100000000000000) :
    Calls Try.prog 42 #[.slice A n cap] w fun e w' => ∃ v', e = .returned v' ∧ Grew w w' w.heap.size 5 (.slice none 0 0) v' ((textsL l).map bv) := by
  obtain ⟨i0, hi, hz0, hz1, hz2⟩ := info_parts info_u8
  have hlen := Lib.hid hr.len_map
  have HX := Lib.hid hx
  have HR := Lib.hid hr
  clear hx hr
  go_enter Try.func42, Try.ntmps42
  go_wp2
  go_loopw [3, 8] (fun v i wr => ∃ k : Nat, k ≤ n ∧ i = .int .i64 (k : Int) ∧ Grew w wr w.heap.size 5 (.slice none 0 0) v ((textsL (l.take k)).map bv)) (fun _ i _ => n - (intOf i).toNat)
  case atStart => exact ⟨0, by omega, rfl, Grew.nil _ _ _⟩
  case round =>
    obtain ⟨k, hk, rfl, hg⟩ := hrel
    have hsz := hg.grown.size
    by_cases hlt : k < n
    · obtain ⟨ad, hl, rfl, hb, hc⟩ := (HR.out.below (hg.belowNil.mono hB)).at_map (k := k) hlt
      obtain ⟨s, hs⟩ : ∃ s, s = l[k] := ⟨_, rfl⟩
      rw [← hs] at hc
      have hbl : (textsL (l.take k)).length + (numL s.size).length + s.size ≤ 100000000000000 := by
        rw [hs]; exact texts_at l k hl HX.out
      have hw : IntKind.u64.wrap (s.size : Int) = (s.size : Int) := by rw [IntKind.wrap_u64]; omega
      have HS := Lib.hid hs
      have HG := Lib.hid hg
      clear hs hg
      have hs64 := Lib.hid (show s.size < 18446744073709551616 by omega)
      go_wp2_with (first
        | (go_at_call 55; refine (add_v w.heap.size _ (textsL (l.take k)) s.size wr HG.out.own hsz hs64.out (by omega)).mono ?_; rintro e w1 ⟨v1, rfl, hg1⟩; have hsz1 := hg1.grown.size)
        | (at_builtin; refine wpList_appS w1 rfl (.tmp 17) (.tmp 18) _ _ rfl w.heap.size 5 i0 Try.underlying28 Try.underlying9 hi hz0 hz1 hz2 v1 _ rfl hg1.own s rfl (by simp; omega) (by omega) ?_; intro v2 w2 hg2))
      go_roundw
      case rel =>
        refine ⟨k + 1, by omega, by go_num, ?_⟩
        have e : textsL (l.take (k + 1)) = (textsL (l.take k) ++ numL s.size) ++ s.data.toList := by
          rw [HS.out, List.append_assoc]; exact flat_snoc textL l k hl
        rw [e, List.map_append]
        exact (HG.out.trans hg1).trans hg2
      case measure => simp [intOf]; omega
    · have e : l.take k = l := by rw [List.take_of_length_le]; have := hlen.out; omega
      rw [e] at hg
      clear e
      go_wp2
      go_ret
      exact ⟨_, rfl, hg⟩
end Go.Proofs.Ytemokpnepnmmkaa
/- varint's add, Put and Texts. -/
/- varint's Zig and Zag, and the document's Zig: what each one tells of any number. -/
namespace Go.Proofs.Ytemokpnepnmmkaa
open Go.RowKit
/-- The number without a sign of one with a sign. -/
def zigOf (x : Int) : Int := if x < 0 then 2 * -(x + 1) + 1 else 2 * x
/-- The number with a sign of one without. -/
def zagOf (x : Nat) : Int := if x % 2 = 1 then -((x / 2 : Nat) : Int) - 1 else ((x / 2 : Nat) : Int)
theorem zig_zag (x : Nat) : zigOf (zagOf x) = (x : Int) := by unfold zigOf zagOf; split <;> split <;> omega
theorem zag_zig (x : Int) : zagOf (zigOf x).toNat = x := by unfold zigOf zagOf; split <;> split <;> omega
theorem zig_nat (x : Int) (h1 : -9223372036854775808 ≤ x) (h2 : x ≤ 9223372036854775807) : ((zigOf x).toNat : Int) = zigOf x ∧ (zigOf x).toNat < 18446744073709551616 := by unfold zigOf; split <;> omega
theorem zag_lo (x : Nat) (h : x < 18446744073709551616) : -9223372036854775808 ≤ zagOf x ∧ zagOf x ≤ 9223372036854775807 := by unfold zagOf; split <;> omega
theorem zig_v (x : Int) (w : World) (h1 : -9223372036854775808 ≤ x) (h2 : x ≤ 9223372036854775807) :
    Calls Try.prog 41 #[.int .i64 x] w fun e w' => e = .returned (.int .u64 (zigOf x)) ∧ w = w' := by
  by_cases h : x < 0
  all_goals
    go_enter Try.func41, Try.ntmps41
    go_wp2
    go_ret
    refine ⟨ret_int ?_, rfl⟩
    simp [zigOf]; omega
theorem refZig_v (x : Int) (w : World) (h1 : -9223372036854775808 ≤ x) (h2 : x ≤ 9223372036854775807) :
    Calls Try.prog 29 #[.int .i64 x] w fun e w' => e = .returned (.int .u64 (zigOf x)) ∧ w = w' := by
  by_cases h : x < 0
  all_goals
    go_enter Try.func29, Try.ntmps29
    go_wp2
    go_ret
    refine ⟨ret_int ?_, rfl⟩
    simp [zigOf]; omega
theorem zag_v (x : Nat) (w : World) (h1 : x < 18446744073709551616) :
    Calls Try.prog 75 #[.int .u64 (x : Int)] w fun e w' => e = .returned (.int .i64 (zagOf x)) ∧ w = w' := by
  have hd : IntKind.u64.wrap ((x : Int) / 2) = ((x / 2 : Nat) : Int) := by rw [IntKind.wrap_u64]; omega
  obtain ⟨y, hy⟩ : ∃ y, y = x / 2 := ⟨_, rfl⟩
  have hy2 : (y : Int) ≤ 9223372036854775807 := by omega
  rw [← hy] at hd
  by_cases h : x % 2 = 1
  · have hm : ((x : Int) % 2 == 1) = true := by simp; omega
    have HX := Lib.hid h
    have HY := Lib.hid hy
    clear h1 h hy
    go_enter Try.func75, Try.ntmps75
    go_wp2
    go_ret
    refine ⟨ret_int ?_, rfl⟩
    rw [zagOf, if_pos HX.out, ← HY.out]
  · have hm : ((x : Int) % 2 == 1) = false := by simp; omega
    have HX := Lib.hid h
    have HY := Lib.hid hy
    clear h1 h hy
    go_enter Try.func75, Try.ntmps75
    go_wp2
    go_ret
    refine ⟨ret_int ?_, rfl⟩
    rw [zagOf, if_neg HX.out, ← HY.out]
end Go.Proofs.Ytemokpnepnmmkaa
