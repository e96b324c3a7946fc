/- The document's read, walked. -/
import Derived.Test.YtbgojfgapbcanaaDoorEvL
namespace Go.Proofs.YtbgojfgapbcanaaDoor
open Go.RowKit
theorem rd_num (w : World) (x : Nat) (o : Obj) (p0 p1 : Addr) (u0 u1 : Value) : Rd ((((w.setCell p0 u0).setCell p1 u1).alloc o).alloc (.cells #[.int .u64 (x : Int)] 56)) (w.heap.size + 2) (some ⟨w.heap.size + 1, 0, none⟩) 1 [.int .u64 (x : Int)] := by
  have h := Rd.lit (((w.setCell p0 u0).setCell p1 u1).alloc o) 56 [.int .u64 (x : Int)]
  simpa using h
theorem rd_txt (w : World) (x : List UInt8) (o : Obj) (p0 p1 : Addr) (u0 u1 : Value) : Rd ((((w.setCell p0 u0).setCell p1 u1).alloc o).alloc (.cells #[.string (mkS x)] 9)) (w.heap.size + 2) (some ⟨w.heap.size + 1, 0, none⟩) 1 [.string (mkS x)] := by
  have h := Rd.lit (((w.setCell p0 u0).setCell p1 u1).alloc o) 9 [.string (mkS x)]
  simpa using h
theorem two_later' (w : World) (o o2 : Obj) : Later w ((w.alloc o).alloc o2) := Later.trans (Later.alloc w o) (Later.alloc _ o2)
theorem one_num (x : Nat) : ∀ u ∈ [Value.int .u64 (x : Int)], u.oneCell' = true := by simp [Value.oneCell']
theorem one_txt (x : List UInt8) : ∀ u ∈ [Value.string (mkS x)], u.oneCell' = true := by simp [Value.oneCell']
theorem Keeps.set {S : Nat → Prop} (W : World) {b : Nat} (h : S b) (i : Nat) (u : Value) : Keeps S W (W.setCell ⟨b, i, none⟩ u) :=
  ⟨by simp, fun j _ hj => Below.heap_setCell _ _ _ _ (fun e => hj (by rw [e]; exact h))⟩
def Two (a : Nat) : Nat → Prop := fun i => i = a ∨ i = a + 1
theorem two_l (a : Nat) : Two a a := .inl rfl
theorem two_r (a : Nat) : Two a (a + 1) := .inr rfl
theorem keeps_fill (a : Nat) (W : World) (u0 u1 u2 u3 u4 u5 : Value) : Keeps (Two a) W ((((((W.setCell ⟨a, 0, none⟩ u0).setCell ⟨a, 1, none⟩ u1).setCell ⟨a, 2, none⟩ u2).setCell ⟨a, 3, none⟩ u3).setCell ⟨a, 4, none⟩ u4).setCell ⟨a, 5, none⟩ u5) :=
  Keeps.trans (Keeps.set _ (two_l a) 0 u0) (Keeps.trans (Keeps.set _ (two_l a) 1 u1) (Keeps.trans (Keeps.set _ (two_l a) 2 u2) (Keeps.trans (Keeps.set _ (two_l a) 3 u3) (Keeps.trans (Keeps.set _ (two_l a) 4 u4) (Keeps.set _ (two_l a) 5 u5)))))
theorem below_fill {w W : World} (h : Below w.heap.size w W) (u0 u1 u2 u3 u4 u5 : Value) : Below w.heap.size w ((((((W.setCell ⟨w.heap.size, 0, none⟩ u0).setCell ⟨w.heap.size, 1, none⟩ u1).setCell ⟨w.heap.size, 2, none⟩ u2).setCell ⟨w.heap.size, 3, none⟩ u3).setCell ⟨w.heap.size, 4, none⟩ u4).setCell ⟨w.heap.size, 5, none⟩ u5) :=
  (((((h.setCell (by simp) u0).setCell (by simp) u1).setCell (by simp) u2).setCell (by simp) u3).setCell (by simp) u4).setCell (by simp) u5
theorem rec_rdN {w W : World} {b : List UInt8} {e : Nat} {A : Option Addr} {nums : List Nat} {c : Nat} {t : List UInt8} {A2 : Option Addr} {row : List (List UInt8)} {c2 : Nat} {long : Bool} (h : Rec w W b e A nums c t A2 row c2 long) {W' : World} (hk : Keeps (Two w.heap.size) W W') : Rd W' W'.heap.size A nums.length (nums.map nv) ∧ nums.length ≤ c := by
  obtain ⟨A', c', hv, h1, h2, h3⟩ := own_map h.ownN
  injection hv with h4 h5 h6
  subst h4
  subst h6
  exact ⟨hk.rd h2 (fun ad e1 h7 => by have := (h3 ad e1).1; rcases h7 with h7 | h7 <;> omega), h1⟩
theorem rec_rdR {w W : World} {b : List UInt8} {e : Nat} {A : Option Addr} {nums : List Nat} {c : Nat} {t : List UInt8} {A2 : Option Addr} {row : List (List UInt8)} {c2 : Nat} {long : Bool} (h : Rec w W b e A nums c t A2 row c2 long) {W' : World} (hk : Keeps (Two w.heap.size) W W') : Rd W' W'.heap.size A2 row.length (row.map sv) ∧ row.length ≤ c2 ∧ (∀ ad, A2 = some ad → w.heap.size ≤ ad.block) := by
  obtain ⟨A', c', hv, h1, h2, h3⟩ := own_map h.ownR
  injection hv with h4 h5 h6
  subst h4
  subst h6
  exact ⟨hk.rd h2 (fun ad e1 h7 => by have := (h3 ad e1).1; rcases h7 with h7 | h7 <;> omega), h1, fun ad e1 => by have := (h3 ad e1).1; omega⟩
theorem Rec0.facts0 {w W : World} {cs : Array Value} (h : Lr w W cs) : (W.cell? ⟨w.heap.size, 0, none⟩ = some (.string ⟨#[]⟩) ∧ W.cell? ⟨w.heap.size, 1, none⟩ = some (.int .i64 0) ∧ W.cell? ⟨w.heap.size, 2, none⟩ = some (.slice none 0 0) ∧ W.cell? ⟨w.heap.size, 3, none⟩ = some (.string ⟨#[]⟩) ∧ W.cell? ⟨w.heap.size, 4, none⟩ = some (.slice none 0 0) ∧ W.cell? ⟨w.heap.size, 5, none⟩ = some (.bool false)) ∧ (∀ i, W.frozen? ⟨w.heap.size, i, none⟩ = false) :=
  ⟨⟨h.cell0 0, h.cell0 1, h.cell0 2, h.cell0 3, h.cell0 4, h.cell0 5⟩, h.frozen0⟩
abbrev RV (b : List UInt8) (e : Nat) : Array Value := #[.string (mkS b), .int .i64 (e : Int)]
set_option maxRecDepth 100000 in
set_option maxHeartbeats 2000000 in
theorem read_v (w : World) (bs : List UInt8) (hn : bs.length ≤ 140737488351232) (ahead : Nat) (ha : ahead ≤ 4) (behind : Bool) :
    Calls Tryd.prog 45 #[.string (mkS bs), .int .i64 (ahead : Int), .bool behind] w fun r w' => ∃ (A : Option Addr) (c : Nat) (nums : List Nat) (t : List UInt8) (A2 : Option Addr) (c2 : Nat) (row : List (List UInt8)) (b : List UInt8) (e : Nat) (long : Bool),
      r = .returned (.agg (L6 b e A nums.length c t A2 row.length c2 long)) ∧ readM bs ahead behind = (nums, t, row, long, b, e) ∧ Rd w' w'.heap.size A nums.length (nums.map nv) ∧ nums.length ≤ c ∧ Rd w' w'.heap.size A2 row.length (row.map sv) ∧ row.length ≤ c2 ∧ Later w w' ∧ (∀ ad, A2 = some ad → w.heap.size ≤ ad.block) := by
  obtain ⟨in0, hin, hnz0, hnz1, hnz2⟩ := info_parts info_u64
  obtain ⟨is0, his, hsz0, hsz1, hsz2⟩ := info_parts info_str
  have HIN := Lib.hid (And.intro hin (And.intro hnz0 (And.intro hnz1 hnz2)))
  have HIS := Lib.hid (And.intro his (And.intro hsz0 (And.intro hsz1 hsz2)))
  have hB2 := Lib.hid (two_below w (.cells Z6 75) (.cells (L6 bs 0 none 0 0 [] none 0 0 false) 75))
  have hL2 : Hid (∀ W, Below (w.heap.size + 2) ((w.alloc (.cells Z6 75)).alloc (.cells (L6 bs 0 none 0 0 [] none 0 0 false) 75)) W → Rec w W bs 0 none [] 0 [] none [] 0 false) := fun W hW => by
    refine ⟨Laid.keep ⟨?_, ?_, hB2.out⟩ hW (Nat.le_refl _), World.ownsRow_nil _ _ _ _, World.ownsRow_nil _ _ _ _, fun k hk => by cases hk⟩
    · rw [((Below.refl (w.heap.size + 1) (w.alloc (.cells Z6 75))).alloc (by simp) _).block _ (by omega)]
      exact heap_alloc_new w _
    · have := heap_alloc_new (w.alloc (.cells Z6 75)) (.cells (L6 bs 0 none 0 0 [] none 0 0 false) 75)
      rwa [World.size_alloc] at this
  clear hin hnz0 hnz1 hnz2 his hsz0 hsz1 hsz2
  go_enter Tryd.func45, Tryd.ntmps45
  go_wp2
  go_loopw [8] (fun i wr => ∃ (k : Nat) (b' : List UInt8) (e' : Nat) (A : Option Addr) (nums : List Nat) (c : Nat), k ≤ ahead ∧ i = .int .i64 (k : Int) ∧ numsR k bs 0 = (nums, b', e') ∧ Rec w wr b' e' A nums c [] none [] 0 false) (fun i _ => ahead - (intOf i).toNat)
  case atStart => exact ⟨0, bs, 0, none, [], 0, by omega, rfl, rfl, hL2.out _ (Below.refl _ _)⟩
  case round =>
    obtain ⟨k, b', e', A, nums, c, hk, rfl, hnums, hrec⟩ := hrel
    have HREC := Lib.hid hrec
    have HNUMS := Lib.hid hnums
    obtain ⟨⟨q0, q1, q2, q3, q4, q5⟩, qf, qz⟩ := hrec.facts
    have hb' : b'.length ≤ 140737488351232 := by have := numsR_rest k bs 0; rw [hnums] at this; dsimp only at this; omega
    have hnl : nums.length = k := by have := numsR_len k bs 0; rw [hnums] at this; exact this
    clear hrec hnums
    by_cases hlt : k < ahead
    · obtain ⟨x, b2, e2, hx⟩ : ∃ x b2 e2, numR b' e' = (x, b2, e2) := ⟨_, _, _, rfl⟩
      have hnx := next_v b' e' wr hb'
      unfold rv at hnx
      rw [hx] at hnx
      dsimp only at hnx
      obtain ⟨nums1, hn1⟩ : ∃ nums1, nums1 = nums ++ [x] := ⟨_, rfl⟩
      have HN1 := Lib.hid hn1
      have HX := Lib.hid hx
      have HNX := Lib.hid hnx
      have HNL := Lib.hid hnl
      have HB' := Lib.hid hb'
      clear hn1 hx hnx hnl hb'
      obtain ⟨hin, hnz0, hnz1, hnz2⟩ := HIN.out
      go_wp2_with (first
        | (go_at_call 53; (with_reducible refine HNX.out.mono ?_); rintro r w2 ⟨rfl, hb2⟩; have R2 := Lib.hid (HREC.out.later hb2); clear q0 q1 q2 q3 q4 q5 qf qz; obtain ⟨⟨q0, q1, q2, q3, q4, q5⟩, qf, qz⟩ := R2.out.facts; have R4 := Lib.hid (fun o o2 => (R2.out.setR b2 e2).later (two_later' _ o o2)); have RM := Lib.hid (rd_num w2 x); clear hb2)
        | (at_builtin; refine wpList_appN _ rfl (.tmp 37) (.tmp 39) _ rfl (w.heap.size + 2) 56 in0 (.int .u64 0) 8 Tryd.underlying73 hin hnz0 hnz1 hnz2 rfl (.slice A nums.length c) (nums.map nv) rfl (R4.out _ _).ownN (w2.heap.size + 2) (some ⟨w2.heap.size + 1, 0, none⟩) 1 1 [.int .u64 (x : Int)] rfl (RM.out _ _ _ _ _) (one_num x) ?hby ?hle ?hba ?_; (case hby => have := HNL.out; simp only [List.length_map]; omega); (case hle => have := HNL.out; simp only [List.length_map]; omega); (case hba => simp; omega); intro v4 w4 hg4; obtain ⟨A4, c4, rfl, r4, hs4, l4⟩ := (R4.out _ _).pushN HN1.out hg4; have REC4 := Lib.hid r4; clear q0 q1 q2 q3 q4 q5 qf qz; have q2 := l4.cell 2; have qf := l4.frozen; have qz := l4.size; clear r4 l4 hg4 hs4))
      go_roundw
      case rel => exact ⟨k + 1, b2, e2, A4, nums1, c4, by omega, by go_num, by rw [numsR, HNUMS.out]; dsimp only; rw [HX.out, HN1.out], REC4.out⟩
      case measure => simp [intOf]; omega
    · have hka : k = ahead := by omega
      subst hka
      obtain ⟨t, b2, e2, ht⟩ : ∃ t b2 e2, textR b' e' = (t, b2, e2) := ⟨_, _, _, rfl⟩
      obtain ⟨N, b3, e3, hN⟩ : ∃ N b3 e3, numR b2 e2 = (N, b3, e3) := ⟨_, _, _, rfl⟩
      have hb2 : b2.length ≤ 140737488351232 := by have := textR_rest b' e'; rw [ht] at this; dsimp only at this; omega
      have hb3 : b3.length ≤ 140737488351232 := by have := numR_rest b2 e2; rw [hN] at this; dsimp only at this; omega
      have hwx := word_v b' e' wr hb'
      have hnx := fun W => next_v b2 e2 W hb2
      unfold rv at hwx hnx
      rw [ht] at hwx
      rw [hN] at hnx
      dsimp only at hwx hnx
      have HM : Hid (∀ row b5 e5, N ≤ 4096 → rowR N b3 e3 = (row, b5, e5) → readM bs k behind = if behind then (nums ++ [(numR b5 e5).1], t, row, false, (numR b5 e5).2.1, (numR b5 e5).2.2) else (nums, t, row, false, b5, e5)) := fun row b5 e5 h1 h2 => by
        unfold readM
        dsimp only
        rw [HNUMS.out]
        dsimp only
        rw [ht]
        dsimp only
        rw [hN]
        dsimp only
        rw [if_neg (by omega), h2]
      have HML : Hid (4096 < N → readM bs k behind = (nums, t, [], true, b3, e3)) := fun h1 => by
        unfold readM
        dsimp only
        rw [HNUMS.out]
        dsimp only
        rw [ht]
        dsimp only
        rw [hN]
        dsimp only
        rw [if_pos h1]
      have hN64 : N < 18446744073709551616 := by have := numR_lt b2 e2; rw [hN] at this; exact this
      have HWX := Lib.hid hwx
      have HNX := Lib.hid hnx
      have HB3 := Lib.hid hb3
      have HNL := Lib.hid hnl
      clear hwx hnx ht hN hb2 hb3 hb' hnl hk hlt
      have pre : True := trivial
      by_cases hbig : 4096 < N
      · have hbi : (4096 : Int) < (N : Int) := by omega
        have hml := Lib.hid (HML.out hbig)
        clear HIN HIS hB2 hL2 HM HML HB3 HNL hN64 HNUMS hn ha pre
        go_wp2_with (first
          | (go_at_call 54; (with_reducible refine HWX.out.mono ?_); rintro r w2 ⟨rfl, hb2⟩; have R2 := Lib.hid (HREC.out.later hb2); clear q0 q1 q2 q3 q4 q5 qf qz; obtain ⟨⟨q0, q1, q2, q3, q4, q5⟩, qf, qz⟩ := R2.out.facts; have RT := Lib.hid (fun o => (R2.out.setT t).later (Later.alloc _ o)); clear hb2)
          | (go_at_call 53; (with_reducible refine (HNX.out _).mono ?_); rintro r w3 ⟨rfl, hb3⟩; have RL := Lib.hid ((RT.out _).later hb3); clear q0 q1 q2 q3 q4 q5 qf qz; obtain ⟨⟨q0, q1, q2, q3, q4, q5⟩, qf, qz⟩ := RL.out.facts; obtain ⟨⟨p0, p1, p2, p3, p4, p5⟩, pf⟩ := RL.out.facts0; have qz0 := Nat.lt_of_succ_lt qz; clear hb3))
        refine bodyPost_ret (v := .agg #[.string (mkS b3), .int .i64 (e3 : Int), .slice A nums.length c, .string (mkS t), .slice none 0 0, .bool true]) (by simp [results, Tryd.results45, go_sem, p0, p1, p2, p3, p4, p5, qz0]) rfl
          ⟨A, c, nums, t, none, 0, [], b3, e3, true, rfl, hml.out, (rec_rdN RL.out (W' := _) ?_).1, (rec_rdN RL.out (Keeps.of (Later.refl _))).2, (rec_rdR RL.out (W' := _) ?_).1, (rec_rdR RL.out (Keeps.of (Later.refl _))).2.1, ?_, (rec_rdR RL.out (Keeps.of (Later.refl _))).2.2⟩
        · exact Keeps.trans (Keeps.set w3 (two_r _) 0 _) (Keeps.trans (Keeps.set _ (two_r _) 1 _) (Keeps.trans (Keeps.set _ (two_r _) 5 _) (Keeps.trans (keeps_fill _ _ _ _ _ _ _ _) (Keeps.of (Later.alloc _ _)))))
        · exact Keeps.trans (Keeps.set w3 (two_r _) 0 _) (Keeps.trans (Keeps.set _ (two_r _) 1 _) (Keeps.trans (Keeps.set _ (two_r _) 5 _) (Keeps.trans (keeps_fill _ _ _ _ _ _ _ _) (Keeps.of (Later.alloc _ _)))))
        · show Below _ _ _
          exact Below.trans (below_fill (Below.setCell (Below.setCell (Below.setCell RL.out.laid.bel (Nat.le_succ _) _) (Nat.le_succ _) _) (Nat.le_succ _) _) _ _ _ _ _ _) (Below.mono (Later.alloc _ _) (by have := RL.out.laid.size; simp; omega))
      · have hN4 : N ≤ 4096 := by omega
        have PK := Lib.hid (And.intro HIN.out (And.intro HIS.out (And.intro HM.out (And.intro HB3.out (And.intro HNL.out ha)))))
        clear HIN HIS hB2 hL2 HM HML HB3 HNL hN64 HNUMS hn ha pre
        have hni : ¬ (4096 : Int) < (N : Int) := by omega
        have hwN : IntKind.i64.wrap (N : Int) = (N : Int) := by rw [IntKind.wrap_i64]; omega
        go_wp2_with (first
          | (go_at_call 54; (with_reducible refine HWX.out.mono ?_); rintro r w2 ⟨rfl, hb2⟩; have R2 := Lib.hid (HREC.out.later hb2); clear q0 q1 q2 q3 q4 q5 qf qz; obtain ⟨⟨q0, q1, q2, q3, q4, q5⟩, qf, qz⟩ := R2.out.facts; have RT := Lib.hid (fun o => (R2.out.setT t).later (Later.alloc _ o)); clear hb2)
          | (go_at_call 53; (with_reducible refine (HNX.out _).mono ?_); rintro r w3 ⟨rfl, hb3⟩; have R3 := Lib.hid ((RT.out _).later hb3); clear q0 q1 q2 q3 q4 q5 qf qz; obtain ⟨⟨q0, q1, q2, q3, q4, q5⟩, qf, qz⟩ := R3.out.facts; clear hb3))
        have R4 := Lib.hid (fun o => (R3.out.setR b3 e3).later (Later.alloc _ o))
        clear q0 q1 q2 q3 q4 q5 qf qz
        go_loopw [15] (fun i wz => ∃ (j : Nat) (b5 : List UInt8) (e5 : Nat) (A2 : Option Addr) (row : List (List UInt8)) (c2 : Nat), j ≤ N ∧ i = .int .i64 (j : Int) ∧ rowR j b3 e3 = (row, b5, e5) ∧ Rec w wz b5 e5 A nums c t A2 row c2 false) (fun i _ => N - (intOf i).toNat)
        case atStart => exact ⟨0, b3, e3, none, [], 0, by omega, rfl, rfl, R4.out _⟩
        case round =>
          obtain ⟨j, b5, e5, A2, row, c2, hj, rfl, hrow, hrec⟩ := hrel
          have HR5 := Lib.hid hrec
          have HROW := Lib.hid hrow
          obtain ⟨⟨q0, q1, q2, q3, q4, q5⟩, qf, qz⟩ := hrec.facts
          obtain ⟨⟨p0, p1, p2, p3, p4, p5⟩, pf⟩ := hrec.facts0
          have qz0 := Nat.lt_of_succ_lt qz
          have hb5 := Lib.hid (show b5.length ≤ 140737488351232 by have := rowR_rest j b3 e3; rw [hrow] at this; dsimp only at this; have := PK.out.2.2.2.1; omega)
          have hrl := Lib.hid (show row.length = j by have := rowR_len j b3 e3; rw [hrow] at this; exact this)
          clear hrec hrow
          by_cases hlt : j < N
          · obtain ⟨x, b6, e6, hx⟩ : ∃ x b e, textR b5 e5 = (x, b, e) := ⟨_, _, _, rfl⟩
            have hwx := word_v b5 e5 wr hb5.out
            unfold rv at hwx
            rw [hx] at hwx
            dsimp only at hwx
            obtain ⟨row1, hn1⟩ : ∃ row1, row1 = row ++ [x] := ⟨_, rfl⟩
            have hstep : rowR (j + 1) b3 e3 = (row1, b6, e6) := by rw [rowR_snoc, HROW.out]; dsimp only; rw [hx, hn1]
            have HST := Lib.hid hstep
            have HN1 := Lib.hid hn1
            have HW2 := Lib.hid hwx
            clear hwx hx hn1 hstep p0 p1 p2 p3 p4 p5 pf
            obtain ⟨his, hsz0, hsz1, hsz2⟩ := PK.out.2.1
            go_wp2_with (first
              | (go_at_call 54; (with_reducible refine HW2.out.mono ?_); rintro r w2' ⟨rfl, hb2⟩; have R2' := Lib.hid (HR5.out.later hb2); clear q0 q1 q2 q3 q4 q5 qf qz; obtain ⟨⟨q0, q1, q2, q3, q4, q5⟩, qf, qz⟩ := R2'.out.facts; have R4' := Lib.hid (fun o o2 => (R2'.out.setR b6 e6).later (two_later' _ o o2)); have RM := Lib.hid (rd_txt w2' x); clear hb2)
              | (at_builtin; refine wpList_appN _ rfl (.tmp 76) (.tmp 78) _ rfl (w.heap.size + 2) 9 is0 (.string ⟨#[]⟩) 16 Tryd.underlying22 his hsz0 hsz1 hsz2 rfl (.slice A2 row.length c2) (row.map sv) rfl (R4'.out _ _).ownR (w2'.heap.size + 2) (some ⟨w2'.heap.size + 1, 0, none⟩) 1 1 [.string (mkS x)] rfl (RM.out _ _ _ _ _) (one_txt x) ?hby ?hle ?hba ?_; (case hby => have := hrl.out; simp only [List.length_map]; omega); (case hle => have := hrl.out; simp only [List.length_map]; omega); (case hba => simp; omega); intro v4 w4 hg4; obtain ⟨A4, c4, rfl, r4, hs4, l4⟩ := (R4'.out _ _).pushR HN1.out hg4; have REC4 := Lib.hid r4; clear q0 q1 q2 q3 q4 q5 qf qz; have q4 := l4.cell 4; have qf := l4.frozen; have qz := l4.size; clear r4 l4 hg4 hs4))
            go_roundw
            case rel => exact ⟨j + 1, b6, e6, A4, row1, c4, by omega, by go_num, HST.out, REC4.out⟩
            case measure => simp [intOf]; omega
          · have hjN : j = N := by omega
            subst hjN
            have hmm := PK.out.2.2.1 row b5 e5 hN4 HROW.out
            have HMM := Lib.hid hmm
            clear hmm hj hlt
            cases behind
            · go_wp2
              refine bodyPost_ret (v := .agg #[.string (mkS b5), .int .i64 (e5 : Int), .slice A nums.length c, .string (mkS t), .slice A2 row.length c2, .bool false]) (by simp [results, Tryd.results45, go_sem, p0, p1, p2, p3, p4, p5]) rfl
                ⟨A, c, nums, t, A2, c2, row, b5, e5, false, rfl, HMM.out, (rec_rdN HR5.out (W' := _) ?_).1, (rec_rdN HR5.out (Keeps.of (Later.refl _))).2, (rec_rdR HR5.out (W' := _) ?_).1, (rec_rdR HR5.out (Keeps.of (Later.refl _))).2.1, ?_, (rec_rdR HR5.out (Keeps.of (Later.refl _))).2.2⟩
              · exact keeps_fill _ _ _ _ _ _ _ _
              · exact keeps_fill _ _ _ _ _ _ _ _
              · show Below _ _ _
                exact below_fill HR5.out.laid.bel _ _ _ _ _ _
            · obtain ⟨x, b6, e6, hx⟩ : ∃ x b e, numR b5 e5 = (x, b, e) := ⟨_, _, _, rfl⟩
              have hnx := next_v b5 e5 wr hb5.out
              unfold rv at hnx
              rw [hx] at hnx
              dsimp only at hnx
              have hmm := HMM.out
              rw [hx] at hmm
              obtain ⟨nums1, hn1⟩ : ∃ nums1, nums1 = nums ++ [x] := ⟨_, rfl⟩
              rw [if_pos rfl, ← hn1] at hmm
              have HM2 := Lib.hid hmm
              have HN1 := Lib.hid hn1
              have HW2 := Lib.hid hnx
              clear hnx hx hn1 hmm HMM
              obtain ⟨hin, hnz0, hnz1, hnz2⟩ := PK.out.1
              go_wp2_with (first
                | (go_at_call 53; (with_reducible refine HW2.out.mono ?_); rintro r w2' ⟨rfl, hb2⟩; have R2' := Lib.hid (HR5.out.later hb2); clear q0 q1 q2 q3 q4 q5 qf qz; obtain ⟨⟨q0, q1, q2, q3, q4, q5⟩, qf, qz⟩ := R2'.out.facts; have R4' := Lib.hid (fun o o2 => (R2'.out.setR b6 e6).later (two_later' _ o o2)); have RM := Lib.hid (rd_num w2' x); clear hb2)
                | (at_builtin; refine wpList_appN _ rfl (.tmp 91) (.tmp 93) _ rfl (w.heap.size + 2) 56 in0 (.int .u64 0) 8 Tryd.underlying73 hin hnz0 hnz1 hnz2 rfl (.slice A nums.length c) (nums.map nv) rfl (R4'.out _ _).ownN (w2'.heap.size + 2) (some ⟨w2'.heap.size + 1, 0, none⟩) 1 1 [.int .u64 (x : Int)] rfl (RM.out _ _ _ _ _) (one_num x) ?hby ?hle ?hba ?_; (case hby => have := PK.out.2.2.2.2.1; have := PK.out.2.2.2.2.2; simp only [List.length_map]; omega); (case hle => have := PK.out.2.2.2.2.1; have := PK.out.2.2.2.2.2; simp only [List.length_map]; omega); (case hba => simp; omega); intro v4 w4 hg4; obtain ⟨A4, c4, rfl, r4, hs4, l4⟩ := (R4'.out _ _).pushN HN1.out hg4; have REC4 := Lib.hid r4; clear q0 q1 q2 q3 q4 q5 qf qz p0 p1 p2 p3 p4 p5 pf qz0; obtain ⟨⟨p0, p1, p2, p3, p4, p5⟩, pf⟩ := Rec0.facts0 l4; have q0 := l4.cell 0; have q1 := l4.cell 1; have q2 := l4.cell 2; have q3 := l4.cell 3; have q4 := l4.cell 4; have q5 := l4.cell 5; have qf := l4.frozen; have qz := l4.size; have qz0 := Nat.lt_of_succ_lt qz; clear r4 l4 hg4 hs4))
              refine bodyPost_ret (v := .agg #[.string (mkS b6), .int .i64 (e6 : Int), .slice A4 nums1.length c4, .string (mkS t), .slice A2 row.length c2, .bool false]) (by simp [results, Tryd.results45, go_sem, p0, p1, p2, p3, p4, p5]) rfl
                ⟨A4, c4, nums1, t, A2, c2, row, b6, e6, false, rfl, HM2.out, (rec_rdN REC4.out (W' := _) ?_).1, (rec_rdN REC4.out (Keeps.of (Later.refl _))).2, (rec_rdR REC4.out (W' := _) ?_).1, (rec_rdR REC4.out (Keeps.of (Later.refl _))).2.1, ?_, (rec_rdR REC4.out (Keeps.of (Later.refl _))).2.2⟩
              · exact keeps_fill _ _ _ _ _ _ _ _
              · exact keeps_fill _ _ _ _ _ _ _ _
              · show Below _ _ _
                exact below_fill REC4.out.laid.bel _ _ _ _ _ _
end Go.Proofs.YtbgojfgapbcanaaDoor
