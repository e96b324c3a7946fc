/- The walk of VarintReads: whatever is read of whatever bytes, the call returns true. -/
import Derived.Test.YtnffeeipnabdoaaAwake
import Derived.Test.YtnffeeipnabdoaaActs
import Derived.Deep.QuietTactic
import Derived.BigQuiet
namespace Go.Proofs.Ytnffeeipnabdoaa
namespace varintReads
open Go.RowKit
theorem quiet_l {P : Program} {f : FuncId} {args : Array Value} {w : World} {n : Nat} {v : Value} (h : Calls P f args (w.drewN n) fun e w' => e = .returned v ∧ w.drewN n = w') : Calls P f args (w.drewN n) fun e w'' => e = .returned v ∧ ∃ m, w'' = w.drewN m :=
  h.mono fun _ _ ⟨he, hm⟩ => ⟨he, n, hm.symm⟩
/-- What the loop keeps: both readers are in the same state. -/
def Same (w : World) (g h : Nat) (wr : World) (b : List UInt8) (e : Nat) : Prop :=
  Rdr wr h g b e ∧ wr.heap[h]? = some (.cells #[.string (mkS b), .int .i64 (e : Int)] 40 (0, 0)) ∧ Below w.heap.size w wr ∧ b.length ≤ 300 ∧ w.heap.size ≤ g ∧ w.heap.size ≤ h
theorem stored {w wr w3 : World} {g h : Nat} {b : List UInt8} {e : Nat} (hS : Same w g h wr b e) (hb3 : Below wr.heap.size wr w3) (b2 : List UInt8) (e2 : Nat) (o : Obj) :
    Rdr (((w3.setCell ⟨h, 0, none⟩ (.string (mkS b2))).setCell ⟨h, 1, none⟩ (.int .i64 (e2 : Int))).alloc o) h g b e ∧
    (((w3.setCell ⟨h, 0, none⟩ (.string (mkS b2))).setCell ⟨h, 1, none⟩ (.int .i64 (e2 : Int))).alloc o).heap[h]? = some (.cells #[.string (mkS b2), .int .i64 (e2 : Int)] 40 (0, 0)) ∧
    Below w.heap.size w (((w3.setCell ⟨h, 0, none⟩ (.string (mkS b2))).setCell ⟨h, 1, none⟩ (.int .i64 (e2 : Int))).alloc o) := by
  obtain ⟨hr, hR, hbr, hl3, hg1, hh1⟩ := hS
  have hhw : h < wr.heap.size := (Array.getElem?_eq_some_iff.1 hR).1
  have hz := hb3.size
  have hx := hbr.size
  refine ⟨hr.below ((((hb3.mono (B' := h) (by omega)).setCell (p := ⟨h, 0, none⟩) (Nat.le_refl _) _).setCell (p := ⟨h, 1, none⟩) (Nat.le_refl _) _).alloc (by simp; omega) _), ?_, ?_⟩
  · rw [Below.heap_alloc _ _ _ (by simp; omega), set_row (set_row ((hb3.block h hhw).trans hR) 0 _) 1 _]; rfl
  · exact (((hbr.trans (hb3.mono hx)).setCell hh1 _).setCell hh1 _).alloc (by simp; omega) _
theorem after {w W w5 : World} {g h : Nat} {b2 : List UInt8} {e2 : Nat} (hR : W.heap[h]? = some (.cells #[.string (mkS b2), .int .i64 (e2 : Int)] 40 (0, 0))) (hbr : Below w.heap.size w W)
    (hl : b2.length ≤ 300) (hg1 : w.heap.size ≤ g) (hh1 : w.heap.size ≤ h) (hr : Rdr w5 h g b2 e2) (hg5 : W.grownBy w5 (some g)) : Same w g h w5 b2 e2 := by
  have hgh := hr.lt
  refine ⟨hr, (hg5.block h (Array.getElem?_eq_some_iff.1 hR).1 (fun he => ?_)).trans hR, hbr.grown hg5 hbr.size (fun k hk => ?_), hl, hg1, hh1⟩
  · injection he with he; omega
  · injection hk with hk; omega
theorem textR_len (b : List UInt8) (e : Nat) : (textR b e).2.1.length ≤ b.length := by
  have h := numR_len b e
  unfold textR
  dsimp only
  split
  · exact h
  · split
    · exact h
    · simp; omega
theorem num_nil (w : World) : Calls Try.prog 19 #[.pointer none] w fun r w' => r = .returned (.int .u64 0) ∧ w = w' := by
  go_enter Try.func19, Try.ntmps19
  go_wp2_with (go_at_call 24; (with_reducible refine (err_nil _).mono ?_); rintro r w' ⟨rfl, rfl⟩)
  go_ret
  exact ⟨rfl, rfl⟩
theorem text_nil (w : World) : Calls Try.prog 22 #[.pointer none] w fun r w' => r = .returned (.string ⟨#[]⟩) ∧ w = w' := by
  go_enter Try.func22, Try.ntmps22
  go_wp2_with (first
    | (go_at_call 19; (with_reducible refine (num_nil _).mono ?_); rintro r w' ⟨rfl, rfl⟩)
    | (go_at_call 24; (with_reducible refine (err_nil _).mono ?_); rintro r w' ⟨rfl, rfl⟩))
  go_ret
  exact ⟨rfl, rfl⟩
theorem end_nil (w : World) : Calls Try.prog 25 #[.pointer none] w fun r w' => r = .returned (.int .i64 10) ∧ w = w' := by
  go_enter Try.func25, Try.ntmps25
  go_wp2_with (go_at_call 24; (with_reducible refine (err_nil _).mono ?_); rintro r w' ⟨rfl, rfl⟩)
  go_ret
  exact ⟨rfl, rfl⟩
theorem end3 (b : List UInt8) (e : Nat) : (((e : Int) == 0) = false ∧ endOf b e = (e : Int)) ∨ (((e : Int) == 0) = true ∧ (b == []) = true ∧ b.isEmpty = true ∧ endOf b e = (e : Int)) ∨ (((e : Int) == 0) = true ∧ (b == []) = false ∧ b.isEmpty = false ∧ endOf b e = 14) := by
  by_cases he : e = 0
  · subst he
    by_cases hb : b = []
    · subst hb; exact .inr (.inl ⟨rfl, rfl, rfl, rfl⟩)
    · exact .inr (.inr ⟨rfl, by simpa using hb, by simpa using hb, by simp [endOf, hb]⟩)
  · exact .inl ⟨by simp; omega, by simp [endOf, he]⟩
theorem Same.drewN {w wr : World} {g h e : Nat} {b : List UInt8} (hS : Same w g h wr b e) (n : Nat) : Same w g h (wr.drewN n) b e := by
  obtain ⟨h1, h2, h3, h4⟩ := hS
  exact ⟨h1, h2, ⟨h3.os, h3.tape, h3.output, h3.size, h3.block⟩, h4⟩
theorem ask {w w5 : World} {g h e : Nat} {b : List UInt8} (hS : Same w g h w5 b e) (x : Int) (hx : endOf b e = x) :
    (∀ n, Calls Try.prog 23 #[.pointer (some ⟨g, 0, none⟩)] (w5.drewN n) fun r w'' => r = .returned (.int .i64 (b.length : Int)) ∧ ∃ m, w'' = w5.drewN m) ∧
    (∀ n, Calls Try.prog 24 #[.pointer (some ⟨g, 0, none⟩)] (w5.drewN n) fun r w'' => r = .returned (.int .i64 (e : Int)) ∧ ∃ m, w'' = w5.drewN m) ∧
    (∀ n, Calls Try.prog 25 #[.pointer (some ⟨g, 0, none⟩)] (w5.drewN n) fun r w'' => r = .returned (.int .i64 x) ∧ ∃ m, w'' = w5.drewN m) := by
  refine ⟨fun n => quiet_l (left_v _ h g b e (hS.drewN n).1), fun n => quiet_l (err_v _ g e ?_), fun n => quiet_l ?_⟩
  · obtain ⟨A, m, c, h1, _⟩ := (hS.drewN n).1
    exact (cell_row h1 1).1
  · have := endR_v _ h g b e (hS.drewN n).1
    rw [hx] at this
    exact this
set_option maxRecDepth 100000 in
set_option maxHeartbeats 8000000 in
theorem walk (w : World) (A0 : Option Addr) (n0 c0 : Nat) (bs : List UInt8) (hb : Rd w w.heap.size A0 n0 (bs.map bv) ∧ n0 ≤ c0 ∧ c0 ≤ maxLen)
    (A1 : Option Addr) (n1 c1 : Nat) (ks : List UInt8) (hk : Rd w w.heap.size A1 n1 (ks.map bv) ∧ n1 ≤ c1 ∧ c1 ≤ maxLen) :
    Calls Try.prog 5 #[.slice A0 n0 c0, .slice A1 n1 c1] w fun e w' => e = .returned (.bool true) ∧ Below w.heap.size w w' := by
  obtain ⟨h5, h6, h7⟩ := hb
  obtain ⟨h8, h9, h10⟩ := hk
  unfold maxLen at h7 h10
  have HB := Lib.hid h5
  have HK := Lib.hid h8
  have hbl := Lib.hid h5.len
  have hkl := Lib.hid h8.len
  clear h5 h8
  by_cases hn0 : 300 < n0
  · go_enter Try.func5, Try.ntmps5
    go_wp2_with (go_at_call 9; (with_reducible refine (awake_v _).mono ?_); rintro e w1 ⟨rfl, hb1⟩)
    go_ret
    exact ⟨rfl, hb1⟩
  by_cases hn1 : 60 < n1
  · go_enter Try.func5, Try.ntmps5
    go_wp2_with (go_at_call 9; (with_reducible refine (awake_v _).mono ?_); rintro e w1 ⟨rfl, hb1⟩)
    go_ret
    exact ⟨rfl, hb1⟩
  go_enter Try.func5, Try.ntmps5
  go_wp2_with (first
    | (go_at_call 9; (with_reducible refine (awake_v _).mono ?_); rintro e w1 ⟨rfl, hb1⟩; have HB1 := Lib.hid hb1; clear hb1)
    | (go_at_call 17; (with_reducible refine (open_v _ _ _ _ bs w1 (HB.out.below HB1.out) (by omega)).mono ?_); rintro e w2 ⟨g, rfl, hr2, hb2, hgg⟩; have hcv := run_str_of (P := Try.prog) (HB.out.below (HB1.out.trans (hb2.mono HB1.out.size))) 23 9 5 Try.underlying23 Try.underlying5 Try.underlying9 c0; have HB2 := Lib.hid (HB1.out.trans (hb2.mono HB1.out.size)); have HR2 := Lib.hid hr2; have hgw : w.heap.size ≤ g := (by have := HB1.out.size; omega); clear hr2 hb2))
  go_loopw [8] (fun i wr => ∃ (k : Nat) (b : List UInt8) (e : Nat), k ≤ n1 ∧ i = .int .i64 (k : Int) ∧ Same w g w2.heap.size wr b e) (fun i _ => n1 - (intOf i).toNat)
  case atStart =>
    refine ⟨0, bs, 0, by omega, rfl, ?_⟩
    exact ⟨HR2.out.below ((Below.refl _ _).alloc (Nat.le_refl _) _), heap_alloc_new _ _, HB2.out.alloc HB2.out.size _, by have := hbl.out; omega, hgw, HB2.out.size⟩
  case round =>
    obtain ⟨k, b, e, hk, rfl, hS⟩ := hrel
    obtain ⟨h, hh⟩ : ∃ h, h = w2.heap.size := ⟨_, rfl⟩
    rw [← hh] at hS ⊢
    have HS := Lib.hid hS
    obtain ⟨hr, hR, hbr, hl3, hg1, hh1⟩ := hS
    clear hh
    have hgh := hr.lt
    have hhw : h < wr.heap.size := (Array.getElem?_eq_some_iff.1 hR).1
    have hc0 := (cell_row hR 0).1
    have hc1 := (cell_row hR 1).1
    have hf0 := (cell_row hR 0).2
    have hf1 := (cell_row hR 1).2
    simp at hc0 hc1
    have HR := Lib.hid hr
    have HH := Lib.hid hR
    have HBR := Lib.hid hbr
    clear hr hR hbr
    by_cases hlt : k < n1
    · obtain ⟨ad, hkk, rfl, hab, hcc⟩ := HK.out.byte (k := k) hlt
      obtain ⟨c, hc⟩ : ∃ c, c = ks[k].toNat := ⟨_, rfl⟩
      have hca : wr.cell? (ad.add k) = some (.int .u8 (c : Int)) := by rw [cell_keeps HBR.out hcc, hc]; rfl
      have hc256 : c < 256 := by rw [hc]; exact UInt8.toNat_lt _
      clear hcc hc
      obtain ⟨x, b2, e2, hx⟩ : ∃ x b2 e2, numR b e = (x, b2, e2) := ⟨_, _, _, rfl⟩
      have hb2 := numR_len b e
      have hx64 := numR_lt b e
      have hnx := fun W => next_v b e W (by omega)
      rw [hx] at hnx hb2 hx64
      unfold rv at hnx
      have HNX := Lib.hid hnx
      have HX := Lib.hid hx
      have HX64 := Lib.hid hx64
      clear hnx hx hx64
      have h3 := end3 b2 e2
      have ht2 := mkS_toList b2
      have hs2 := mkS_size b2
      have hl2 : b2.length ≤ 300 := Nat.le_trans hb2 hl3
      by_cases h0 : c = 0
      · subst h0
        rcases h3 with ⟨hE, hN⟩ | ⟨hE, hB1, hB2, hN⟩ | ⟨hE, hB1, hB2, hN⟩
        all_goals
          have HN := Lib.hid hN
          clear hN
          go_wp2_with (first
            | (go_at_call 18; (with_reducible refine (HNX.out _).mono ?_); rintro r w3 ⟨rfl, hb3⟩; have hsz3 := hb3.size; obtain ⟨hbc, hbf⟩ := bcell hb3; have hlt3 : h < w3.heap.size := (by omega); have HB3 := Lib.hid hb3; clear hb3)
            | (go_at_call 19; (with_reducible refine (num_v _ h g b e (stored HS.out HB3.out _ _ _).1).mono ?_); rw [HX.out]; rintro r w5 ⟨rfl, hr5, hg5⟩; have hS5 := after (stored HS.out HB3.out _ _ _).2.1 (stored HS.out HB3.out _ _ _).2.2 hl2 hg1 hh1 hr5 hg5; have hcS := (cell_row hS5.2.1 0).1; have hcE := (cell_row hS5.2.1 1).1; simp at hcS hcE; have HS5 := Lib.hid hS5; have HA := Lib.hid (ask hS5 _ HN.out); clear hr5 hg5 hS5 hbc hbf))
          go_quiet ((first | (go_at_call 23; exact HA.out.1 _) | (go_at_call 24; exact HA.out.2.1 _) | (go_at_call 25; exact HA.out.2.2 _)))
          go_wp2
          go_roundw
          case rel => exact ⟨k + 1, b2, e2, by omega, by go_num, HS5.out.drewN _⟩
          case measure => simp [intOf]; omega
      by_cases h1 : c = 1
      · subst h1
        have hz := zag_lo x HX64.out
        have cz := fun W => refZig_v (zagOf x) W hz.1 hz.2
        rw [zig_zag] at cz
        have CZ := Lib.hid cz
        clear cz hz
        rcases h3 with ⟨hE, hN⟩ | ⟨hE, hB1, hB2, hN⟩ | ⟨hE, hB1, hB2, hN⟩
        all_goals
          have HN := Lib.hid hN
          clear hN
          go_wp2_with (first
            | (go_at_call 18; (with_reducible refine (HNX.out _).mono ?_); rintro r w3 ⟨rfl, hb3⟩; have hsz3 := hb3.size; obtain ⟨hbc, hbf⟩ := bcell hb3; have hlt3 : h < w3.heap.size := (by omega); have HB3 := Lib.hid hb3; clear hb3)
            | (go_at_call 15; (with_reducible refine (CZ.out _).mono ?_); rintro r w' ⟨rfl, rfl⟩)
            | (go_at_call 20; (with_reducible refine (int_v _ h g b e (stored HS.out HB3.out _ _ _).1).mono ?_); rw [HX.out]; rintro r w5 ⟨rfl, hr5, hg5⟩; have hS5 := after (stored HS.out HB3.out _ _ _).2.1 (stored HS.out HB3.out _ _ _).2.2 hl2 hg1 hh1 hr5 hg5; have hcS := (cell_row hS5.2.1 0).1; have hcE := (cell_row hS5.2.1 1).1; simp at hcS hcE; have HS5 := Lib.hid hS5; have HA := Lib.hid (ask hS5 _ HN.out); clear hr5 hg5 hS5 hbc hbf))
          go_quiet ((first | (go_at_call 23; exact HA.out.1 _) | (go_at_call 24; exact HA.out.2.1 _) | (go_at_call 25; exact HA.out.2.2 _)))
          go_wp2
          go_roundw
          case rel => exact ⟨k + 1, b2, e2, by omega, by go_num, HS5.out.drewN _⟩
          case measure => simp [intOf]; omega
      clear h3 ht2 hs2 hl2 hb2 HX HX64 HNX
      by_cases h2 : c = 2
      · subst h2
        obtain ⟨t, b2, e2, hx⟩ : ∃ t b2 e2, textR b e = (t, b2, e2) := ⟨_, _, _, rfl⟩
        have hl2 : b2.length ≤ 300 := by
          have := textR_len b e
          rw [hx] at this
          exact Nat.le_trans this hl3
        have hnx := fun W => word_v b e W (by omega)
        rw [hx] at hnx
        unfold rv at hnx
        have HNX := Lib.hid hnx
        have HX := Lib.hid hx
        have h3 := end3 b2 e2
        have ht2 := mkS_toList b2
        have hs2 := mkS_size b2
        clear hnx hx
        rcases h3 with ⟨hE, hN⟩ | ⟨hE, hB1, hB2, hN⟩ | ⟨hE, hB1, hB2, hN⟩
        all_goals
          have HN := Lib.hid hN
          clear hN
          go_wp2_with (first
            | (go_at_call 21; (with_reducible refine (HNX.out _).mono ?_); rintro r w3 ⟨rfl, hb3⟩; have hsz3 := hb3.size; obtain ⟨hbc, hbf⟩ := bcell hb3; have hlt3 : h < w3.heap.size := (by omega); have HB3 := Lib.hid hb3; clear hb3)
            | (go_at_call 22; (with_reducible refine (text_v _ h g b e (stored HS.out HB3.out _ _ _).1).mono ?_); rw [HX.out]; rintro r w5 ⟨rfl, hr5, hg5⟩; have hS5 := after (stored HS.out HB3.out _ _ _).2.1 (stored HS.out HB3.out _ _ _).2.2 hl2 hg1 hh1 hr5 hg5; have hcS := (cell_row hS5.2.1 0).1; have hcE := (cell_row hS5.2.1 1).1; simp at hcS hcE; have HS5 := Lib.hid hS5; have HA := Lib.hid (ask hS5 _ HN.out); clear hr5 hg5 hS5 hbc hbf))
          go_quiet ((first | (go_at_call 23; exact HA.out.1 _) | (go_at_call 24; exact HA.out.2.1 _) | (go_at_call 25; exact HA.out.2.2 _)))
          go_wp2
          go_roundw
          case rel => exact ⟨k + 1, b2, e2, by omega, by go_num, HS5.out.drewN _⟩
          case measure => simp [intOf]; omega
      · have h3 := end3 b e
        have ht2 := mkS_toList b
        have hs2 := mkS_size b
        have hc3 : 2 < c := by omega
        rcases h3 with ⟨hE, hN⟩ | ⟨hE, hB1, hB2, hN⟩ | ⟨hE, hB1, hB2, hN⟩
        all_goals
          have HA := Lib.hid (ask HS.out _ hN)
          clear hN
          go_wp2
          go_quiet ((first | (go_at_call 23; exact HA.out.1 _) | (go_at_call 24; exact HA.out.2.1 _) | (go_at_call 25; exact HA.out.2.2 _)))
          go_wp2
          go_roundw
          case rel => exact ⟨k + 1, b, e, by omega, by go_num, HS.out.drewN _⟩
          case measure => simp [intOf]; omega
    · go_wp2_with (first
        | (go_at_call 19; (with_reducible refine (num_nil _).mono ?_); rintro r w' ⟨rfl, rfl⟩)
        | (go_at_call 22; (with_reducible refine (text_nil _).mono ?_); rintro r w' ⟨rfl, rfl⟩)
        | (go_at_call 23; (with_reducible refine (left_nil _).mono ?_); rintro r w' ⟨rfl, rfl⟩)
        | (go_at_call 24; (with_reducible refine (err_nil _).mono ?_); rintro r w' ⟨rfl, rfl⟩)
        | (go_at_call 25; (with_reducible refine (end_nil _).mono ?_); rintro r w' ⟨rfl, rfl⟩))
      go_ret
      exact ⟨rfl, HBR.out⟩
end varintReads
end Go.Proofs.Ytnffeeipnabdoaa
