/- lexer's Bare. No premises. -/
import Derived.Test.YtnjabmacbgehlaaDoorLmO
namespace Go.Proofs.YtnjabmacbgehlaaDoor
open Go.RowKit Go.Maps
open Lx (bare)
/-- []byte of a text: new memory, that reads as it. -/
theorem conv_str (W : World) (t : List UInt8) (N : Nat) (hN : N = W.heap.size) : ∃ c W', (convert 9 38 (.string (mkS t))).run Tryd.prog W = .ok (.slice (some ⟨N, 0, none⟩) t.length c) W' ∧ Later W W' ∧ Rd W' W'.heap.size (some ⟨N, 0, none⟩) t.length (t.map bv) := by
  subst hN
  have h := run_bytes_of_string W 9 38 5 (mkS t) Tryd.underlying9 Tryd.underlying38 Tryd.underlying5
  rw [mkS_size] at h
  refine ⟨_, _, h, Later.trans (Later.drew W) (Later.alloc _ _), by simp, fun h0 => ⟨_, rfl, by simp, fun j u hu => ?_⟩⟩
  rw [add_lit0]
  have hz : W.drew.heap.size = W.heap.size := rfl
  rw [← hz]
  rw [cell_of_row _ _ j _ _ _ (heap_alloc_new W.drew _)]
  rw [List.getElem?_map] at hu
  by_cases hj : j < t.length
  · rw [List.getElem?_eq_getElem hj] at hu
    simp at hu
    subst hu
    unfold bytesRow
    rw [Array.getElem?_append_left (by simp [mkS]; omega)]
    simp [mkS, hj, bv]
  · rw [List.getElem?_eq_none (by omega)] at hu
    cases hu
def quote (c : UInt8) : Bool := c == 39 || c == 34 || c == 92
theorem bare_snoc (l : L) (c : UInt8) : bare (l ++ [c]) = bare l ++ (if quote c = true then [] else [c]) := by
  unfold bare
  rw [List.filter_append]
  congr 1
  unfold quote
  by_cases h : (c == 39 || c == 34 || c == 92) = true
  · simp only [List.filter_cons, List.filter_nil, h]; rfl
  · have h2 : (c == 39 || c == 34 || c == 92) = false := by simpa using h
    simp only [List.filter_cons, List.filter_nil, h2]; rfl
theorem idx_quote (c : UInt8) : Lib.indexByte [39, 34, 92] c < 0 ↔ quote c = false := by
  rw [idx_neg]
  simp [quote, and_assoc]
theorem bare_le (l : L) : (bare l).length ≤ l.length := List.length_filter_le _ _
theorem rd_own {w w' : World} {A : Option Addr} {n : Nat} {xs : List Value} (h : Rd w w.heap.size A n xs) (hl : Later w w') : Rd w' w.heap.size A n xs := h.below hl
set_option maxHeartbeats 800000 in
set_option maxRecDepth 100000 in
theorem bare_v (l : L) (hl : l.length ≤ 5000) (W : World) : Calls Tryd.prog 10 #[.string (mkS l)] W fun e W' => e = .returned (.tuple #[.string (mkS (bare l)), .bool (decide ((bare l).length < l.length))]) ∧ Later W W' := by
  obtain ⟨i0, hi, hz0, hz1, hz2⟩ := info_parts info_u8
  obtain ⟨c, W2, hcv, hl2, hr2⟩ := conv_str W l W.heap.size rfl
  have hsz : (mkS l).size = l.length := mkS_size l
  obtain ⟨n, hn⟩ : ∃ n, n = l.length := ⟨_, rfl⟩
  rw [← hn] at hcv hr2 hsz hl
  have HL2 := Lib.hid hl2
  have HR := Lib.hid hr2
  have HN := Lib.hid hn
  clear hl2 hr2 hn
  go_enter Tryd.func10, Tryd.ntmps10
  go_wp2
  go_loopw [4, 10] (fun v i wr => ∃ (k : Nat) (A : Option Addr) (m c : Nat), k ≤ n ∧ i = .int .i64 (k : Int) ∧ v = .slice A m c ∧ m = (bare (l.take k)).length ∧ wr.ownsRow W2.heap.size 5 1 (.slice A m c) ((bare (l.take k)).map bv).length ((bare (l.take k)).map bv) ∧ Later W2 wr) (fun _ i _ => n - (intOf i).toNat)
  case atStart => exact ⟨0, none, 0, 0, by omega, rfl, rfl, rfl, World.ownsRow_nil _ _ _ _, Later.refl _⟩
  case round =>
    obtain ⟨k, A, m, cc, hk, rfl, rfl, hm, ho, hlt⟩ := hrel
    obtain ⟨q, hq⟩ : ∃ q, q = bare (l.take k) := ⟨_, rfl⟩
    rw [← hq] at hm ho
    have hmn : m ≤ 5000 := by rw [hm, hq]; have := bare_le (l.take k); rw [List.length_take] at this; omega
    have HM := Lib.hid hm
    have HO := Lib.hid ho
    have HLT := Lib.hid hlt
    have HQ := Lib.hid hq
    clear hm ho hlt hq
    by_cases hkn : k < n
    · obtain ⟨ad, hlk, had, _, hcell⟩ := (HR.out.keep (fun p hp => HLT.out.cell hp)).byte hkn
      obtain ⟨x, hx⟩ : ∃ x, x = l[k] := ⟨_, rfl⟩
      rw [← hx] at hcell
      injection had with had
      have hcell2 : wr.cell? ((⟨W.heap.size, 0, none⟩ : Addr).add k) = some (.int .u8 (x.toNat : Int)) := by rw [had]; exact hcell
      rw [add_lit0] at hcell2
      have hk0 : (0 : Int) ≤ (k : Int) := by omega
      have hk1 : (k : Int) < (n : Int) := by omega
      have hbt : bare (l.take (k + 1)) = q ++ (if quote x = true then [] else [x]) := by rw [List.take_succ_eq_append_getElem hlk, bare_snoc, HQ.out, hx]
      have HBT := Lib.hid hbt
      obtain ⟨v, hv⟩ : ∃ v, v = Lib.indexByte [39, 34, 92] x := ⟨_, rfl⟩
      have HX := Lib.hid (fun W => idxStr_v ⟨#[39, 34, 92]⟩ x v hv W)
      clear hbt hx hcell had hlk
      by_cases hqx : quote x = true
      · have hv0 : ¬ v < 0 := by rw [hv, idx_quote, hqx]; simp
        clear hv
        go_wp2_with (first
          | (go_at_call 17; (with_reducible refine (HX.out _).mono ?_); rintro e w1 ⟨rfl, rfl⟩))
        go_roundw
        case rel =>
          have e1 : bare (l.take (k + 1)) = q := by rw [HBT.out, if_pos hqx]; simp
          exact ⟨k + 1, A, m, cc, by omega, by go_num, rfl, by rw [e1]; exact HM.out, by rw [e1]; exact HO.out, HLT.out⟩
        case measure => simp [intOf]; omega
      · have hqf : quote x = false := by simpa using hqx
        have hv0 : v < 0 := by rw [hv, idx_quote, hqf]
        clear hv
        go_wp2_with (first
          | (go_at_call 17; (with_reducible refine (HX.out _).mono ?_); rintro e w1 ⟨rfl, rfl⟩)
          | (at_builtin; refine wpList_app1 _ (.int .u8 (x.toNat : Int)) rfl (.tmp 17) (.tmp 19) _ rfl W2.heap.size 5 i0 (.int .u8 0) 1 Tryd.underlying38 hi hz0 hz1 hz2 rfl rfl (.slice A m cc) (q.map bv) rfl HO.out rfl ?hby ?hle HLT.out.size ?_; (case hby => have := HM.out; rw [List.length_map]; omega); (case hle => have := HM.out; rw [List.length_map]; omega); intro v2 w2 hg2; rw [show (Value.int .u8 (x.toNat : Int)) = bv x from rfl, ← snoc_bv] at hg2; obtain ⟨A2, k2, rfl, h1, h2, h3⟩ := own_map hg2.own; have HG := Lib.hid hg2; clear hg2 h1 h2 h3))
        go_roundw
        case rel =>
          have e1 : bare (l.take (k + 1)) = q ++ [x] := by rw [HBT.out, if_neg hqx]
          have ho := HG.out.own
          rw [show (q ++ [x]).length = q.length + 1 by simp] at ho
          exact ⟨k + 1, A2, q.length + 1, k2, by omega, by go_num, rfl, by rw [e1]; simp, by rw [e1]; exact ho, Below.trans HLT.out (HG.out.below HO.out HLT.out.size)⟩
        case measure => simp [intOf]; omega
    · obtain hke : k = n := by omega
      have e1 : q = bare l := by rw [HQ.out, hke, HN.out, List.take_length]
      obtain ⟨A3, c3, e3, _, hrd, _⟩ := own_map HO.out
      have hstr : (convert 38 9 (.slice A m cc)).run Tryd.prog wr = .ok (.string (mkS q)) wr := by
        rw [e3]
        exact run_str_of hrd _ _ 5 Tryd.underlying38 Tryd.underlying5 Tryd.underlying9 c3
      have HE1 := Lib.hid e1
      clear e1 e3 hrd
      go_wp2
      go_ret2
      refine ⟨?_, HL2.out.trans HLT.out⟩
      show Ending.returned (.tuple #[.string (mkS q), .bool (decide (m < n))]) = _
      rw [HM.out, HE1.out, HN.out]
end Go.Proofs.YtnjabmacbgehlaaDoor
