/- The document's row: which ends a pattern matches from a place on. No premises. -/
import Derived.Test.YtdfnbanbofnabaaDoorGx
import Derived.Laws.MakeOwn
namespace Go.Proofs.YtdfnbanbofnabaaDoor
open Go.RowKit Go.Maps
namespace Gl
/-- What the row of a place tells of an end. -/
def F (t m s : L) (j q : Nat) : Bool := tb (sgF t m j) (s.drop q)
theorem tb_starS {x : Sg} {g : List Sg} {s : L} (h : isStar x = true) : tb (x :: g) s = (tb g s || (match s with | [] => false | _ :: r => tb (x :: g) r)) := by
  rw [Bool.eq_iff_iff, tb_iff, tells_star_more h, Bool.or_eq_true, tb_iff]
  cases s with
  | nil => simp
  | cons c r =>
    simp only [tb_iff]
    constructor
    · rintro (h1 | ⟨c', r', h1, h2⟩)
      · exact .inl h1
      · simp only [List.cons.injEq] at h1
        obtain ⟨rfl, rfl⟩ := h1
        exact .inr h2
    · rintro (h1 | h1)
      · exact .inl h1
      · exact .inr ⟨c, r, rfl, h1⟩
theorem F_star {t m s : L} {i k : Nat} (hi : i < t.length) (h : (sgAt t m i) = (.star, i + 1)) (hk : k < s.length) : F t m s i k = (F t m s (i + 1) k || F t m s i (k + 1)) := by
  unfold F
  rw [sgF_at hi, h]
  simp only
  rw [List.drop_eq_getElem_cons hk, tb_starS rfl]
theorem F_starE {t m s : L} {i : Nat} (hi : i < t.length) (h : (sgAt t m i) = (.star, i + 1)) : F t m s i s.length = F t m s (i + 1) s.length := by
  unfold F
  rw [sgF_at hi, h]
  simp only
  rw [List.drop_length, tb_starS rfl, Bool.or_false]
theorem F_end {t m s : L} {i : Nat} (hi : i < t.length) (h : isStar (sgAt t m i).1 = false) : F t m s i s.length = false := by
  unfold F
  rw [sgF_at hi, List.drop_length, tb_nil h]
theorem F_one {t m s : L} {i k n : Nat} {x : Sg} (hi : i < t.length) (h : (sgAt t m i) = (x, n)) (hx : isStar x = false) (hk : k < s.length) : F t m s i k = (tk x s[k] && F t m s n (k + 1)) := by
  unfold F
  rw [sgF_at hi, h]
  simp only
  rw [List.drop_eq_getElem_cons hk, tb_one hx]
end Gl
namespace Gr
open Gs
/-- The rows from a place on, in memory. -/
def Rows (w : World) (g lo : Nat) (t m s : L) : Prop := ∃ R, w.heap[g]? = some (.cells R 61 (0, 0)) ∧ R.size = t.length + 1 ∧ ∀ j, lo ≤ j → j ≤ t.length → ∃ b c C, R[j]? = some (.slice (some ⟨b, 0, none⟩) (s.length + 1) c) ∧ w.heap[b]? = some (.cells C 4 (0, 0)) ∧ ∀ q, q ≤ s.length → C[q]? = some (.bool (Gl.F t m s j q))
theorem Rows.later {w w' : World} {g lo : Nat} {t m s : L} (h : Rows w g lo t m s) (hl : Later w w') : Rows w' g lo t m s := by
  obtain ⟨R, h1, h0, h2⟩ := h
  refine ⟨R, later_cells hl h1, h0, fun j hj hjt => ?_⟩
  obtain ⟨b, c, C, h3, h4, h5⟩ := h2 j hj hjt
  exact ⟨b, c, C, h3, later_cells hl h4, h5⟩
theorem Rows.at_ {w : World} {g lo j : Nat} {t m s : L} (h : Rows w g lo t m s) (hj : lo ≤ j) (hjt : j ≤ t.length) : ∃ b c, w.cell? ⟨g, j, none⟩ = some (.slice (some ⟨b, 0, none⟩) (s.length + 1) c) ∧ ∀ q, q ≤ s.length → w.cell? ⟨b, q, none⟩ = some (.bool (Gl.F t m s j q)) := by
  obtain ⟨R, h1, h0, h2⟩ := h
  obtain ⟨b, c, C, h3, h4, h5⟩ := h2 j hj hjt
  exact ⟨b, c, by rw [(cell_row h1 j).1]; exact h3, fun q hq => by rw [(cell_row h4 q).1]; exact h5 q hq⟩
/-- A row that is being told from its end on. -/
def Ro (w : World) (b n : Nat) (t m s : L) (i : Nat) : Prop := ∃ C, w.heap[b]? = some (.cells C 4 (0, 0)) ∧ C.size = s.length + 1 ∧ ∀ q, q ≤ s.length → C[q]? = some (.bool (decide (n ≤ q) && Gl.F t m s i q))
theorem Ro.cell {w : World} {b n i q : Nat} {t m s : L} (h : Ro w b n t m s i) (hq : q ≤ s.length) : w.cell? ⟨b, q, none⟩ = some (.bool (decide (n ≤ q) && Gl.F t m s i q)) ∧ w.frozen? ⟨b, q, none⟩ = false := by
  obtain ⟨C, h1, h0, h2⟩ := h
  exact ⟨by rw [(cell_row h1 q).1]; exact h2 q hq, (cell_row h1 q).2⟩
theorem Ro.put {w : World} {b k i : Nat} {t m s : L} (h : Ro w b (k + 1) t m s i) (hk : k ≤ s.length) {v : Bool} (hv : v = Gl.F t m s i k) : Ro (w.setCell ⟨b, k, none⟩ (.bool v)) b k t m s i := by
  obtain ⟨C, h1, h0, h2⟩ := h
  refine ⟨_, set_row h1 k _, by simp [h0], fun q hq => ?_⟩
  by_cases e : q = k
  · subst e
    rw [Array.getElem?_setIfInBounds_self_of_lt (by omega), hv, decide_eq_true (Nat.le_refl q), Bool.true_and]
  · rw [Array.getElem?_setIfInBounds_ne (fun e' => e e'.symm), h2 q hq]
    congr 3
    rw [decide_eq_decide]
    omega
theorem Ro.drew {w : World} {b n i : Nat} {t m s : L} (h : Ro w b n t m s i) : Ro w.drew b n t m s i := h
theorem Ro.skip {w : World} {b k i : Nat} {t m s : L} (h : Ro w b (k + 1) t m s i) (hv : Gl.F t m s i k = false) : Ro w b k t m s i := by
  obtain ⟨C, h1, h0, h2⟩ := h
  refine ⟨C, h1, h0, fun q hq => ?_⟩
  rw [h2 q hq]
  by_cases e : q = k
  · subst e
    rw [hv, Bool.and_false, Bool.and_false]
  · congr 3
    rw [decide_eq_decide]
    omega
theorem make_bools (w : World) (m : Nat) (hm : m ≤ 100000) : (Instr.makeSlice 61 (.int .i64 (m : Int)) (.int .i64 (m : Int))).run Tryd.prog w = .ok (.slice (some ⟨w.heap.size, 0, none⟩) m m) (w.alloc (.cells (Array.replicate m (.bool false)) 4)) := by
  have hib : (Tryd.prog.info? 4).map (fun i => (i.zero, i.size, i.bytes)) = some (some (.bool false), 1, 1) := by kernel_rfl
  obtain ⟨i0, hi, hz0, hz1, hz2⟩ := info_parts hib
  have := run_make (P := Tryd.prog) w 61 4 i0 (.bool false) Tryd.underlying61 hi hz0 .i64 .i64 (m : Int) (m : Int) (by omega) (by omega) (by rw [hz2]; omega) (by omega)
  simp only [Int.toNat_natCast, hz1, Nat.mul_one] at this
  rw [this]
  show _ = Result.ok _ (w.alloc (.cells _ 4))
  have e : madeCells (#[.bool false] : Array Value) m = Array.replicate m (.bool false) := by
    apply Array.ext
    · simp [madeCells]
    · intro i h1 h2
      simp [madeCells, Nat.mod_one]
  rw [← e]
  rfl
set_option maxRecDepth 100000 in
set_option maxHeartbeats 6400000 in
theorem row_v (t m s : L) (i g c0 : Nat) (w : World) (hi : i < t.length) (ht : t.length ≤ 4096) (hs : s.length ≤ 4096) (hr : Rows w g (i + 1) t m s) (_hc0 : t.length + 1 ≤ c0) : Calls Tryd.prog 31 #[.string (mkS t), .string (mkS m), .int .i64 (i : Int), .string (mkS s), .slice (some ⟨g, 0, none⟩) (t.length + 1) c0] w fun e w' => e = .returned (.slice (some ⟨w.heap.size, 0, none⟩) (s.length + 1) (s.length + 1)) ∧ Ro w' w.heap.size 0 t m s i ∧ Later w w' := by
  have hsi : ((mkS s).size : Int) = (s.length : Int) := by rw [mkS_size]
  have hti : ((mkS t).size : Int) = (t.length : Int) := by rw [mkS_size]
  have hmk : (Instr.makeSlice 61 (.int .i64 ((s.length : Int) + 1)) (.int .i64 ((s.length : Int) + 1))).run Tryd.prog w = .ok (.slice (some ⟨w.heap.size, 0, none⟩) (s.length + 1) (s.length + 1)) (w.alloc (.cells (Array.replicate (s.length + 1) (.bool false)) 4)) := make_bools w (s.length + 1) (by omega)
  have HI := Lib.hid (fun (k : Nat) c W => Is_v t m k c W)
  have h42 : ∀ W, Calls Tryd.prog 37 #[.string (mkS t), .string (mkS m), .int .i64 (i : Int), .int .u8 42] W fun e w' => e = .returned (.bool (Gl.isAt t m i 42)) ∧ w' = W := Is_v t m i 42
  have h63 : ∀ W, Calls Tryd.prog 37 #[.string (mkS t), .string (mkS m), .int .i64 (i : Int), .int .u8 63] W fun e w' => e = .returned (.bool (Gl.isAt t m i 63)) ∧ w' = W := Is_v t m i 63
  have h91 : ∀ W, Calls Tryd.prog 37 #[.string (mkS t), .string (mkS m), .int .i64 (i : Int), .int .u8 91] W fun e w' => e = .returned (.bool (Gl.isAt t m i 91)) ∧ w' = W := Is_v t m i 91
  have hL := Later.alloc w (.cells (Array.replicate (s.length + 1) (.bool false)) 4)
  have HR := Lib.hid (fun W (h : Later w W) => hr.later h)
  have HRO := Lib.hid (show Ro (w.alloc (.cells (Array.replicate (s.length + 1) (.bool false)) 4)) w.heap.size (s.length + 1) t m s i from ⟨_, heap_alloc_new w _, by simp, fun q hq => by rw [Array.getElem?_replicate, if_pos (by omega), decide_eq_false (by omega), Bool.false_and]⟩)
  have HL := Lib.hid hL
  have hi2 : (i : Int) + 1 ≤ 5000 := by omega
  have hs2 : (s.length : Int) ≤ 5000 := by omega
  have hit : i + 1 < t.length + 1 := by omega
  clear hr hL
  have n63 : Gl.isAt t m i 42 = true → Gl.isAt t m i 63 = false := fun h => by cases h2 : Gl.isAt t m i 63 with | false => rfl | true => exact absurd (Gl.isAt_one h h2) (by decide)
  have n91 : Gl.isAt t m i 42 = true → Gl.isAt t m i 91 = false := fun h => by cases h2 : Gl.isAt t m i 91 with | false => rfl | true => exact absurd (Gl.isAt_one h h2) (by decide)
  have m91 : Gl.isAt t m i 63 = true → Gl.isAt t m i 91 = false := fun h => by cases h2 : Gl.isAt t m i 91 with | false => rfl | true => exact absurd (Gl.isAt_one h h2) (by decide)
  cases e42 : Gl.isAt t m i 42 with
  | true =>
    rw [e42] at h42
    rw [n63 e42] at h63
    rw [n91 e42] at h91
    have H42 := Lib.hid h42
    have H63 := Lib.hid h63
    have H91 := Lib.hid h91
    have HAT := Lib.hid (show Gl.sgAt t m i = (.star, i + 1) by unfold Gl.sgAt; rw [e42]; rfl)
    clear h42 h63 h91 n63 n91 m91 e42
    go_enter Tryd.func31, Tryd.ntmps31
    go_wp2_with (first
      | (go_at_call 37; (with_reducible refine (H42.out _).mono ?_); rintro e w1 ⟨rfl, rfl⟩)
      | (go_at_call 37; (with_reducible refine (H63.out _).mono ?_); rintro e w1 ⟨rfl, rfl⟩)
      | (go_at_call 37; (with_reducible refine (H91.out _).mono ?_); rintro e w1 ⟨rfl, rfl⟩))
    go_loopw [16] (fun s16 wr => ∃ (z : Int) (n : Nat), s16 = .int .i64 z ∧ z = (n : Int) - 1 ∧ n ≤ s.length + 1 ∧ Ro wr w.heap.size n t m s i ∧ Later w wr) (fun i _ => (intOf i + 1).toNat)
    case atStart => exact ⟨(s.length : Int), s.length + 1, rfl, by omega, Nat.le_refl _, HRO.out, HL.out⟩
    case round =>
      obtain ⟨z, n, rfl, hz, hn, hro, hlr⟩ := hrel
      cases n with
      | zero =>
        have hneg : ¬ ((0 : Int) ≤ z) := by omega
        have HROF := Lib.hid hro
        have HLR := Lib.hid hlr
        clear hz hro hlr
        go_wp2
        go_ret
        exact ⟨rfl, HROF.out, HLR.out⟩
      | succ k =>
        have hzk : z = (k : Int) := by omega
        subst hzk
        have hk0 : (0 : Int) ≤ (k : Int) := by omega
        have hrows := HR.out wr hlr
        have HROW := Lib.hid hro
        have HLR := Lib.hid hlr
        clear hz
        obtain ⟨b, c1, hg1, hb1⟩ := hrows.at_ (j := i + 1) (by omega) (by omega)
        have hg2 : wr.cell? ((⟨g, 0, none⟩ : Addr).add (i + 1)) = some (.slice (some ⟨b, 0, none⟩) (s.length + 1) c1) := by rw [add_lit0]; exact hg1
        have hb2 := hb1 k (by omega)
        have hb3 : wr.cell? ((⟨b, 0, none⟩ : Addr).add k) = some (.bool (Gl.F t m s (i + 1) k)) := by rw [add_lit0]; exact hb2
        obtain ⟨ho1, ho2⟩ := hro.cell (q := k) (by omega)
        have ho3 : wr.cell? ((⟨w.heap.size, 0, none⟩ : Addr).add k) = some (.bool (decide (k + 1 ≤ k) && Gl.F t m s i k)) := by rw [add_lit0]; exact ho1
        have ho4 : wr.frozen? ((⟨w.heap.size, 0, none⟩ : Addr).add k) = false := by rw [add_lit0]; exact ho2
        obtain ⟨f1, hf1⟩ : ∃ f1, f1 = Gl.F t m s (i + 1) k := ⟨_, rfl⟩
        rw [← hf1] at hb2 hb3
        have hkl : k < s.length + 1 := by omega
        by_cases hks : k < s.length
        · have hks2 : (k : Int) < (s.length : Int) := by omega
          have hkl2 : k + 1 < s.length + 1 := by omega
          obtain ⟨hn1, _⟩ := hro.cell (q := k + 1) (by omega)
          rw [decide_eq_true (Nat.le_refl (k + 1)), Bool.true_and] at hn1
          have hn2 : wr.cell? ((⟨w.heap.size, 0, none⟩ : Addr).add (k + 1)) = some (.bool (Gl.F t m s i (k + 1))) := by rw [add_lit0]; exact hn1
          have HFF := Lib.hid (Gl.F_star (t := t) (m := m) (s := s) hi HAT.out hks)
          rw [← hf1] at HFF
          obtain ⟨f2, hf2⟩ : ∃ f2, f2 = Gl.F t m s i (k + 1) := ⟨_, rfl⟩
          rw [← hf2] at hn1 hn2 HFF
          clear hf1 hf2 hrows hro hlr hb1
          cases f1 with
          | true =>
            go_wp2_with fail
            go_roundw
            case rel => exact ⟨(k : Int) - 1, k, by go_num, rfl, by omega, HROW.out.put (by omega) (by rw [HFF.out]; rfl), later_of_new HLR.out (set_only _ _ _ _) (Nat.le_refl _)⟩
            case measure => (simp [intOf]; try omega)
          | false =>
            go_wp2_with fail
            go_roundw
            case rel => exact ⟨(k : Int) - 1, k, by go_num, rfl, by omega, HROW.out.put (by omega) (by rw [HFF.out]; rfl), later_of_new HLR.out (set_only _ _ _ _) (Nat.le_refl _)⟩
            case measure => (simp [intOf]; try omega)
        · have hks2 : ¬ ((k : Int) < (s.length : Int)) := by omega
          have hkE : k = s.length := by omega
          have HFF := Lib.hid (show Gl.F t m s i k = Gl.F t m s (i + 1) k by rw [hkE]; exact Gl.F_starE hi HAT.out)
          rw [← hf1] at HFF
          clear hf1 hrows hro hlr hb1 hkE
          cases f1 with
          | true =>
            go_wp2_with fail
            go_roundw
            case rel => exact ⟨(k : Int) - 1, k, by go_num, rfl, by omega, HROW.out.put (by omega) (by rw [HFF.out]), later_of_new HLR.out (set_only _ _ _ _) (Nat.le_refl _)⟩
            case measure => (simp [intOf]; try omega)
          | false =>
            go_wp2_with fail
            go_roundw
            case rel => exact ⟨(k : Int) - 1, k, by go_num, rfl, by omega, HROW.out.put (by omega) (by rw [HFF.out]), later_of_new HLR.out (set_only _ _ _ _) (Nat.le_refl _)⟩
            case measure => (simp [intOf]; try omega)
  | false =>
    rw [e42] at h42
    have H42 := Lib.hid h42
    cases e63 : Gl.isAt t m i 63 with
    | true =>
      rw [e63] at h63
      rw [m91 e63] at h91
      have H63 := Lib.hid h63
      have H91 := Lib.hid h91
      have HAT := Lib.hid (show Gl.sgAt t m i = (.one, i + 1) by unfold Gl.sgAt; rw [e42, e63]; rfl)
      clear h42 h63 h91 n63 n91 m91 e42 e63
      go_enter Tryd.func31, Tryd.ntmps31
      go_wp2_with (first
        | (go_at_call 37; (with_reducible refine (H42.out _).mono ?_); rintro e w1 ⟨rfl, rfl⟩)
        | (go_at_call 37; (with_reducible refine (H63.out _).mono ?_); rintro e w1 ⟨rfl, rfl⟩)
        | (go_at_call 37; (with_reducible refine (H91.out _).mono ?_); rintro e w1 ⟨rfl, rfl⟩))
      go_loopw [16] (fun s16 wr => ∃ (z : Int) (n : Nat), s16 = .int .i64 z ∧ z = (n : Int) - 1 ∧ n ≤ s.length + 1 ∧ Ro wr w.heap.size n t m s i ∧ Later w wr) (fun i _ => (intOf i + 1).toNat)
      case atStart => exact ⟨(s.length : Int), s.length + 1, rfl, by omega, Nat.le_refl _, HRO.out, HL.out⟩
      case round =>
        obtain ⟨z, n, rfl, hz, hn, hro, hlr⟩ := hrel
        cases n with
        | zero =>
          have hneg : ¬ ((0 : Int) ≤ z) := by omega
          have HROF := Lib.hid hro
          have HLR := Lib.hid hlr
          clear hz hro hlr
          go_wp2
          go_ret
          exact ⟨rfl, HROF.out, HLR.out⟩
        | succ k =>
          have hzk : z = (k : Int) := by omega
          subst hzk
          have hk0 : (0 : Int) ≤ (k : Int) := by omega
          have hrows := HR.out wr hlr
          have HROW := Lib.hid hro
          have HLR := Lib.hid hlr
          clear hz
          by_cases hks : k = s.length
          · have hks2 : ((k : Int) == (s.length : Int)) = true := by simp; omega
            have HFF := Lib.hid (show Gl.F t m s i k = false by rw [hks]; exact Gl.F_end hi (by rw [HAT.out]; rfl))
            have HK := Lib.hid hks
            clear hks hrows hro hlr
            go_wp2_with fail
            go_roundw
            case rel => exact ⟨(k : Int) - 1, k, by go_num, rfl, by omega, HROW.out.skip HFF.out, HLR.out⟩
            case measure => (simp [intOf]; try omega)
          · have hks2 : ((k : Int) == (s.length : Int)) = false := by simp; omega
            have hksl : k < s.length := by omega
            have hksz : k < (mkS s).size := by rw [mkS_size]; exact hksl
            have hkl : k < s.length + 1 := by omega
            have hkl2 : k + 1 < s.length + 1 := by omega
            obtain ⟨ho1, ho2⟩ := hro.cell (q := k) (by omega)
            have ho3 : wr.cell? ((⟨w.heap.size, 0, none⟩ : Addr).add k) = some (.bool (decide (k + 1 ≤ k) && Gl.F t m s i k)) := by rw [add_lit0]; exact ho1
            have ho4 : wr.frozen? ((⟨w.heap.size, 0, none⟩ : Addr).add k) = false := by rw [add_lit0]; exact ho2
            have hsk : s[k]'hksl = (mkS s)[k]'hksz := rfl
            obtain ⟨b, c1, hg1, hb1⟩ := hrows.at_ (j := i + 1) (by omega) (by omega)
            have hg2 : wr.cell? ((⟨g, 0, none⟩ : Addr).add (i + 1)) = some (.slice (some ⟨b, 0, none⟩) (s.length + 1) c1) := by rw [add_lit0]; exact hg1
            have hb2 := hb1 (k + 1) (by omega)
            have hb3 : wr.cell? ((⟨b, 0, none⟩ : Addr).add (k + 1)) = some (.bool (Gl.F t m s (i + 1) (k + 1))) := by rw [add_lit0]; exact hb2
            have HFF := Lib.hid (Gl.F_one (t := t) (m := m) (s := s) hi HAT.out rfl hksl)
            clear hrows hro hlr hb1
            go_wp2_with fail
            go_roundw
            case rel => exact ⟨(k : Int) - 1, k, by go_num, rfl, by omega, HROW.out.put (by omega) (by rw [HFF.out]; rfl), later_of_new HLR.out (set_only _ _ _ _) (Nat.le_refl _)⟩
            case measure => (simp [intOf]; try omega)
    | false =>
      rw [e63] at h63
      have H63 := Lib.hid h63
      cases e91 : Gl.isAt t m i 91 with
      | true =>
        rw [e91] at h91
        have H91 := Lib.hid h91
        cases hcl : Gl.close t m (Gl.fst t m i + 1) with
        | some e =>
          have hen : ∀ W, Calls Tryd.prog 38 #[.string (mkS t), .string (mkS m), .int .i64 (i : Int)] W fun r w' => r = .returned (.int .i64 ((e : Int) + 1)) ∧ w' = W := fun W => by
            have := End_v t m i W hi ht
            rwa [show Gl.endOf t m i = (e : Int) + 1 by unfold Gl.endOf; rw [hcl]] at this
          have HEN := Lib.hid hen
          have HAT := Lib.hid (show Gl.sgAt t m i = (.set (Gl.isAt t m (i + 1) 33) (Gl.mems t m (Gl.fst t m i) e), e + 1) by unfold Gl.sgAt; rw [e42, e63, e91, hcl]; rfl)
          have HCL := Lib.hid hcl
          have het := Gl.isAt_lt (Gl.close_some.1 hcl).2.1
          have hei : i + 1 < e + 1 := by have h1 := (Gl.close_some.1 hcl).1; have h2 := Gl.fst_gt t m i; omega
          clear h42 h63 h91 n63 n91 m91 e42 e63 e91 hen hcl
          go_enter Tryd.func31, Tryd.ntmps31
          go_wp2_with (first
            | (go_at_call 37; (with_reducible refine (H42.out _).mono ?_); rintro e w1 ⟨rfl, rfl⟩)
            | (go_at_call 37; (with_reducible refine (H63.out _).mono ?_); rintro e w1 ⟨rfl, rfl⟩)
            | (go_at_call 37; (with_reducible refine (H91.out _).mono ?_); rintro e w1 ⟨rfl, rfl⟩)
            | (go_at_call 38; (with_reducible refine (HEN.out _).mono ?_); rintro e w1 ⟨rfl, rfl⟩))
          go_loopw [16] (fun s16 wr => ∃ (z : Int) (n : Nat), s16 = .int .i64 z ∧ z = (n : Int) - 1 ∧ n ≤ s.length + 1 ∧ Ro wr w.heap.size n t m s i ∧ Later w wr) (fun i _ => (intOf i + 1).toNat)
          case atStart => exact ⟨(s.length : Int), s.length + 1, rfl, by omega, Nat.le_refl _, HRO.out, HL.out⟩
          case round =>
            obtain ⟨z, n, rfl, hz, hn, hro, hlr⟩ := hrel
            cases n with
            | zero =>
              have hneg : ¬ ((0 : Int) ≤ z) := by omega
              have HROF := Lib.hid hro
              have HLR := Lib.hid hlr
              clear hz hro hlr
              go_wp2
              go_ret
              exact ⟨rfl, HROF.out, HLR.out⟩
            | succ k =>
              have hzk : z = (k : Int) := by omega
              subst hzk
              have hk0 : (0 : Int) ≤ (k : Int) := by omega
              have hrows := HR.out wr hlr
              have HROW := Lib.hid hro
              have HLR := Lib.hid hlr
              clear hz
              by_cases hks : k = s.length
              · have hks2 : ((k : Int) == (s.length : Int)) = true := by simp; omega
                have HFF := Lib.hid (show Gl.F t m s i k = false by rw [hks]; exact Gl.F_end hi (by rw [HAT.out]; rfl))
                have HK := Lib.hid hks
                clear hks hrows hro hlr
                go_wp2_with fail
                go_roundw
                case rel => exact ⟨(k : Int) - 1, k, by go_num, rfl, by omega, HROW.out.skip HFF.out, HLR.out⟩
                case measure => (simp [intOf]; try omega)
              · have hks2 : ((k : Int) == (s.length : Int)) = false := by simp; omega
                have hksl : k < s.length := by omega
                have hksz : k < (mkS s).size := by rw [mkS_size]; exact hksl
                have hkl : k < s.length + 1 := by omega
                have hkl2 : k + 1 < s.length + 1 := by omega
                obtain ⟨ho1, ho2⟩ := hro.cell (q := k) (by omega)
                have ho3 : wr.cell? ((⟨w.heap.size, 0, none⟩ : Addr).add k) = some (.bool (decide (k + 1 ≤ k) && Gl.F t m s i k)) := by rw [add_lit0]; exact ho1
                have ho4 : wr.frozen? ((⟨w.heap.size, 0, none⟩ : Addr).add k) = false := by rw [add_lit0]; exact ho2
                have hsk : s[k]'hksl = (mkS s)[k]'hksz := rfl
                obtain ⟨b, c1, hg1, hb1⟩ := hrows.at_ (j := e + 1) (by omega) (by omega)
                have hg2 : wr.cell? ((⟨g, 0, none⟩ : Addr).add (e + 1)) = some (.slice (some ⟨b, 0, none⟩) (s.length + 1) c1) := by rw [add_lit0]; exact hg1
                have hb2 := hb1 (k + 1) (by omega)
                have hb3 : wr.cell? ((⟨b, 0, none⟩ : Addr).add (k + 1)) = some (.bool (Gl.F t m s (e + 1) (k + 1))) := by rw [add_lit0]; exact hb2
                have HFF := Lib.hid (Gl.F_one (t := t) (m := m) (s := s) hi HAT.out rfl hksl)
                have hin := fun W => in_v t m i e ((mkS s)[k]'hksz) W HCL.out ht
                obtain ⟨q, hq⟩ : ∃ q, q = Gl.tk (.set (Gl.isAt t m (i + 1) 33) (Gl.mems t m (Gl.fst t m i) e)) ((mkS s)[k]'hksz) := ⟨_, rfl⟩
                rw [← hq] at hin
                have HIN := Lib.hid hin
                have HFF2 := Lib.hid (show Gl.F t m s i k = (q && Gl.F t m s (e + 1) (k + 1)) by rw [HFF.out, hq]; rfl)
                have hepos : (0 : Int) < (e : Int) + 1 := by omega
                have hei2 : e + 1 < t.length + 1 := by omega
                clear hrows hro hlr hb1 hin hq
                cases q with
                | true =>
                  go_wp2_with (first
                    | (go_at_call 39; (with_reducible refine (HIN.out _).mono ?_); rintro e w1 ⟨rfl, rfl⟩))
                  go_roundw
                  case rel => exact ⟨(k : Int) - 1, k, by go_num, rfl, by omega, HROW.out.put (by omega) (by rw [HFF2.out]; rfl), later_of_new HLR.out (set_only _ _ _ _) (Nat.le_refl _)⟩
                  case measure => (simp [intOf]; try omega)
                | false =>
                  go_wp2_with (first
                    | (go_at_call 39; (with_reducible refine (HIN.out _).mono ?_); rintro e w1 ⟨rfl, rfl⟩))
                  go_roundw
                  case rel => exact ⟨(k : Int) - 1, k, by go_num, rfl, by omega, HROW.out.put (by omega) (by rw [HFF2.out]; rfl), later_of_new HLR.out (set_only _ _ _ _) (Nat.le_refl _)⟩
                  case measure => (simp [intOf]; try omega)
        | none =>
          have hen : ∀ W, Calls Tryd.prog 38 #[.string (mkS t), .string (mkS m), .int .i64 (i : Int)] W fun r w' => r = .returned (.int .i64 (-1)) ∧ w' = W := fun W => by
            have := End_v t m i W hi ht
            rwa [show Gl.endOf t m i = -1 by unfold Gl.endOf; rw [hcl]] at this
          have HEN := Lib.hid hen
          have hti3 : i < (mkS t).size := by rw [mkS_size]; exact hi
          have HAT := Lib.hid (show Gl.sgAt t m i = (.lit ((mkS t)[i]'hti3), i + 1) by
            have e1 := get_byte t i hti3
            have e2 := Gl.isAt_get e91
            rw [List.getD_eq_getElem?_getD, e1, Option.getD_some] at e2
            rw [e2]; unfold Gl.sgAt; rw [e42, e63, e91, hcl]; rfl)
          clear h42 h63 h91 n63 n91 m91 e42 e63 e91 hen hcl
          go_enter Tryd.func31, Tryd.ntmps31
          go_wp2_with (first
            | (go_at_call 37; (with_reducible refine (H42.out _).mono ?_); rintro e w1 ⟨rfl, rfl⟩)
            | (go_at_call 37; (with_reducible refine (H63.out _).mono ?_); rintro e w1 ⟨rfl, rfl⟩)
            | (go_at_call 37; (with_reducible refine (H91.out _).mono ?_); rintro e w1 ⟨rfl, rfl⟩)
            | (go_at_call 38; (with_reducible refine (HEN.out _).mono ?_); rintro e w1 ⟨rfl, rfl⟩))
          go_loopw [16] (fun s16 wr => ∃ (z : Int) (n : Nat), s16 = .int .i64 z ∧ z = (n : Int) - 1 ∧ n ≤ s.length + 1 ∧ Ro wr w.heap.size n t m s i ∧ Later w wr) (fun i _ => (intOf i + 1).toNat)
          case atStart => exact ⟨(s.length : Int), s.length + 1, rfl, by omega, Nat.le_refl _, HRO.out, HL.out⟩
          case round =>
            obtain ⟨z, n, rfl, hz, hn, hro, hlr⟩ := hrel
            cases n with
            | zero =>
              have hneg : ¬ ((0 : Int) ≤ z) := by omega
              have HROF := Lib.hid hro
              have HLR := Lib.hid hlr
              clear hz hro hlr
              go_wp2
              go_ret
              exact ⟨rfl, HROF.out, HLR.out⟩
            | succ k =>
              have hzk : z = (k : Int) := by omega
              subst hzk
              have hk0 : (0 : Int) ≤ (k : Int) := by omega
              have hrows := HR.out wr hlr
              have HROW := Lib.hid hro
              have HLR := Lib.hid hlr
              clear hz
              by_cases hks : k = s.length
              · have hks2 : ((k : Int) == (s.length : Int)) = true := by simp; omega
                have HFF := Lib.hid (show Gl.F t m s i k = false by rw [hks]; exact Gl.F_end hi (by rw [HAT.out]; rfl))
                have HK := Lib.hid hks
                clear hks hrows hro hlr
                go_wp2_with fail
                go_roundw
                case rel => exact ⟨(k : Int) - 1, k, by go_num, rfl, by omega, HROW.out.skip HFF.out, HLR.out⟩
                case measure => (simp [intOf]; try omega)
              · have hks2 : ((k : Int) == (s.length : Int)) = false := by simp; omega
                have hksl : k < s.length := by omega
                have hksz : k < (mkS s).size := by rw [mkS_size]; exact hksl
                have hkl : k < s.length + 1 := by omega
                have hkl2 : k + 1 < s.length + 1 := by omega
                obtain ⟨ho1, ho2⟩ := hro.cell (q := k) (by omega)
                have ho3 : wr.cell? ((⟨w.heap.size, 0, none⟩ : Addr).add k) = some (.bool (decide (k + 1 ≤ k) && Gl.F t m s i k)) := by rw [add_lit0]; exact ho1
                have ho4 : wr.frozen? ((⟨w.heap.size, 0, none⟩ : Addr).add k) = false := by rw [add_lit0]; exact ho2
                have hsk : s[k]'hksl = (mkS s)[k]'hksz := rfl
                obtain ⟨b, c1, hg1, hb1⟩ := hrows.at_ (j := i + 1) (by omega) (by omega)
                have hg2 : wr.cell? ((⟨g, 0, none⟩ : Addr).add (i + 1)) = some (.slice (some ⟨b, 0, none⟩) (s.length + 1) c1) := by rw [add_lit0]; exact hg1
                have hb2 := hb1 (k + 1) (by omega)
                have hb3 : wr.cell? ((⟨b, 0, none⟩ : Addr).add (k + 1)) = some (.bool (Gl.F t m s (i + 1) (k + 1))) := by rw [add_lit0]; exact hb2
                have HFF := Lib.hid (Gl.F_one (t := t) (m := m) (s := s) hi HAT.out rfl hksl)
                have hti3 : i < (mkS t).size := by rw [mkS_size]; exact hi
                have hi0 : (0 : Int) ≤ (i : Int) := by omega
                clear hrows hro hlr hb1
                by_cases hby : ((mkS s)[k].toNat : Int) = ((mkS t)[i].toNat : Int)
                · have HBE := Lib.hid (show Gl.tk (.lit ((mkS t)[i]'hti3)) (s[k]'hksl) = true from beq_iff_eq.2 (UInt8.toNat_inj.1 (by rw [hsk]; omega)))
                  have hby2 : (((mkS s)[k].toNat : Int) == ((mkS t)[i].toNat : Int)) = true := by rw [hby]; exact beq_self_eq_true _
                  go_wp2_with fail
                  go_region
                  go_wp2_with fail
                  go_roundw
                  case rel => exact ⟨(k : Int) - 1, k, by go_num, rfl, by omega, (HROW.out.drew).put (by omega) (by rw [HFF.out, HBE.out, Bool.true_and]), later_of_new (HLR.out.trans (Later.drew _)) (set_only _ _ _ _) (Nat.le_refl _)⟩
                  case measure => (simp [intOf]; try omega)
                · have HBE := Lib.hid (show Gl.tk (.lit ((mkS t)[i]'hti3)) (s[k]'hksl) = false from beq_eq_false_iff_ne.2 fun e => hby (by rw [e, hsk]))
                  have hby2 : (((mkS s)[k].toNat : Int) == ((mkS t)[i].toNat : Int)) = false := beq_eq_false_iff_ne.2 hby
                  go_wp2_with fail
                  go_region
                  go_wp2_with fail
                  go_roundw
                  case rel => exact ⟨(k : Int) - 1, k, by go_num, rfl, by omega, (HROW.out.drew).put (by omega) (by rw [HFF.out, HBE.out, Bool.false_and]), later_of_new (HLR.out.trans (Later.drew _)) (set_only _ _ _ _) (Nat.le_refl _)⟩
                  case measure => (simp [intOf]; try omega)
      | false =>
        rw [e91] at h91
        have H91 := Lib.hid h91
        have hti3 : i < (mkS t).size := by rw [mkS_size]; exact hi
        have HAT := Lib.hid (show Gl.sgAt t m i = (.lit ((mkS t)[i]'hti3), i + 1) by
          have e1 := get_byte t i hti3
          unfold Gl.sgAt; rw [e42, e63, e91, List.getD_eq_getElem?_getD, e1]; rfl)
        clear h42 h63 h91 n63 n91 m91 e42 e63 e91
        go_enter Tryd.func31, Tryd.ntmps31
        go_wp2_with (first
          | (go_at_call 37; (with_reducible refine (H42.out _).mono ?_); rintro e w1 ⟨rfl, rfl⟩)
          | (go_at_call 37; (with_reducible refine (H63.out _).mono ?_); rintro e w1 ⟨rfl, rfl⟩)
          | (go_at_call 37; (with_reducible refine (H91.out _).mono ?_); rintro e w1 ⟨rfl, rfl⟩))
        go_loopw [16] (fun s16 wr => ∃ (z : Int) (n : Nat), s16 = .int .i64 z ∧ z = (n : Int) - 1 ∧ n ≤ s.length + 1 ∧ Ro wr w.heap.size n t m s i ∧ Later w wr) (fun i _ => (intOf i + 1).toNat)
        case atStart => exact ⟨(s.length : Int), s.length + 1, rfl, by omega, Nat.le_refl _, HRO.out, HL.out⟩
        case round =>
          obtain ⟨z, n, rfl, hz, hn, hro, hlr⟩ := hrel
          cases n with
          | zero =>
            have hneg : ¬ ((0 : Int) ≤ z) := by omega
            have HROF := Lib.hid hro
            have HLR := Lib.hid hlr
            clear hz hro hlr
            go_wp2
            go_ret
            exact ⟨rfl, HROF.out, HLR.out⟩
          | succ k =>
            have hzk : z = (k : Int) := by omega
            subst hzk
            have hk0 : (0 : Int) ≤ (k : Int) := by omega
            have hrows := HR.out wr hlr
            have HROW := Lib.hid hro
            have HLR := Lib.hid hlr
            clear hz
            by_cases hks : k = s.length
            · have hks2 : ((k : Int) == (s.length : Int)) = true := by simp; omega
              have HFF := Lib.hid (show Gl.F t m s i k = false by rw [hks]; exact Gl.F_end hi (by rw [HAT.out]; rfl))
              have HK := Lib.hid hks
              clear hks hrows hro hlr
              go_wp2_with fail
              go_roundw
              case rel => exact ⟨(k : Int) - 1, k, by go_num, rfl, by omega, HROW.out.skip HFF.out, HLR.out⟩
              case measure => (simp [intOf]; try omega)
            · have hks2 : ((k : Int) == (s.length : Int)) = false := by simp; omega
              have hksl : k < s.length := by omega
              have hksz : k < (mkS s).size := by rw [mkS_size]; exact hksl
              have hkl : k < s.length + 1 := by omega
              have hkl2 : k + 1 < s.length + 1 := by omega
              obtain ⟨ho1, ho2⟩ := hro.cell (q := k) (by omega)
              have ho3 : wr.cell? ((⟨w.heap.size, 0, none⟩ : Addr).add k) = some (.bool (decide (k + 1 ≤ k) && Gl.F t m s i k)) := by rw [add_lit0]; exact ho1
              have ho4 : wr.frozen? ((⟨w.heap.size, 0, none⟩ : Addr).add k) = false := by rw [add_lit0]; exact ho2
              have hsk : s[k]'hksl = (mkS s)[k]'hksz := rfl
              obtain ⟨b, c1, hg1, hb1⟩ := hrows.at_ (j := i + 1) (by omega) (by omega)
              have hg2 : wr.cell? ((⟨g, 0, none⟩ : Addr).add (i + 1)) = some (.slice (some ⟨b, 0, none⟩) (s.length + 1) c1) := by rw [add_lit0]; exact hg1
              have hb2 := hb1 (k + 1) (by omega)
              have hb3 : wr.cell? ((⟨b, 0, none⟩ : Addr).add (k + 1)) = some (.bool (Gl.F t m s (i + 1) (k + 1))) := by rw [add_lit0]; exact hb2
              have HFF := Lib.hid (Gl.F_one (t := t) (m := m) (s := s) hi HAT.out rfl hksl)
              have hti3 : i < (mkS t).size := by rw [mkS_size]; exact hi
              have hi0 : (0 : Int) ≤ (i : Int) := by omega
              clear hrows hro hlr hb1
              by_cases hby : ((mkS s)[k].toNat : Int) = ((mkS t)[i].toNat : Int)
              · have HBE := Lib.hid (show Gl.tk (.lit ((mkS t)[i]'hti3)) (s[k]'hksl) = true from beq_iff_eq.2 (UInt8.toNat_inj.1 (by rw [hsk]; omega)))
                have hby2 : (((mkS s)[k].toNat : Int) == ((mkS t)[i].toNat : Int)) = true := by rw [hby]; exact beq_self_eq_true _
                go_wp2_with fail
                go_region
                go_wp2_with fail
                go_roundw
                case rel => exact ⟨(k : Int) - 1, k, by go_num, rfl, by omega, (HROW.out.drew).put (by omega) (by rw [HFF.out, HBE.out, Bool.true_and]), later_of_new (HLR.out.trans (Later.drew _)) (set_only _ _ _ _) (Nat.le_refl _)⟩
                case measure => (simp [intOf]; try omega)
              · have HBE := Lib.hid (show Gl.tk (.lit ((mkS t)[i]'hti3)) (s[k]'hksl) = false from beq_eq_false_iff_ne.2 fun e => hby (by rw [e, hsk]))
                have hby2 : (((mkS s)[k].toNat : Int) == ((mkS t)[i].toNat : Int)) = false := beq_eq_false_iff_ne.2 hby
                go_wp2_with fail
                go_region
                go_wp2_with fail
                go_roundw
                case rel => exact ⟨(k : Int) - 1, k, by go_num, rfl, by omega, (HROW.out.drew).put (by omega) (by rw [HFF.out, HBE.out, Bool.false_and]), later_of_new (HLR.out.trans (Later.drew _)) (set_only _ _ _ _) (Nat.le_refl _)⟩
                case measure => (simp [intOf]; try omega)
end Gr
end Go.Proofs.YtdfnbanbofnabaaDoor
