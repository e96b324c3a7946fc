/- WordParts: its walk. No premises. -/
import Derived.Test.YtlenocpaalahbaaDoorWdT
import Derived.BigQuiet
namespace Go.Proofs.YtlenocpaalahbaaDoor
open Go.RowKit Go.Maps
open Ws
namespace wordParts
theorem one_of {first : Bool} {ps : List Wd.P} (h : Wd.Td first ps) : (∀ (i : Nat) (p : Wd.P), ps[i]? = some p → Wd.One first i p) ∧ (∀ (i : Nat) (p q : Wd.P), ps[i]? = some p → ps[i + 1]? = some q → p.k ≤ 2 → q.k ≠ p.k) ∧ ∀ p ∈ ps, Wd.Td false p.w := by
  cases h with
  | mk _ _ a b c => exact ⟨a, b, c⟩
theorem str_nil (l : L) : ((mkS l).toList == ([] : List UInt8)) = decide (l = []) := nil_eq l
theorem str_nn (l : L) : ((mkS l).toList != ([] : List UInt8)) = !decide (l = []) := by unfold bne; rw [nil_eq]
theorem hold {p : Prop} (h : Hid p) : p := h.out
/-- What is asked of a part's word. -/
def Word (W : World) (ps : List Wd.P) : Prop := ∀ p ∈ ps, ∀ (W' : World) (v : Value), Later W W' → Ps W' v p.w → Calls Tryd.prog 10 #[v, .bool false] W' fun e W'' => e = .returned (.bool true) ∧ Later W' W''
set_option maxHeartbeats 6400000 in
set_option maxRecDepth 100000 in
theorem tidy_w {W : World} {first : Bool} {ps : List Wd.P} {v : Value} (hp : Ps W v ps) (ht : Wd.Td first ps) (hw : Word W ps) (hlen : ps.length ≤ 9223372036854775807) : Calls Tryd.prog 10 #[v, .bool first] W fun e W' => e = .returned (.bool true) ∧ Later W W' := by
  obtain ⟨_, A, cc, rfl⟩ := hp.one
  obtain ⟨n, hn⟩ : ∃ n, n = ps.length := ⟨_, rfl⟩
  rw [← hn]
  rw [← hn] at hp hlen
  have HN := Lib.hid hn
  have HP := Lib.hid hp
  have HT := Lib.hid (one_of ht)
  have HW := Lib.hid hw
  clear hn hp ht hw
  go_enter Tryd.func10, Tryd.ntmps10
  go_wp2
  go_loopw [5] (fun i wr => ∃ j : Nat, j ≤ n ∧ i = .int .i64 (j : Int) ∧ Later W wr) (fun i _ => n - (intOf i).toNat)
  case atStart => exact ⟨0, by omega, rfl, Later.refl W⟩
  case round =>
    obtain ⟨j, hj, rfl, hl⟩ := hrel
    have HL := Lib.hid hl
    clear hl
    have hj0 : (0 : Int) ≤ (j : Int) := by omega
    by_cases hjn : j < n
    · have hw1 : wrap64 ((j : Int) + 1) = (j : Int) + 1 := w64 _ (by omega)
      have hj1 : (j : Int) < (n : Int) := by omega
      have hlt : j < ps.length := by have := HN.out; omega
      obtain ⟨p, hp⟩ : ∃ p, p = ps[j] := ⟨_, rfl⟩
      have hpe : ps[j]? = some p := by rw [hp]; exact List.getElem?_eq_getElem hlt
      have h8 := (HP.out.later HL.out).get (by intro e; rw [e] at hlt; simp at hlt)
      obtain ⟨b, c8, e8, hc8, _, hg⟩ := h8
      injection e8 with eA en ec
      clear en ec
      obtain ⟨vw, pa⟩ := hg j p hpe
      obtain ⟨_, Aw, cw, evw⟩ := pa.w.one
      obtain ⟨wl, hwl⟩ : ∃ wl, wl = p.w.length := ⟨_, rfl⟩
      rw [← hwl] at evw
      have HWL := Lib.hid hwl
      clear hwl
      have hone := HT.out.1 j p hpe
      have hload : (Instr.loadAt 28 (.pointer (some ⟨b, j * 5, none⟩))).run Tryd.prog wr = .ok (.agg #[.int .i64 (p.k : Int), .string (mkS p.t), .string (mkS p.o), .bool p.q, vw]) wr := by
        refine run_loadAt_mid (P := Tryd.prog) wr b (j * 5) 28 [.int .i64 (p.k : Int), .string (mkS p.t), .string (mkS p.o), .bool p.q, vw] _ (fun i u hu => ?_) Tryd.underlying28 rfl (by kernel_rfl)
        have hi : i < 5 := (List.getElem?_eq_some_iff.1 hu).1
        match i, hi with
        | 0, _ => cases hu; exact pa.c0
        | 1, _ => cases hu; exact pa.c1
        | 2, _ => cases hu; exact pa.c2
        | 3, _ => cases hu; exact pa.c3
        | 4, _ => cases hu; exact pa.c4
      have HCL := Lib.hid (HW.out p (List.mem_of_getElem? hpe))
      have HPW := Lib.hid pa.w
      subst evw eA
      have HLD := Lib.hid hload
      have hprev : ∀ m : Nat, j = m + 1 → ∃ q : Wd.P, wr.cell? ⟨b, m * 5, none⟩ = some (.int .i64 (q.k : Int)) ∧ (q.k ≤ 2 → p.k ≠ q.k) := fun m e => by
        subst e
        have hq : ps[m]? = some ps[m] := List.getElem?_eq_getElem (by omega)
        obtain ⟨_, pq⟩ := hg m _ hq
        exact ⟨_, pq.c0, fun hk => HT.out.2.1 m _ _ hq hpe hk⟩
      have HPV := Lib.hid hprev
      clear hg pa hp hpe hlt hload hprev hc8
      obtain ⟨pk, hpk⟩ : ∃ pk, pk = p.k := ⟨_, rfl⟩
      have HO := Lib.hid hone
      have HPK := Lib.hid hpk
      have hkk : pk = 1 ∨ pk = 2 ∨ pk = 3 ∨ pk = 4 ∨ pk = 5 := by have := hone.lo; have := hone.hi; omega
      have et := str_nil p.t
      have eo := str_nil p.o
      rw [← hpk] at HLD
      clear hone hpk
      have al := fun (h : True) => h
      clear al
      by_cases hpos : j = 0
      · rcases hkk with rfl | rfl | rfl | rfl | rfl
        · have hk0 : p.k = 1 := HPK.out.symm
          rw [decide_eq_false (HO.out.lt hk0)] at et
          rw [decide_eq_true (HO.out.op (by omega)).1] at eo
          have hwn : wl = 0 := HWL.out.trans (by rw [(HO.out.op (by omega)).2]; rfl)
          subst hwn
          subst hpos
          clear hk0
          go_wp2_with (first
            | (refine wpList_allocO 6 rfl rfl 28 rfl _ 5 info_part ?_; intro w2 hb2 hl2 hsz2; have HL2 := Lib.hid hl2; have HB2 := Lib.hid hb2; clear hb2 hl2 hsz2)
            | (refine wpList_loadRun rfl 28 (.tmp 16) rfl _ _ rfl HLD.out ?_)
            | (refine wpList_storeO rfl 28 (.tmp 6) (.tmp 17) rfl wr.heap.size _ _ rfl rfl HB2.out size_part rfl (by first | rfl | (simp [Value.oneCell']; done)) ?_; intro w3 hb3 hg3 hs3; have c30 : w3.cell? ⟨wr.heap.size, 0, none⟩ = some (.int .i64 1) := (cell_row hb3 0).1; have c31 : w3.cell? ⟨wr.heap.size, 1, none⟩ = some (.string (mkS p.t)) := (cell_row hb3 1).1; have c32 : w3.cell? ⟨wr.heap.size, 2, none⟩ = some (.string (mkS p.o)) := (cell_row hb3 2).1; have c34 : w3.cell? ⟨wr.heap.size, 4, none⟩ = some (.slice Aw 0 cw) := (cell_row hb3 4).1; have HL3 := Lib.hid (later_of_new HL2.out hg3 (Nat.le_refl _)); skip; clear hb3 hg3 hs3; refine hold ?_))
          refine Lib.hid ?_
          go_wp2
          go_quiet (fail)
          have HX := Lib.hid (later_drewN w3 nq)
          go_wp2_with (first
            | (go_at_call 10; (with_reducible refine (HCL.out _ _ (HL.out.trans (HL3.out.trans HX.out)) (Ps.later (Ps.later HPW.out HL3.out) HX.out)).mono ?_); rintro e w5 ⟨rfl, hl5⟩; have HL5 := Lib.hid hl5; clear hl5))
          go_roundw
          case rel => exact ⟨0 + 1, by have := HN.out; omega, by first | rfl | go_num, HL.out.trans (HL3.out.trans (HX.out.trans HL5.out))⟩
          case measure => simp [intOf]; omega
        · have hk0 : p.k = 2 := HPK.out.symm
          rw [decide_eq_true (HO.out.op (by omega)).1] at eo
          have hwn : wl = 0 := HWL.out.trans (by rw [(HO.out.op (by omega)).2]; rfl)
          subst hwn
          subst hpos
          clear et
          clear hk0
          go_wp2_with (first
            | (refine wpList_allocO 6 rfl rfl 28 rfl _ 5 info_part ?_; intro w2 hb2 hl2 hsz2; have HL2 := Lib.hid hl2; have HB2 := Lib.hid hb2; clear hb2 hl2 hsz2)
            | (refine wpList_loadRun rfl 28 (.tmp 16) rfl _ _ rfl HLD.out ?_)
            | (refine wpList_storeO rfl 28 (.tmp 6) (.tmp 17) rfl wr.heap.size _ _ rfl rfl HB2.out size_part rfl (by first | rfl | (simp [Value.oneCell']; done)) ?_; intro w3 hb3 hg3 hs3; have c30 : w3.cell? ⟨wr.heap.size, 0, none⟩ = some (.int .i64 2) := (cell_row hb3 0).1; have c31 : w3.cell? ⟨wr.heap.size, 1, none⟩ = some (.string (mkS p.t)) := (cell_row hb3 1).1; have c32 : w3.cell? ⟨wr.heap.size, 2, none⟩ = some (.string (mkS p.o)) := (cell_row hb3 2).1; have c34 : w3.cell? ⟨wr.heap.size, 4, none⟩ = some (.slice Aw 0 cw) := (cell_row hb3 4).1; have HL3 := Lib.hid (later_of_new HL2.out hg3 (Nat.le_refl _)); skip; clear hb3 hg3 hs3; refine hold ?_))
          refine Lib.hid ?_
          go_wp2
          go_quiet (fail)
          have HX := Lib.hid (later_drewN w3 nq)
          go_wp2_with (first
            | (go_at_call 10; (with_reducible refine (HCL.out _ _ (HL.out.trans (HL3.out.trans HX.out)) (Ps.later (Ps.later HPW.out HL3.out) HX.out)).mono ?_); rintro e w5 ⟨rfl, hl5⟩; have HL5 := Lib.hid hl5; clear hl5))
          go_roundw
          case rel => exact ⟨0 + 1, by have := HN.out; omega, by first | rfl | go_num, HL.out.trans (HL3.out.trans (HX.out.trans HL5.out))⟩
          case measure => simp [intOf]; omega
        · have hk0 : p.k = 3 := HPK.out.symm
          subst hpos
          clear et
          clear eo
          have h33 : ((3 : Int) != 3) = false := by decide
          clear hk0
          go_wp2_with (first
            | (refine wpList_allocO 6 rfl rfl 28 rfl _ 5 info_part ?_; intro w2 hb2 hl2 hsz2; have HL2 := Lib.hid hl2; have HB2 := Lib.hid hb2; clear hb2 hl2 hsz2)
            | (refine wpList_loadRun rfl 28 (.tmp 16) rfl _ _ rfl HLD.out ?_)
            | (refine wpList_storeO rfl 28 (.tmp 6) (.tmp 17) rfl wr.heap.size _ _ rfl rfl HB2.out size_part rfl (by first | rfl | (simp [Value.oneCell']; done)) ?_; intro w3 hb3 hg3 hs3; have c30 : w3.cell? ⟨wr.heap.size, 0, none⟩ = some (.int .i64 3) := (cell_row hb3 0).1; have c31 : w3.cell? ⟨wr.heap.size, 1, none⟩ = some (.string (mkS p.t)) := (cell_row hb3 1).1; have c32 : w3.cell? ⟨wr.heap.size, 2, none⟩ = some (.string (mkS p.o)) := (cell_row hb3 2).1; have c34 : w3.cell? ⟨wr.heap.size, 4, none⟩ = some (.slice Aw wl cw) := (cell_row hb3 4).1; have HL3 := Lib.hid (later_of_new HL2.out hg3 (Nat.le_refl _)); skip; clear hb3 hg3 hs3; refine hold ?_))
          refine Lib.hid ?_
          go_wp2
          go_quiet (fail)
          have HX := Lib.hid (later_drewN w3 nq)
          go_wp2_with (first
            | (go_at_call 10; (with_reducible refine (HCL.out _ _ (HL.out.trans (HL3.out.trans HX.out)) (Ps.later (Ps.later HPW.out HL3.out) HX.out)).mono ?_); rintro e w5 ⟨rfl, hl5⟩; have HL5 := Lib.hid hl5; clear hl5))
          go_roundw
          case rel => exact ⟨0 + 1, by have := HN.out; omega, by first | rfl | go_num, HL.out.trans (HL3.out.trans (HX.out.trans HL5.out))⟩
          case measure => simp [intOf]; omega
        · have hk0 : p.k = 4 := HPK.out.symm
          rw [decide_eq_true (HO.out.op (by omega)).1] at eo
          have hwn : wl = 0 := HWL.out.trans (by rw [(HO.out.op (by omega)).2]; rfl)
          subst hwn
          subst hpos
          clear et
          clear hk0
          go_wp2_with (first
            | (refine wpList_allocO 6 rfl rfl 28 rfl _ 5 info_part ?_; intro w2 hb2 hl2 hsz2; have HL2 := Lib.hid hl2; have HB2 := Lib.hid hb2; clear hb2 hl2 hsz2)
            | (refine wpList_loadRun rfl 28 (.tmp 16) rfl _ _ rfl HLD.out ?_)
            | (refine wpList_storeO rfl 28 (.tmp 6) (.tmp 17) rfl wr.heap.size _ _ rfl rfl HB2.out size_part rfl (by first | rfl | (simp [Value.oneCell']; done)) ?_; intro w3 hb3 hg3 hs3; have c30 : w3.cell? ⟨wr.heap.size, 0, none⟩ = some (.int .i64 4) := (cell_row hb3 0).1; have c31 : w3.cell? ⟨wr.heap.size, 1, none⟩ = some (.string (mkS p.t)) := (cell_row hb3 1).1; have c32 : w3.cell? ⟨wr.heap.size, 2, none⟩ = some (.string (mkS p.o)) := (cell_row hb3 2).1; have c34 : w3.cell? ⟨wr.heap.size, 4, none⟩ = some (.slice Aw 0 cw) := (cell_row hb3 4).1; have HL3 := Lib.hid (later_of_new HL2.out hg3 (Nat.le_refl _)); skip; clear hb3 hg3 hs3; refine hold ?_))
          refine Lib.hid ?_
          go_wp2
          go_quiet (fail)
          have HX := Lib.hid (later_drewN w3 nq)
          go_wp2_with (first
            | (go_at_call 10; (with_reducible refine (HCL.out _ _ (HL.out.trans (HL3.out.trans HX.out)) (Ps.later (Ps.later HPW.out HL3.out) HX.out)).mono ?_); rintro e w5 ⟨rfl, hl5⟩; have HL5 := Lib.hid hl5; clear hl5))
          go_roundw
          case rel => exact ⟨0 + 1, by have := HN.out; omega, by first | rfl | go_num, HL.out.trans (HL3.out.trans (HX.out.trans HL5.out))⟩
          case measure => simp [intOf]; omega
        · have hk0 : p.k = 5 := HPK.out.symm
          rw [decide_eq_true (HO.out.tl hk0).2.2] at et
          rw [decide_eq_true (HO.out.op (by omega)).1] at eo
          have hwn : wl = 0 := HWL.out.trans (by rw [(HO.out.op (by omega)).2]; rfl)
          subst hwn
          have hft : first = true := (HO.out.tl hk0).2.1
          subst hft
          subst hpos
          clear hk0
          go_wp2_with (first
            | (refine wpList_allocO 6 rfl rfl 28 rfl _ 5 info_part ?_; intro w2 hb2 hl2 hsz2; have HL2 := Lib.hid hl2; have HB2 := Lib.hid hb2; clear hb2 hl2 hsz2)
            | (refine wpList_loadRun rfl 28 (.tmp 16) rfl _ _ rfl HLD.out ?_)
            | (refine wpList_storeO rfl 28 (.tmp 6) (.tmp 17) rfl wr.heap.size _ _ rfl rfl HB2.out size_part rfl (by first | rfl | (simp [Value.oneCell']; done)) ?_; intro w3 hb3 hg3 hs3; have c30 : w3.cell? ⟨wr.heap.size, 0, none⟩ = some (.int .i64 5) := (cell_row hb3 0).1; have c31 : w3.cell? ⟨wr.heap.size, 1, none⟩ = some (.string (mkS p.t)) := (cell_row hb3 1).1; have c32 : w3.cell? ⟨wr.heap.size, 2, none⟩ = some (.string (mkS p.o)) := (cell_row hb3 2).1; have c34 : w3.cell? ⟨wr.heap.size, 4, none⟩ = some (.slice Aw 0 cw) := (cell_row hb3 4).1; have HL3 := Lib.hid (later_of_new HL2.out hg3 (Nat.le_refl _)); skip; clear hb3 hg3 hs3; refine hold ?_))
          refine Lib.hid ?_
          go_wp2
          go_quiet (fail)
          have HX := Lib.hid (later_drewN w3 nq)
          go_wp2_with (first
            | (go_at_call 10; (with_reducible refine (HCL.out _ _ (HL.out.trans (HL3.out.trans HX.out)) (Ps.later (Ps.later HPW.out HL3.out) HX.out)).mono ?_); rintro e w5 ⟨rfl, hl5⟩; have HL5 := Lib.hid hl5; clear hl5))
          go_roundw
          case rel => exact ⟨0 + 1, by have := HN.out; omega, by first | rfl | go_num, HL.out.trans (HL3.out.trans (HX.out.trans HL5.out))⟩
          case measure => simp [intOf]; omega
      · rcases hkk with rfl | rfl | rfl | rfl | rfl
        · have hk0 : p.k = 1 := HPK.out.symm
          rw [decide_eq_false (HO.out.lt hk0)] at et
          rw [decide_eq_true (HO.out.op (by omega)).1] at eo
          have hwn : wl = 0 := HWL.out.trans (by rw [(HO.out.op (by omega)).2]; rfl)
          subst hwn
          obtain ⟨m, hjm⟩ : ∃ m, j = m + 1 := ⟨j - 1, by omega⟩
          obtain ⟨q, cq, hq⟩ := HPV.out m hjm
          have hm1 : (0 : Int) < (j : Int) := by omega
          have hd1 : decide ((0 : Int) < (j : Int)) = true := decide_eq_true hm1
          have hd2 : decide (0 < j) = true := decide_eq_true (by omega)
          have hm2 : wrap64 ((j : Int) - 1) = (m : Int) := by rw [w64 _ (by omega)]; omega
          have hm3 : IntKind.i64.wrap ((j : Int) - 1) = (m : Int) := by rw [IntKind.wrap_i64]; omega
          have hm4 : (m : Int) < (n : Int) := by omega
          have hm0 : (0 : Int) ≤ (m : Int) := by omega
          have hqk : ((q.k : Int) == 1) = false := beq_eq_false_iff_ne.2 fun e => hq (by omega) (by omega)
          have HCQ := Lib.hid cq
          have hjm2 := Lib.hid hjm
          clear hk0 hpos hq cq hjm
          go_wp2_with (first
            | (refine wpList_allocO 6 rfl rfl 28 rfl _ 5 info_part ?_; intro w2 hb2 hl2 hsz2; have HL2 := Lib.hid hl2; have HB2 := Lib.hid hb2; clear hb2 hl2 hsz2)
            | (refine wpList_loadRun rfl 28 (.tmp 16) rfl _ _ rfl HLD.out ?_)
            | (refine wpList_storeO rfl 28 (.tmp 6) (.tmp 17) rfl wr.heap.size _ _ rfl rfl HB2.out size_part rfl (by first | rfl | (simp [Value.oneCell']; done)) ?_; intro w3 hb3 hg3 hs3; have c30 : w3.cell? ⟨wr.heap.size, 0, none⟩ = some (.int .i64 1) := (cell_row hb3 0).1; have c31 : w3.cell? ⟨wr.heap.size, 1, none⟩ = some (.string (mkS p.t)) := (cell_row hb3 1).1; have c32 : w3.cell? ⟨wr.heap.size, 2, none⟩ = some (.string (mkS p.o)) := (cell_row hb3 2).1; have c34 : w3.cell? ⟨wr.heap.size, 4, none⟩ = some (.slice Aw 0 cw) := (cell_row hb3 4).1; have HL3 := Lib.hid (later_of_new HL2.out hg3 (Nat.le_refl _)); have cq3 := cell_keeps HL3.out HCQ.out; clear hb3 hg3 hs3; refine hold ?_))
          refine Lib.hid ?_
          go_wp2
          go_quiet (fail)
          have HX := Lib.hid (later_drewN w3 nq)
          go_wp2_with (first
            | (go_at_call 10; (with_reducible refine (HCL.out _ _ (HL.out.trans (HL3.out.trans HX.out)) (Ps.later (Ps.later HPW.out HL3.out) HX.out)).mono ?_); rintro e w5 ⟨rfl, hl5⟩; have HL5 := Lib.hid hl5; clear hl5))
          go_roundw
          case rel => exact ⟨j + 1, by have := HN.out; omega, by first | rfl | go_num, HL.out.trans (HL3.out.trans (HX.out.trans HL5.out))⟩
          case measure => simp [intOf]; omega
        · have hk0 : p.k = 2 := HPK.out.symm
          rw [decide_eq_true (HO.out.op (by omega)).1] at eo
          have hwn : wl = 0 := HWL.out.trans (by rw [(HO.out.op (by omega)).2]; rfl)
          subst hwn
          obtain ⟨m, hjm⟩ : ∃ m, j = m + 1 := ⟨j - 1, by omega⟩
          obtain ⟨q, cq, hq⟩ := HPV.out m hjm
          have hm1 : (0 : Int) < (j : Int) := by omega
          have hd1 : decide ((0 : Int) < (j : Int)) = true := decide_eq_true hm1
          have hd2 : decide (0 < j) = true := decide_eq_true (by omega)
          have hm2 : wrap64 ((j : Int) - 1) = (m : Int) := by rw [w64 _ (by omega)]; omega
          have hm3 : IntKind.i64.wrap ((j : Int) - 1) = (m : Int) := by rw [IntKind.wrap_i64]; omega
          have hm4 : (m : Int) < (n : Int) := by omega
          have hm0 : (0 : Int) ≤ (m : Int) := by omega
          have hqk : ((q.k : Int) == 2) = false := beq_eq_false_iff_ne.2 fun e => hq (by omega) (by omega)
          have HCQ := Lib.hid cq
          have hjm2 := Lib.hid hjm
          clear et
          clear hk0 hpos hq cq hjm
          go_wp2_with (first
            | (refine wpList_allocO 6 rfl rfl 28 rfl _ 5 info_part ?_; intro w2 hb2 hl2 hsz2; have HL2 := Lib.hid hl2; have HB2 := Lib.hid hb2; clear hb2 hl2 hsz2)
            | (refine wpList_loadRun rfl 28 (.tmp 16) rfl _ _ rfl HLD.out ?_)
            | (refine wpList_storeO rfl 28 (.tmp 6) (.tmp 17) rfl wr.heap.size _ _ rfl rfl HB2.out size_part rfl (by first | rfl | (simp [Value.oneCell']; done)) ?_; intro w3 hb3 hg3 hs3; have c30 : w3.cell? ⟨wr.heap.size, 0, none⟩ = some (.int .i64 2) := (cell_row hb3 0).1; have c31 : w3.cell? ⟨wr.heap.size, 1, none⟩ = some (.string (mkS p.t)) := (cell_row hb3 1).1; have c32 : w3.cell? ⟨wr.heap.size, 2, none⟩ = some (.string (mkS p.o)) := (cell_row hb3 2).1; have c34 : w3.cell? ⟨wr.heap.size, 4, none⟩ = some (.slice Aw 0 cw) := (cell_row hb3 4).1; have HL3 := Lib.hid (later_of_new HL2.out hg3 (Nat.le_refl _)); have cq3 := cell_keeps HL3.out HCQ.out; clear hb3 hg3 hs3; refine hold ?_))
          refine Lib.hid ?_
          go_wp2
          go_quiet (fail)
          have HX := Lib.hid (later_drewN w3 nq)
          go_wp2_with (first
            | (go_at_call 10; (with_reducible refine (HCL.out _ _ (HL.out.trans (HL3.out.trans HX.out)) (Ps.later (Ps.later HPW.out HL3.out) HX.out)).mono ?_); rintro e w5 ⟨rfl, hl5⟩; have HL5 := Lib.hid hl5; clear hl5))
          go_roundw
          case rel => exact ⟨j + 1, by have := HN.out; omega, by first | rfl | go_num, HL.out.trans (HL3.out.trans (HX.out.trans HL5.out))⟩
          case measure => simp [intOf]; omega
        · have hk0 : p.k = 3 := HPK.out.symm
          obtain ⟨m, hjm⟩ : ∃ m, j = m + 1 := ⟨j - 1, by omega⟩
          obtain ⟨q, cq, hq⟩ := HPV.out m hjm
          have hm1 : (0 : Int) < (j : Int) := by omega
          have hd1 : decide ((0 : Int) < (j : Int)) = true := decide_eq_true hm1
          have hd2 : decide (0 < j) = true := decide_eq_true (by omega)
          have hm2 : wrap64 ((j : Int) - 1) = (m : Int) := by rw [w64 _ (by omega)]; omega
          have hm3 : IntKind.i64.wrap ((j : Int) - 1) = (m : Int) := by rw [IntKind.wrap_i64]; omega
          have hm4 : (m : Int) < (n : Int) := by omega
          have hm0 : (0 : Int) ≤ (m : Int) := by omega
          have HCQ := Lib.hid cq
          have hjm2 := Lib.hid hjm
          clear et
          clear eo
          have h33 : ((3 : Int) != 3) = false := by decide
          clear hk0 hpos hq cq hjm
          go_wp2_with (first
            | (refine wpList_allocO 6 rfl rfl 28 rfl _ 5 info_part ?_; intro w2 hb2 hl2 hsz2; have HL2 := Lib.hid hl2; have HB2 := Lib.hid hb2; clear hb2 hl2 hsz2)
            | (refine wpList_loadRun rfl 28 (.tmp 16) rfl _ _ rfl HLD.out ?_)
            | (refine wpList_storeO rfl 28 (.tmp 6) (.tmp 17) rfl wr.heap.size _ _ rfl rfl HB2.out size_part rfl (by first | rfl | (simp [Value.oneCell']; done)) ?_; intro w3 hb3 hg3 hs3; have c30 : w3.cell? ⟨wr.heap.size, 0, none⟩ = some (.int .i64 3) := (cell_row hb3 0).1; have c31 : w3.cell? ⟨wr.heap.size, 1, none⟩ = some (.string (mkS p.t)) := (cell_row hb3 1).1; have c32 : w3.cell? ⟨wr.heap.size, 2, none⟩ = some (.string (mkS p.o)) := (cell_row hb3 2).1; have c34 : w3.cell? ⟨wr.heap.size, 4, none⟩ = some (.slice Aw wl cw) := (cell_row hb3 4).1; have HL3 := Lib.hid (later_of_new HL2.out hg3 (Nat.le_refl _)); have cq3 := cell_keeps HL3.out HCQ.out; clear hb3 hg3 hs3; refine hold ?_))
          refine Lib.hid ?_
          go_wp2
          go_quiet (fail)
          have HX := Lib.hid (later_drewN w3 nq)
          go_wp2_with (first
            | (go_at_call 10; (with_reducible refine (HCL.out _ _ (HL.out.trans (HL3.out.trans HX.out)) (Ps.later (Ps.later HPW.out HL3.out) HX.out)).mono ?_); rintro e w5 ⟨rfl, hl5⟩; have HL5 := Lib.hid hl5; clear hl5))
          go_roundw
          case rel => exact ⟨j + 1, by have := HN.out; omega, by first | rfl | go_num, HL.out.trans (HL3.out.trans (HX.out.trans HL5.out))⟩
          case measure => simp [intOf]; omega
        · have hk0 : p.k = 4 := HPK.out.symm
          rw [decide_eq_true (HO.out.op (by omega)).1] at eo
          have hwn : wl = 0 := HWL.out.trans (by rw [(HO.out.op (by omega)).2]; rfl)
          subst hwn
          obtain ⟨m, hjm⟩ : ∃ m, j = m + 1 := ⟨j - 1, by omega⟩
          obtain ⟨q, cq, hq⟩ := HPV.out m hjm
          have hm1 : (0 : Int) < (j : Int) := by omega
          have hd1 : decide ((0 : Int) < (j : Int)) = true := decide_eq_true hm1
          have hd2 : decide (0 < j) = true := decide_eq_true (by omega)
          have hm2 : wrap64 ((j : Int) - 1) = (m : Int) := by rw [w64 _ (by omega)]; omega
          have hm3 : IntKind.i64.wrap ((j : Int) - 1) = (m : Int) := by rw [IntKind.wrap_i64]; omega
          have hm4 : (m : Int) < (n : Int) := by omega
          have hm0 : (0 : Int) ≤ (m : Int) := by omega
          have HCQ := Lib.hid cq
          have hjm2 := Lib.hid hjm
          clear et
          clear hk0 hpos hq cq hjm
          go_wp2_with (first
            | (refine wpList_allocO 6 rfl rfl 28 rfl _ 5 info_part ?_; intro w2 hb2 hl2 hsz2; have HL2 := Lib.hid hl2; have HB2 := Lib.hid hb2; clear hb2 hl2 hsz2)
            | (refine wpList_loadRun rfl 28 (.tmp 16) rfl _ _ rfl HLD.out ?_)
            | (refine wpList_storeO rfl 28 (.tmp 6) (.tmp 17) rfl wr.heap.size _ _ rfl rfl HB2.out size_part rfl (by first | rfl | (simp [Value.oneCell']; done)) ?_; intro w3 hb3 hg3 hs3; have c30 : w3.cell? ⟨wr.heap.size, 0, none⟩ = some (.int .i64 4) := (cell_row hb3 0).1; have c31 : w3.cell? ⟨wr.heap.size, 1, none⟩ = some (.string (mkS p.t)) := (cell_row hb3 1).1; have c32 : w3.cell? ⟨wr.heap.size, 2, none⟩ = some (.string (mkS p.o)) := (cell_row hb3 2).1; have c34 : w3.cell? ⟨wr.heap.size, 4, none⟩ = some (.slice Aw 0 cw) := (cell_row hb3 4).1; have HL3 := Lib.hid (later_of_new HL2.out hg3 (Nat.le_refl _)); have cq3 := cell_keeps HL3.out HCQ.out; clear hb3 hg3 hs3; refine hold ?_))
          refine Lib.hid ?_
          go_wp2
          go_quiet (fail)
          have HX := Lib.hid (later_drewN w3 nq)
          go_wp2_with (first
            | (go_at_call 10; (with_reducible refine (HCL.out _ _ (HL.out.trans (HL3.out.trans HX.out)) (Ps.later (Ps.later HPW.out HL3.out) HX.out)).mono ?_); rintro e w5 ⟨rfl, hl5⟩; have HL5 := Lib.hid hl5; clear hl5))
          go_roundw
          case rel => exact ⟨j + 1, by have := HN.out; omega, by first | rfl | go_num, HL.out.trans (HL3.out.trans (HX.out.trans HL5.out))⟩
          case measure => simp [intOf]; omega
        · have hk0 : p.k = 5 := HPK.out.symm
          rw [decide_eq_true (HO.out.tl hk0).2.2] at et
          rw [decide_eq_true (HO.out.op (by omega)).1] at eo
          have hwn : wl = 0 := HWL.out.trans (by rw [(HO.out.op (by omega)).2]; rfl)
          subst hwn
          have hft : first = true := (HO.out.tl hk0).2.1
          subst hft
          exact absurd (HO.out.tl hk0).1 (by omega)
    · have hje : j = n := by omega
      have hj1 : ¬ (j : Int) < (n : Int) := by omega
      go_wp2
      go_ret
      exact ⟨rfl, HL.out⟩
theorem tidy_v {first : Bool} {ps : List Wd.P} (ht : Wd.Td first ps) : ∀ (W : World) (v : Value), Ps W v ps → Calls Tryd.prog 10 #[v, .bool first] W fun e W' => e = .returned (.bool true) ∧ Later W W' := by
  induction ht with
  | mk first ps h1 h2 h3 ih => exact fun W v hp => tidy_w hp (.mk first ps h1 h2 h3) (fun p hpm W' v' _ hv => ih p hpm W' v' hv) (by have := hp.small; unfold maxLen at this; omega)
set_option maxHeartbeats 1600000 in
set_option maxRecDepth 100000 in
theorem walk (w : World) (hg : Ops w) (s : ByteArray) (_ : s.size ≤ maxLen) : Calls Tryd.prog 4 #[.string s] w fun e w' => e = .returned (.bool true) ∧ Below w.heap.size w w' := by
  obtain ⟨S, hS⟩ : ∃ S, S = s.data.toList := ⟨_, rfl⟩
  have hs : s = mkS S := by rw [hS, mkS_of]
  clear hS
  have HA := Lib.hid (awake_v hg)
  have HG := Lib.hid hg
  obtain ⟨n, hn⟩ : ∃ n, n = S.length := ⟨_, rfl⟩
  have hsz : s.size = n := by rw [hs, mkS_size, hn]
  by_cases hbig : n > 500
  · have hb1 : (500 : Int) < (n : Int) := by omega
    clear hs hn hg
    go_enter Tryd.func4, Tryd.ntmps4
    go_wp2_with (go_at_call 8; (with_reducible refine HA.out.mono ?_); rintro e w1 ⟨rfl, hb1⟩; have HB1 := Lib.hid hb1; clear hb1)
    go_ret
    exact ⟨rfl, HB1.out⟩
  have hb1 : ¬ (500 : Int) < (n : Int) := by omega
  have hP := fun (W : World) (hO : Ops W) => parse_t hO S s hs _ rfl (by omega)
  rcases Wd.parse_t S with ⟨e0, ht⟩ | ⟨e1, e2⟩
  · obtain ⟨ps, hps⟩ : ∃ ps, ps = (Wd.parse S).1 := ⟨_, rfl⟩
    rw [← hps] at ht
    have hpe : Wd.parse S = (ps, 0) := by rw [hps, ← e0]
    rw [hpe] at hP
    have HP := Lib.hid hP
    have HT := Lib.hid (tidy_v ht)
    clear hs hn hg hP e0 hps hpe ht hbig
    go_enter Tryd.func4, Tryd.ntmps4
    go_wp2_with (first
      | (go_at_call 8; (with_reducible refine HA.out.mono ?_); rintro e w1 ⟨rfl, hl1⟩; have HB1 := Lib.hid hl1; have HO1 := Lib.hid (Ops.later HG.out (Ops.pos HG.out) hl1); clear hl1)
      | (go_at_call 9; (with_reducible refine (HP.out _ HO1.out).mono ?_); rintro e w2 ⟨v, rfl, h2, hl2⟩; obtain ⟨_, A2, c2, rfl⟩ := h2.one; have HV := Lib.hid h2; have HL2 := Lib.hid hl2; clear h2 hl2)
      | (go_at_call 10; (with_reducible refine (HT.out _ _ HV.out).mono ?_); rintro e w3 ⟨rfl, hl3⟩; have HL3 := Lib.hid hl3; clear hl3))
    go_ret
    exact ⟨rfl, HB1.out.trans (HL2.out.trans HL3.out)⟩
  · obtain ⟨k, hk⟩ : ∃ k, k = (Wd.parse S).2 := ⟨_, rfl⟩
    have hpe : Wd.parse S = ([], k) := by rw [hk, ← e2]
    rw [← hk] at e1
    rw [hpe] at hP
    have HP := Lib.hid hP
    clear hs hn hg hP hk hpe e2 hbig
    rcases e1 with rfl | rfl
    all_goals
      go_enter Tryd.func4, Tryd.ntmps4
      go_wp2_with (first
        | (go_at_call 8; (with_reducible refine HA.out.mono ?_); rintro e w1 ⟨rfl, hl1⟩; have HB1 := Lib.hid hl1; have HO1 := Lib.hid (Ops.later HG.out (Ops.pos HG.out) hl1); clear hl1)
        | (go_at_call 9; (with_reducible refine (HP.out _ HO1.out).mono ?_); rintro e w2 ⟨v, rfl, h2, hl2⟩; obtain ⟨_, A2, c2, rfl⟩ := h2.one; have HL2 := Lib.hid hl2; clear h2 hl2))
      go_ret
      exact ⟨rfl, HB1.out.trans HL2.out⟩
end wordParts
end Go.Proofs.YtlenocpaalahbaaDoor
