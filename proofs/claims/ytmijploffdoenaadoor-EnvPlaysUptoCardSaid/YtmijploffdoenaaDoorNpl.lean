/- EnvPlays: the walk of the statement's text. Behind Vd; texts as a machine holds them. -/
import Derived.Test.YtmijploffdoenaaDoorNpb
import Derived.Deep.CutRange
import Derived.Deep.CutBlock
import Derived.Deep.RegionWith
namespace Go.Proofs.YtmijploffdoenaaDoor
open Go.RowKit Go.Maps
namespace envPlays
open En
set_option maxRecDepth 100000 in
set_option maxHeartbeats 25600000 in
theorem walkL (W : World) (hd : Vd W) (A : Option Addr) (n cc : Nat) (l : List Doing) (hl : RdD W W.heap.size A n l) (hdo : ∀ x ∈ l, DoOk x) (hnc : n ≤ cc) (hcm : cc ≤ 9223372036854775807) (Q : Option Addr) (m mc : Nat) (ask : List B) (hr : Rd W W.heap.size Q m (ask.map fun x => .string (mkS x))) (hmc : m ≤ mc) (hmm : mc ≤ 9223372036854775807) (hx : ∀ x ∈ ask, x.length ≤ 1048576) : Calls Tryd.prog 3 #[.slice A n cc, .slice Q m mc] W fun x W' => x = .returned (.bool true) ∧ Later W W' := by
  have HAW := Lib.hid (awake_v W hd)
  have HFE := Lib.hid (fun W' (hl' : Later W W') => few_v A n cc l W' (hl.later hl') (by omega))
  have HD := Lib.hid hd
  have HRD := Lib.hid hl
  have HQ := Lib.hid hr
  have HX := Lib.hid hx
  have HOK := Lib.hid hdo
  have hnl : l.length = n := hl.len
  have HNL := Lib.hid hnl
  have hml : ask.length = m := hr.len_map
  have HML := Lib.hid hml
  have htl : ∀ l : B, (mkS l).toList = l := toList_mkS
  clear hd hl hnl hr hx hdo hml
  go_enter Tryd.func3, Tryd.ntmps3
  go_wp2_with fail
  go_at_call 6
  with_reducible refine HAW.out.mono ?_
  rintro x wa ⟨rfl, hla⟩
  have HLA := Lib.hid hla
  clear hla
  go_wp2_with fail
  go_at_call 7
  with_reducible refine (HFE.out _ HLA.out).mono ?_
  rintro x wb ⟨rfl, hlb⟩
  have HLB := Lib.hid (HLA.out.trans hlb)
  clear hlb
  obtain ⟨fb, hfb⟩ : ∃ fb, fb = fewB l := ⟨_, rfl⟩
  rw [← hfb]
  cases fb with
  | false =>
    go_wp2
    all_goals (
      go_ret
      exact ⟨rfl, HLB.out⟩)
  | true =>
    have HFW := Lib.hid (few_at hfb.symm)
    clear hfb
    by_cases g1 : (20 : Int) < (m : Int)
    · go_wp2
      go_ret
      exact ⟨rfl, HLB.out⟩
    have hn60 : n ≤ 60 := by rw [← HNL.out]; exact HFW.out.1
    go_wp2_with fail
    obtain ⟨wc, hwc⟩ : ∃ wc, wc = (wb.alloc (.cells #[.slice none 0 0, .slice none 0 0, .int .i64 0, .string ⟨#[]⟩] 28)).alloc (.cells #[.slice none 0 0, .slice none 0 0, .int .i64 0, .string ⟨#[]⟩] 31) := ⟨_, rfl⟩
    obtain ⟨g, hg⟩ : ∃ g, g = wb.heap.size := ⟨_, rfl⟩
    obtain ⟨h, hh⟩ : ∃ h, h = wb.heap.size + 1 := ⟨_, rfl⟩
    have HLC := Lib.hid (show Later W wc by rw [hwc]; exact (HLB.out.trans (Later.alloc _ _)).trans (Later.alloc _ _))
    have HT0 := Lib.hid (show Two g h wc (.slice none 0 0) (.slice none 0 0) (.int .i64 0) (.string ⟨#[]⟩) (.slice none 0 0) (.slice none 0 0) (.int .i64 0) (.string ⟨#[]⟩) ⟨[], [], 0, []⟩ from by
      have e1 : h = (wb.alloc (.cells #[.slice none 0 0, .slice none 0 0, .int .i64 0, .string ⟨#[]⟩] 28)).heap.size := by rw [World.size_alloc]; exact hh
      refine ⟨?_, ?_, Ap.zero _ _ _, Ap.zero _ _ _⟩
      · show wc.heap[g]? = _
        rw [hwc, hg]
        exact later_cells (Later.alloc _ _) (heap_alloc_new wb _)
      · show wc.heap[h]? = _
        rw [hwc, e1]
        exact heap_alloc_new _ _)
    have HGH := Lib.hid (show g ≠ h ∧ W.heap.size ≤ g ∧ W.heap.size ≤ h by have := HLB.out.size; omega)
    rw [← hwc]
    have HPW := Lib.hid (And.intro hg hh)
    have e7 : (⟨wb.heap.size, 0, none⟩ : Addr) = ⟨g, 0, none⟩ := by rw [hg]
    have e8 : (⟨wb.heap.size + 1, 0, none⟩ : Addr) = ⟨h, 0, none⟩ := by rw [hh]
    simp only [e7, e8]
    clear hwc hg hh e7 e8
    go_loopw [9] (fun s9 wr => ∃ (i : Nat) (c0 c1 c2 c3 d0 d1 d2 d3 : Value) (e : E), s9 = .int .i64 (i : Int) ∧ i ≤ n ∧ Two g h wr c0 c1 c2 c3 d0 d1 d2 d3 e ∧ St i e ∧ Later W wr) (fun i _ => n - (intOf i).toNat)
    case atStart => exact ⟨0, _, _, _, _, _, _, _, _, _, rfl, Nat.zero_le _, HT0.out, St.start, HLC.out⟩
    case round =>
      obtain ⟨i, c0, c1, c2, c3, d0, d1, d2, d3, e, rfl, hi, htw, hst, hlw⟩ := hrel
      obtain ⟨A5, v5, A4, v4, hsh⟩ := htw.ag.rd.shape
      simp only [Value.agg.injEq, Array.mk.injEq, List.cons.injEq, and_true] at hsh
      obtain ⟨rfl, rfl, rfl, rfl⟩ := hsh
      obtain ⟨A7, v7, A6, v6, hsh⟩ := htw.ah.rd.shape
      simp only [Value.agg.injEq, Array.mk.injEq, List.cons.injEq, and_true] at hsh
      obtain ⟨rfl, rfl, rfl, rfl⟩ := hsh
      obtain ⟨nv, hnv⟩ : ∃ nv, nv = e.vars.length := ⟨_, rfl⟩
      obtain ⟨na, hna⟩ : ∃ na, na = e.args.length := ⟨_, rfl⟩
      obtain ⟨es, hes⟩ : ∃ es : Int, es = (e.status : Int) := ⟨_, rfl⟩
      obtain ⟨fl, hfl⟩ : ∃ fl, fl = e.flags := ⟨_, rfl⟩
      rw [← hnv, ← hna, ← hes, ← hfl] at htw
      have HSH := Lib.hid (And.intro hnv (And.intro hna (And.intro hes hfl)))
      clear hnv hna hes hfl
      have HT := Lib.hid htw
      have HS := Lib.hid hst
      have HLW := Lib.hid hlw
      have hi0 : (0 : Int) ≤ (i : Int) := by omega
      clear htw hst hlw
      by_cases hlt : i < n
      · have hi1 : (i : Int) < (n : Int) := by omega
        have hil : i < l.length := by rw [HNL.out]; exact hlt
        obtain ⟨ad, rfl, hbl, hdo⟩ := HRD.out.at_ i hil
        obtain ⟨x, hx⟩ : ∃ x, x = l[i] := ⟨_, rfl⟩
        rw [← hx] at hdo
        have HXL := Lib.hid (show x.name.length ≤ 30 ∧ x.value.length ≤ 60 from HFW.out.2 x (by rw [hx]; exact List.getElem_mem hil))
        have HXO := Lib.hid (show DoOk x from HOK.out x (by rw [hx]; exact List.getElem_mem hil))
        have hdo2 := hdo.keep (w' := wr) (B := W.heap.size) (by rw [block_add]; exact hbl) fun p hp => HLW.out.cell hp
        clear hdo hbl hx
        obtain ⟨k0, k1, k2, k3, k4⟩ := hdo2
        obtain ⟨p0, p1, p2, p3⟩ := HT.out.cg.c
        obtain ⟨q0, q1, q2, q3⟩ := HT.out.ch.c
        have hgl : g < wr.heap.size := lt_of_block HT.out.cg
        have hhl : h < wr.heap.size := lt_of_block HT.out.ch
        go_upto_region 15 with fail
        obtain ⟨w3, hw3⟩ : ∃ w3, w3 = ((wr.alloc (.cells #[.int .u8 (x.kind.toNat : Int), .string (mkS x.name), .string (mkS x.value), .bool x.on, .int .i64 x.n] 33)).alloc (.cells #[.slice A5 nv v5, .slice A4 na v4, .int .i64 es, .string (mkS fl)] 28)).alloc (.cells #[.slice A7 nv v7, .slice A6 na v6, .int .i64 es, .string (mkS fl)] 31) := ⟨_, rfl⟩
        rw [← hw3]
        have hB1 : (wr.alloc (.cells #[.int .u8 (x.kind.toNat : Int), .string (mkS x.name), .string (mkS x.value), .bool x.on, .int .i64 x.n] 33)).heap.size = wr.heap.size + 1 := World.size_alloc _ _
        have hl3 : Later wr w3 := by rw [hw3]; exact ((Later.alloc _ _).trans (Later.alloc _ _)).trans (Later.alloc _ _)
        have hb10 : w3.heap[wr.heap.size]? = some (.cells #[.int .u8 (x.kind.toNat : Int), .string (mkS x.name), .string (mkS x.value), .bool x.on, .int .i64 x.n] 33 (0, 0)) := by
          rw [hw3]
          exact later_cells ((Later.alloc _ _).trans (Later.alloc _ _)) (heap_alloc_new wr _)
        have hb11 : Cl w3 (wr.heap.size + 1) 28 (.slice A5 nv v5) (.slice A4 na v4) (.int .i64 es) (.string (mkS fl)) := by
          rw [hw3, ← hB1]
          exact later_cells (Later.alloc _ _) (heap_alloc_new _ _)
        have hb12 : Cl w3 (wr.heap.size + 1 + 1) 31 (.slice A7 nv v7) (.slice A6 na v6) (.int .i64 es) (.string (mkS fl)) := by
          rw [hw3, ← hB1]
          have := heap_alloc_new ((wr.alloc (.cells #[.int .u8 (x.kind.toNat : Int), .string (mkS x.name), .string (mkS x.value), .bool x.on, .int .i64 x.n] 33)).alloc (.cells #[.slice A5 nv v5, .slice A4 na v4, .int .i64 es, .string (mkS fl)] 28)) (.cells #[.slice A7 nv v7, .slice A6 na v6, .int .i64 es, .string (mkS fl)] 31)
          rw [World.size_alloc] at this
          exact this
        have HM3 := Lib.hid (show Mid W g h wr.heap.size w3 #[.int .u8 (x.kind.toNat : Int), .string (mkS x.name), .string (mkS x.value), .bool x.on, .int .i64 x.n] (.slice A5 nv v5) (.slice A4 na v4) (.int .i64 es) (.string (mkS fl)) (.slice A7 nv v7) (.slice A6 na v6) (.int .i64 es) (.string (mkS fl)) (.slice A5 nv v5) (.slice A4 na v4) (.int .i64 es) (.string (mkS fl)) e e from
          ⟨later_cells hl3 HT.out.cg, later_cells hl3 HT.out.ch, HT.out.ag.later hl3, HT.out.ah.later hl3, HT.out.ag.later hl3, hb10, hb11, hb12, HLW.out.trans hl3, HGH.out, by omega⟩)
        have y0 : w3.cell? ⟨wr.heap.size, 0, none⟩ = some (.int .u8 (x.kind.toNat : Int)) := (cell_row hb10 0).1
        obtain ⟨b, hb⟩ : ∃ b, b = wr.heap.size := ⟨_, rfl⟩
        rw [← hb] at HM3 y0 ⊢
        clear hb hw3 hB1 hb10 hb11 hb12 hl3 hgl hhl k0 k1 k2 k3 k4 p0 p1 p2 p3 q0 q1 q2 q3
        go_upto_block 2 with fail
        go_cut [] from 41 to 208 (fun wx => ∃ (C0 C1 C2 C3 D0 D1 D2 D3 : Value), Fin_ W g h b wx C0 C1 C2 C3 D0 D1 D2 D3 (.slice A7 nv v7) (.slice A6 na v6) (.int .i64 es) (.string (mkS fl)) (.slice A5 nv v5) (.slice A4 na v4) (.int .i64 es) (.string (mkS fl)) e (En.step e x))
        case first =>
          as_aux_lemma =>
            have hn1 : e.vars.length ≤ 60 := by have := HS.out.few; omega
            have ha1 := HS.out.two
            by_cases h0 : (x.kind.toNat : Int) = 0
            · have HC1 := Lib.hid (set_v _ e x.name x.value w3 HM3.out.ag.rd HS.out.up (by omega) (by omega) (by have := HXL.out.1; omega))
              have HC2 := Lib.hid (fun w5 (hv : RdP w5 w5.heap.size (.slice A7 nv v7) e.vars) => rset_x (.slice A7 nv v7) e.vars A6 na v6 es (mkS fl) x.name x.value w5 hv (by omega) (by have := HXL.out.1; omega))
              have HST := Lib.hid (step_0 (e := e) h0)
              clear hn1 ha1
              obtain ⟨⟨p0, p1, p2, p3⟩, -⟩ := HM3.out.c
              have y1 := (cell_row HM3.out.k0 1).1
              have y2 := (cell_row HM3.out.k0 2).1
              go_wp2_with fail
              go_at_call 8
              with_reducible refine HC1.out.mono ?_
              rintro y w4 ⟨⟨v, rfl, hf4⟩, hl4⟩
              obtain ⟨A8, v8, A9, v9, rfl⟩ := hf4.rd.shape
              have HM4 := Lib.hid (HM3.out.later hl4)
              obtain ⟨w5, hw5, hm5⟩ := HM4.out.put _ _ _ _ (Ap.of_fre hf4 (lt_of_block HM3.out.cg) (lt_of_block HM3.out.ch))
              have HM5 := Lib.hid hm5
              have HW5 := Lib.hid hw5
              clear hf4 hl4 hm5 hw5 p0 p1 p2 p3 y1 y2
              obtain ⟨⟨p0, p1, p2, p3⟩, -⟩ := HM4.out.c
              have z0 := HM4.out.z.1 0
              have z1 := HM4.out.z.1 1
              have z2 := HM4.out.z.1 2
              have z3 := HM4.out.z.1 3
              go_upto_region 21 with fail
              rw [← HW5.out]
              clear p0 p1 p2 p3 z0 z1 z2 z3
              obtain ⟨-, q0, q1, q2, q3⟩ := HM5.out.c
              have y1 := (cell_row HM5.out.k0 1).1
              have y2 := (cell_row HM5.out.k0 2).1
              go_wp2_with fail
              go_at_call 9
              with_reducible refine (HC2.out w5 (rdp_of HM5.out.ah.rd)).mono ?_
              rintro y w6 ⟨⟨vb, rfl, hvb⟩, hl6⟩
              have hap := HM5.out.told hl6 hvb
              rw [setX_set] at hap
              obtain ⟨A8, v8, rfl, _⟩ := hvb.le
              have HM6 := Lib.hid (HM5.out.later hl6)
              obtain ⟨w7, hw7, hm7⟩ := HM6.out.set _ _ _ _ hap
              have HM7 := Lib.hid hm7
              have HW7 := Lib.hid hw7
              clear hap hl6 hvb hm7 hw7 q0 q1 q2 q3 y1 y2
              obtain ⟨-, q0, q1, q2, q3⟩ := HM6.out.c
              have z0 := HM6.out.z.2 0
              have z1 := HM6.out.z.2 1
              have z2 := HM6.out.z.2 2
              have z3 := HM6.out.z.2 3
              go_wp2_with fail
              rw [← HW7.out]
              go_meet
              rw [HST.out]
              exact ⟨_, _, _, _, _, _, _, _, HM7.out⟩
            by_cases h1 : (x.kind.toNat : Int) = 1
            · have HC1 := Lib.hid (unset_v _ e x.name w3 HM3.out.ag.rd HS.out.up (by omega) (by omega))
              have HC2 := Lib.hid (fun w5 (hv : RdP w5 w5.heap.size (.slice A7 nv v7) e.vars) => runset_x (.slice A7 nv v7) e.vars A6 na v6 es (mkS fl) x.name w5 hv (by omega))
              have HST := Lib.hid (step_1 (e := e) h1)
              clear hn1 ha1
              obtain ⟨⟨p0, p1, p2, p3⟩, -⟩ := HM3.out.c
              have y1 := (cell_row HM3.out.k0 1).1
              go_wp2_with fail
              go_at_call 10
              with_reducible refine HC1.out.mono ?_
              rintro y w4 ⟨⟨v, rfl, hf4⟩, hl4⟩
              obtain ⟨A8, v8, A9, v9, rfl⟩ := hf4.rd.shape
              have HM4 := Lib.hid (HM3.out.later hl4)
              obtain ⟨w5, hw5, hm5⟩ := HM4.out.put _ _ _ _ (Ap.of_fre hf4 (lt_of_block HM3.out.cg) (lt_of_block HM3.out.ch))
              have HM5 := Lib.hid hm5
              have HW5 := Lib.hid hw5
              clear hf4 hl4 hm5 hw5 p0 p1 p2 p3 y1
              obtain ⟨⟨p0, p1, p2, p3⟩, -⟩ := HM4.out.c
              have z0 := HM4.out.z.1 0
              have z1 := HM4.out.z.1 1
              have z2 := HM4.out.z.1 2
              have z3 := HM4.out.z.1 3
              go_upto_region 24 with fail
              rw [← HW5.out]
              clear p0 p1 p2 p3 z0 z1 z2 z3
              obtain ⟨-, q0, q1, q2, q3⟩ := HM5.out.c
              have y1 := (cell_row HM5.out.k0 1).1
              go_wp2_with fail
              go_at_call 11
              with_reducible refine (HC2.out w5 (rdp_of HM5.out.ah.rd)).mono ?_
              rintro y w6 ⟨⟨vb, rfl, hvb⟩, hl6⟩
              have hap := HM5.out.told hl6 hvb
              rw [show ({ e with vars := unset e.vars x.name } : E) = unsetE e x.name from rfl] at hap
              obtain ⟨A8, v8, rfl, _⟩ := hvb.le
              have HM6 := Lib.hid (HM5.out.later hl6)
              obtain ⟨w7, hw7, hm7⟩ := HM6.out.set _ _ _ _ hap
              have HM7 := Lib.hid hm7
              have HW7 := Lib.hid hw7
              clear hap hl6 hvb hm7 hw7 q0 q1 q2 q3 y1
              obtain ⟨-, q0, q1, q2, q3⟩ := HM6.out.c
              have z0 := HM6.out.z.2 0
              have z1 := HM6.out.z.2 1
              have z2 := HM6.out.z.2 2
              have z3 := HM6.out.z.2 3
              go_wp2_with fail
              rw [← HW7.out]
              go_meet
              rw [HST.out]
              exact ⟨_, _, _, _, _, _, _, _, HM7.out⟩
            by_cases h2 : (x.kind.toNat : Int) = 2
            · obtain ⟨qb, hqb⟩ : ∃ qb, qb = UInt8.ofNat (x.n % 256).toNat := ⟨_, rfl⟩
              have hqn : ((qb.toNat : Nat) : Int) = x.n % 256 := by rw [hqb]; exact byte_of x.n
              have hfl9 : fl.length ≤ 9223372036854775807 := by rw [HSH.out.2.2.2]; have := HS.out.fl; omega
              have HC1 := Lib.hid (flag_v _ e qb x.on w3 HM3.out.ag.rd (by omega) (by omega))
              have HC2 := Lib.hid (fun w5 => rflag_x A7 nv v7 A6 na v6 es fl qb x.on w5 hfl9)
              rw [hqn] at HC1 HC2
              have HST := Lib.hid (step_2 (e := e) h2)
              rw [← hqb] at HST
              clear hn1 ha1 hqb hqn hfl9
              obtain ⟨⟨p0, p1, p2, p3⟩, -⟩ := HM3.out.c
              have y3 := (cell_row HM3.out.k0 3).1
              have y4 := (cell_row HM3.out.k0 4).1
              go_wp2_with fail
              go_at_call 12
              with_reducible refine HC1.out.mono ?_
              rintro y w4 ⟨⟨v, rfl, hf4⟩, hl4⟩
              obtain ⟨A8, v8, A9, v9, rfl⟩ := hf4.rd.shape
              have HM4 := Lib.hid (HM3.out.later hl4)
              obtain ⟨w5, hw5, hm5⟩ := HM4.out.put _ _ _ _ (Ap.of_fre hf4 (lt_of_block HM3.out.cg) (lt_of_block HM3.out.ch))
              have HM5 := Lib.hid hm5
              have HW5 := Lib.hid hw5
              clear hf4 hl4 hm5 hw5 p0 p1 p2 p3 y3 y4
              obtain ⟨⟨p0, p1, p2, p3⟩, -⟩ := HM4.out.c
              have z0 := HM4.out.z.1 0
              have z1 := HM4.out.z.1 1
              have z2 := HM4.out.z.1 2
              have z3 := HM4.out.z.1 3
              go_upto_region 28 with fail
              rw [← HW5.out]
              clear p0 p1 p2 p3 z0 z1 z2 z3
              obtain ⟨-, q0, q1, q2, q3⟩ := HM5.out.c
              have y3 := (cell_row HM5.out.k0 3).1
              go_wp2_with fail
              go_at_call 13
              with_reducible refine (HC2.out w5).mono ?_
              rintro y w6 ⟨rfl, hl6⟩
              have hap := (HM5.out.ah.later hl6).flags (flag fl qb x.on)
              have hfle : flag fl qb x.on = flag e.flags qb x.on := by rw [HSH.out.2.2.2]
              rw [show ({ e with flags := flag fl qb x.on } : E) = { e with flags := flag e.flags qb x.on } by rw [hfle]] at hap
              have HM6 := Lib.hid (HM5.out.later hl6)
              obtain ⟨w7, hw7, hm7⟩ := HM6.out.set _ _ _ _ hap
              have HM7 := Lib.hid hm7
              have HW7 := Lib.hid hw7
              clear hap hl6 hm7 hw7 q0 q1 q2 q3 y3 hfle
              obtain ⟨-, q0, q1, q2, q3⟩ := HM6.out.c
              have z0 := HM6.out.z.2 0
              have z1 := HM6.out.z.2 1
              have z2 := HM6.out.z.2 2
              have z3 := HM6.out.z.2 3
              go_wp2_with fail
              rw [← HW7.out]
              go_meet
              rw [HST.out]
              exact ⟨_, _, _, _, _, _, _, _, HM7.out⟩
            by_cases h3 : (x.kind.toNat : Int) = 3
            · have HC1 := Lib.hid (shift_v _ e x.n w3 HM3.out.ag.rd (by omega) (by omega))
              have HST := Lib.hid (step_3 (e := e) h3)
              have HNA := Lib.hid HSH.out.2.1
              clear hn1 ha1
              obtain ⟨⟨p0, p1, p2, p3⟩, -⟩ := HM3.out.c
              have y4 := (cell_row HM3.out.k0 4).1
              go_wp2_with fail
              go_at_call 14
              with_reducible refine HC1.out.mono ?_
              rintro y w4 ⟨⟨v, rfl, hf4⟩, hl4⟩
              obtain ⟨A8, v8, A9, v9, rfl⟩ := hf4.rd.shape
              clear p0 p1 p2 p3 y4
              obtain ⟨es2, hes2⟩ : ∃ es2 : Int, es2 = ((shiftE e x.n).status : Int) := ⟨_, rfl⟩
              obtain ⟨fl2, hfl2⟩ : ∃ fl2, fl2 = (shiftE e x.n).flags := ⟨_, rfl⟩
              obtain ⟨m5, hm5⟩ : ∃ m5, m5 = (shiftE e x.n).vars.length := ⟨_, rfl⟩
              obtain ⟨m4, hm4⟩ : ∃ m4, m4 = (shiftE e x.n).args.length := ⟨_, rfl⟩
              have hap := Ap.of_fre hf4 (lt_of_block HM3.out.cg) (lt_of_block HM3.out.ch)
              rw [← hes2, ← hfl2, ← hm5, ← hm4] at hap ⊢
              clear hes2 hfl2 hm5 hm4
              have hl5 := Later.alloc w4 (.cells #[.slice A8 m5 v8, .slice A9 m4 v9, .int .i64 es2, .string (mkS fl2)] 28)
              have hr5 : Cl (w4.alloc (.cells #[.slice A8 m5 v8, .slice A9 m4 v9, .int .i64 es2, .string (mkS fl2)] 28)) w4.heap.size 28 (.slice A8 m5 v8) (.slice A9 m4 v9) (.int .i64 es2) (.string (mkS fl2)) := heap_alloc_new w4 _
              go_upto_region 31 with fail
              obtain ⟨w5, hw5⟩ : ∃ w5, w5 = w4.alloc (.cells #[.slice A8 m5 v8, .slice A9 m4 v9, .int .i64 es2, .string (mkS fl2)] 28) := ⟨_, rfl⟩
              rw [← hw5] at hl5 hr5 ⊢
              have HM5 := Lib.hid (HM3.out.later (hl4.trans hl5))
              obtain ⟨w6, hw6, hm6⟩ := HM5.out.put _ _ _ _ (hap.later hl5)
              have HM6 := Lib.hid hm6
              have HW6 := Lib.hid hw6
              obtain ⟨r0, r1, r2, r3⟩ := hr5.c
              clear hap hf4 hl4 hl5 hr5 hw5 hm6 hw6
              obtain ⟨⟨p0, p1, p2, p3⟩, -⟩ := HM5.out.c
              have z0 := HM5.out.z.1 0
              have z1 := HM5.out.z.1 1
              have z2 := HM5.out.z.1 2
              have z3 := HM5.out.z.1 3
              go_upto_region 32 with fail
              rw [← HW6.out]
              clear p0 p1 p2 p3 z0 z1 z2 z3 r0 r1 r2 r3
              obtain ⟨-, q0, q1, q2, q3⟩ := HM6.out.c
              have y4 := (cell_row HM6.out.k0 4).1
              by_cases hge : 0 ≤ x.n
              · by_cases hle : x.n ≤ (na : Int)
                · have HSE := Lib.hid (show shiftE e x.n = { e with args := e.args.drop x.n.toNat } by unfold shiftE; rw [← HNA.out]; exact if_pos ⟨hge, hle⟩)
                  have hsb : shiftB e x.n = true := by unfold shiftB; rw [← HNA.out]; exact decide_eq_true ⟨hge, hle⟩
                  rw [hsb]
                  obtain ⟨j, hxn⟩ : ∃ j : Nat, x.n = (j : Int) := ⟨x.n.toNat, by omega⟩
                  have hjn : j ≤ na := by omega
                  obtain ⟨A', hA'⟩ : ∃ A', A' = (if v6 = j then A6 else A6.map (·.add j)) := ⟨_, rfl⟩
                  obtain ⟨n', hn'⟩ : ∃ n', n' = na - j := ⟨_, rfl⟩
                  obtain ⟨c', hc'⟩ : ∃ c', c' = v6 - j := ⟨_, rfl⟩
                  have hsl := fun w => slice_from A6 na v6 j hjn w
                  have hdr := HM6.out.ah.drop j hjn
                  rw [← hA', ← hn', ← hc'] at hsl hdr
                  rw [show ({ e with args := e.args.drop j } : E) = shiftE e x.n by rw [HSE.out, hxn]; rfl] at hdr
                  obtain ⟨w7, hw7, hm7⟩ := HM6.out.set1 _ hdr
                  have HM7 := Lib.hid hm7
                  have HW7 := Lib.hid hw7
                  have hj0 : (0 : Int) ≤ (j : Int) := by omega
                  have hj1 : (j : Int) ≤ (na : Int) := by omega
                  have z1 := HM6.out.z.2 1
                  rw [hxn] at y4 ⊢
                  clear hdr hm7 hw7 hsb hge hle hjn hA' hn' hc' hxn
                  go_wp2_with fail
                  rw [← HW7.out]
                  go_meet
                  rw [HST.out]
                  exact ⟨_, _, _, _, _, _, _, _, HM7.out⟩
                · have HSE := Lib.hid (show shiftE e x.n = e by unfold shiftE; rw [← HNA.out]; exact if_neg (fun h => hle h.2))
                  have hsb : shiftB e x.n = false := by unfold shiftB; rw [← HNA.out]; exact decide_eq_false (fun h => hle h.2)
                  rw [hsb]
                  clear hsb
                  go_wp2_with fail
                  go_meet
                  have hm := HM6.out
                  rw [HST.out, HSE.out]
                  rw [HSE.out] at hm
                  exact ⟨_, _, _, _, _, _, _, _, hm.rest⟩
              · have HSE := Lib.hid (show shiftE e x.n = e by unfold shiftE; rw [← HNA.out]; exact if_neg (fun h => hge h.1))
                have hsb : shiftB e x.n = false := by unfold shiftB; rw [← HNA.out]; exact decide_eq_false (fun h => hge h.1)
                rw [hsb]
                clear hsb
                go_wp2_with fail
                go_meet
                have hm := HM6.out
                rw [HST.out, HSE.out]
                rw [HSE.out] at hm
                exact ⟨_, _, _, _, _, _, _, _, hm.rest⟩
            · have HST := Lib.hid (step_4 (e := e) h0 h1 h2 h3)
              clear hn1 ha1
              have y1 := (cell_row HM3.out.k0 1).1
              have y2 := (cell_row HM3.out.k0 2).1
              go_upto_region 17 with fail
              obtain ⟨w4, hw4⟩ : ∃ w4, w4 = w3.alloc (.cells #[.string (mkS x.name), .string (mkS x.value)] 9) := ⟨_, rfl⟩
              rw [← hw4]
              have hl4 : Later w3 w4 := by rw [hw4]; exact Later.alloc _ _
              have HM4 := Lib.hid (HM3.out.later hl4)
              have htw := two_at (g := g) (h := h) w3 x.name x.value (lt_of_block HM3.out.cg) (lt_of_block HM3.out.ch)
              rw [← hw4] at htw
              have a1 := HM4.out.ag.args (A' := some ⟨w3.heap.size, 0, none⟩) (n' := 2) (c' := 2) (l := [x.name, x.value]) (by omega) (by omega) htw
              have a2 := HM4.out.ah.args (A' := some ⟨w3.heap.size, 0, none⟩) (n' := 2) (c' := 2) (l := [x.name, x.value]) (by omega) (by omega) htw
              obtain ⟨w5, hw5, hm5⟩ := HM4.out.put1 _ a1
              have a3 := a2.grown (.inl rfl) (set_only w4 g 1 (.slice (some ⟨w3.heap.size, 0, none⟩) 2 2))
              rw [← hw5] at a3
              have HM5 := Lib.hid hm5
              have HW5 := Lib.hid hw5
              obtain ⟨w6, hw6, hm6⟩ := HM5.out.set1 _ a3
              have HM6 := Lib.hid hm6
              have HW6 := Lib.hid hw6
              clear hw4 hl4 htw a1 a2 a3 hw5 hm5 hw6 hm6 y1 y2
              obtain ⟨⟨-, p1, -, -⟩, -⟩ := HM4.out.c
              have z1 := HM4.out.z.1 1
              go_upto_region 18 with fail
              rw [← HW5.out]
              clear p1 z1
              obtain ⟨-, -, q1, -, -⟩ := HM5.out.c
              have z1 := HM5.out.z.2 1
              go_wp2_with fail
              rw [← HW6.out]
              go_meet
              rw [HST.out]
              exact ⟨_, _, _, _, _, _, _, _, HM6.out⟩
        case rest =>
          obtain ⟨C0, C1, C2, C3, D0, D1, D2, D3, hfin⟩ := hcut
          obtain ⟨wx, hwx⟩ : ∃ wx, wx = wc := ⟨_, rfl⟩
          rw [← hwx] at hfin ⊢
          obtain ⟨e2, he2⟩ : ∃ e2, e2 = En.step e x := ⟨_, rfl⟩
          rw [← he2] at hfin
          have hs2 := HS.out.step HXL.out
          rw [← he2] at hs2
          have HS2 := Lib.hid hs2
          have HS1 := Lib.hid HS.out.few
          obtain ⟨A8, v8, A9, v9, hsh⟩ := hfin.ag.rd.shape
          simp only [Value.agg.injEq, Array.mk.injEq, List.cons.injEq, and_true] at hsh
          obtain ⟨rfl, rfl, rfl, rfl⟩ := hsh
          obtain ⟨B8, w8, B9, w9, hsh⟩ := hfin.ah.rd.shape
          simp only [Value.agg.injEq, Array.mk.injEq, List.cons.injEq, and_true] at hsh
          obtain ⟨rfl, rfl, rfl, rfl⟩ := hsh
          obtain ⟨m8, hm8⟩ : ∃ m8, m8 = e2.vars.length := ⟨_, rfl⟩
          obtain ⟨m9, hm9⟩ : ∃ m9, m9 = e2.args.length := ⟨_, rfl⟩
          obtain ⟨s8, hs8⟩ : ∃ s8 : Int, s8 = (e2.status : Int) := ⟨_, rfl⟩
          obtain ⟨f8, hf8⟩ : ∃ f8, f8 = e2.flags := ⟨_, rfl⟩
          rw [← hm8, ← hm9, ← hs8, ← hf8] at hfin
          have HF8 := Lib.hid hf8
          have HFN := Lib.hid hfin
          have HOF := Lib.hid (fun w (hl : Later wx w) => of_v _ e2 w (HFN.out.later hl).ag.rd (by have := HS2.out.few; omega))
          have HRS := Lib.hid (fun w v (hl : Later wx w) (hv : RdE w v e2) => rsame_v _ _ e2 e2 w hv (HFN.out.later hl).ah.rd)
          have HOP := Lib.hid (fun w (hl : Later wx w) => of_v _ e w (HFN.out.later hl).og.rd (by have := HS1.out; omega))
          have HRP := Lib.hid (fun w v (hl : Later wx w) (hv : RdE w v e) => rsame_v _ _ e e w hv (HFN.out.later hl).oh.rd)
          clear hfin hm8 hm9 hs8 hf8 hs2 he2 y0 hwx
          go_upto_region 37 with fail
          go_cut [18] from 41 to 208 (fun v w' => v = .bool true ∧ Later wx w')
          case first =>
            as_aux_lemma =>
              have HL := Lib.hid (Later.drew wx)
              obtain ⟨p0, p1, p2, p3⟩ := (HFN.out.later HL.out).cg.c
              obtain ⟨q0, q1, q2, q3⟩ := (HFN.out.later HL.out).ch.c
              go_region_with (first
                | (go_at_call 16; (with_reducible refine (HOF.out _ HL.out).mono ?_); rintro y w8 ⟨⟨v8', rfl, hr8⟩, hl8⟩; (have HR8 := Lib.hid hr8); (have HL := Lib.hid (HL.out.trans hl8)); clear p0 p1 p2 p3 q0 q1 q2 q3 hr8 hl8; obtain ⟨q0, q1, q2, q3⟩ := (HFN.out.later HL.out).ch.c)
                | (go_at_call 15; (with_reducible refine (HRS.out _ _ HL.out HR8.out).mono ?_); rw [eqE_self]; rintro y w9 ⟨rfl, hl9⟩; (have HL := Lib.hid (HL.out.trans hl9)); clear hl9))
              all_goals (go_wp2_with fail; go_meet; exact ⟨rfl, HL.out⟩)
          case rest =>
            obtain ⟨rfl, hlx⟩ := hcut
            have HLX := Lib.hid hlx
            clear hlx
            go_upto_region 38 with fail
            go_cut [19] from 41 to 208 (fun v w' => v = .bool true ∧ Later wx w')
            case first =>
              as_aux_lemma =>
                have HL := Lib.hid (HLX.out.trans (Later.drew _))
                obtain ⟨p0, p1, p2, p3⟩ := (HFN.out.later HL.out).k1.c
                obtain ⟨q0, q1, q2, q3⟩ := (HFN.out.later HL.out).k2.c
                go_region_with (first
                  | (go_at_call 16; (with_reducible refine (HOP.out _ HL.out).mono ?_); rintro y w8 ⟨⟨v8', rfl, hr8⟩, hl8⟩; (have HR8 := Lib.hid hr8); (have HL := Lib.hid (HL.out.trans hl8)); clear p0 p1 p2 p3 q0 q1 q2 q3 hr8 hl8; obtain ⟨q0, q1, q2, q3⟩ := (HFN.out.later HL.out).k2.c)
                  | (go_at_call 15; (with_reducible refine (HRP.out _ _ HL.out HR8.out).mono ?_); rw [eqE_self]; rintro y w9 ⟨rfl, hl9⟩; (have HL := Lib.hid (HL.out.trans hl9)); clear hl9))
                all_goals (go_wp2_with fail; go_meet; exact ⟨rfl, HL.out⟩)
            case rest =>
              obtain ⟨rfl, hlx⟩ := hcut
              have HLX := Lib.hid hlx
              clear hlx
              go_upto_region 39 with fail
              go_cut [163] from 41 to 208 (fun v w' => v = .bool false ∧ Later wx w')
              case first =>
                as_aux_lemma =>
                  rename_i zJ zK zR zM
                  have hii : (ifs e2.vars == ifs e2.vars) = true := by simp
                  refine wp_region_owes (by kernel_rfl) (fun w => Later wx w) (Later) (Later.refl) [Sp.val (.bool true), Sp.val (.bool false), Sp.val (.bool false), Sp.val (.bool true), Sp.val (.bool false), Sp.val (.bool false), Sp.val (.bool false), Sp.val (.agg #[.slice A8 m8 v8, .slice A9 m9 v9, .int .i64 s8, .string (mkS f8)]), Sp.val (.string (mkS (ifs e2.vars))), Sp.val (.agg #[.slice B8 m8 w8, .slice B9 m9 w9, .int .i64 s8, .string (mkS f8)]), Sp.val (.string (mkS (ifs e2.vars))), Sp.val (.bool false), Sp.val (.bool false), Sp.val (.bool false), Sp.val (.agg #[.slice A8 m8 v8, .slice A9 m9 v9, .int .i64 s8, .string (mkS f8)]), Sp.val (.agg #[.slice A5 nv v5, .slice A4 na v4, .int .i64 es, .string (mkS fl)]), Sp.val (.bool (eqE e2 e)), Sp.val (.agg #[.slice B8 m8 w8, .slice B9 m9 w9, .int .i64 s8, .string (mkS f8)]), Sp.val (.agg #[.slice A7 nv v7, .slice A6 na v6, .int .i64 es, .string (mkS fl)]), Sp.val (.bool (eqE e2 e)), Sp.val (.bool false), Sp.val (.bool false)] (by kernel_rfl) (HLX.out.trans (Later.drew _)) ?_ ?_
                  · refine ⟨?_, ?_, ?_, ?_, ?_, ?_, ?_, ?_, ?_, ?_, ?_, ?_, ?_, ?_, ?_, ?_, ?_, ?_, ?_, ?_, ?_, ?_, trivial⟩
                    · -- 0: slot 142 := Op.move t18
                      refine fun a w hC hs => .inl ⟨?_, ?_⟩
                      · rfl
                      have e18 : a.tmps.getD 18 undef = .bool true := hs.free 18 rfl
                      exact ⟨e18, hC, Later.refl _⟩
                    · -- 1: slot 143 := Op.unOp UnOp.not 4 t142
                      refine fun a w hC hs => .inl ⟨?_, ?_⟩
                      · rfl
                      have e142 : a.tmps.getD 142 undef = .bool true := hs.dep 0 _ rfl rfl
                      refine ValWp.pure (v := .bool false) (fun K' hK' => ?_) ⟨rfl, hC, Later.refl _⟩
                      simp only [ValWp, execOp, Act.eval, e142]
                      go_simp
                      all_goals exact hK'
                    · -- 2: slot 144 := Op.move t143
                      refine fun a w hC hs => .inl ⟨?_, ?_⟩
                      · rfl
                      have e143 : a.tmps.getD 143 undef = .bool false := hs.dep 1 _ rfl rfl
                      exact ⟨e143, hC, Later.refl _⟩
                    · -- 3: slot 145 := Op.move t19 guarded (2, 'false')
                      refine fun a w hC hs => .inl ⟨?_, ?_⟩
                      · exact (by unfold Region.wanted; dsimp only; rw [yielded_bool (d := 144) rfl (hs.dep 2 _ rfl rfl)]; rfl)
                      have e19 : a.tmps.getD 19 undef = .bool true := hs.free 19 rfl
                      exact ⟨e19, hC, Later.refl _⟩
                    · -- 4: slot 146 := Op.unOp UnOp.not 4 t145 guarded (2, 'false')
                      refine fun a w hC hs => .inl ⟨?_, ?_⟩
                      · exact (by unfold Region.wanted; dsimp only; rw [yielded_bool (d := 144) rfl (hs.dep 2 _ rfl rfl)]; rfl)
                      have e145 : a.tmps.getD 145 undef = .bool true := hs.dep 3 _ rfl rfl
                      refine ValWp.pure (v := .bool false) (fun K' hK' => ?_) ⟨rfl, hC, Later.refl _⟩
                      simp only [ValWp, execOp, Act.eval, e145]
                      go_simp
                      all_goals exact hK'
                    · -- 5: slot 147 := Op.pick t144 (const (Value.bool true)) t146
                      refine fun a w hC hs => .inl ⟨?_, ?_⟩
                      · rfl
                      have e144 : a.tmps.getD 144 undef = .bool false := hs.dep 2 _ rfl rfl
                      have e146 : a.tmps.getD 146 undef = .bool false := hs.dep 4 _ rfl rfl
                      refine ValWp.pure (v := .bool false) (fun K' hK' => ?_) ⟨rfl, hC, Later.refl _⟩
                      simp only [ValWp, execOp, Act.eval, e144, e146]
                      go_simp
                      all_goals exact hK'
                    · -- 6: slot 148 := Op.move t147
                      refine fun a w hC hs => .inl ⟨?_, ?_⟩
                      · rfl
                      have e147 : a.tmps.getD 147 undef = .bool false := hs.dep 5 _ rfl rfl
                      exact ⟨e147, hC, Later.refl _⟩
                    · -- 7: slot 149 := Op.load 28 t7 guarded (6, 'false')
                      refine fun a w hC hs => .inl ⟨?_, ?_⟩
                      · exact (by unfold Region.wanted; dsimp only; rw [yielded_bool (d := 148) rfl (hs.dep 6 _ rfl rfl)]; rfl)
                      have e7 : a.tmps.getD 7 undef = .pointer (some ⟨g, 0, none⟩) := hs.free 7 rfl
                      exact ValWp.loadR rfl e7 (load_g (HFN.out.later hC).cg) ⟨rfl, hC, Later.refl _⟩
                    · -- 8: slot 150 := Op.call { value (Operand.func 17), args := #[t149], argTypes := #[28] } guarded (6, 'false')
                      refine fun a w hC hs => .inl ⟨?_, ?_⟩
                      · exact (by unfold Region.wanted; dsimp only; rw [yielded_bool (d := 148) rfl (hs.dep 6 _ rfl rfl)]; rfl)
                      have e149 : a.tmps.getD 149 undef = .agg #[.slice A8 m8 v8, .slice A9 m9 v9, .int .i64 s8, .string (mkS f8)] := hs.dep 7 _ rfl rfl
                      refine ValWp.call #[.agg #[.slice A8 m8 v8, .slice A9 m9 v9, .int .i64 s8, .string (mkS f8)]] rfl rfl Tryd.func17 rfl rfl (by simp only [List.map_toArray, List.map_cons, List.map_nil, Act.eval, e149]) ?_
                      refine (ifs_v _ e2 w (HFN.out.later hC).ag.rd).mono ?_
                      rintro y w' ⟨rfl, hb⟩
                      exact ⟨_, rfl, rfl, Later.trans hC hb, hb⟩
                    · -- 9: slot 151 := Op.load 31 t8 guarded (6, 'false')
                      refine fun a w hC hs => .inl ⟨?_, ?_⟩
                      · exact (by unfold Region.wanted; dsimp only; rw [yielded_bool (d := 148) rfl (hs.dep 6 _ rfl rfl)]; rfl)
                      have e8 : a.tmps.getD 8 undef = .pointer (some ⟨h, 0, none⟩) := hs.free 8 rfl
                      exact ValWp.loadR rfl e8 (load_h (HFN.out.later hC).ch) ⟨rfl, hC, Later.refl _⟩
                    · -- 10: slot 152 := Op.call { value (Operand.func 18), args := #[t151], argTypes := #[31] } guarded (6, 'false')
                      refine fun a w hC hs => .inl ⟨?_, ?_⟩
                      · exact (by unfold Region.wanted; dsimp only; rw [yielded_bool (d := 148) rfl (hs.dep 6 _ rfl rfl)]; rfl)
                      have e151 : a.tmps.getD 151 undef = .agg #[.slice B8 m8 w8, .slice B9 m9 w9, .int .i64 s8, .string (mkS f8)] := hs.dep 9 _ rfl rfl
                      refine ValWp.call #[.agg #[.slice B8 m8 w8, .slice B9 m9 w9, .int .i64 s8, .string (mkS f8)]] rfl rfl Tryd.func18 rfl rfl (by simp only [List.map_toArray, List.map_cons, List.map_nil, Act.eval, e151]) ?_
                      refine (rifs_v _ e2 w (HFN.out.later hC).ah.rd).mono ?_
                      rintro y w' ⟨rfl, hb⟩
                      exact ⟨_, rfl, rfl, Later.trans hC hb, hb⟩
                    · -- 11: slot 153 := Op.binOp BinOp.neq 9 t150 t152 9 guarded (6, 'false')
                      refine fun a w hC hs => .inl ⟨?_, ?_⟩
                      · exact (by unfold Region.wanted; dsimp only; rw [yielded_bool (d := 148) rfl (hs.dep 6 _ rfl rfl)]; rfl)
                      have e150 : a.tmps.getD 150 undef = .string (mkS (ifs e2.vars)) := hs.dep 8 _ rfl rfl
                      have e152 : a.tmps.getD 152 undef = .string (mkS (ifs e2.vars)) := hs.dep 10 _ rfl rfl
                      refine ValWp.pure (v := .bool false) (fun K' hK' => ?_) ⟨rfl, hC, Later.refl _⟩
                      simp only [ValWp, execOp, Act.eval, e150, e152]
                      go_simp
                      all_goals exact hK'
                    · -- 12: slot 154 := Op.pick t148 (const (Value.bool true)) t153
                      refine fun a w hC hs => .inl ⟨?_, ?_⟩
                      · rfl
                      have e148 : a.tmps.getD 148 undef = .bool false := hs.dep 6 _ rfl rfl
                      have e153 : a.tmps.getD 153 undef = .bool false := hs.dep 11 _ rfl rfl
                      refine ValWp.pure (v := .bool false) (fun K' hK' => ?_) ⟨rfl, hC, Later.refl _⟩
                      simp only [ValWp, execOp, Act.eval, e148, e153]
                      go_simp
                      all_goals exact hK'
                    · -- 13: slot 155 := Op.move t154
                      refine fun a w hC hs => .inl ⟨?_, ?_⟩
                      · rfl
                      have e154 : a.tmps.getD 154 undef = .bool false := hs.dep 12 _ rfl rfl
                      exact ⟨e154, hC, Later.refl _⟩
                    · -- 14: slot 156 := Op.load 28 t7 guarded (13, 'false')
                      refine fun a w hC hs => .inl ⟨?_, ?_⟩
                      · exact (by unfold Region.wanted; dsimp only; rw [yielded_bool (d := 155) rfl (hs.dep 13 _ rfl rfl)]; rfl)
                      have e7 : a.tmps.getD 7 undef = .pointer (some ⟨g, 0, none⟩) := hs.free 7 rfl
                      exact ValWp.loadR rfl e7 (load_g (HFN.out.later hC).cg) ⟨rfl, hC, Later.refl _⟩
                    · -- 15: slot 157 := Op.load 28 t11 guarded (13, 'false')
                      refine fun a w hC hs => .inl ⟨?_, ?_⟩
                      · exact (by unfold Region.wanted; dsimp only; rw [yielded_bool (d := 155) rfl (hs.dep 13 _ rfl rfl)]; rfl)
                      have e11 : a.tmps.getD 11 undef = .pointer (some ⟨b + 1, 0, none⟩) := hs.free 11 rfl
                      exact ValWp.loadR rfl e11 (load_g (HFN.out.later hC).k1) ⟨rfl, hC, Later.refl _⟩
                    · -- 16: slot 158 := Op.call { value (Operand.func 19), args := #[t156, t157], argTypes := #[28, 28] } guarded (13, 'false')
                      refine fun a w hC hs => .inl ⟨?_, ?_⟩
                      · exact (by unfold Region.wanted; dsimp only; rw [yielded_bool (d := 155) rfl (hs.dep 13 _ rfl rfl)]; rfl)
                      have e156 : a.tmps.getD 156 undef = .agg #[.slice A8 m8 v8, .slice A9 m9 v9, .int .i64 s8, .string (mkS f8)] := hs.dep 14 _ rfl rfl
                      have e157 : a.tmps.getD 157 undef = .agg #[.slice A5 nv v5, .slice A4 na v4, .int .i64 es, .string (mkS fl)] := hs.dep 15 _ rfl rfl
                      refine ValWp.call #[.agg #[.slice A8 m8 v8, .slice A9 m9 v9, .int .i64 s8, .string (mkS f8)], .agg #[.slice A5 nv v5, .slice A4 na v4, .int .i64 es, .string (mkS fl)]] rfl rfl Tryd.func19 rfl rfl (by simp only [List.map_toArray, List.map_cons, List.map_nil, Act.eval, e156, e157]) ?_
                      refine (same_v _ _ e2 e w (HFN.out.later hC).ag.rd (HFN.out.later hC).og.rd).mono ?_
                      rintro y w' ⟨rfl, hb⟩
                      exact ⟨_, rfl, rfl, Later.trans hC hb, hb⟩
                    · -- 17: slot 159 := Op.load 31 t8 guarded (13, 'false')
                      refine fun a w hC hs => .inl ⟨?_, ?_⟩
                      · exact (by unfold Region.wanted; dsimp only; rw [yielded_bool (d := 155) rfl (hs.dep 13 _ rfl rfl)]; rfl)
                      have e8 : a.tmps.getD 8 undef = .pointer (some ⟨h, 0, none⟩) := hs.free 8 rfl
                      exact ValWp.loadR rfl e8 (load_h (HFN.out.later hC).ch) ⟨rfl, hC, Later.refl _⟩
                    · -- 18: slot 160 := Op.load 31 t12 guarded (13, 'false')
                      refine fun a w hC hs => .inl ⟨?_, ?_⟩
                      · exact (by unfold Region.wanted; dsimp only; rw [yielded_bool (d := 155) rfl (hs.dep 13 _ rfl rfl)]; rfl)
                      have e12 : a.tmps.getD 12 undef = .pointer (some ⟨b + 1 + 1, 0, none⟩) := hs.free 12 rfl
                      exact ValWp.loadR rfl e12 (load_h (HFN.out.later hC).k2) ⟨rfl, hC, Later.refl _⟩
                    · -- 19: slot 161 := Op.call { value (Operand.func 15), args := #[t159, t160], argTypes := #[31, 31] } guarded (13, 'false')
                      refine fun a w hC hs => .inl ⟨?_, ?_⟩
                      · exact (by unfold Region.wanted; dsimp only; rw [yielded_bool (d := 155) rfl (hs.dep 13 _ rfl rfl)]; rfl)
                      have e159 : a.tmps.getD 159 undef = .agg #[.slice B8 m8 w8, .slice B9 m9 w9, .int .i64 s8, .string (mkS f8)] := hs.dep 17 _ rfl rfl
                      have e160 : a.tmps.getD 160 undef = .agg #[.slice A7 nv v7, .slice A6 na v6, .int .i64 es, .string (mkS fl)] := hs.dep 18 _ rfl rfl
                      refine ValWp.call #[.agg #[.slice B8 m8 w8, .slice B9 m9 w9, .int .i64 s8, .string (mkS f8)], .agg #[.slice A7 nv v7, .slice A6 na v6, .int .i64 es, .string (mkS fl)]] rfl rfl Tryd.func15 rfl rfl (by simp only [List.map_toArray, List.map_cons, List.map_nil, Act.eval, e159, e160]) ?_
                      refine (rsame_v _ _ e2 e w (HFN.out.later hC).ah.rd (HFN.out.later hC).oh.rd).mono ?_
                      rintro y w' ⟨rfl, hb⟩
                      exact ⟨_, rfl, rfl, Later.trans hC hb, hb⟩
                    · -- 20: slot 162 := Op.binOp BinOp.neq 4 t158 t161 4 guarded (13, 'false')
                      refine fun a w hC hs => .inl ⟨?_, ?_⟩
                      · exact (by unfold Region.wanted; dsimp only; rw [yielded_bool (d := 155) rfl (hs.dep 13 _ rfl rfl)]; rfl)
                      have e158 : a.tmps.getD 158 undef = .bool (eqE e2 e) := hs.dep 16 _ rfl rfl
                      have e161 : a.tmps.getD 161 undef = .bool (eqE e2 e) := hs.dep 19 _ rfl rfl
                      refine ValWp.pure (v := .bool false) (fun K' hK' => ?_) ⟨rfl, hC, Later.refl _⟩
                      simp only [ValWp, execOp, Act.eval, e158, e161]
                      go_simp
                      all_goals exact hK'
                    · -- 21: slot 163 := Op.pick t155 (const (Value.bool true)) t162
                      refine fun a w hC hs => .inl ⟨?_, ?_⟩
                      · rfl
                      have e155 : a.tmps.getD 155 undef = .bool false := hs.dep 13 _ rfl rfl
                      have e162 : a.tmps.getD 162 undef = .bool false := hs.dep 20 _ rfl rfl
                      refine ValWp.pure (v := .bool false) (fun K' hK' => ?_) ⟨rfl, hC, Later.refl _⟩
                      simp only [ValWp, execOp, Act.eval, e155, e162]
                      go_simp
                      all_goals exact hK'
                  · intro a w hC hd hsz hfree hs
                    refine zM _ _ (Met.intro (zR _ _ ?_))
                    (repeat apply Exists.intro)
                    refine ⟨?rel, act_lit hd (by exact hsz) ⟨hfree 0 rfl, hfree 1 rfl, hfree 2 rfl, hfree 3 rfl, hfree 4 rfl, hfree 5 rfl, hfree 6 rfl, hfree 7 rfl, hfree 8 rfl, hfree 9 rfl, hfree 10 rfl, hfree 11 rfl, hfree 12 rfl, hfree 13 rfl, hfree 14 rfl, hfree 15 rfl, hfree 16 rfl, hfree 17 rfl, hfree 18 rfl, hfree 19 rfl, hfree 20 rfl, hfree 21 rfl, hfree 22 rfl, hfree 23 rfl, hfree 24 rfl, hfree 25 rfl, hfree 26 rfl, hfree 27 rfl, hfree 28 rfl, hfree 29 rfl, hfree 30 rfl, hfree 31 rfl, hfree 32 rfl, hfree 33 rfl, hfree 34 rfl, hfree 35 rfl, hfree 36 rfl, hfree 37 rfl, hfree 38 rfl, hfree 39 rfl, hfree 40 rfl, hfree 41 rfl, hfree 42 rfl, hfree 43 rfl, hfree 44 rfl, hfree 45 rfl, hfree 46 rfl, hfree 47 rfl, hfree 48 rfl, hfree 49 rfl, hfree 50 rfl, hfree 51 rfl, hfree 52 rfl, hfree 53 rfl, hfree 54 rfl, hfree 55 rfl, hfree 56 rfl, hfree 57 rfl, hfree 58 rfl, hfree 59 rfl, hfree 60 rfl, hfree 61 rfl, hfree 62 rfl, hfree 63 rfl, hfree 64 rfl, hfree 65 rfl, hfree 66 rfl, hfree 67 rfl, hfree 68 rfl, hfree 69 rfl, hfree 70 rfl, hfree 71 rfl, hfree 72 rfl, hfree 73 rfl, hfree 74 rfl, hfree 75 rfl, hfree 76 rfl, hfree 77 rfl, hfree 78 rfl, hfree 79 rfl, hfree 80 rfl, hfree 81 rfl, hfree 82 rfl, hfree 83 rfl, hfree 84 rfl, hfree 85 rfl, hfree 86 rfl, hfree 87 rfl, hfree 88 rfl, hfree 89 rfl, hfree 90 rfl, hfree 91 rfl, hfree 92 rfl, hfree 93 rfl, hfree 94 rfl, hfree 95 rfl, hfree 96 rfl, hfree 97 rfl, hfree 98 rfl, hfree 99 rfl, hfree 100 rfl, hfree 101 rfl, hfree 102 rfl, hfree 103 rfl, hfree 104 rfl, hfree 105 rfl, hfree 106 rfl, hfree 107 rfl, hfree 108 rfl, hfree 109 rfl, hfree 110 rfl, hfree 111 rfl, hfree 112 rfl, hfree 113 rfl, hfree 114 rfl, hfree 115 rfl, hfree 116 rfl, hfree 117 rfl, hfree 118 rfl, hfree 119 rfl, hfree 120 rfl, hfree 121 rfl, hfree 122 rfl, hfree 123 rfl, hfree 124 rfl, hfree 125 rfl, hfree 126 rfl, hfree 127 rfl, hfree 128 rfl, hfree 129 rfl, hfree 130 rfl, hfree 131 rfl, hfree 132 rfl, hfree 133 rfl, hfree 134 rfl, hfree 135 rfl, hfree 136 rfl, hfree 137 rfl, hfree 138 rfl, hfree 139 rfl, hfree 140 rfl, hfree 141 rfl, rfl, rfl, rfl, rfl, rfl, rfl, rfl, rfl, rfl, rfl, rfl, rfl, rfl, rfl, rfl, rfl, rfl, rfl, rfl, rfl, rfl, (show a.tmps.getD 163 undef = Value.bool false from hs 21 _ rfl), hfree 164 rfl, hfree 165 rfl, hfree 166 rfl, hfree 167 rfl, hfree 168 rfl, hfree 169 rfl, hfree 170 rfl, hfree 171 rfl, hfree 172 rfl, hfree 173 rfl, hfree 174 rfl, hfree 175 rfl, hfree 176 rfl, hfree 177 rfl, hfree 178 rfl, hfree 179 rfl, hfree 180 rfl, hfree 181 rfl, hfree 182 rfl, hfree 183 rfl, hfree 184 rfl, hfree 185 rfl, hfree 186 rfl, hfree 187 rfl, hfree 188 rfl, hfree 189 rfl, hfree 190 rfl, hfree 191 rfl, hfree 192 rfl, hfree 193 rfl, hfree 194 rfl, hfree 195 rfl, hfree 196 rfl, hfree 197 rfl, hfree 198 rfl, hfree 199 rfl, hfree 200 rfl, hfree 201 rfl, hfree 202 rfl, hfree 203 rfl, hfree 204 rfl, hfree 205 rfl, hfree 206 rfl, hfree 207 rfl, hfree 208 rfl, trivial⟩⟩
                    exact ⟨rfl, hC⟩
              case rest =>
                obtain ⟨rfl, hlx⟩ := hcut
                have HLX := Lib.hid hlx
                clear hlx
                go_wp2_with fail
                go_loopw [20] (fun s20 wr => ∃ k : Nat, s20 = .int .i64 (k : Int) ∧ k ≤ m ∧ Later wx wr) (fun k _ => m - (intOf k).toNat)
                case atStart => exact ⟨0, rfl, Nat.zero_le _, HLX.out⟩
                case round =>
                  obtain ⟨k, rfl, hk, hlk⟩ := hrel
                  have HLK := Lib.hid hlk
                  have hk0 : (0 : Int) ≤ (k : Int) := by omega
                  clear hlk
                  by_cases hkm : k < m
                  · have hk1 : (k : Int) < (m : Int) := by omega
                    obtain ⟨aq, hil2, rfl, hgb, hcc⟩ := HQ.out.at_map (k := k) hkm
                    obtain ⟨s, hs⟩ : ∃ s, s = ask[k] := ⟨_, rfl⟩
                    have hsl : s.length ≤ 1048576 := HX.out s (by rw [hs]; exact List.getElem_mem hil2)
                    rw [← hs] at hcc
                    have HSC := Lib.hid (show ∀ w, Later wx w → w.cell? (aq.add k) = some (.string (mkS s)) from fun w hl => ((HFN.out.lo.trans hl).cell (p := aq.add k) (by rw [block_add]; exact hgb)).trans hcc)
                    obtain ⟨t, bb, hget, hge⟩ := getOk HS2.out.small (s := s) (by omega)
                    have HGE := Lib.hid (fun w (hl : Later wx w) => hget w _ (HFN.out.later hl).ag.rd (HD.out.later (HFN.out.lo.trans hl)))
                    have HRG := Lib.hid (show ∀ w, Later wx w → Calls Tryd.prog 21 #[.agg #[.slice B8 m8 w8, .slice B9 m9 w9, .int .i64 s8, .string (mkS f8)], .string (mkS s)] w fun x w' => x = .returned (.tuple #[.string (mkS t), .bool bb]) ∧ Later w w' from fun w hl => by
                      have := rget_v _ e2 s w (HFN.out.later hl).ah.rd (by omega) (by have := HS2.out.two; omega) (fun x hx => by have := HS2.out.each x hx; omega) (by rw [HS2.out.zero]; decide) (by have := HS2.out.vle.ifs; omega)
                      rw [hge] at this
                      exact this)
                    have htt : (t == t) = true := by simp
                    clear hgb hs hcc hget hge hsl hil2
                    go_upto_region 44 with fail
                    go_cut [21, 22] from 164 to 195 (fun v b' w' => v = .string (mkS t) ∧ b' = .bool bb ∧ Later wx w')
                    case first =>
                      as_aux_lemma =>
                        have HL := Lib.hid (HLK.out.trans (Later.drew _))
                        obtain ⟨p0, p1, p2, p3⟩ := (HFN.out.later HL.out).cg.c
                        have pc := HSC.out _ HL.out
                        go_region_with (go_at_call 20; (with_reducible refine (HGE.out _ HL.out).mono ?_); rintro y w9 ⟨rfl, hl9⟩; (have HL := Lib.hid (HL.out.trans hl9)); clear hl9)
                        all_goals (go_wp2_with fail; go_meet; exact ⟨rfl, rfl, HL.out⟩)
                    case rest =>
                      obtain ⟨rfl, rfl, hlx⟩ := hcut
                      have HLG := Lib.hid hlx
                      clear hlx
                      go_upto_region 45 with fail
                      go_cut [23, 24] from 164 to 195 (fun v b' w' => v = .string (mkS t) ∧ b' = .bool bb ∧ Later wx w')
                      case first =>
                        as_aux_lemma =>
                          have HL := Lib.hid (HLG.out.trans (Later.drew _))
                          obtain ⟨p0, p1, p2, p3⟩ := (HFN.out.later HL.out).ch.c
                          have pc := HSC.out _ HL.out
                          go_region_with (go_at_call 21; (with_reducible refine (HRG.out _ HL.out).mono ?_); rintro y w9 ⟨rfl, hl9⟩; (have HL := Lib.hid (HL.out.trans hl9)); clear hl9)
                          all_goals (go_wp2_with fail; go_meet; exact ⟨rfl, rfl, HL.out⟩)
                      case rest =>
                        obtain ⟨rfl, rfl, hlx⟩ := hcut
                        have HLR := Lib.hid hlx
                        clear hlx
                        cases bb <;> (
                          go_wp2_with fail
                          exact ⟨⟨k + 1, congrArg (Value.int .i64) (by omega), by omega, HLR.out⟩, by simp only [intOf]; omega⟩)
                  · have hk1 : ¬ (k : Int) < (m : Int) := by omega
                    clear hkm
                    go_wp2_with fail
                    go_loopw [25] (fun s25 wr => ∃ k : Nat, s25 = .int .i64 (k : Int) ∧ k ≤ 6 ∧ Later wx wr) (fun k _ => 6 - (intOf k).toNat)
                    case atStart => exact ⟨0, rfl, Nat.zero_le _, HLK.out⟩
                    case round =>
                      obtain ⟨j, rfl, hj, hlj⟩ := hrel
                      have HLJ := Lib.hid hlj
                      have hj0 : (0 : Int) ≤ (j : Int) := by omega
                      clear hlj
                      by_cases hj6 : j < 6
                      · have hj1 : (j : Int) < 6 := by omega
                        have hi2 : j < (⟨#[101, 102, 117, 120, 63, 97]⟩ : ByteArray).size := hj6
                        have hi3 : (j : Int) < ((⟨#[101, 102, 117, 120, 63, 97]⟩ : ByteArray).size : Int) := by have : (⟨#[101, 102, 117, 120, 63, 97]⟩ : ByteArray).size = 6 := rfl; omega
                        obtain ⟨ch, hch⟩ : ∃ ch, ch = (⟨#[101, 102, 117, 120, 63, 97]⟩ : ByteArray)[j] := ⟨_, rfl⟩
                        have hxt : (⟨#[101, 102, 117, 120, 63, 97]⟩ : ByteArray)[j] = ch := hch.symm
                        obtain ⟨hb, hhb⟩ : ∃ hb, hb = f8.contains ch := ⟨_, rfl⟩
                        have HHA := Lib.hid (show ∀ w, Later wx w → Calls Tryd.prog 22 #[.agg #[.slice A8 m8 v8, .slice A9 m9 v9, .int .i64 s8, .string (mkS f8)], .int .u8 (ch.toNat : Int)] w fun x w' => x = .returned (.bool hb) ∧ Later w w' from fun w hl => by
                          have := has_v _ e2 ch w (HFN.out.later hl).ag.rd
                          rw [← HF8.out, ← hhb] at this
                          exact this)
                        have HRH := Lib.hid (show ∀ w, Later wx w → Calls Tryd.prog 23 #[.agg #[.slice B8 m8 w8, .slice B9 m9 w9, .int .i64 s8, .string (mkS f8)], .int .u8 (ch.toNat : Int)] w fun x w' => x = .returned (.bool hb) ∧ Later w w' from fun w hl => by
                          have := rhas_x (.slice B8 m8 w8) B9 m9 w9 s8 f8 ch w (by rw [HF8.out]; have := HS2.out.fl; omega)
                          rw [← hhb] at this
                          exact this)
                        have hbb : (hb != hb) = false := by cases hb <;> rfl
                        clear hch hhb hj6
                        go_upto_region 52 with fail
                        go_cut [208] from 196 to 208 (fun v w' => v = .bool false ∧ Later wx w')
                        case first =>
                          as_aux_lemma =>
                            have HL := Lib.hid (HLJ.out.trans (Later.drew _))
                            obtain ⟨p0, p1, p2, p3⟩ := (HFN.out.later HL.out).cg.c
                            obtain ⟨q0, q1, q2, q3⟩ := (HFN.out.later HL.out).ch.c
                            go_region_with (first
                              | (go_at_call 22; (with_reducible refine (HHA.out _ HL.out).mono ?_); rintro y w9 ⟨rfl, hl9⟩; (have HL := Lib.hid (HL.out.trans hl9)); clear p0 p1 p2 p3 q0 q1 q2 q3 hl9; obtain ⟨q0, q1, q2, q3⟩ := (HFN.out.later HL.out).ch.c)
                              | (go_at_call 23; (with_reducible refine (HRH.out _ HL.out).mono ?_); rintro y w9 ⟨rfl, hl9⟩; (have HL := Lib.hid (HL.out.trans hl9)); clear hl9))
                            all_goals (go_wp2_with fail; go_meet; exact ⟨rfl, HL.out⟩)
                        case rest =>
                          obtain ⟨rfl, hlx⟩ := hcut
                          have HLS := Lib.hid hlx
                          clear hlx
                          go_wp2_with fail
                          exact ⟨⟨j + 1, congrArg (Value.int .i64) (by omega), by omega, HLS.out⟩, by simp only [intOf]; omega⟩
                      · have hj1 : ¬ (j : Int) < 6 := by omega
                        clear hj6
                        go_wp2_with fail
                        have hfn := HFN.out.later HLJ.out
                        exact ⟨⟨i + 1, _, _, _, _, _, _, _, _, e2, congrArg (Value.int .i64) (by omega), by omega, ⟨hfn.cg, hfn.ch, hfn.ag, hfn.ah⟩, HS2.out, hfn.lo⟩, by simp only [intOf]; omega⟩
      · have hi1 : ¬ (i : Int) < (n : Int) := by omega
        go_wp2
        go_ret
        exact ⟨rfl, HLW.out⟩
end envPlays
end Go.Proofs.YtmijploffdoenaaDoor
