/- slices.DeleteFunc of one number; Without. No premises. -/
import Derived.Test.YtjijbgogdaafdaaDoorQg
namespace Go.Proofs.YtjijbgogdaafdaaDoor
open Go.RowKit Go.Maps
namespace Fd
set_option maxRecDepth 100000
theorem later_cell {w w' : World} {p : Addr} {v : Value} (hl : Later w w') (h : w.cell? p = some v) : w'.cell? p = some v := cell_keeps hl h
theorem grown_cell {w w' : World} {g : Nat} {p : Addr} {v : Value} (h : w.cell? p = some v) (hg : w.grownBy w' (some g)) (hne : p.block ≠ g) : w'.cell? p = some v := by
  have hlt := World.block_lt_of_cell? w _ h
  rw [← h]
  unfold World.cell?
  rw [hg.block _ hlt (fun e => hne (by injection e))]
theorem del_clear {w : World} {g : Nat} {l : Ps} {z : List Value} (hp : PB w g l z) {i : Nat} (hi : i < l.length) (ty : TypeId) (c : Nat) :
    ∃ w' z', (Builtin.clear_ #[26] ty #[.slice (some ⟨g, i * 2, none⟩) (l.length - i) c]).run Tryd.prog w = .ok (.tuple #[]) w' ∧ PB w' g (l.take i) z' ∧ w.grownBy w' (some g) := by
  have hl := prs_len l
  obtain ⟨cur, h1, h2, h3⟩ := run_clear_row (P := Tryd.prog) w 26 ty 44 _ Tryd.underlying26 Tryd.zeroValue44 g (i * 2) (l.length - i) c _ _ hp (by omega) (by show i * 2 + (l.length - i) * 2 ≤ (prs l ++ z).length; rw [List.length_append, prs_len]; omega) (by rw [zero_pairs]; exact prs_one_cell _)
  refine ⟨_, cur.toList.drop (i * 2), h3, ?_, setRow_grown _ _ _⟩
  unfold PB PrB
  rw [setRow_heap _ _ _ _ _ _ hp]
  have h4 : cur.toList = prs (l.take i) ++ cur.toList.drop (i * 2) := by
    have h5 : (prs l ++ z).take (i * 2) = prs (l.take i) := by rw [List.take_append_of_le_length (by omega), prs_take_eq (by omega)]
    have h6 : cur.toList.take (i * 2) = prs (l.take i) := h2.trans h5
    rw [← h6, List.take_append_drop]
  rw [← h4]
/-- What is held at a round: the first i are those of the first j that stay. -/
structure Dl (base g bx n : Nat) (z : List Value) (x : Int) (l : Ps) (W wr : World) (i j : Nat) (l' : Ps) : Prop where
  len : l'.length = n
  tk : l'.take i = wo (l.take j) x
  dr : l'.drop j = l.drop j
  pb : PB wr g l' z
  low : Below base W wr
  bx : wr.cell? ⟨bx, 0, none⟩ = some (.int .i64 x)
theorem Dl.at_ {base g bx n : Nat} {z : List Value} {x : Int} {l : Ps} {W wr : World} {i j : Nat} {l' : Ps} (h : Dl base g bx n z x l W wr i j l') (hj : j < l.length) (hj' : j < l'.length) : l'[j] = l[j] := by
  have h1 : (l'.drop j)[0]? = (l.drop j)[0]? := by rw [h.dr]
  rw [List.getElem?_drop, List.getElem?_drop, Nat.add_zero, List.getElem?_eq_getElem hj, List.getElem?_eq_getElem hj'] at h1
  exact Option.some.inj h1
set_option maxHeartbeats 12800000 in
theorem delete_v (base g c : Nat) (l : Ps) (z : List Value) (x : Int) (bx : Nat) (W : World) (hp : PB W g l z) (hbg : base ≤ g) (hbs : base ≤ W.heap.size) (hne : bx ≠ g) (hb : W.cell? ⟨bx, 0, none⟩ = some (.int .i64 x)) (hn : l.length ≤ 1000000) (hc : l.length ≤ c) : Calls Tryd.prog 17 #[.slice (some ⟨g, 0, none⟩) l.length c, .func (.func 19) #[] #[.pointer (some ⟨bx, 0, none⟩)]] W fun e W' => (∃ z', e = .returned (.slice (some ⟨g, 0, none⟩) (wo l x).length c) ∧ PB W' g (wo l x) z') ∧ Below base W W' := by
  have HIX := Lib.hid (index_v g c l z x bx W hp hb hn)
  obtain ⟨n, hnn⟩ : ∃ n, n = l.length := ⟨_, rfl⟩
  have HN := Lib.hid hnn
  have HP := Lib.hid (And.intro hp hb)
  have HB := Lib.hid (And.intro hbg (And.intro hbs hne))
  rw [← hnn] at HIX hn hc ⊢
  clear hnn hp hb hbg hbs hne
  go_enter Tryd.func17, Tryd.ntmps17
  go_wp2_with fail
  go_at_call 25
  with_reducible refine HIX.out.mono ?_
  rintro e w1 ⟨hix, hl1⟩
  have HL1 := Lib.hid hl1
  clear hl1
  rcases hix with ⟨rfl, hno⟩ | ⟨i0, rfl, hi0, hix, hno⟩
  · have HNO := Lib.hid (show wo l x = l by
      unfold wo
      rw [List.filter_eq_self]
      intro p hp
      simp [hno p hp])
    clear hno
    go_wp2
    go_ret
    rw [HNO.out, ← HN.out]
    exact ⟨⟨z, rfl, HP.out.1.later HL1.out⟩, HL1.out.mono HB.out.2.1⟩
  · have HST := Lib.hid (show Dl base g bx n z x l W w1 i0 (i0 + 1) l from ⟨HN.out.symm, by
      rw [List.take_succ_eq_append_getElem hi0, wo_step, if_pos hix, List.append_nil]
      unfold wo
      exact (List.filter_eq_self.2 fun p hp => by simp [hno p hp]).symm, rfl, HP.out.1.later HL1.out, HL1.out.mono HB.out.2.1, (HL1.out.cell (World.block_lt_of_cell? W _ HP.out.2)).trans HP.out.2⟩)
    have hi0n : i0 < n := by rw [HN.out]; exact hi0
    have hm1 : ((i0 : Int) == -1) = false := by rw [beq_eq_false_iff_ne]; omega
    clear hi0 hix hno
    go_wp2_with fail
    go_loopw [5, 6] (fun s5 s6 wr => ∃ (i j : Nat) (l' : Ps), s5 = .int .i64 (i : Int) ∧ s6 = .int .i64 (j : Int) ∧ i < j ∧ j ≤ n ∧ Hid (Dl base g bx n z x l W wr i j l')) (fun _ j _ => n - (intOf j).toNat)
    case atStart => exact ⟨i0, i0 + 1, l, rfl, congrArg (Value.int .i64) (by omega), by omega, by omega, HST⟩
    case round =>
      obtain ⟨i, j, l', rfl, rfl, hij, hj, HD⟩ := hrel
      have hi0 : (0 : Int) ≤ (i : Int) := by omega
      have hj0 : (0 : Int) ≤ (j : Int) := by omega
      have hil' : i < l'.length := by rw [HD.out.len]; omega
      by_cases hlt : j < n
      · have hlt1 : (j : Int) < (n : Int) := by omega
        have hin1 : (i : Int) < (n : Int) := by omega
        have hjl : j < l.length := by rw [← HN.out]; exact hlt
        have hjl' : j < l'.length := by rw [HD.out.len]; exact hlt
        obtain ⟨p, hpx⟩ : ∃ p, p = l[j] := ⟨_, rfl⟩
        obtain ⟨p1, p2⟩ := HD.out.pb.cells j hjl'
        rw [HD.out.at_ hjl hjl', ← hpx] at p1 p2
        have HLD := Lib.hid (load_pair 44 _ Tryd.underlying44 (by kernel_rfl) p1 p2)
        have HST2 := Lib.hid (show wo (l.take (j + 1)) x = wo (l.take j) x ++ (if p.1 = x then [] else [p]) by rw [List.take_succ_eq_append_getElem hjl, wo_step, ← hpx])
        have HGS := Lib.hid (lt_of_block HD.out.pb)
        have HJ := Lib.hid (show l'.drop (j + 1) = l.drop (j + 1) by rw [← List.drop_drop, HD.out.dr, List.drop_drop])
        have HWO := Lib.hid (fun W => wo1_v p.1 p.2 x bx W)
        have HI := Lib.hid hil'
        have HO1 := Lib.hid (show (#[Value.int .i64 p.1, Value.int .i64 p.2] : Array Value).all (·.oneCell') = true by simp [Value.oneCell'])
        have HI2 := Lib.hid (show (Tryd.prog.info? 44).map (·.size) = some (#[Value.int .i64 p.1, Value.int .i64 p.2] : Array Value).size from (show (Tryd.prog.info? 44).map (·.size) = some 2 by kernel_rfl))
        clear hpx p1 p2 hjl hjl' hil'
        by_cases he : p.1 = x
        · have hd : decide (p.1 = x) = true := decide_eq_true he
          rw [hd] at HWO
          rw [if_pos he, List.append_nil] at HST2
          clear he hd
          go_wp2_with (first
            | (refine wpList_loadRun rfl 44 (.tmp 24) rfl _ _ rfl HLD.out ?_)
            | (refine wpList_allocO 7 rfl rfl 44 rfl #[.int .i64 0, .int .i64 0] 2 (by kernel_rfl) ?_; intro w2 hb2 hl2 hz2; (have HB2 := Lib.hid hb2); (have HL2 := Lib.hid hl2); (have HZ2 := Lib.hid hz2); clear hb2 hl2 hz2)
            | (refine wpList_storeO rfl 44 (.tmp 7) (.tmp 25) rfl wr.heap.size _ #[.int .i64 p.1, .int .i64 p.2] rfl rfl HB2.out HI2.out rfl HO1.out ?_; intro w3 hb3 hg3 hz3; (have HB3 := Lib.hid hb3); (have HL3 := Lib.hid (later_of_new HL2.out hg3 (Nat.le_refl _))); clear hb3 hg3 hz3)
            | (refine wpList_loadO rfl 44 (.tmp 7) rfl wr.heap.size #[.int .i64 p.1, .int .i64 p.2] _ rfl HB3.out Tryd.underlying44 rfl HI2.out ?_)
            | (go_at_call 19; (with_reducible refine (HWO.out _ (later_cell HL3.out HD.out.bx)).mono ?_); rintro x9 w5 ⟨rfl, hl5⟩; (have HL5 := Lib.hid (HL3.out.trans hl5)); clear hl5))
          go_roundw
          case measure => simp [intOf]; omega
          case rel =>
            refine ⟨i, j + 1, l', rfl, by go_num, by omega, by omega, Lib.hid ⟨HD.out.len, ?_, HJ.out, HD.out.pb.later HL5.out, HD.out.low.trans (HL5.out.mono ?_), later_cell HL5.out HD.out.bx⟩⟩
            · rw [HST2.out]; exact HD.out.tk
            · exact Nat.le_trans HB.out.2.1 HD.out.low.size
        · have hd : decide (p.1 = x) = false := decide_eq_false he
          rw [hd] at HWO
          rw [if_neg he] at HST2
          clear he hd
          go_wp2_with (first
            | (refine wpList_loadRun rfl 44 (.tmp 24) rfl _ _ rfl HLD.out ?_)
            | (refine wpList_allocO 7 rfl rfl 44 rfl #[.int .i64 0, .int .i64 0] 2 (by kernel_rfl) ?_; intro w2 hb2 hl2 hz2; (have HB2 := Lib.hid hb2); (have HL2 := Lib.hid hl2); (have HZ2 := Lib.hid hz2); clear hb2 hl2 hz2)
            | (refine wpList_storeO rfl 44 (.tmp 7) (.tmp 25) rfl wr.heap.size _ #[.int .i64 p.1, .int .i64 p.2] rfl rfl HB2.out HI2.out rfl HO1.out ?_; intro w3 hb3 hg3 hz3; (have HB3 := Lib.hid hb3); (have HL3 := Lib.hid (later_of_new HL2.out hg3 (Nat.le_refl _))); clear hb3 hg3 hz3)
            | (refine wpList_loadO rfl 44 (.tmp 7) rfl wr.heap.size #[.int .i64 p.1, .int .i64 p.2] _ rfl HB3.out Tryd.underlying44 rfl HI2.out ?_)
            | (go_at_call 19; (with_reducible refine (HWO.out _ (later_cell HL3.out HD.out.bx)).mono ?_); rintro x9 w5 ⟨rfl, hl5⟩; (have HL5 := Lib.hid (HL3.out.trans hl5)); (have HB5 := Lib.hid (later_cells hl5 HB3.out)); obtain ⟨w6, hr6, hp6, hg6⟩ := PrB.put 44 (by kernel_rfl) (HD.out.pb.later HL5.out) HI.out p.1 p.2; (have HR6 := Lib.hid hr6); (have HP6 := Lib.hid (And.intro hp6 hg6)); clear hl5 hr6 hp6 hg6)
            | (refine wpList_loadO rfl 44 (.tmp 7) rfl wr.heap.size #[.int .i64 p.1, .int .i64 p.2] _ rfl HB5.out Tryd.underlying44 rfl HI2.out ?_)
            | (refine wpList_storeRun rfl 44 (.tmp 33) (.tmp 32) rfl _ _ rfl rfl HR6.out ?_))
          go_roundw
          case measure => simp [intOf]; omega
          case rel =>
            obtain ⟨hp6, hg6⟩ := HP6.out
            have hbl := Nat.le_trans HB.out.2.1 (Nat.le_trans HD.out.low.size HL5.out.size)
            refine ⟨i + 1, j + 1, l'.set i p, by go_num, by go_num, by omega, by omega, Lib.hid ⟨by rw [List.length_set]; exact HD.out.len, ?_, ?_, hp6, (HD.out.low.trans (HL5.out.mono (Nat.le_trans HB.out.2.1 HD.out.low.size))).trans (below_of_grown hg6 hbl fun k e => by cases e; exact HB.out.1), ?_⟩⟩
            · rw [HST2.out, ← HD.out.tk, List.take_succ_eq_append_getElem (by rw [List.length_set]; exact HI.out), List.getElem_set_self, List.take_set_of_le (Nat.le_refl _)]
            · rw [List.drop_set_of_lt (by omega)]; exact HJ.out
            · exact grown_cell (later_cell HL5.out HD.out.bx) hg6 HB.out.2.2
      · have hje : j = n := by omega
        have hlt1 : ¬ (j : Int) < (n : Int) := by omega
        have hin : i < n := by omega
        have hii : (i : Int) ≤ (n : Int) := by omega
        have hic : (i : Int) ≤ (c : Int) := by omega
        have hci : ¬ c = i := by omega
        have HWX := Lib.hid (show l'.take i = wo l x by
          have h := HD.out.tk
          rw [List.take_of_length_le (l := l) (by rw [← HN.out]; omega)] at h
          exact h)
        have HLI := Lib.hid (show (wo l x).length = i by rw [← HWX.out, List.length_take]; omega)
        obtain ⟨w7, z7, hr7, hp7, hg7⟩ := del_clear HD.out.pb hil' 0 (c - i)
        rw [HD.out.len] at hr7
        have HP7 := Lib.hid (And.intro hp7 hg7)
        clear hp7 hg7 hil' hje
        go_wp2
        go_ret
        obtain ⟨hp7, hg7⟩ := HP7.out
        refine ⟨⟨?_, z7, ?_⟩, HD.out.low.trans (below_of_grown hg7 (Nat.le_trans HB.out.2.1 HD.out.low.size) fun k e => by cases e; exact HB.out.1)⟩
        · rw [HLI.out]; rfl
        · rw [← HWX.out]; exact hp7
end Fd
end Go.Proofs.YtjijbgogdaafdaaDoor
