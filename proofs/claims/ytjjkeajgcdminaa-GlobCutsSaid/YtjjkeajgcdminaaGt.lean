/- Pick. No premises. -/
import Derived.Test.YtjjkeajgcdminaaGs
import Derived.Sort.OwnSorted
namespace Go.Proofs.Ytjjkeajgcdminaa
open Go.RowKit Go.Maps
theorem only_trans2 {a b c : World} {g : Nat} (h : a.grownBy b (some g)) (k : b.grownBy c (some g)) : a.grownBy c (some g) :=
  ⟨k.os.trans h.os, k.tape.trans h.tape, k.output.trans h.output, Nat.le_trans h.size k.size, fun i hi hne => (k.block i (Nat.lt_of_lt_of_le hi h.size) hne).trans (h.block i hi hne)⟩
namespace Gs
theorem info_str : (Try.prog.info? 9).map (fun i => (i.zero, i.size, i.bytes)) = some (some (.string ⟨#[]⟩), 1, 16) := by kernel_rfl
theorem box_grewS {w w' : World} {g : Nat} {t m : L} (h : Box w g t m) {base n : Nat} {v v' : Value} {xs ys : List Value} (hg : Grew w w' base 9 v v' ys) (ho : w.ownsRow base 9 1 v n xs) : Box w' g t m := by
  refine (hg.grown.block g (lt_of_block h) fun e => ?_).trans h
  obtain ⟨cs, hc⟩ := own_type ho e.symm
  rw [show w.heap[g]? = _ from h] at hc
  injection hc with hc
  injection hc with _ hc _
  exact absurd hc (by decide)
set_option maxRecDepth 100000 in
set_option maxHeartbeats 3200000 in
theorem Pick_v (t m : L) (ns : List L) (A : Option Addr) (n c : Nat) (w : World) (ht : t.length ≤ 4096) (hr : Rd w w.heap.size A n (ns.map sv)) (hn : n ≤ 100000) (hs : ∀ s ∈ ns, s.length ≤ 100000) : Calls Try.prog 16 #[.agg #[.string (mkS t), .string (mkS m)], .slice A n c] w fun e w' => ∃ A' k c', e = .returned (.slice A' k c') ∧ Rd w' w'.heap.size A' k ((Gl.pick t m ns).map sv) ∧ Later w w' := by
  have HS := Lib.hid (fun W => signs_v t m W ht)
  have HL := Lib.hid (Later.alloc w (.cells #[.string (mkS t), .string (mkS m)] 23))
  have HB := Lib.hid (Box.new w t m)
  have HGL := Lib.hid (Gl.sgF_len t m 0)
  have HMP := Lib.hid (fun s (h : s ∈ ns) W => mayPick_v t m s W (hs s h))
  have HLEN := Lib.hid (show ns.length = n from hr.len_map)
  have HNS := Lib.hid hs
  have HRD := Lib.hid hr
  obtain ⟨i0, hi, hz0, hz1, hz2⟩ := info_parts info_str
  clear hr hs
  go_enter Try.func16, Try.ntmps16
  go_wp2_with (first
    | (go_at_call 20; (with_reducible refine (HS.out _).mono ?_); rintro e w3 ⟨v, rfl, ⟨xs, hx⟩, hl3⟩; obtain ⟨A1, n1, c1, rfl, hnc, hA, hn1, hrs⟩ := hx.rdS; (have HRU := Lib.hid (runs_v _ A1 n1 c1 w3 hrs hnc (by have := HGL.out; omega) hA)); (have HL3 := Lib.hid (HL.out.trans hl3)); (have HB3 := Lib.hid (HB.out.later hl3)); (have HN := Lib.hid hn1); clear hl3 hx hrs hA hnc hn1)
    | (go_at_call 19; (with_reducible refine HRU.out.mono ?_); rintro e w4 ⟨A', c', n', rfl, ⟨h1, h2, h3⟩, hl4⟩; (have HMA := Lib.hid (fun s (h : s ∈ ns) W (hW : Later w4 W) => match_v (Gl.sgF t m 0) s A' n' c' W (h3.later hW) h1 (by have := HGL.out; have := HN.out; omega) (HNS.out s h))); (have HL4 := Lib.hid (HL3.out.trans hl4)); (have HB4 := Lib.hid (HB3.out.later hl4)); clear hl4 h1 h2 h3))
  go_loopw [6, 14] (fun s6 i wr => ∃ (k : Nat) (ps : List L), i = .int .i64 (k : Int) ∧ k ≤ n ∧ ps = Gl.picked t m (ns.take k) ∧ ps.length ≤ k ∧ wr.ownsRow w4.heap.size 9 1 s6 ps.length (ps.map sv) ∧ Box wr w.heap.size t m ∧ Later w4 wr) (fun _ i _ => n - (intOf i).toNat)
  case atStart => exact ⟨0, [], rfl, Nat.zero_le _, rfl, Nat.le_refl _, World.ownsRow_nil _ _ _ 1, HB4.out, Later.refl _⟩
  case round =>
    obtain ⟨k, ps, rfl, hk, hps0, hpk0, hown, hbox, hlr⟩ := hrel
    have HPS := Lib.hid hps0
    have HLR := Lib.hid hlr
    clear hps0 hlr
    by_cases hkn : k < n
    · obtain ⟨ad, hl, rfl, hb, hcell⟩ := (HRD.out.below (HL4.out.trans HLR.out)).at_map hkn
      obtain ⟨s, hsn⟩ : ∃ s, s = ns[k] := ⟨_, rfl⟩
      rw [← hsn] at hcell
      have hcell2 : wr.cell? (ad.add k) = some (.string (mkS s)) := hcell
      have hmem : s ∈ ns := by rw [hsn]; exact List.getElem_mem _
      have HMEM := Lib.hid hmem
      have HTK := Lib.hid (show Gl.picked t m (ns.take (k + 1)) = Gl.picked t m (ns.take k) ++ (if Gl.may t s && Gl.tb (Gl.sgF t m 0) s then [s] else []) by
        unfold Gl.picked
        rw [List.take_succ_eq_append_getElem hl, List.filter_append, ← hsn]
        congr 1
        by_cases h : (Gl.may t s && Gl.tb (Gl.sgF t m 0) s) = true
        · simp [h]
        · simp [h])
      have hmp := HMP.out s hmem
      obtain ⟨c0, c1⟩ := hbox.cells
      have HBX := Lib.hid hbox
      have HO := Lib.hid hown
      have hkn2 : (k : Int) < (n : Int) := by omega
      have hwr : wr.heap.size ≤ wr.heap.size := Nat.le_refl _
      clear hcell hmem hbox hown hsn hwr
      cases hmy : Gl.may t s with
      | false =>
        rw [hmy] at hmp
        have HMP2 := Lib.hid hmp
        have HMY := Lib.hid hmy
        clear hmp hmy
        go_wp2_with (first
          | (go_at_call 27; (with_reducible refine (HMP2.out _).mono ?_); rintro e w5 ⟨rfl, hl5⟩; (have HL5 := Lib.hid hl5); clear hl5))
        go_roundw
        case rel =>
          refine ⟨k + 1, ps, by go_num, by omega, ?_, by omega, own_below HO.out HL5.out, HBX.out.later HL5.out, HLR.out.trans HL5.out⟩
          rw [HTK.out, HMY.out, HPS.out]
          simp
        case measure => simp [intOf]; omega
      | true =>
        rw [hmy] at hmp
        have HMP2 := Lib.hid hmp
        have HMY := Lib.hid hmy
        have hma := HMA.out s HMEM.out
        clear hmp hmy
        cases htb : Gl.tb (Gl.sgF t m 0) s with
        | false =>
          rw [htb] at hma
          have HMA2 := Lib.hid hma
          have HTB := Lib.hid htb
          clear hma htb
          go_wp2_with (first
            | (go_at_call 27; (with_reducible refine (HMP2.out _).mono ?_); rintro e w5 ⟨rfl, hl5⟩; (have HL5 := Lib.hid hl5); clear hl5)
            | (go_at_call 18; (with_reducible refine (HMA2.out _ (HLR.out.trans HL5.out)).mono ?_); rintro e w6 ⟨rfl, hl6⟩; (have HL6 := Lib.hid (HL5.out.trans hl6)); clear hl6))
          go_roundw
          case rel =>
            refine ⟨k + 1, ps, by go_num, by omega, ?_, by omega, own_below HO.out HL6.out, HBX.out.later HL6.out, HLR.out.trans HL6.out⟩
            rw [HTK.out, HMY.out, HTB.out, HPS.out]
            simp
          case measure => simp [intOf]; omega
        | true =>
          rw [htb] at hma
          have HMA2 := Lib.hid hma
          have HTB := Lib.hid htb
          clear hma htb
          go_wp2_with (first
            | (go_at_call 27; (with_reducible refine (HMP2.out _).mono ?_); rintro e w5 ⟨rfl, hl5⟩; (have HL5 := Lib.hid hl5); clear hl5)
            | (go_at_call 18; (with_reducible refine (HMA2.out _ (HLR.out.trans HL5.out)).mono ?_); rintro e w6 ⟨rfl, hl6⟩; (have HL6 := Lib.hid (HL5.out.trans hl6)); (have HO6 := Lib.hid (own_below HO.out HL6.out)); clear hl6)
            | (at_builtin; refine wpList_app1 w6 (.string (mkS s)) rfl (.tmp 26) (.tmp 28) _ rfl w4.heap.size 9 i0 (.string ⟨#[]⟩) 16 Try.underlying29 hi hz0 hz1 hz2 rfl rfl u6 (ps.map sv) rfl (by rw [List.length_map]; exact HO6.out) rfl ?hby ?hle ?hba ?_; (case hby => rw [List.length_map]; omega); (case hle => rw [List.length_map]; omega); (case hba => exact (HLR.out.trans HL6.out).size); intro v7 w7 hg7; (have HG7 := Lib.hid hg7); clear hg7))
          go_roundw
          case rel =>
            have hg7 := HG7.out
            refine ⟨k + 1, ps ++ [s], by go_num, by omega, ?_, by simp; omega, ?_, box_grewS (HBX.out.later HL6.out) hg7 HO6.out, Below.grown (HLR.out.trans HL6.out) hg7.grown (HLR.out.trans HL6.out).size fun j hj => (HO6.out.lt j hj).1⟩
            · rw [HTK.out, HMY.out, HTB.out, HPS.out]
              simp
            · have := hg7.own
              rw [List.length_append, List.length_map] at this
              rw [List.map_append, List.length_append]
              exact this
          case measure => simp [intOf]; omega
    · have hkn2 : ¬ ((k : Int) < (n : Int)) := by omega
      have hk2 : k = n := by omega
      have hps : ps = Gl.picked t m ns := by rw [HPS.out, List.take_of_length_le (by have := HLEN.out; omega)]
      rcases hown.2 with ⟨rfl, h0⟩ | ⟨b, cap, cur, rfl, h1, h2, h3, h4, h5, h6⟩
      · have hp0 : ps = [] := List.eq_nil_of_length_eq_zero h0
        have hpk : Gl.pick t m ns = [] := by unfold Gl.pick; rw [← hps, hp0]; simp [Go.Lib.compact, Go.Lib.compactUpTo]
        have HPK := Lib.hid hpk
        clear hpk hps hp0 h0 hown
        go_wp2_with (first
          | (go_at_call 28; (with_reducible refine (Try.slices_Sort_string_none none 0 _).mono ?_); rintro e w6 ⟨rfl, rfl⟩)
          | (go_at_call 29; (with_reducible refine (Try.slices_Compact_string_empty none 0 _).mono ?_); rintro e w7 ⟨rfl, rfl⟩))
        go_ret
        exact ⟨none, 0, 0, rfl, by rw [HPK.out]; exact Rd.nil_, HL4.out.trans HLR.out⟩
      · rw [Nat.mul_one] at h5 h6
        obtain ⟨zs, hz⟩ : ∃ zs, zs = ps.mergeSort fun x y => decide (x ≤ y) := ⟨_, rfl⟩
        have hzl : zs.length = ps.length := by rw [hz, List.length_mergeSort]
        have hsv : ∀ l : List L, l.map encStr = l.map sv := fun l => rfl
        have hH : Go.Sort.Holds encStr wr b 0 ps.toArray := holds_put h2 (by rw [hsv]; exact h6) fun j _ => (cell_row h2 j).2
        have hso := Try.slices_Sort_string b 0 cap ps wr hH (lt_of_block h2) (by omega)
        rw [← hz] at hso
        have hco : ∀ n0 os, Calls Try.prog 29 #[.slice (some ⟨b, 0, none⟩) ps.length cap] (Go.Sort.grow (Go.Sort.putRow encStr (Go.Sort.ahead wr n0) b 0 zs.toArray) os) fun e w' => e = .returned (.slice (some ⟨b, 0, none⟩) (Go.Lib.compact zs).length cap) ∧ ∃ q, w' = Go.Sort.putRow encStr (Go.Sort.ahead (Go.Sort.grow (Go.Sort.putRow encStr (Go.Sort.ahead wr n0) b 0 zs.toArray) os) q) b 0 (Go.Lib.compact zs ++ List.replicate (zs.length - (Go.Lib.compact zs).length) []).toArray := fun n0 os => by
          rw [← hzl]
          refine Try.slices_Compact_string b 0 cap zs _ ?_ (by omega) (by omega)
          refine Go.Sort.holds_grow encStr _ os b 0 _ (by have := lt_of_block h2; simpa [Go.Sort.putRow, Go.Sort.mapBlock, Go.Sort.ahead] using this) ?_
          exact Go.Sort.holds_putRow encStr _ b 0 ps.toArray zs.toArray (Go.Sort.holds_ahead encStr wr n0 b 0 _ hH) (by simp [hzl])
        have hpk : Gl.pick t m ns = Go.Lib.compact zs := by unfold Gl.pick; rw [hz, hps]
        have hcl := Go.Lib.compact_length_le zs
        have hb2 : wr.heap[b]? = some (.cells cur 9 (0, 0)) := h2
        have hfin : ∀ n0 os q, ∃ C, (Go.Sort.putRow encStr (Go.Sort.ahead (Go.Sort.grow (Go.Sort.putRow encStr (Go.Sort.ahead wr n0) b 0 zs.toArray) os) q) b 0 (Go.Lib.compact zs ++ List.replicate (zs.length - (Go.Lib.compact zs).length) []).toArray).heap[b]? = some (.cells C 9 (0, 0)) ∧ C.toList.take (Go.Lib.compact zs).length = (Go.Lib.compact zs).map sv := fun n0 os q => by
          have e1 := heap_sorted (n := n0) (os := os) zs.toArray hb2
          have e2 := heap_put (enc := encStr) (n := q) (Go.Lib.compact zs ++ List.replicate (zs.length - (Go.Lib.compact zs).length) []).toArray e1
          refine ⟨_, e2, ?_⟩
          have e3 := take_put (enc := encStr) (cur := Go.Sort.putCells encStr 0 zs.toArray cur) (Go.Lib.compact zs ++ List.replicate (zs.length - (Go.Lib.compact zs).length) []) (by simp [Go.Sort.putCells]; omega)
          have e4 := congrArg (List.take (Go.Lib.compact zs).length) e3
          rw [List.take_take, Nat.min_eq_left (by simp), List.map_append, List.take_left' (by simp)] at e4
          exact e4
        have HSO := Lib.hid hso
        have HCO := Lib.hid hco
        have HPK := Lib.hid hpk
        have HF := Lib.hid hfin
        have H1 := Lib.hid h1
        obtain ⟨n9, hn9⟩ : ∃ n9, n9 = ps.length := ⟨_, rfl⟩
        rw [← hn9] at HSO HCO ⊢
        obtain ⟨cs, hcs⟩ : ∃ cs, cs = Go.Lib.compact zs := ⟨_, rfl⟩
        rw [← hcs] at HCO HPK HF
        obtain ⟨k9, hk9⟩ : ∃ k9, k9 = cs.length := ⟨_, rfl⟩
        rw [← hk9] at HCO HF
        have HK9 := Lib.hid hk9
        clear hso hco hpk hfin h1 hn9 hcs hk9 h2 hb2 h3 h4 h5 h6 hH hz hzl hsv hcl hps hown
        go_wp2_with (first
          | (go_at_call 28; (with_reducible refine HSO.out.mono ?_); rintro e w6 ⟨rfl, n0, os, hw6⟩; (have hcon := HCO.out n0 os); rw [← hw6] at hcon; (have HCN := Lib.hid hcon); (have HW6 := Lib.hid hw6); clear hw6 hcon)
          | (go_at_call 29; (with_reducible refine HCN.out.mono ?_); rintro e w7 ⟨rfl, q, hw7⟩; (have HW7 := Lib.hid hw7); clear hw7))
        go_ret
        obtain ⟨C, hC1, hC2⟩ := HF.out n0 os q
        rw [← HW6.out, ← HW7.out] at hC1
        have hg6 : wr.grownBy w6 (some b) := by rw [HW6.out]; exact grownBy_sorted _
        have hg7 : w6.grownBy w7 (some b) := by rw [HW7.out]; exact grown_put _
        refine ⟨_, k9, cap, rfl, ?_, HL4.out.trans (later_of_new HLR.out (only_trans2 hg6 hg7) H1.out)⟩
        rw [HPK.out]
        refine ⟨by rw [List.length_map, HK9.out], fun h0 => ⟨_, rfl, lt_of_block hC1, fun j u hu => ?_⟩⟩
        rw [add_lit0]
        have hj : j < k9 := by have := (List.getElem?_eq_some_iff.1 hu).1; rw [HK9.out]; simpa using this
        rw [(cell_row hC1 j).1, ← Array.getElem?_toList, ← hu, ← hC2, List.getElem?_take_of_lt hj]
end Gs
end Go.Proofs.Ytjjkeajgcdminaa
