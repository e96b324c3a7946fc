/- argument: the one whose number is told in digits. Behind Vd. -/
import Derived.Test.YtmijploffdoenaaDoorNwe
namespace Go.Proofs.YtmijploffdoenaaDoor
open Go.RowKit Go.Maps
namespace En
theorem arg_bad {args : List B} {s : B} (ha : args.length ≤ 900000000) (h : ¬ (NumOk63 s ∧ s ≠ [])) : arg args s = none := by
  unfold arg
  split
  · rename_i hn
    have h1 : s ≠ [] := by rintro rfl; cases hn
    have h2 : s.all digB = true := by
      cases s with
      | nil => cases hn
      | cons c s => simp only [numB, Bool.and_eq_true] at hn; exact hn.2
    have h3 : ¬ val s < 9223372036854775808 := fun hv => h ⟨⟨h2, hv⟩, h1⟩
    exact List.getElem?_eq_none (by omega)
  · rfl
theorem arg_zero {args : List B} {s : B} {h : 0 < s.length} (h0 : s[0] = 48) : arg args s = none := by
  unfold arg
  rw [if_neg]
  intro hn
  cases s with
  | nil => cases hn
  | cons c s =>
    simp only [List.getElem_cons_zero] at h0
    simp [numB, h0] at hn
theorem num_of {s : B} (ho : s.all digB = true) (h : 0 < s.length) (h0 : s[0] ≠ 48) : numB s = true := by
  cases s with
  | nil => simp at h
  | cons c s =>
    simp only [List.getElem_cons_zero] at h0
    simp only [numB, ho, Bool.and_true, Bool.not_eq_true', decide_eq_false_iff_not]
    exact h0
theorem arg_long {args : List B} {s : B} (ha : args.length ≤ 900000000) (h : 9 < s.length) : arg args s = none := by
  unfold arg
  split
  · rename_i hn
    obtain ⟨m, hm⟩ : ∃ m, s.length = m + 1 := ⟨s.length - 1, by omega⟩
    have h1 := val_ge m s hm hn
    have h2 : 10 ^ 9 ≤ 10 ^ m := Nat.pow_le_pow_right (by omega) (by omega)
    exact List.getElem?_eq_none (by omega)
  · rfl
theorem arg_past {args : List B} {s : B} (h : args.length < val s) : arg args s = none := by
  unfold arg
  split
  · exact List.getElem?_eq_none (by omega)
  · rfl
theorem arg_in {args : List B} {s : B} (hn : numB s = true) {k : Nat} (hk : val s = k + 1) (hl : k < args.length) : arg args s = some args[k] := by
  unfold arg
  rw [if_pos hn, hk, Nat.add_sub_cancel]
  exact List.getElem?_eq_getElem hl
set_option maxRecDepth 100000 in
set_option maxHeartbeats 6400000 in
theorem argument_v (va : Value) (e : E) (s : B) (W : World) (h : RdE W va e) (hd : Vd W) (hs : s.length ≤ 2000000) (ha : e.args.length ≤ 900000000) : Calls Tryd.prog 40 #[va, .string (mkS s)] W fun x W' => x = .returned (tellV (told (arg e.args s))) ∧ Later W W' := by
  obtain ⟨v0, A, n, c, rfl, hv, hr, _, _⟩ := h
  obtain ⟨Av, cv, rfl, hcv, hcw, _⟩ := hv.le
  obtain ⟨n0, hn0⟩ : ∃ n0, n0 = e.vars.length := ⟨_, rfl⟩
  obtain ⟨st, hst⟩ : ∃ st : Int, st = (e.status : Int) := ⟨_, rfl⟩
  obtain ⟨fl, hfl⟩ : ∃ fl, fl = mkS e.flags := ⟨_, rfl⟩
  obtain ⟨args, hargs⟩ : ∃ args, args = e.args := ⟨_, rfl⟩
  rw [← hn0, ← hst, ← hfl]
  rw [← hargs] at hr ha ⊢
  have hnl : args.length = n := hr.len_map
  have HNL := Lib.hid hnl
  have HA := Lib.hid ha
  have HR := Lib.hid hr
  have HLA := Lib.hid (Later.alloc W (.cells #[.slice Av n0 cv, .slice A n c, .int .i64 st, .string fl] 28))
  have HNA := Lib.hid (heap_alloc_new W (.cells #[.slice Av n0 cv, .slice A n c, .int .i64 st, .string fl] 28))
  have HPA := Lib.hid (parse_v s (W.alloc (.cells #[.slice Av n0 cv, .slice A n c, .int .i64 st, .string fl] 28)) (hd.later HLA.out) hs)
  have hn9 : n ≤ 900000000 := by omega
  have hss : ((mkS s).size : Int) = (s.length : Int) := by rw [mkS_size]
  have hs2 : s.length ≤ 2000000 := hs
  clear hv hr hcv hcw hn0 hst hfl hargs hd hs ha hnl
  go_enter Tryd.func40, Tryd.ntmps40
  go_wp2_with fail
  go_at_call 54
  with_reducible refine HPA.out.mono ?_
  rintro x w1 ⟨⟨u, q, rfl, hq⟩, hl1⟩
  have HL1 := Lib.hid (HLA.out.trans hl1)
  have HQ := Lib.hid hq
  have b1 : w1.cell? ⟨W.heap.size, 1, none⟩ = some (.slice A n c) := (cell_row (later_cells hl1 HNA.out) 1).1
  clear hl1
  rcases hq with ⟨hok, hne, rfl, hu⟩ | ⟨hbad, te, pe, rfl⟩
  · have hpos : 0 < s.length := List.length_pos_iff.2 hne
    have hi2 : 0 < (mkS s).size := by rw [mkS_size]; exact hpos
    obtain ⟨k0, hk0⟩ : ∃ k0, k0 = (mkS s)[0] := ⟨_, rfl⟩
    have HK := Lib.hid (show s[0] = k0 by rw [hk0]; exact (mkS_get' s 0 hi2 hpos).symm)
    have hxt : (mkS s)[0] = k0 := hk0.symm
    have HOK := Lib.hid hok
    have HU := Lib.hid hu
    have hu0 : 0 ≤ u := by omega
    have hu1 : u < 9223372036854775808 := by have := hok.2; omega
    have HP := Lib.hid hpos
    clear hok hne hk0 hu hpos
    by_cases h48 : k0 = 48
    · have f1 : ((k0.toNat : Int) == 48) = true := by rw [h48]; rfl
      have HZ := Lib.hid (arg_zero (args := args) (h := HP.out) (HK.out.trans h48))
      clear h48
      go_wp2
      go_ret2
      exact ⟨by rw [HZ.out]; rfl, HL1.out⟩
    · have f1 : ((k0.toNat : Int) == 48) = false := by
        have h5 : k0.toNat ≠ 48 := fun h => h48 (UInt8.toNat_inj.1 h)
        rw [beq_eq_false_iff_ne]; omega
      have HN := Lib.hid (num_of HOK.out.1 HP.out (fun h => h48 (HK.out.symm.trans h)))
      clear h48
      by_cases h9 : (9 : Int) < (s.length : Int)
      · have HZ := Lib.hid (arg_long (args := args) (s := s) HA.out (by omega))
        go_wp2
        go_ret2
        exact ⟨by rw [HZ.out]; rfl, HL1.out⟩
      · by_cases hpast : (n : Int) < u
        · have HZ := Lib.hid (arg_past (args := args) (s := s) (by have := HU.out; have := HNL.out; omega))
          go_wp2
          go_ret2
          exact ⟨by rw [HZ.out]; rfl, HL1.out⟩
        · obtain ⟨k, hk⟩ : ∃ k : Nat, u = (k : Int) + 1 := by
            have h1 := (val_pos _ s rfl HN.out).1
            exact ⟨val s - 1, by have := HU.out; omega⟩
          have hkn : k < n := by omega
          have HV := Lib.hid (show val s = k + 1 by have := HU.out; omega)
          have hkl : k < args.length := by rw [HNL.out]; exact hkn
          obtain ⟨ad, hl2, had, hg, hcc⟩ := HR.out.at_map hkn
          subst had
          obtain ⟨y, hy⟩ : ∃ y, y = args[k] := ⟨_, rfl⟩
          have p1 : w1.cell? (ad.add k) = some (.string (mkS y)) := (HL1.out.cell (p := ad.add k) (by rw [block_add]; exact hg)).trans (by rw [hy]; exact hcc)
          have HZ := Lib.hid (arg_in HN.out HV.out hkl)
          rw [← hy] at HZ
          subst hk
          have hk1 : (0 : Int) ≤ (k : Int) := by omega
          have hk2 : (k : Int) < (n : Int) := by omega
          have hk3 : (k : Int) + 1 - 1 = (k : Int) := by omega
          clear hcc hg hy hl2 hu0 hu1 hkl
          go_wp2
          go_ret2
          exact ⟨by rw [HZ.out]; rfl, HL1.out⟩
  · have HZ := Lib.hid (arg_bad (s := s) HA.out hbad)
    clear hbad
    go_wp2
    go_ret2
    exact ⟨by rw [HZ.out]; rfl, HL1.out⟩
end En
end Go.Proofs.YtmijploffdoenaaDoor
