/- The document's Of and Bare. No premises. -/
import Derived.Test.YtghdimcdkjlpcaaJj
namespace Go.Proofs.Ytghdimcdkjlpcaa
open Go.RowKit Go.Maps
namespace Jo
theorem rep_snoc (k : Nat) (c : UInt8) : List.replicate k c ++ [c] = List.replicate (k + 1) c := List.replicate_succ'.symm
set_option maxRecDepth 100000 in
set_option maxHeartbeats 3200000 in
theorem rof_v (s : L) (c : UInt8) (w : World) (hs : s.length ≤ 1000000) : Calls Try.prog 15 #[.string (mkS s), .int .u8 (c.toNat : Int)] w fun e w' => e = .returned (.agg #[.string (mkS s), .string (mkS (List.replicate s.length c))]) ∧ Later w w' := by
  have hsl : ((mkS s).size : Int) = (s.length : Int) := by rw [mkS_size]
  obtain ⟨o1, ho1⟩ : ∃ o : Obj, o = .cells #[.string ⟨#[]⟩, .string ⟨#[]⟩] 29 := ⟨_, rfl⟩
  obtain ⟨o2, ho2⟩ : ∃ o : Obj, o = .cells #[.string (mkS s), .string ⟨#[]⟩] 29 := ⟨_, rfl⟩
  have l1 := Later.alloc w o1
  have l2 := Later.alloc (w.alloc o1) o2
  have n2 := heap_alloc_new (w.alloc o1) o2
  rw [World.size_alloc] at n2
  have HF := Lib.hid (show Later w ((w.alloc o1).alloc o2) ∧ ((w.alloc o1).alloc o2).heap[w.heap.size]? = some o1 ∧ ((w.alloc o1).alloc o2).heap[w.heap.size + 1]? = some o2 from ⟨l1.trans l2, later_cells l2 (heap_alloc_new w o1), n2⟩)
  rw [ho1, ho2] at HF
  clear l1 l2 n2 ho1 ho2 o1 o2
  go_enter Try.func15, Try.ntmps15
  go_wp2
  go_loopw [6] (fun i wr => ∃ k : Nat, i = .int .i64 (k : Int) ∧ k ≤ s.length ∧ Later w wr ∧ wr.heap[w.heap.size]? = some (.cells #[.string ⟨#[]⟩, .string ⟨#[]⟩] 29 (0, 0)) ∧ wr.heap[w.heap.size + 1]? = some (.cells #[.string (mkS s), .string (mkS (List.replicate k c))] 29 (0, 0))) (fun i _ => s.length - (intOf i).toNat)
  case atStart => exact ⟨0, rfl, Nat.zero_le _, HF.out⟩
  case round =>
    obtain ⟨k, rfl, hk, hlw, hb0, hb1⟩ := hrel
    have HB := Lib.hid (And.intro hlw (And.intro hb0 hb1))
    have hsz := lt_of_block hb1
    have c10 : wr.cell? ⟨w.heap.size + 1, 0, none⟩ = some (.string (mkS s)) := (cell_row hb1 0).1
    have c11 : wr.cell? ⟨w.heap.size + 1, 1, none⟩ = some (.string (mkS (List.replicate k c))) := (cell_row hb1 1).1
    have c00 : wr.cell? ⟨w.heap.size, 0, none⟩ = some (.string ⟨#[]⟩) := (cell_row hb0 0).1
    have c01 : wr.cell? ⟨w.heap.size, 1, none⟩ = some (.string ⟨#[]⟩) := (cell_row hb0 1).1
    have z0 := fun i => (cell_row hb0 i).2
    clear hlw hb0 hb1
    have hk0 : (0 : Int) ≤ (k : Int) := by omega
    by_cases hlt : k < s.length
    · have hk1 : (k : Int) < (s.length : Int) := by omega
      have hcv1 := str1 wr c.toNat (by exact c.toNat_lt) 1
      rw [show UInt8.ofNat c.toNat = c by simp] at hcv1
      have hsum : ¬ 9223372036854775807 < (mkS (List.replicate k c)).size + (mkS [c]).size := by rw [mkS_size, mkS_size]; simp; omega
      have hadd : mkS (List.replicate k c) ++ mkS [c] = mkS (List.replicate (k + 1) c) := by rw [mkS_add, rep_snoc]
      have hl2 := Later.alloc wr (.cells #[.int .u8 (c.toNat : Int)] 5)
      have hb := later_cells hl2 HB.out.2.2
      have y1 : (wr.alloc (.cells #[.int .u8 (c.toNat : Int)] 5)).cell? ⟨w.heap.size + 1, 1, none⟩ = some (.string (mkS (List.replicate k c))) := (cell_row hb 1).1
      have yz := (cell_row hb 1).2
      clear hl2 hb c10 c00 c01 z0
      go_wp2
      go_roundw
      case rel =>
        obtain ⟨h1, h2, h3⟩ := HB.out
        have hg := set_only wr (w.heap.size + 1) 1 (.string (mkS (List.replicate (k + 1) c)))
        have hla := Later.alloc (wr.setCell ⟨w.heap.size + 1, 1, none⟩ (.string (mkS (List.replicate (k + 1) c)))) (.cells #[.int .u8 (c.toNat : Int)] 5)
        exact ⟨k + 1, by go_num, by omega, (later_of_new h1 hg (by omega)).trans hla, later_cells hla (grown_cells hg h2 (by omega)), later_cells hla (set_row h3 1 _)⟩
      case measure => simp [intOf]; omega
    · have hks : k = s.length := by omega
      subst hks
      clear hlt hk0 hk
      go_wp2
      obtain ⟨h1, h2, h3⟩ := HB.out
      have r1 := set_row h2 0 (.string (mkS s))
      have r2 := set_row r1 1 (.string (mkS (List.replicate s.length c)))
      refine bodyPost_ret (results_R rfl _ _ w.heap.size _ (0, 0) rfl r2 rfl) rfl ?_
      exact ⟨rfl, later_of_new (later_of_new h1 (set_only _ _ _ _) (Nat.le_refl _)) (set_only _ _ _ _) (Nat.le_refl _)⟩
theorem set_text (S : L) (k : Nat) (c : UInt8) (hk : k < S.length) (h : S[k] = c) : (mkS S).extract k (k + 1) = mkS [c] := by
  apply ByteArray.ext
  simp [mkS]
  rw [List.drop_eq_getElem_cons hk, h]
  rfl
set_option maxRecDepth 100000 in
set_option maxHeartbeats 3200000 in
theorem rbare_v (t m : L) (w : World) (hlen : (t.zip m).length ≤ 1000000) : Calls Try.prog 17 #[.agg #[.string (mkS t), .string (mkS m)]] w fun e w' => e = .returned (.string (mkS (bareL (t.zip m)))) ∧ Later w w' := by
  have HF := Lib.hid (And.intro (Later.alloc w (.cells #[.string (mkS t), .string (mkS m)] 29)) (heap_alloc_new w (.cells #[.string (mkS t), .string (mkS m)] 29)))
  obtain ⟨n, hn⟩ : ∃ n, n = (t.zip m).length := ⟨_, rfl⟩
  have HSZ := Lib.hid (fun W => size_v t m W)
  rw [← hn] at HSZ hlen
  have HNN := Lib.hid hn
  clear hn
  go_enter Try.func17, Try.ntmps17
  go_wp2_with (go_at_call 19; (with_reducible refine (HSZ.out _).mono ?_); rintro e w1 ⟨rfl, hl1⟩; (have HF1 := Lib.hid (And.intro (HF.out.1.trans hl1) (later_cells hl1 HF.out.2))); clear hl1)
  go_loopw [3, 5] (fun s3 s5 wr => ∃ k : Nat, s5 = .int .i64 (k : Int) ∧ k ≤ n ∧ wr = w1 ∧ s3 = .string (mkS (bareL ((t.zip m).take k)))) (fun _ i _ => n - (intOf i).toNat)
  case atStart => exact ⟨0, rfl, Nat.zero_le _, rfl, rfl⟩
  case round =>
    obtain ⟨k, rfl, hk, rfl, rfl⟩ := hrel
    have hbx := HF1.out.2
    have b0 : wr.cell? ⟨w.heap.size, 0, none⟩ = some (.string (mkS t)) := (cell_row hbx 0).1
    have b1 : wr.cell? ⟨w.heap.size, 1, none⟩ = some (.string (mkS m)) := (cell_row hbx 1).1
    clear hbx
    have hk0 : (0 : Int) ≤ (k : Int) := by omega
    obtain ⟨x, hx⟩ : ∃ x, x = bareL ((t.zip m).take k) := ⟨_, rfl⟩
    have hxl : x.length ≤ 1000000 := by
      have h1 := bareL_len ((t.zip m).take k)
      have h2 : ((t.zip m).take k).length ≤ k := by rw [List.length_take]; omega
      rw [hx]; omega
    rw [← hx]
    by_cases hlt : k < n
    · have hk1 : (k : Int) < (n : Int) := by omega
      have hzl : n = min t.length m.length := by rw [HNN.out, List.length_zip]
      have hltz : k < (t.zip m).length := by rw [← HNN.out]; exact hlt
      have htl : k < t.length := by omega
      have hml : k < m.length := by omega
      have ht2 : k < (mkS t).size := by rw [mkS_size]; exact htl
      have hm2 : k < (mkS m).size := by rw [mkS_size]; exact hml
      obtain ⟨c, hc⟩ : ∃ c, c = t[k] := ⟨_, rfl⟩
      obtain ⟨d, hd⟩ : ∃ d, d = (mkS m)[k] := ⟨_, rfl⟩
      have hp : (t.zip m)[k] = (c, d) := by rw [List.getElem_zip]; exact Prod.ext hc.symm (by rw [hd]; exact (mkS_get m k hm2 hml).symm)
      have htk := bareL_take hltz
      rw [hp, ← hx] at htk
      have HTK := Lib.hid htk
      have hdt : (mkS m)[k] = d := hd.symm
      have HEX := set_text t k c htl hc.symm
      have HSL := Lib.hid (show (Instr.slice 9 (.string (mkS t)) (some (.int .i64 (k : Int))) (some (.int .i64 ((k : Int) + 1))) none).run Try.prog wr = .ok (.string (mkS [c])) wr from by
        have us := Try.underlying9
        have hk2 : (k : Int) + 1 ≤ ((mkS t).size : Int) := by omega
        have hk3 : (k : Int) ≤ (k : Int) + 1 := by omega
        have hn1 : ((k : Int) + 1).toNat = k + 1 := by omega
        go_simp)
      have hsum : ¬ 9223372036854775807 < (mkS x).size + (mkS [c]).size := by rw [mkS_size, mkS_size]; simp; omega
      have hadd : mkS x ++ mkS [c] = mkS (x ++ [c]) := mkS_add _ _
      have HE := Lib.hid HEX
      clear hp hzl hc hd htl hml hltz htk hx
      by_cases h101 : d = 101
      · have f1 : ((d.toNat : Int) != 101) = false := g8 (n := 101) (b := true) (by decide) (by simpa using h101)
        have hkn : ¬ kindN [] (c, d) = 0 := by unfold kindN; simp [h101]
        rw [if_neg hkn] at HTK
        clear h101 hkn hsum hadd HEX
        go_wp2
        go_roundw
        case rel => exact ⟨k + 1, by go_num, by omega, trivial, by rw [HTK.out]⟩
        case measure => simp [intOf]; omega
      · have f1 : ((d.toNat : Int) != 101) = true := g8 (n := 101) (b := false) (by decide) (by simpa using h101)
        by_cases h98 : d = 98
        · have f2 : ((d.toNat : Int) != 98) = false := g8 (n := 98) (b := true) (by decide) (by simpa using h98)
          have hkn : ¬ kindN [] (c, d) = 0 := by unfold kindN; simp [h98]
          rw [if_neg hkn] at HTK
          clear h101 h98 hkn hsum hadd HEX
          go_wp2
          go_roundw
          case rel => exact ⟨k + 1, by go_num, by omega, trivial, by rw [HTK.out]⟩
          case measure => simp [intOf]; omega
        · have f2 : ((d.toNat : Int) != 98) = true := g8 (n := 98) (b := false) (by decide) (by simpa using h98)
          have hkn : kindN [] (c, d) = 0 := by unfold kindN; simp [h101, h98, sepB]
          rw [if_pos hkn] at HTK
          clear h101 h98 hkn HEX
          have hslc := HSL.out
          go_wp2
          go_roundw
          case rel => exact ⟨k + 1, by go_num, by omega, trivial, by rw [HTK.out]⟩
          case measure => simp [intOf]; omega
    · have hkn : k = n := by omega
      have HX := Lib.hid (show x = bareL (t.zip m) by rw [hx, hkn, HNN.out, List.take_of_length_le (Nat.le_refl _)])
      clear hx hkn
      go_wp2
      go_ret
      exact ⟨by rw [HX.out]; rfl, HF1.out.1⟩
end Jo
end Go.Proofs.Ytghdimcdkjlpcaa
