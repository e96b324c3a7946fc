/- Rows that are put out through a port. No premises. -/
import Derived.Test.YteljmlodbnfhbaaKq
namespace Go.Proofs.Yteljmlodbnfhbaa
open Go.RowKit
namespace Ks
set_option maxRecDepth 100000
theorem outR_txts (hF : OutS (one1 29) rtxt txt) : OutS (one2 28 29) (rrow rtxt) (Ks.row txt) := by
  refine ⟨fun {X W g bs o b cs l Q} N hp hX hN hc hcell hok hlen hq => ?_⟩
  obtain ⟨A, cap, rfl, hcap, hcm, hrow⟩ := hc
  have hx : W.cell? ⟨bs, o, none⟩ = some (.slice A l.length cap) := hcell 0 _ rfl
  have hxl : XL X W := by obtain ⟨v, hv⟩ := hp; exact hv.xl
  have hn5 : l.length ≤ 100000 := hok.1
  have hoka : ∀ a ∈ l, Cd.ok txt a := hok.2
  have hput : (Ks.row txt).put l = numP l.length ++ manyP txt l := rfl
  rw [hput, List.length_append] at hlen
  rw [hput] at hq
  obtain ⟨n, hn⟩ : ∃ n, n = l.length := ⟨_, rfl⟩
  rw [← hn] at hx hcap hn5 hq hlen
  obtain ⟨q, hqq⟩ : ∃ q, q = numP n := ⟨_, rfl⟩
  have HA := Lib.hid (int_out (v0 := n) (bx := W.heap.size) (o := 0) (hp.alloc (.cells #[.int .i64 (n : Int)] 3)) (by rw [(cell_row (heap_alloc_new W _) 0).1]; rfl) ⟨by omega, by omega⟩ (by omega))
  have HFA := Lib.hid (Fr.later (X := X) (Later.alloc W (.cells #[.int .i64 (n : Int)] 3)))
  rw [← hqq] at hq hlen HA
  have HQ := Lib.hid hq
  have HL := Lib.hid hlen
  have HX := Lib.hid hX
  have HC := Lib.hid hx
  have HN := Lib.hid hn
  have HR := Lib.hid hrow
  have HOK := Lib.hid hoka
  have HNX := Lib.hid hN
  have HXL := Lib.hid hxl
  unfold one2
  clear hp hX hN hcell hok hoka hlen hq hxl hput hn hqq hrow hcm
  go_enter Try.func28, Try.ntmps28
  go_wp2_with (go_at_call 35; with_reducible refine HA.out.mono ?_; rintro e w1 ⟨rfl, h1, f1⟩; have q1 := h1.form; have f2 := HFA.out.trans f1.less; have hx := (fr_cell f2 HX.out HC.out).trans HC.out; have H1 := Lib.hid h1.less; have F1 := Lib.hid f2; clear h1 f1 f2)
  go_loopw [7, 29] (fun _ i wr => ∃ k : Nat, k ≤ n ∧ i = .int .i64 (k : Int) ∧ POE X wr g (b ++ q ++ manyP txt (l.take k)) ∧ Fr X W wr) (fun _ i _ => n - (intOf i).toNat)
  case atStart => exact ⟨0, by omega, rfl, by simpa [manyP] using H1.out, F1.out⟩
  case round =>
    clear hx q1
    obtain ⟨k, hk, rfl, hpo, hf⟩ := hrel
    have hx := (fr_cell hf HX.out HC.out).trans HC.out
    by_cases hlt : k < n
    · have hkl : k < l.length := by rw [← HN.out]; exact hlt
      obtain ⟨gA, oA, rfl, hgA, hlie⟩ := Row.lie HR.out (by omega) (by decide)
      obtain ⟨cs, hcs, hcl⟩ := hlie k hkl
      obtain ⟨y, hy⟩ : ∃ y, y = l[k] := ⟨_, rfl⟩
      rw [← hy] at hcs
      have hkeep := fr_all hf HNX.out HXL.out
      have hbl := many_le txt l k hkl
      have hlo := HL.out
      have HCA := Lib.hid (hF.go (bs := gA) (o := oA + k) (Q := fun W' => POE X W' g ((b ++ q ++ manyP txt (l.take k)) ++ Cd.put txt y) ∧ Fr X wr W') N hpo (HNX.out _ hgA) HNX.out (Rp.keep rtxt hcs hkeep) (fun j u hj => by
          have h5 := hcl j u hj
          have h6 := (hkeep _ (show Addr.block ⟨gA, oA + k * rtxt.wd + j, none⟩ < N from hgA)).trans h5
          rw [show Rp.wd rtxt = 1 from rfl, Nat.mul_one] at h6
          exact h6) (by rw [hy]; exact HOK.out _ (List.getElem_mem hkl)) (by rw [hy, List.length_append, List.length_append]; omega) (fun W' h1 h2 => ⟨h1, h2⟩))
      have HS := Lib.hid (show (b ++ q ++ manyP txt (l.take k)) ++ Cd.put txt y = b ++ q ++ manyP txt (l.take (k + 1)) by rw [List.append_assoc, many_snoc_put txt l k hkl, hy])
      have HF := Lib.hid hf
      have hk1 : (0 : Int) ≤ (k : Int) := by omega
      have hk2 : (k : Int) < (n : Int) := by omega
      clear hy hkeep hbl hlo hcs hcl hlie hgA hpo hf hkl
      unfold one1 at HCA
      go_wp2_with (go_at_call 29; with_reducible refine HCA.out.mono ?_; rintro e w2 ⟨rfl, h1, f1⟩; have H2 := Lib.hid h1; have F2 := Lib.hid (HF.out.trans f1); clear h1 f1)
      go_roundw
      case rel => exact ⟨k + 1, by omega, by go_num, by rw [← HS.out]; exact H2.out, F2.out⟩
      case measure => simp [intOf]; omega
    · have e : l.take k = l := by rw [List.take_of_length_le]; have := HN.out; omega
      rw [e, List.append_assoc] at hpo
      have HE := Lib.hid (HQ.out wr hpo hf)
      clear hpo hf e
      go_wp2
      go_end0
      exact ⟨rfl, HE.out⟩
theorem outR_nums (hF : OutS (one1 35) rnum num) : OutS (one2 34 35) (rrow rnum) (Ks.row num) := by
  refine ⟨fun {X W g bs o b cs l Q} N hp hX hN hc hcell hok hlen hq => ?_⟩
  obtain ⟨A, cap, rfl, hcap, hcm, hrow⟩ := hc
  have hx : W.cell? ⟨bs, o, none⟩ = some (.slice A l.length cap) := hcell 0 _ rfl
  have hxl : XL X W := by obtain ⟨v, hv⟩ := hp; exact hv.xl
  have hn5 : l.length ≤ 100000 := hok.1
  have hoka : ∀ a ∈ l, Cd.ok num a := hok.2
  have hput : (Ks.row num).put l = numP l.length ++ manyP num l := rfl
  rw [hput, List.length_append] at hlen
  rw [hput] at hq
  obtain ⟨n, hn⟩ : ∃ n, n = l.length := ⟨_, rfl⟩
  rw [← hn] at hx hcap hn5 hq hlen
  obtain ⟨q, hqq⟩ : ∃ q, q = numP n := ⟨_, rfl⟩
  have HA := Lib.hid (int_out (v0 := n) (bx := W.heap.size) (o := 0) (hp.alloc (.cells #[.int .i64 (n : Int)] 3)) (by rw [(cell_row (heap_alloc_new W _) 0).1]; rfl) ⟨by omega, by omega⟩ (by omega))
  have HFA := Lib.hid (Fr.later (X := X) (Later.alloc W (.cells #[.int .i64 (n : Int)] 3)))
  rw [← hqq] at hq hlen HA
  have HQ := Lib.hid hq
  have HL := Lib.hid hlen
  have HX := Lib.hid hX
  have HC := Lib.hid hx
  have HN := Lib.hid hn
  have HR := Lib.hid hrow
  have HOK := Lib.hid hoka
  have HNX := Lib.hid hN
  have HXL := Lib.hid hxl
  unfold one2
  clear hp hX hN hcell hok hoka hlen hq hxl hput hn hqq hrow hcm
  go_enter Try.func34, Try.ntmps34
  go_wp2_with (go_at_call 35; with_reducible refine HA.out.mono ?_; rintro e w1 ⟨rfl, h1, f1⟩; have q1 := h1.form; have f2 := HFA.out.trans f1.less; have hx := (fr_cell f2 HX.out HC.out).trans HC.out; have H1 := Lib.hid h1.less; have F1 := Lib.hid f2; clear h1 f1 f2)
  go_loopw [7, 29] (fun _ i wr => ∃ k : Nat, k ≤ n ∧ i = .int .i64 (k : Int) ∧ POE X wr g (b ++ q ++ manyP num (l.take k)) ∧ Fr X W wr) (fun _ i _ => n - (intOf i).toNat)
  case atStart => exact ⟨0, by omega, rfl, by simpa [manyP] using H1.out, F1.out⟩
  case round =>
    clear hx q1
    obtain ⟨k, hk, rfl, hpo, hf⟩ := hrel
    have hx := (fr_cell hf HX.out HC.out).trans HC.out
    by_cases hlt : k < n
    · have hkl : k < l.length := by rw [← HN.out]; exact hlt
      obtain ⟨gA, oA, rfl, hgA, hlie⟩ := Row.lie HR.out (by omega) (by decide)
      obtain ⟨cs, hcs, hcl⟩ := hlie k hkl
      obtain ⟨y, hy⟩ : ∃ y, y = l[k] := ⟨_, rfl⟩
      rw [← hy] at hcs
      have hkeep := fr_all hf HNX.out HXL.out
      have hbl := many_le num l k hkl
      have hlo := HL.out
      have HCA := Lib.hid (hF.go (bs := gA) (o := oA + k) (Q := fun W' => POE X W' g ((b ++ q ++ manyP num (l.take k)) ++ Cd.put num y) ∧ Fr X wr W') N hpo (HNX.out _ hgA) HNX.out (Rp.keep rnum hcs hkeep) (fun j u hj => by
          have h5 := hcl j u hj
          have h6 := (hkeep _ (show Addr.block ⟨gA, oA + k * rnum.wd + j, none⟩ < N from hgA)).trans h5
          rw [show Rp.wd rnum = 1 from rfl, Nat.mul_one] at h6
          exact h6) (by rw [hy]; exact HOK.out _ (List.getElem_mem hkl)) (by rw [hy, List.length_append, List.length_append]; omega) (fun W' h1 h2 => ⟨h1, h2⟩))
      have HS := Lib.hid (show (b ++ q ++ manyP num (l.take k)) ++ Cd.put num y = b ++ q ++ manyP num (l.take (k + 1)) by rw [List.append_assoc, many_snoc_put num l k hkl, hy])
      have HF := Lib.hid hf
      have hk1 : (0 : Int) ≤ (k : Int) := by omega
      have hk2 : (k : Int) < (n : Int) := by omega
      clear hy hkeep hbl hlo hcs hcl hlie hgA hpo hf hkl
      unfold one1 at HCA
      go_wp2_with (go_at_call 35; with_reducible refine HCA.out.mono ?_; rintro e w2 ⟨rfl, h1, f1⟩; have H2 := Lib.hid h1; have F2 := Lib.hid (HF.out.trans f1); clear h1 f1)
      go_roundw
      case rel => exact ⟨k + 1, by omega, by go_num, by rw [← HS.out]; exact H2.out, F2.out⟩
      case measure => simp [intOf]; omega
    · have e : l.take k = l := by rw [List.take_of_length_le]; have := HN.out; omega
      rw [e, List.append_assoc] at hpo
      have HE := Lib.hid (HQ.out wr hpo hf)
      clear hpo hf e
      go_wp2
      go_end0
      exact ⟨rfl, HE.out⟩
theorem outR_num64s (hF : OutS (one1 57) rnum num) : OutS (one2 56 57) (rrow rnum) (Ks.row num) := by
  refine ⟨fun {X W g bs o b cs l Q} N hp hX hN hc hcell hok hlen hq => ?_⟩
  obtain ⟨A, cap, rfl, hcap, hcm, hrow⟩ := hc
  have hx : W.cell? ⟨bs, o, none⟩ = some (.slice A l.length cap) := hcell 0 _ rfl
  have hxl : XL X W := by obtain ⟨v, hv⟩ := hp; exact hv.xl
  have hn5 : l.length ≤ 100000 := hok.1
  have hoka : ∀ a ∈ l, Cd.ok num a := hok.2
  have hput : (Ks.row num).put l = numP l.length ++ manyP num l := rfl
  rw [hput, List.length_append] at hlen
  rw [hput] at hq
  obtain ⟨n, hn⟩ : ∃ n, n = l.length := ⟨_, rfl⟩
  rw [← hn] at hx hcap hn5 hq hlen
  obtain ⟨q, hqq⟩ : ∃ q, q = numP n := ⟨_, rfl⟩
  have HA := Lib.hid (int_out (v0 := n) (bx := W.heap.size) (o := 0) (hp.alloc (.cells #[.int .i64 (n : Int)] 3)) (by rw [(cell_row (heap_alloc_new W _) 0).1]; rfl) ⟨by omega, by omega⟩ (by omega))
  have HFA := Lib.hid (Fr.later (X := X) (Later.alloc W (.cells #[.int .i64 (n : Int)] 3)))
  rw [← hqq] at hq hlen HA
  have HQ := Lib.hid hq
  have HL := Lib.hid hlen
  have HX := Lib.hid hX
  have HC := Lib.hid hx
  have HN := Lib.hid hn
  have HR := Lib.hid hrow
  have HOK := Lib.hid hoka
  have HNX := Lib.hid hN
  have HXL := Lib.hid hxl
  unfold one2
  clear hp hX hN hcell hok hoka hlen hq hxl hput hn hqq hrow hcm
  go_enter Try.func56, Try.ntmps56
  go_wp2_with (go_at_call 35; with_reducible refine HA.out.mono ?_; rintro e w1 ⟨rfl, h1, f1⟩; have q1 := h1.form; have f2 := HFA.out.trans f1.less; have hx := (fr_cell f2 HX.out HC.out).trans HC.out; have H1 := Lib.hid h1.less; have F1 := Lib.hid f2; clear h1 f1 f2)
  go_loopw [7, 29] (fun _ i wr => ∃ k : Nat, k ≤ n ∧ i = .int .i64 (k : Int) ∧ POE X wr g (b ++ q ++ manyP num (l.take k)) ∧ Fr X W wr) (fun _ i _ => n - (intOf i).toNat)
  case atStart => exact ⟨0, by omega, rfl, by simpa [manyP] using H1.out, F1.out⟩
  case round =>
    clear hx q1
    obtain ⟨k, hk, rfl, hpo, hf⟩ := hrel
    have hx := (fr_cell hf HX.out HC.out).trans HC.out
    by_cases hlt : k < n
    · have hkl : k < l.length := by rw [← HN.out]; exact hlt
      obtain ⟨gA, oA, rfl, hgA, hlie⟩ := Row.lie HR.out (by omega) (by decide)
      obtain ⟨cs, hcs, hcl⟩ := hlie k hkl
      obtain ⟨y, hy⟩ : ∃ y, y = l[k] := ⟨_, rfl⟩
      rw [← hy] at hcs
      have hkeep := fr_all hf HNX.out HXL.out
      have hbl := many_le num l k hkl
      have hlo := HL.out
      have HCA := Lib.hid (hF.go (bs := gA) (o := oA + k) (Q := fun W' => POE X W' g ((b ++ q ++ manyP num (l.take k)) ++ Cd.put num y) ∧ Fr X wr W') N hpo (HNX.out _ hgA) HNX.out (Rp.keep rnum hcs hkeep) (fun j u hj => by
          have h5 := hcl j u hj
          have h6 := (hkeep _ (show Addr.block ⟨gA, oA + k * rnum.wd + j, none⟩ < N from hgA)).trans h5
          rw [show Rp.wd rnum = 1 from rfl, Nat.mul_one] at h6
          exact h6) (by rw [hy]; exact HOK.out _ (List.getElem_mem hkl)) (by rw [hy, List.length_append, List.length_append]; omega) (fun W' h1 h2 => ⟨h1, h2⟩))
      have HS := Lib.hid (show (b ++ q ++ manyP num (l.take k)) ++ Cd.put num y = b ++ q ++ manyP num (l.take (k + 1)) by rw [List.append_assoc, many_snoc_put num l k hkl, hy])
      have HF := Lib.hid hf
      have hk1 : (0 : Int) ≤ (k : Int) := by omega
      have hk2 : (k : Int) < (n : Int) := by omega
      clear hy hkeep hbl hlo hcs hcl hlie hgA hpo hf hkl
      unfold one1 at HCA
      go_wp2_with (go_at_call 57; with_reducible refine HCA.out.mono ?_; rintro e w2 ⟨rfl, h1, f1⟩; have H2 := Lib.hid h1; have F2 := Lib.hid (HF.out.trans f1); clear h1 f1)
      go_roundw
      case rel => exact ⟨k + 1, by omega, by go_num, by rw [← HS.out]; exact H2.out, F2.out⟩
      case measure => simp [intOf]; omega
    · have e : l.take k = l := by rw [List.take_of_length_le]; have := HN.out; omega
      rw [e, List.append_assoc] at hpo
      have HE := Lib.hid (HQ.out wr hpo hf)
      clear hpo hf e
      go_wp2
      go_end0
      exact ⟨rfl, HE.out⟩
theorem outR_vars (hF : OutS (one1 67) prR prC) : OutS (one2 66 67) (rrow prR) (Ks.row prC) := by
  refine ⟨fun {X W g bs o b cs l Q} N hp hX hN hc hcell hok hlen hq => ?_⟩
  obtain ⟨A, cap, rfl, hcap, hcm, hrow⟩ := hc
  have hx : W.cell? ⟨bs, o, none⟩ = some (.slice A l.length cap) := hcell 0 _ rfl
  have hxl : XL X W := by obtain ⟨v, hv⟩ := hp; exact hv.xl
  have hn5 : l.length ≤ 100000 := hok.1
  have hoka : ∀ a ∈ l, Cd.ok prC a := hok.2
  have hput : (Ks.row prC).put l = numP l.length ++ manyP prC l := rfl
  rw [hput, List.length_append] at hlen
  rw [hput] at hq
  obtain ⟨n, hn⟩ : ∃ n, n = l.length := ⟨_, rfl⟩
  rw [← hn] at hx hcap hn5 hq hlen
  obtain ⟨q, hqq⟩ : ∃ q, q = numP n := ⟨_, rfl⟩
  have HA := Lib.hid (int_out (v0 := n) (bx := W.heap.size) (o := 0) (hp.alloc (.cells #[.int .i64 (n : Int)] 3)) (by rw [(cell_row (heap_alloc_new W _) 0).1]; rfl) ⟨by omega, by omega⟩ (by omega))
  have HFA := Lib.hid (Fr.later (X := X) (Later.alloc W (.cells #[.int .i64 (n : Int)] 3)))
  rw [← hqq] at hq hlen HA
  have HQ := Lib.hid hq
  have HL := Lib.hid hlen
  have HX := Lib.hid hX
  have HC := Lib.hid hx
  have HN := Lib.hid hn
  have HR := Lib.hid hrow
  have HOK := Lib.hid hoka
  have HNX := Lib.hid hN
  have HXL := Lib.hid hxl
  unfold one2
  clear hp hX hN hcell hok hoka hlen hq hxl hput hn hqq hrow hcm
  go_enter Try.func66, Try.ntmps66
  go_wp2_with (go_at_call 35; with_reducible refine HA.out.mono ?_; rintro e w1 ⟨rfl, h1, f1⟩; have q1 := h1.form; have f2 := HFA.out.trans f1.less; have hx := (fr_cell f2 HX.out HC.out).trans HC.out; have H1 := Lib.hid h1.less; have F1 := Lib.hid f2; clear h1 f1 f2)
  go_loopw [7, 29] (fun _ i wr => ∃ k : Nat, k ≤ n ∧ i = .int .i64 (k : Int) ∧ POE X wr g (b ++ q ++ manyP prC (l.take k)) ∧ Fr X W wr) (fun _ i _ => n - (intOf i).toNat)
  case atStart => exact ⟨0, by omega, rfl, by simpa [manyP] using H1.out, F1.out⟩
  case round =>
    clear hx q1
    obtain ⟨k, hk, rfl, hpo, hf⟩ := hrel
    have hx := (fr_cell hf HX.out HC.out).trans HC.out
    by_cases hlt : k < n
    · have hkl : k < l.length := by rw [← HN.out]; exact hlt
      obtain ⟨gA, oA, rfl, hgA, hlie⟩ := Row.lie HR.out (by omega) (by decide)
      obtain ⟨cs, hcs, hcl⟩ := hlie k hkl
      obtain ⟨y, hy⟩ : ∃ y, y = l[k] := ⟨_, rfl⟩
      rw [← hy] at hcs
      have hkeep := fr_all hf HNX.out HXL.out
      have hbl := many_le prC l k hkl
      have hlo := HL.out
      have HCA := Lib.hid (hF.go (bs := gA) (o := oA + k * 2) (Q := fun W' => POE X W' g ((b ++ q ++ manyP prC (l.take k)) ++ Cd.put prC y) ∧ Fr X wr W') N hpo (HNX.out _ hgA) HNX.out (Rp.keep prR hcs hkeep) (fun j u hj => by
          have h5 := hcl j u hj
          have h6 := (hkeep _ (show Addr.block ⟨gA, oA + k * prR.wd + j, none⟩ < N from hgA)).trans h5
          rw [show Rp.wd prR = 2 from rfl] at h6
          exact h6) (by rw [hy]; exact HOK.out _ (List.getElem_mem hkl)) (by rw [hy, List.length_append, List.length_append]; omega) (fun W' h1 h2 => ⟨h1, h2⟩))
      have HS := Lib.hid (show (b ++ q ++ manyP prC (l.take k)) ++ Cd.put prC y = b ++ q ++ manyP prC (l.take (k + 1)) by rw [List.append_assoc, many_snoc_put prC l k hkl, hy])
      have HF := Lib.hid hf
      have hk1 : (0 : Int) ≤ (k : Int) := by omega
      have hk2 : (k : Int) < (n : Int) := by omega
      clear hy hkeep hbl hlo hcs hcl hlie hgA hpo hf hkl
      unfold one1 at HCA
      go_wp2_with (go_at_call 67; with_reducible refine HCA.out.mono ?_; rintro e w2 ⟨rfl, h1, f1⟩; have H2 := Lib.hid h1; have F2 := Lib.hid (HF.out.trans f1); clear h1 f1)
      go_roundw
      case rel => exact ⟨k + 1, by omega, by go_num, by rw [← HS.out]; exact H2.out, F2.out⟩
      case measure => simp [intOf]; omega
    · have e : l.take k = l := by rw [List.take_of_length_le]; have := HN.out; omega
      rw [e, List.append_assoc] at hpo
      have HE := Lib.hid (HQ.out wr hpo hf)
      clear hpo hf e
      go_wp2
      go_end0
      exact ⟨rfl, HE.out⟩
theorem outR_rows (hF : OutS (one1 59) prR prC) : OutS (one2 58 59) (rrow prR) (Ks.row prC) := by
  refine ⟨fun {X W g bs o b cs l Q} N hp hX hN hc hcell hok hlen hq => ?_⟩
  obtain ⟨A, cap, rfl, hcap, hcm, hrow⟩ := hc
  have hx : W.cell? ⟨bs, o, none⟩ = some (.slice A l.length cap) := hcell 0 _ rfl
  have hxl : XL X W := by obtain ⟨v, hv⟩ := hp; exact hv.xl
  have hn5 : l.length ≤ 100000 := hok.1
  have hoka : ∀ a ∈ l, Cd.ok prC a := hok.2
  have hput : (Ks.row prC).put l = numP l.length ++ manyP prC l := rfl
  rw [hput, List.length_append] at hlen
  rw [hput] at hq
  obtain ⟨n, hn⟩ : ∃ n, n = l.length := ⟨_, rfl⟩
  rw [← hn] at hx hcap hn5 hq hlen
  obtain ⟨q, hqq⟩ : ∃ q, q = numP n := ⟨_, rfl⟩
  have HA := Lib.hid (int_out (v0 := n) (bx := W.heap.size) (o := 0) (hp.alloc (.cells #[.int .i64 (n : Int)] 3)) (by rw [(cell_row (heap_alloc_new W _) 0).1]; rfl) ⟨by omega, by omega⟩ (by omega))
  have HFA := Lib.hid (Fr.later (X := X) (Later.alloc W (.cells #[.int .i64 (n : Int)] 3)))
  rw [← hqq] at hq hlen HA
  have HQ := Lib.hid hq
  have HL := Lib.hid hlen
  have HX := Lib.hid hX
  have HC := Lib.hid hx
  have HN := Lib.hid hn
  have HR := Lib.hid hrow
  have HOK := Lib.hid hoka
  have HNX := Lib.hid hN
  have HXL := Lib.hid hxl
  unfold one2
  clear hp hX hN hcell hok hoka hlen hq hxl hput hn hqq hrow hcm
  go_enter Try.func58, Try.ntmps58
  go_wp2_with (go_at_call 35; with_reducible refine HA.out.mono ?_; rintro e w1 ⟨rfl, h1, f1⟩; have q1 := h1.form; have f2 := HFA.out.trans f1.less; have hx := (fr_cell f2 HX.out HC.out).trans HC.out; have H1 := Lib.hid h1.less; have F1 := Lib.hid f2; clear h1 f1 f2)
  go_loopw [7, 29] (fun _ i wr => ∃ k : Nat, k ≤ n ∧ i = .int .i64 (k : Int) ∧ POE X wr g (b ++ q ++ manyP prC (l.take k)) ∧ Fr X W wr) (fun _ i _ => n - (intOf i).toNat)
  case atStart => exact ⟨0, by omega, rfl, by simpa [manyP] using H1.out, F1.out⟩
  case round =>
    clear hx q1
    obtain ⟨k, hk, rfl, hpo, hf⟩ := hrel
    have hx := (fr_cell hf HX.out HC.out).trans HC.out
    by_cases hlt : k < n
    · have hkl : k < l.length := by rw [← HN.out]; exact hlt
      obtain ⟨gA, oA, rfl, hgA, hlie⟩ := Row.lie HR.out (by omega) (by decide)
      obtain ⟨cs, hcs, hcl⟩ := hlie k hkl
      obtain ⟨y, hy⟩ : ∃ y, y = l[k] := ⟨_, rfl⟩
      rw [← hy] at hcs
      have hkeep := fr_all hf HNX.out HXL.out
      have hbl := many_le prC l k hkl
      have hlo := HL.out
      have HCA := Lib.hid (hF.go (bs := gA) (o := oA + k * 2) (Q := fun W' => POE X W' g ((b ++ q ++ manyP prC (l.take k)) ++ Cd.put prC y) ∧ Fr X wr W') N hpo (HNX.out _ hgA) HNX.out (Rp.keep prR hcs hkeep) (fun j u hj => by
          have h5 := hcl j u hj
          have h6 := (hkeep _ (show Addr.block ⟨gA, oA + k * prR.wd + j, none⟩ < N from hgA)).trans h5
          rw [show Rp.wd prR = 2 from rfl] at h6
          exact h6) (by rw [hy]; exact HOK.out _ (List.getElem_mem hkl)) (by rw [hy, List.length_append, List.length_append]; omega) (fun W' h1 h2 => ⟨h1, h2⟩))
      have HS := Lib.hid (show (b ++ q ++ manyP prC (l.take k)) ++ Cd.put prC y = b ++ q ++ manyP prC (l.take (k + 1)) by rw [List.append_assoc, many_snoc_put prC l k hkl, hy])
      have HF := Lib.hid hf
      have hk1 : (0 : Int) ≤ (k : Int) := by omega
      have hk2 : (k : Int) < (n : Int) := by omega
      clear hy hkeep hbl hlo hcs hcl hlie hgA hpo hf hkl
      unfold one1 at HCA
      go_wp2_with (go_at_call 59; with_reducible refine HCA.out.mono ?_; rintro e w2 ⟨rfl, h1, f1⟩; have H2 := Lib.hid h1; have F2 := Lib.hid (HF.out.trans f1); clear h1 f1)
      go_roundw
      case rel => exact ⟨k + 1, by omega, by go_num, by rw [← HS.out]; exact H2.out, F2.out⟩
      case measure => simp [intOf]; omega
    · have e : l.take k = l := by rw [List.take_of_length_le]; have := HN.out; omega
      rw [e, List.append_assoc] at hpo
      have HE := Lib.hid (HQ.out wr hpo hf)
      clear hpo hf e
      go_wp2
      go_end0
      exact ⟨rfl, HE.out⟩
theorem outR_fns (hF : OutS (one1 46) fnR fnC) : OutS (one2 45 46) (rrow fnR) (Ks.row fnC) := by
  refine ⟨fun {X W g bs o b cs l Q} N hp hX hN hc hcell hok hlen hq => ?_⟩
  obtain ⟨A, cap, rfl, hcap, hcm, hrow⟩ := hc
  have hx : W.cell? ⟨bs, o, none⟩ = some (.slice A l.length cap) := hcell 0 _ rfl
  have hxl : XL X W := by obtain ⟨v, hv⟩ := hp; exact hv.xl
  have hn5 : l.length ≤ 100000 := hok.1
  have hoka : ∀ a ∈ l, Cd.ok fnC a := hok.2
  have hput : (Ks.row fnC).put l = numP l.length ++ manyP fnC l := rfl
  rw [hput, List.length_append] at hlen
  rw [hput] at hq
  obtain ⟨n, hn⟩ : ∃ n, n = l.length := ⟨_, rfl⟩
  rw [← hn] at hx hcap hn5 hq hlen
  obtain ⟨q, hqq⟩ : ∃ q, q = numP n := ⟨_, rfl⟩
  have HA := Lib.hid (int_out (v0 := n) (bx := W.heap.size) (o := 0) (hp.alloc (.cells #[.int .i64 (n : Int)] 3)) (by rw [(cell_row (heap_alloc_new W _) 0).1]; rfl) ⟨by omega, by omega⟩ (by omega))
  have HFA := Lib.hid (Fr.later (X := X) (Later.alloc W (.cells #[.int .i64 (n : Int)] 3)))
  rw [← hqq] at hq hlen HA
  have HQ := Lib.hid hq
  have HL := Lib.hid hlen
  have HX := Lib.hid hX
  have HC := Lib.hid hx
  have HN := Lib.hid hn
  have HR := Lib.hid hrow
  have HOK := Lib.hid hoka
  have HNX := Lib.hid hN
  have HXL := Lib.hid hxl
  unfold one2
  clear hp hX hN hcell hok hoka hlen hq hxl hput hn hqq hrow hcm
  go_enter Try.func45, Try.ntmps45
  go_wp2_with (go_at_call 35; with_reducible refine HA.out.mono ?_; rintro e w1 ⟨rfl, h1, f1⟩; have q1 := h1.form; have f2 := HFA.out.trans f1.less; have hx := (fr_cell f2 HX.out HC.out).trans HC.out; have H1 := Lib.hid h1.less; have F1 := Lib.hid f2; clear h1 f1 f2)
  go_loopw [7, 29] (fun _ i wr => ∃ k : Nat, k ≤ n ∧ i = .int .i64 (k : Int) ∧ POE X wr g (b ++ q ++ manyP fnC (l.take k)) ∧ Fr X W wr) (fun _ i _ => n - (intOf i).toNat)
  case atStart => exact ⟨0, by omega, rfl, by simpa [manyP] using H1.out, F1.out⟩
  case round =>
    clear hx q1
    obtain ⟨k, hk, rfl, hpo, hf⟩ := hrel
    have hx := (fr_cell hf HX.out HC.out).trans HC.out
    by_cases hlt : k < n
    · have hkl : k < l.length := by rw [← HN.out]; exact hlt
      obtain ⟨gA, oA, rfl, hgA, hlie⟩ := Row.lie HR.out (by omega) (by decide)
      obtain ⟨cs, hcs, hcl⟩ := hlie k hkl
      obtain ⟨y, hy⟩ : ∃ y, y = l[k] := ⟨_, rfl⟩
      rw [← hy] at hcs
      have hkeep := fr_all hf HNX.out HXL.out
      have hbl := many_le fnC l k hkl
      have hlo := HL.out
      have HCA := Lib.hid (hF.go (bs := gA) (o := oA + k * 3) (Q := fun W' => POE X W' g ((b ++ q ++ manyP fnC (l.take k)) ++ Cd.put fnC y) ∧ Fr X wr W') N hpo (HNX.out _ hgA) HNX.out (Rp.keep fnR hcs hkeep) (fun j u hj => by
          have h5 := hcl j u hj
          have h6 := (hkeep _ (show Addr.block ⟨gA, oA + k * fnR.wd + j, none⟩ < N from hgA)).trans h5
          rw [show Rp.wd fnR = 3 from rfl] at h6
          exact h6) (by rw [hy]; exact HOK.out _ (List.getElem_mem hkl)) (by rw [hy, List.length_append, List.length_append]; omega) (fun W' h1 h2 => ⟨h1, h2⟩))
      have HS := Lib.hid (show (b ++ q ++ manyP fnC (l.take k)) ++ Cd.put fnC y = b ++ q ++ manyP fnC (l.take (k + 1)) by rw [List.append_assoc, many_snoc_put fnC l k hkl, hy])
      have HF := Lib.hid hf
      have hk1 : (0 : Int) ≤ (k : Int) := by omega
      have hk2 : (k : Int) < (n : Int) := by omega
      clear hy hkeep hbl hlo hcs hcl hlie hgA hpo hf hkl
      unfold one1 at HCA
      go_wp2_with (go_at_call 46; with_reducible refine HCA.out.mono ?_; rintro e w2 ⟨rfl, h1, f1⟩; have H2 := Lib.hid h1; have F2 := Lib.hid (HF.out.trans f1); clear h1 f1)
      go_roundw
      case rel => exact ⟨k + 1, by omega, by go_num, by rw [← HS.out]; exact H2.out, F2.out⟩
      case measure => simp [intOf]; omega
    · have e : l.take k = l := by rw [List.take_of_length_le]; have := HN.out; omega
      rw [e, List.append_assoc] at hpo
      have HE := Lib.hid (HQ.out wr hpo hf)
      clear hpo hf e
      go_wp2
      go_end0
      exact ⟨rfl, HE.out⟩
theorem outR_traps (hF : OutS (one1 48) tpR tpC) : OutS (one2 47 48) (rrow tpR) (Ks.row tpC) := by
  refine ⟨fun {X W g bs o b cs l Q} N hp hX hN hc hcell hok hlen hq => ?_⟩
  obtain ⟨A, cap, rfl, hcap, hcm, hrow⟩ := hc
  have hx : W.cell? ⟨bs, o, none⟩ = some (.slice A l.length cap) := hcell 0 _ rfl
  have hxl : XL X W := by obtain ⟨v, hv⟩ := hp; exact hv.xl
  have hn5 : l.length ≤ 100000 := hok.1
  have hoka : ∀ a ∈ l, Cd.ok tpC a := hok.2
  have hput : (Ks.row tpC).put l = numP l.length ++ manyP tpC l := rfl
  rw [hput, List.length_append] at hlen
  rw [hput] at hq
  obtain ⟨n, hn⟩ : ∃ n, n = l.length := ⟨_, rfl⟩
  rw [← hn] at hx hcap hn5 hq hlen
  obtain ⟨q, hqq⟩ : ∃ q, q = numP n := ⟨_, rfl⟩
  have HA := Lib.hid (int_out (v0 := n) (bx := W.heap.size) (o := 0) (hp.alloc (.cells #[.int .i64 (n : Int)] 3)) (by rw [(cell_row (heap_alloc_new W _) 0).1]; rfl) ⟨by omega, by omega⟩ (by omega))
  have HFA := Lib.hid (Fr.later (X := X) (Later.alloc W (.cells #[.int .i64 (n : Int)] 3)))
  rw [← hqq] at hq hlen HA
  have HQ := Lib.hid hq
  have HL := Lib.hid hlen
  have HX := Lib.hid hX
  have HC := Lib.hid hx
  have HN := Lib.hid hn
  have HR := Lib.hid hrow
  have HOK := Lib.hid hoka
  have HNX := Lib.hid hN
  have HXL := Lib.hid hxl
  unfold one2
  clear hp hX hN hcell hok hoka hlen hq hxl hput hn hqq hrow hcm
  go_enter Try.func47, Try.ntmps47
  go_wp2_with (go_at_call 35; with_reducible refine HA.out.mono ?_; rintro e w1 ⟨rfl, h1, f1⟩; have q1 := h1.form; have f2 := HFA.out.trans f1.less; have hx := (fr_cell f2 HX.out HC.out).trans HC.out; have H1 := Lib.hid h1.less; have F1 := Lib.hid f2; clear h1 f1 f2)
  go_loopw [7, 29] (fun _ i wr => ∃ k : Nat, k ≤ n ∧ i = .int .i64 (k : Int) ∧ POE X wr g (b ++ q ++ manyP tpC (l.take k)) ∧ Fr X W wr) (fun _ i _ => n - (intOf i).toNat)
  case atStart => exact ⟨0, by omega, rfl, by simpa [manyP] using H1.out, F1.out⟩
  case round =>
    clear hx q1
    obtain ⟨k, hk, rfl, hpo, hf⟩ := hrel
    have hx := (fr_cell hf HX.out HC.out).trans HC.out
    by_cases hlt : k < n
    · have hkl : k < l.length := by rw [← HN.out]; exact hlt
      obtain ⟨gA, oA, rfl, hgA, hlie⟩ := Row.lie HR.out (by omega) (by decide)
      obtain ⟨cs, hcs, hcl⟩ := hlie k hkl
      obtain ⟨y, hy⟩ : ∃ y, y = l[k] := ⟨_, rfl⟩
      rw [← hy] at hcs
      have hkeep := fr_all hf HNX.out HXL.out
      have hbl := many_le tpC l k hkl
      have hlo := HL.out
      have HCA := Lib.hid (hF.go (bs := gA) (o := oA + k * 2) (Q := fun W' => POE X W' g ((b ++ q ++ manyP tpC (l.take k)) ++ Cd.put tpC y) ∧ Fr X wr W') N hpo (HNX.out _ hgA) HNX.out (Rp.keep tpR hcs hkeep) (fun j u hj => by
          have h5 := hcl j u hj
          have h6 := (hkeep _ (show Addr.block ⟨gA, oA + k * tpR.wd + j, none⟩ < N from hgA)).trans h5
          rw [show Rp.wd tpR = 2 from rfl] at h6
          exact h6) (by rw [hy]; exact HOK.out _ (List.getElem_mem hkl)) (by rw [hy, List.length_append, List.length_append]; omega) (fun W' h1 h2 => ⟨h1, h2⟩))
      have HS := Lib.hid (show (b ++ q ++ manyP tpC (l.take k)) ++ Cd.put tpC y = b ++ q ++ manyP tpC (l.take (k + 1)) by rw [List.append_assoc, many_snoc_put tpC l k hkl, hy])
      have HF := Lib.hid hf
      have hk1 : (0 : Int) ≤ (k : Int) := by omega
      have hk2 : (k : Int) < (n : Int) := by omega
      clear hy hkeep hbl hlo hcs hcl hlie hgA hpo hf hkl
      unfold one1 at HCA
      go_wp2_with (go_at_call 48; with_reducible refine HCA.out.mono ?_; rintro e w2 ⟨rfl, h1, f1⟩; have H2 := Lib.hid h1; have F2 := Lib.hid (HF.out.trans f1); clear h1 f1)
      go_roundw
      case rel => exact ⟨k + 1, by omega, by go_num, by rw [← HS.out]; exact H2.out, F2.out⟩
      case measure => simp [intOf]; omega
    · have e : l.take k = l := by rw [List.take_of_length_le]; have := HN.out; omega
      rw [e, List.append_assoc] at hpo
      have HE := Lib.hid (HQ.out wr hpo hf)
      clear hpo hf e
      go_wp2
      go_end0
      exact ⟨rfl, HE.out⟩
theorem outR_fds (hF : OutS (one1 50) fdR fdC) : OutS (one2 49 50) (rrow fdR) (Ks.row fdC) := by
  refine ⟨fun {X W g bs o b cs l Q} N hp hX hN hc hcell hok hlen hq => ?_⟩
  obtain ⟨A, cap, rfl, hcap, hcm, hrow⟩ := hc
  have hx : W.cell? ⟨bs, o, none⟩ = some (.slice A l.length cap) := hcell 0 _ rfl
  have hxl : XL X W := by obtain ⟨v, hv⟩ := hp; exact hv.xl
  have hn5 : l.length ≤ 100000 := hok.1
  have hoka : ∀ a ∈ l, Cd.ok fdC a := hok.2
  have hput : (Ks.row fdC).put l = numP l.length ++ manyP fdC l := rfl
  rw [hput, List.length_append] at hlen
  rw [hput] at hq
  obtain ⟨n, hn⟩ : ∃ n, n = l.length := ⟨_, rfl⟩
  rw [← hn] at hx hcap hn5 hq hlen
  obtain ⟨q, hqq⟩ : ∃ q, q = numP n := ⟨_, rfl⟩
  have HA := Lib.hid (int_out (v0 := n) (bx := W.heap.size) (o := 0) (hp.alloc (.cells #[.int .i64 (n : Int)] 3)) (by rw [(cell_row (heap_alloc_new W _) 0).1]; rfl) ⟨by omega, by omega⟩ (by omega))
  have HFA := Lib.hid (Fr.later (X := X) (Later.alloc W (.cells #[.int .i64 (n : Int)] 3)))
  rw [← hqq] at hq hlen HA
  have HQ := Lib.hid hq
  have HL := Lib.hid hlen
  have HX := Lib.hid hX
  have HC := Lib.hid hx
  have HN := Lib.hid hn
  have HR := Lib.hid hrow
  have HOK := Lib.hid hoka
  have HNX := Lib.hid hN
  have HXL := Lib.hid hxl
  unfold one2
  clear hp hX hN hcell hok hoka hlen hq hxl hput hn hqq hrow hcm
  go_enter Try.func49, Try.ntmps49
  go_wp2_with (go_at_call 35; with_reducible refine HA.out.mono ?_; rintro e w1 ⟨rfl, h1, f1⟩; have q1 := h1.form; have f2 := HFA.out.trans f1.less; have hx := (fr_cell f2 HX.out HC.out).trans HC.out; have H1 := Lib.hid h1.less; have F1 := Lib.hid f2; clear h1 f1 f2)
  go_loopw [7, 29] (fun _ i wr => ∃ k : Nat, k ≤ n ∧ i = .int .i64 (k : Int) ∧ POE X wr g (b ++ q ++ manyP fdC (l.take k)) ∧ Fr X W wr) (fun _ i _ => n - (intOf i).toNat)
  case atStart => exact ⟨0, by omega, rfl, by simpa [manyP] using H1.out, F1.out⟩
  case round =>
    clear hx q1
    obtain ⟨k, hk, rfl, hpo, hf⟩ := hrel
    have hx := (fr_cell hf HX.out HC.out).trans HC.out
    by_cases hlt : k < n
    · have hkl : k < l.length := by rw [← HN.out]; exact hlt
      obtain ⟨gA, oA, rfl, hgA, hlie⟩ := Row.lie HR.out (by omega) (by decide)
      obtain ⟨cs, hcs, hcl⟩ := hlie k hkl
      obtain ⟨y, hy⟩ : ∃ y, y = l[k] := ⟨_, rfl⟩
      rw [← hy] at hcs
      have hkeep := fr_all hf HNX.out HXL.out
      have hbl := many_le fdC l k hkl
      have hlo := HL.out
      have HCA := Lib.hid (hF.go (bs := gA) (o := oA + k * 2) (Q := fun W' => POE X W' g ((b ++ q ++ manyP fdC (l.take k)) ++ Cd.put fdC y) ∧ Fr X wr W') N hpo (HNX.out _ hgA) HNX.out (Rp.keep fdR hcs hkeep) (fun j u hj => by
          have h5 := hcl j u hj
          have h6 := (hkeep _ (show Addr.block ⟨gA, oA + k * fdR.wd + j, none⟩ < N from hgA)).trans h5
          rw [show Rp.wd fdR = 2 from rfl] at h6
          exact h6) (by rw [hy]; exact HOK.out _ (List.getElem_mem hkl)) (by rw [hy, List.length_append, List.length_append]; omega) (fun W' h1 h2 => ⟨h1, h2⟩))
      have HS := Lib.hid (show (b ++ q ++ manyP fdC (l.take k)) ++ Cd.put fdC y = b ++ q ++ manyP fdC (l.take (k + 1)) by rw [List.append_assoc, many_snoc_put fdC l k hkl, hy])
      have HF := Lib.hid hf
      have hk1 : (0 : Int) ≤ (k : Int) := by omega
      have hk2 : (k : Int) < (n : Int) := by omega
      clear hy hkeep hbl hlo hcs hcl hlie hgA hpo hf hkl
      unfold one1 at HCA
      go_wp2_with (go_at_call 50; with_reducible refine HCA.out.mono ?_; rintro e w2 ⟨rfl, h1, f1⟩; have H2 := Lib.hid h1; have F2 := Lib.hid (HF.out.trans f1); clear h1 f1)
      go_roundw
      case rel => exact ⟨k + 1, by omega, by go_num, by rw [← HS.out]; exact H2.out, F2.out⟩
      case measure => simp [intOf]; omega
    · have e : l.take k = l := by rw [List.take_of_length_le]; have := HN.out; omega
      rw [e, List.append_assoc] at hpo
      have HE := Lib.hid (HQ.out wr hpo hf)
      clear hpo hf e
      go_wp2
      go_end0
      exact ⟨rfl, HE.out⟩
theorem outR_frames (hF : OutS (one1 31) fmR fmC) : OutS (one2 30 31) (rrow fmR) (Ks.row fmC) := by
  refine ⟨fun {X W g bs o b cs l Q} N hp hX hN hc hcell hok hlen hq => ?_⟩
  obtain ⟨A, cap, rfl, hcap, hcm, hrow⟩ := hc
  have hx : W.cell? ⟨bs, o, none⟩ = some (.slice A l.length cap) := hcell 0 _ rfl
  have hxl : XL X W := by obtain ⟨v, hv⟩ := hp; exact hv.xl
  have hn5 : l.length ≤ 100000 := hok.1
  have hoka : ∀ a ∈ l, Cd.ok fmC a := hok.2
  have hput : (Ks.row fmC).put l = numP l.length ++ manyP fmC l := rfl
  rw [hput, List.length_append] at hlen
  rw [hput] at hq
  obtain ⟨n, hn⟩ : ∃ n, n = l.length := ⟨_, rfl⟩
  rw [← hn] at hx hcap hn5 hq hlen
  obtain ⟨q, hqq⟩ : ∃ q, q = numP n := ⟨_, rfl⟩
  have HA := Lib.hid (int_out (v0 := n) (bx := W.heap.size) (o := 0) (hp.alloc (.cells #[.int .i64 (n : Int)] 3)) (by rw [(cell_row (heap_alloc_new W _) 0).1]; rfl) ⟨by omega, by omega⟩ (by omega))
  have HFA := Lib.hid (Fr.later (X := X) (Later.alloc W (.cells #[.int .i64 (n : Int)] 3)))
  rw [← hqq] at hq hlen HA
  have HQ := Lib.hid hq
  have HL := Lib.hid hlen
  have HX := Lib.hid hX
  have HC := Lib.hid hx
  have HN := Lib.hid hn
  have HR := Lib.hid hrow
  have HOK := Lib.hid hoka
  have HNX := Lib.hid hN
  have HXL := Lib.hid hxl
  unfold one2
  clear hp hX hN hcell hok hoka hlen hq hxl hput hn hqq hrow hcm
  go_enter Try.func30, Try.ntmps30
  go_wp2_with (go_at_call 35; with_reducible refine HA.out.mono ?_; rintro e w1 ⟨rfl, h1, f1⟩; have q1 := h1.form; have f2 := HFA.out.trans f1.less; have hx := (fr_cell f2 HX.out HC.out).trans HC.out; have H1 := Lib.hid h1.less; have F1 := Lib.hid f2; clear h1 f1 f2)
  go_loopw [7, 29] (fun _ i wr => ∃ k : Nat, k ≤ n ∧ i = .int .i64 (k : Int) ∧ POE X wr g (b ++ q ++ manyP fmC (l.take k)) ∧ Fr X W wr) (fun _ i _ => n - (intOf i).toNat)
  case atStart => exact ⟨0, by omega, rfl, by simpa [manyP] using H1.out, F1.out⟩
  case round =>
    clear hx q1
    obtain ⟨k, hk, rfl, hpo, hf⟩ := hrel
    have hx := (fr_cell hf HX.out HC.out).trans HC.out
    by_cases hlt : k < n
    · have hkl : k < l.length := by rw [← HN.out]; exact hlt
      obtain ⟨gA, oA, rfl, hgA, hlie⟩ := Row.lie HR.out (by omega) (by decide)
      obtain ⟨cs, hcs, hcl⟩ := hlie k hkl
      obtain ⟨y, hy⟩ : ∃ y, y = l[k] := ⟨_, rfl⟩
      rw [← hy] at hcs
      have hkeep := fr_all hf HNX.out HXL.out
      have hbl := many_le fmC l k hkl
      have hlo := HL.out
      have HCA := Lib.hid (hF.go (bs := gA) (o := oA + k * 19) (Q := fun W' => POE X W' g ((b ++ q ++ manyP fmC (l.take k)) ++ Cd.put fmC y) ∧ Fr X wr W') N hpo (HNX.out _ hgA) HNX.out (Rp.keep fmR hcs hkeep) (fun j u hj => by
          have h5 := hcl j u hj
          have h6 := (hkeep _ (show Addr.block ⟨gA, oA + k * fmR.wd + j, none⟩ < N from hgA)).trans h5
          rw [show Rp.wd fmR = 19 from rfl] at h6
          exact h6) (by rw [hy]; exact HOK.out _ (List.getElem_mem hkl)) (by rw [hy, List.length_append, List.length_append]; omega) (fun W' h1 h2 => ⟨h1, h2⟩))
      have HS := Lib.hid (show (b ++ q ++ manyP fmC (l.take k)) ++ Cd.put fmC y = b ++ q ++ manyP fmC (l.take (k + 1)) by rw [List.append_assoc, many_snoc_put fmC l k hkl, hy])
      have HF := Lib.hid hf
      have hk1 : (0 : Int) ≤ (k : Int) := by omega
      have hk2 : (k : Int) < (n : Int) := by omega
      clear hy hkeep hbl hlo hcs hcl hlie hgA hpo hf hkl
      unfold one1 at HCA
      go_wp2_with (go_at_call 31; with_reducible refine HCA.out.mono ?_; rintro e w2 ⟨rfl, h1, f1⟩; have H2 := Lib.hid h1; have F2 := Lib.hid (HF.out.trans f1); clear h1 f1)
      go_roundw
      case rel => exact ⟨k + 1, by omega, by go_num, by rw [← HS.out]; exact H2.out, F2.out⟩
      case measure => simp [intOf]; omega
    · have e : l.take k = l := by rw [List.take_of_length_le]; have := HN.out; omega
      rw [e, List.append_assoc] at hpo
      have HE := Lib.hid (HQ.out wr hpo hf)
      clear hpo hf e
      go_wp2
      go_end0
      exact ⟨rfl, HE.out⟩
end Ks
end Go.Proofs.Yteljmlodbnfhbaa
