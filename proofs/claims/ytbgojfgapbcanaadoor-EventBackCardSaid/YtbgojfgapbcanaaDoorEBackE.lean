/- The walk of EventBack. -/
import Derived.Test.YtbgojfgapbcanaaDoorEvX
namespace Go.Proofs.YtbgojfgapbcanaaDoor
namespace eventBack
open Go.RowKit
theorem zig_ok {n : Int} (h : -9223372036854775808 ≤ n ∧ n ≤ 9223372036854775807) : zigN n < 18446744073709551616 := zigN_lt h.1 h.2
theorem askL_len {k : Nat} {n m : Int} {t : List UInt8} {l : List (List UInt8)} (hk : k ≤ 11) (hn : -9223372036854775808 ≤ n ∧ n ≤ 9223372036854775807) (hm : -9223372036854775808 ≤ m ∧ m ≤ 9223372036854775807) (ht : t.length ≤ 500) (hl : l.length ≤ 30) (hx : ∀ x ∈ l, x.length ≤ 200) :
    5 ≤ (askL k n m t l).length ∧ (askL k n m t l).length ≤ 10000 := by
  have h1 := numL_ten (show k < 18446744073709551616 by omega)
  have h2 := numL_ten (zig_ok hn)
  have h3 := numL_ten (zig_ok hm)
  have h4 := numL_ten (show t.length < 18446744073709551616 by omega)
  have h5 := numL_ten (show l.length < 18446744073709551616 by omega)
  have g1 := numL_ne k
  have g2 := numL_ne (zigN n)
  have g3 := numL_ne (zigN m)
  have g4 := numL_ne t.length
  have g5 := numL_ne l.length
  have h6 := textsB_le (M := 200) (by omega) hx
  have h7 : l.length * (10 + 200) ≤ 30 * 210 := Nat.mul_le_mul hl (by omega)
  unfold askL textB
  simp only [List.length_append]
  omega
theorem tellL_len {k e s : Nat} {n m : Int} {t : List UInt8} {l : List (List UInt8)} (hk : k ≤ 11) (he : e ≤ 255) (hs : s ≤ 64) (hn : -9223372036854775808 ≤ n ∧ n ≤ 9223372036854775807) (hm : -9223372036854775808 ≤ m ∧ m ≤ 9223372036854775807) (ht : t.length ≤ 500) (hl : l.length ≤ 30) (hx : ∀ x ∈ l, x.length ≤ 200) :
    7 ≤ (tellL k e n m t l s).length ∧ (tellL k e n m t l s).length ≤ 10000 := by
  have h1 := numL_ten (show k < 18446744073709551616 by omega)
  have h0 := numL_ten (show e < 18446744073709551616 by omega)
  have h9 := numL_ten (show s < 18446744073709551616 by omega)
  have h2 := numL_ten (zig_ok hn)
  have h3 := numL_ten (zig_ok hm)
  have h4 := numL_ten (show t.length < 18446744073709551616 by omega)
  have h5 := numL_ten (show l.length < 18446744073709551616 by omega)
  have g1 := numL_ne k
  have g0 := numL_ne e
  have g9 := numL_ne s
  have g2 := numL_ne (zigN n)
  have g3 := numL_ne (zigN m)
  have g4 := numL_ne t.length
  have g5 := numL_ne l.length
  have h6 := textsB_le (M := 200) (by omega) hx
  have h7 : l.length * (10 + 200) ≤ 30 * 210 := Nat.mul_le_mul hl (by omega)
  unfold tellL textB
  simp only [List.length_append]
  omega
theorem Keeps.rdB {S : Nat → Prop} {W W' : World} (h : Keeps S W W') {B : Nat} {A : Option Addr} {n : Nat} {xs : List Value} (hr : Rd W B A n xs) (hn : ∀ i, i < B → ¬ S i) : Rd W' B A n xs := by
  refine ⟨hr.1, fun h0 => ?_⟩
  obtain ⟨ad, e1, hb, hc⟩ := hr.2 h0
  exact ⟨ad, e1, hb, fun j u hu => h.cell (by rw [block_add]; exact hn _ hb) (hc j u hu)⟩
/-- What the call owns stays, where another block of the call's own grows. -/
theorem own_apart {w w' : World} {base base' n : Nat} {e : TypeId} {v v' u : Value} {xs : List Value} {L : List Value} (h : w.ownsRow base e 1 v n xs) (hg : Grew w w' base' e u v' L) (hu : ∀ k, u.ownBlock = some k → k < base) : w'.ownsRow base e 1 v n xs :=
  h.kept hg.grown (by
    rcases hv : v.ownBlock with _ | k
    · exact .inl rfl
    · refine .inr fun e1 => ?_
      have h1 := (h.lt k hv).1
      have h2 := hu k e1.symm
      omega)
theorem byte_more {x : Int} (h : (Lit.int .u8 x).wf = true) : ∃ c : UInt8, Value.int .u8 x = bv c := by
  have hz := bounds_u8 h
  refine ⟨UInt8.ofNat x.toNat, ?_⟩
  unfold bv
  rw [show (UInt8.ofNat x.toNat).toNat = x.toNat by simp; omega]
  congr 1
  omega
set_option maxRecDepth 100000 in
set_option maxHeartbeats 1000000 in
theorem e1 (w : World) (hN : Names w) (k n m : Int) (t : List UInt8) (A : Option Addr) (len cap : Nat) (l : List (List UInt8)) (ak ae an am : Int) (at_ : List UInt8) (aA : Option Addr) (alen acap : Nat) (al : List (List UInt8)) (asg : Int) (cut more : Int) (hr : Rd w w.heap.size A len (l.map sv)) (har : Rd w w.heap.size aA alen (al.map sv)) (hcap : len ≤ 2 ^ 63 - 1) (hacap : alen ≤ 2 ^ 63 - 1) (h1 : fewB len l = false) :
    Calls Tryd.prog 5 #[reqV k n m t A len cap, ansV ak ae an am at_ aA alen acap asg, .int .u16 cut, .int .u8 more] w fun r w' => r = .returned (.bool true) ∧ Below w.heap.size w w' := by
  unfold reqV ansV
  have HN := Lib.hid hN
  have HR := Lib.hid hr
  have HAR := Lib.hid har
  have hbox := Lib.hid (two_below w (.cells (qC k n m t A len cap) 24) (.cells (aC ak ae an am at_ aA alen acap asg) 26))
  have hbox' := Lib.hid (show Later w ((w.alloc (.cells (qC k n m t A len cap) 24)).alloc (.cells (aC ak ae an am at_ aA alen acap asg) 26)) from hbox.out)
  have h2 := fun w1 hb => two_cells w (qC k n m t A len cap) (aC ak ae an am at_ aA alen acap asg) 24 26 (w1 := w1) hb
  have H2 := Lib.hid h2
  have hfew1 := fun W (h : Later w W) => few_v A len cap W.heap.size l W (rd_later HR.out h) (by omega)
  have hfew2 := fun W (h : Later w W) => few_v aA alen acap W.heap.size al W (rd_later HAR.out h) (by omega)
  have hrt := fun W => right_v k n m t A len cap W
  have hft := fun W => fits_v ak ak ae an am at_ aA alen acap asg W
  have hst := mkS_size t
  have hsa := mkS_size at_
  unfold reqV at hrt
  unfold ansV at hft
  clear h2 hN hr har
  rw [h1] at hfew1
  have HF1 := Lib.hid hfew1
  have HF2 := Lib.hid hfew2
  have HRT := Lib.hid hrt
  have HFT := Lib.hid hft
  clear hfew1 hfew2 hrt hft
  clear hst
  clear hsa
  go_enter Tryd.func5, Tryd.ntmps5
  go_wp2_with (first
    | (go_at_call 8; (with_reducible refine (evAwake_v _ (HN.out.keep hbox'.out)).mono ?_); rintro r w1 ⟨rfl, hb1⟩; have HB1 := Lib.hid (Later.trans hbox'.out hb1); obtain ⟨c1, c2, hz⟩ := H2.out w1 (by exact hb1); have q0 := c1 0; have q1 := c1 1; have q2 := c1 2; have q3 := c1 3; have q4 := c1 4; have p0 := c2 0; have p1 := c2 1; have p2 := c2 2; have p3 := c2 3; have p4 := c2 4; have p5 := c2 5; have p6 := c2 6; simp only [lit5_0, lit5_1, lit5_2, lit5_3, lit5_4] at q0 q1 q2 q3 q4; simp only [lit7_0, lit7_1, lit7_2, lit7_3, lit7_4, lit7_5, lit7_6] at p0 p1 p2 p3 p4 p5 p6; clear c1 c2 hb1)
    | (go_at_call 9; (with_reducible refine (HF1.out w1 HB1.out).mono ?_); rintro r w' ⟨rfl, rfl⟩)
    | (go_at_call 9; (with_reducible refine (HF2.out w1 HB1.out).mono ?_); rintro r w' ⟨rfl, rfl⟩))
  go_ret
  exact ⟨rfl, HB1.out⟩
set_option maxRecDepth 100000 in
set_option maxHeartbeats 1000000 in
theorem e2 (w : World) (hN : Names w) (k n m : Int) (t : List UInt8) (A : Option Addr) (len cap : Nat) (l : List (List UInt8)) (ak ae an am : Int) (at_ : List UInt8) (aA : Option Addr) (alen acap : Nat) (al : List (List UInt8)) (asg : Int) (cut more : Int) (hr : Rd w w.heap.size A len (l.map sv)) (har : Rd w w.heap.size aA alen (al.map sv)) (hcap : len ≤ 2 ^ 63 - 1) (hacap : alen ≤ 2 ^ 63 - 1) (h1 : fewB len l = true) (h2b : fewB alen al = false) :
    Calls Tryd.prog 5 #[reqV k n m t A len cap, ansV ak ae an am at_ aA alen acap asg, .int .u16 cut, .int .u8 more] w fun r w' => r = .returned (.bool true) ∧ Below w.heap.size w w' := by
  unfold reqV ansV
  have HN := Lib.hid hN
  have HR := Lib.hid hr
  have HAR := Lib.hid har
  have hbox := Lib.hid (two_below w (.cells (qC k n m t A len cap) 24) (.cells (aC ak ae an am at_ aA alen acap asg) 26))
  have hbox' := Lib.hid (show Later w ((w.alloc (.cells (qC k n m t A len cap) 24)).alloc (.cells (aC ak ae an am at_ aA alen acap asg) 26)) from hbox.out)
  have h2 := fun w1 hb => two_cells w (qC k n m t A len cap) (aC ak ae an am at_ aA alen acap asg) 24 26 (w1 := w1) hb
  have H2 := Lib.hid h2
  have hfew1 := fun W (h : Later w W) => few_v A len cap W.heap.size l W (rd_later HR.out h) (by omega)
  have hfew2 := fun W (h : Later w W) => few_v aA alen acap W.heap.size al W (rd_later HAR.out h) (by omega)
  have hrt := fun W => right_v k n m t A len cap W
  have hft := fun W => fits_v ak ak ae an am at_ aA alen acap asg W
  have hst := mkS_size t
  have hsa := mkS_size at_
  unfold reqV at hrt
  unfold ansV at hft
  clear h2 hN hr har
  rw [h1] at hfew1
  rw [h2b] at hfew2
  have HF1 := Lib.hid hfew1
  have HF2 := Lib.hid hfew2
  have HRT := Lib.hid hrt
  have HFT := Lib.hid hft
  clear hfew1 hfew2 hrt hft
  clear hst
  clear hsa
  go_enter Tryd.func5, Tryd.ntmps5
  go_wp2_with (first
    | (go_at_call 8; (with_reducible refine (evAwake_v _ (HN.out.keep hbox'.out)).mono ?_); rintro r w1 ⟨rfl, hb1⟩; have HB1 := Lib.hid (Later.trans hbox'.out hb1); obtain ⟨c1, c2, hz⟩ := H2.out w1 (by exact hb1); have q0 := c1 0; have q1 := c1 1; have q2 := c1 2; have q3 := c1 3; have q4 := c1 4; have p0 := c2 0; have p1 := c2 1; have p2 := c2 2; have p3 := c2 3; have p4 := c2 4; have p5 := c2 5; have p6 := c2 6; simp only [lit5_0, lit5_1, lit5_2, lit5_3, lit5_4] at q0 q1 q2 q3 q4; simp only [lit7_0, lit7_1, lit7_2, lit7_3, lit7_4, lit7_5, lit7_6] at p0 p1 p2 p3 p4 p5 p6; clear c1 c2 hb1)
    | (go_at_call 9; (with_reducible refine (HF1.out w1 HB1.out).mono ?_); rintro r w' ⟨rfl, rfl⟩)
    | (go_at_call 9; (with_reducible refine (HF2.out w1 HB1.out).mono ?_); rintro r w' ⟨rfl, rfl⟩))
  go_ret
  exact ⟨rfl, HB1.out⟩
set_option maxRecDepth 100000 in
set_option maxHeartbeats 1000000 in
theorem e3 (w : World) (hN : Names w) (k n m : Int) (t : List UInt8) (A : Option Addr) (len cap : Nat) (l : List (List UInt8)) (ak ae an am : Int) (at_ : List UInt8) (aA : Option Addr) (alen acap : Nat) (al : List (List UInt8)) (asg : Int) (cut more : Int) (hr : Rd w w.heap.size A len (l.map sv)) (har : Rd w w.heap.size aA alen (al.map sv)) (hcap : len ≤ 2 ^ 63 - 1) (hacap : alen ≤ 2 ^ 63 - 1) (h1 : fewB len l = true) (h2b : fewB alen al = true) (h3 : 500 < t.length) :
    Calls Tryd.prog 5 #[reqV k n m t A len cap, ansV ak ae an am at_ aA alen acap asg, .int .u16 cut, .int .u8 more] w fun r w' => r = .returned (.bool true) ∧ Below w.heap.size w w' := by
  unfold reqV ansV
  have HN := Lib.hid hN
  have HR := Lib.hid hr
  have HAR := Lib.hid har
  have hbox := Lib.hid (two_below w (.cells (qC k n m t A len cap) 24) (.cells (aC ak ae an am at_ aA alen acap asg) 26))
  have hbox' := Lib.hid (show Later w ((w.alloc (.cells (qC k n m t A len cap) 24)).alloc (.cells (aC ak ae an am at_ aA alen acap asg) 26)) from hbox.out)
  have h2 := fun w1 hb => two_cells w (qC k n m t A len cap) (aC ak ae an am at_ aA alen acap asg) 24 26 (w1 := w1) hb
  have H2 := Lib.hid h2
  have hfew1 := fun W (h : Later w W) => few_v A len cap W.heap.size l W (rd_later HR.out h) (by omega)
  have hfew2 := fun W (h : Later w W) => few_v aA alen acap W.heap.size al W (rd_later HAR.out h) (by omega)
  have hrt := fun W => right_v k n m t A len cap W
  have hft := fun W => fits_v ak ak ae an am at_ aA alen acap asg W
  have hst := mkS_size t
  have hsa := mkS_size at_
  unfold reqV at hrt
  unfold ansV at hft
  clear h2 hN hr har
  rw [h1] at hfew1
  rw [h2b] at hfew2
  have HF1 := Lib.hid hfew1
  have HF2 := Lib.hid hfew2
  have HRT := Lib.hid hrt
  have HFT := Lib.hid hft
  clear hfew1 hfew2 hrt hft
  clear hsa
  go_enter Tryd.func5, Tryd.ntmps5
  go_wp2_with (first
    | (go_at_call 8; (with_reducible refine (evAwake_v _ (HN.out.keep hbox'.out)).mono ?_); rintro r w1 ⟨rfl, hb1⟩; have HB1 := Lib.hid (Later.trans hbox'.out hb1); obtain ⟨c1, c2, hz⟩ := H2.out w1 (by exact hb1); have q0 := c1 0; have q1 := c1 1; have q2 := c1 2; have q3 := c1 3; have q4 := c1 4; have p0 := c2 0; have p1 := c2 1; have p2 := c2 2; have p3 := c2 3; have p4 := c2 4; have p5 := c2 5; have p6 := c2 6; simp only [lit5_0, lit5_1, lit5_2, lit5_3, lit5_4] at q0 q1 q2 q3 q4; simp only [lit7_0, lit7_1, lit7_2, lit7_3, lit7_4, lit7_5, lit7_6] at p0 p1 p2 p3 p4 p5 p6; clear c1 c2 hb1)
    | (go_at_call 9; (with_reducible refine (HF1.out w1 HB1.out).mono ?_); rintro r w' ⟨rfl, rfl⟩)
    | (go_at_call 9; (with_reducible refine (HF2.out w1 HB1.out).mono ?_); rintro r w' ⟨rfl, rfl⟩))
  go_ret
  exact ⟨rfl, HB1.out⟩
set_option maxRecDepth 100000 in
set_option maxHeartbeats 1000000 in
theorem e4 (w : World) (hN : Names w) (k n m : Int) (t : List UInt8) (A : Option Addr) (len cap : Nat) (l : List (List UInt8)) (ak ae an am : Int) (at_ : List UInt8) (aA : Option Addr) (alen acap : Nat) (al : List (List UInt8)) (asg : Int) (cut more : Int) (hr : Rd w w.heap.size A len (l.map sv)) (har : Rd w w.heap.size aA alen (al.map sv)) (hcap : len ≤ 2 ^ 63 - 1) (hacap : alen ≤ 2 ^ 63 - 1) (h1 : fewB len l = true) (h2b : fewB alen al = true) (h3 : ¬ 500 < t.length) (h4 : 500 < at_.length) :
    Calls Tryd.prog 5 #[reqV k n m t A len cap, ansV ak ae an am at_ aA alen acap asg, .int .u16 cut, .int .u8 more] w fun r w' => r = .returned (.bool true) ∧ Below w.heap.size w w' := by
  unfold reqV ansV
  have HN := Lib.hid hN
  have HR := Lib.hid hr
  have HAR := Lib.hid har
  have hbox := Lib.hid (two_below w (.cells (qC k n m t A len cap) 24) (.cells (aC ak ae an am at_ aA alen acap asg) 26))
  have hbox' := Lib.hid (show Later w ((w.alloc (.cells (qC k n m t A len cap) 24)).alloc (.cells (aC ak ae an am at_ aA alen acap asg) 26)) from hbox.out)
  have h2 := fun w1 hb => two_cells w (qC k n m t A len cap) (aC ak ae an am at_ aA alen acap asg) 24 26 (w1 := w1) hb
  have H2 := Lib.hid h2
  have hfew1 := fun W (h : Later w W) => few_v A len cap W.heap.size l W (rd_later HR.out h) (by omega)
  have hfew2 := fun W (h : Later w W) => few_v aA alen acap W.heap.size al W (rd_later HAR.out h) (by omega)
  have hrt := fun W => right_v k n m t A len cap W
  have hft := fun W => fits_v ak ak ae an am at_ aA alen acap asg W
  have hst := mkS_size t
  have hsa := mkS_size at_
  unfold reqV at hrt
  unfold ansV at hft
  clear h2 hN hr har
  rw [h1] at hfew1
  rw [h2b] at hfew2
  have HF1 := Lib.hid hfew1
  have HF2 := Lib.hid hfew2
  have HRT := Lib.hid hrt
  have HFT := Lib.hid hft
  clear hfew1 hfew2 hrt hft
  go_enter Tryd.func5, Tryd.ntmps5
  go_wp2_with (first
    | (go_at_call 8; (with_reducible refine (evAwake_v _ (HN.out.keep hbox'.out)).mono ?_); rintro r w1 ⟨rfl, hb1⟩; have HB1 := Lib.hid (Later.trans hbox'.out hb1); obtain ⟨c1, c2, hz⟩ := H2.out w1 (by exact hb1); have q0 := c1 0; have q1 := c1 1; have q2 := c1 2; have q3 := c1 3; have q4 := c1 4; have p0 := c2 0; have p1 := c2 1; have p2 := c2 2; have p3 := c2 3; have p4 := c2 4; have p5 := c2 5; have p6 := c2 6; simp only [lit5_0, lit5_1, lit5_2, lit5_3, lit5_4] at q0 q1 q2 q3 q4; simp only [lit7_0, lit7_1, lit7_2, lit7_3, lit7_4, lit7_5, lit7_6] at p0 p1 p2 p3 p4 p5 p6; clear c1 c2 hb1)
    | (go_at_call 9; (with_reducible refine (HF1.out w1 HB1.out).mono ?_); rintro r w' ⟨rfl, rfl⟩)
    | (go_at_call 9; (with_reducible refine (HF2.out w1 HB1.out).mono ?_); rintro r w' ⟨rfl, rfl⟩))
  go_ret
  exact ⟨rfl, HB1.out⟩
set_option maxRecDepth 100000 in
set_option maxHeartbeats 1000000 in
theorem e5 (w : World) (hN : Names w) (k n m : Int) (t : List UInt8) (A : Option Addr) (len cap : Nat) (l : List (List UInt8)) (ak ae an am : Int) (at_ : List UInt8) (aA : Option Addr) (alen acap : Nat) (al : List (List UInt8)) (asg : Int) (cut more : Int) (hr : Rd w w.heap.size A len (l.map sv)) (har : Rd w w.heap.size aA alen (al.map sv)) (hcap : len ≤ 2 ^ 63 - 1) (hacap : alen ≤ 2 ^ 63 - 1) (h1 : fewB len l = true) (h2b : fewB alen al = true) (h3 : ¬ 500 < t.length) (h4 : ¬ 500 < at_.length) (h5 : rightB k len = false) :
    Calls Tryd.prog 5 #[reqV k n m t A len cap, ansV ak ae an am at_ aA alen acap asg, .int .u16 cut, .int .u8 more] w fun r w' => r = .returned (.bool true) ∧ Below w.heap.size w w' := by
  unfold reqV ansV
  have HN := Lib.hid hN
  have HR := Lib.hid hr
  have HAR := Lib.hid har
  have hbox := Lib.hid (two_below w (.cells (qC k n m t A len cap) 24) (.cells (aC ak ae an am at_ aA alen acap asg) 26))
  have hbox' := Lib.hid (show Later w ((w.alloc (.cells (qC k n m t A len cap) 24)).alloc (.cells (aC ak ae an am at_ aA alen acap asg) 26)) from hbox.out)
  have h2 := fun w1 hb => two_cells w (qC k n m t A len cap) (aC ak ae an am at_ aA alen acap asg) 24 26 (w1 := w1) hb
  have H2 := Lib.hid h2
  have hfew1 := fun W (h : Later w W) => few_v A len cap W.heap.size l W (rd_later HR.out h) (by omega)
  have hfew2 := fun W (h : Later w W) => few_v aA alen acap W.heap.size al W (rd_later HAR.out h) (by omega)
  have hrt := fun W => right_v k n m t A len cap W
  have hft := fun W => fits_v ak ak ae an am at_ aA alen acap asg W
  have hst := mkS_size t
  have hsa := mkS_size at_
  unfold reqV at hrt
  unfold ansV at hft
  clear h2 hN hr har
  rw [h1] at hfew1
  rw [h2b] at hfew2
  rw [h5] at hrt
  have HF1 := Lib.hid hfew1
  have HF2 := Lib.hid hfew2
  have HRT := Lib.hid hrt
  have HFT := Lib.hid hft
  clear hfew1 hfew2 hrt hft
  go_enter Tryd.func5, Tryd.ntmps5
  go_wp2_with (first
    | (go_at_call 8; (with_reducible refine (evAwake_v _ (HN.out.keep hbox'.out)).mono ?_); rintro r w1 ⟨rfl, hb1⟩; have HB1 := Lib.hid (Later.trans hbox'.out hb1); obtain ⟨c1, c2, hz⟩ := H2.out w1 (by exact hb1); have q0 := c1 0; have q1 := c1 1; have q2 := c1 2; have q3 := c1 3; have q4 := c1 4; have p0 := c2 0; have p1 := c2 1; have p2 := c2 2; have p3 := c2 3; have p4 := c2 4; have p5 := c2 5; have p6 := c2 6; simp only [lit5_0, lit5_1, lit5_2, lit5_3, lit5_4] at q0 q1 q2 q3 q4; simp only [lit7_0, lit7_1, lit7_2, lit7_3, lit7_4, lit7_5, lit7_6] at p0 p1 p2 p3 p4 p5 p6; clear c1 c2 hb1)
    | (go_at_call 9; (with_reducible refine (HF1.out w1 HB1.out).mono ?_); rintro r w' ⟨rfl, rfl⟩)
    | (go_at_call 9; (with_reducible refine (HF2.out w1 HB1.out).mono ?_); rintro r w' ⟨rfl, rfl⟩)
    | (go_at_call 12; (with_reducible refine (HRT.out w1).mono ?_); rintro r w2 ⟨rfl, hb2⟩; have HB2 := Lib.hid (Later.trans HB1.out hb2); clear hb2))
  go_ret
  exact ⟨rfl, HB2.out⟩
set_option maxRecDepth 100000 in
set_option maxHeartbeats 1000000 in
theorem e6 (w : World) (hN : Names w) (k n m : Int) (t : List UInt8) (A : Option Addr) (len cap : Nat) (l : List (List UInt8)) (ak ae an am : Int) (at_ : List UInt8) (aA : Option Addr) (alen acap : Nat) (al : List (List UInt8)) (asg : Int) (cut more : Int) (hr : Rd w w.heap.size A len (l.map sv)) (har : Rd w w.heap.size aA alen (al.map sv)) (hcap : len ≤ 2 ^ 63 - 1) (hacap : alen ≤ 2 ^ 63 - 1) (h1 : fewB len l = true) (h2b : fewB alen al = true) (h3 : ¬ 500 < t.length) (h4 : ¬ 500 < at_.length) (h5 : rightB k len = true) (h6 : fitsB ak ak ae asg alen = false) :
    Calls Tryd.prog 5 #[reqV k n m t A len cap, ansV ak ae an am at_ aA alen acap asg, .int .u16 cut, .int .u8 more] w fun r w' => r = .returned (.bool true) ∧ Below w.heap.size w w' := by
  unfold reqV ansV
  have HN := Lib.hid hN
  have HR := Lib.hid hr
  have HAR := Lib.hid har
  have hbox := Lib.hid (two_below w (.cells (qC k n m t A len cap) 24) (.cells (aC ak ae an am at_ aA alen acap asg) 26))
  have hbox' := Lib.hid (show Later w ((w.alloc (.cells (qC k n m t A len cap) 24)).alloc (.cells (aC ak ae an am at_ aA alen acap asg) 26)) from hbox.out)
  have h2 := fun w1 hb => two_cells w (qC k n m t A len cap) (aC ak ae an am at_ aA alen acap asg) 24 26 (w1 := w1) hb
  have H2 := Lib.hid h2
  have hfew1 := fun W (h : Later w W) => few_v A len cap W.heap.size l W (rd_later HR.out h) (by omega)
  have hfew2 := fun W (h : Later w W) => few_v aA alen acap W.heap.size al W (rd_later HAR.out h) (by omega)
  have hrt := fun W => right_v k n m t A len cap W
  have hft := fun W => fits_v ak ak ae an am at_ aA alen acap asg W
  have hst := mkS_size t
  have hsa := mkS_size at_
  unfold reqV at hrt
  unfold ansV at hft
  clear h2 hN hr har
  rw [h1] at hfew1
  rw [h2b] at hfew2
  rw [h5] at hrt
  rw [h6] at hft
  have HF1 := Lib.hid hfew1
  have HF2 := Lib.hid hfew2
  have HRT := Lib.hid hrt
  have HFT := Lib.hid hft
  clear hfew1 hfew2 hrt hft
  go_enter Tryd.func5, Tryd.ntmps5
  go_wp2_with (first
    | (go_at_call 8; (with_reducible refine (evAwake_v _ (HN.out.keep hbox'.out)).mono ?_); rintro r w1 ⟨rfl, hb1⟩; have HB1 := Lib.hid (Later.trans hbox'.out hb1); obtain ⟨c1, c2, hz⟩ := H2.out w1 (by exact hb1); have q0 := c1 0; have q1 := c1 1; have q2 := c1 2; have q3 := c1 3; have q4 := c1 4; have p0 := c2 0; have p1 := c2 1; have p2 := c2 2; have p3 := c2 3; have p4 := c2 4; have p5 := c2 5; have p6 := c2 6; simp only [lit5_0, lit5_1, lit5_2, lit5_3, lit5_4] at q0 q1 q2 q3 q4; simp only [lit7_0, lit7_1, lit7_2, lit7_3, lit7_4, lit7_5, lit7_6] at p0 p1 p2 p3 p4 p5 p6; clear c1 c2 hb1)
    | (go_at_call 9; (with_reducible refine (HF1.out w1 HB1.out).mono ?_); rintro r w' ⟨rfl, rfl⟩)
    | (go_at_call 9; (with_reducible refine (HF2.out w1 HB1.out).mono ?_); rintro r w' ⟨rfl, rfl⟩)
    | (go_at_call 12; (with_reducible refine (HRT.out w1).mono ?_); rintro r w2 ⟨rfl, hb2⟩; have HB2 := Lib.hid (Later.trans HB1.out hb2); have p0' := cell_keeps hb2 p0; have p1' := cell_keeps hb2 p1; have p2' := cell_keeps hb2 p2; have p3' := cell_keeps hb2 p3; have p4' := cell_keeps hb2 p4; have p5' := cell_keeps hb2 p5; have p6' := cell_keeps hb2 p6; clear hb2)
    | (go_at_call 14; (with_reducible refine (HFT.out w2).mono ?_); rintro r w3 ⟨rfl, hb3⟩; have HB3 := Lib.hid (Later.trans HB2.out hb3); clear hb3))
  go_ret
  exact ⟨rfl, HB3.out⟩
end eventBack
end Go.Proofs.YtbgojfgapbcanaaDoor
