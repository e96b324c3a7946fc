/- The walk of EventTells. -/
import Derived.Test.YtbgojfgapbcanaaDoorEvZ
import Derived.Test.YtbgojfgapbcanaaDoorEvW
namespace Go.Proofs.YtbgojfgapbcanaaDoor
namespace eventTells
open Go.RowKit
theorem cells3 (w : World) (k n m : Int) (t : List UInt8) (A : Option Addr) (len cap : Nat) (k' n' m' : Int) (t' : List UInt8) (A' : Option Addr) (len' cap' : Nat) (ak ae an am : Int) (at_ : List UInt8) (aA : Option Addr) (alen acap : Nat) (asg : Int) {W : World} (h : Later (((w.alloc (.cells (qC k n m t A len cap) 24)).alloc (.cells (qC k' n' m' t' A' len' cap') 24)).alloc (.cells (aC ak ae an am at_ aA alen acap asg) 26)) W) :
    ((W.cell? ⟨w.heap.size, 0, none⟩ = some (.int .i64 k) ∧ W.cell? ⟨w.heap.size, 1, none⟩ = some (.int .i64 n) ∧ W.cell? ⟨w.heap.size, 2, none⟩ = some (.int .i64 m) ∧ W.cell? ⟨w.heap.size, 3, none⟩ = some (.string (mkS t)) ∧ W.cell? ⟨w.heap.size, 4, none⟩ = some (.slice A len cap)) ∧
    (W.cell? ⟨w.heap.size + 1, 0, none⟩ = some (.int .i64 k') ∧ W.cell? ⟨w.heap.size + 1, 1, none⟩ = some (.int .i64 n') ∧ W.cell? ⟨w.heap.size + 1, 2, none⟩ = some (.int .i64 m') ∧ W.cell? ⟨w.heap.size + 1, 3, none⟩ = some (.string (mkS t')) ∧ W.cell? ⟨w.heap.size + 1, 4, none⟩ = some (.slice A' len' cap')) ∧
    (W.cell? ⟨w.heap.size + 2, 0, none⟩ = some (.int .i64 ak) ∧ W.cell? ⟨w.heap.size + 2, 1, none⟩ = some (.int .i64 ae) ∧ W.cell? ⟨w.heap.size + 2, 2, none⟩ = some (.int .i64 an) ∧ W.cell? ⟨w.heap.size + 2, 3, none⟩ = some (.int .i64 am) ∧ W.cell? ⟨w.heap.size + 2, 4, none⟩ = some (.string (mkS at_)) ∧ W.cell? ⟨w.heap.size + 2, 5, none⟩ = some (.slice aA alen acap) ∧ W.cell? ⟨w.heap.size + 2, 6, none⟩ = some (.int .i64 asg))) ∧ w.heap.size + 2 < W.heap.size := by
  refine ⟨⟨qcellsK w k n m t A len cap (Later.trans (Later.alloc _ _) (Later.trans (Later.alloc _ _) h)), ?_, ?_⟩, ?_⟩
  · have h1 := qcellsK (w.alloc (.cells (qC k n m t A len cap) 24)) k' n' m' t' A' len' cap' (W := W) (Later.trans (Later.alloc _ _) h)
    rwa [World.size_alloc] at h1
  · have h1 := acellsK ((w.alloc (.cells (qC k n m t A len cap) 24)).alloc (.cells (qC k' n' m' t' A' len' cap') 24)) ak ae an am at_ aA alen acap asg (W := W) h
    rwa [World.size_alloc, World.size_alloc] at h1
  · have := h.size
    rw [World.size_alloc, World.size_alloc, World.size_alloc] at this
    omega
set_option maxRecDepth 100000 in
set_option maxHeartbeats 1000000 in
theorem e1 (w : World) (hN : Names w) (k n m : Int) (t : List UInt8) (A : Option Addr) (len cap : Nat) (l : List (List UInt8)) (k' n' m' : Int) (t' : List UInt8) (A' : Option Addr) (len' cap' : Nat) (l' : List (List UInt8)) (ak ae an am : Int) (at_ : List UInt8) (aA : Option Addr) (alen acap : Nat) (al : List (List UInt8)) (asg j : Int) (hr : Rd w w.heap.size A len (l.map sv)) (hr' : Rd w w.heap.size A' len' (l'.map sv)) (har : Rd w w.heap.size aA alen (al.map sv)) (hcap : len ≤ 2 ^ 63 - 1) (hcap' : len' ≤ 2 ^ 63 - 1) (hacap : alen ≤ 2 ^ 63 - 1) (f2 f3 : Bool) (h1 : fewB len l = false) (h2 : fewB len' l' = f2) (h3 : fewB alen al = f3) :
    Calls Tryd.prog 3 #[reqV k n m t A len cap, reqV k' n' m' t' A' len' cap', ansV ak ae an am at_ aA alen acap asg, .int .i64 j] w fun r w' => r = .returned (.bool true) ∧ Below w.heap.size w w' := by
  unfold reqV ansV
  have HN := Lib.hid hN
  have HR := Lib.hid hr
  have HR' := Lib.hid hr'
  have HAR := Lib.hid har
  have hbox := Lib.hid (show Later w (((w.alloc (.cells (qC k n m t A len cap) 24)).alloc (.cells (qC k' n' m' t' A' len' cap') 24)).alloc (.cells (aC ak ae an am at_ aA alen acap asg) 26)) from Later.trans (Later.alloc w _) (Later.trans (Later.alloc _ _) (Later.alloc _ _)))
  have h3c := fun W h => cells3 w k n m t A len cap k' n' m' t' A' len' cap' ak ae an am at_ aA alen acap asg (W := W) h
  have H3 := Lib.hid h3c
  have hst := mkS_size t
  have hsa := mkS_size at_
  have hfew1 := fun W (h : Later w W) => few_v A len cap W.heap.size l W (rd_later HR.out h) (by omega)
  have hfew2 := fun W (h : Later w W) => few_v A' len' cap' W.heap.size l' W (rd_later HR'.out h) (by omega)
  have hfew3 := fun W (h : Later w W) => few_v aA alen acap W.heap.size al W (rd_later HAR.out h) (by omega)
  clear h3c hN hr hr' har
  rw [h1] at hfew1
  rw [h2] at hfew2
  rw [h3] at hfew3
  have HF1 := Lib.hid hfew1
  have HF2 := Lib.hid hfew2
  have HF3 := Lib.hid hfew3
  clear hfew1 hfew2 hfew3
  go_enter Tryd.func3, Tryd.ntmps3
  go_wp2_with (first
    | (go_at_call 8; (with_reducible refine (evAwake_v _ (HN.out.keep hbox.out)).mono ?_); rintro r w1 ⟨rfl, hb1⟩; have HB1 := Lib.hid (Later.trans hbox.out hb1); obtain ⟨⟨⟨q0, q1, q2, q3, q4⟩, ⟨o0, o1, o2, o3, o4⟩, p0, p1, p2, p3, p4, p5, p6⟩, hz⟩ := H3.out w1 hb1; have L01 := Lib.hid hb1; clear hb1)
    | (go_at_call 9; (with_reducible refine (HF1.out w1 HB1.out).mono ?_); rintro r w' ⟨rfl, rfl⟩)
    | (go_at_call 9; (with_reducible refine (HF2.out w1 HB1.out).mono ?_); rintro r w' ⟨rfl, rfl⟩)
    | (go_at_call 9; (with_reducible refine (HF3.out w1 HB1.out).mono ?_); rintro r w' ⟨rfl, rfl⟩))
  go_ret
  exact ⟨rfl, HB1.out⟩
set_option maxRecDepth 100000 in
set_option maxHeartbeats 1000000 in
theorem e2 (w : World) (hN : Names w) (k n m : Int) (t : List UInt8) (A : Option Addr) (len cap : Nat) (l : List (List UInt8)) (k' n' m' : Int) (t' : List UInt8) (A' : Option Addr) (len' cap' : Nat) (l' : List (List UInt8)) (ak ae an am : Int) (at_ : List UInt8) (aA : Option Addr) (alen acap : Nat) (al : List (List UInt8)) (asg j : Int) (hr : Rd w w.heap.size A len (l.map sv)) (hr' : Rd w w.heap.size A' len' (l'.map sv)) (har : Rd w w.heap.size aA alen (al.map sv)) (hcap : len ≤ 2 ^ 63 - 1) (hcap' : len' ≤ 2 ^ 63 - 1) (hacap : alen ≤ 2 ^ 63 - 1) (f3 : Bool) (h1 : fewB len l = true) (h2 : fewB len' l' = false) (h3 : fewB alen al = f3) :
    Calls Tryd.prog 3 #[reqV k n m t A len cap, reqV k' n' m' t' A' len' cap', ansV ak ae an am at_ aA alen acap asg, .int .i64 j] w fun r w' => r = .returned (.bool true) ∧ Below w.heap.size w w' := by
  unfold reqV ansV
  have HN := Lib.hid hN
  have HR := Lib.hid hr
  have HR' := Lib.hid hr'
  have HAR := Lib.hid har
  have hbox := Lib.hid (show Later w (((w.alloc (.cells (qC k n m t A len cap) 24)).alloc (.cells (qC k' n' m' t' A' len' cap') 24)).alloc (.cells (aC ak ae an am at_ aA alen acap asg) 26)) from Later.trans (Later.alloc w _) (Later.trans (Later.alloc _ _) (Later.alloc _ _)))
  have h3c := fun W h => cells3 w k n m t A len cap k' n' m' t' A' len' cap' ak ae an am at_ aA alen acap asg (W := W) h
  have H3 := Lib.hid h3c
  have hst := mkS_size t
  have hsa := mkS_size at_
  have hfew1 := fun W (h : Later w W) => few_v A len cap W.heap.size l W (rd_later HR.out h) (by omega)
  have hfew2 := fun W (h : Later w W) => few_v A' len' cap' W.heap.size l' W (rd_later HR'.out h) (by omega)
  have hfew3 := fun W (h : Later w W) => few_v aA alen acap W.heap.size al W (rd_later HAR.out h) (by omega)
  clear h3c hN hr hr' har
  rw [h1] at hfew1
  rw [h2] at hfew2
  rw [h3] at hfew3
  have HF1 := Lib.hid hfew1
  have HF2 := Lib.hid hfew2
  have HF3 := Lib.hid hfew3
  clear hfew1 hfew2 hfew3
  go_enter Tryd.func3, Tryd.ntmps3
  go_wp2_with (first
    | (go_at_call 8; (with_reducible refine (evAwake_v _ (HN.out.keep hbox.out)).mono ?_); rintro r w1 ⟨rfl, hb1⟩; have HB1 := Lib.hid (Later.trans hbox.out hb1); obtain ⟨⟨⟨q0, q1, q2, q3, q4⟩, ⟨o0, o1, o2, o3, o4⟩, p0, p1, p2, p3, p4, p5, p6⟩, hz⟩ := H3.out w1 hb1; have L01 := Lib.hid hb1; clear hb1)
    | (go_at_call 9; (with_reducible refine (HF1.out w1 HB1.out).mono ?_); rintro r w' ⟨rfl, rfl⟩)
    | (go_at_call 9; (with_reducible refine (HF2.out w1 HB1.out).mono ?_); rintro r w' ⟨rfl, rfl⟩)
    | (go_at_call 9; (with_reducible refine (HF3.out w1 HB1.out).mono ?_); rintro r w' ⟨rfl, rfl⟩))
  go_ret
  exact ⟨rfl, HB1.out⟩
set_option maxRecDepth 100000 in
set_option maxHeartbeats 1000000 in
theorem e3 (w : World) (hN : Names w) (k n m : Int) (t : List UInt8) (A : Option Addr) (len cap : Nat) (l : List (List UInt8)) (k' n' m' : Int) (t' : List UInt8) (A' : Option Addr) (len' cap' : Nat) (l' : List (List UInt8)) (ak ae an am : Int) (at_ : List UInt8) (aA : Option Addr) (alen acap : Nat) (al : List (List UInt8)) (asg j : Int) (hr : Rd w w.heap.size A len (l.map sv)) (hr' : Rd w w.heap.size A' len' (l'.map sv)) (har : Rd w w.heap.size aA alen (al.map sv)) (hcap : len ≤ 2 ^ 63 - 1) (hcap' : len' ≤ 2 ^ 63 - 1) (hacap : alen ≤ 2 ^ 63 - 1) (h1 : fewB len l = true) (h2 : fewB len' l' = true) (h3 : fewB alen al = false) :
    Calls Tryd.prog 3 #[reqV k n m t A len cap, reqV k' n' m' t' A' len' cap', ansV ak ae an am at_ aA alen acap asg, .int .i64 j] w fun r w' => r = .returned (.bool true) ∧ Below w.heap.size w w' := by
  unfold reqV ansV
  have HN := Lib.hid hN
  have HR := Lib.hid hr
  have HR' := Lib.hid hr'
  have HAR := Lib.hid har
  have hbox := Lib.hid (show Later w (((w.alloc (.cells (qC k n m t A len cap) 24)).alloc (.cells (qC k' n' m' t' A' len' cap') 24)).alloc (.cells (aC ak ae an am at_ aA alen acap asg) 26)) from Later.trans (Later.alloc w _) (Later.trans (Later.alloc _ _) (Later.alloc _ _)))
  have h3c := fun W h => cells3 w k n m t A len cap k' n' m' t' A' len' cap' ak ae an am at_ aA alen acap asg (W := W) h
  have H3 := Lib.hid h3c
  have hst := mkS_size t
  have hsa := mkS_size at_
  have hfew1 := fun W (h : Later w W) => few_v A len cap W.heap.size l W (rd_later HR.out h) (by omega)
  have hfew2 := fun W (h : Later w W) => few_v A' len' cap' W.heap.size l' W (rd_later HR'.out h) (by omega)
  have hfew3 := fun W (h : Later w W) => few_v aA alen acap W.heap.size al W (rd_later HAR.out h) (by omega)
  clear h3c hN hr hr' har
  rw [h1] at hfew1
  rw [h2] at hfew2
  rw [h3] at hfew3
  have HF1 := Lib.hid hfew1
  have HF2 := Lib.hid hfew2
  have HF3 := Lib.hid hfew3
  clear hfew1 hfew2 hfew3
  go_enter Tryd.func3, Tryd.ntmps3
  go_wp2_with (first
    | (go_at_call 8; (with_reducible refine (evAwake_v _ (HN.out.keep hbox.out)).mono ?_); rintro r w1 ⟨rfl, hb1⟩; have HB1 := Lib.hid (Later.trans hbox.out hb1); obtain ⟨⟨⟨q0, q1, q2, q3, q4⟩, ⟨o0, o1, o2, o3, o4⟩, p0, p1, p2, p3, p4, p5, p6⟩, hz⟩ := H3.out w1 hb1; have L01 := Lib.hid hb1; clear hb1)
    | (go_at_call 9; (with_reducible refine (HF1.out w1 HB1.out).mono ?_); rintro r w' ⟨rfl, rfl⟩)
    | (go_at_call 9; (with_reducible refine (HF2.out w1 HB1.out).mono ?_); rintro r w' ⟨rfl, rfl⟩)
    | (go_at_call 9; (with_reducible refine (HF3.out w1 HB1.out).mono ?_); rintro r w' ⟨rfl, rfl⟩))
  go_ret
  exact ⟨rfl, HB1.out⟩
set_option maxRecDepth 100000 in
set_option maxHeartbeats 1000000 in
theorem e4 (w : World) (hN : Names w) (k n m : Int) (t : List UInt8) (A : Option Addr) (len cap : Nat) (l : List (List UInt8)) (k' n' m' : Int) (t' : List UInt8) (A' : Option Addr) (len' cap' : Nat) (l' : List (List UInt8)) (ak ae an am : Int) (at_ : List UInt8) (aA : Option Addr) (alen acap : Nat) (al : List (List UInt8)) (asg j : Int) (hr : Rd w w.heap.size A len (l.map sv)) (hr' : Rd w w.heap.size A' len' (l'.map sv)) (har : Rd w w.heap.size aA alen (al.map sv)) (hcap : len ≤ 2 ^ 63 - 1) (hcap' : len' ≤ 2 ^ 63 - 1) (hacap : alen ≤ 2 ^ 63 - 1) (h1 : fewB len l = true) (h2 : fewB len' l' = true) (h3 : fewB alen al = true) (h4 : 500 < t.length) :
    Calls Tryd.prog 3 #[reqV k n m t A len cap, reqV k' n' m' t' A' len' cap', ansV ak ae an am at_ aA alen acap asg, .int .i64 j] w fun r w' => r = .returned (.bool true) ∧ Below w.heap.size w w' := by
  unfold reqV ansV
  have HN := Lib.hid hN
  have HR := Lib.hid hr
  have HR' := Lib.hid hr'
  have HAR := Lib.hid har
  have hbox := Lib.hid (show Later w (((w.alloc (.cells (qC k n m t A len cap) 24)).alloc (.cells (qC k' n' m' t' A' len' cap') 24)).alloc (.cells (aC ak ae an am at_ aA alen acap asg) 26)) from Later.trans (Later.alloc w _) (Later.trans (Later.alloc _ _) (Later.alloc _ _)))
  have h3c := fun W h => cells3 w k n m t A len cap k' n' m' t' A' len' cap' ak ae an am at_ aA alen acap asg (W := W) h
  have H3 := Lib.hid h3c
  have hst := mkS_size t
  have hsa := mkS_size at_
  have hfew1 := fun W (h : Later w W) => few_v A len cap W.heap.size l W (rd_later HR.out h) (by omega)
  have hfew2 := fun W (h : Later w W) => few_v A' len' cap' W.heap.size l' W (rd_later HR'.out h) (by omega)
  have hfew3 := fun W (h : Later w W) => few_v aA alen acap W.heap.size al W (rd_later HAR.out h) (by omega)
  clear h3c hN hr hr' har
  rw [h1] at hfew1
  rw [h2] at hfew2
  rw [h3] at hfew3
  have HF1 := Lib.hid hfew1
  have HF2 := Lib.hid hfew2
  have HF3 := Lib.hid hfew3
  clear hfew1 hfew2 hfew3
  go_enter Tryd.func3, Tryd.ntmps3
  go_wp2_with (first
    | (go_at_call 8; (with_reducible refine (evAwake_v _ (HN.out.keep hbox.out)).mono ?_); rintro r w1 ⟨rfl, hb1⟩; have HB1 := Lib.hid (Later.trans hbox.out hb1); obtain ⟨⟨⟨q0, q1, q2, q3, q4⟩, ⟨o0, o1, o2, o3, o4⟩, p0, p1, p2, p3, p4, p5, p6⟩, hz⟩ := H3.out w1 hb1; have L01 := Lib.hid hb1; clear hb1)
    | (go_at_call 9; (with_reducible refine (HF1.out w1 HB1.out).mono ?_); rintro r w' ⟨rfl, rfl⟩)
    | (go_at_call 9; (with_reducible refine (HF2.out w1 HB1.out).mono ?_); rintro r w' ⟨rfl, rfl⟩)
    | (go_at_call 9; (with_reducible refine (HF3.out w1 HB1.out).mono ?_); rintro r w' ⟨rfl, rfl⟩))
  go_ret
  exact ⟨rfl, HB1.out⟩
set_option maxRecDepth 100000 in
set_option maxHeartbeats 1000000 in
theorem e5 (w : World) (hN : Names w) (k n m : Int) (t : List UInt8) (A : Option Addr) (len cap : Nat) (l : List (List UInt8)) (k' n' m' : Int) (t' : List UInt8) (A' : Option Addr) (len' cap' : Nat) (l' : List (List UInt8)) (ak ae an am : Int) (at_ : List UInt8) (aA : Option Addr) (alen acap : Nat) (al : List (List UInt8)) (asg j : Int) (hr : Rd w w.heap.size A len (l.map sv)) (hr' : Rd w w.heap.size A' len' (l'.map sv)) (har : Rd w w.heap.size aA alen (al.map sv)) (hcap : len ≤ 2 ^ 63 - 1) (hcap' : len' ≤ 2 ^ 63 - 1) (hacap : alen ≤ 2 ^ 63 - 1) (h1 : fewB len l = true) (h2 : fewB len' l' = true) (h3 : fewB alen al = true) (h4 : ¬ 500 < t.length) (h5 : 500 < at_.length) :
    Calls Tryd.prog 3 #[reqV k n m t A len cap, reqV k' n' m' t' A' len' cap', ansV ak ae an am at_ aA alen acap asg, .int .i64 j] w fun r w' => r = .returned (.bool true) ∧ Below w.heap.size w w' := by
  unfold reqV ansV
  have HN := Lib.hid hN
  have HR := Lib.hid hr
  have HR' := Lib.hid hr'
  have HAR := Lib.hid har
  have hbox := Lib.hid (show Later w (((w.alloc (.cells (qC k n m t A len cap) 24)).alloc (.cells (qC k' n' m' t' A' len' cap') 24)).alloc (.cells (aC ak ae an am at_ aA alen acap asg) 26)) from Later.trans (Later.alloc w _) (Later.trans (Later.alloc _ _) (Later.alloc _ _)))
  have h3c := fun W h => cells3 w k n m t A len cap k' n' m' t' A' len' cap' ak ae an am at_ aA alen acap asg (W := W) h
  have H3 := Lib.hid h3c
  have hst := mkS_size t
  have hsa := mkS_size at_
  have hfew1 := fun W (h : Later w W) => few_v A len cap W.heap.size l W (rd_later HR.out h) (by omega)
  have hfew2 := fun W (h : Later w W) => few_v A' len' cap' W.heap.size l' W (rd_later HR'.out h) (by omega)
  have hfew3 := fun W (h : Later w W) => few_v aA alen acap W.heap.size al W (rd_later HAR.out h) (by omega)
  clear h3c hN hr hr' har
  rw [h1] at hfew1
  rw [h2] at hfew2
  rw [h3] at hfew3
  have HF1 := Lib.hid hfew1
  have HF2 := Lib.hid hfew2
  have HF3 := Lib.hid hfew3
  clear hfew1 hfew2 hfew3
  go_enter Tryd.func3, Tryd.ntmps3
  go_wp2_with (first
    | (go_at_call 8; (with_reducible refine (evAwake_v _ (HN.out.keep hbox.out)).mono ?_); rintro r w1 ⟨rfl, hb1⟩; have HB1 := Lib.hid (Later.trans hbox.out hb1); obtain ⟨⟨⟨q0, q1, q2, q3, q4⟩, ⟨o0, o1, o2, o3, o4⟩, p0, p1, p2, p3, p4, p5, p6⟩, hz⟩ := H3.out w1 hb1; have L01 := Lib.hid hb1; clear hb1)
    | (go_at_call 9; (with_reducible refine (HF1.out w1 HB1.out).mono ?_); rintro r w' ⟨rfl, rfl⟩)
    | (go_at_call 9; (with_reducible refine (HF2.out w1 HB1.out).mono ?_); rintro r w' ⟨rfl, rfl⟩)
    | (go_at_call 9; (with_reducible refine (HF3.out w1 HB1.out).mono ?_); rintro r w' ⟨rfl, rfl⟩))
  go_ret
  exact ⟨rfl, HB1.out⟩
end eventTells
end Go.Proofs.YtbgojfgapbcanaaDoor
