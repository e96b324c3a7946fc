/- The walk of EventReads. -/
import Derived.Test.YtbgojfgapbcanaaDoorEReadC
import Derived.Test.YtbgojfgapbcanaaDoorEvW
namespace Go.Proofs.YtbgojfgapbcanaaDoor
namespace eventReads
open Go.RowKit
set_option maxRecDepth 100000 in
set_option maxHeartbeats 2000000 in
theorem main (w : World) (hN : Names w) (A : Option Addr) (n0 cap : Nat) (bs : List UInt8) (hr : Rd w w.heap.size A n0 (bs.map bv)) (h3 : n0 ≤ 3000) (k f : Nat) (n m : Int) (t : List UInt8) (l : List (List UInt8)) (ha : askedM bs = ((k, n, m, t, l), f))
    (kk ee ss g : Nat) (nn mm : Int) (tt : List UInt8) (ll : List (List UInt8)) (hto : toldM bs = ((kk, ee, nn, mm, tt, ll, ss), g)) :
    Calls Tryd.prog 4 #[.slice A n0 cap] w fun r w' => r = .returned (.bool true) ∧ Below w.heap.size w w' := by
  have hlen := hr.len
  have hl1 : l.length ≤ maxLen := by have := asked_len ha; unfold maxLen; omega
  have hl2 : ll.length ≤ maxLen := by have := told_len hto; unfold maxLen; omega
  have c1 := fun W (h : Later w W) => askedK ha A n0 cap W (rd_later hr h) (by omega)
  have c2 := fun W => refAskedK ha W (by omega)
  have c3 := fun W (h : Later w W) => toldK hto A n0 cap W (rd_later hr h) (by omega)
  have c4 := fun W => refToldK hto W (by omega)
  have c5 := fun (A A' : Option Addr) (c c' : Nat) W ha hb => sameK (k := (k : Int)) (n := n) (m := m) (t := t) (A := A) (A' := A') (c := c) (c' := c') W ha hb hl1
  have c6 := fun (A A' : Option Addr) (c c' : Nat) W ha hb => sameAK (k := (kk : Int)) (e := (ee : Int)) (n := nn) (m := mm) (s := (ss : Int)) (t := tt) (A := A) (A' := A') (c := c) (c' := c') W ha hb hl2
  have ccv := fun W (h : Later w W) => run_str_of (P := Tryd.prog) (rd_later hr h) 33 9 5 Tryd.underlying33 Tryd.underlying5 Tryd.underlying9 cap
  have PK := Lib.hid (And.intro c1 (And.intro c2 (And.intro c3 (And.intro c4 (And.intro c5 (And.intro c6 ccv))))))
  have h3000 : ¬ 3000 < n0 := by omega
  have HN := Lib.hid hN
  clear c1 c2 c3 c4 c5 c6 ccv hN hr ha hto hlen hl1 hl2 h3
  go_enter Tryd.func4, Tryd.ntmps4
  go_wp2_with (first
    | (go_at_call 8; (with_reducible refine (evAwake_v _ HN.out).mono ?_); rintro r w1 ⟨rfl, hb1⟩; have HB1 := Lib.hid hb1; clear hb1)
    | (go_at_call 22; (with_reducible refine (PK.out.1 w1 HB1.out).mono ?_); rintro r w2 ⟨A2, c2, rfl, hr2, hc2, hl2, _⟩; have R2 := Lib.hid hr2; have HB2 := Lib.hid (Later.trans HB1.out (Later.trans hl2 (Later.alloc w2 (.cells (qC k n m t A2 l.length c2) 24)))); have hcv := PK.out.2.2.2.2.2.2 _ HB2.out; clear hr2 hc2 hl2)
    | (go_at_call 23; (with_reducible refine (PK.out.2.1 _).mono ?_); rintro r w3 ⟨A3, c3, rfl, hr3, hl3⟩; have R3 := Lib.hid hr3; have L3 := Lib.hid hl3; have HB3 := Lib.hid (Later.trans HB2.out (Later.trans hl3 (Later.alloc w3 (.cells (qC k n m t A3 l.length c3) 24)))); clear hr3 hl3 hcv)
    | (go_at_call 24; (with_reducible refine (PK.out.2.2.1 _ HB3.out).mono ?_); rintro r w4 ⟨A4, c4, rfl, hr4, hc4, hl4, _⟩; have R4 := Lib.hid hr4; have L4 := Lib.hid hl4; have HB4 := Lib.hid (Later.trans HB3.out (Later.trans hl4 (Later.alloc w4 (.cells (aC kk ee nn mm tt A4 ll.length c4 ss) 26)))); have hcv2 := PK.out.2.2.2.2.2.2 _ HB4.out; clear hr4 hc4 hl4)
    | (go_at_call 25; (with_reducible refine (PK.out.2.2.2.1 _).mono ?_); rintro r w5 ⟨A5, c5, rfl, hr5, hl5⟩; have R5 := Lib.hid hr5; have L5 := Lib.hid hl5; have HB5 := Lib.hid (Later.trans HB4.out (Later.trans hl5 (Later.alloc w5 (.cells (aC kk ee nn mm tt A5 ll.length c5 ss) 26)))); have L45 := Lib.hid (Later.trans (Later.alloc w4 (.cells (aC kk ee nn mm tt A4 ll.length c4 ss) 26)) hl5); have L35 := Lib.hid (Later.trans L4.out L45.out); have L25 := Lib.hid (Later.trans L3.out (Later.trans (Later.alloc w3 (.cells (qC k n m t A3 l.length c3) 24)) L35.out)); obtain ⟨q0, q1, q2, q3, q4⟩ := qcellsK w2 k n m t A2 l.length c2 L25.out; obtain ⟨o0, o1, o2, o3, o4⟩ := qcellsK w3 k n m t A3 l.length c3 L35.out; have zq := World.block_lt_of_cell? w5 _ q0; have zo := World.block_lt_of_cell? w5 _ o0; have RQ := Lib.hid (fun o => rd_later R2.out (Later.trans (Later.trans (Later.alloc w2 (.cells (qC k n m t A2 l.length c2) 24)) L25.out) (Later.alloc w5 o))); have RO := Lib.hid (fun o => rd_later R3.out (Later.trans (Later.trans (Later.alloc w3 (.cells (qC k n m t A3 l.length c3) 24)) L35.out) (Later.alloc w5 o))); clear hr5 hl5 hcv2)
    | (go_at_call 17; (with_reducible refine (PK.out.2.2.2.2.1 A2 A3 c2 c3 _ (RQ.out _) (RO.out _)).mono ?_); rintro r w6 ⟨rfl, hl6⟩; have L6 := Lib.hid hl6; have HB6 := Lib.hid (Later.trans HB5.out hl6); obtain ⟨p0, p1, p2, p3, p4, p5, p6⟩ := acellsK w4 kk ee nn mm tt A4 ll.length c4 ss (Later.trans L5.out (Later.trans (Later.alloc w5 _) hl6)); obtain ⟨d0, d1, d2, d3, d4, d5, d6⟩ := acellsK w5 kk ee nn mm tt A5 ll.length c5 ss hl6; have RP := Lib.hid (rd_later R4.out (Later.trans L45.out (Later.trans (Later.alloc w5 _) hl6))); have RD := Lib.hid (rd_later R5.out (Later.trans (Later.alloc w5 _) hl6)); clear hl6)
    | (go_at_call 26; (with_reducible refine (PK.out.2.2.2.2.2.1 A4 A5 c4 c5 w6 RP.out RD.out).mono ?_); rintro r w7 ⟨rfl, hl7⟩; have HB7 := Lib.hid (Later.trans HB6.out hl7); clear hl7))
  go_ret
  exact ⟨rfl, HB7.out⟩
set_option maxRecDepth 100000 in
theorem walkL (w : World) (hN : Names w) (A : Option Addr) (n0 cap : Nat) (h3 : 3000 < n0) :
    Calls Tryd.prog 4 #[.slice A n0 cap] w fun r w' => r = .returned (.bool true) ∧ Below w.heap.size w w' := by
  have HN := Lib.hid hN
  clear hN
  go_enter Tryd.func4, Tryd.ntmps4
  go_wp2_with (go_at_call 8; (with_reducible refine (evAwake_v _ HN.out).mono ?_); rintro r w1 ⟨rfl, hb1⟩; have HB1 := Lib.hid hb1; clear hb1)
  go_ret
  exact ⟨rfl, HB1.out⟩
theorem walk (w : World) (hN : Names w) (A : Option Addr) (n0 cap : Nat) (bs : List UInt8) (h : Rd w w.heap.size A n0 (bs.map bv) ∧ n0 ≤ cap ∧ cap ≤ maxLen) :
    Calls Tryd.prog 4 #[.slice A n0 cap] w fun r w' => r = .returned (.bool true) ∧ Below w.heap.size w w' := by
  obtain ⟨hr, h1, h2⟩ := h
  by_cases h3 : n0 ≤ 3000
  · obtain ⟨⟨⟨k, n, m, t, l⟩, f⟩, ha⟩ : ∃ x, askedM bs = x := ⟨_, rfl⟩
    obtain ⟨⟨⟨kk, ee, nn, mm, tt, ll, ss⟩, g⟩, hto⟩ : ∃ x, toldM bs = x := ⟨_, rfl⟩
    exact main w hN A n0 cap bs hr h3 k f n m t l ha kk ee ss g nn mm tt ll hto
  · exact walkL w hN A n0 cap (by omega)
end eventReads
end Go.Proofs.YtbgojfgapbcanaaDoor
