/- The walk of EventBack, where nothing returns early. -/
import Derived.Test.YtbgojfgapbcanaaDoorEBackE
namespace Go.Proofs.YtbgojfgapbcanaaDoor
namespace eventBack
open Go.RowKit
structure QC (W : World) (b : Nat) (k n m : Int) (t : List UInt8) (A : Option Addr) (a c : Nat) : Prop where
  c0 : W.cell? ⟨b, 0, none⟩ = some (.int .i64 k)
  c1 : W.cell? ⟨b, 1, none⟩ = some (.int .i64 n)
  c2 : W.cell? ⟨b, 2, none⟩ = some (.int .i64 m)
  c3 : W.cell? ⟨b, 3, none⟩ = some (.string (mkS t))
  c4 : W.cell? ⟨b, 4, none⟩ = some (.slice A a c)
structure PC (W : World) (b : Nat) (k e n m : Int) (t : List UInt8) (A : Option Addr) (a c : Nat) (s : Int) : Prop where
  c0 : W.cell? ⟨b, 0, none⟩ = some (.int .i64 k)
  c1 : W.cell? ⟨b, 1, none⟩ = some (.int .i64 e)
  c2 : W.cell? ⟨b, 2, none⟩ = some (.int .i64 n)
  c3 : W.cell? ⟨b, 3, none⟩ = some (.int .i64 m)
  c4 : W.cell? ⟨b, 4, none⟩ = some (.string (mkS t))
  c5 : W.cell? ⟨b, 5, none⟩ = some (.slice A a c)
  c6 : W.cell? ⟨b, 6, none⟩ = some (.int .i64 s)
theorem QC.keep {S : Nat → Prop} {W W' : World} {b : Nat} {k n m : Int} {t : List UInt8} {A : Option Addr} {a c : Nat} (h : QC W b k n m t A a c) (hk : Keeps S W W') (hs : ¬ S b) : QC W' b k n m t A a c :=
  ⟨hk.cell hs h.c0, hk.cell hs h.c1, hk.cell hs h.c2, hk.cell hs h.c3, hk.cell hs h.c4⟩
theorem PC.keep {S : Nat → Prop} {W W' : World} {b : Nat} {k e n m s : Int} {t : List UInt8} {A : Option Addr} {a c : Nat} (h : PC W b k e n m t A a c s) (hk : Keeps S W W') (hs : ¬ S b) : PC W' b k e n m t A a c s :=
  ⟨hk.cell hs h.c0, hk.cell hs h.c1, hk.cell hs h.c2, hk.cell hs h.c3, hk.cell hs h.c4, hk.cell hs h.c5, hk.cell hs h.c6⟩
theorem QC.new (w : World) (k n m : Int) (t : List UInt8) (A : Option Addr) (a c : Nat) : QC (w.alloc (.cells (qC k n m t A a c) 24)) w.heap.size k n m t A a c := by
  obtain ⟨h0, h1, h2, h3, h4⟩ := qcellsK w k n m t A a c (Later.refl _)
  exact ⟨h0, h1, h2, h3, h4⟩
theorem PC.new (w : World) (k e n m : Int) (t : List UInt8) (A : Option Addr) (a c : Nat) (s : Int) : PC (w.alloc (.cells (aC k e n m t A a c s) 26)) w.heap.size k e n m t A a c s := by
  obtain ⟨h0, h1, h2, h3, h4, h5, h6⟩ := acellsK w k e n m t A a c s (Later.refl _)
  exact ⟨h0, h1, h2, h3, h4, h5, h6⟩
theorem two_later (w : World) (o o2 : Obj) : Later w ((w.alloc o).alloc o2) := Later.trans (Later.alloc w o) (Later.alloc _ o2)
theorem rd_one (w : World) (x : Int) (o : Obj) : Rd ((w.alloc o).alloc (.cells #[.int .u8 x] 5)) (w.heap.size + 2) (some ⟨w.heap.size + 1, 0, none⟩) 1 [.int .u8 x] := by
  have h := Rd.lit (w.alloc o) 5 [.int .u8 x]
  simpa using h
theorem one_more (x : Int) : ∀ u ∈ [Value.int .u8 x], u.oneCell' = true := by simp [Value.oneCell']
def Btw (a b : Nat) : Nat → Prop := fun i => a ≤ i ∧ i < b
theorem not_btw {a b i : Nat} (h : b ≤ i) : ¬ Btw a b i := fun h2 => by have := h2.2; omega
theorem btw_not {a b i j : Nat} (h : j < a) (hi : i ≤ j) : ¬ Btw a b i := fun h2 => by have := h2.1; omega
theorem lt_of_keep {S : Nat → Prop} {w W : World} {o : Obj} (h : Keeps S (w.alloc o) W) : w.heap.size < W.heap.size := by have := h.size; rw [World.size_alloc] at this; omega
theorem sameT {k n m : Int} {t : List UInt8} {A A' : Option Addr} {c c' : Nat} {l : List (List UInt8)} (W : World) (ha : Rd W W.heap.size A l.length (l.map sv)) (hb : Rd W W.heap.size A' l.length (l.map sv)) (hl : l.length ≤ maxLen) :
    Calls Tryd.prog 17 #[reqV k n m t A' l.length c', reqV k n m t A l.length c] W fun r w' => r = .returned (.bool true) ∧ Later W w' := by
  refine (refSame_v k n m k n m t t A' A l.length c' l.length c l l W hb ha hl hl).mono ?_
  rintro r w' ⟨rfl, h⟩
  exact ⟨ret_bool (decide_eq_true ⟨rfl, rfl, rfl, rfl, rfl⟩), h⟩
theorem sameAT {k e n m s : Int} {t : List UInt8} {A A' : Option Addr} {c c' : Nat} {l : List (List UInt8)} (W : World) (ha : Rd W W.heap.size A l.length (l.map sv)) (hb : Rd W W.heap.size A' l.length (l.map sv)) (hl : l.length ≤ maxLen) :
    Calls Tryd.prog 26 #[ansV k e n m t A' l.length c' s, ansV k e n m t A l.length c s] W fun r w' => r = .returned (.bool true) ∧ Later W w' := by
  refine (refSameA_v k e n m s k e n m s t t A' A l.length c' l.length c l l W hb ha hl hl).mono ?_
  rintro r w' ⟨rfl, h⟩
  exact ⟨ret_bool (decide_eq_true ⟨rfl, rfl, rfl, rfl, rfl, rfl, rfl⟩), h⟩
theorem rd_take {W : World} {B n i : Nat} {A : Option Addr} {l : List UInt8} (h : Rd W B A n (l.map bv)) (hi : i ≤ n) : Rd W B A i ((l.take i).map bv) := by
  rw [List.map_take]; exact h.take_ hi
theorem own_lt {w w' : World} {A : Option Addr} {n c : Nat} {L : List UInt8} (h : Made w w' (.slice A n c) L) : ∀ k, (Value.slice A n c).ownBlock = some k → w.heap.size ≤ k ∧ k < w'.heap.size := fun k hk => h.own.lt k hk
set_option maxRecDepth 100000 in
set_option maxHeartbeats 4000000 in
theorem main (w : World) (hN : Names w) (k n m : Int) (t : List UInt8) (A : Option Addr) (len cap : Nat) (l : List (List UInt8)) (ak ae an am : Int) (at_ : List UInt8) (aA : Option Addr) (alen acap : Nat) (al : List (List UInt8)) (asg : Int) (cut more : Int) (hr : Rd w w.heap.size A len (l.map sv)) (har : Rd w w.heap.size aA alen (al.map sv)) (hcap : len ≤ 2 ^ 63 - 1) (hacap : alen ≤ 2 ^ 63 - 1) (h1 : fewB len l = true) (h2b : fewB alen al = true) (h3 : ¬ 500 < t.length) (h4 : ¬ 500 < at_.length) (h5 : rightB k len = true) (h6 : fitsB ak ak ae asg alen = true)
    (hnb : -9223372036854775808 ≤ n ∧ n ≤ 9223372036854775807) (hmb : -9223372036854775808 ≤ m ∧ m ≤ 9223372036854775807) (hanb : -9223372036854775808 ≤ an ∧ an ≤ 9223372036854775807) (hamb : -9223372036854775808 ≤ am ∧ am ≤ 9223372036854775807)
    (hcut : 0 ≤ cut ∧ cut ≤ 65535) (hmore : (Lit.int .u8 more).wf = true) :
    Calls Tryd.prog 5 #[reqV k n m t A len cap, ansV ak ae an am at_ aA alen acap asg, .int .u16 cut, .int .u8 more] w fun r w' => r = .returned (.bool true) ∧ Below w.heap.size w w' := by
  have hlen := hr.len_map
  have halen := har.len_map
  obtain ⟨f1, f2⟩ := few_of h1
  obtain ⟨g1, g2⟩ := few_of h2b
  have hrb := of_decide_eq_true h5
  have hfb := of_decide_eq_true h6
  subst hlen
  subst halen
  obtain ⟨kN, rfl⟩ : ∃ kN : Nat, k = (kN : Int) := ⟨k.toNat, by omega⟩
  obtain ⟨akN, rfl⟩ : ∃ kN : Nat, ak = (kN : Int) := ⟨ak.toNat, by omega⟩
  obtain ⟨aeN, rfl⟩ : ∃ kN : Nat, ae = (kN : Int) := ⟨ae.toNat, by omega⟩
  obtain ⟨asN, rfl⟩ : ∃ kN : Nat, asg = (kN : Int) := ⟨asg.toNat, by omega⟩
  obtain ⟨mb, hmbv⟩ := byte_more hmore
  -- the request's bytes
  obtain ⟨lb, hlb⟩ : ∃ lb, lb = askL kN n m t l := ⟨_, rfl⟩
  have hll := askL_len (k := kN) (by omega) hnb hmb (by omega) (by omega) f2 (t := t) (l := l)
  have hl64 : ∀ x ∈ l, x.length < 18446744073709551616 := fun x hx => by have := f2 x hx; omega
  have e1 : askedM lb = ((kN, n, m, t, l), 0) := by
    have h := asked_all (k := kN) (by omega) (zig_ok hnb) (zig_ok hmb) (show t.length < 18446744073709551616 by omega) (by omega) hl64 []
    rw [List.append_nil, ← hlb] at h
    rw [h, if_neg (by omega), if_neg (by simp)]
  have e2 : ∀ j, j < lb.length → askedM (lb.take j) = ((0, 0, 0, [], []), 10) := fun j hj => by
    have h := asked_cut (k := kN) (by omega) (zig_ok hnb) (zig_ok hmb) (show t.length < 18446744073709551616 by omega) (by omega) hl64 (j := j) (by rw [← hlb]; exact hj)
    rw [← hlb] at h
    exact h
  have e3 : askedM (lb ++ [mb]) = ((0, 0, 0, [], []), 14) := by
    have h := asked_all (k := kN) (by omega) (zig_ok hnb) (zig_ok hmb) (show t.length < 18446744073709551616 by omega) (by omega) hl64 [mb]
    rw [← hlb] at h
    rw [h, if_neg (by omega), if_pos (by simp)]
    rfl
  rw [← hlb] at hll
  -- the answer's bytes
  obtain ⟨cb, hcb⟩ : ∃ cb, cb = tellL akN aeN an am at_ al asN := ⟨_, rfl⟩
  have hcl := tellL_len (k := akN) (e := aeN) (s := asN) (by omega) (by omega) (by omega) hanb hamb (by omega) (by omega) g2 (t := at_) (l := al)
  have ha64 : ∀ x ∈ al, x.length < 18446744073709551616 := fun x hx => by have := g2 x hx; omega
  have e4 : toldM cb = ((akN, aeN, an, am, at_, al, asN), 0) := by
    have h := told_all (k := akN) (e := aeN) (s := asN) (by omega) (by omega) (zig_ok hanb) (zig_ok hamb) (show at_.length < 18446744073709551616 by omega) (by omega) ha64 (by omega) []
    rw [List.append_nil, ← hcb] at h
    rw [h, if_neg (fun hc => hc (by omega)), if_neg (by simp)]
  have e5 : ∀ j, j < cb.length → toldM (cb.take j) = ((0, 0, 0, 0, [], [], 0), 10) := fun j hj => by
    have h := told_cut (k := akN) (e := aeN) (s := asN) (by omega) (by omega) (zig_ok hanb) (zig_ok hamb) (show at_.length < 18446744073709551616 by omega) (by omega) ha64 (by omega) (j := j) (by rw [← hcb]; exact hj)
    rw [← hcb] at h
    exact h
  have e6 : toldM (cb ++ [mb]) = ((0, 0, 0, 0, [], [], 0), 14) := by
    have h := told_all (k := akN) (e := aeN) (s := asN) (by omega) (by omega) (zig_ok hanb) (zig_ok hamb) (show at_.length < 18446744073709551616 by omega) (by omega) ha64 (by omega) [mb]
    rw [← hcb] at h
    rw [h, if_neg (fun hc => hc (by omega)), if_pos (by simp)]
    rfl
  rw [← hcb] at hcl
  have hxl : (textsB l).length ≤ 1000000000000 := by
    have h6 := textsB_le (M := 200) (by omega) f2
    have h7 : l.length * (10 + 200) ≤ 30 * 210 := Nat.mul_le_mul (by omega) (by omega)
    omega
  have hxa : (textsB al).length ≤ 1000000000000 := by
    have h6 := textsB_le (M := 200) (by omega) g2
    have h7 : al.length * (10 + 200) ≤ 30 * 210 := Nat.mul_le_mul (by omega) (by omega)
    omega
  have cask := fun W (h : Later w W) => ask_v kN n m t A l.length cap l W (rd_later hr h) hxl (by omega) hnb.1 hnb.2 hmb.1 hmb.2
  have ctell := fun W (h : Later w W) => tell_v akN aeN an am at_ aA al.length acap al asN W (rd_later har h) hxa (by omega) hanb.1 hanb.2 hamb.1 hamb.2
  have eask : askB kN n m t l = lb := by unfold askB; rw [if_pos h5, hlb]; rfl
  have etell : tellB akN aeN an am at_ al asN = cb := by unfold tellB; rw [if_pos h6, hcb]; rfl
  rw [eask] at cask
  rw [etell] at ctell
  -- the cuts
  obtain ⟨i1, hi1⟩ : ∃ i1 : Nat, cut % (lb.length : Int) = (i1 : Int) := ⟨(cut % (lb.length : Int)).toNat, by have := Int.emod_nonneg cut (show (lb.length : Int) ≠ 0 by omega); omega⟩
  have hi1l : i1 < lb.length := by have := Int.emod_lt_of_pos cut (show (0 : Int) < (lb.length : Int) by omega); omega
  obtain ⟨i2, hi2⟩ : ∃ i2 : Nat, cut % (cb.length : Int) = (i2 : Int) := ⟨(cut % (cb.length : Int)).toNat, by have := Int.emod_nonneg cut (show (cb.length : Int) ≠ 0 by omega); omega⟩
  have hi2l : i2 < cb.length := by have := Int.emod_lt_of_pos cut (show (0 : Int) < (cb.length : Int) by omega); omega
  have E1 := Lib.hid e1
  have E2 := Lib.hid (e2 i1 hi1l)
  have E3 := Lib.hid e3
  have E4 := Lib.hid e4
  have E5 := Lib.hid (e5 i2 hi2l)
  have E6 := Lib.hid e6
  obtain ⟨lb1, hlb1⟩ : ∃ lb1, lb1 = lb ++ [mb] := ⟨_, rfl⟩
  obtain ⟨cb1, hcb1⟩ : ∃ cb1, cb1 = cb ++ [mb] := ⟨_, rfl⟩
  rw [← hlb1] at E3
  rw [← hcb1] at E6
  have HL1 := Lib.hid hlb1
  have HC1 := Lib.hid hcb1
  have HMB := Lib.hid hmbv
  have TAKE1 := Lib.hid (List.map_take (f := bv) (l := lb) (i := i1))
  have TAKE2 := Lib.hid (List.map_take (f := bv) (l := cb) (i := i2))
  obtain ⟨hll5, hllu⟩ := hll
  obtain ⟨hcl7, hclu⟩ := hcl
  have hz5 : ¬ ((lb.length : Int) < 5) := by omega
  have hz7 : ¬ ((cb.length : Int) < 7) := by omega
  obtain ⟨hcut0, hcut1⟩ := hcut
  obtain ⟨info, hinf, hz0, hz1, hz2⟩ := info_parts info_u8
  have hsame := fun (c c' : Nat) (A' : Option Addr) W (ha : Rd W W.heap.size A l.length (l.map sv)) (hb : Rd W W.heap.size A' l.length (l.map sv)) => sameT (k := (kN : Int)) (n := n) (m := m) (t := t) (c := c) (c' := c') W ha hb (by unfold maxLen; omega)
  have hsameA := fun (c c' : Nat) (A' : Option Addr) W (ha : Rd W W.heap.size aA al.length (al.map sv)) (hb : Rd W W.heap.size A' al.length (al.map sv)) => sameAT (k := (akN : Int)) (e := (aeN : Int)) (n := an) (m := am) (s := (asN : Int)) (t := at_) (c := c) (c' := c') W ha hb (by unfold maxLen; omega)
  have CSAME := Lib.hid hsame
  have CSAMEA := Lib.hid hsameA
  have CASK := Lib.hid cask
  have CTELL := Lib.hid ctell
  clear hsame hsameA cask ctell e1 e2 e3 e4 e5 e6 hlb hcb hlb1 hcb1 hmbv hi1l hi2l hrb hfb hxl hxa eask etell hl64 ha64 f2 g2 hmore
  have HI1 := Lib.hid (show i1 ≤ lb.length by have := hi1; have := Int.emod_lt_of_pos cut (show (0 : Int) < (lb.length : Int) by omega); omega)
  have HI2 := Lib.hid (show i2 ≤ cb.length by have := hi2; have := Int.emod_lt_of_pos cut (show (0 : Int) < (cb.length : Int) by omega); omega)
  unfold reqV ansV
  have HN := Lib.hid hN
  have HR := Lib.hid hr
  have HAR := Lib.hid har
  have hbox := Lib.hid (two_below w (.cells (qC kN n m t A l.length cap) 24) (.cells (aC akN aeN an am at_ aA al.length acap asN) 26))
  have hbox' := Lib.hid (show Later w ((w.alloc (.cells (qC kN n m t A l.length cap) 24)).alloc (.cells (aC akN aeN an am at_ aA al.length acap asN) 26)) from hbox.out)
  have h2 := fun w1 hb => two_cells w (qC kN n m t A l.length cap) (aC akN aeN an am at_ aA al.length acap asN) 24 26 (w1 := w1) hb
  have H2 := Lib.hid h2
  have hfew1 := fun W (h : Later w W) => few_v A l.length cap W.heap.size l W (rd_later HR.out h) (by omega)
  have hfew2 := fun W (h : Later w W) => few_v aA al.length acap W.heap.size al W (rd_later HAR.out h) (by omega)
  have hrt := fun W => right_v kN n m t A l.length cap W
  have hft := fun W => fits_v akN akN aeN an am at_ aA al.length acap asN W
  have hst := mkS_size t
  have hsa := mkS_size at_
  unfold reqV at hrt
  unfold ansV at hft
  clear h2 hN hr har
  rw [h1] at hfew1
  rw [h2b] at hfew2
  rw [h5] at hrt
  rw [h6] at hft
  have HF1 := Lib.hid hfew1
  have HF2 := Lib.hid hfew2
  have HRT := Lib.hid hrt
  have HFT := Lib.hid hft
  clear hfew1 hfew2 hrt hft h1 h2b h5 h6
  unfold reqV at CASK CSAME
  unfold ansV at CTELL CSAMEA
  have HLB := Lib.hid (And.intro hll5 hllu)
  have HCB := Lib.hid (And.intro hcl7 hclu)
  have HI1E := Lib.hid hi1
  have HI2E := Lib.hid hi2
  have HZ5 := Lib.hid hz5
  have HZ7 := Lib.hid hz7
  have HINF := Lib.hid (And.intro hinf (And.intro hz0 (And.intro hz1 hz2)))
  have HCUT := Lib.hid (And.intro hcut0 hcut1)
  clear hll5 hllu hcl7 hclu hi1 hi2 hz5 hz7 hinf hz0 hz1 hz2 hcut0 hcut1 hnb hmb hanb hamb f1 g1 hcap hacap
  have PK := Lib.hid (And.intro E1.out (And.intro E2.out (And.intro E3.out (And.intro E4.out (And.intro E5.out (And.intro E6.out (And.intro HL1.out (And.intro HC1.out (And.intro HMB.out (And.intro TAKE1.out (And.intro TAKE2.out (And.intro CSAME.out (And.intro CSAMEA.out (And.intro CASK.out (And.intro CTELL.out (And.intro HI1.out (And.intro HI2.out (And.intro HLB.out (And.intro HCB.out (And.intro HI1E.out (And.intro HI2E.out (And.intro HZ5.out (And.intro HZ7.out (And.intro HINF.out (HCUT.out)))))))))))))))))))))))))
  clear E1 E2 E3 E4 E5 E6 HL1 HC1 HMB TAKE1 TAKE2 CSAME CSAMEA CASK CTELL HI1 HI2 HLB HCB HI1E HI2E HZ5 HZ7 HINF HCUT
  go_enter Tryd.func5, Tryd.ntmps5
  go_wp2_with (first
    | (go_at_call 8; (with_reducible refine (evAwake_v _ (HN.out.keep hbox'.out)).mono ?_); rintro r w1 ⟨rfl, hb1⟩; have HB1 := Lib.hid (Later.trans hbox'.out hb1); obtain ⟨c1, c2, hz⟩ := H2.out w1 (by exact hb1); have q0 := c1 0; have q1 := c1 1; have q2 := c1 2; have q3 := c1 3; have q4 := c1 4; have p0 := c2 0; have p1 := c2 1; have p2 := c2 2; have p3 := c2 3; have p4 := c2 4; have p5 := c2 5; have p6 := c2 6; simp only [lit5_0, lit5_1, lit5_2, lit5_3, lit5_4] at q0 q1 q2 q3 q4; simp only [lit7_0, lit7_1, lit7_2, lit7_3, lit7_4, lit7_5, lit7_6] at p0 p1 p2 p3 p4 p5 p6; clear c1 c2 hb1)
    | (go_at_call 9; (with_reducible refine (HF1.out w1 HB1.out).mono ?_); rintro r w' ⟨rfl, rfl⟩)
    | (go_at_call 9; (with_reducible refine (HF2.out w1 HB1.out).mono ?_); rintro r w' ⟨rfl, rfl⟩)
    | (go_at_call 12; (with_reducible refine (HRT.out w1).mono ?_); rintro r w2 ⟨rfl, hb2⟩; have HB2 := Lib.hid (Later.trans HB1.out hb2); have L12 := Lib.hid (show Later w1 w2 from hb2); have p0' := cell_keeps hb2 p0; have p1' := cell_keeps hb2 p1; have p2' := cell_keeps hb2 p2; have p3' := cell_keeps hb2 p3; have p4' := cell_keeps hb2 p4; have p5' := cell_keeps hb2 p5; have p6' := cell_keeps hb2 p6; clear hb2)
    | (go_at_call 14; (with_reducible refine (HFT.out w2).mono ?_); rintro r w3 ⟨rfl, hb3⟩; have HB3 := Lib.hid (Later.trans HB2.out hb3); have L13 := Lib.hid (Later.trans L12.out hb3); have q0' := cell_keeps L13.out q0; have q1' := cell_keeps L13.out q1; have q2' := cell_keeps L13.out q2; have q3' := cell_keeps L13.out q3; have q4' := cell_keeps L13.out q4; clear hb3 p0' p1' p2' p3' p4' p5' p6')
    | (go_at_call 18; (with_reducible refine (PK.out.2.2.2.2.2.2.2.2.2.2.2.2.2.1 w3 HB3.out).mono ?_); rintro r w4 ⟨v1, rfl, hm4⟩; obtain ⟨A4, c4, rfl, hc4, hr4⟩ := hm4.slice; have hc4m := hm4.cap; have M4 := Lib.hid hm4; have R4 := Lib.hid hr4; have L14 := Lib.hid (Later.trans L13.out hm4.bel); have HB4 := Lib.hid (Later.trans HB3.out hm4.bel); have p0'' := cell_keeps L14.out p0; have p1'' := cell_keeps L14.out p1; have p2'' := cell_keeps L14.out p2; have p3'' := cell_keeps L14.out p3; have p4'' := cell_keeps L14.out p4; have p5'' := cell_keeps L14.out p5; have p6'' := cell_keeps L14.out p6; clear hm4 hr4 q0' q1' q2' q3' q4')
    | (go_at_call 20; (with_reducible refine (PK.out.2.2.2.2.2.2.2.2.2.2.2.2.2.2.1 w4 HB4.out).mono ?_); rintro r w5 ⟨v2, rfl, hm5⟩; obtain ⟨A5, c5, rfl, hc5, hr5⟩ := hm5.slice; have hc5m := hm5.cap; have M5 := Lib.hid hm5; have R5 := Lib.hid hr5; have L45 := Lib.hid (show Later w4 w5 from hm5.bel); have HB5 := Lib.hid (Later.trans HB4.out hm5.bel); have L15 := Lib.hid (Later.trans L14.out hm5.bel); have R45 := Lib.hid (rd_later R4.out hm5.bel); have hz5 := PK.out.2.2.2.2.2.2.2.2.2.2.2.2.2.2.2.2.2.2.2.2.2.1; have hz7 := PK.out.2.2.2.2.2.2.2.2.2.2.2.2.2.2.2.2.2.2.2.2.2.2.1; clear hm5 hr5 p0'' p1'' p2'' p3'' p4'' p5'' p6''))
  have KQ5 : Hid (QC w5 w.heap.size kN n m t A l.length cap) := ⟨cell_keeps L15.out q0, cell_keeps L15.out q1, cell_keeps L15.out q2, cell_keeps L15.out q3, cell_keeps L15.out q4⟩
  have KP5 : Hid (PC w5 (w.heap.size + 1) akN aeN an am at_ aA al.length acap asN) := ⟨cell_keeps L15.out p0, cell_keeps L15.out p1, cell_keeps L15.out p2, cell_keeps L15.out p3, cell_keeps L15.out p4, cell_keeps L15.out p5, cell_keeps L15.out p6⟩
  have HW1 := Lib.hid (show w.heap.size + 1 < w3.heap.size by have := L13.out.size; omega)
  have HBL := Lib.hid (show lb.length ≤ 140737488351232 by have := PK.out.2.2.2.2.2.2.2.2.2.2.2.2.2.2.2.2.2.1.2; omega)
  have HBC := Lib.hid (show cb.length ≤ 140737488351232 by have := PK.out.2.2.2.2.2.2.2.2.2.2.2.2.2.2.2.2.2.2.1.2; omega)
  have HBI1 := Lib.hid (show i1 ≤ 140737488351232 by have := PK.out.2.2.2.2.2.2.2.2.2.2.2.2.2.2.2.2.2.1.2; have := PK.out.2.2.2.2.2.2.2.2.2.2.2.2.2.2.2.1; omega)
  have HBI2 := Lib.hid (show i2 ≤ 140737488351232 by have := PK.out.2.2.2.2.2.2.2.2.2.2.2.2.2.2.2.2.2.2.1.2; have := PK.out.2.2.2.2.2.2.2.2.2.2.2.2.2.2.2.2.1; omega)
  have HBL1 := Lib.hid (show lb1.length ≤ 140737488351232 by have := PK.out.2.2.2.2.2.2.2.2.2.2.2.2.2.2.2.2.2.1.2; rw [PK.out.2.2.2.2.2.2.1, List.length_append]; simp; omega)
  have HBC1 := Lib.hid (show cb1.length ≤ 140737488351232 by have := PK.out.2.2.2.2.2.2.2.2.2.2.2.2.2.2.2.2.2.2.1.2; rw [PK.out.2.2.2.2.2.2.2.1, List.length_append]; simp; omega)
  have TOK1 := Lib.hid trivial
  have hi1 := PK.out.2.2.2.2.2.2.2.2.2.2.2.2.2.2.2.2.2.2.2.1
  have hi2 := PK.out.2.2.2.2.2.2.2.2.2.2.2.2.2.2.2.2.2.2.2.2.1
  obtain ⟨hcut0, hcut1⟩ := PK.out.2.2.2.2.2.2.2.2.2.2.2.2.2.2.2.2.2.2.2.2.2.2.2.2
  have hx0 : (0 : Int) ≤ (i1 : Int) := by omega
  have hy0 : (0 : Int) ≤ (i2 : Int) := by omega
  have hx1 : (i1 : Int) ≤ (c4 : Int) := by have := PK.out.2.2.2.2.2.2.2.2.2.2.2.2.2.2.2.1; omega
  have hy1 : (i2 : Int) ≤ (c5 : Int) := by have := PK.out.2.2.2.2.2.2.2.2.2.2.2.2.2.2.2.2.1; omega
  obtain ⟨hinf, hz0, hz1, hz2⟩ := PK.out.2.2.2.2.2.2.2.2.2.2.2.2.2.2.2.2.2.2.2.2.2.2.2.1
  have HSZ := Lib.hid (And.intro HB3.out.size (And.intro M4.out.bel.size M5.out.bel.size))
  clear q0 q1 q2 q3 q4 p0 p1 p2 p3 p4 p5 p6 h3 h4 hst hsa hc4m hc5m HF1 HF2 HRT HFT hbox hbox' H2 HB1 HB2 L12 L14 L15 hz
  go_wp2_with (first
    | (go_at_call 22; have _t := TOK1; (with_reducible refine (askedK PK.out.1 A4 lb.length c4 w5 R45.out HBL.out).mono ?_); rintro r w6 ⟨A6, c6, rfl, hr6, hc6, hl6, hlow6⟩; have RP6 := Lib.hid hr6; have LOW6 := Lib.hid hlow6; have L56 := Lib.hid hl6; have R56 := Lib.hid (fun o => rd_later R5.out (Later.trans hl6 (Later.alloc w6 o))); clear hr6 hc6 hl6 hlow6 TOK1)
    | (go_at_call 24; (with_reducible refine (toldK PK.out.2.2.2.1 A5 cb.length c5 _ (R56.out _) HBC.out).mono ?_); rintro r w7 ⟨A7, c7, rfl, hr7, hc7, hl7, hlow7⟩; have RD7 := Lib.hid hr7; have LOW7 := Lib.hid hlow7; have L67 := Lib.hid hl7; have L57 := Lib.hid (Later.trans L56.out (Later.trans (Later.alloc w6 _) hl7)); have R7b := Lib.hid (fun o => rd_take (rd_later R45.out (Later.trans L57.out (Later.alloc w7 o))) PK.out.2.2.2.2.2.2.2.2.2.2.2.2.2.2.2.1); clear hr7 hc7 hl7 hlow7 R56)
    | (go_at_call 22; (with_reducible refine (askedK PK.out.2.1 A4 i1 c4 _ (R7b.out _) HBI1.out).mono ?_); rintro r w8 ⟨A8, c8, rfl, hr8, hc8, hl8, hlow8⟩; have L78 := Lib.hid hl8; have L58 := Lib.hid (Later.trans L57.out (Later.trans (Later.alloc w7 _) hl8)); have R8c := Lib.hid (fun o => rd_take (rd_later R5.out (Later.trans L58.out (Later.alloc w8 o))) PK.out.2.2.2.2.2.2.2.2.2.2.2.2.2.2.2.2.1); clear hr8 hc8 hl8 hlow8 R7b)
    | (go_at_call 24; (with_reducible refine (toldK PK.out.2.2.2.2.1 A5 i2 c5 _ (R8c.out _) HBI2.out).mono ?_); rintro r w9 ⟨A9, c9, rfl, hr9, hc9, hl9, hlow9⟩; have L89 := Lib.hid hl9; have L59 := Lib.hid (Later.trans L58.out (Later.trans (Later.alloc w8 _) hl9)); have LL9 := Lib.hid (fun o o2 => Later.trans L59.out (two_later w9 o o2)); have OB9 := Lib.hid (fun o o2 => own_below M4.out.own (Later.trans L45.out (LL9.out o o2))); have OC9 := Lib.hid (fun o o2 => own_below M5.out.own (LL9.out o o2)); have HB9 := Lib.hid (fun o o2 => Later.trans HB5.out (LL9.out o o2)); have SZ9 := Lib.hid (fun o o2 => (LL9.out o o2).size); have RM9 := Lib.hid (fun o => rd_one w9 more o); clear hr9 hc9 hl9 hlow9 R8c)
    | (at_builtin; refine wpList_appN _ rfl (.tmp 110) (.tmp 112) _ rfl w3.heap.size 5 info (.int .u8 0) 1 Tryd.underlying33 hinf hz0 hz1 hz2 rfl (.slice A4 lb.length c4) (lb.map bv) rfl (OB9.out _ _) (w9.heap.size + 2) (some ⟨w9.heap.size + 1, 0, none⟩) 1 1 [.int .u8 more] rfl (RM9.out _) (one_more more) ?hby ?hle ?hba ?_; (case hby => have := PK.out.2.2.2.2.2.2.2.2.2.2.2.2.2.2.2.2.2.1; simp only [List.length_map]; omega); (case hle => have := PK.out.2.2.2.2.2.2.2.2.2.2.2.2.2.2.2.2.2.1; simp only [List.length_map]; omega); (case hba => have h1 := HSZ.out; have h2 := SZ9.out (.cells #[] 0) (.cells #[] 0); simp only [World.size_alloc] at h2 ⊢; omega); intro v10 w10 hg10; have K10 := Lib.hid (Keeps.grew (S := Btw w3.heap.size w5.heap.size) hg10 (fun k hk => by have h1 := own_lt M4.out k hk; have h2 := HSZ.out; exact ⟨h1.1, by omega⟩)); have OC10 := Lib.hid (own_apart (OC9.out _ _) hg10 (fun k hk => (own_lt M4.out k hk).2)); have hb10 := hg10.below (OB9.out _ _) (by have h1 := HSZ.out; have h2 := SZ9.out (.cells #[] 0) (.cells #[] 0); simp only [World.size_alloc] at h2 ⊢; omega); have HB10 := Lib.hid (show Later w w10 from Below.trans (HB9.out _ _) (hb10.mono HSZ.out.1)); have e10 : lb.map bv ++ [Value.int .u8 more] = lb1.map bv := (by rw [PK.out.2.2.2.2.2.2.2.2.1, PK.out.2.2.2.2.2.2.1]; simp); have ho10 := hg10.own; rw [e10] at ho10; clear hg10 hb10 e10; obtain ⟨A10, c10, rfl, hc10, hr10, _⟩ := own_map ho10; have R10 := Lib.hid hr10; clear ho10 hr10 hc10 OB9)
    | (go_at_call 22; (with_reducible refine (askedK PK.out.2.2.1 A10 lb1.length c10 w10 R10.out HBL1.out).mono ?_); rintro r w11 ⟨A11, c11, rfl, hr11, hc11, hl11, hlow11⟩; have L1011 := Lib.hid hl11; have LL11 := Lib.hid (fun o o2 => Later.trans hl11 (two_later w11 o o2)); have OC11 := Lib.hid (fun o o2 => own_below OC10.out (LL11.out o o2)); have HB11 := Lib.hid (fun o o2 => Later.trans HB10.out (LL11.out o o2)); have SZ11 := Lib.hid (fun o o2 => Nat.le_trans (Nat.le_trans (SZ9.out _ _) K10.out.size) (LL11.out o o2).size); have RM11 := Lib.hid (fun o => rd_one w11 more o); clear hr11 hc11 hl11 hlow11 R10)
    | (at_builtin; refine wpList_appN _ rfl (.tmp 118) (.tmp 120) _ rfl w4.heap.size 5 info (.int .u8 0) 1 Tryd.underlying33 hinf hz0 hz1 hz2 rfl (.slice A5 cb.length c5) (cb.map bv) rfl (OC11.out _ _) (w11.heap.size + 2) (some ⟨w11.heap.size + 1, 0, none⟩) 1 1 [.int .u8 more] rfl (RM11.out _) (one_more more) ?hby2 ?hle2 ?hba2 ?_; (case hby2 => have := PK.out.2.2.2.2.2.2.2.2.2.2.2.2.2.2.2.2.2.2.1; simp only [List.length_map]; omega); (case hle2 => have := PK.out.2.2.2.2.2.2.2.2.2.2.2.2.2.2.2.2.2.2.1; simp only [List.length_map]; omega); (case hba2 => have h1 := HSZ.out; have h2 := SZ11.out (.cells #[] 0) (.cells #[] 0); simp only [World.size_alloc] at h2 ⊢; omega); intro v12 w12 hg12; have K12 := Lib.hid (Keeps.grew (S := Btw w3.heap.size w5.heap.size) hg12 (fun k hk => by have h1 := own_lt M5.out k hk; have h2 := HSZ.out; exact ⟨by omega, h1.2⟩)); have hb12 := hg12.below (OC11.out _ _) (by have h1 := HSZ.out; have h2 := SZ11.out (.cells #[] 0) (.cells #[] 0); simp only [World.size_alloc] at h2 ⊢; omega); have HB12 := Lib.hid (show Later w w12 from Below.trans (HB11.out _ _) (hb12.mono (Nat.le_trans HSZ.out.1 HSZ.out.2.1))); have e12 : cb.map bv ++ [Value.int .u8 more] = cb1.map bv := (by rw [PK.out.2.2.2.2.2.2.2.2.1, PK.out.2.2.2.2.2.2.2.1]; simp); have ho12 := hg12.own; rw [e12] at ho12; clear hg12 hb12 e12; obtain ⟨A12, c12, rfl, hc12, hr12, _⟩ := own_map ho12; have R12 := Lib.hid hr12; clear ho12 hr12 hc12 OC11)
    | (go_at_call 24; (with_reducible refine (toldK PK.out.2.2.2.2.2.1 A12 cb1.length c12 w12 R12.out HBC1.out).mono ?_); rintro r w13 ⟨A13, c13, rfl, hr13, hc13, hl13, hlow13⟩; have L1213 := Lib.hid hl13; have K7 := Lib.hid (Keeps.trans (S := Btw w3.heap.size w5.heap.size) (Keeps.of L78.out) (Keeps.trans (Keeps.of (Later.alloc w8 _)) (Keeps.trans (Keeps.of L89.out) (Keeps.trans (Keeps.of (two_later w9 _ _)) (Keeps.trans K10.out (Keeps.trans (Keeps.of L1011.out) (Keeps.trans (Keeps.of (two_later w11 _ _)) (Keeps.trans K12.out (Keeps.of hl13))))))))); have K6 := Lib.hid (Keeps.trans (S := Btw w3.heap.size w5.heap.size) (Keeps.of L67.out) (Keeps.trans (Keeps.of (Later.alloc w7 _)) K7.out)); have K5 := Lib.hid (Keeps.trans (S := Btw w3.heap.size w5.heap.size) (Keeps.of L56.out) (Keeps.trans (Keeps.of (Later.alloc w6 _)) K6.out)); have NS6 := Lib.hid (not_btw (a := w3.heap.size) L56.out.size); have NS7 := Lib.hid (not_btw (a := w3.heap.size) L57.out.size); obtain ⟨a0, a1, a2, a3, a4⟩ := (QC.new w6 kN n m t A6 l.length c6).keep K6.out NS6.out; obtain ⟨b0, b1, b2, b3, b4⟩ := KQ5.out.keep K5.out (btw_not HW1.out (Nat.le_succ _)); have PD := Lib.hid ((PC.new w7 akN aeN an am at_ A7 al.length c7 asN).keep K7.out NS7.out); have PA := Lib.hid (KP5.out.keep K5.out (btw_not HW1.out (Nat.le_refl _))); have RQ := Lib.hid (fun o => rd_later ((Keeps.rdB K5.out (HR.out.below HB5.out) (fun i hi => btw_not HW1.out (Nat.le_succ_of_le (Nat.le_of_lt hi)))).more (Nat.le_trans HB5.out.size K5.out.size)) (Later.alloc w13 o)); have RP := Lib.hid (fun o => rd_later ((Keeps.trans (Keeps.of (Later.alloc w6 _)) K6.out).rd RP6.out (fun ad e => not_btw (LOW6.out ad e))) (Later.alloc w13 o)); have RA := Lib.hid ((Keeps.rdB K5.out (HAR.out.below HB5.out) (fun i hi => btw_not HW1.out (Nat.le_succ_of_le (Nat.le_of_lt hi)))).more (Nat.le_trans HB5.out.size K5.out.size)); have RD := Lib.hid ((Keeps.trans (Keeps.of (Later.alloc w7 _)) K7.out).rd RD7.out (fun ad e => not_btw (Nat.le_trans (Nat.le_trans L56.out.size (Later.alloc w6 _).size) (LOW7.out ad e)))); have HB13 := Lib.hid (Later.trans HB12.out hl13); have z6 := lt_of_keep K6.out; have z7 := lt_of_keep K7.out; have zw := Nat.lt_of_le_of_lt (Nat.le_trans HB5.out.size L56.out.size) z6; clear hr13 hc13 hl13 hlow13 R12)
    | (go_at_call 17; (with_reducible refine (PK.out.2.2.2.2.2.2.2.2.2.2.2.1 cap c6 A6 _ (RQ.out _) (RP.out _)).mono ?_); rintro r w14 ⟨rfl, hl14⟩; have L14 := Lib.hid (Later.trans (Later.alloc w13 _) hl14); have HB14 := Lib.hid (Later.trans HB13.out L14.out); obtain ⟨d0, d1, d2, d3, d4, d5, d6⟩ := PD.out.keep (Keeps.of (S := Btw w3.heap.size w5.heap.size) L14.out) NS7.out; obtain ⟨e0, e1, e2, e3, e4, e5, e6⟩ := PA.out.keep (Keeps.of (S := Btw w3.heap.size w5.heap.size) L14.out) (btw_not HW1.out (Nat.le_refl _)); have RA14 := Lib.hid (rd_later RA.out L14.out); have RD14 := Lib.hid (rd_later RD.out L14.out); have z7' := Nat.lt_of_lt_of_le z7 L14.out.size; clear hl14)
    | (go_at_call 26; (with_reducible refine (PK.out.2.2.2.2.2.2.2.2.2.2.2.2.1 acap c7 A7 w14 RA14.out RD14.out).mono ?_); rintro r w15 ⟨rfl, hl15⟩; have HB15 := Lib.hid (Later.trans HB14.out hl15); clear hl15))
  go_ret
  exact ⟨rfl, HB15.out⟩
end eventBack
end Go.Proofs.YtbgojfgapbcanaaDoor
