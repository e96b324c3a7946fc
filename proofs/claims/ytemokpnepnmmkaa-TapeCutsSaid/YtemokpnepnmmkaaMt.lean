/- A tape's writer in memory: its row's put and copied. -/
import Derived.Test.YtemokpnepnmmkaaMj
import Derived.Test.YtemokpnepnmmkaaMn
import Derived.Test.YtemokpnepnmmkaaMe
import Derived.RangeFuncBox
import Derived.Test.YtemokpnepnmmkaaMs
namespace Go.Proofs.Ytemokpnepnmmkaa
open Go.RowKit
/-- Nothing has turned but the blocks of S. -/
structure Only (S : Nat → Prop) (W W' : World) : Prop where
  os : W'.os = W.os
  tape : W'.tape = W.tape
  output : W'.output = W.output
  size : W.heap.size ≤ W'.heap.size
  block : ∀ i, i < W.heap.size → ¬ S i → W'.heap[i]? = W.heap[i]?
/-- The blocks that a writer lies in. -/
def wS (g : Nat) (v : Value) : Nat → Prop := fun i => i = g ∨ v.ownBlock = some i
section
variable {S : Nat → Prop} {W W1 W2 : World}
theorem Only.refl (S : Nat → Prop) (W : World) : Only S W W := ⟨rfl, rfl, rfl, Nat.le_refl _, fun _ _ _ => rfl⟩
theorem Only.later (h : Later W W1) : Only S W W1 := ⟨h.os, h.tape, h.output, h.size, fun i hi _ => h.block i hi⟩
theorem Only.trans (h : Only S W W1) (k : Only S W1 W2) : Only S W W2 := ⟨k.os.trans h.os, k.tape.trans h.tape, k.output.trans h.output, Nat.le_trans h.size k.size, fun i hi hn => (k.block i (Nat.lt_of_lt_of_le hi h.size) hn).trans (h.block i hi hn)⟩
theorem Only.grown {row : Option Nat} (h : W.grownBy W1 row) (hs : ∀ i, row = some i → S i) : Only S W W1 := ⟨h.os, h.tape, h.output, h.size, fun i hi hn => h.block i hi fun e => hn (hs i e.symm)⟩
theorem Only.set {g : Nat} (hg : S g) (u : Value) : Only S W (W.setCell ⟨g, 0, none⟩ u) := Only.grown (grownBy_setCell' W g u) fun i e => by cases e; exact hg
theorem Only.below {B : Nat} (h : Only S W W1) (hB : B ≤ W.heap.size) (hs : ∀ i, S i → B ≤ i) : Below B W W1 := ⟨h.os, h.tape, h.output, h.size, fun k hk => h.block k (by omega) fun e => by have := hs k e; omega⟩
theorem Only.cell (h : Only S W W1) {p : Addr} (hn : ¬ S p.block) (hp : p.block < W.heap.size) : W1.cell? p = W.cell? p := World.cell?_of_block (w := W) (h.block p.block hp hn)
theorem Moved.trans_ {v v1 v2 : Value} (h : Moved W v v1) (hs : W.heap.size ≤ W1.heap.size) (k : Moved W1 v1 v2) : Moved W v v2 := by
  rcases k with e | ⟨j, e, hj⟩
  · rw [Moved, e]; exact h
  · exact .inr ⟨j, e, Nat.le_trans hs hj⟩
/-- Two steps of one writer. -/
theorem Only.step {g : Nat} {v v1 : Value} (h : Only (wS g v) W W1) (hm : Moved W v v1) (k : Only (wS g v1) W1 W2) : Only (wS g v) W W2 := by
  refine ⟨k.os.trans h.os, k.tape.trans h.tape, k.output.trans h.output, Nat.le_trans h.size k.size, fun i hi hn => ?_⟩
  refine (k.block i (Nat.lt_of_lt_of_le hi h.size) fun hk => ?_).trans (h.block i hi hn)
  rcases hk with e | e
  · exact hn (.inl e)
  · rcases hm with e1 | ⟨j, e1, hj⟩
    · exact hn (.inr (e1 ▸ e))
    · rw [e1] at e; injection e with e; omega
end
/-- A writer lies in block g, and has written L; what it has written lies in v, from block B on. -/
structure Wtr (W : World) (B g : Nat) (v : Value) (L : List UInt8) : Prop where
  box : Boxed W g 55 v
  own : W.ownsRow B 5 1 v (L.map bv).length (L.map bv)
  low : B ≤ g
section
variable {W W' : World} {B g : Nat} {v : Value} {L : List UInt8}
theorem writer_ne : 55 ≠ 5 := by decide
theorem Wtr.apart (h : Wtr W B g v L) : v.ownBlock ≠ some g := fun e => h.box.not_row writer_ne h.own e.symm
theorem Wtr.high (h : Wtr W B g v L) : ∀ i, wS g v i → B ≤ i := by
  rintro i (rfl | e)
  · exact h.low
  · exact (h.own.lt i e).1
theorem Wtr.only {S : Nat → Prop} (h : Wtr W B g v L) (ho : Only S W W') (hg : ¬ S g) (hv : ∀ i, v.ownBlock = some i → ¬ S i) : Wtr W' B g v L :=
  ⟨(ho.block g h.box.lt hg).trans h.box, by
    refine ⟨h.own.1, ?_⟩
    rcases h.own.2 with h0 | ⟨k, cap, cur, h1, h2, h3, h4⟩
    · exact .inl h0
    · subst h1
      exact .inr ⟨k, cap, cur, rfl, h2, (ho.block k (Array.getElem?_eq_some_iff.1 h3).1 (hv k rfl)).trans h3, h4⟩, h.low⟩
theorem Wtr.later (h : Wtr W B g v L) (hl : Later W W') : Wtr W' B g v L := h.only (S := fun _ => False) (Only.later hl) (fun h => h) (fun _ _ h => h)
/-- The writer's row has grown, and is stored. -/
theorem Wtr.grew (h : Wtr W B g v L) {v' : Value} {M : List UInt8} (hg : Grew W W' B 5 v v' ((L ++ M).map bv)) : Wtr (W'.setCell ⟨g, 0, none⟩ v') B g v' (L ++ M) := by
  have hb : Boxed W' g 55 v := h.box.kept hg.grown fun e => h.apart e.symm
  refine ⟨hb.set v', ?_, h.low⟩
  have ho := hg.own
  refine ⟨ho.1, ?_⟩
  rcases ho.2 with h0 | ⟨k, cap, cur, h1, h2, h3, h4⟩
  · exact .inl h0
  · subst h1
    refine .inr ⟨k, cap, cur, rfl, h2, ?_, h4⟩
    rw [Below.heap_setCell _ _ _ _ (fun e => ?_)]
    · exact h3
    · have e2 : k = g := e
      subst e2
      rw [show W'.heap[k]? = _ from hb] at h3
      have h5 := Option.some.inj h3
      injection h5 with _ e5 _
      exact writer_ne e5
end
set_option maxRecDepth 100000 in
theorem wput_v (B g : Nat) (A0 : Option Addr) (c0 : Nat) (L : List UInt8) (A : Option Addr) (n cap : Nat) (bs : List UInt8) (W : World) (hw : Wtr W B g (.slice A0 L.length c0) L) (hB : B ≤ W.heap.size) (hr : Rd W W.heap.size A n (bs.map bv)) (hn : n ≤ 65536) (hL : L.length ≤ 10000000000000) :
    Calls Try.prog 21 #[.pointer (some ⟨g, 0, none⟩), .slice A n cap] W fun e W' => ∃ v', e = .returned (.bool true) ∧ Wtr W' B g v' (L ++ frameL bs) ∧ Only (wS g (.slice A0 L.length c0)) W W' ∧ Moved W (.slice A0 L.length c0) v' := by
  obtain ⟨i0, hi, hz0, hz1, hz2⟩ := info_parts info_u8
  have hlen := hr.len
  have hq := frameL_len bs
  have h10 := numL_ten (show bs.length < 18446744073709551616 by omega)
  have hrl := RdL.one (c := cap) hr (Nat.le_refl _) (by unfold maxLen; omega) 28
  have hla := Later.alloc W (.cells #[.slice A n cap] 28)
  have hput := putF_v (some ⟨W.heap.size, 0, none⟩) 1 1 _ [bs] _ hrl (by simp) (by omega) (by simp; omega) (by simp; omega)
  have e1 : ([bs] : List (List UInt8)).flatMap frameL = frameL bs := by simp
  rw [e1] at hput
  obtain ⟨f, hf⟩ : ∃ f, f = frameL bs := ⟨_, rfl⟩
  rw [← hf] at hput hq ⊢
  have hql : f.length ≤ 65550 := by omega
  have hqp : (0 : Int) < (f.length : Int) := by have := frameL_pos bs; rw [← hf] at this; omega
  have HP := Lib.hid hput
  have HW := Lib.hid hw
  have HLA := Lib.hid hla
  have H10 := Lib.hid (And.intro hql hL)
  clear hput hw hla hr hrl hq h10 hlen e1 hf hql hL
  go_enter Try.func21, Try.ntmps21
  go_wp2_with (first
    | (go_at_call 17; (with_reducible refine HP.out.mono ?_); rintro e w1 ⟨v1, rfl, hg1⟩; have hl1 := Later.trans HLA.out hg1.belowNil; have HL1 := Lib.hid hl1; have hw1 := HW.out.later hl1; have hbc := hw1.box.cell; have HW1 := Lib.hid hw1; obtain ⟨A1, c1, rfl, h11, h12, h13⟩ := own_map hg1.own; have H12 := Lib.hid h12; clear hg1 hl1 hw1 h11 h12 h13)
    | (at_builtin; refine wpList_appN w1 rfl (.tmp 13) (.tmp 14) _ rfl B 5 i0 (.int .u8 0) 1 Try.underlying28 hi hz0 hz1 hz2 rfl (.slice A0 L.length c0) _ rfl HW1.out.own _ A1 f.length c1 (f.map bv) rfl H12.out (bv_one _) ?hby ?hle ?hba ?_; (case hby => have := H10.out; rw [List.length_map]; omega); (case hle => have := H10.out; rw [List.length_map]; omega); (case hba => have := HL1.out.size; omega); intro v2 w2 hg2; rw [← List.map_append] at hg2; have hbx := HW1.out.box.kept hg2.grown (fun e => HW1.out.apart e.symm); have hbf := hbx.frozen; have hbc2 := hbx.cell; obtain ⟨A2, c2, rfl, h21, h22, h23⟩ := own_map hg2.own; clear h21 h22 h23; obtain ⟨m, hm⟩ : ∃ m, (L ++ f).length = m := ⟨_, rfl⟩; rw [hm] at hg2 ⊢; have HG2 := Lib.hid hg2; clear hg2 hbx hm))
  go_ret
  refine ⟨_, ret_bool (decide_eq_true (by omega)), HW1.out.grew HG2.out, ?_, ?_⟩
  · have o1 : Only (wS g (.slice A0 L.length c0)) w1 w2 := Only.grown HG2.out.grown fun i e => .inr e
    exact (Only.later HL1.out).trans (o1.trans (Only.set (.inl rfl) _))
  · rcases HG2.out.moved with e | ⟨k, e, hk⟩
    · exact .inl e
    · exact .inr ⟨k, e, Nat.le_trans HL1.out.size hk⟩
end Go.Proofs.Ytemokpnepnmmkaa
/- A tape's writer: Bytes, New. -/
namespace Go.Proofs.Ytemokpnepnmmkaa
open Go.RowKit
theorem Wtr.slice {W : World} {B g : Nat} {v : Value} {L : List UInt8} (h : Wtr W B g v L) (hL : 0 < L.length) : ∃ k c, v = .slice (some ⟨k, 0, none⟩) L.length c ∧ B ≤ k ∧ L.length ≤ c ∧ Rd W W.heap.size (some ⟨k, 0, none⟩) L.length (L.map bv) := by
  obtain ⟨A, c, rfl, h1, h2, h3⟩ := own_map h.own
  obtain ⟨ad, e, _⟩ := h2.2 hL
  subst e
  rcases h.own.2 with ⟨e, _⟩ | ⟨k, cap, cur, e, hb, _⟩
  · cases e
  · injection e with e
    injection e with e
    subst e
    exact ⟨k, c, rfl, hb, h1, h2⟩
set_option maxRecDepth 100000 in
theorem wcopied_v (B g : Nat) (v : Value) (L : List UInt8) (W : World) (hw : Wtr W B g v L) (hp : 0 < L.length) (hL : L.length ≤ 100000000000) :
    Calls Try.prog 24 #[.pointer (some ⟨g, 0, none⟩)] W fun e W' => ∃ v', e = .returned v' ∧ Made W W' v' L := by
  obtain ⟨k, c, rfl, hk, hc, hr⟩ := hw.slice hp
  have hbc := hw.box.cell
  have HC := Lib.hid (clone_v ⟨k, 0, none⟩ L.length c _ L W hr (Nat.le_refl _) (by omega))
  clear hw hr
  go_enter Try.func24, Try.ntmps24
  go_wp2_with (go_at_call 44; (with_reducible refine HC.out.mono ?_); rintro e w1 ⟨v1, rfl, hg1⟩; have HM := Lib.hid (Made.of_grew (Below.refl _ W) hg1); clear hg1)
  go_ret
  exact ⟨_, rfl, HM.out⟩
set_option maxRecDepth 100000 in
theorem wbytes_v (B g : Nat) (v : Value) (L : List UInt8) (W : World) (hw : Wtr W B g v L) (hp : 0 < L.length) (hL : L.length ≤ 100000000000) :
    Calls Try.prog 12 #[.pointer (some ⟨g, 0, none⟩)] W fun e W' => ∃ v', e = .returned v' ∧ Made W W' v' L := by
  have HC := Lib.hid (wcopied_v B g v L W hw hp hL)
  clear hw hp hL
  go_enter Try.func12, Try.ntmps12
  go_wp2_with (go_at_call 24; (with_reducible refine HC.out.mono ?_); rintro e w1 ⟨v1, rfl, hm1⟩; have HM := Lib.hid hm1; clear hm1)
  go_ret
  exact ⟨_, rfl, HM.out⟩
theorem wbytes_nil (W : World) :
    Calls Try.prog 12 #[.pointer none] W fun e W' => e = .returned (.slice none 0 0) ∧ W = W' := by
  go_enter Try.func12, Try.ntmps12
  go_wp2
  go_ret
  exact ⟨rfl, rfl⟩
theorem wnew_long (s : List UInt8) (W : World) (h : 4096 < s.length) :
    Calls Try.prog 10 #[.string (mkS s)] W fun e W' => e = .returned (.pointer none) ∧ W = W' := by
  have hz := mkS_size s
  obtain ⟨k, hk⟩ : ∃ k, k = s.length := ⟨_, rfl⟩
  rw [← hk] at hz h
  clear hk
  go_enter Try.func10, Try.ntmps10
  go_wp2
  go_ret
  exact ⟨rfl, rfl⟩
/-- []byte of a text: new memory, that reads as it. -/
theorem conv_str (W : World) (t : List UInt8) (N : Nat) (hN : N = W.heap.size) : ∃ c W', (convert 9 28 (.string (mkS t))).run Try.prog W = .ok (.slice (some ⟨N, 0, none⟩) t.length c) W' ∧ Later W W' ∧ Rd W' W'.heap.size (some ⟨N, 0, none⟩) t.length (t.map bv) := by
  subst hN
  have h := run_bytes_of_string W 9 28 5 (mkS t) Try.underlying9 Try.underlying28 Try.underlying5
  rw [mkS_size] at h
  refine ⟨_, _, h, Later.trans (Later.drew W) (Later.alloc _ _), by simp, fun h0 => ⟨_, rfl, by simp, fun j u hu => ?_⟩⟩
  rw [add_lit0]
  have hz : W.drew.heap.size = W.heap.size := rfl
  rw [← hz]
  rw [cell_of_row _ _ j _ _ _ (heap_alloc_new W.drew _)]
  rw [List.getElem?_map] at hu
  by_cases hj : j < t.length
  · rw [List.getElem?_eq_getElem hj] at hu
    simp at hu
    subst hu
    unfold bytesRow
    rw [Array.getElem?_append_left (by simp [mkS]; omega)]
    simp [mkS, hj, bv]
  · rw [List.getElem?_eq_none (by omega)] at hu
    cases hu
set_option maxRecDepth 100000 in
theorem wnew_v (s : List UInt8) (W : World) (h : s.length ≤ 4096) :
    Calls Try.prog 10 #[.string (mkS s)] W fun e W' => ∃ g v, e = .returned (.pointer (some ⟨g, 0, none⟩)) ∧ Wtr W' W.heap.size g v (frameL (markL ++ s)) ∧ Later W W' := by
  have hz := mkS_size s
  have ha := head_add s
  have hl : (markL ++ s).length ≤ 4110 := by rw [List.length_append]; show 14 + _ ≤ _; omega
  obtain ⟨t, ht⟩ : ∃ t, t = markL ++ s := ⟨_, rfl⟩
  rw [← ht] at ha hl ⊢
  obtain ⟨k, hk⟩ : ∃ k, k = s.length := ⟨_, rfl⟩
  rw [← hk] at hz h
  clear hk ht
  obtain ⟨c, W2, hcv, hl2, hr2⟩ := conv_str (W.alloc (.cells #[.slice none 0 0] 55)) t (W.heap.size + 1) (by simp)
  have hw0 : Wtr (W.alloc (.cells #[.slice none 0 0] 55)) W.heap.size W.heap.size (.slice none 0 0) [] := ⟨Boxed.new W _ _, World.ownsRow_nil _ _ _ 1, Nat.le_refl _⟩
  have hla := Later.alloc W (.cells #[.slice none 0 0] 55)
  have hput := wput_v W.heap.size W.heap.size none 0 [] _ t.length c t W2 (hw0.later hl2) (Nat.le_trans hla.size hl2.size) hr2 (by omega) (by simp)
  have HL := Lib.hid (Later.trans hla hl2)
  have HP := Lib.hid hput
  clear hput hw0 hla hl2 hr2
  go_enter Try.func10, Try.ntmps10
  go_wp2_with (go_at_call 21; (with_reducible refine HP.out.mono ?_); rintro e w3 ⟨v3, rfl, hw3, ho3, hm3⟩; have HW := Lib.hid hw3; have HO := Lib.hid ho3; clear hw3 ho3 hm3)
  go_ret
  refine ⟨_, _, rfl, HW.out, Below.trans HL.out (HO.out.below HL.out.size ?_)⟩
  rintro i (rfl | e)
  · exact Nat.le_refl _
  · cases e
end Go.Proofs.Ytemokpnepnmmkaa
/- A writer's Add: answers, up to the first one that may not be. -/
namespace Go.Proofs.Ytemokpnepnmmkaa
open Go.RowKit
theorem Wtr.lt {W : World} {B g : Nat} {v : Value} {L : List UInt8} (h : Wtr W B g v L) : ∀ i, wS g v i → i < W.heap.size := by
  rintro i (rfl | e)
  · exact h.box.lt
  · exact (h.own.lt i e).2
theorem Rd.only {S : Nat → Prop} {W W' : World} {n : Nat} {A : Option Addr} {xs : List Value} (h : Rd W W.heap.size A n xs) (hn : 0 < n → ∀ ad, A = some ad → ¬ S ad.block) (ho : Only S W W') : Rd W' W'.heap.size A n xs := by
  refine ⟨h.1, fun h0 => ?_⟩
  obtain ⟨ad, e, hb, hc⟩ := h.2 h0
  refine ⟨ad, e, Nat.lt_of_lt_of_le hb ho.size, fun j u hu => ?_⟩
  rw [ho.cell (by rw [block_add]; exact hn h0 ad e) (by rw [block_add]; exact hb)]
  exact hc j u hu
theorem AnsAt.only {S : Nat → Prop} {W W' : World} {ad : Addr} {a : Ans} {A : Option Addr} {c : Nat} (h : AnsAt W W.heap.size ad a A c) (ha : ¬ S ad.block) (hn : 0 < a.l.length → ∀ x, A = some x → ¬ S x.block) (ho : Only S W W') : AnsAt W' W'.heap.size ad a A c := by
  have k : ∀ p : Addr, p.block = ad.block → W'.cell? p = W.cell? p := fun p e => ho.cell (by rw [e]; exact ha) (by rw [e]; exact h.low)
  have q : ∀ i : Nat, W'.cell? ⟨ad.block, ad.off + i, none⟩ = W.cell? ⟨ad.block, ad.off + i, none⟩ := fun i => k ⟨ad.block, ad.off + i, none⟩ rfl
  exact ⟨Nat.lt_of_lt_of_le h.low ho.size, (k _ rfl).trans h.c0, (q 1).trans h.c1, (q 2).trans h.c2, (q 3).trans h.c3, (q 4).trans h.c4, (q 5).trans h.c5, (q 6).trans h.c6, h.row.only hn ho, h.most⟩
/-- A slice of answers that lies in no block of S. -/
def RdAP (W : World) (S : Nat → Prop) (A : Option Addr) (n : Nat) (xs : List Ans) : Prop :=
  xs.length = n ∧ ∀ (j : Nat) (h : j < xs.length), ∃ ad A' c', A = some ad ∧ ¬ S (ad.add (j * 7)).block ∧ (0 < xs[j].l.length → ∀ x, A' = some x → ¬ S x.block) ∧ AnsAt W W.heap.size (ad.add (j * 7)) xs[j] A' c'
theorem RdA.apart {W : World} {B n : Nat} {A : Option Addr} {xs : List Ans} (h : RdA W B A n xs) {S : Nat → Prop} (hB : B ≤ W.heap.size) (hs : ∀ i, S i → B ≤ i) : RdAP W S A n xs := by
  refine ⟨h.1, fun j hj => ?_⟩
  obtain ⟨ad, A', c', e, h1⟩ := h.2 j hj
  refine ⟨ad, A', c', e, fun hS => ?_, fun h0 x ex hS => ?_, h1.more hB⟩
  · have := hs _ hS; have := h1.low; omega
  · obtain ⟨y, ey, hy, _⟩ := h1.row.2 h0
    rw [ex] at ey
    cases ey
    have := hs _ hS; omega
/-- A slice of so many bytes, that reads as l, and lies in no block of S. -/
def spApart (S : Nat → Prop) (n : Nat) (l : List UInt8) : Sp (Only S) := ⟨fun v w => ∃ A c, v = .slice A n c ∧ Rd w w.heap.size A n (l.map bv) ∧ (0 < n → ∀ ad, A = some ad → ¬ S ad.block), fun _ _ _ hg ⟨A, c, h1, h2, h3⟩ => ⟨A, c, h1, h2.only h3 hg, h3⟩⟩
/-- What is asked of answers that are written: their numbers, and how long they are. -/
def fitA (x : Ans) : Prop := okA x ∧ (textsB x.l).length ≤ 1000000000 ∧ x.t.length ≤ 100000000 ∧ (tellX x).length ≤ 65536
set_option maxRecDepth 100000 in
set_option maxHeartbeats 1000000 in
theorem wadd_v (B g : Nat) (v : Value) (L : List UInt8) (A : Option Addr) (n cap : Nat) (xs : List Ans) (W : World) (hw : Wtr W B g v L) (hB : B ≤ W.heap.size) (hr : RdAP W (wS g v) A n xs) (hn : n ≤ maxLen) (hfit : ∀ x ∈ xs, fitA x) (hL : L.length + (bodyL xs).length ≤ 10000000000000) :
    Calls Try.prog 11 #[.pointer (some ⟨g, 0, none⟩), .slice A n cap] W fun e W' => ∃ v', e = .returned (.bool (xs.all okB)) ∧ Wtr W' B g v' (L ++ bodyL xs) ∧ Only (wS g v) W W' ∧ Moved W v v' := by
  unfold maxLen at hn
  have HW := Lib.hid hw
  have HR := Lib.hid hr
  have HF := Lib.hid hfit
  have HL := Lib.hid hL
  have HN := Lib.hid hr.1
  clear hw hr hfit hL
  go_enter Try.func11, Try.ntmps11
  go_wp2
  go_loopw [11] (fun i wr => ∃ (k : Nat) (v1 : Value), k ≤ n ∧ i = .int .i64 (k : Int) ∧ (∀ (j : Nat) (h : j < xs.length), j < k → okB xs[j] = true) ∧ Wtr wr B g v1 (L ++ bodyL (xs.take k)) ∧ Only (wS g v) W wr ∧ Moved W v v1) (fun i _ => n - (intOf i).toNat)
  case atStart => exact ⟨0, v, by omega, rfl, fun j _ h => by omega, by simpa [bodyL] using HW.out, Only.refl _ _, .inl rfl⟩
  case round =>
    obtain ⟨k, v1, hk, rfl, hall, hw1, ho1, hm1⟩ := hrel
    have HALL := Lib.hid hall
    have HW1 := Lib.hid hw1
    have HO1 := Lib.hid ho1
    have HM1 := Lib.hid hm1
    clear hall hw1 ho1 hm1
    by_cases hkn : k < n
    · have hkx := Lib.hid (show k < xs.length by have := HN.out; omega)
      obtain ⟨ad, A1, c1, rfl, ha1, ha2, h1⟩ := HR.out.2 k hkx.out
      obtain ⟨x, hx⟩ : ∃ x, x = xs[k]'hkx.out := ⟨_, rfl⟩
      rw [← hx] at ha2 h1
      have hat := h1.only ha1 ha2 HO1.out
      obtain ⟨_, q0, q1, q2, q3, q4, q5, q6, _, _⟩ := hat
      have HX := Lib.hid hx
      have HA := Lib.hid (And.intro ha1 (And.intro ha2 h1))
      have hk0 : (0 : Int) ≤ (k : Int) := by omega
      have hk1 : (k : Int) < (n : Int) := by omega
      clear ha1 ha2 h1 hx
      obtain ⟨w1, hw1e⟩ : ∃ w1, w1 = wr.alloc (.cells (Ans.cs x A1 c1) 34) := ⟨_, rfl⟩
      have hl1 : Later wr w1 := by rw [hw1e]; exact Later.alloc _ _
      have hlt1 := fun i h => Nat.lt_of_lt_of_le (HW1.out.lt i h) hl1.size
      have hfx := HF.out x (by rw [HX.out]; exact List.getElem_mem hkx.out)
      have hon : ∀ w, Only (wS g v1) w1 w → Only (wS g v) W w := fun w h => Only.step (HO1.out) HM1.out ((Only.later hl1).trans h)
      have hcx : ∀ w, Only (wS g v1) w1 w → w.cell? ⟨wr.heap.size, 0, none⟩ = some (.int .i64 x.k) ∧ w.cell? ⟨wr.heap.size, 1, none⟩ = some (.int .i64 x.e) ∧ w.cell? ⟨wr.heap.size, 2, none⟩ = some (.int .i64 x.n) ∧ w.cell? ⟨wr.heap.size, 3, none⟩ = some (.int .i64 x.m) ∧ w.cell? ⟨wr.heap.size, 4, none⟩ = some (.string (mkS x.t)) ∧ w.cell? ⟨wr.heap.size, 5, none⟩ = some (.slice A1 x.l.length c1) ∧ w.cell? ⟨wr.heap.size, 6, none⟩ = some (.int .i64 x.s) := by
        intro w h
        have hb : w.heap[wr.heap.size]? = some (.cells (Ans.cs x A1 c1) 34 (0, 0)) := by
          rw [h.block _ (by rw [hw1e]; simp) (fun hS => Nat.lt_irrefl _ (HW1.out.lt _ hS)), hw1e]
          exact heap_alloc_new wr _
        exact ⟨(cell_row hb 0).1, (cell_row hb 1).1, (cell_row hb 2).1, (cell_row hb 3).1, (cell_row hb 4).1, (cell_row hb 5).1, (cell_row hb 6).1⟩
      have HCX := Lib.hid hcx
      have cf := fun W' => fits_v x.k x.k x.e x.n x.m x.t A1 x.l.length c1 x.s W'
      have HLT := Lib.hid hlt1
      clear hcx
      by_cases hb : okB x = true
      · rw [show fitsB x.k x.k x.e x.s x.l.length = true from hb] at cf
        have CF := Lib.hid cf
        obtain ⟨f, hf⟩ : ∃ f, f = tellX x := ⟨_, rfl⟩
        obtain ⟨M, hM⟩ : ∃ M, M = L ++ bodyL (xs.take k) := ⟨_, rfl⟩
        have ct : ∀ w, Only (wS g v1) w1 w → Calls Try.prog 23 #[ansV x.k x.e x.n x.m x.t A1 x.l.length c1 x.s] w fun r w' => ∃ v', r = .returned v' ∧ Made w w' v' f := by
          intro w h
          rw [hf]
          exact tell_v x.k x.e x.n x.m x.t A1 x.l.length c1 x.l x.s w (HA.out.2.2.only HA.out.1 HA.out.2.1 (hon w h)).row (by have := hfx.2.1; omega) (by have := hfx.2.2.1; omega) hfx.1.1.1 hfx.1.1.2 hfx.1.2.1 hfx.1.2.2
        have CT := Lib.hid ct
        have hMl : M.length ≤ 10000000000000 := by
          rw [hM, List.length_append]; have := HL.out; have := bodyL_le xs k (Nat.le_of_lt hkx.out) HALL.out; omega
        have hwM : Wtr wr B g v1 M := by rw [hM]; exact HW1.out
        have cp : ∀ w, Later w1 w → ∀ A c, Rd w w.heap.size A f.length (f.map bv) → Calls Try.prog 21 #[.pointer (some ⟨g, 0, none⟩), .slice A f.length c] w fun e W' => ∃ v', e = .returned (.bool true) ∧ Wtr W' B g v' (M ++ frameL f) ∧ Only (wS g v1) w1 W' ∧ Moved w1 v1 v' ∧ Only (wS g v1) w W' := by
          intro w h A c hrd
          obtain ⟨A0, c0, hv0, _, _⟩ := own_map hwM.own
          rw [hv0] at hwM ⊢
          refine (wput_v B g A0 c0 M A f.length c f w (hwM.later (Later.trans hl1 h)) (Nat.le_trans hB (Nat.le_trans HO1.out.size (Nat.le_trans hl1.size h.size))) hrd (by have := hfx.2.2.2; rw [hf]; exact this) hMl).mono ?_
          rintro e W' ⟨v', rfl, k1, k2, k3⟩
          exact ⟨v', rfl, k1, (Only.later h).trans k2, Moved.trans_ (.inl rfl) h.size k3, k2⟩
        have CP := Lib.hid cp
        have HCC : ∀ w, (Later w1 w ∨ ((∃ v2, Wtr w B g v2 (M ++ frameL f) ∧ Moved w1 v1 v2) ∧ Only (wS g v1) w1 w)) → Only (wS g v1) w1 w := fun w h => h.elim (fun h => Only.later h) (fun h => h.2)
        have HC1 : ∀ w w', ((∃ v2, Wtr w B g v2 (M ++ frameL f) ∧ Moved w1 v1 v2) ∧ Only (wS g v1) w1 w) → Later w w' → ((∃ v2, Wtr w' B g v2 (M ++ frameL f) ∧ Moved w1 v1 v2) ∧ Only (wS g v1) w1 w') := fun w w' ⟨⟨v2, h1, h2⟩, h3⟩ hl => ⟨⟨v2, h1.later hl, h2⟩, h3.trans (Only.later hl)⟩
        have HOR : ∀ w w', (Later w1 w ∨ ((∃ v2, Wtr w B g v2 (M ++ frameL f) ∧ Moved w1 v1 v2) ∧ Only (wS g v1) w1 w)) → Later w w' → (Later w1 w' ∨ ((∃ v2, Wtr w' B g v2 (M ++ frameL f) ∧ Moved w1 v1 v2) ∧ Only (wS g v1) w1 w')) := fun w w' h hl => h.elim (fun h => .inl (Later.trans h hl)) (fun h => .inr (HC1 w w' h hl))
        have HPK := Lib.hid (And.intro hon (And.intro hl1 (And.intro hf (And.intro hM hb))))
        clear cf ct cp hMl hwM hl1 hon hfx hf hM hb hlt1
        go_wp2
        rw [show wr.alloc (.cells #[.int .i64 x.k, .int .i64 x.e, .int .i64 x.n, .int .i64 x.m, .string (mkS x.t), .slice A1 x.l.length c1, .int .i64 x.s] 34) = w1 from hw1e.symm]
        refine wp_region_writes (by kernel_rfl) 11 (fun W => Later w1 W) (fun W' => (∃ v2, Wtr W' B g v2 (M ++ frameL f) ∧ Moved w1 v1 v2) ∧ Only (wS g v1) w1 W') (Only (wS g v1)) [Sp.val (.pointer (some ⟨wr.heap.size, 0, none⟩)), Sp.val (.int .i64 x.k), Sp.val ((ansV x.k x.e x.n x.m x.t A1 x.l.length c1 x.s)), Sp.val (.bool true), Sp.val (.bool false), Sp.val (.bool false), Sp.val (.pointer (some ⟨g, 0, none⟩)), Sp.val (.pointer (some ⟨g, 0, none⟩)), Sp.val (.pointer (some ⟨g, 0, none⟩)), Sp.val ((ansV x.k x.e x.n x.m x.t A1 x.l.length c1 x.s)), spApart (wS g v1) f.length f, Sp.val (.bool true), Sp.val (.bool false), Sp.val (.bool false)] (by decide) (by kernel_rfl) (Later.drew w1) (fun _ _ h hl => Later.trans h hl) (HC1) (fun _ _ h => Only.later h) ?_ ?_
        · refine ⟨?_, ?_, ?_, ?_, ?_, ?_, ?_, ?_, ?_, ?_, ?_, ?_, ?_, ?_, trivial⟩
          · -- 0: slot 15 := Op.fieldAddr 34 t6 0
            unfold OwesP
            rw [if_neg (by decide)]
            refine fun a w hD hC hs => .inl ⟨?_, ?_⟩
            · rfl
            have e6 : a.tmps.getD 6 undef = .pointer (some ⟨wr.heap.size, 0, none⟩) := hs.free 6 rfl
            refine ValWp.pure (v := .pointer (some ⟨wr.heap.size, 0, none⟩)) (fun K' hK' => ?_) ⟨rfl, hC, Later.refl _⟩
            simp only [ValWp, execOp, Act.eval, e6]
            go_simp
            all_goals exact hK'
          · -- 1: slot 16 := Op.load 3 t15
            unfold OwesP
            rw [if_neg (by decide)]
            refine fun a w hD hC hs => .inl ⟨?_, ?_⟩
            · rfl
            have e15 : a.tmps.getD 15 undef = .pointer (some ⟨wr.heap.size, 0, none⟩) := hs.dep 0 _ rfl rfl
            obtain ⟨p0, p1, p2, p3, p4, p5, p6⟩ := HCX.out w (HCC w hC)
            refine ValWp.pure (v := .int .i64 x.k) (fun K' hK' => ?_) ⟨rfl, hC, Later.refl _⟩
            simp only [ValWp, execOp, Act.eval, e15]
            go_simp
            all_goals exact hK'
          · -- 2: slot 17 := Op.load 34 t6
            unfold OwesP
            rw [if_neg (by decide)]
            refine fun a w hD hC hs => .inl ⟨?_, ?_⟩
            · rfl
            have e6 : a.tmps.getD 6 undef = .pointer (some ⟨wr.heap.size, 0, none⟩) := hs.free 6 rfl
            obtain ⟨p0, p1, p2, p3, p4, p5, p6⟩ := HCX.out w (HCC w hC)
            refine ValWp.pure (v := (ansV x.k x.e x.n x.m x.t A1 x.l.length c1 x.s)) (fun K' hK' => ?_) ⟨rfl, hC, Later.refl _⟩
            simp only [ValWp, execOp, Act.eval, e6]
            go_simp
            all_goals exact hK'
          · -- 3: slot 18 := Op.call { value (Operand.func 22), args := #[t16, t17], argTypes := #[3, 34] }
            unfold OwesP
            rw [if_neg (by decide)]
            refine fun a w hD hC hs => .inl ⟨?_, ?_⟩
            · rfl
            have e16 : a.tmps.getD 16 undef = .int .i64 x.k := hs.dep 1 _ rfl rfl
            have e17 : a.tmps.getD 17 undef = (ansV x.k x.e x.n x.m x.t A1 x.l.length c1 x.s) := hs.dep 2 _ rfl rfl
            refine ValWp.call #[.int .i64 x.k, (ansV x.k x.e x.n x.m x.t A1 x.l.length c1 x.s)] rfl rfl Try.func22 rfl rfl (by simp only [List.map_toArray, List.map_cons, List.map_nil, Act.eval, e16, e17]) ?_
            refine (CF.out w).mono ?_
            rintro r w' ⟨rfl, hb⟩
            exact ⟨_, rfl, rfl, HOR w w' hC hb, hb⟩
          · -- 4: slot 19 := Op.unOp UnOp.not 4 t18
            unfold OwesP
            rw [if_neg (by decide)]
            refine fun a w hD hC hs => .inl ⟨?_, ?_⟩
            · rfl
            have e18 : a.tmps.getD 18 undef = .bool true := hs.dep 3 _ rfl rfl
            refine ValWp.pure (v := .bool false) (fun K' hK' => ?_) ⟨rfl, hC, Later.refl _⟩
            simp only [ValWp, execOp, Act.eval, e18]
            go_simp
            all_goals exact hK'
          · -- 5: slot 20 := Op.move t19
            unfold OwesP
            rw [if_neg (by decide)]
            refine fun a w hD hC hs => .inl ⟨?_, ?_⟩
            · rfl
            have e19 : a.tmps.getD 19 undef = .bool false := hs.dep 4 _ rfl rfl
            exact ⟨e19, hC, Later.refl _⟩
          · -- 6: slot 21 := Op.move t0 guarded (5, 'false')
            unfold OwesP
            rw [if_neg (by decide)]
            refine fun a w hD hC hs => .inl ⟨?_, ?_⟩
            · exact (by unfold Region.wanted; dsimp only; rw [yielded_bool (d := 20) rfl (hs.dep 5 _ rfl rfl)]; rfl)
            have e0 : a.tmps.getD 0 undef = .pointer (some ⟨g, 0, none⟩) := hs.free 0 rfl
            exact ⟨e0, hC, Later.refl _⟩
          · -- 7: slot 22 := Op.nilCheck t21 guarded (5, 'false')
            unfold OwesP
            rw [if_neg (by decide)]
            refine fun a w hD hC hs => .inl ⟨?_, ?_⟩
            · exact (by unfold Region.wanted; dsimp only; rw [yielded_bool (d := 20) rfl (hs.dep 5 _ rfl rfl)]; rfl)
            have e21 : a.tmps.getD 21 undef = .pointer (some ⟨g, 0, none⟩) := hs.dep 6 _ rfl rfl
            refine ValWp.pure (v := .pointer (some ⟨g, 0, none⟩)) (fun K' hK' => ?_) ⟨rfl, hC, Later.refl _⟩
            simp only [ValWp, execOp, Act.eval, e21]
            go_simp
            all_goals exact hK'
          · -- 8: slot 23 := Op.fieldAddr 55 t22 0 guarded (5, 'false')
            unfold OwesP
            rw [if_neg (by decide)]
            refine fun a w hD hC hs => .inl ⟨?_, ?_⟩
            · exact (by unfold Region.wanted; dsimp only; rw [yielded_bool (d := 20) rfl (hs.dep 5 _ rfl rfl)]; rfl)
            have e22 : a.tmps.getD 22 undef = .pointer (some ⟨g, 0, none⟩) := hs.dep 7 _ rfl rfl
            refine ValWp.pure (v := .pointer (some ⟨g, 0, none⟩)) (fun K' hK' => ?_) ⟨rfl, hC, Later.refl _⟩
            simp only [ValWp, execOp, Act.eval, e22]
            go_simp
            all_goals exact hK'
          · -- 9: slot 24 := Op.load 34 t6 guarded (5, 'false')
            unfold OwesP
            rw [if_neg (by decide)]
            refine fun a w hD hC hs => .inl ⟨?_, ?_⟩
            · exact (by unfold Region.wanted; dsimp only; rw [yielded_bool (d := 20) rfl (hs.dep 5 _ rfl rfl)]; rfl)
            have e6 : a.tmps.getD 6 undef = .pointer (some ⟨wr.heap.size, 0, none⟩) := hs.free 6 rfl
            obtain ⟨p0, p1, p2, p3, p4, p5, p6⟩ := HCX.out w (HCC w hC)
            refine ValWp.pure (v := (ansV x.k x.e x.n x.m x.t A1 x.l.length c1 x.s)) (fun K' hK' => ?_) ⟨rfl, hC, Later.refl _⟩
            simp only [ValWp, execOp, Act.eval, e6]
            go_simp
            all_goals exact hK'
          · -- 10: slot 25 := Op.call { value (Operand.func 23), args := #[t24], argTypes := #[34] } guarded (5, 'false')
            unfold OwesP
            rw [if_neg (by decide)]
            refine fun a w hD hC hs => .inl ⟨?_, ?_⟩
            · exact (by unfold Region.wanted; dsimp only; rw [yielded_bool (d := 20) rfl (hs.dep 5 _ rfl rfl)]; rfl)
            have e24 : a.tmps.getD 24 undef = (ansV x.k x.e x.n x.m x.t A1 x.l.length c1 x.s) := hs.dep 9 _ rfl rfl
            refine ValWp.call #[(ansV x.k x.e x.n x.m x.t A1 x.l.length c1 x.s)] rfl rfl Try.func23 rfl rfl (by simp only [List.map_toArray, List.map_cons, List.map_nil, Act.eval, e24]) ?_
            refine (CT.out w (HCC w hC)).mono ?_
            rintro r w' ⟨v', rfl, hm⟩
            obtain ⟨A, c, rfl, _, h2⟩ := hm.slice
            refine ⟨_, rfl, ⟨A, c, rfl, h2, fun h0 ad e hS => ?_⟩, HOR w w' hC hm.bel, hm.bel⟩
            have hq := (hm.own.lt ad.block (by rw [e]; rfl)).1
            exact Nat.lt_irrefl _ (Nat.lt_of_lt_of_le (HLT.out _ hS) (Nat.le_trans (HCC w hC).size hq))
          · -- 11: slot 26 := Op.call { value (Operand.func 21), args := #[t23, t25], argTypes := #[53, 28] } guarded (5, 'false')
            unfold OwesP
            rw [if_pos rfl]
            refine fun a w hC hs => ⟨?_, ?_⟩
            · exact (by unfold Region.wanted; dsimp only; rw [yielded_bool (d := 20) rfl (hs.dep 5 _ rfl rfl)]; rfl)
            have e23 : a.tmps.getD 23 undef = .pointer (some ⟨g, 0, none⟩) := hs.dep 8 _ rfl rfl
            obtain ⟨A25, c25, e25, h25, i25⟩ := hs.dep 10 _ rfl rfl
            change a.tmps.getD 25 undef = _ at e25
            refine ValWp.call #[.pointer (some ⟨g, 0, none⟩), .slice A25 f.length c25] rfl rfl Try.func21 rfl rfl (by simp only [List.map_toArray, List.map_cons, List.map_nil, Act.eval, e23, e25]) ?_
            refine (CP.out w hC A25 c25 h25).mono ?_
            rintro r w' ⟨v', rfl, k1, k2, k3, k4⟩
            exact ⟨_, rfl, rfl, ⟨⟨v', k1, k3⟩, k2⟩, k4⟩
          · -- 12: slot 27 := Op.unOp UnOp.not 4 t26 guarded (5, 'false')
            unfold OwesP
            rw [if_neg (by decide)]
            refine fun a w hD hC hs => .inl ⟨?_, ?_⟩
            · exact (by unfold Region.wanted; dsimp only; rw [yielded_bool (d := 20) rfl (hs.dep 5 _ rfl rfl)]; rfl)
            have e26 : a.tmps.getD 26 undef = .bool true := hs.dep 11 _ rfl rfl
            refine ValWp.pure (v := .bool false) (fun K' hK' => ?_) ⟨rfl, hC, Later.refl _⟩
            simp only [ValWp, execOp, Act.eval, e26]
            go_simp
            all_goals exact hK'
          · -- 13: slot 28 := Op.pick t20 (const (Value.bool true)) t27
            unfold OwesP
            rw [if_neg (by decide)]
            refine fun a w hD hC hs => .inl ⟨?_, ?_⟩
            · rfl
            have e20 : a.tmps.getD 20 undef = .bool false := hs.dep 5 _ rfl rfl
            have e27 : a.tmps.getD 27 undef = .bool false := hs.dep 12 _ rfl rfl
            refine ValWp.pure (v := .bool false) (fun K' hK' => ?_) ⟨rfl, hC, Later.refl _⟩
            simp only [ValWp, execOp, Act.eval, e20, e27]
            go_simp
            all_goals exact hK'
        · intro a W hC hd hsz hfree hs
          obtain ⟨u4, hu4⟩ : ∃ u, u = a.tmps.getD 4 undef := ⟨_, rfl⟩
          obtain ⟨u12, hu12⟩ : ∃ u, u = a.tmps.getD 12 undef := ⟨_, rfl⟩
          obtain ⟨u13, hu13⟩ : ∃ u, u = a.tmps.getD 13 undef := ⟨_, rfl⟩
          obtain ⟨u14, hu14⟩ : ∃ u, u = a.tmps.getD 14 undef := ⟨_, rfl⟩
          obtain ⟨u15, hu15⟩ : ∃ u, u = a.tmps.getD 15 undef := ⟨_, rfl⟩
          obtain ⟨u16, hu16⟩ : ∃ u, u = a.tmps.getD 16 undef := ⟨_, rfl⟩
          obtain ⟨u17, hu17⟩ : ∃ u, u = a.tmps.getD 17 undef := ⟨_, rfl⟩
          obtain ⟨u18, hu18⟩ : ∃ u, u = a.tmps.getD 18 undef := ⟨_, rfl⟩
          obtain ⟨u19, hu19⟩ : ∃ u, u = a.tmps.getD 19 undef := ⟨_, rfl⟩
          obtain ⟨u20, hu20⟩ : ∃ u, u = a.tmps.getD 20 undef := ⟨_, rfl⟩
          obtain ⟨u21, hu21⟩ : ∃ u, u = a.tmps.getD 21 undef := ⟨_, rfl⟩
          obtain ⟨u22, hu22⟩ : ∃ u, u = a.tmps.getD 22 undef := ⟨_, rfl⟩
          obtain ⟨u23, hu23⟩ : ∃ u, u = a.tmps.getD 23 undef := ⟨_, rfl⟩
          obtain ⟨u24, hu24⟩ : ∃ u, u = a.tmps.getD 24 undef := ⟨_, rfl⟩
          obtain ⟨u25, hu25⟩ : ∃ u, u = a.tmps.getD 25 undef := ⟨_, rfl⟩
          obtain ⟨u26, hu26⟩ : ∃ u, u = a.tmps.getD 26 undef := ⟨_, rfl⟩
          obtain ⟨u27, hu27⟩ : ∃ u, u = a.tmps.getD 27 undef := ⟨_, rfl⟩
          obtain ⟨u29, hu29⟩ : ∃ u, u = a.tmps.getD 29 undef := ⟨_, rfl⟩
          have hal : AllAt a 0 [.pointer (some ⟨g, 0, none⟩), .slice (some ad) n cap, undef, undef, u4, undef, .pointer (some ⟨wr.heap.size, 0, none⟩), .pointer (some ⟨g, 0, none⟩), .bool false, .slice (some ad) n cap, .int .i64 (n : Int), .int .i64 (k : Int), u12, u13, u14, u15, u16, u17, u18, u19, u20, u21, u22, u23, u24, u25, u26, u27, .bool false, u29] := ⟨hfree 0 rfl, hfree 1 rfl, hfree 2 rfl, hfree 3 rfl, hu4.symm, hfree 5 rfl, hfree 6 rfl, hfree 7 rfl, hfree 8 rfl, hfree 9 rfl, hfree 10 rfl, hfree 11 rfl, hu12.symm, hu13.symm, hu14.symm, hu15.symm, hu16.symm, hu17.symm, hu18.symm, hu19.symm, hu20.symm, hu21.symm, hu22.symm, hu23.symm, hu24.symm, hu25.symm, hu26.symm, hu27.symm, hs 13 _ rfl, hu29.symm, trivial⟩
          have hlit := fun h => act_lit hd h hal
          rw [hlit hsz]
          clear hlit hal hd hsz hfree hs hu4 hu12 hu13 hu14 hu15 hu16 hu17 hu18 hu19 hu20 hu21 hu22 hu23 hu24 hu25 hu26 hu27 hu29

          obtain ⟨⟨v2, hv2, hm2⟩, ho2⟩ := hC
          have hfin := bodyL_snoc xs k hkx.out HALL.out (by rw [← HX.out]; exact HPK.out.2.2.2.2)
          have HFIN := Lib.hid (show Wtr W B g v2 (L ++ bodyL (xs.take (k + 1))) by rw [hfin, ← List.append_assoc, ← HPK.out.2.2.2.1, ← HX.out, ← HPK.out.2.2.1]; exact hv2)
          have HO2 := Lib.hid (HPK.out.1 _ ho2)
          have HM2 := Lib.hid (Moved.trans_ HM1.out HO1.out.size (Moved.trans_ (.inl rfl) HPK.out.2.1.size hm2))
          have HBX := Lib.hid HPK.out.2.2.2.2
          clear HPK hfin hv2 hm2 ho2 CT CP CF HCX HCC HC1 HOR HLT hw1e
          go_wp2
          go_roundw
          case rel => exact ⟨k + 1, v2, by omega, by go_num, fun j hj hjk => by
            by_cases e : j = k
            · subst e; rw [← HX.out]; exact HBX.out
            · exact HALL.out j hj (by omega), HFIN.out, HO2.out, HM2.out⟩
          case measure => simp [intOf]; omega
      · have hbf : okB x = false := by simpa using hb
        rw [show fitsB x.k x.k x.e x.s x.l.length = false from hbf] at cf
        have CF := Lib.hid cf
        have hall := all_not xs k hkx.out (by rw [← HX.out]; exact hbf)
        have hstop := bodyL_stop xs k hkx.out HALL.out (by rw [← HX.out]; exact hbf)
        have HALS := Lib.hid hall
        have HSTOP := Lib.hid hstop
        have HL1 := Lib.hid hl1
        clear cf hall hstop hb hbf hl1 hon hfx hlt1
        go_wp2
        rw [show wr.alloc (.cells #[.int .i64 x.k, .int .i64 x.e, .int .i64 x.n, .int .i64 x.m, .string (mkS x.t), .slice A1 x.l.length c1, .int .i64 x.s] 34) = w1 from hw1e.symm]
        refine wp_region_owes (by kernel_rfl) (fun W => Later w1 W) (Later) (Later.refl) [Sp.val (.pointer (some ⟨wr.heap.size, 0, none⟩)), Sp.val (.int .i64 x.k), Sp.val ((ansV x.k x.e x.n x.m x.t A1 x.l.length c1 x.s)), Sp.val (.bool false), Sp.val (.bool true), Sp.val (.bool true), Sp.val (undef), Sp.val (undef), Sp.val (undef), Sp.val (undef), Sp.val (undef), Sp.val (undef), Sp.val (undef), Sp.val (.bool true)] (by kernel_rfl) (Later.drew w1) ?_ ?_
        · refine ⟨?_, ?_, ?_, ?_, ?_, ?_, ?_, ?_, ?_, ?_, ?_, ?_, ?_, ?_, trivial⟩
          · -- 0: slot 15 := Op.fieldAddr 34 t6 0
            refine fun a w hC hs => .inl ⟨?_, ?_⟩
            · rfl
            have e6 : a.tmps.getD 6 undef = .pointer (some ⟨wr.heap.size, 0, none⟩) := hs.free 6 rfl
            refine ValWp.pure (v := .pointer (some ⟨wr.heap.size, 0, none⟩)) (fun K' hK' => ?_) ⟨rfl, hC, Later.refl _⟩
            simp only [ValWp, execOp, Act.eval, e6]
            go_simp
            all_goals exact hK'
          · -- 1: slot 16 := Op.load 3 t15
            refine fun a w hC hs => .inl ⟨?_, ?_⟩
            · rfl
            have e15 : a.tmps.getD 15 undef = .pointer (some ⟨wr.heap.size, 0, none⟩) := hs.dep 0 _ rfl rfl
            obtain ⟨p0, p1, p2, p3, p4, p5, p6⟩ := HCX.out w (Only.later hC)
            refine ValWp.pure (v := .int .i64 x.k) (fun K' hK' => ?_) ⟨rfl, hC, Later.refl _⟩
            simp only [ValWp, execOp, Act.eval, e15]
            go_simp
            all_goals exact hK'
          · -- 2: slot 17 := Op.load 34 t6
            refine fun a w hC hs => .inl ⟨?_, ?_⟩
            · rfl
            have e6 : a.tmps.getD 6 undef = .pointer (some ⟨wr.heap.size, 0, none⟩) := hs.free 6 rfl
            obtain ⟨p0, p1, p2, p3, p4, p5, p6⟩ := HCX.out w (Only.later hC)
            refine ValWp.pure (v := (ansV x.k x.e x.n x.m x.t A1 x.l.length c1 x.s)) (fun K' hK' => ?_) ⟨rfl, hC, Later.refl _⟩
            simp only [ValWp, execOp, Act.eval, e6]
            go_simp
            all_goals exact hK'
          · -- 3: slot 18 := Op.call { value (Operand.func 22), args := #[t16, t17], argTypes := #[3, 34] }
            refine fun a w hC hs => .inl ⟨?_, ?_⟩
            · rfl
            have e16 : a.tmps.getD 16 undef = .int .i64 x.k := hs.dep 1 _ rfl rfl
            have e17 : a.tmps.getD 17 undef = (ansV x.k x.e x.n x.m x.t A1 x.l.length c1 x.s) := hs.dep 2 _ rfl rfl
            refine ValWp.call #[.int .i64 x.k, (ansV x.k x.e x.n x.m x.t A1 x.l.length c1 x.s)] rfl rfl Try.func22 rfl rfl (by simp only [List.map_toArray, List.map_cons, List.map_nil, Act.eval, e16, e17]) ?_
            refine (CF.out w).mono ?_
            rintro r w' ⟨rfl, hb⟩
            exact ⟨_, rfl, rfl, Later.trans hC hb, hb⟩
          · -- 4: slot 19 := Op.unOp UnOp.not 4 t18
            refine fun a w hC hs => .inl ⟨?_, ?_⟩
            · rfl
            have e18 : a.tmps.getD 18 undef = .bool false := hs.dep 3 _ rfl rfl
            refine ValWp.pure (v := .bool true) (fun K' hK' => ?_) ⟨rfl, hC, Later.refl _⟩
            simp only [ValWp, execOp, Act.eval, e18]
            go_simp
            all_goals exact hK'
          · -- 5: slot 20 := Op.move t19
            refine fun a w hC hs => .inl ⟨?_, ?_⟩
            · rfl
            have e19 : a.tmps.getD 19 undef = .bool true := hs.dep 4 _ rfl rfl
            exact ⟨e19, hC, Later.refl _⟩
          · -- 6: slot 21 := Op.move t0 guarded (5, 'false')
            exact fun a w hC hs => .inr ⟨(by unfold Region.wanted; dsimp only; rw [yielded_bool (d := 20) rfl (hs.dep 5 _ rfl rfl)]; rfl), rfl⟩
          · -- 7: slot 22 := Op.nilCheck t21 guarded (5, 'false')
            exact fun a w hC hs => .inr ⟨(by unfold Region.wanted; dsimp only; rw [yielded_bool (d := 20) rfl (hs.dep 5 _ rfl rfl)]; rfl), rfl⟩
          · -- 8: slot 23 := Op.fieldAddr 55 t22 0 guarded (5, 'false')
            exact fun a w hC hs => .inr ⟨(by unfold Region.wanted; dsimp only; rw [yielded_bool (d := 20) rfl (hs.dep 5 _ rfl rfl)]; rfl), rfl⟩
          · -- 9: slot 24 := Op.load 34 t6 guarded (5, 'false')
            exact fun a w hC hs => .inr ⟨(by unfold Region.wanted; dsimp only; rw [yielded_bool (d := 20) rfl (hs.dep 5 _ rfl rfl)]; rfl), rfl⟩
          · -- 10: slot 25 := Op.call { value (Operand.func 23), args := #[t24], argTypes := #[34] } guarded (5, 'false')
            exact fun a w hC hs => .inr ⟨(by unfold Region.wanted; dsimp only; rw [yielded_bool (d := 20) rfl (hs.dep 5 _ rfl rfl)]; rfl), rfl⟩
          · -- 11: slot 26 := Op.call { value (Operand.func 21), args := #[t23, t25], argTypes := #[53, 28] } guarded (5, 'false')
            exact fun a w hC hs => .inr ⟨(by unfold Region.wanted; dsimp only; rw [yielded_bool (d := 20) rfl (hs.dep 5 _ rfl rfl)]; rfl), rfl⟩
          · -- 12: slot 27 := Op.unOp UnOp.not 4 t26 guarded (5, 'false')
            exact fun a w hC hs => .inr ⟨(by unfold Region.wanted; dsimp only; rw [yielded_bool (d := 20) rfl (hs.dep 5 _ rfl rfl)]; rfl), rfl⟩
          · -- 13: slot 28 := Op.pick t20 (const (Value.bool true)) t27
            refine fun a w hC hs => .inl ⟨?_, ?_⟩
            · rfl
            have e20 : a.tmps.getD 20 undef = .bool true := hs.dep 5 _ rfl rfl
            have e27 : a.tmps.getD 27 undef = undef := hs.dep 12 _ rfl rfl
            refine ValWp.pure (v := .bool true) (fun K' hK' => ?_) ⟨rfl, hC, Later.refl _⟩
            simp only [ValWp, execOp, Act.eval, e20, e27]
            go_simp
            all_goals exact hK'
        · intro a W hC hd hsz hfree hs
          obtain ⟨u4, hu4⟩ : ∃ u, u = a.tmps.getD 4 undef := ⟨_, rfl⟩
          obtain ⟨u12, hu12⟩ : ∃ u, u = a.tmps.getD 12 undef := ⟨_, rfl⟩
          obtain ⟨u13, hu13⟩ : ∃ u, u = a.tmps.getD 13 undef := ⟨_, rfl⟩
          obtain ⟨u14, hu14⟩ : ∃ u, u = a.tmps.getD 14 undef := ⟨_, rfl⟩
          obtain ⟨u15, hu15⟩ : ∃ u, u = a.tmps.getD 15 undef := ⟨_, rfl⟩
          obtain ⟨u16, hu16⟩ : ∃ u, u = a.tmps.getD 16 undef := ⟨_, rfl⟩
          obtain ⟨u17, hu17⟩ : ∃ u, u = a.tmps.getD 17 undef := ⟨_, rfl⟩
          obtain ⟨u18, hu18⟩ : ∃ u, u = a.tmps.getD 18 undef := ⟨_, rfl⟩
          obtain ⟨u19, hu19⟩ : ∃ u, u = a.tmps.getD 19 undef := ⟨_, rfl⟩
          obtain ⟨u20, hu20⟩ : ∃ u, u = a.tmps.getD 20 undef := ⟨_, rfl⟩
          obtain ⟨u21, hu21⟩ : ∃ u, u = a.tmps.getD 21 undef := ⟨_, rfl⟩
          obtain ⟨u22, hu22⟩ : ∃ u, u = a.tmps.getD 22 undef := ⟨_, rfl⟩
          obtain ⟨u23, hu23⟩ : ∃ u, u = a.tmps.getD 23 undef := ⟨_, rfl⟩
          obtain ⟨u24, hu24⟩ : ∃ u, u = a.tmps.getD 24 undef := ⟨_, rfl⟩
          obtain ⟨u25, hu25⟩ : ∃ u, u = a.tmps.getD 25 undef := ⟨_, rfl⟩
          obtain ⟨u26, hu26⟩ : ∃ u, u = a.tmps.getD 26 undef := ⟨_, rfl⟩
          obtain ⟨u27, hu27⟩ : ∃ u, u = a.tmps.getD 27 undef := ⟨_, rfl⟩
          obtain ⟨u29, hu29⟩ : ∃ u, u = a.tmps.getD 29 undef := ⟨_, rfl⟩
          have hal : AllAt a 0 [.pointer (some ⟨g, 0, none⟩), .slice (some ad) n cap, undef, undef, u4, undef, .pointer (some ⟨wr.heap.size, 0, none⟩), .pointer (some ⟨g, 0, none⟩), .bool false, .slice (some ad) n cap, .int .i64 (n : Int), .int .i64 (k : Int), u12, u13, u14, u15, u16, u17, u18, u19, u20, u21, u22, u23, u24, u25, u26, u27, .bool true, u29] := ⟨hfree 0 rfl, hfree 1 rfl, hfree 2 rfl, hfree 3 rfl, hu4.symm, hfree 5 rfl, hfree 6 rfl, hfree 7 rfl, hfree 8 rfl, hfree 9 rfl, hfree 10 rfl, hfree 11 rfl, hu12.symm, hu13.symm, hu14.symm, hu15.symm, hu16.symm, hu17.symm, hu18.symm, hu19.symm, hu20.symm, hu21.symm, hu22.symm, hu23.symm, hu24.symm, hu25.symm, hu26.symm, hu27.symm, hs 13 _ rfl, hu29.symm, trivial⟩
          have hlit := fun h => act_lit hd h hal
          rw [hlit hsz]
          clear hlit hal hd hsz hfree hs hu4 hu12 hu13 hu14 hu15 hu16 hu17 hu18 hu19 hu20 hu21 hu22 hu23 hu24 hu25 hu26 hu27 hu29

          have HLC := Lib.hid (Later.trans HL1.out hC)
          clear hC HCX CF HLT hw1e
          go_wp2
          go_ret
          exact ⟨v1, by rw [HALS.out]; rfl, by rw [HSTOP.out]; exact HW1.out.later HLC.out, HO1.out.trans (Only.later HLC.out), HM1.out⟩
    · have hall := all_of xs fun j hj => HALL.out j hj (by have := HN.out; omega)
      have he : xs.take k = xs := List.take_of_length_le (by have := HN.out; omega)
      have HALS := Lib.hid hall
      rw [he] at HW1
      clear hall he
      go_wp2
      go_ret
      exact ⟨v1, by rw [HALS.out]; rfl, HW1.out, HO1.out, HM1.out⟩
end Go.Proofs.Ytemokpnepnmmkaa
