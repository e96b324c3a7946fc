/- event's small and first; a reader beside a struct that is written. -/
import Derived.Test.YtemokpnepnmmkaaMk
import Derived.Test.YtemokpnepnmmkaaMc
import Derived.Test.YtemokpnepnmmkaaMl
namespace Go.Proofs.Ytemokpnepnmmkaa
open Go.RowKit
theorem small_v (w : World) (B g : Nat) (bs : List UInt8) (e : Nat) (h : Rdr w B g bs e) :
    Calls Try.prog 62 #[.pointer (some ⟨g, 0, none⟩)] w fun r w' => r = .returned (.int .i64 ((min (numR bs e).1 256 : Nat) : Int)) ∧ Rdr w' B g (numR bs e).2.1 (numR bs e).2.2 ∧ w.grownBy w' (some g) := by
  have HL := Lib.hid (numR_lt bs e)
  obtain ⟨x, hx⟩ : ∃ x, x = (numR bs e).1 := ⟨_, rfl⟩
  rw [← hx] at HL
  have hn := num_v w B g bs e h
  rw [← hx] at hn ⊢
  clear hx h
  obtain ⟨p, hp⟩ : ∃ p, p = min x 256 := ⟨_, rfl⟩
  rw [← hp]
  have h1 : (if (256 : Int) < (x : Int) then (256 : Int) else (x : Int)) = (p : Int) := by split <;> omega
  have hw : IntKind.i64.wrap (p : Int) = (p : Int) := by rw [IntKind.wrap_i64]; omega
  clear hp
  have HN := Lib.hid hn
  clear hn
  go_enter Try.func62, Try.ntmps62
  go_wp2_with (go_at_call 74; refine HN.out.mono ?_; rintro e w1 ⟨rfl, hr1, hg1⟩)
  go_ret
  exact ⟨rfl, hr1, hg1⟩
def firstOf (e0 : Int) (bs : List UInt8) (e : Nat) (may : Bool) : Int := if e0 ≠ 0 then e0 else if e ≠ 0 then (e : Int) else if may = false then 11 else if bs = [] then 0 else 14
theorem Rdr.errCell {w : World} {B g e : Nat} {bs : List UInt8} (h : Rdr w B g bs e) : w.cell? ⟨g, 1, none⟩ = some (.int .i64 (e : Int)) := by
  obtain ⟨A, n, c, h1, _⟩ := h
  exact (cell_row h1 1).1
theorem first_v (e0 : Int) (w : World) (B g : Nat) (bs : List UInt8) (e : Nat) (may : Bool) (h : Rdr w B g bs e) :
    Calls Try.prog 66 #[.int .i64 e0, .pointer (some ⟨g, 0, none⟩), .bool may] w fun r w' => r = .returned (.int .i64 (firstOf e0 bs e may)) ∧ w = w' := by
  have HC := Lib.hid h.errCell
  have H := Lib.hid h
  clear h
  by_cases h0 : e0 = 0
  case neg =>
    have hne : (e0 != 0) = true := by simpa using h0
    have hv : firstOf e0 bs e may = e0 := by unfold firstOf; rw [if_pos h0]
    rw [hv]
    clear hv h0
    go_enter Try.func66, Try.ntmps66
    go_wp2
    go_ret
    exact ⟨rfl, rfl⟩
  subst h0
  by_cases he : e = 0
  case neg =>
    have hne : ((e : Int) != 0) = true := by simp; omega
    have hv : firstOf 0 bs e may = (e : Int) := by unfold firstOf; rw [if_neg (by simp), if_pos he]
    rw [hv]
    clear hv he
    go_enter Try.func66, Try.ntmps66
    go_wp2_with (go_at_call 76; refine (err_v _ _ _ HC.out).mono ?_; rintro e w' ⟨rfl, rfl⟩)
    go_ret
    exact ⟨rfl, rfl⟩
  subst he
  cases may
  · have hv : firstOf 0 bs 0 false = 11 := by unfold firstOf; simp
    rw [hv]
    clear hv
    go_enter Try.func66, Try.ntmps66
    go_wp2_with (go_at_call 76; refine (err_v _ _ _ HC.out).mono ?_; rintro e w' ⟨rfl, rfl⟩)
    go_ret
    exact ⟨rfl, rfl⟩
  · have hv : firstOf 0 bs 0 true = endOf bs 0 := by unfold firstOf endOf; simp
    rw [hv]
    clear hv
    go_enter Try.func66, Try.ntmps66
    go_wp2_with (first
      | (go_at_call 76; refine (err_v _ _ _ HC.out).mono ?_; rintro e w' ⟨rfl, rfl⟩)
      | (go_at_call 77; refine (endR_v _ _ _ _ _ H.out).mono ?_; rintro e w' ⟨rfl, rfl⟩))
    go_ret
    exact ⟨rfl, rfl⟩
/-- No cell of a row is a byte. -/
def noByte (cs : List Value) : Prop := ∀ u ∈ cs, ∀ c : UInt8, u ≠ bv c
/-- A store into a block of another type, none of whose cells is a byte, leaves the reader as it was. -/
theorem Rdr.put {w : World} {B g e b : Nat} {bs : List UInt8} (h : Rdr w B g bs e) {cs : Array Value} {T : TypeId} (hq : w.heap[b]? = some (.cells cs T (0, 0))) (hT : T ≠ 129) (hno : noByte cs.toList) (i : Nat) (u : Value) : Rdr (w.setCell ⟨b, i, none⟩ u) B g bs e := by
  obtain ⟨A, n, c, h1, h2, h3, h4, h5, h6⟩ := h
  have hbg : g ≠ b := by
    rintro rfl
    rw [h1] at hq
    injection hq with hq
    injection hq with _ hq
    exact hT hq.symm
  refine ⟨A, n, c, ?_, h2, h3, ?_, h5, h6⟩
  · rw [Below.heap_setCell _ _ _ _ (fun e2 => hbg e2)]; exact h1
  · refine ⟨h4.1, fun hn => ?_⟩
    obtain ⟨ad, e1, hb, hc⟩ := h4.2 hn
    refine ⟨ad, e1, hb, fun j v hv => ?_⟩
    rw [World.cell?_setCell_other]
    · exact hc j v hv
    · intro e2
      have h7 := hc j v hv
      rw [← e2, (cell_row hq i).1] at h7
      rw [List.getElem?_map] at hv
      obtain ⟨c0, _, rfl⟩ := Option.map_eq_some_iff.1 hv
      have h8 : bv c0 ∈ cs.toList := by
        rw [← Array.getElem?_toList] at h7
        exact List.mem_of_getElem? h7
      exact hno _ h8 c0 rfl
end Go.Proofs.Ytemokpnepnmmkaa
/- event's rowOf: so many texts, one behind the other. -/
namespace Go.Proofs.Ytemokpnepnmmkaa
open Go.RowKit
theorem info_str : (Try.prog.info? 9).map (fun i => (i.zero, i.size, i.bytes)) = some (some (.string ⟨#[]⟩), 1, 16) := by kernel_rfl
theorem num_zero_of {bs : List UInt8} {e : Nat} (h : (numR bs e).2.2 ≠ 0) : (numR bs e).1 = 0 := by
  by_cases he : e = 0
  · subst he
    simp only [numR, ne_eq, not_true_eq_false, if_false] at h ⊢
    rcases takeM_cases bs with h5 | h5 <;> omega
  · rw [num_err bs he]
/-- What the call owns lies in another block than one that was there. -/
theorem own_grown {w w' : World} {base size n g : Nat} {e : TypeId} {v : Value} {xs : List Value} (h : w.ownsRow base e size v n xs) (hg : w.grownBy w' (some g)) (hb : g < base) : w'.ownsRow base e size v n xs :=
  h.kept (row := some g) hg (.inr fun hk => by have := (h.lt _ hk).1; omega)
/-- A row of texts of the call's own. -/
structure Texts (w w' : World) (v : Value) (l : List (List UInt8)) : Prop where
  own : w'.ownsRow w.heap.size 9 1 v (l.map sv).length (l.map sv)
theorem grown_below {a b c : World} {g n : Nat} (h : a.grownBy b (some g)) (k : Below n b c) (hn : a.heap.size ≤ n) : a.grownBy c (some g) :=
  ⟨k.os.trans h.os, k.tape.trans h.tape, k.output.trans h.output, Nat.le_trans h.size k.size, fun i hi hne => (k.block i (Nat.lt_of_lt_of_le hi hn)).trans (h.block i hi hne)⟩
theorem rowR_stop {b : List UInt8} {e : Nat} {b' : List UInt8} {e' : Nat} (he : e' ≠ 0) : ∀ (d k : Nat), (rowR k b e).2 = (b', e') → (rowR (k + d) b e).2 = (b', e')
  | 0, _, h => h
  | d + 1, k, h => by
    have ih := rowR_stop he d k h
    have h1 : (rowR (k + d) b e).2.1 = b' := by rw [ih]
    have h2 : (rowR (k + d) b e).2.2 = e' := by rw [ih]
    rw [← Nat.add_assoc, rowR_snoc]
    dsimp only
    rw [h1, h2, text_err b' he]
theorem sv_one (t : List UInt8) : (sv t).oneCell' = true := rfl
set_option maxRecDepth 100000 in
set_option maxHeartbeats 400000 in
theorem rowOf_v (w : World) (B g : Nat) (bs : List UInt8) (e : Nat) (h : Rdr w B g bs e) (hB : B ≤ w.heap.size) :
    Calls Try.prog 65 #[.pointer (some ⟨g, 0, none⟩), .func (.func 64) #[.pointer (some ⟨g, 0, none⟩)] #[]] w fun r w' =>
      ∃ (v : Value) (l : List (List UInt8)) (f : Nat) (b' : List UInt8) (e' : Nat), r = .returned (.tuple #[v, .int .i64 (f : Int)]) ∧ Texts w w' v l ∧ w.grownBy w' (some g) ∧ Rdr w' B g b' e' ∧
        (4096 < (numR bs e).1 ∧ f = 11 ∨ (numR bs e).1 ≤ 4096 ∧ f = e' ∧ (rowR (numR bs e).1 (numR bs e).2.1 (numR bs e).2.2).2 = (b', e') ∧ (e' = 0 → rowR (numR bs e).1 (numR bs e).2.1 (numR bs e).2.2 = (l, b', 0))) := by
  obtain ⟨i0, hi, hz0, hz1, hz2⟩ := info_parts info_str
  obtain ⟨N, b0, e0, hN⟩ : ∃ N b0 e0, numR bs e = (N, b0, e0) := ⟨_, _, _, rfl⟩
  have hn := num_v w B g bs e h
  have hg0 := h.lt
  have hz := num_zero_of (bs := bs) (e := e)
  have hNl := numR_lt bs e
  rw [hN] at hn hz hNl ⊢
  clear h hN
  dsimp only at hn hz hNl ⊢
  have HN := Lib.hid hn
  have HZ := Lib.hid hz
  clear hn hz
  by_cases hbig : 4096 < N
  · go_enter Try.func65, Try.ntmps65
    go_wp2_with (go_at_call 74; refine HN.out.mono ?_; rintro r w1 ⟨rfl, hr1, hg1⟩)
    go_ret2
    exact ⟨_, [], 11, b0, e0, rfl, ⟨World.ownsRow_nil _ _ _ _⟩, hg1, hr1, .inl ⟨hbig, rfl⟩⟩
  · have hN4 : N ≤ 4096 := by omega
    have hcond : ∀ k : Nat, k ≤ N → IntKind.u64.wrap ((k : Int) + 1) = (k : Int) + 1 := fun k hk => by rw [IntKind.wrap_u64]; omega
    have HW := Lib.hid hcond
    clear hcond
    go_enter Try.func65, Try.ntmps65
    go_wp2_with (go_at_call 74; refine HN.out.mono ?_; rintro r w1 ⟨rfl, hr1, hg1⟩)
    have HR1 := Lib.hid hr1
    have HG1 := Lib.hid hg1
    clear hr1 hg1
    go_loopw [7, 14] (fun v c wr => ∃ (k : Nat) (l : List (List UInt8)) (b' : List UInt8) (e' : Nat), k ≤ N ∧ c = .int .u64 (k : Int) ∧ l.length = k ∧ wr.ownsRow w.heap.size 9 1 v (l.map sv).length (l.map sv) ∧ w.grownBy wr (some g) ∧ Rdr wr B g b' e' ∧ rowR k b0 e0 = (l, b', e') ∧ (0 < N → e' = 0)) (fun _ c _ => N - (intOf c).toNat)
    case atStart => exact ⟨0, [], b0, e0, by omega, rfl, rfl, World.ownsRow_nil _ _ _ _, HG1.out, HR1.out, rfl, fun hp => by
      by_cases h0 : e0 = 0
      · exact h0
      · have := HZ.out h0; omega⟩
    case round =>
      obtain ⟨k, l, b', e', hk, rfl, hlk, hown, hgr, hrd, hrow, he0⟩ := hrel
      have HO := Lib.hid hown
      have HGR := Lib.hid hgr
      have HRD := Lib.hid hrd
      have HROW := Lib.hid hrow
      have HLK := Lib.hid hlk
      have hsz := hgr.size
      have HEC := Lib.hid hrd.errCell
      clear hown hgr hrd hrow hlk
      by_cases hlt : k < N
      · have h0 := he0 (by omega)
        subst h0
        clear he0
        obtain ⟨t, b2, e2, ht⟩ : ∃ t b2 e2, textR b' 0 = (t, b2, e2) := ⟨_, _, _, rfl⟩
        have htx := text_v wr B g b' 0 HRD.out
        rw [ht] at htx
        have HTX := Lib.hid htx
        have HT := Lib.hid ht
        clear htx ht
        have hstep : rowR (k + 1) b0 e0 = (l ++ [t], b2, e2) := by
          rw [rowR_snoc, HROW.out]
          dsimp only
          rw [HT.out]
        have HS := Lib.hid hstep
        clear hstep
        by_cases h2 : e2 = 0
        · subst h2
          have hwk := HW.out k (by omega)
          go_wp2_with (first
            | (go_at_call 64; refine HTX.out.mono ?_; rintro r w2 ⟨rfl, hr2, hg2⟩; have HR2 := Lib.hid hr2; have HG2 := Lib.hid hg2; have HO2 := Lib.hid (own_grown HO.out hg2 (by omega)); have HE2 := Lib.hid hr2.errCell; have hsz2 := hg2.size; clear hr2 hg2)
            | (go_at_call 76; refine (err_v _ _ _ HE2.out).mono ?_; rintro r w' ⟨rfl, rfl⟩)
            | (at_builtin; refine wpList_app1 w2 (sv t) rfl (.tmp 21) (.tmp 23) _ rfl w.heap.size 9 i0 (.string ⟨#[]⟩) 16 Try.underlying32 hi hz0 hz1 hz2 rfl (sv_one t) u7 _ rfl HO2.out rfl ?hby ?hle ?hba ?_; (case hby => have := HLK.out; simp only [List.length_map]; omega); (case hle => have := HLK.out; simp only [List.length_map]; omega); (case hba => omega); intro v3 w3 hg3))
          go_roundw
          case rel =>
            have hb3 := hg3.below HO2.out (by omega)
            refine ⟨k + 1, l ++ [t], b2, 0, by omega, by go_num, by rw [List.length_append, HLK.out]; rfl, ?_, ?_, HR2.out.below (hb3.mono hB), HS.out, fun _ => rfl⟩
            · have := hg3.own; rw [List.map_append]; exact this
            · exact grown_below (only_trans HGR.out HG2.out) hb3 (Nat.le_refl _)
          case measure => simp [intOf]; omega
        · have hne : ((e2 : Int) != 0) = true := by simp; omega
          have H2 := Lib.hid h2
          clear h2
          go_wp2_with (first
            | (go_at_call 64; refine HTX.out.mono ?_; rintro r w2 ⟨rfl, hr2, hg2⟩; have HR2 := Lib.hid hr2; have HG2 := Lib.hid hg2; have HO2 := Lib.hid (own_grown HO.out hg2 (by omega)); have HE2 := Lib.hid hr2.errCell; have hsz2 := hg2.size; clear hr2 hg2)
            | (go_at_call 76; refine (err_v _ _ _ HE2.out).mono ?_; rintro r w' ⟨rfl, rfl⟩))
          go_ret2
          refine ⟨_, l, e2, b2, e2, rfl, ⟨HO2.out⟩, only_trans HGR.out HG2.out, HR2.out, .inr ⟨hN4, rfl, ?_, fun h => absurd h H2.out⟩⟩
          have h5 := rowR_stop (b := b0) (e := e0) (b' := b2) (e' := e2) H2.out (N - (k + 1)) (k + 1) (by rw [HS.out])
          rwa [show k + 1 + (N - (k + 1)) = N by omega] at h5
      · have hkN : k = N := by omega
        subst hkN
        clear hk he0
        go_wp2_with (go_at_call 76; refine (err_v _ _ _ HEC.out).mono ?_; rintro r w' ⟨rfl, rfl⟩)
        go_ret2
        exact ⟨_, l, e', b', e', rfl, ⟨HO.out⟩, HGR.out, HRD.out, .inr ⟨hN4, rfl, by rw [HROW.out], fun h => by rw [HROW.out, h]⟩⟩
end Go.Proofs.Ytemokpnepnmmkaa
/- event's Asked: the request of bytes. -/
namespace Go.Proofs.Ytemokpnepnmmkaa
open Go.RowKit
/-- Two structs that the call has laid: the result's, that is zero, and the one that is written. -/
structure Laid (T : TypeId) (zs : Array Value) (w W : World) (cs : Array Value) : Prop where
  b0 : W.heap[w.heap.size]? = some (.cells zs T (0, 0))
  b1 : W.heap[w.heap.size + 1]? = some (.cells cs T (0, 0))
  bel : Below w.heap.size w W
section
variable {T : TypeId} {zs cs : Array Value} {w W W' : World}
theorem Laid.size (h : Laid T zs w W cs) : w.heap.size + 1 < W.heap.size := (Array.getElem?_eq_some_iff.1 h.b1).1
theorem Laid.keep (h : Laid T zs w W cs) {n : Nat} (hb : Below n W W') (hn : w.heap.size + 2 ≤ n) : Laid T zs w W' cs :=
  ⟨(hb.block _ (by omega)).trans h.b0, (hb.block _ (by omega)).trans h.b1, h.bel.trans (hb.mono (by omega))⟩
theorem Laid.only (h : Laid T zs w W cs) {g : Nat} (hg : W.grownBy W' (some g)) (hn : w.heap.size + 2 ≤ g) : Laid T zs w W' cs := by
  have hs := h.size
  refine ⟨(hg.block _ (by omega) (by intro e; injection e; omega)).trans h.b0, (hg.block _ (by omega) (by intro e; injection e; omega)).trans h.b1, ?_⟩
  exact h.bel.trans (below_of_grown hg (by omega) (fun k hk => by injection hk; omega))
theorem Laid.set (h : Laid T zs w W cs) (i : Nat) (u : Value) {cs' : Array Value} (hc : cs' = cs.setIfInBounds i u) : Laid T zs w (W.setCell ⟨w.heap.size + 1, i, none⟩ u) cs' := by
  subst hc
  refine ⟨?_, set_row h.b1 i u, h.bel.setCell (by simp) u⟩
  rw [Below.heap_setCell _ _ _ _ (fun e2 => by simp at e2)]
  exact h.b0
theorem Laid.cell (h : Laid T zs w W cs) (i : Nat) : W.cell? ⟨w.heap.size + 1, i, none⟩ = cs[i]? := (cell_row h.b1 i).1
theorem Laid.frozen (h : Laid T zs w W cs) (i : Nat) : W.frozen? ⟨w.heap.size + 1, i, none⟩ = false := (cell_row h.b1 i).2
theorem Laid.cell0 (h : Laid T zs w W cs) (i : Nat) : W.cell? ⟨w.heap.size, i, none⟩ = zs[i]? := (cell_row h.b0 i).1
theorem Laid.frozen0 (h : Laid T zs w W cs) (i : Nat) : W.frozen? ⟨w.heap.size, i, none⟩ = false := (cell_row h.b0 i).2
end
theorem rd_set {W : World} {B n b : Nat} {A : Option Addr} {xs : List Value} (h : Rd W B A n xs) (hne : ∀ ad, A = some ad → ad.block ≠ b) (i : Nat) (u : Value) : Rd (W.setCell ⟨b, i, none⟩ u) B A n xs := by
  refine ⟨h.1, fun hn => ?_⟩
  obtain ⟨ad, e1, hb, hc⟩ := h.2 hn
  refine ⟨ad, e1, hb, fun j v hv => ?_⟩
  rw [World.cell?_setCell_other]
  · exact hc j v hv
  · intro e2; exact hne ad e1 (by rw [← block_add ad j, ← e2])
theorem noByte5 (k n m : Int) (s : ByteArray) (A : Option Addr) (a b : Nat) : noByte (#[.int .i64 k, .int .i64 n, .int .i64 m, .string s, .slice A a b] : Array Value).toList := by
  intro u hu c
  simp at hu
  rcases hu with rfl | rfl | rfl | rfl | rfl <;> simp [bv]
abbrev R5 (k n m : Int) (s : ByteArray) (A : Option Addr) (a b : Nat) : Array Value := #[.int .i64 k, .int .i64 n, .int .i64 m, .string s, .slice A a b]
abbrev Z5 : Array Value := #[.int .i64 0, .int .i64 0, .int .i64 0, .string ⟨#[]⟩, .slice none 0 0]
section
variable {w W W' : World} {B g e : Nat} {bs : List UInt8} {k n m : Int} {s : ByteArray} {A : Option Addr} {a b : Nat}
end
/-- What Asked's steps come to. -/
theorem askedM_of {bs b1 b2 b3 b4 b8 : List UInt8} {x1 x2 x3 e1 e2 e3 e4 e8 f kk : Nat} {n m : Int} {t : List UInt8} {l : List (List UInt8)} {er : Int}
    (h1 : numR bs 0 = (x1, b1, e1)) (h2 : numR b1 e1 = (x2, b2, e2)) (h3 : numR b2 e2 = (x3, b3, e3)) (h4 : textR b3 e3 = (t, b4, e4)) (hk : kk = min x1 256) (hn : n = zagOf x2) (hm : m = zagOf x3)
    (h8 : 4096 < (numR b4 e4).1 ∧ f = 11 ∨ (numR b4 e4).1 ≤ 4096 ∧ f = e8 ∧ (rowR (numR b4 e4).1 (numR b4 e4).2.1 (numR b4 e4).2.2).2 = (b8, e8) ∧ (e8 = 0 → rowR (numR b4 e4).1 (numR b4 e4).2.1 (numR b4 e4).2.2 = (l, b8, 0)))
    (her : er = firstOf (f : Int) b8 e8 (rightB kk l.length)) : (er ≠ 0 → askedM bs = (noAsked, er.toNat) ∧ 0 ≤ er) ∧ (er = 0 → askedM bs = ((kk, n, m, t, l), 0)) := by
  have hA : askedM bs = (if 4096 < (numR b4 e4).1 then (noAsked, 11) else
      let q := rowR (numR b4 e4).1 (numR b4 e4).2.1 (numR b4 e4).2.2
      if q.2.2 ≠ 0 then (noAsked, q.2.2) else if ¬ (1 ≤ x1 ∧ x1 ≤ 11) then (noAsked, 11) else if q.2.1 ≠ [] then (noAsked, 14) else ((x1, zagZ x2, zagZ x3, t, q.1), 0)) := by
    unfold askedM
    rw [h1]
    dsimp only
    rw [h2]
    dsimp only
    rw [h3]
    dsimp only
    rw [h4]
  rw [hA]
  rcases h8 with ⟨hbig, rfl⟩ | ⟨hN, hf, hq, hq0⟩
  · rw [if_pos hbig]
    have : er = 11 := by rw [her]; rfl
    subst this
    exact ⟨fun _ => ⟨rfl, by omega⟩, fun h => by omega⟩
  · subst hf
    rw [if_neg (by omega)]
    dsimp only
    rw [hq]
    dsimp only
    by_cases he : f = 0
    · subst he
      have hrow := hq0 rfl
      have hlen : l.length = (numR b4 e4).1 := by have := rowR_len (numR b4 e4).1 (numR b4 e4).2.1 (numR b4 e4).2.2; rw [hrow] at this; exact this
      rw [if_neg (by simp)]
      by_cases hx : 1 ≤ x1 ∧ x1 ≤ 11
      · have hkx : kk = x1 := by omega
        subst hkx
        have hrt : rightB kk l.length = true := decide_eq_true (by omega)
        rw [hrt] at her
        rw [if_neg (by simpa using hx)]
        by_cases hb : b8 = []
        · have : er = 0 := by rw [her]; simp [firstOf, hb]
          subst this
          refine ⟨fun h => absurd rfl h, fun _ => ?_⟩
          rw [if_neg (by simpa using hb), hrow, hn, hm]
          rfl
        · have : er = 14 := by rw [her]; simp [firstOf, hb]
          subst this
          rw [if_pos hb]
          exact ⟨fun _ => ⟨rfl, by omega⟩, fun h => by omega⟩
      · have hrt : rightB kk l.length = false := decide_eq_false (by omega)
        rw [hrt] at her
        have : er = 11 := by rw [her]; simp [firstOf]
        subst this
        rw [if_pos hx]
        exact ⟨fun _ => ⟨rfl, by omega⟩, fun h => by omega⟩
    · have : er = (f : Int) := by rw [her]; unfold firstOf; rw [if_pos (by omega)]
      subst this
      rw [if_pos he]
      exact ⟨fun _ => ⟨by simp, by omega⟩, fun h => by omega⟩
end Go.Proofs.Ytemokpnepnmmkaa
/- event's Told: the answer of bytes. -/
namespace Go.Proofs.Ytemokpnepnmmkaa
open Go.RowKit
theorem noByte7 (k e n m : Int) (s : ByteArray) (A : Option Addr) (a b : Nat) (z : Int) : noByte (#[.int .i64 k, .int .i64 e, .int .i64 n, .int .i64 m, .string s, .slice A a b, .int .i64 z] : Array Value).toList := by
  intro u hu c
  simp at hu
  rcases hu with rfl | rfl | rfl | rfl | rfl | rfl | rfl <;> simp [bv]
abbrev R7 (k e n m : Int) (s : ByteArray) (A : Option Addr) (a b : Nat) (z : Int) : Array Value := #[.int .i64 k, .int .i64 e, .int .i64 n, .int .i64 m, .string s, .slice A a b, .int .i64 z]
abbrev Z7 : Array Value := #[.int .i64 0, .int .i64 0, .int .i64 0, .int .i64 0, .string ⟨#[]⟩, .slice none 0 0, .int .i64 0]
abbrev Lp (w W : World) (cs : Array Value) : Prop := Laid 34 Z7 w W cs
theorem ans_ne : 34 ≠ 129 := by decide
structure Work7 (w W : World) (B g : Nat) (bs : List UInt8) (f : Nat) (k e n m : Int) (s : ByteArray) (A : Option Addr) (a b : Nat) (z : Int) : Prop where
  laid : Lp w W (R7 k e n m s A a b z)
  rdr : Rdr W B g bs f
  low : w.heap.size + 2 ≤ g
  bsz : B ≤ W.heap.size
section
variable {w W W' : World} {B g f : Nat} {bs : List UInt8} {k e n m : Int} {s : ByteArray} {A : Option Addr} {a b : Nat} {z : Int}
theorem Work7.next (h : Work7 w W B g bs f k e n m s A a b z) {b' : List UInt8} {f' : Nat} (hg : W.grownBy W' (some g)) (hr : Rdr W' B g b' f') : Work7 w W' B g b' f' k e n m s A a b z :=
  ⟨h.laid.only hg h.low, hr, h.low, Nat.le_trans h.bsz hg.size⟩
theorem Work7.set (h : Work7 w W B g bs f k e n m s A a b z) (i : Nat) (u : Value) {k' e' n' m' : Int} {s' : ByteArray} {A' : Option Addr} {a' b' : Nat} {z' : Int} (hc : R7 k' e' n' m' s' A' a' b' z' = (R7 k e n m s A a b z).setIfInBounds i u) : Work7 w (W.setCell ⟨w.heap.size + 1, i, none⟩ u) B g bs f k' e' n' m' s' A' a' b' z' :=
  ⟨h.laid.set i u hc, h.rdr.put h.laid.b1 ans_ne (noByte7 _ _ _ _ _ _ _ _ _) i u, h.low, by have := h.bsz; simpa using this⟩
theorem Work7.keep (h : Work7 w W B g bs f k e n m s A a b z) (hb : Below W.heap.size W W') : Work7 w W' B g bs f k e n m s A a b z :=
  ⟨h.laid.keep hb (by have := h.laid.size; omega), h.rdr.below (hb.mono h.bsz), h.low, Nat.le_trans h.bsz hb.size⟩
theorem Work7.facts (h : Work7 w W B g bs f k e n m s A a b z) : (W.cell? ⟨w.heap.size + 1, 0, none⟩ = some (.int .i64 k) ∧ W.cell? ⟨w.heap.size + 1, 1, none⟩ = some (.int .i64 e) ∧ W.cell? ⟨w.heap.size + 1, 2, none⟩ = some (.int .i64 n) ∧ W.cell? ⟨w.heap.size + 1, 3, none⟩ = some (.int .i64 m) ∧ W.cell? ⟨w.heap.size + 1, 4, none⟩ = some (.string s) ∧ W.cell? ⟨w.heap.size + 1, 5, none⟩ = some (.slice A a b) ∧ W.cell? ⟨w.heap.size + 1, 6, none⟩ = some (.int .i64 z)) ∧ (∀ i, W.frozen? ⟨w.heap.size + 1, i, none⟩ = false) ∧ w.heap.size + 1 < W.heap.size :=
  ⟨⟨h.laid.cell 0, h.laid.cell 1, h.laid.cell 2, h.laid.cell 3, h.laid.cell 4, h.laid.cell 5, h.laid.cell 6⟩, h.laid.frozen, h.laid.size⟩
theorem Work7.facts0 (h : Work7 w W B g bs f k e n m s A a b z) : (W.cell? ⟨w.heap.size, 0, none⟩ = some (.int .i64 0) ∧ W.cell? ⟨w.heap.size, 1, none⟩ = some (.int .i64 0) ∧ W.cell? ⟨w.heap.size, 2, none⟩ = some (.int .i64 0) ∧ W.cell? ⟨w.heap.size, 3, none⟩ = some (.int .i64 0) ∧ W.cell? ⟨w.heap.size, 4, none⟩ = some (.string ⟨#[]⟩) ∧ W.cell? ⟨w.heap.size, 5, none⟩ = some (.slice none 0 0) ∧ W.cell? ⟨w.heap.size, 6, none⟩ = some (.int .i64 0)) ∧ (∀ i, W.frozen? ⟨w.heap.size, i, none⟩ = false) :=
  ⟨⟨h.laid.cell0 0, h.laid.cell0 1, h.laid.cell0 2, h.laid.cell0 3, h.laid.cell0 4, h.laid.cell0 5, h.laid.cell0 6⟩, h.laid.frozen0⟩
end
theorem rd_only {W W' : World} {B n g : Nat} {A : Option Addr} {xs : List Value} (h : Rd W B A n xs) (hg : W.grownBy W' (some g)) (hB : B ≤ W.heap.size) (hne : ∀ ad, A = some ad → ad.block ≠ g) : Rd W' B A n xs := by
  refine ⟨h.1, fun hn => ?_⟩
  obtain ⟨ad, e1, hb, hc⟩ := h.2 hn
  refine ⟨ad, e1, hb, fun j v hv => ?_⟩
  have h1 := hc j v hv
  have h2 := hg.block (ad.add j).block (by rw [block_add]; omega) (by rw [block_add]; intro e; injection e with e; exact hne ad e1 e)
  rw [← h1]
  unfold World.cell?
  rw [h2]
/-- What Told's steps come to. -/
theorem toldM_of {bs b0 b1 b2 b3 b4 b8 b9 : List UInt8} {x1 x0 x2 x3 x9 e1 e0 e2 e3 e4 e8 e9 f kk ee ss : Nat} {n m : Int} {t : List UInt8} {l : List (List UInt8)} {er : Int}
    (h1 : numR bs 0 = (x1, b1, e1)) (h0 : numR b1 e1 = (x0, b0, e0)) (h2 : numR b0 e0 = (x2, b2, e2)) (h3 : numR b2 e2 = (x3, b3, e3)) (h4 : textR b3 e3 = (t, b4, e4)) (h9 : numR b8 e8 = (x9, b9, e9)) (hk : kk = min x1 256) (he : ee = min x0 256) (hn : n = zagOf x2) (hm : m = zagOf x3) (hs : ss = min x9 256)
    (h8 : 4096 < (numR b4 e4).1 ∧ f = 11 ∨ (numR b4 e4).1 ≤ 4096 ∧ f = e8 ∧ (rowR (numR b4 e4).1 (numR b4 e4).2.1 (numR b4 e4).2.2).2 = (b8, e8) ∧ (e8 = 0 → rowR (numR b4 e4).1 (numR b4 e4).2.1 (numR b4 e4).2.2 = (l, b8, 0)))
    (her : er = firstOf (f : Int) b9 e9 (fitsB kk kk ee ss l.length)) : (er ≠ 0 → toldM bs = (noTold, er.toNat) ∧ 0 ≤ er) ∧ (er = 0 → toldM bs = ((kk, ee, n, m, t, l, ss), 0)) := by
  have hA : toldM bs = (if 4096 < (numR b4 e4).1 then (noTold, 11) else
      let q := rowR (numR b4 e4).1 (numR b4 e4).2.1 (numR b4 e4).2.2
      let s := numR q.2.1 q.2.2
      if s.2.2 ≠ 0 then (noTold, s.2.2) else if ¬ ((1 ≤ x1 ∧ x1 ≤ 11) ∧ x0 ≤ 255 ∧ s.1 ≤ 64) then (noTold, 11) else if s.2.1 ≠ [] then (noTold, 14) else ((x1, x0, zagZ x2, zagZ x3, t, q.1, s.1), 0)) := by
    unfold toldM
    rw [h1]
    dsimp only
    rw [h0]
    dsimp only
    rw [h2]
    dsimp only
    rw [h3]
    dsimp only
    rw [h4]
  rw [hA]
  rcases h8 with ⟨hbig, rfl⟩ | ⟨hN, hf, hq, hq0⟩
  · rw [if_pos hbig]
    have : er = 11 := by rw [her]; rfl
    subst this
    exact ⟨fun _ => ⟨rfl, by omega⟩, fun h => by omega⟩
  · subst hf
    rw [if_neg (by omega)]
    dsimp only
    rw [hq]
    dsimp only
    rw [h9]
    dsimp only
    by_cases hf : f = 0
    · subst hf
      have hrow := hq0 rfl
      have hlen : l.length = (numR b4 e4).1 := by have := rowR_len (numR b4 e4).1 (numR b4 e4).2.1 (numR b4 e4).2.2; rw [hrow] at this; exact this
      by_cases h9e : e9 = 0
      · subst h9e
        rw [if_neg (by simp)]
        by_cases hx : (1 ≤ x1 ∧ x1 ≤ 11) ∧ x0 ≤ 255 ∧ x9 ≤ 64
        · obtain ⟨rfl, rfl, rfl⟩ : kk = x1 ∧ ee = x0 ∧ ss = x9 := by omega
          have hrt : fitsB kk kk ee ss l.length = true := decide_eq_true (by omega)
          rw [hrt] at her
          rw [if_neg (fun hc => hc hx)]
          by_cases hb : b9 = []
          · have : er = 0 := by rw [her]; simp [firstOf, hb]
            subst this
            refine ⟨fun h => absurd rfl h, fun _ => ?_⟩
            rw [if_neg (by simpa using hb), hrow, hn, hm]
            rfl
          · have : er = 14 := by rw [her]; simp [firstOf, hb]
            subst this
            rw [if_pos hb]
            exact ⟨fun _ => ⟨rfl, by omega⟩, fun h => by omega⟩
        · have hrt : fitsB kk kk ee ss l.length = false := decide_eq_false (by omega)
          rw [hrt] at her
          have : er = 11 := by rw [her]; simp [firstOf]
          subst this
          rw [if_pos hx]
          exact ⟨fun _ => ⟨rfl, by omega⟩, fun h => by omega⟩
      · have : er = (e9 : Int) := by rw [her]; unfold firstOf; rw [if_neg (by simp), if_pos h9e]
        subst this
        rw [if_pos h9e]
        exact ⟨fun _ => ⟨by simp, by omega⟩, fun h => by omega⟩
    · rw [num_err b8 hf] at h9
      simp only [Prod.mk.injEq] at h9
      obtain ⟨_, _, rfl⟩ := h9
      have : er = (f : Int) := by rw [her]; unfold firstOf; rw [if_pos (by omega)]
      subst this
      rw [if_pos hf]
      exact ⟨fun _ => ⟨by simp, by omega⟩, fun h => by omega⟩
set_option maxRecDepth 100000 in
set_option maxHeartbeats 1000000 in
theorem told_v (A : Option Addr) (n0 cap : Nat) (bs : List UInt8) (w : World) (hr : Rd w w.heap.size A n0 (bs.map bv)) (hn : n0 ≤ 140737488351232) :
    Calls Try.prog 49 #[.slice A n0 cap] w fun r w' => ∃ (k e : Nat) (n m : Int) (t : List UInt8) (l : List (List UInt8)) (s : Nat) (A' : Option Addr) (c' : Nat) (f : Nat),
      r = .returned (.tuple #[ansV (k : Int) (e : Int) n m t A' l.length c' (s : Int), .int .i64 (f : Int)]) ∧ toldM bs = ((k, e, n, m, t, l, s), f) ∧ Rd w' w'.heap.size A' l.length (l.map sv) ∧ l.length ≤ c' ∧ Below w.heap.size w w' ∧ (∀ ad, A' = some ad → w.heap.size ≤ ad.block) := by
  obtain ⟨x1, b1, e1, h1⟩ : ∃ x b e, numR bs 0 = (x, b, e) := ⟨_, _, _, rfl⟩
  obtain ⟨x0, b0, e0, h0⟩ : ∃ x b e, numR b1 e1 = (x, b, e) := ⟨_, _, _, rfl⟩
  obtain ⟨x2, b2, e2, h2⟩ : ∃ x b e, numR b0 e0 = (x, b, e) := ⟨_, _, _, rfl⟩
  obtain ⟨x3, b3, e3, h3⟩ : ∃ x b e, numR b2 e2 = (x, b, e) := ⟨_, _, _, rfl⟩
  obtain ⟨t, b4, e4, h4⟩ : ∃ x b e, textR b3 e3 = (x, b, e) := ⟨_, _, _, rfl⟩
  obtain ⟨kk, hkk⟩ : ∃ kk, kk = min x1 256 := ⟨_, rfl⟩
  obtain ⟨ee, hee⟩ : ∃ ee, ee = min x0 256 := ⟨_, rfl⟩
  obtain ⟨n, hnn⟩ : ∃ n, n = zagOf x2 := ⟨_, rfl⟩
  obtain ⟨m, hmm⟩ : ∃ m, m = zagOf x3 := ⟨_, rfl⟩
  have c1 := fun W B g (h : Rdr W B g bs 0) => small_v W B g bs 0 h
  have c0 := fun W B g (h : Rdr W B g b1 e1) => small_v W B g b1 e1 h
  have c2 := fun W B g (h : Rdr W B g b0 e0) => int_v W B g b0 e0 h
  have c3 := fun W B g (h : Rdr W B g b2 e2) => int_v W B g b2 e2 h
  have c4 := fun W B g (h : Rdr W B g b3 e3) => text_v W B g b3 e3 h
  rw [h1] at c1
  rw [h0] at c0
  rw [h2] at c2
  rw [h3] at c3
  rw [h4] at c4
  dsimp only at c1 c0 c2 c3 c4
  rw [← hkk] at c1
  rw [← hee] at c0
  rw [← hnn] at c2
  rw [← hmm] at c3
  have C1 := Lib.hid c1
  have C0 := Lib.hid c0
  have C2 := Lib.hid c2
  have C3 := Lib.hid c3
  have C4 := Lib.hid c4
  have HM := Lib.hid (And.intro h1 (And.intro h0 (And.intro h2 (And.intro h3 (And.intro h4 (And.intro hkk (And.intro hee (And.intro hnn hmm))))))))
  have HR := Lib.hid hr
  clear c1 c0 c2 c3 c4 h1 h0 h2 h3 h4 hkk hee hnn hmm hr
  have hB2 := Lib.hid (two_below w (.cells Z7 34) (.cells Z7 34))
  have hL2 : Hid (∀ W, Below (w.heap.size + 2) ((w.alloc (.cells Z7 34)).alloc (.cells Z7 34)) W → Lp w W Z7) := fun W hW => by
    refine Laid.keep ⟨?_, ?_, hB2.out⟩ hW (Nat.le_refl _)
    · rw [((Below.refl (w.heap.size + 1) (w.alloc (.cells Z7 34))).alloc (by simp) _).block _ (by omega)]
      exact heap_alloc_new w _
    · have := heap_alloc_new (w.alloc (.cells Z7 34)) (.cells Z7 34)
      rwa [World.size_alloc] at this
  have HOP := Lib.hid (open_v A n0 cap _ bs _ (rd_later HR.out hB2.out) hn)
  go_enter Try.func49, Try.ntmps49
  go_wp2_with (first
    | (go_at_call 61; (with_reducible refine HOP.out.mono ?_); rintro r w3 ⟨g, rfl, hr3, hb3, hg3⟩; have W3 : Hid (Work7 w w3 w3.heap.size g bs 0 0 0 0 0 ⟨#[]⟩ none 0 0 0) := (⟨hL2.out w3 (by simpa using hb3), hr3, by simpa using hg3, Nat.le_refl _⟩); clear hr3 hb3 hg3)
    | (go_at_call 62; (with_reducible refine (C1.out _ _ _ W3.out.rdr).mono ?_); rintro r w4 ⟨rfl, hr4, hg4⟩; have W4 := Lib.hid (W3.out.next hg4 hr4); obtain ⟨⟨q0, q1, q2, q3, q4, q5, q6⟩, qf, qz⟩ := W4.out.facts; have V4 : Hid (Work7 w (w4.setCell ⟨w.heap.size + 1, 0, none⟩ (.int .i64 (kk : Int))) w3.heap.size g b1 e1 kk 0 0 0 ⟨#[]⟩ none 0 0 0) := (W4.out.set 0 _ rfl); clear hr4 hg4 W3)
    | (go_at_call 62; (with_reducible refine (C0.out _ _ _ V4.out.rdr).mono ?_); rintro r wz ⟨rfl, hrz, hgz⟩; have Wz := Lib.hid (V4.out.next hgz hrz); clear q0 q1 q2 q3 q4 q5 q6 qf qz; obtain ⟨⟨q0, q1, q2, q3, q4, q5, q6⟩, qf, qz⟩ := Wz.out.facts; have Vz : Hid (Work7 w (wz.setCell ⟨w.heap.size + 1, 1, none⟩ (.int .i64 (ee : Int))) w3.heap.size g b0 e0 kk ee 0 0 ⟨#[]⟩ none 0 0 0) := (Wz.out.set 1 _ rfl); clear hrz hgz V4 W4)
    | (go_at_call 63; (with_reducible refine (C2.out _ _ _ Vz.out.rdr).mono ?_); rintro r w5 ⟨rfl, hr5, hg5⟩; have W5 := Lib.hid (Vz.out.next hg5 hr5); clear q0 q1 q2 q3 q4 q5 q6 qf qz; obtain ⟨⟨q0, q1, q2, q3, q4, q5, q6⟩, qf, qz⟩ := W5.out.facts; have V5 : Hid (Work7 w (w5.setCell ⟨w.heap.size + 1, 2, none⟩ (.int .i64 n)) w3.heap.size g b2 e2 kk ee n 0 ⟨#[]⟩ none 0 0 0) := (W5.out.set 2 _ rfl); clear hr5 hg5 Vz Wz)
    | (go_at_call 63; (with_reducible refine (C3.out _ _ _ V5.out.rdr).mono ?_); rintro r w6 ⟨rfl, hr6, hg6⟩; have W6 := Lib.hid (V5.out.next hg6 hr6); clear q0 q1 q2 q3 q4 q5 q6 qf qz; obtain ⟨⟨q0, q1, q2, q3, q4, q5, q6⟩, qf, qz⟩ := W6.out.facts; have V6 : Hid (Work7 w (w6.setCell ⟨w.heap.size + 1, 3, none⟩ (.int .i64 m)) w3.heap.size g b3 e3 kk ee n m ⟨#[]⟩ none 0 0 0) := (W6.out.set 3 _ rfl); clear hr6 hg6 V5 W5)
    | (go_at_call 64; (with_reducible refine (C4.out _ _ _ V6.out.rdr).mono ?_); rintro r w7 ⟨rfl, hr7, hg7⟩; have W7 := Lib.hid (V6.out.next hg7 hr7); clear q0 q1 q2 q3 q4 q5 q6 qf qz; obtain ⟨⟨q0, q1, q2, q3, q4, q5, q6⟩, qf, qz⟩ := W7.out.facts; have V7 : Hid (Work7 w (w7.setCell ⟨w.heap.size + 1, 4, none⟩ (.string (mkS t))) w3.heap.size g b4 e4 kk ee n m (mkS t) none 0 0 0) := (W7.out.set 4 _ rfl); clear hr7 hg7 V6 W6))
  (with_reducible refine (rowOf_v _ w3.heap.size g b4 e4 V7.out.rdr V7.out.bsz).mono ?_)
  rintro r w8 ⟨v8, l, f, b8, e8, rfl, ht8, hg8, hr8, hp8⟩
  obtain ⟨A8, c8, rfl, hc8, hd8, hl8⟩ := own_map ht8.own
  have W8 := Lib.hid (V7.out.next hg8 hr8)
  have hA8 : ∀ ad, A8 = some ad → w.heap.size + 2 ≤ ad.block := fun ad e => by have := (hl8 ad e).1; have := V7.out.laid.size; omega
  have HA8 := Lib.hid hA8
  obtain ⟨x9, b9, e9, h9⟩ : ∃ x b e, numR b8 e8 = (x, b, e) := ⟨_, _, _, rfl⟩
  obtain ⟨ss, hss⟩ : ∃ ss, ss = min x9 256 := ⟨_, rfl⟩
  have c9 := fun W B g (h : Rdr W B g b8 e8) => small_v W B g b8 e8 h
  rw [h9] at c9
  dsimp only at c9
  rw [← hss] at c9
  have C9 := Lib.hid c9
  obtain ⟨er, her⟩ : ∃ er, er = firstOf (f : Int) b9 e9 (fitsB (kk : Int) kk ee ss l.length) := ⟨_, rfl⟩
  obtain ⟨h1, h0, h2, h3, h4, hk, hee, hnn, hmm⟩ := HM.out
  have HE := Lib.hid (toldM_of h1 h0 h2 h3 h4 h9 hk hee hnn hmm hss hp8 her)
  have V8 : Hid (Work7 w (w8.setCell ⟨w.heap.size + 1, 5, none⟩ (.slice A8 l.length c8)) w3.heap.size g b8 e8 kk ee n m (mkS t) A8 l.length c8 0) := (W8.out.set 5 _ rfl)
  have HD8 := Lib.hid (rd_set hd8 (b := w.heap.size + 1) (fun ad e => by have := hA8 ad e; omega) 5 (.slice A8 l.length c8))
  have hz8 := Lib.hid (show (w8.setCell ⟨w.heap.size + 1, 5, none⟩ (.slice A8 l.length c8)).heap.size = w8.heap.size by simp)
  have hA8g : ∀ ad, A8 = some ad → ad.block ≠ g := fun ad e => by have h5 := (hl8 ad e).1; have h6 := V7.out.rdr.lt; have h7 := V7.out.bsz; omega
  have HA8G := Lib.hid hA8g
  have hfit := fun W => fits_v (kk : Int) kk ee n m t A8 l.length c8 (ss : Int) W
  have hfirst := fun W h => first_v (f : Int) W w3.heap.size g b9 e9 (fitsB (kk : Int) kk ee ss l.length) h
  rw [← her] at hfirst
  unfold ansV at hfit
  have HRT := Lib.hid hfit
  have HF := Lib.hid hfirst
  clear q0 q1 q2 q3 q4 q5 q6 qf qz
  obtain ⟨⟨q0, q1, q2, q3, q4, q5, q6⟩, qf, qz⟩ := W8.out.facts
  clear hfit hfirst her h1 h0 h2 h3 h4 hk hnn hmm hee hss h9 c9 hp8 hA8 hA8g hl8 hd8 ht8 hg8 hr8 HOP hL2 hB2 HM C1 C0 C2 C3 C4
  go_wp2_with (go_at_call 62; (with_reducible refine (C9.out _ _ _ V8.out.rdr).mono ?_); rintro r wa ⟨rfl, hra, hga⟩; have Wa := Lib.hid (V8.out.next hga hra); clear q0 q1 q2 q3 q4 q5 q6 qf qz; obtain ⟨⟨q0, q1, q2, q3, q4, q5, q6⟩, qf, qz⟩ := Wa.out.facts; have Va : Hid (Work7 w (wa.setCell ⟨w.heap.size + 1, 6, none⟩ (.int .i64 (ss : Int))) w3.heap.size g b9 e9 kk ee n m (mkS t) A8 l.length c8 ss) := (Wa.out.set 6 _ rfl); have HGA := Lib.hid hga; clear hra hga)
  have HDA := Lib.hid (rd_set (rd_only HD8.out HGA.out (by rw [hz8.out]; exact Nat.le_refl _) HA8G.out) (b := w.heap.size + 1) (fun ad e => by have := HA8.out ad e; omega) 6 (.int .i64 (ss : Int)))
  have hsz8 := Lib.hid (show w8.heap.size ≤ (wa.setCell ⟨w.heap.size + 1, 6, none⟩ (.int .i64 (ss : Int))).heap.size by have := HGA.out.size; rw [hz8.out] at this; simpa using this)
  by_cases he0 : er = 0
  · subst he0
    go_wp2_with (first
      | (go_at_call 22; (with_reducible refine (HRT.out _).mono ?_); rintro r w9 ⟨rfl, hb9⟩; have W9 := Lib.hid (Va.out.keep hb9); clear q0 q1 q2 q3 q4 q5 q6 qf qz; obtain ⟨⟨q0, q1, q2, q3, q4, q5, q6⟩, qf, qz⟩ := W9.out.facts; obtain ⟨⟨p0, p1, p2, p3, p4, p5, p6⟩, pf⟩ := W9.out.facts0; have HB9 := Lib.hid hb9; clear hb9)
      | (go_at_call 66; (with_reducible refine (HF.out _ W9.out.rdr).mono ?_); rintro r w' ⟨rfl, rfl⟩))
    refine bodyPost_ret (v := .tuple #[.agg #[.int .i64 (kk : Int), .int .i64 (ee : Int), .int .i64 n, .int .i64 m, .string (mkS t), .slice A8 l.length c8, .int .i64 (ss : Int)], .int .i64 0]) (by simp [results, Try.results49, go_sem, p0, p1, p2, p3, p4, p5, p6]) rfl
      ⟨kk, ee, n, m, t, l, ss, A8, c8, 0, rfl, HE.out.2 trivial, ?_, hc8, ?_, fun ad e => Nat.le_trans (by omega) (HA8.out ad e)⟩
    · have h9 : Rd w9 w9.heap.size A8 l.length (l.map sv) := (HDA.out.below (HB9.out.mono hsz8.out)).more (by have := HB9.out.size; have := hsz8.out; omega)
      have hne : ∀ ad, A8 = some ad → ad.block ≠ w.heap.size := fun ad e => by have := HA8.out ad e; omega
      have := rd_set (rd_set (rd_set (rd_set (rd_set (rd_set (rd_set h9 hne 0 (.int .i64 (kk : Int))) hne 1 (.int .i64 (ee : Int))) hne 2 (.int .i64 n)) hne 3 (.int .i64 m)) hne 4 (.string (mkS t))) hne 5 (.slice A8 l.length c8)) hne 6 (.int .i64 (ss : Int))
      exact this.more (by simp)
    · exact ((((((W9.out.laid.bel.setCell (by simp) _).setCell (by simp) _).setCell (by simp) _).setCell (by simp) _).setCell (by simp) _).setCell (by simp) _).setCell (by simp) _
  · have hne : (er != 0) = true := by simpa using he0
    obtain ⟨hA, her0⟩ := HE.out.1 he0
    obtain ⟨eN, rfl⟩ : ∃ eN : Nat, er = (eN : Int) := ⟨er.toNat, by omega⟩
    have HAE := Lib.hid hA
    clear HE he0 hA her0
    go_wp2_with (first
      | (go_at_call 22; (with_reducible refine (HRT.out _).mono ?_); rintro r w9 ⟨rfl, hb9⟩; have W9 := Lib.hid (Va.out.keep hb9); clear q0 q1 q2 q3 q4 q5 q6 qf qz; obtain ⟨⟨q0, q1, q2, q3, q4, q5, q6⟩, qf, qz⟩ := W9.out.facts; obtain ⟨⟨p0, p1, p2, p3, p4, p5, p6⟩, pf⟩ := W9.out.facts0; have HB9 := Lib.hid hb9; clear hb9)
      | (go_at_call 66; (with_reducible refine (HF.out _ W9.out.rdr).mono ?_); rintro r w' ⟨rfl, rfl⟩))
    refine bodyPost_ret (v := .tuple #[.agg Z7, .int .i64 (eN : Int)]) (by simp [results, Try.results49, go_sem, p0, p1, p2, p3, p4, p5, p6]) rfl
      ⟨0, 0, 0, 0, [], [], 0, none, 0, eN, rfl, by rw [HAE.out]; rfl, Rd.nil_, Nat.le_refl _, ?_, fun ad e => by cases e⟩
    exact ((((((W9.out.laid.bel.setCell (by simp) _).setCell (by simp) _).setCell (by simp) _).setCell (by simp) _).setCell (by simp) _).setCell (by simp) _).setCell (by simp) _
end Go.Proofs.Ytemokpnepnmmkaa
