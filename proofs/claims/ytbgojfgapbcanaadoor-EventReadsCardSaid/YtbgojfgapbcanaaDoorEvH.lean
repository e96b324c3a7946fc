/- event's rowOf: so many texts, one behind the other. -/
import Derived.Test.YtbgojfgapbcanaaDoorEvG
import Derived.Test.YtbgojfgapbcanaaDoorEvS
namespace Go.Proofs.YtbgojfgapbcanaaDoor
open Go.RowKit
theorem info_str : (Tryd.prog.info? 9).map (fun i => (i.zero, i.size, i.bytes)) = some (some (.string ⟨#[]⟩), 1, 16) := by kernel_rfl
theorem num_zero_of {bs : List UInt8} {e : Nat} (h : (numR bs e).2.2 ≠ 0) : (numR bs e).1 = 0 := by
  by_cases he : e = 0
  · subst he
    simp only [numR, ne_eq, not_true_eq_false, if_false] at h ⊢
    rcases takeM_cases bs with h5 | h5 <;> omega
  · rw [num_err bs he]
/-- What the call owns lies in another block than one that was there. -/
theorem own_grown {w w' : World} {base size n g : Nat} {e : TypeId} {v : Value} {xs : List Value} (h : w.ownsRow base e size v n xs) (hg : w.grownBy w' (some g)) (hb : g < base) : w'.ownsRow base e size v n xs :=
  h.kept (row := some g) hg (.inr fun hk => by have := (h.lt _ hk).1; omega)
/-- A row of texts of the call's own. -/
structure Texts (w w' : World) (v : Value) (l : List (List UInt8)) : Prop where
  own : w'.ownsRow w.heap.size 9 1 v (l.map sv).length (l.map sv)
theorem grown_below {a b c : World} {g n : Nat} (h : a.grownBy b (some g)) (k : Below n b c) (hn : a.heap.size ≤ n) : a.grownBy c (some g) :=
  ⟨k.os.trans h.os, k.tape.trans h.tape, k.output.trans h.output, Nat.le_trans h.size k.size, fun i hi hne => (k.block i (Nat.lt_of_lt_of_le hi hn)).trans (h.block i hi hne)⟩
theorem rowR_stop {b : List UInt8} {e : Nat} {b' : List UInt8} {e' : Nat} (he : e' ≠ 0) : ∀ (d k : Nat), (rowR k b e).2 = (b', e') → (rowR (k + d) b e).2 = (b', e')
  | 0, _, h => h
  | d + 1, k, h => by
    have ih := rowR_stop he d k h
    have h1 : (rowR (k + d) b e).2.1 = b' := by rw [ih]
    have h2 : (rowR (k + d) b e).2.2 = e' := by rw [ih]
    rw [← Nat.add_assoc, rowR_snoc]
    dsimp only
    rw [h1, h2, text_err b' he]
theorem sv_one (t : List UInt8) : (sv t).oneCell' = true := rfl
set_option maxRecDepth 100000 in
set_option maxHeartbeats 400000 in
theorem rowOf_v (w : World) (B g : Nat) (bs : List UInt8) (e : Nat) (h : Rdr w B g bs e) (hB : B ≤ w.heap.size) :
    Calls Tryd.prog 43 #[.pointer (some ⟨g, 0, none⟩), .func (.func 42) #[.pointer (some ⟨g, 0, none⟩)] #[]] w fun r w' =>
      ∃ (v : Value) (l : List (List UInt8)) (f : Nat) (b' : List UInt8) (e' : Nat), r = .returned (.tuple #[v, .int .i64 (f : Int)]) ∧ Texts w w' v l ∧ w.grownBy w' (some g) ∧ Rdr w' B g b' e' ∧
        (4096 < (numR bs e).1 ∧ f = 11 ∨ (numR bs e).1 ≤ 4096 ∧ f = e' ∧ (rowR (numR bs e).1 (numR bs e).2.1 (numR bs e).2.2).2 = (b', e') ∧ (e' = 0 → rowR (numR bs e).1 (numR bs e).2.1 (numR bs e).2.2 = (l, b', 0))) := by
  obtain ⟨i0, hi, hz0, hz1, hz2⟩ := info_parts info_str
  obtain ⟨N, b0, e0, hN⟩ : ∃ N b0 e0, numR bs e = (N, b0, e0) := ⟨_, _, _, rfl⟩
  have hn := num_v w B g bs e h
  have hg0 := h.lt
  have hz := num_zero_of (bs := bs) (e := e)
  have hNl := numR_lt bs e
  rw [hN] at hn hz hNl ⊢
  clear h hN
  dsimp only at hn hz hNl ⊢
  have HN := Lib.hid hn
  have HZ := Lib.hid hz
  clear hn hz
  by_cases hbig : 4096 < N
  · go_enter Tryd.func43, Tryd.ntmps43
    go_wp2_with (go_at_call 49; refine HN.out.mono ?_; rintro r w1 ⟨rfl, hr1, hg1⟩)
    go_ret2
    exact ⟨_, [], 11, b0, e0, rfl, ⟨World.ownsRow_nil _ _ _ _⟩, hg1, hr1, .inl ⟨hbig, rfl⟩⟩
  · have hN4 : N ≤ 4096 := by omega
    have hcond : ∀ k : Nat, k ≤ N → IntKind.u64.wrap ((k : Int) + 1) = (k : Int) + 1 := fun k hk => by rw [IntKind.wrap_u64]; omega
    have HW := Lib.hid hcond
    clear hcond
    go_enter Tryd.func43, Tryd.ntmps43
    go_wp2_with (go_at_call 49; refine HN.out.mono ?_; rintro r w1 ⟨rfl, hr1, hg1⟩)
    have HR1 := Lib.hid hr1
    have HG1 := Lib.hid hg1
    clear hr1 hg1
    go_loopw [7, 14] (fun v c wr => ∃ (k : Nat) (l : List (List UInt8)) (b' : List UInt8) (e' : Nat), k ≤ N ∧ c = .int .u64 (k : Int) ∧ l.length = k ∧ wr.ownsRow w.heap.size 9 1 v (l.map sv).length (l.map sv) ∧ w.grownBy wr (some g) ∧ Rdr wr B g b' e' ∧ rowR k b0 e0 = (l, b', e') ∧ (0 < N → e' = 0)) (fun _ c _ => N - (intOf c).toNat)
    case atStart => exact ⟨0, [], b0, e0, by omega, rfl, rfl, World.ownsRow_nil _ _ _ _, HG1.out, HR1.out, rfl, fun hp => by
      by_cases h0 : e0 = 0
      · exact h0
      · have := HZ.out h0; omega⟩
    case round =>
      obtain ⟨k, l, b', e', hk, rfl, hlk, hown, hgr, hrd, hrow, he0⟩ := hrel
      have HO := Lib.hid hown
      have HGR := Lib.hid hgr
      have HRD := Lib.hid hrd
      have HROW := Lib.hid hrow
      have HLK := Lib.hid hlk
      have hsz := hgr.size
      have HEC := Lib.hid hrd.errCell
      clear hown hgr hrd hrow hlk
      by_cases hlt : k < N
      · have h0 := he0 (by omega)
        subst h0
        clear he0
        obtain ⟨t, b2, e2, ht⟩ : ∃ t b2 e2, textR b' 0 = (t, b2, e2) := ⟨_, _, _, rfl⟩
        have htx := text_v wr B g b' 0 HRD.out
        rw [ht] at htx
        have HTX := Lib.hid htx
        have HT := Lib.hid ht
        clear htx ht
        have hstep : rowR (k + 1) b0 e0 = (l ++ [t], b2, e2) := by
          rw [rowR_snoc, HROW.out]
          dsimp only
          rw [HT.out]
        have HS := Lib.hid hstep
        clear hstep
        by_cases h2 : e2 = 0
        · subst h2
          have hwk := HW.out k (by omega)
          go_wp2_with (first
            | (go_at_call 42; refine HTX.out.mono ?_; rintro r w2 ⟨rfl, hr2, hg2⟩; have HR2 := Lib.hid hr2; have HG2 := Lib.hid hg2; have HO2 := Lib.hid (own_grown HO.out hg2 (by omega)); have HE2 := Lib.hid hr2.errCell; have hsz2 := hg2.size; clear hr2 hg2)
            | (go_at_call 51; refine (err_v _ _ _ HE2.out).mono ?_; rintro r w' ⟨rfl, rfl⟩)
            | (at_builtin; refine wpList_app1 w2 (sv t) rfl (.tmp 21) (.tmp 23) _ rfl w.heap.size 9 i0 (.string ⟨#[]⟩) 16 Tryd.underlying22 hi hz0 hz1 hz2 rfl (sv_one t) u7 _ rfl HO2.out rfl ?hby ?hle ?hba ?_; (case hby => have := HLK.out; simp only [List.length_map]; omega); (case hle => have := HLK.out; simp only [List.length_map]; omega); (case hba => omega); intro v3 w3 hg3))
          go_roundw
          case rel =>
            have hb3 := hg3.below HO2.out (by omega)
            refine ⟨k + 1, l ++ [t], b2, 0, by omega, by go_num, by rw [List.length_append, HLK.out]; rfl, ?_, ?_, HR2.out.below (hb3.mono hB), HS.out, fun _ => rfl⟩
            · have := hg3.own; rw [List.map_append]; exact this
            · exact grown_below (only_trans HGR.out HG2.out) hb3 (Nat.le_refl _)
          case measure => simp [intOf]; omega
        · have hne : ((e2 : Int) != 0) = true := by simp; omega
          have H2 := Lib.hid h2
          clear h2
          go_wp2_with (first
            | (go_at_call 42; refine HTX.out.mono ?_; rintro r w2 ⟨rfl, hr2, hg2⟩; have HR2 := Lib.hid hr2; have HG2 := Lib.hid hg2; have HO2 := Lib.hid (own_grown HO.out hg2 (by omega)); have HE2 := Lib.hid hr2.errCell; have hsz2 := hg2.size; clear hr2 hg2)
            | (go_at_call 51; refine (err_v _ _ _ HE2.out).mono ?_; rintro r w' ⟨rfl, rfl⟩))
          go_ret2
          refine ⟨_, l, e2, b2, e2, rfl, ⟨HO2.out⟩, only_trans HGR.out HG2.out, HR2.out, .inr ⟨hN4, rfl, ?_, fun h => absurd h H2.out⟩⟩
          have h5 := rowR_stop (b := b0) (e := e0) (b' := b2) (e' := e2) H2.out (N - (k + 1)) (k + 1) (by rw [HS.out])
          rwa [show k + 1 + (N - (k + 1)) = N by omega] at h5
      · have hkN : k = N := by omega
        subst hkN
        clear hk he0
        go_wp2_with (go_at_call 51; refine (err_v _ _ _ HEC.out).mono ?_; rintro r w' ⟨rfl, rfl⟩)
        go_ret2
        exact ⟨_, l, e', b', e', rfl, ⟨HO.out⟩, HGR.out, HRD.out, .inr ⟨hN4, rfl, by rw [HROW.out], fun h => by rw [HROW.out, h]⟩⟩
end Go.Proofs.YtbgojfgapbcanaaDoor
