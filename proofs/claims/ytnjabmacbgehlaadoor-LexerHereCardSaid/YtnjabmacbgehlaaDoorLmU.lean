/- The lexer's reader: a line's end, and the here-documents behind it. No premises. -/
import Derived.Test.YtnjabmacbgehlaaDoorLmT
namespace Go.Proofs.YtnjabmacbgehlaaDoor
open Go.RowKit Go.Maps
open Lx (nl Tok lay bodies doc bare)
/-- How a line's end ends. -/
def LineR (B g : Nat) (S : L) (σ : St) (W : World) (b : Nat) (x : Option (List Tok × L)) (e : Ending) (W' : World) : Prop :=
  match x with
  | some (o, r) => e = .returned (.tuple #[]) ∧ Mem W' B g S { σ with b := b, l := r, ts := o, hs := [] } ∧ Below B W W'
  | none => e = .panicked (flt 20 b) ∧ Below B W W'
theorem bodies_at {hs : List Nat} {j k : Nat} (hj : hs[j]? = some k) (out : List Tok) (l : L) (t : Tok) (ht : out[k]? = some t) : bodies (hs.drop j) out l = (match doc (bare t.text) l with | none => none | some (b, r) => bodies (hs.drop (j + 1)) (lay k b out) r) := by
  obtain ⟨hlt, e⟩ := List.getElem?_eq_some_iff.1 hj
  rw [List.drop_eq_getElem_cons hlt, bodies, e, ht]
  rfl
theorem MemX.tokRead {W : World} {B g p n ms mp : Nat} {S : L} {σ : St} {vt vh vx : Value} (h : MemX W B g S σ p n vt vh vx ms mp) {k : Nat} (hk : k < σ.ts.length) : ∃ ad ct t, vt = .slice (some ad) σ.ts.length ct ∧ σ.ts.length ≤ ct ∧ σ.ts[k]? = some t ∧ t ∈ σ.ts ∧ TokAt W (nl S) (ad.add (k * 4)) t := by
  obtain ⟨ad, ct, h1, h2, _, _, h3⟩ := tok_at h.tok hk
  exact ⟨ad, ct, σ.ts[k], h1, h2, List.getElem?_eq_getElem hk, List.getElem_mem _, h3 k hk⟩
theorem MemX.hereRead {W : World} {B g p n ms mp m c : Nat} {S : L} {σ : St} {vt vx : Value} {A : Option Addr} (h : MemX W B g S σ p n vt (.slice A m c) vx ms mp) {j : Nat} (hj : j < σ.hs.length) : ∃ (adh : Addr) (k : Nat), A = some adh ∧ W.cell? (adh.add j) = some (.int .i64 (k : Int)) ∧ σ.hs[j]? = some k ∧ k ∈ σ.hs := by
  obtain ⟨A9, c9, e9, _, hrd, _⟩ := own_map h.her
  injection e9 with e9 _ _
  obtain ⟨adh, hlj, hadh, _, hcell⟩ := hrd.at_map hj
  exact ⟨adh, σ.hs[j], by rw [e9, hadh], hcell, List.getElem?_eq_getElem hj, List.getElem_mem _⟩
set_option maxHeartbeats 1600000 in
set_option maxRecDepth 100000 in
theorem newline_v (B g : Nat) (S : L) (σ : St) (r : L) (hl : σ.l = 10 :: r) (b : Nat) (hb : b + nl σ.l = 1 + nl S) (hts : σ.ts.length ≤ 4999) (hhs : ∀ k ∈ σ.hs, k < σ.ts.length) (htx : ∀ t ∈ σ.ts, t.text.length ≤ 5000) (hhl : σ.hs.length ≤ 5000) (W : World) (h : Mem W B g S σ) : Calls Tryd.prog 29 #[.pointer (some ⟨g, 0, none⟩)] W (LineR B g S σ W b (bodies σ.hs (σ.ts ++ [⟨3, [], [], nl σ.l⟩]) r)) := by
  have HG := Lib.hid (begin_v B g S σ b hb W h)
  have HP := Lib.hid (fun W hW => pass_v B g S { σ with b := b } 10 r hl W hW)
  have HTE := Lib.hid (fun W hW => tell_v B g S { σ with b := b, l := r } 3 ⟨#[]⟩ ⟨3, [], [], nl σ.l⟩ rfl rfl rfl (by show 1 + nl S - nl σ.l = b; omega) (by show σ.ts.length ≤ 5000; omega) W hW)
  obtain ⟨o0, ho0⟩ : ∃ o0, o0 = σ.ts ++ [⟨3, [], [], nl σ.l⟩] := ⟨_, rfl⟩
  have HO := Lib.hid ho0
  have hol : o0.length = σ.ts.length + 1 := by rw [ho0]; simp
  have htx0 : ∀ t ∈ o0, t.text.length ≤ 5000 := by
    rw [ho0]
    intro t ht
    rcases List.mem_append.1 ht with ht | ht
    · exact htx t ht
    · simp at ht; subst ht; simp
  rw [← ho0]
  have HOL := Lib.hid hol
  have HTX := Lib.hid htx0
  have HHS := Lib.hid hhs
  have HHL := Lib.hid hhl
  have HTS := Lib.hid hts
  clear h hl hb hts hhs htx hhl ho0 hol htx0
  go_enter Tryd.func29, Tryd.ntmps29
  go_wp2_with (first
    | (go_at_call 40; (with_reducible refine HG.out.mono ?_); rintro e w1 ⟨rfl, hm1, hb1⟩; have HM1 := Lib.hid hm1; have HB1 := Lib.hid hb1; clear hm1 hb1)
    | (go_at_call 30; (with_reducible refine (HP.out _ HM1.out).mono ?_); rintro e w2 ⟨rfl, hm2, hb2⟩; have HM2 := Lib.hid hm2; have HB2 := Lib.hid (HB1.out.trans hb2); clear hm2 hb2)
    | (go_at_call 41; (with_reducible refine (HTE.out _ HM2.out).mono ?_); rintro e w3 ⟨rfl, hm3, hb3⟩; obtain ⟨p, n, vt, vh, vx, ms, mp, hx⟩ := hm3; obtain ⟨A, c, rfl, hcc, _⟩ := own_map hx.her; obtain ⟨⟨_, _, _, _, _, c5, _⟩, hz⟩ := hx.facts; have HX := Lib.hid hx; have HB3 := Lib.hid (HB2.out.trans hb3); clear hx hb3 hcc))
  have hmm : σ.hs.length ≤ 5000 := HHL.out
  have HX2 : Hid (MemX w3 B g S { σ with b := b, l := r, ts := o0 } p n vt (.slice A σ.hs.length c) vx ms mp) := by rw [HO.out]; exact HX.out
  clear HX
  go_wp2
  go_loopw [17] (fun i wr => ∃ (j : Nat) (out' : List Tok) (l' : L), j ≤ σ.hs.length ∧ i = .int .i64 (j : Int) ∧ bodies σ.hs o0 r = bodies (σ.hs.drop j) out' l' ∧ out'.length = o0.length ∧ (∀ t ∈ out', t.text.length ≤ 5000) ∧ (∃ p' n', MemX wr B g S { σ with b := b, l := l', ts := out' } p' n' vt (.slice A σ.hs.length c) vx ms mp) ∧ Below B W wr) (fun i _ => σ.hs.length - (intOf i).toNat)
  case atStart => exact ⟨0, o0, r, by omega, rfl, by simp, rfl, HTX.out, ⟨p, n, HX2.out⟩, HB3.out⟩
  case round =>
    obtain ⟨j, out', l', hj, rfl, hbd, hol', htx', ⟨p1, n1, hm⟩, hb⟩ := hrel
    obtain ⟨⟨_, _, _, _, d4, d5, _⟩, dz⟩ := hm.facts
    have HBD := Lib.hid hbd
    have HOL' := Lib.hid hol'
    have HTX' := Lib.hid htx'
    have HM := Lib.hid hm
    have HB := Lib.hid hb
    clear hbd htx' hm hb
    by_cases hjn : j < σ.hs.length
    · obtain ⟨adh, k, rfl, hcell, hsk, hkm⟩ := HM.out.hereRead hjn
      have hkl : k < out'.length := by rw [hol', HOL.out]; have := HHS.out k hkm; omega
      obtain ⟨ad, ct, t, hvt, hct, htt, htm, htok⟩ := HM.out.tokRead hkl
      obtain ⟨_, t1, _, _⟩ := htok
      have htl : t.text.length ≤ 5000 := HTX'.out t htm
      have HBA := Lib.hid (bodies_at hsk out' l' t htt)
      have HBR := Lib.hid (bare_v t.text htl wr)
      have hk0 : (0 : Int) ≤ (k : Int) := by omega
      have hj0 : (0 : Int) ≤ (j : Int) := by omega
      have hj1 : (j : Int) < (σ.hs.length : Int) := by omega
      have HKL := Lib.hid hkl
      obtain ⟨m9, hm9⟩ : ∃ m9, m9 = out'.length := ⟨_, rfl⟩
      have hvt9 : vt = .slice (some ad) m9 ct := by rw [hvt, hm9]
      have hk1 : (k : Int) < (m9 : Int) := by omega
      have hm95 : m9 ≤ 5000 := by rw [hm9, hol', HOL.out]; have := HTS.out; omega
      subst hvt9
      obtain ⟨q, hq⟩ : ∃ q, q = bare t.text := ⟨_, rfl⟩
      rw [← hq] at HBR HBA
      clear hsk hkm hkl hvt hct htt htm htl hq hm9
      cases hdc : doc q l' with
      | none =>
        have HDC := Lib.hid hdc
        clear hdc
        go_wp2_with (first
          | (go_at_call 10; (with_reducible refine HBR.out.mono ?_); rintro e w2 ⟨rfl, hl2⟩; have HL2 := Lib.hid hl2; have hm2 := HM.out.kept hl2; obtain ⟨⟨_, _, _, _, d42, _⟩, dz2⟩ := hm2.facts; have HM2 := Lib.hid hm2; have HBB := Lib.hid (HB.out.trans (hl2.mono HM.out.mem.base)); clear hm2 hl2))
        have HBO := Lib.hid (show ∀ w, Later w2 w → Calls Tryd.prog 45 #[.pointer (some ⟨g, 0, none⟩), .string (mkS q)] w fun e w' => e = .panicked (flt 20 b) ∧ w.grownBy w' (some g) from fun w hw => by
          have h := body_x B g S { σ with b := b, l := l', ts := out' } q w p1 n1 _ _ vx ms mp (HM2.out.kept hw)
          rw [show ({ σ with b := b, l := l', ts := out' } : St).l = l' from rfl, HDC.out] at h
          exact h)
        have HBW := Lib.hid (show ∀ w w', Later w2 w → w.grownBy w' (some g) → Below B W w' from fun w w' hw hg => HBB.out.trans ((hw.mono HM2.out.mem.base).trans (only_below hg HM2.out.low (Nat.le_trans HM2.out.mem.base hw.size))))
        have HC4 := Lib.hid (show ∀ w, (Later w2 w ∨ (∃ _ : Value, False) ∨ False) → w.cell? ⟨g, 4, none⟩ = some (.slice (some ad) m9 ct) from fun w hw => by
          rcases hw with hw | ⟨_, hw⟩ | hw
          · exact (cell_row ((hw.block g HM2.out.lt).trans HM2.out.box) 4).1
          · exact hw.elim
          · exact hw.elim)
        refine wp_region_two (by kernel_rfl) 7 10 (Later w2) (fun _ _ => False) (fun _ => False) (fun _ _ => True) [Sp.val (.pointer (some ⟨g, 0, none⟩)), Sp.val (.pointer (some ⟨g, 0, none⟩)), Sp.val (.pointer (some ⟨g, 4, none⟩)), Sp.val (.slice (some ad) m9 ct), Sp.val (.int .i64 (k : Int)), Sp.val (.pointer (some ⟨g, 0, none⟩)), Sp.val (.string (mkS q)), Sp.any, Sp.val (.pointer (some (ad.add (k * 4)))), Sp.val (.pointer (some ⟨(ad.add (k * 4)).block, (ad.add (k * 4)).off + 2, none⟩)), Sp.any] (by decide) (by decide) (by decide) (by kernel_rfl) (by kernel_rfl) (by kernel_rfl) (Later.drew w2) (fun _ _ h hl => Later.trans h hl) (fun _ _ _ h _ => h.elim) (fun _ _ h _ => h.elim) (fun _ _ _ => trivial) ?_ ?_
        · refine ⟨?_, ?_, ?_, ?_, ?_, ?_, ?_, ?_, ?_, ?_, ?_, trivial⟩
          · -- 0: slot 33 := Op.move t0
            unfold OwesT
            rw [if_neg (by decide), if_neg (by decide)]
            refine fun a w hD hC hs => ⟨?_, ?_⟩
            · rfl
            have e0 : a.tmps.getD 0 undef = .pointer (some ⟨g, 0, none⟩) := hs.free 0 rfl
            exact ⟨e0, hC, Later.refl _⟩
          · -- 1: slot 34 := Op.nilCheck t33
            unfold OwesT
            rw [if_neg (by decide), if_neg (by decide)]
            refine fun a w hD hC hs => ⟨?_, ?_⟩
            · rfl
            have e33 : a.tmps.getD 33 undef = .pointer (some ⟨g, 0, none⟩) := hs.dep 0 _ rfl rfl
            refine ValWp.pure (v := .pointer (some ⟨g, 0, none⟩)) (fun K' hK' => ?_) ⟨rfl, hC, Later.refl _⟩
            simp only [ValWp, execOp, Act.eval, e33]
            go_simp
            all_goals exact hK'
          · -- 2: slot 35 := Op.fieldAddr 51 t34 4
            unfold OwesT
            rw [if_neg (by decide), if_neg (by decide)]
            refine fun a w hD hC hs => ⟨?_, ?_⟩
            · rfl
            have e34 : a.tmps.getD 34 undef = .pointer (some ⟨g, 0, none⟩) := hs.dep 1 _ rfl rfl
            refine ValWp.pure (v := .pointer (some ⟨g, 4, none⟩)) (fun K' hK' => ?_) ⟨rfl, hC, Later.refl _⟩
            simp only [ValWp, execOp, Act.eval, e34]
            go_simp
            all_goals exact hK'
          · -- 3: slot 36 := Op.load 28 t35
            unfold OwesT
            rw [if_neg (by decide), if_neg (by decide)]
            refine fun a w hD hC hs => ⟨?_, ?_⟩
            · rfl
            have e35 : a.tmps.getD 35 undef = .pointer (some ⟨g, 4, none⟩) := hs.dep 2 _ rfl rfl
            have q4 := HC4.out w hC
            refine ValWp.pure (v := .slice (some ad) m9 ct) (fun K' hK' => ?_) ⟨rfl, hC, Later.refl _⟩
            simp only [ValWp, execOp, Act.eval, e35]
            go_simp
            all_goals exact hK'
          · -- 4: slot 37 := Op.move t3
            unfold OwesT
            rw [if_neg (by decide), if_neg (by decide)]
            refine fun a w hD hC hs => ⟨?_, ?_⟩
            · rfl
            have e3 : a.tmps.getD 3 undef = .int .i64 (k : Int) := hs.free 3 rfl
            exact ⟨e3, hC, Later.refl _⟩
          · -- 5: slot 38 := Op.move t0
            unfold OwesT
            rw [if_neg (by decide), if_neg (by decide)]
            refine fun a w hD hC hs => ⟨?_, ?_⟩
            · rfl
            have e0 : a.tmps.getD 0 undef = .pointer (some ⟨g, 0, none⟩) := hs.free 0 rfl
            exact ⟨e0, hC, Later.refl _⟩
          · -- 6: slot 39 := Op.move t4
            unfold OwesT
            rw [if_neg (by decide), if_neg (by decide)]
            refine fun a w hD hC hs => ⟨?_, ?_⟩
            · rfl
            have e4 : a.tmps.getD 4 undef = .string (mkS q) := hs.free 4 rfl
            exact ⟨e4, hC, Later.refl _⟩
          · -- 7: slot 40 := Op.call { value (Operand.func 45), args := #[t38, t39], argTypes := #[45, 9] }
            unfold OwesT
            rw [if_pos rfl]
            refine fun a w hC hs => ⟨?_, ?_⟩
            · rfl
            have e38 : a.tmps.getD 38 undef = .pointer (some ⟨g, 0, none⟩) := hs.dep 5 _ rfl rfl
            have e39 : a.tmps.getD 39 undef = .string (mkS q) := hs.dep 6 _ rfl rfl
            intro K hK
            refine wp_call_panics #[.pointer (some ⟨g, 0, none⟩), .string (mkS q)] rfl Tryd.func45 rfl rfl (by simp only [List.map_toArray, List.map_cons, List.map_nil, Act.eval, e38, e39]) (HBO.out w hC) ?_
            intro w' hg9
            refine bodyPost_panic (P := Tryd.prog) (fn := Tryd.f29) hs.defers ?_
            rw [HBD.out, HBA.out, HDC.out]
            exact ⟨rfl, HBW.out w w' hC hg9⟩
          · -- 8: slot 41 := Op.indexAddr 28 t36 t37
            unfold OwesT
            rw [if_neg (by decide), if_neg (by decide)]
            refine fun a w hD hC hs => ⟨?_, ?_⟩
            · rfl
            have e36 : a.tmps.getD 36 undef = .slice (some ad) m9 ct := hs.dep 3 _ rfl rfl
            have e37 : a.tmps.getD 37 undef = .int .i64 (k : Int) := hs.dep 4 _ rfl rfl
            refine ValWp.pure (v := .pointer (some (ad.add (k * 4)))) (fun K' hK' => ?_) ⟨rfl, hC, Later.refl _⟩
            simp only [ValWp, execOp, Act.eval, e36, e37]
            go_simp
            all_goals exact hK'
          · -- 9: slot 42 := Op.fieldAddr 33 t41 2
            unfold OwesT
            rw [if_neg (by decide), if_neg (by decide)]
            refine fun a w hD hC hs => ⟨?_, ?_⟩
            · rfl
            have e41 : a.tmps.getD 41 undef = .pointer (some (ad.add (k * 4))) := hs.dep 8 _ rfl rfl
            refine ValWp.pure (v := .pointer (some ⟨(ad.add (k * 4)).block, (ad.add (k * 4)).off + 2, none⟩)) (fun K' hK' => ?_) ⟨rfl, hC, Later.refl _⟩
            simp only [ValWp, execOp, Act.eval, e41]
            go_simp
            all_goals exact hK'
          · -- 10: slot None := Op.store 9 t42 t40
            unfold OwesT
            rw [if_neg (by decide), if_pos rfl]
            refine fun a w u hC hu hs => ⟨?_, ?_⟩
            · rfl
            have e42 : a.tmps.getD 42 undef = .pointer (some ⟨(ad.add (k * 4)).block, (ad.add (k * 4)).off + 2, none⟩) := hs.dep 9 _ rfl rfl
            have e40 : a.tmps.getD 40 undef = u := hu
            exact hC.elim
        · intro a W9 hC
          exact hC.elim
      | some x =>
        obtain ⟨b9, r9⟩ := x
        have HDC := Lib.hid hdc
        clear hdc
        go_wp2_with (first
          | (go_at_call 10; (with_reducible refine HBR.out.mono ?_); rintro e w2 ⟨rfl, hl2⟩; have HL2 := Lib.hid hl2; have hm2 := HM.out.kept hl2; obtain ⟨⟨_, _, _, _, d42, _⟩, dz2⟩ := hm2.facts; have HM2 := Lib.hid hm2; have HBB := Lib.hid (HB.out.trans (hl2.mono HM.out.mem.base)); clear hm2 hl2))
        have HBO := Lib.hid (show ∀ w, Later w2 w → Calls Tryd.prog 45 #[.pointer (some ⟨g, 0, none⟩), .string (mkS q)] w fun e w' => e = .returned (.string (mkS b9)) ∧ (∃ p' n', MemX w' B g S { σ with b := b, l := r9, ts := out' } p' n' (.slice (some ad) m9 ct) (.slice (some adh) σ.hs.length c) vx ms mp) ∧ w.grownBy w' (some g) from fun w hw => by
          have h := body_x B g S { σ with b := b, l := l', ts := out' } q w p1 n1 _ _ vx ms mp (HM2.out.kept hw)
          rw [show ({ σ with b := b, l := l', ts := out' } : St).l = l' from rfl, HDC.out] at h
          exact h)
        obtain ⟨C1, C2, hby⟩ := bodied HM2.out HKL.out rfl b9 r9
        have HBY := Lib.hid hby
        have HC4 := Lib.hid hby.c4
        clear hby
        refine wp_region_two (by kernel_rfl) 7 10 (Later w2) (C1) (C2) (fun _ _ => True) [Sp.val (.pointer (some ⟨g, 0, none⟩)), Sp.val (.pointer (some ⟨g, 0, none⟩)), Sp.val (.pointer (some ⟨g, 4, none⟩)), Sp.val (.slice (some ad) m9 ct), Sp.val (.int .i64 (k : Int)), Sp.val (.pointer (some ⟨g, 0, none⟩)), Sp.val (.string (mkS q)), Sp.any, Sp.val (.pointer (some (ad.add (k * 4)))), Sp.val (.pointer (some ⟨(ad.add (k * 4)).block, (ad.add (k * 4)).off + 2, none⟩)), Sp.any] (by decide) (by decide) (by decide) (by kernel_rfl) (by kernel_rfl) (by kernel_rfl) (Later.drew w2) (fun _ _ h hl => Later.trans h hl) (HBY.out.l1) (HBY.out.l2) (fun _ _ _ => trivial) ?_ ?_
        · refine ⟨?_, ?_, ?_, ?_, ?_, ?_, ?_, ?_, ?_, ?_, ?_, trivial⟩
          · -- 0: slot 33 := Op.move t0
            unfold OwesT
            rw [if_neg (by decide), if_neg (by decide)]
            refine fun a w hD hC hs => ⟨?_, ?_⟩
            · rfl
            have e0 : a.tmps.getD 0 undef = .pointer (some ⟨g, 0, none⟩) := hs.free 0 rfl
            exact ⟨e0, hC, Later.refl _⟩
          · -- 1: slot 34 := Op.nilCheck t33
            unfold OwesT
            rw [if_neg (by decide), if_neg (by decide)]
            refine fun a w hD hC hs => ⟨?_, ?_⟩
            · rfl
            have e33 : a.tmps.getD 33 undef = .pointer (some ⟨g, 0, none⟩) := hs.dep 0 _ rfl rfl
            refine ValWp.pure (v := .pointer (some ⟨g, 0, none⟩)) (fun K' hK' => ?_) ⟨rfl, hC, Later.refl _⟩
            simp only [ValWp, execOp, Act.eval, e33]
            go_simp
            all_goals exact hK'
          · -- 2: slot 35 := Op.fieldAddr 51 t34 4
            unfold OwesT
            rw [if_neg (by decide), if_neg (by decide)]
            refine fun a w hD hC hs => ⟨?_, ?_⟩
            · rfl
            have e34 : a.tmps.getD 34 undef = .pointer (some ⟨g, 0, none⟩) := hs.dep 1 _ rfl rfl
            refine ValWp.pure (v := .pointer (some ⟨g, 4, none⟩)) (fun K' hK' => ?_) ⟨rfl, hC, Later.refl _⟩
            simp only [ValWp, execOp, Act.eval, e34]
            go_simp
            all_goals exact hK'
          · -- 3: slot 36 := Op.load 28 t35
            unfold OwesT
            rw [if_neg (by decide), if_neg (by decide)]
            refine fun a w hD hC hs => ⟨?_, ?_⟩
            · rfl
            have e35 : a.tmps.getD 35 undef = .pointer (some ⟨g, 4, none⟩) := hs.dep 2 _ rfl rfl
            have q4 := HC4.out w hC
            refine ValWp.pure (v := .slice (some ad) m9 ct) (fun K' hK' => ?_) ⟨rfl, hC, Later.refl _⟩
            simp only [ValWp, execOp, Act.eval, e35]
            go_simp
            all_goals exact hK'
          · -- 4: slot 37 := Op.move t3
            unfold OwesT
            rw [if_neg (by decide), if_neg (by decide)]
            refine fun a w hD hC hs => ⟨?_, ?_⟩
            · rfl
            have e3 : a.tmps.getD 3 undef = .int .i64 (k : Int) := hs.free 3 rfl
            exact ⟨e3, hC, Later.refl _⟩
          · -- 5: slot 38 := Op.move t0
            unfold OwesT
            rw [if_neg (by decide), if_neg (by decide)]
            refine fun a w hD hC hs => ⟨?_, ?_⟩
            · rfl
            have e0 : a.tmps.getD 0 undef = .pointer (some ⟨g, 0, none⟩) := hs.free 0 rfl
            exact ⟨e0, hC, Later.refl _⟩
          · -- 6: slot 39 := Op.move t4
            unfold OwesT
            rw [if_neg (by decide), if_neg (by decide)]
            refine fun a w hD hC hs => ⟨?_, ?_⟩
            · rfl
            have e4 : a.tmps.getD 4 undef = .string (mkS q) := hs.free 4 rfl
            exact ⟨e4, hC, Later.refl _⟩
          · -- 7: slot 40 := Op.call { value (Operand.func 45), args := #[t38, t39], argTypes := #[45, 9] }
            unfold OwesT
            rw [if_pos rfl]
            refine fun a w hC hs => ⟨?_, ?_⟩
            · rfl
            have e38 : a.tmps.getD 38 undef = .pointer (some ⟨g, 0, none⟩) := hs.dep 5 _ rfl rfl
            have e39 : a.tmps.getD 39 undef = .string (mkS q) := hs.dep 6 _ rfl rfl
            intro K hK
            refine wp_of_val (ValWp.call #[.pointer (some ⟨g, 0, none⟩), .string (mkS q)] rfl rfl Tryd.func45 rfl rfl (by simp only [List.map_toArray, List.map_cons, List.map_nil, Act.eval, e38, e39]) ?_)
            refine (HBO.out w hC).mono ?_
            rintro r9 w' ⟨rfl, hm9, hg9⟩
            exact ⟨_, rfl, hK _ w' trivial (HBY.out.made w w' hC hm9 hg9) trivial⟩
          · -- 8: slot 41 := Op.indexAddr 28 t36 t37
            unfold OwesT
            rw [if_neg (by decide), if_neg (by decide)]
            refine fun a w hD hC hs => ⟨?_, ?_⟩
            · rfl
            have e36 : a.tmps.getD 36 undef = .slice (some ad) m9 ct := hs.dep 3 _ rfl rfl
            have e37 : a.tmps.getD 37 undef = .int .i64 (k : Int) := hs.dep 4 _ rfl rfl
            refine ValWp.pure (v := .pointer (some (ad.add (k * 4)))) (fun K' hK' => ?_) ⟨rfl, hC, Later.refl _⟩
            simp only [ValWp, execOp, Act.eval, e36, e37]
            go_simp
            all_goals exact hK'
          · -- 9: slot 42 := Op.fieldAddr 33 t41 2
            unfold OwesT
            rw [if_neg (by decide), if_neg (by decide)]
            refine fun a w hD hC hs => ⟨?_, ?_⟩
            · rfl
            have e41 : a.tmps.getD 41 undef = .pointer (some (ad.add (k * 4))) := hs.dep 8 _ rfl rfl
            refine ValWp.pure (v := .pointer (some ⟨(ad.add (k * 4)).block, (ad.add (k * 4)).off + 2, none⟩)) (fun K' hK' => ?_) ⟨rfl, hC, Later.refl _⟩
            simp only [ValWp, execOp, Act.eval, e41]
            go_simp
            all_goals exact hK'
          · -- 10: slot None := Op.store 9 t42 t40
            unfold OwesT
            rw [if_neg (by decide), if_pos rfl]
            refine fun a w u hC hu hs => ⟨?_, ?_⟩
            · rfl
            have e42 : a.tmps.getD 42 undef = .pointer (some ⟨(ad.add (k * 4)).block, (ad.add (k * 4)).off + 2, none⟩) := hs.dep 9 _ rfl rfl
            have e40 : a.tmps.getD 40 undef = u := hu
            obtain ⟨rfl, ⟨v0, q0⟩, qz⟩ := HBY.out.q w u hC
            have q00 : w.cell? ⟨(ad.add (k * 4)).block, (ad.add (k * 4)).off + 2, none⟩ = some v0 := q0
            have qz0 : w.frozen? ⟨(ad.add (k * 4)).block, (ad.add (k * 4)).off + 2, none⟩ = false := qz
            refine ValWp.pure (v := undef) (w' := w.setCell ⟨(ad.add (k * 4)).block, (ad.add (k * 4)).off + 2, none⟩ (.string (mkS b9))) (fun K' hK' => ?_) ⟨trivial, HBY.out.c2 w _ hC, trivial⟩
            simp only [ValWp, execOp, Act.eval, e42, e40]
            go_simp
            all_goals exact hK'
        · intro a W hC hd hsz hfree hs
          obtain ⟨u3, hu3⟩ : ∃ u, u = a.tmps.getD 3 undef := ⟨_, rfl⟩
          obtain ⟨u4, hu4⟩ : ∃ u, u = a.tmps.getD 4 undef := ⟨_, rfl⟩
          obtain ⟨u5, hu5⟩ : ∃ u, u = a.tmps.getD 5 undef := ⟨_, rfl⟩
          obtain ⟨u18, hu18⟩ : ∃ u, u = a.tmps.getD 18 undef := ⟨_, rfl⟩
          obtain ⟨u19, hu19⟩ : ∃ u, u = a.tmps.getD 19 undef := ⟨_, rfl⟩
          obtain ⟨u20, hu20⟩ : ∃ u, u = a.tmps.getD 20 undef := ⟨_, rfl⟩
          obtain ⟨u21, hu21⟩ : ∃ u, u = a.tmps.getD 21 undef := ⟨_, rfl⟩
          obtain ⟨u22, hu22⟩ : ∃ u, u = a.tmps.getD 22 undef := ⟨_, rfl⟩
          obtain ⟨u23, hu23⟩ : ∃ u, u = a.tmps.getD 23 undef := ⟨_, rfl⟩
          obtain ⟨u24, hu24⟩ : ∃ u, u = a.tmps.getD 24 undef := ⟨_, rfl⟩
          obtain ⟨u25, hu25⟩ : ∃ u, u = a.tmps.getD 25 undef := ⟨_, rfl⟩
          obtain ⟨u26, hu26⟩ : ∃ u, u = a.tmps.getD 26 undef := ⟨_, rfl⟩
          obtain ⟨u27, hu27⟩ : ∃ u, u = a.tmps.getD 27 undef := ⟨_, rfl⟩
          obtain ⟨u28, hu28⟩ : ∃ u, u = a.tmps.getD 28 undef := ⟨_, rfl⟩
          obtain ⟨u29, hu29⟩ : ∃ u, u = a.tmps.getD 29 undef := ⟨_, rfl⟩
          obtain ⟨u30, hu30⟩ : ∃ u, u = a.tmps.getD 30 undef := ⟨_, rfl⟩
          obtain ⟨u31, hu31⟩ : ∃ u, u = a.tmps.getD 31 undef := ⟨_, rfl⟩
          obtain ⟨u32, hu32⟩ : ∃ u, u = a.tmps.getD 32 undef := ⟨_, rfl⟩
          obtain ⟨u33, hu33⟩ : ∃ u, u = a.tmps.getD 33 undef := ⟨_, rfl⟩
          obtain ⟨u34, hu34⟩ : ∃ u, u = a.tmps.getD 34 undef := ⟨_, rfl⟩
          obtain ⟨u35, hu35⟩ : ∃ u, u = a.tmps.getD 35 undef := ⟨_, rfl⟩
          obtain ⟨u36, hu36⟩ : ∃ u, u = a.tmps.getD 36 undef := ⟨_, rfl⟩
          obtain ⟨u37, hu37⟩ : ∃ u, u = a.tmps.getD 37 undef := ⟨_, rfl⟩
          obtain ⟨u38, hu38⟩ : ∃ u, u = a.tmps.getD 38 undef := ⟨_, rfl⟩
          obtain ⟨u39, hu39⟩ : ∃ u, u = a.tmps.getD 39 undef := ⟨_, rfl⟩
          obtain ⟨u40, hu40⟩ : ∃ u, u = a.tmps.getD 40 undef := ⟨_, rfl⟩
          obtain ⟨u41, hu41⟩ : ∃ u, u = a.tmps.getD 41 undef := ⟨_, rfl⟩
          obtain ⟨u42, hu42⟩ : ∃ u, u = a.tmps.getD 42 undef := ⟨_, rfl⟩
          obtain ⟨u43, hu43⟩ : ∃ u, u = a.tmps.getD 43 undef := ⟨_, rfl⟩
          have hal : AllAt a 0 [.pointer (some ⟨g, 0, none⟩), undef, undef, u3, u4, u5, .pointer (some ⟨g, 0, none⟩), .tuple #[], .pointer (some ⟨g, 0, none⟩), .tuple #[], .pointer (some ⟨g, 0, none⟩), .tuple #[], .pointer (some ⟨g, 0, none⟩), .pointer (some ⟨g, 0, none⟩), .pointer (some ⟨g, 5, none⟩), .slice (some adh) σ.hs.length c, .int .i64 (σ.hs.length : Int), .int .i64 (j : Int), u18, u19, u20, u21, u22, u23, u24, u25, u26, u27, u28, u29, u30, u31, u32, u33, u34, u35, u36, u37, u38, u39, u40, u41, u42, u43, undef, undef, undef] := ⟨hfree 0 rfl, hfree 1 rfl, hfree 2 rfl, hu3.symm, hu4.symm, hu5.symm, hfree 6 rfl, hfree 7 rfl, hfree 8 rfl, hfree 9 rfl, hfree 10 rfl, hfree 11 rfl, hfree 12 rfl, hfree 13 rfl, hfree 14 rfl, hfree 15 rfl, hfree 16 rfl, hfree 17 rfl, hu18.symm, hu19.symm, hu20.symm, hu21.symm, hu22.symm, hu23.symm, hu24.symm, hu25.symm, hu26.symm, hu27.symm, hu28.symm, hu29.symm, hu30.symm, hu31.symm, hu32.symm, hu33.symm, hu34.symm, hu35.symm, hu36.symm, hu37.symm, hu38.symm, hu39.symm, hu40.symm, hu41.symm, hu42.symm, hu43.symm, hfree 44 rfl, hfree 45 rfl, hfree 46 rfl, trivial⟩
          have hlit := fun h => act_lit hd h hal
          rw [hlit hsz]
          clear hlit hal hd hsz hfree hs hu3 hu4 hu5 hu18 hu19 hu20 hu21 hu22 hu23 hu24 hu25 hu26 hu27 hu28 hu29 hu30 hu31 hu32 hu33 hu34 hu35 hu36 hu37 hu38 hu39 hu40 hu41 hu42 hu43
          obtain ⟨⟨p9, n9, hm9⟩, hb9⟩ := HBY.out.ce _ hC
          have HM9 := Lib.hid hm9
          have HB9 := Lib.hid (HBB.out.trans hb9)
          clear hm9 hb9 hC
          go_wp2
          go_roundw
          case rel =>
            have hlay : (lay k b9 out').length = out'.length := by simp [lay]
            refine ⟨j + 1, lay k b9 out', r9, by omega, by go_num, by rw [HBD.out, HBA.out, HDC.out], by rw [hlay]; exact HOL'.out, ?_, ⟨p9, n9, HM9.out⟩, HB9.out⟩
            intro t ht
            rw [lay] at ht
            obtain ⟨i, hi⟩ := List.mem_iff_getElem?.1 ht
            rw [List.getElem?_modify] at hi
            by_cases hki : k = i
            · subst hki
              rw [Option.map_eq_map, Option.map_eq_some_iff] at hi
              obtain ⟨t', ht', rfl⟩ := hi
              simp only [if_true]
              exact HTX'.out t' (List.mem_of_getElem? ht')
            · rw [Option.map_eq_map, Option.map_eq_some_iff] at hi
              obtain ⟨t', ht', rfl⟩ := hi
              rw [if_neg hki]
              exact HTX'.out t' (List.mem_of_getElem? ht')
          case measure => simp [intOf]; omega
    · obtain hje : j = σ.hs.length := by omega
      have HJE := Lib.hid hje
      clear hje
      go_wp2
      go_end0
      rw [HBD.out, HJE.out, List.drop_length]
      exact ⟨rfl, HM.out.noHeres, HB.out.setCell HM.out.low _⟩
end Go.Proofs.YtnjabmacbgehlaaDoor
