/- The row of parts: a text is put. No premises. -/
import Derived.Test.YtlenocpaalahbaaDoorWu
namespace Go.Proofs.YtlenocpaalahbaaDoor
open Go.RowKit Go.Maps
namespace Ws
section
variable {W W' : World} {X T : Nat → Prop} {g s dp : Nat} {raw : L} {r : Wd.R} {x : Wd.S}
set_option maxHeartbeats 1600000 in
set_option maxRecDepth 100000 in
theorem put_v (h : RMT W X T g s raw dp r x) (k : Nat) (hk : k ≤ 9) (t : L) (hlen : r.ps.length + r.t.length + t.length ≤ 10000000) : Calls Tryd.prog 25 #[.pointer (some ⟨g, 0, none⟩), .int .i64 (k : Int), .string (mkS t)] W (RowR W X T g s raw dp (Wd.put k t r) x) := by
  obtain ⟨i0, hi, hz0, hz1, hz2⟩ := info_parts info_u8
  have HCL := Lib.hid (close_v h (by omega))
  obtain ⟨vp, vt, nd, h⟩ := h
  by_cases hkk : k = r.k
  · have e1 : Wd.put k t r = ⟨r.ps, r.k, r.t ++ t⟩ := by unfold Wd.put; rw [if_pos hkk]
    rw [e1]
    obtain ⟨⟨c0, c1, c2, c3, c4⟩, hz⟩ := h.facts
    rw [← hkk] at c1
    obtain ⟨A1, k1, rfl, hk1⟩ := own_any h.txt
    have H := Lib.hid h
    have HT := Lib.hid (show W.ownsRow 0 5 1 (.slice A1 r.t.length k1) (r.t.map bv).length (r.t.map bv) by rw [List.length_map]; exact h.txt)
    have HLN := Lib.hid hlen
    obtain ⟨kk, hk2⟩ : ∃ kk : Nat, kk = k := ⟨_, rfl⟩
    clear h e1 hkk hk1 hlen
    go_enter Tryd.func25, Tryd.ntmps25
    go_wp2_with (at_builtin; refine wpList_appS _ rfl (.tmp 22) (.tmp 23) 36 9 rfl 0 5 i0 Tryd.underlying36 Tryd.underlying9 hi hz0 hz1 hz2 (.slice A1 r.t.length k1) (r.t.map bv) rfl HT.out (mkS t) rfl (by rw [mkS_size, List.length_map]; have := HLN.out; omega) (Nat.zero_le _) ?_; intro v' w2 hg; rw [mkS_list, ← List.map_append] at hg; obtain ⟨A2, k2, e9, _⟩ := own_any hg.1; subst e9; have hgr := hg.2; have HG := Lib.hid hg; have hq := H.out; have hbx := (hgr.block g hq.lt (fun e => row_ne hq.box hq.txt (by decide) e.symm)).trans hq.box; have e3 := (cell_row hbx 2).1; have hz3 := (cell_row hbx 2).2; clear hgr hq hbx)
    go_end0
    have q1 := H.out.wrote HG.out
    have hln : (List.map bv (r.t ++ t)).length = r.t.length + t.length := by simp
    rw [hln] at q1
    exact ⟨rfl, ⟨_, _, _, q1.1⟩, q1.2⟩
  · have e1 : Wd.put k t r = ⟨(Wd.close r).ps, k, t⟩ := by unfold Wd.put; rw [if_neg hkk]
    rw [e1]
    have hcc : (Wd.close r).t = [] := by unfold Wd.close; split <;> rfl
    obtain ⟨⟨c0, c1, c2, c3, c4⟩, hz⟩ := h.facts
    have hne : ((k : Int) == (r.k : Int)) = false := by simp; omega
    have hne2 : ((k : Int) != (r.k : Int)) = true := by simp; omega
    have HLN := Lib.hid hlen
    have HCC := Lib.hid hcc
    have HK := Lib.hid hk
    clear h e1 hkk hcc hlen hk
    go_enter Tryd.func25, Tryd.ntmps25
    go_wp2_with (first
      | (go_at_call 23; (with_reducible refine HCL.out.mono ?_); rintro e w1 ⟨rfl, ⟨vp1, vt1, nd1, h2⟩, hf1⟩; obtain ⟨⟨d0, d1, d2, d3, d4⟩, dz⟩ := h2.facts; obtain ⟨A1, k1, rfl, hk1⟩ := own_any h2.txt; have HF1 := Lib.hid hf1; have hkd := h2.kind k HK.out; have HKD := Lib.hid hkd; have D2 := Lib.hid (hkd.1.facts.1.2.2.1); have D2z := Lib.hid (hkd.1.facts.2 2); clear h2 hf1 hkd hk1)
      | (at_builtin; refine wpList_appS _ rfl (.tmp 22) (.tmp 23) 36 9 rfl 0 5 i0 Tryd.underlying36 Tryd.underlying9 hi hz0 hz1 hz2 (.slice A1 (Wd.close r).t.length k1) ((Wd.close r).t.map bv) rfl (by rw [List.length_map]; exact HKD.out.1.txt) (mkS t) rfl (by rw [mkS_size, List.length_map, HCC.out]; have := HLN.out; simp; omega) (Nat.zero_le _) ?_; intro v' w2 hg; rw [mkS_list, ← List.map_append] at hg; obtain ⟨A2, k2, e9, _⟩ := own_any hg.1; subst e9; have hgr := hg.2; have HG := Lib.hid hg; have hq := HKD.out.1; have hbx := (hgr.block g hq.lt (fun e => row_ne hq.box hq.txt (by decide) e.symm)).trans hq.box; have e3 := (cell_row hbx 2).1; have hz3 := (cell_row hbx 2).2; clear hgr hq hbx))
    go_end0
    have q1 := HKD.out.1.wrote HG.out
    have hln : (List.map bv ((Wd.close r).t ++ t)).length = (Wd.close r).t.length + t.length := by simp
    rw [hln] at q1
    have q2 : RMx _ X T g s raw dp ⟨(Wd.close r).ps, k, (Wd.close r).t ++ t⟩ x _ _ _ := q1.1
    have e4 : (⟨(Wd.close r).ps, k, (Wd.close r).t ++ t⟩ : Wd.R) = ⟨(Wd.close r).ps, k, t⟩ := by rw [HCC.out]; rfl
    rw [e4] at q2
    exact ⟨rfl, ⟨_, _, _, q2⟩, HF1.out.trans (HKD.out.2.trans q1.2)⟩
set_option maxHeartbeats 1600000 in
set_option maxRecDepth 100000 in
/-- The parts that were put. -/
theorem all_v (h : RMT W X T g s raw dp r x) (hlen : r.ps.length ≤ 100000000) : Calls Tryd.prog 29 #[.pointer (some ⟨g, 0, none⟩)] W fun e W' => ∃ v, e = .returned v ∧ PsAt W' (fun b => T b ∨ v.ownBlock = some b) v (Wd.all r) ∧ Fr (un X T) W W' ∧ Sr W' s raw x ∧ (∀ b, v.ownBlock = some b → ¬ X b) ∧ XL T W' ∧ ¬ T s ∧ v.ownBlock ≠ some s ∧ (∀ b, T b → ¬ X b) ∧ (∀ b, v.ownBlock = some b → b < W'.heap.size) := by
  have HCL := Lib.hid (close_v h hlen)
  clear h
  go_enter Tryd.func29, Tryd.ntmps29
  go_wp2_with (go_at_call 23; (with_reducible refine HCL.out.mono ?_); rintro e w1 ⟨rfl, ⟨vp1, vt1, nd1, h2⟩, hf1⟩; obtain ⟨⟨d0, d1, d2, d3, d4⟩, dz⟩ := h2.facts; have HF1 := Lib.hid hf1; have H2 := Lib.hid h2; clear h2 hf1)
  go_ret
  have h2 := H2.out
  refine ⟨_, rfl, ?_, HF1.out, h2.src, h2.pX, h2.tl, h2.sT, ?_, fun b ht hx => h2.xt b hx ht, fun b e => (h2.row.lt b e).2⟩
  · have hr := h2.row
    have hps : nd1.map Prod.fst = Wd.all r := h2.ps
    rcases hr.2 with ⟨e1, e2⟩ | ⟨b, cap, cur, e1, _, hb, hnc, hcm, _⟩
    · have : nd1 = [] := List.eq_nil_of_length_eq_zero e2
      rw [← hps, this, show (_ : Value) = vp1 from rfl, e1]
      exact .nil _ _
    · have hcl := hr
      rw [e1] at hcl
      show PsAt w1 (fun b => T b ∨ vp1.ownBlock = some b) vp1 _
      rw [e1]
      exact .row _ _ _ nd1 _ hps rfl (.inr rfl) (lt_of_block hb) (fun j u hu => by have h8 := hcl.cells (g := b) rfl j u hu; rw [add_lit0] at h8; exact h8) ⟨hnc, hcm⟩ fun y hy => (h2.tree y hy).kept (Nat.le_refl _) (fun _ _ _ => rfl) fun b hb => .inl hb
  · obtain ⟨cs, hb⟩ := h2.src.box
    exact row_ne hb h2.row (by decide)

end
end Ws
end Go.Proofs.YtlenocpaalahbaaDoor
