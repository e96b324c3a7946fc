/- A reader goes on: pass. No premises. -/
import Derived.Test.YtcidklbeafjmoaaGreatDoorAe
import Derived.BigRegion
namespace Go.Proofs.YtcidklbeafjmoaaGreatDoor
open Go.RowKit Go.Maps
namespace Ar
section
variable {W W' : World} {g : Nat} {C : Ct} {s s' : St}
theorem trimL_v (l : L) (W : World) : Calls Tryz.prog 62 #[.string (mkS l), .string ⟨#[32, 9, 10]⟩] W fun e W' => e = .returned (.string (mkS (l.dropWhile blank))) ∧ Below W.heap.size W W' :=
  Tryz.strings_TrimLeft (mkS l) (mkS [32, 9, 10]) W (by rw [mkS_size]; decide) (Go.Proofs.ascii_of_all (by decide)) |>.mono (by
    rintro e W' ⟨rfl, h⟩
    rw [mkS_list, mkS_list]
    exact ⟨rfl, h⟩)
theorem later_of_below {W W' : World} (h : Below W.heap.size W W') : Later W W' := ⟨h.os, h.tape, h.output, h.size, fun k hk => h.block k hk⟩
theorem size_le (l : L) : size l ≤ l.length := by
  unfold size
  split
  · next h =>
    rw [List.any_eq_true] at h
    obtain ⟨t, ht, hp⟩ := h
    have h2 : ∀ t ∈ longs, t.length = 2 := by decide
    have := h2 t ht
    have := (List.isPrefixOf_iff_prefix.1 hp).length_le
    omega
  · have := (List.takeWhile_prefix (l := l) nm).length_le
    omega
set_option maxHeartbeats 3200000 in
set_option maxRecDepth 100000 in
theorem pass_v (h : RM W g C s) : Calls Tryz.prog 20 #[.pointer (some ⟨g, 0, none⟩)] W (Rt W g C (.tuple #[]) (pass s)) := by
  obtain ⟨⟨c0, c1, c2, c3, c4, c5, c6, c7, c8⟩, hz⟩ := h.facts
  have H := Lib.hid h
  have HT := Lib.hid (fun W => trimL_v s.left W)
  obtain ⟨l, hl⟩ : ∃ l, l = s.left.dropWhile blank := ⟨_, rfl⟩
  rw [← hl] at HT
  have HL := Lib.hid hl
  have hll : l.length ≤ s.left.length := by rw [hl]; exact (List.dropWhile_suffix _).length_le
  have hl4 : l.length ≤ 4000 := by have := h.tok_len; omega
  clear h hl
  go_enter Tryz.func20, Tryz.ntmps20
  obtain ⟨k, hk⟩ : ∃ k, k = size l := ⟨_, rfl⟩
  obtain ⟨n, hn⟩ : ∃ n, n = l.length := ⟨_, rfl⟩
  have hsz : ((mkS l).size : Int) = (n : Int) := by rw [mkS_size, hn]
  have hk0 : (0 : Int) ≤ (k : Int) := by omega
  have hk1 : (k : Int) ≤ (n : Int) := by have := size_le l; omega
  have HK := Lib.hid hk
  have HN := Lib.hid hn
  have HX1 := Lib.hid (extract_take l k)
  have HX2 := Lib.hid (drop_text l k)
  have HL4 := Lib.hid hl4
  have HLL := Lib.hid hll
  clear hk hn hl4 hll
  go_wp2_with (first
    | (go_at_call 62; (with_reducible refine (HT.out _).mono ?_); rintro e w1 ⟨rfl, hb1⟩; have h1 := H.out.later (later_of_below hb1); obtain ⟨⟨d0, d1, d2, d3, d4, d5, d6, d7, d8⟩, dz⟩ := h1.facts; have H1 := Lib.hid h1; have HB1 := Lib.hid hb1; clear hb1 h1)
    | (go_at_call 63; obtain ⟨w2, hw2⟩ : ∃ w2, w2 = w1.setCell ⟨g, 1, none⟩ (.string (mkS l)) := ⟨_, rfl⟩; rw [← hw2]; have h2 : RM w2 g C { s with left := l } := (by rw [hw2]; exact H1.out.turn (set_only _ _ _ _) (by rw [set_row H1.out.box]; rfl) H1.out.deep (by have := H1.out.sml; have := HLL.out; unfold m at *; dsimp only at *; omega)); have hg2 : w1.grownBy w2 (some g) := (by rw [hw2]; exact set_only _ _ _ _); (with_reducible refine (size_v h2.en.tbs h2.lt l HL4.out).mono ?_); rintro e w3 ⟨rfl, hl3⟩; have h3 := h2.later hl3; obtain ⟨⟨e0, e1, e2, e3, e4, e5, e6, e7, e8⟩, ez⟩ := h3.facts; have H3 := Lib.hid h3; have HG3 := Lib.hid (only_later hg2 hl3); rw [← HK.out]; clear h2 hg2 hl3 h3 hw2 d0 d1 d2 d3 d4 d5 d6 d7 d8 dz c0 c1 c2 c3 c4 c5 c6 c7 c8 hz))
  go_region
  rw [HX1.out, HX2.out]
  go_end0
  have e1 : pass s = { s with tok := l.take k, left := l.drop k } := by unfold pass; rw [← HL.out, ← HK.out]
  rw [e1]
  have hg := only_trans (set_only w3 g 0 (.string (mkS (l.take k)))) (set_only _ g 1 (.string (mkS (l.drop k))))
  have hr : RM ((w3.setCell ⟨g, 0, none⟩ (.string (mkS (l.take k)))).setCell ⟨g, 1, none⟩ (.string (mkS (l.drop k)))) g C { s with tok := l.take k, left := l.drop k } := H3.out.turn hg (by rw [set_row (set_row H3.out.box _ _)]; rfl) H.out.deep (by
    have h1 := H.out.sml
    have h2 := HLL.out
    unfold m at *
    dsimp only at *
    simp only [List.length_take, List.length_drop]
    omega)
  refine ⟨rfl, hr.later (Later.drew _), only_trans (only_later (only_refl W g) (later_of_below HB1.out)) (only_trans HG3.out (only_later hg (Later.drew _)))⟩
set_option maxRecDepth 100000 in
theorem enter_v (h : RM W g C s) (hd : s.deep < 40) : Calls Tryz.prog 22 #[.pointer (some ⟨g, 0, none⟩)] W (Rt W g C (.tuple #[]) (enter s)) := by
  obtain ⟨⟨c0, c1, c2, c3, c4, c5, c6, c7, c8⟩, hz⟩ := h.facts
  obtain ⟨d, hdd⟩ : ∃ d, d = s.deep + 1 := ⟨_, rfl⟩
  have hd1 : wrap64 ((s.deep : Int) + 1) = (d : Int) := by rw [IntWalk.wrap64_in _ (by omega)]; omega
  have hd2 : ((s.deep : Int) == 40) = false := by simp; omega
  have H := Lib.hid h
  have HS := Lib.hid (show RM (W.setCell ⟨g, 3, none⟩ (.int .i64 (d : Int))) g C { s with deep := d } from h.turn (set_only _ _ _ _) (by rw [set_row h.box]; rfl) (by show d ≤ 40; omega) h.sml)
  have HE := Lib.hid (show enter s = pass { s with deep := d } by rw [hdd]; rfl)
  rw [HE.out]
  clear h hd hdd
  go_enter Tryz.func22, Tryz.ntmps22
  go_wp2_with (go_at_call 20; (with_reducible refine (pass_v HS.out).mono ?_); rintro e w1 ⟨rfl, h1, g1⟩)
  go_end0
  exact ⟨rfl, h1, only_trans (set_only _ _ _ _) g1⟩
theorem txt_eq (t b : L) : ((mkS t).toList == b) = (t == b) := by rw [toList_mkS]
set_option maxRecDepth 100000 in
theorem take_v (h : RM W g C s) (t : L) : Calls Tryz.prog 68 #[.pointer (some ⟨g, 0, none⟩), .string (mkS t)] W (Rt W g C (.bool (s.tok == t)) (if s.tok = t then pass s else s)) := by
  obtain ⟨⟨c0, c1, c2, c3, c4, c5, c6, c7, c8⟩, hz⟩ := h.facts
  have HP := Lib.hid (pass_v h)
  by_cases ht : s.tok = t
  · have he : ((mkS s.tok).toList == (mkS t).toList) = true := by rw [toList_mkS, toList_mkS, ht]; exact beq_self_eq_true _
    have HR := Lib.hid (show (s.tok == t) = true by rw [ht]; exact beq_self_eq_true _)
    rw [if_pos ht, HR.out]
    clear ht h HR
    go_enter Tryz.func68, Tryz.ntmps68
    go_wp2_with (go_at_call 20; (with_reducible refine HP.out.mono ?_); rintro e w1 ⟨rfl, h1, g1⟩)
    go_ret
    exact ⟨rfl, h1, g1⟩
  · have he : ((mkS s.tok).toList == (mkS t).toList) = false := by rw [toList_mkS, toList_mkS]; exact beq_eq_false_iff_ne.2 ht
    have HR := Lib.hid (show (s.tok == t) = false from beq_eq_false_iff_ne.2 ht)
    rw [if_neg ht, HR.out]
    clear ht HR HP
    have H := Lib.hid h
    clear h
    go_enter Tryz.func68, Tryz.ntmps68
    go_wp2
    go_ret
    exact ⟨rfl, H.out, only_refl _ _⟩
set_option maxRecDepth 100000 in
theorem need_v (h : RM W g C s) (t : L) (ts : ByteArray) (hts : ts = mkS t) (ht : s.tok = t) : Calls Tryz.prog 24 #[.pointer (some ⟨g, 0, none⟩), .string ts] W (Rt W g C (.tuple #[]) (pass s)) := by
  subst hts
  have hv := take_v h t
  rw [if_pos ht, show (s.tok == t) = true by rw [ht]; exact beq_self_eq_true _] at hv
  have HV := Lib.hid hv
  clear hv h ht
  go_enter Tryz.func24, Tryz.ntmps24
  go_wp2_with (go_at_call 68; (with_reducible refine HV.out.mono ?_); rintro e w1 ⟨rfl, h1, g1⟩)
  go_end0
  exact ⟨rfl, h1, g1⟩
end
end Ar
end Go.Proofs.YtcidklbeafjmoaaGreatDoor
