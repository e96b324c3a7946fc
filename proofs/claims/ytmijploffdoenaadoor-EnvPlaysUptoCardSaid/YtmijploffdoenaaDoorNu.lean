/- slices.Clone of texts. No premises. -/
import Derived.Test.YtmijploffdoenaaDoorNt
namespace Go.Proofs.YtmijploffdoenaaDoor
open Go.RowKit Go.Maps
namespace En
theorem info_str : (Tryd.prog.info? 9).map (fun i => (i.zero, i.size, i.bytes)) = some (some (.string ⟨#[]⟩), 1, 16) := by kernel_rfl
def svs (l : List B) : List Value := l.map fun x => .string (mkS x)
theorem svs_one (l : List B) : ∀ u ∈ svs l, u.oneCell' = true := by
  intro u hu
  obtain ⟨c, _, rfl⟩ := List.mem_map.1 hu
  rfl
/-- A slice of texts of the call's own, or an empty one. -/
def Tx (w : World) (base : Nat) (v : Value) (l : List B) : Prop := ∃ A c, v = .slice A l.length c ∧ l.length ≤ c ∧ c ≤ 9223372036854775807 ∧ (l = [] ∨ w.ownsRow base 9 1 v l.length (svs l))
theorem Tx.rd {w : World} {base : Nat} {v : Value} {l : List B} (h : Tx w base v l) : ∃ A c, v = .slice A l.length c ∧ l.length ≤ c ∧ c ≤ 9223372036854775807 ∧ Rd w w.heap.size A l.length (l.map fun x => .string (mkS x)) := by
  obtain ⟨A, c, rfl, h1, h2, h3⟩ := h
  refine ⟨A, c, rfl, h1, h2, ?_⟩
  rcases h3 with rfl | h3
  · exact Rd.nil_
  · exact Rd.of_own h3
theorem cell_add {w : World} {ad : Addr} {i : Nat} {v : Value} (h : w.cell? (ad.add i) = some v) : w.cell? ⟨ad.block, ad.off + i, none⟩ = some v := by
  have hs := World.cell?_spot h
  obtain ⟨b, o, sp⟩ := ad
  unfold Addr.add at h hs
  split at h <;> simp_all
theorem clone0_v (A : Option Addr) (c : Nat) (W : World) : Calls Tryd.prog 48 #[.slice A 0 c] W fun e W' => (∃ A' c', e = .returned (.slice A' 0 c') ∧ c' ≤ 9223372036854775807) ∧ Later W W' := by
  rcases A with _ | ad
  · refine (Tryd.slices_Clone_nil 0 c W).mono ?_
    rintro e w' ⟨rfl, rfl⟩
    exact ⟨⟨_, _, rfl, by omega⟩, Later.refl _⟩
  · have heq : ∀ W, (binOp .eql 23 (.slice (some ad) 0 c) (.slice none 0 0)).run Tryd.prog W = .ok (.bool false) W := fun W => Lib.run_eql_slice_nil W _ _ _ _ _ _ _ Tryd.underlying23
    go_enter Tryd.func48, Tryd.ntmps48
    go_wp2_with fail
    go_ret
    exact ⟨⟨_, _, rfl, by omega⟩, Later.alloc _ _⟩
theorem clone_v (A : Option Addr) (n c : Nat) (l : List B) (W : World) (hr : Rd W W.heap.size A n (l.map fun x => .string (mkS x))) (hl : l.length ≤ 1000000) : Calls Tryd.prog 48 #[.slice A n c] W fun e W' => (∃ v, e = .returned v ∧ Tx W' W.heap.size v l) ∧ Later W W' := by
  have hn : l.length = n := hr.len_map
  subst hn
  rcases Nat.eq_zero_or_pos l.length with h0 | h0
  · have e : l = [] := List.eq_nil_of_length_eq_zero h0
    subst e
    refine (clone0_v A c W).mono ?_
    rintro e w' ⟨⟨A', c', rfl, hc⟩, hl⟩
    exact ⟨⟨_, rfl, A', c', rfl, Nat.zero_le _, hc, .inl rfl⟩, hl⟩
  · obtain ⟨ad, rfl, hb, hcell⟩ := hr.2 h0
    have hsp : ad.spot = none := by
      have h1 := hcell 0 _ (by rw [List.getElem?_map, List.getElem?_eq_getElem h0]; rfl)
      have := World.cell?_spot h1
      unfold Addr.add at this
      simpa using this
    obtain ⟨bk, o, sp⟩ := ad
    simp only at hsp
    subst hsp
    obtain ⟨i0, hif, hz0, hz1, hz2⟩ := info_parts info_str
    refine (Tryd.slices_Clone i0 _ 1 16 hif hz0 hz1 hz2 rfl (by omega) Tryd.sizeOf9 bk o l.length c (svs l) W (by simp [svs]) (by unfold maxLen; omega) (by omega) (fun j u hu => cell_add (hcell j u hu)) (svs_one l)).mono ?_
    rintro e w' ⟨v', rfl, ho, _, hl⟩
    obtain ⟨A', c', rfl, hle⟩ := own_any ho
    refine ⟨⟨_, rfl, A', c', rfl, hle, ?_, .inr ho⟩, hl⟩
    rcases ho.2 with ⟨e, _⟩ | ⟨g, cap, cur, e, _, _, _, hcm, _⟩
    · injection e; omega
    · injection e with _ _ e3
      subst e3
      simp only [maxLen] at hcm; omega
end En
end Go.Proofs.YtmijploffdoenaaDoor
