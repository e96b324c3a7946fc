/- Rows turned around: signs, bytes; backwards, Cut. No premises. -/
import Derived.Test.YtdfnbanbofnabaaDoorGp
namespace Go.Proofs.YtdfnbanbofnabaaDoor
open Go.RowKit Go.Maps Go.Sort
section
variable {α : Type} [Inhabited α] {enc : α → Value} {w : World} {g n : Nat} {cur : Array Value} {e : TypeId} {fr : Nat × Nat}
theorem heap_put (d : Array α) (hb : w.heap[g]? = some (.cells cur e fr)) : (putRow enc (Sort.ahead w n) g 0 d).heap[g]? = some (.cells (putCells enc 0 d cur) e fr) := by
  simp [putRow, mapBlock, Sort.ahead, Array.getElem?_modify, hb, onCells]
theorem grown_put (d : Array α) : w.grownBy (putRow enc (Sort.ahead w n) g 0 d) (some g) := by
  refine ⟨rfl, rfl, rfl, by simp [putRow, mapBlock, Sort.ahead], fun k hk hne => ?_⟩
  have : g ≠ k := fun e => hne (by rw [e])
  simp [putRow, mapBlock, Sort.ahead, Array.getElem?_modify, this]
theorem take_put (ts : List α) (h : ts.length ≤ cur.size) : (putCells enc 0 ts.toArray cur).toList.take ts.length = ts.map enc := by
  apply List.ext_getElem?
  intro j
  by_cases hj : j < ts.length
  · rw [List.getElem?_take_of_lt hj, Array.getElem?_toList]
    simp [putCells, hj, show j < cur.size by omega]
  · rw [List.getElem?_take_eq_none (by omega), List.getElem?_eq_none (by simp; omega)]
theorem holds_put {zs : List α} (hb : w.heap[g]? = some (.cells cur e fr)) (ht : cur.toList.take zs.length = zs.map enc) (hf : ∀ j, j < zs.length → w.frozen? ⟨g, j, none⟩ = false) : Holds enc w g 0 zs.toArray := by
  intro j hj
  have hj' : j < zs.length := by simpa using hj
  refine ⟨?_, by rw [Nat.zero_add]; exact hf j hj'⟩
  have h1 : (cur.toList.take zs.length)[j]? = (zs.map enc)[j]? := by rw [ht]
  rw [List.getElem?_take_of_lt hj'] at h1
  simp only [World.cell?, hb, Nat.zero_add]
  simp only [Option.isSome_none, Bool.false_eq_true, if_false]
  rw [← Array.getElem?_toList, h1]
  simp [hj']
end
namespace Gs
instance : Inhabited Sv := ⟨.star⟩
theorem enc_one : OneCell Sv.enc := fun x => x.one_
/-- Signs of the call's own, turned around. -/
theorem reverse_v {w : World} {base : Nat} {v : Value} {g : List Gl.Sg} {xs : List Sv} (h : Own w base v g xs) (hb : base ≤ w.heap.size) (hn : g.length ≤ 100000) : Calls Tryd.prog 20 #[v] w fun e w' => e = .returned (.tuple #[]) ∧ Own w' base v g.reverse xs.reverse ∧ Below base w w' := by
  have hl : xs.length = g.length := by rw [← h.sg, List.length_map]
  rcases h.own.2 with ⟨rfl, h0⟩ | ⟨b, cap, cur, rfl, h1, h2, h3, h4, h5, h6⟩
  · have hx : xs = [] := List.eq_nil_of_length_eq_zero h0
    subst hx
    have hg : g = [] := by rw [← h.sg]; rfl
    subst hg
    refine (Tryd.reverse_signs_empty none 0 w).mono ?_
    rintro e w' ⟨rfl, rfl⟩
    exact ⟨rfl, h, Below.refl _ _⟩
  · rw [Nat.mul_one] at h5 h6
    have hH : Holds Sv.enc w b 0 xs.toArray := holds_put h2 h6 fun j _ => (cell_row h2 j).2
    refine (Tryd.reverse_signs Sv.enc enc_one b 0 cap xs w hH (by omega)).mono ?_
    rintro e w' ⟨rfl, n, rfl⟩
    have hgr : w.grownBy (putRow Sv.enc (Sort.ahead w n) b 0 xs.reverse.toArray) (some b) := grown_put _
    have hbl : Below base w (putRow Sv.enc (Sort.ahead w n) b 0 xs.reverse.toArray) := below_of_grown hgr hb fun k hk => by injection hk with hk; omega
    refine ⟨rfl, ⟨⟨by simp, .inr ⟨b, cap, _, by simp, h1, heap_put _ h2, by simpa using h3, h4, by simp [putCells, h5], ?_⟩⟩, fun x hx => ?_, by rw [List.map_reverse, h.sg]⟩, hbl⟩
    · have := take_put (enc := Sv.enc) (cur := cur) xs.reverse (by simp; omega)
      rw [Nat.mul_one]
      rw [this]
    · have hok := h.ok x (List.mem_reverse.1 hx)
      cases x with
      | set t u ms =>
        refine ⟨hok.1, hok.2.kept hgr ?_⟩
        have ha := apart_types hok.2 h.own (by decide)
        rcases ha with ha | ha
        · exact .inl ha
        · exact .inr ha
      | _ => trivial
theorem reverse_map (l : L) : (l.map bv).reverse = l.reverse.map bv := by rw [List.map_reverse]
set_option maxRecDepth 100000 in
set_option maxHeartbeats 1600000 in
theorem backwards_v (s : L) (w : World) (hs : s.length ≤ 100000) : Calls Tryd.prog 23 #[.string (mkS s)] w fun e w' => e = .returned (.string (mkS s.reverse)) ∧ Later w w' := by
  have hcv := run_bytes_of_string w 9 39 5 (mkS s) Tryd.underlying9 Tryd.underlying39 Tryd.underlying5
  rw [mkS_size] at hcv
  obtain ⟨cp, hcp⟩ : ∃ cp, cp = grownCap w s.length 0 5 := ⟨_, rfl⟩
  rw [← hcp] at hcv
  obtain ⟨R, hR⟩ : ∃ R, R = bytesRow (mkS s) cp := ⟨_, rfl⟩
  rw [← hR] at hcv
  have hcs : s.length ≤ R.size := by rw [hR]; unfold bytesRow; simp [mkS]
  have htk : R.toList.take s.length = s.map bv := by
    rw [hR]
    unfold bytesRow
    simp [mkS]
    exact fun _ _ => rfl
  obtain ⟨W2, hW2⟩ : ∃ W2, W2 = w.drew.alloc (.cells R 5 (R.size, R.size + 1)) := ⟨_, rfl⟩
  rw [← hW2] at hcv
  have hbk : W2.heap[w.heap.size]? = some (.cells R 5 (R.size, R.size + 1)) := by rw [hW2]; exact heap_alloc_new w.drew _
  have hl2 : Later w W2 := by rw [hW2]; exact (Later.drew w).trans (Later.alloc _ _)
  have hH : Holds bv W2 w.heap.size 0 s.toArray := holds_put hbk htk fun j hj => by simp [World.frozen?, hbk]; omega
  have hone : OneCell bv := fun _ => rfl
  have hrv := Tryd.reverse_bytes bv hone w.heap.size 0 cp s W2 hH (by omega)
  have HRV := Lib.hid hrv
  have HBK := Lib.hid hbk
  have HL2 := Lib.hid hl2
  have HCS := Lib.hid hcs
  have hfin : ∀ q, (convert 39 9 (.slice (some ⟨w.heap.size, 0, none⟩) s.length cp)).run Tryd.prog (putRow bv (Sort.ahead W2 q) w.heap.size 0 s.reverse.toArray) = .ok (.string (mkS s.reverse)) (putRow bv (Sort.ahead W2 q) w.heap.size 0 s.reverse.toArray) := fun q => by
    refine run_str_of (B := w.heap.size + 1) (bs := s.reverse) ⟨by simp, fun h0 => ⟨_, rfl, Nat.lt_succ_self _, fun j u hu => ?_⟩⟩ 39 9 5 Tryd.underlying39 Tryd.underlying5 Tryd.underlying9 cp
    rw [add_lit0]
    have hh := heap_put (enc := bv) (n := q) s.reverse.toArray HBK.out
    have ht := take_put (enc := bv) (cur := R) s.reverse (by have := HCS.out; simp; omega)
    have hj : j < s.reverse.length := by have := (List.getElem?_eq_some_iff.1 hu).1; simpa using this
    simp only [World.cell?, hh]
    simp only [Option.isSome_none, Bool.false_eq_true, if_false]
    rw [← Array.getElem?_toList, ← hu, ← ht, List.getElem?_take_of_lt hj]
  have HF := Lib.hid hfin
  obtain ⟨n, hn⟩ : ∃ n, n = s.length := ⟨_, rfl⟩
  rw [← hn] at hcv hs HRV HF
  clear hrv hbk hl2 hcs hH hone htk hfin hW2 hR hcp hn
  go_enter Tryd.func23, Tryd.ntmps23
  go_wp2_with (first
    | (go_at_call 30; (with_reducible refine HRV.out.mono ?_); rintro e w3 ⟨rfl, q, hw3⟩; (have hcf := HF.out q); rw [← hw3] at hcf; (have HW3 := Lib.hid hw3); clear hw3))
  go_ret
  refine ⟨rfl, ?_⟩
  rw [HW3.out]
  exact later_of_new HL2.out (grown_put _) (Nat.le_refl _)
end Gs
end Go.Proofs.YtdfnbanbofnabaaDoor
