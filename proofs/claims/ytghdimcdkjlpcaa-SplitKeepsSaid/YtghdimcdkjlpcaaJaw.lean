/- awake: the document's example. No premises. -/
import Derived.Test.YtghdimcdkjlpcaaJk2
namespace Go.Proofs.Ytghdimcdkjlpcaa
open Go.RowKit Go.Maps
theorem array_2 {cs : Array Value} (h : cs.size = 2) : ∃ a b, cs = #[a, b] := by
  obtain ⟨l⟩ := cs
  match l, h with
  | [a, b], _ => exact ⟨a, b, rfl⟩
namespace Jo
def pr (f : Rw) : L × L := (ft f, fm f)
theorem rows_at : ∀ (l : List Rw) (j : Nat) (h : j < l.length), (rows l)[j * 2]? = some (.string (mkS (ft l[j]))) ∧ (rows l)[j * 2 + 1]? = some (.string (mkS (fm l[j])))
  | [], j, h => by simp at h
  | y :: l, 0, _ => by simp [rows]
  | y :: l, j + 1, h => by
    have := rows_at l j (by simpa using h)
    have e : rows (y :: l) = [.string (mkS (ft y)), .string (mkS (fm y))] ++ rows l := rfl
    rw [e, List.getElem?_append_right (by simp; omega), List.getElem?_append_right (by simp; omega)]
    simp only [List.length_cons, List.length_nil, List.getElem_cons_succ]
    rw [show (j + 1) * 2 - (0 + 1 + 1) = j * 2 by omega, show (j + 1) * 2 + 1 - (0 + 1 + 1) = j * 2 + 1 by omega]
    exact this
/-- A row of rows of the call's own reads as its rows. -/
theorem RdR.of_own {w : World} {base : Nat} {e : TypeId} {v : Value} {l : List Rw} (h : w.ownsRow base e 2 v l.length (rows l)) : RdR w w.heap.size v (l.map pr) := by
  refine ⟨by rw [List.length_map]; exact own_any h, fun h0 => ?_⟩
  rw [List.length_map] at h0
  rcases h.2 with ⟨_, e⟩ | ⟨g, cap, cur, rfl, hb, hh, _⟩
  · omega
  · refine ⟨g, cap, by rw [List.length_map], lt_of_block hh, fun k hk => ?_⟩
    have hk' : k < l.length := by rw [List.length_map] at hk; exact hk
    obtain ⟨h1, h2⟩ := rows_at l k hk'
    have e1 := h.cells (g := g) rfl _ _ h1
    have e2 := h.cells (g := g) rfl _ _ h2
    rw [add_lit0] at e1 e2
    rw [List.getElem_map]
    exact ⟨e1, e2⟩
theorem RdR.keep {w w' : World} {B : Nat} {v : Value} {l : List (L × L)} (h : RdR w B v l) (hk : ∀ p : Addr, p.block < B → w'.cell? p = w.cell? p) : RdR w' B v l :=
  ⟨h.le, fun h0 => by
    obtain ⟨g, c, e, hb, hc⟩ := h.at_ h0
    exact ⟨g, c, e, hb, fun k hk2 => ⟨(hk _ hb).trans (hc k hk2).1, (hk _ hb).trans (hc k hk2).2⟩⟩⟩
/-- Rows in a new block. -/
theorem RdR.lit3 (w : World) (a b c d e f : L) (ty : TypeId) : RdR (w.alloc (.cells #[.string (mkS a), .string (mkS b), .string (mkS c), .string (mkS d), .string (mkS e), .string (mkS f)] ty)) (w.heap.size + 1) (.slice (some ⟨w.heap.size, 0, none⟩) 3 3) [(a, b), (c, d), (e, f)] := by
  refine ⟨⟨_, 3, rfl, Nat.le_refl _⟩, fun _ => ⟨w.heap.size, 3, rfl, Nat.lt_succ_self _, fun k hk => ?_⟩⟩
  have hn := heap_alloc_new w (.cells #[.string (mkS a), .string (mkS b), .string (mkS c), .string (mkS d), .string (mkS e), .string (mkS f)] ty)
  match k, hk with
  | 0, _ => exact ⟨(cell_row hn 0).1, (cell_row hn 1).1⟩
  | 1, _ => exact ⟨(cell_row hn 2).1, (cell_row hn 3).1⟩
  | 2, _ => exact ⟨(cell_row hn 4).1, (cell_row hn 5).1⟩
theorem RdR.lit2 (w : World) (a b c d : L) (ty : TypeId) : RdR (w.alloc (.cells #[.string (mkS a), .string (mkS b), .string (mkS c), .string (mkS d)] ty)) (w.heap.size + 1) (.slice (some ⟨w.heap.size, 0, none⟩) 2 2) [(a, b), (c, d)] := by
  refine ⟨⟨_, 2, rfl, Nat.le_refl _⟩, fun _ => ⟨w.heap.size, 2, rfl, Nat.lt_succ_self _, fun k hk => ?_⟩⟩
  have hn := heap_alloc_new w (.cells #[.string (mkS a), .string (mkS b), .string (mkS c), .string (mkS d)] ty)
  match k, hk with
  | 0, _ => exact ⟨(cell_row hn 0).1, (cell_row hn 1).1⟩
  | 1, _ => exact ⟨(cell_row hn 2).1, (cell_row hn 3).1⟩
theorem awake_rows : split [32, 58] (List.zip ([97, 32, 98, 58, 58, 99] : L) (List.replicate 6 115)) = [[(97, 115)], [(98, 115)], [], [(99, 115)]] := by decide +kernel
set_option maxRecDepth 100000 in
set_option maxHeartbeats 3200000 in
theorem awake_v (w : World) : Calls Try.prog 8 #[] w fun e w' => e = .returned (.bool true) ∧ Later w w' := by
  have HO1 := Lib.hid (show ∀ W : World, Calls Try.prog 14 #[.string ⟨#[97, 32, 98, 58, 58, 99]⟩, .int .u8 115] W fun e w' => e = .returned (.agg #[.string (mkS [97, 32, 98, 58, 58, 99]), .string (mkS [115, 115, 115, 115, 115, 115])]) ∧ Later W w' from fun W => of_v [97, 32, 98, 58, 58, 99] 115 W (by simp))
  have HO2 := Lib.hid (show ∀ W : World, Calls Try.prog 14 #[.string ⟨#[120]⟩, .int .u8 113] W fun e w' => e = .returned (.agg #[.string (mkS [120]), .string (mkS [113])]) ∧ Later W w' from fun W => of_v [120] 113 W (by simp))
  have HO3 := Lib.hid (show ∀ W : World, Calls Try.prog 14 #[.string ⟨#[121]⟩, .int .u8 101] W fun e w' => e = .returned (.agg #[.string (mkS [121]), .string (mkS [101])]) ∧ Later W w' from fun W => of_v [121] 101 W (by simp))
  have HO4 := Lib.hid (show ∀ W : World, Calls Try.prog 14 #[.string ⟨#[122]⟩, .int .u8 108] W fun e w' => e = .returned (.agg #[.string (mkS [122]), .string (mkS [108])]) ∧ Later W w' from fun W => of_v [122] 108 W (by simp))
  have HSP := Lib.hid (show ∀ W : World, Calls Try.prog 9 #[.agg #[.string (mkS [97, 32, 98, 58, 58, 99]), .string (mkS [115, 115, 115, 115, 115, 115])], .string ⟨#[32, 58]⟩] W fun e w' => ∃ v, e = .returned v ∧ Later W w' ∧ w'.ownsRow W.heap.size 23 2 v 4 (rows [[(97, 115)], [(98, 115)], [], [(99, 115)]]) from fun W => by
    have := split_v [97, 32, 98, 58, 58, 99] (List.replicate 6 115) [32, 58] W (by simp) (by simp)
    have e := awake_rows
    rw [e] at this
    exact this)
  have HJN := Lib.hid (show ∀ W : World, Calls Try.prog 12 #[.slice (some ⟨W.heap.size, 0, none⟩) 3 3] (W.alloc (.cells #[.string (mkS [120]), .string (mkS [113]), .string (mkS [121]), .string (mkS [101]), .string (mkS [122]), .string (mkS [108])] 23)) fun e w' => e = .returned (.agg #[.string (mkS [120, 121, 122]), .string (mkS [113, 101, 108])]) ∧ Later (W.alloc (.cells #[.string (mkS [120]), .string (mkS [113]), .string (mkS [121]), .string (mkS [101]), .string (mkS [122]), .string (mkS [108])] 23)) w' from fun W => by
    have h := RdR.lit3 W [120] [113] [121] [101] [122] [108] 23
    refine join_v _ [([120], [113]), ([121], [101]), ([122], [108])] _ ?_ (by decide) (by decide) (by decide)
    rw [World.size_alloc]
    exact h)
  have HBR := Lib.hid (show ∀ W : World, Calls Try.prog 16 #[.agg #[.string (mkS [120, 121, 122]), .string (mkS [113, 101, 108])]] W fun e w' => e = .returned (.string (mkS [120, 122])) ∧ Later W w' from fun W => bare_v [120, 121, 122] [113, 101, 108] W (by simp) (by simp))
  have htl : ∀ l : L, (mkS l).toList = l := mkS_toList
  go_enter Try.func8, Try.ntmps8
  go_wp2_with (first
    | (go_at_call 14; (with_reducible refine (HO1.out _).mono ?_); rintro e w1 ⟨rfl, hl1⟩; (have HL1 := Lib.hid hl1); clear hl1)
    | (go_at_call 9; (with_reducible refine (HSP.out _).mono ?_); rintro e w2 ⟨v, rfl, hl2, ho2⟩; (have hr2 := RdR.of_own (l := [[(97, 115)], [(98, 115)], [], [(99, 115)]]) ho2); obtain ⟨g, c, rfl, hg, hcc⟩ := hr2.at_ (by decide); (have d0 : w2.cell? ⟨g, 0, none⟩ = some (.string (mkS [97])) := (hcc 0 (by decide)).1); (have d4 : w2.cell? ⟨g, 4, none⟩ = some (.string (mkS [])) := (hcc 2 (by decide)).1); (have d6 : w2.cell? ⟨g, 6, none⟩ = some (.string (mkS [99])) := (hcc 3 (by decide)).1); (have d7 : w2.cell? ⟨g, 7, none⟩ = some (.string (mkS [115])) := (hcc 3 (by decide)).2); (have HL2 := Lib.hid (HL1.out.trans hl2)); clear hl2 ho2 hr2 hcc)
    | (go_at_call 14; (with_reducible refine (HO2.out _).mono ?_); rintro e w3 ⟨rfl, hl3⟩; (have HL3 := Lib.hid (HL2.out.trans hl3)); clear hl3)
    | (go_at_call 14; (with_reducible refine (HO3.out _).mono ?_); rintro e w4 ⟨rfl, hl4⟩; (have HL4 := Lib.hid (HL3.out.trans hl4)); clear hl4)
    | (go_at_call 14; (with_reducible refine (HO4.out _).mono ?_); rintro e w5 ⟨rfl, hl5⟩; (have HL5 := Lib.hid (HL4.out.trans hl5)); clear hl5)
    | (go_at_call 12; (with_reducible refine (HJN.out _).mono ?_); rintro e w6 ⟨rfl, hl6⟩; (have HL6 := Lib.hid ((HL5.out.trans (Later.alloc _ _)).trans hl6)); clear hl6)
    | (go_at_call 16; (with_reducible refine (HBR.out _).mono ?_); rintro e w7 ⟨rfl, hl7⟩; (have HL7 := Lib.hid (HL6.out.trans hl7)); clear hl7))
  go_ret
  exact ⟨rfl, HL7.out⟩
end Jo
end Go.Proofs.Ytghdimcdkjlpcaa
