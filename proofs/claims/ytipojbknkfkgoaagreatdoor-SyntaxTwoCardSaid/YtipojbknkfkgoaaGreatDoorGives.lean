/- What Parse gives, for a walk that only compares trees. No premises. -/
import Derived.Test.YtipojbknkfkgoaaGreatDoorSameS
namespace Go.Proofs.YtipojbknkfkgoaaGreatDoor
open Go.RowKit Go.Maps
open Lx (nl Tok)
open Pz
/-- A row of texts, as the walks read it. -/
theorem strs_of {w : World} {B n : Nat} {A : Option Addr} {l : List ByteArray} (h : Rd w B A n (l.map Value.string)) : ∃ ls : List (List UInt8), Rd w B A n (ls.map fun x => Value.string (mkS x)) :=
  ⟨l.map fun s => s.data.toList, by
    have e : (l.map fun s => s.data.toList).map (fun x => Value.string (mkS x)) = l.map Value.string := by
      rw [List.map_map]
      exact List.map_congr_left fun s _ => by simp [Function.comp, mkS_of]
    rw [e]
    exact h⟩
theorem strs_at {w : World} {B n : Nat} {A : Option Addr} {ls : List (List UInt8)} (h : Rd w B A n (ls.map fun x => Value.string (mkS x))) {k : Nat} (hk : k < n) : ∃ ad, A = some ad ∧ ∃ h : k < ls.length, w.cell? (ad.add k) = some (.string (mkS ls[k])) := by
  obtain ⟨ad, hl, e, _, hc⟩ := h.at_map hk
  exact ⟨ad, e, hl, hc⟩
theorem sgetk (l : List UInt8) (k : Nat) (_ : k < l.length) : ∀ h, (mkS l)[k]'h = l[k] := fun _ => rfl
theorem tree_most {W : World} {N : Nat} {v : Value} {ns : List Sx.Node} (h : TreeM W N v ns) : ns.length ≤ maxLen := by
  obtain ⟨nd, h1, h2, _⟩ := h
  have := own_most h2
  rw [← h1, List.length_map]
  exact this
theorem RdN.nil (W : World) : RdN W none 0 [] := ⟨rfl, fun k h => by cases h⟩
/-- What Parse gives: nodes that read as ns, and the error's number. -/
abbrev Gives (w : World) (S : List UInt8) (n k : Nat) (ns : List Sx.Node) : Prop := ∀ W, Later w W → Calls Tryz.prog 6 #[.string (mkS S)] W fun e W' => ∃ A c ln, e = .returned (.tuple #[.agg #[.slice A n c], .int .i64 (k : Int), .int .i64 ln]) ∧ n ≤ maxLen ∧ RdN W' A n ns ∧ Later W W'
theorem gives_ok {w : World} (hg : Sgn w) {S : List UInt8} {ns : List Sx.Node} (hS : S.length ≤ 4096) (ht : Sx.tree S = .ok ns) : Gives w S ns.length 0 ns := fun W hW => (parse_ok hS ht W (Sgn.later' hg hW)).mono fun e W' h => by
  obtain ⟨A, c, e1, _, hm, hl⟩ := h
  exact ⟨A, c, 0, e1, tree_most hm, RdN.of_tree hm rfl, hl⟩
theorem gives_err {w : World} (hg : Sgn w) {S : List UInt8} {k l : Nat} (hS : S.length ≤ 4096) (ht : Sx.tree S = .error (k, l)) : Gives w S 0 k [] := fun W hW => (parse_err hS ht W (Sgn.later' hg hW)).mono fun e W' h => by
  obtain ⟨e1, hl⟩ := h
  exact ⟨none, 0, _, e1, Nat.zero_le _, RdN.nil _, hl⟩
end Go.Proofs.YtipojbknkfkgoaaGreatDoor
