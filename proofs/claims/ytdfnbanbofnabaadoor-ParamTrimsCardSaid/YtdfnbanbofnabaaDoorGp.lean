/- match, Match, Plain. No premises. -/
import Derived.Test.YtdfnbanbofnabaaDoorGo
namespace Go.Proofs.YtdfnbanbofnabaaDoor
open Go.RowKit Go.Maps
namespace Gl
theorem sgs_len (t m : L) : ∀ (f i : Nat), (sgs t m f i).length ≤ f
  | 0, _ => Nat.le_refl _
  | f + 1, i => by
    unfold sgs
    split
    · have := sgs_len t m f (sgAt t m i).2
      simp; omega
    · simp
theorem sgF_len (t m : L) (i : Nat) : (sgF t m i).length ≤ t.length := sgs_len t m _ _
end Gl
namespace Gs
theorem Own.rdS {w : World} {base : Nat} {v : Value} {g : List Gl.Sg} {xs : List Sv} (h : Own w base v g xs) : ∃ A n c, v = .slice A n c ∧ n ≤ c ∧ (A = none → c = 0) ∧ n = g.length ∧ RdS w A n g := by
  obtain ⟨A, c, rfl, h1, h2, _⟩ := own_map (f := Sv.enc) (xs := xs) (by rw [List.length_map]; exact h.own)
  refine ⟨A, xs.length, c, rfl, h1, fun e => ?_, by rw [← h.sg, List.length_map], ⟨xs, h2, h.ok, h.sg⟩⟩
  subst e
  rcases h.own.2 with ⟨h0, _⟩ | ⟨g', cap, cur, h0, _⟩
  · injection h0
  · injection h0 with h0; cases h0
/-- Which type a sign is of: what the three tests of Plain tell. -/
structure Ta (x : Sv) (ty : TypeId) (va a b c : Value) (p q r : Bool) : Prop where
  enc : x.enc = .iface ty va
  star : ∀ w, (Instr.typeAssert (.iface ty va) 46 58 true).run Tryd.prog w = .ok (.tuple #[a, .bool p]) w
  one : ∀ w, (Instr.typeAssert (.iface ty va) 46 69 true).run Tryd.prog w = .ok (.tuple #[b, .bool q]) w
  set : ∀ w, (Instr.typeAssert (.iface ty va) 46 86 true).run Tryd.prog w = .ok (.tuple #[c, .bool r]) w
  lit : Gl.isLit x.sg = !(p || q || r)
theorem ta (x : Sv) : ∃ ty va a b c p q r, Ta x ty va a b c p q r := by
  cases x with
  | star => exact ⟨58, .agg #[], .agg #[], .agg #[], .agg #[.bool false, .slice none 0 0], true, false, false, rfl, fun _ => by kernel_rfl, fun _ => by kernel_rfl, fun _ => by kernel_rfl, rfl⟩
  | one => exact ⟨69, .agg #[], .agg #[], .agg #[], .agg #[.bool false, .slice none 0 0], false, true, false, rfl, fun _ => by kernel_rfl, fun _ => by kernel_rfl, fun _ => by kernel_rfl, rfl⟩
  | lit b => exact ⟨70, .int .u8 (b.toNat : Int), .agg #[], .agg #[], .agg #[.bool false, .slice none 0 0], false, false, false, rfl, fun _ => by kernel_rfl, fun _ => by kernel_rfl, fun _ => by kernel_rfl, rfl⟩
  | set t v ms => exact ⟨86, .agg #[.bool t, v], .agg #[], .agg #[], .agg #[.bool t, v], false, false, true, rfl, fun _ => by kernel_rfl, fun _ => by kernel_rfl, fun _ => by kernel_rfl, rfl⟩
end Gs
end Go.Proofs.YtdfnbanbofnabaaDoor
