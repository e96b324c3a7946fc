/- What the bound on the bulk gives of a text, and of a struct of two texts. No premises. -/
import Derived.Test.YtjjkeajgcdminaaUpto
import Derived.Test.YtjjkeajgcdminaaFld
namespace Go.Proofs.Ytjjkeajgcdminaa
open Go.RowKit Go.ChangeShapes Go.WideShapes Go.ChangeAt Go.Deep
section
variable {H : Type} {enc : TypeId × Value → H} {P : Program} {w : World} {base : Nat} {spare : Nat → Bool} {held : Bool}
theorem bulk_str {l : List (DataW H)} {s : ByteArray} {n : Nat} (h : DataW.lit (.string s.data.toList) ∈ l) (hk : Rows.uptoBulkAll l ≤ n) : s.size ≤ n := by
  have := Nat.le_trans (bulk_part h) hk
  simp only [Rows.uptoBulk] at this
  have e : s.data.toList.length = s.size := rfl
  omega
theorem open_pat_upto {r : Reach} {b0 : Nat} {t : TypeId} {f0 f1 : Field} {v : Value} {d : DataW H} {p : List MemPlace} (hs : P.underlying t = some (.struct #[f0, f1])) (o0 : f0.offset = 0) (o1 : f1.offset = 1) (k0 : P.cellsOf f0.type = 1) (k1 : P.cellsOf f1.type = 1)
    (s0 : P.underlying f0.type = some .string) (s1 : P.underlying f1.type = some .string) (hC : P.cellsOf t = 2)
    (hv : Value.okWide P w r b0 t v) (h : DataW.Trod enc P w base spare held t v d p) :
    ∃ a b : ByteArray, v = .agg #[.string a, .string b] ∧ a.size ≤ maxLen ∧ b.size ≤ maxLen ∧ a.size + b.size ≤ Rows.uptoBulk d := by
  obtain ⟨cs, rfl, hsz⟩ := okWide_struct hs hv
  obtain ⟨fuel, hf⟩ := h
  obtain ⟨y0, y1, n, hx, _, h0, h1⟩ := trod_struct2 hs hf
  rw [hC] at hsz
  obtain ⟨u0, u1, rfl⟩ : ∃ a b, cs = #[a, b] := by
    obtain ⟨l⟩ := cs
    match l, hsz with
    | [a, b], _ => exact ⟨a, b, rfl⟩
  rw [o0, k0] at h0
  rw [o1, k1] at h1
  have h0' : DataW.trod enc P w base spare held n f0.type [u0] = some y0 := h0
  have h1' : DataW.trod enc P w base spare held n f1.type [u1] = some y1 := h1
  obtain ⟨a, e0, rfl, w0⟩ := DataW.trod_string s0 h0'
  obtain ⟨b, e1, rfl, w1⟩ := DataW.trod_string s1 h1'
  injection e0 with e0
  injection e1 with e1
  subst e0 e1
  have hd := congrArg Prod.fst hx
  simp only at hd
  subst hd
  refine ⟨a, b, rfl, w0, w1, ?_⟩
  simp only [Rows.uptoBulk, Rows.uptoBulkAll]
  have e : a.data.toList.length = a.size := rfl
  have e' : b.data.toList.length = b.size := rfl
  omega
end
end Go.Proofs.Ytjjkeajgcdminaa
