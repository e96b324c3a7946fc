/- An argument that is a row of numbers put and taken away (Act), out of its reading. No premises. -/
import Derived.Test.YtjijbgogdaafdaaDoorQb
import Derived.Test.YtjijbgogdaafdaaDoorFld
import Derived.Test.YtjijbgogdaafdaaDoorArgs
import Derived.Deep.Slices
namespace Go.Proofs.YtjijbgogdaafdaaDoor
open Go.RowKit Go.ChangeShapes Go.WideShapes Go.ChangeAt Go.Deep
namespace Fd
/-- Something that is done. -/
structure Deed where
  fd : Int
  k : Int
  no : Bool
instance : Inhabited Deed := ⟨⟨0, 0, false⟩⟩
/-- It lies at a place. -/
structure DdAt (w : World) (ad : Addr) (a : Deed) : Prop where
  c0 : w.cell? ⟨ad.block, ad.off, ad.spot⟩ = some (.int .i64 a.fd)
  c1 : w.cell? ⟨ad.block, ad.off + 1, none⟩ = some (.int .i64 a.k)
  c2 : w.cell? ⟨ad.block, ad.off + 2, none⟩ = some (.bool a.no)
def DdOk (a : Deed) : Prop := In a.fd ∧ In a.k
/-- A row of them that reads as l. -/
structure RdD (w : World) (B : Nat) (A : Option Addr) (n : Nat) (l : List Deed) : Prop where
  len : l.length = n
  at_ : ∀ (j : Nat) (h : j < l.length), ∃ ad, A = some ad ∧ ad.block < B ∧ DdAt w (ad.add (j * 3)) l[j]
theorem DdAt.keep {w w' : World} {B : Nat} {ad : Addr} {a : Deed} (h : DdAt w ad a) (hb : ad.block < B) (hk : ∀ p : Addr, p.block < B → w'.cell? p = w.cell? p) : DdAt w' ad a :=
  ⟨(hk ⟨ad.block, ad.off, ad.spot⟩ hb).trans h.c0, (hk ⟨ad.block, ad.off + 1, none⟩ hb).trans h.c1, (hk ⟨ad.block, ad.off + 2, none⟩ hb).trans h.c2⟩
theorem RdD.later {w w' : World} {n : Nat} {A : Option Addr} {l : List Deed} (h : RdD w w.heap.size A n l) (hl : Later w w') : RdD w' w'.heap.size A n l :=
  ⟨h.len, fun j hj => by
    obtain ⟨ad, e, hb, hd⟩ := h.at_ j hj
    exact ⟨ad, e, Nat.lt_of_lt_of_le hb hl.size, hd.keep (by rw [block_add]; exact hb) fun _ hp => hl.cell hp⟩⟩
section
variable {H : Type} {enc : TypeId × Value → H} {P : Program} {w : World} {base : Nat} {spare : Nat → Bool} {held : Bool}
theorem cell_fields {t : TypeId} {fs : Array Field} {cs : List Value} {fuel : Nat} {y : DataW H × List MemPlace} (hs : P.underlying t = some (.struct fs)) (hone : oneCellFields P fs = true)
    (h : DataW.trod enc P w base spare held fuel t cs = some y) :
    ∃ fuel, ∀ (i : Nat) (f : Field) (u : Value), fs[i]? = some f → cs[i]? = some u → ∃ y, DataW.trod enc P w base spare held fuel f.type [u] = some y := by
  obtain ⟨xs, n, _, _, _, hxl, hat⟩ := DataW.trod_struct hs h
  refine ⟨n, fun i f u hi hu => ?_⟩
  obtain ⟨ho, hk⟩ := hone_of hone i f hi
  have h1 := hat i f hi
  rw [ho, hk] at h1
  have hil : i < cs.length := (List.getElem?_eq_some_iff.1 hu).1
  have hu' : cs[i]'hil = u := (List.getElem?_eq_some_iff.1 hu).2
  have e : (cs.drop i).take 1 = [u] := by rw [List.drop_eq_getElem_cons hil, List.take_succ_cons, List.take_zero, hu']
  have hix : i < xs.length := by rw [hxl]; exact (Array.getElem?_eq_some_iff.1 hi).1
  exact ⟨_, (by rw [← e]; exact h1.trans (List.getElem?_eq_getElem hix))⟩
theorem add_ne (a : Addr) (i : Nat) (h : i ≠ 0) : a.add i = ⟨a.block, a.off + i, none⟩ := by unfold Addr.add; rw [if_neg h]
theorem add_0 (a : Addr) : a.add 0 = a := by unfold Addr.add; rw [if_pos rfl]
theorem in_of {x : Int} (h : (Lit.int .i64 x).wf = true) : In x := bounds_i64 h
theorem rd_deeds {t e tn tk tq : TypeId} {fs : Array Field} {a : Option Addr} {len cap : Nat} {d : DataW H} {p : List MemPlace} (ht : P.underlying t = some (.slice e)) (he : P.underlying e = some (.struct fs)) (hone : oneCellFields P fs = true) (hC : P.cellsOf e = 3)
    (hty : fs.toList.map (·.type) = [tn, tk, tq]) (h1 : P.underlying tn = some (.int .i64)) (h2 : P.underlying tk = some (.int .i64)) (h3 : P.underlying tq = some .bool)
    (h : DataW.Trod enc P w base spare held t (.slice a len cap) d p) : ∃ xs : List Deed, RdD w w.heap.size a len xs ∧ (∀ x ∈ xs, DdOk x) ∧ len ≤ cap ∧ cap ≤ maxLen := by
  obtain ⟨fuel, hf⟩ := h
  rcases open_slice ht hf with ⟨hcs, _⟩ | ⟨ad, l, c, m, n, D, Pl, hcs, _, hl, hm, hmm, _, hx⟩
  · simp [Value.cells] at hcs
    obtain ⟨rfl, rfl, rfl⟩ := hcs
    exact ⟨[], ⟨rfl, fun j hj => by simp at hj⟩, by simp, Nat.le_refl _, by simp [maxLen]⟩
  simp [Value.cells] at hcs
  obtain ⟨rfl, rfl, rfl⟩ := hcs
  have hlm : len ≤ m := by rw [hmm]; split <;> omega
  have hfs : ∀ i, i < 3 → ∃ f, fs[i]? = some f ∧ some f.type = [tn, tk, tq][i]? := by
    intro i hi
    have hlen : fs.toList.length = 3 := by have := congrArg List.length hty; simpa using this
    have hi' : i < fs.size := by simpa using (show i < fs.toList.length by omega)
    refine ⟨fs[i], Array.getElem?_eq_getElem hi', ?_⟩
    rw [← hty, List.getElem?_map]
    simp [Array.getElem?_toList, Array.getElem?_eq_getElem hi']
  have each : ∀ i, i < len → ∃ z : Deed, (ad.block < w.heap.size ∧ DdAt w (ad.add (i * 3)) z) ∧ DdOk z := by
    intro i hi
    obtain ⟨cs, hc1, hc2⟩ := hx i (by omega)
    rw [hC] at hc1
    obtain ⟨_, hlen, hcell⟩ := World.cells?_some hc1
    obtain ⟨fu, hfu⟩ := cell_fields he hone hc2
    have hq : (ad.add (i * 3)).block = ad.block := block_add ad (i * 3)
    generalize ad.add (i * 3) = q at hcell hq ⊢
    match cs, hlen with
    | [u0, u1, u2], _ =>
      obtain ⟨f0, g0, k0⟩ := hfs 0 (by omega)
      obtain ⟨f1, g1, k1⟩ := hfs 1 (by omega)
      obtain ⟨f2, g2, k2⟩ := hfs 2 (by omega)
      obtain ⟨y0, e0⟩ := hfu 0 f0 u0 g0 rfl
      obtain ⟨y1, e1⟩ := hfu 1 f1 u1 g1 rfl
      obtain ⟨y2, e2⟩ := hfu 2 f2 u2 g2 rfl
      have c0 := hcell 0 (by omega)
      have c1 := hcell 1 (by omega)
      have c2 := hcell 2 (by omega)
      rw [add_0] at c0
      rw [add_ne _ _ (by omega)] at c1 c2
      rw [Option.some.inj k0] at e0
      rw [Option.some.inj k1] at e1
      rw [Option.some.inj k2] at e2
      obtain ⟨x0, rfl, w0⟩ := field_int h1 e0
      obtain ⟨x1, rfl, w1⟩ := field_int h2 e1
      obtain ⟨x2, hx2, _⟩ := DataW.trod_bool h3 e2
      simp at hx2
      subst hx2
      have hlow := World.block_lt_of_cell? w _ c0
      exact ⟨⟨x0, x1, x2⟩, ⟨by rw [← hq]; exact hlow, ⟨c0, c1, c2⟩⟩, in_of w0, in_of w1⟩
  obtain ⟨F, hF⟩ := choose_lt each
  refine ⟨(List.range len).map F, ⟨by simp, fun j hj => ?_⟩, fun x hx => ?_, hl, hm⟩
  · have hj' : j < len := by simpa using hj
    refine ⟨ad, rfl, (hF j hj').1.1, ?_⟩
    simp only [List.getElem_map, List.getElem_range]
    exact (hF j hj').1.2
  · obtain ⟨j, hj, rfl⟩ := List.mem_map.1 hx
    exact (hF j (by simpa using hj)).2
theorem rd_asks {t e : TypeId} {a : Option Addr} {len cap : Nat} {d : DataW H} {p : List MemPlace} (ht : P.underlying t = some (.slice e)) (he : P.underlying e = some (.int .i64)) (hc : P.cellsOf e = 1)
    (h : DataW.Trod enc P w base spare held t (.slice a len cap) d p) : ∃ zs : List Int, Rd w w.heap.size a len (zs.map (Value.int .i64)) ∧ len ≤ cap ∧ cap ≤ maxLen := by
  obtain ⟨zs, h1, _, h3⟩ := rd_ints ht he hc h
  exact ⟨zs, h1, h3⟩
end
end Fd
end Go.Proofs.YtjijbgogdaafdaaDoor
