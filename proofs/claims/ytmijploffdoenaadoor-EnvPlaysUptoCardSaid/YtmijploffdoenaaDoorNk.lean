/- An argument that is a row of things to be done (Act), out of its reading. No premises. -/
import Derived.Test.YtmijploffdoenaaDoorNr
import Derived.Test.YtmijploffdoenaaDoorFld
import Derived.Deep.Slices
namespace Go.Proofs.YtmijploffdoenaaDoor
open Go.RowKit Go.ChangeShapes Go.WideShapes Go.ChangeAt Go.Deep
namespace En
/-- Something that is done. -/
structure Doing where
  kind : UInt8
  name : B
  value : B
  on : Bool
  n : Int
instance : Inhabited Doing := ⟨⟨0, [], [], false, 0⟩⟩
/-- It lies at a place. -/
structure DoAt (w : World) (ad : Addr) (a : Doing) : Prop where
  c0 : w.cell? ⟨ad.block, ad.off, ad.spot⟩ = some (.int .u8 (a.kind.toNat : Int))
  c1 : w.cell? ⟨ad.block, ad.off + 1, none⟩ = some (.string (mkS a.name))
  c2 : w.cell? ⟨ad.block, ad.off + 2, none⟩ = some (.string (mkS a.value))
  c3 : w.cell? ⟨ad.block, ad.off + 3, none⟩ = some (.bool a.on)
  c4 : w.cell? ⟨ad.block, ad.off + 4, none⟩ = some (.int .i64 a.n)
/-- A thing that fits a machine. -/
def DoOk (a : Doing) : Prop := a.name.length ≤ 9223372036854775807 ∧ a.value.length ≤ 9223372036854775807 ∧ -9223372036854775808 ≤ a.n ∧ a.n ≤ 9223372036854775807
/-- A row of them that reads as l. -/
structure RdD (w : World) (B : Nat) (A : Option Addr) (n : Nat) (l : List Doing) : Prop where
  len : l.length = n
  at_ : ∀ (j : Nat) (h : j < l.length), ∃ ad, A = some ad ∧ ad.block < B ∧ DoAt w (ad.add (j * 5)) l[j]
theorem DoAt.keep {w w' : World} {B : Nat} {ad : Addr} {a : Doing} (h : DoAt w ad a) (hb : ad.block < B) (hk : ∀ p : Addr, p.block < B → w'.cell? p = w.cell? p) : DoAt w' ad a :=
  ⟨(hk ⟨ad.block, ad.off, ad.spot⟩ hb).trans h.c0, (hk ⟨ad.block, ad.off + 1, none⟩ hb).trans h.c1, (hk ⟨ad.block, ad.off + 2, none⟩ hb).trans h.c2, (hk ⟨ad.block, ad.off + 3, none⟩ hb).trans h.c3, (hk ⟨ad.block, ad.off + 4, none⟩ hb).trans h.c4⟩
theorem RdD.keep {w w' : World} {B n : Nat} {A : Option Addr} {l : List Doing} (h : RdD w B A n l) (hk : ∀ p : Addr, p.block < B → w'.cell? p = w.cell? p) : RdD w' B A n l :=
  ⟨h.len, fun j hj => by
    obtain ⟨ad, e, hb, hd⟩ := h.at_ j hj
    exact ⟨ad, e, hb, hd.keep (by rw [block_add]; exact hb) hk⟩⟩
theorem RdD.later {w w' : World} {n : Nat} {A : Option Addr} {l : List Doing} (h : RdD w w.heap.size A n l) (hl : Later w w') : RdD w' w'.heap.size A n l :=
  ⟨h.len, fun j hj => by
    obtain ⟨ad, e, hb, hd⟩ := h.at_ j hj
    exact ⟨ad, e, Nat.lt_of_lt_of_le hb hl.size, hd.keep (by rw [block_add]; exact hb) fun _ hp => hl.cell hp⟩⟩
section
variable {H : Type} {enc : TypeId × Value → H} {P : Program} {w : World} {base : Nat} {spare : Nat → Bool} {held : Bool}
theorem cell_fields {t : TypeId} {fs : Array Field} {cs : List Value} {fuel : Nat} {y : DataW H × List MemPlace} (hs : P.underlying t = some (.struct fs)) (hone : oneCellFields P fs = true)
    (h : DataW.trod enc P w base spare held fuel t cs = some y) :
    ∃ fuel, ∀ (i : Nat) (f : Field) (u : Value), fs[i]? = some f → cs[i]? = some u → ∃ y, DataW.trod enc P w base spare held fuel f.type [u] = some y := by
  obtain ⟨xs, n, _, _, _, hxl, hat⟩ := DataW.trod_struct hs h
  refine ⟨n, fun i f u hi hu => ?_⟩
  obtain ⟨ho, hk⟩ := hone_of hone i f hi
  have h1 := hat i f hi
  rw [ho, hk] at h1
  have hil : i < cs.length := (List.getElem?_eq_some_iff.1 hu).1
  have hu' : cs[i]'hil = u := (List.getElem?_eq_some_iff.1 hu).2
  have e : (cs.drop i).take 1 = [u] := by rw [List.drop_eq_getElem_cons hil, List.take_succ_cons, List.take_zero, hu']
  have hix : i < xs.length := by rw [hxl]; exact (Array.getElem?_eq_some_iff.1 hi).1
  exact ⟨_, (by rw [← e]; exact h1.trans (List.getElem?_eq_getElem hix))⟩
theorem add_ne (a : Addr) (i : Nat) (h : i ≠ 0) : a.add i = ⟨a.block, a.off + i, none⟩ := by unfold Addr.add; rw [if_neg h]
theorem add_0 (a : Addr) : a.add 0 = a := by unfold Addr.add; rw [if_pos rfl]
theorem mkS_self (s : ByteArray) : ∃ l, s = mkS l ∧ l.length = s.size := ⟨s.data.toList, (mkS_of s).symm, rfl⟩
theorem rd_doings {t e tb ts tq tn : TypeId} {fs : Array Field} {a : Option Addr} {len cap : Nat} {d : DataW H} {p : List MemPlace} (ht : P.underlying t = some (.slice e)) (he : P.underlying e = some (.struct fs)) (hone : oneCellFields P fs = true) (hC : P.cellsOf e = 5)
    (hty : fs.toList.map (·.type) = [tb, ts, ts, tq, tn]) (h1 : P.underlying tb = some (.int .u8)) (h2 : P.underlying ts = some .string) (h3 : P.underlying tq = some .bool) (h4 : P.underlying tn = some (.int .i64))
    (h : DataW.Trod enc P w base spare held t (.slice a len cap) d p) : ∃ xs : List Doing, RdD w w.heap.size a len xs ∧ (∀ x ∈ xs, DoOk x) ∧ len ≤ cap ∧ cap ≤ maxLen := by
  obtain ⟨fuel, hf⟩ := h
  rcases open_slice ht hf with ⟨hcs, _⟩ | ⟨ad, l, c, m, n, D, Pl, hcs, _, hl, hm, hmm, _, hx⟩
  · simp [Value.cells] at hcs
    obtain ⟨rfl, rfl, rfl⟩ := hcs
    exact ⟨[], ⟨rfl, fun j hj => by simp at hj⟩, by simp, Nat.le_refl _, by simp [maxLen]⟩
  simp [Value.cells] at hcs
  obtain ⟨rfl, rfl, rfl⟩ := hcs
  have hlm : len ≤ m := by rw [hmm]; split <;> omega
  have hfs : ∀ i, i < 5 → ∃ f, fs[i]? = some f ∧ some f.type = [tb, ts, ts, tq, tn][i]? := by
    intro i hi
    have hlen : fs.toList.length = 5 := by have := congrArg List.length hty; simpa using this
    have hi' : i < fs.size := by simpa using (show i < fs.toList.length by omega)
    refine ⟨fs[i], Array.getElem?_eq_getElem hi', ?_⟩
    rw [← hty, List.getElem?_map]
    simp [Array.getElem?_toList, Array.getElem?_eq_getElem hi']
  have each : ∀ i, i < len → ∃ z : Doing, (ad.block < w.heap.size ∧ DoAt w (ad.add (i * 5)) z) ∧ DoOk z := by
    intro i hi
    obtain ⟨cs, hc1, hc2⟩ := hx i (by omega)
    rw [hC] at hc1
    obtain ⟨_, hlen, hcell⟩ := World.cells?_some hc1
    obtain ⟨fu, hfu⟩ := cell_fields he hone hc2
    have hq : (ad.add (i * 5)).block = ad.block := block_add ad (i * 5)
    generalize ad.add (i * 5) = q at hcell hq ⊢
    match cs, hlen with
    | [u0, u1, u2, u3, u4], _ =>
      obtain ⟨f0, g0, k0⟩ := hfs 0 (by omega)
      obtain ⟨f1, g1, k1⟩ := hfs 1 (by omega)
      obtain ⟨f2, g2, k2⟩ := hfs 2 (by omega)
      obtain ⟨f3, g3, k3⟩ := hfs 3 (by omega)
      obtain ⟨f4, g4, k4⟩ := hfs 4 (by omega)
      obtain ⟨y0, e0⟩ := hfu 0 f0 u0 g0 rfl
      obtain ⟨y1, e1⟩ := hfu 1 f1 u1 g1 rfl
      obtain ⟨y2, e2⟩ := hfu 2 f2 u2 g2 rfl
      obtain ⟨y3, e3⟩ := hfu 3 f3 u3 g3 rfl
      obtain ⟨y4, e4⟩ := hfu 4 f4 u4 g4 rfl
      have c0 := hcell 0 (by omega)
      have c1 := hcell 1 (by omega)
      have c2 := hcell 2 (by omega)
      have c3 := hcell 3 (by omega)
      have c4 := hcell 4 (by omega)
      rw [add_0] at c0
      rw [add_ne _ _ (by omega)] at c1 c2 c3 c4
      rw [Option.some.inj k0] at e0
      rw [Option.some.inj k1] at e1
      rw [Option.some.inj k2] at e2
      rw [Option.some.inj k3] at e3
      rw [Option.some.inj k4] at e4
      obtain ⟨x0, hx0, w0⟩ := field_int h1 e0
      obtain ⟨bs, hbs⟩ := bytes_of [x0] (by intro r hr; simp at hr; subst hr; exact w0)
      obtain ⟨s1, rfl, z1⟩ := field_string h2 e1
      obtain ⟨s2, rfl, z2⟩ := field_string h2 e2
      obtain ⟨x3, hx3, _⟩ := DataW.trod_bool h3 e3
      obtain ⟨x4, rfl, w4⟩ := field_int h4 e4
      obtain ⟨t1, rfl, l1⟩ := mkS_self s1
      obtain ⟨t2, rfl, l2⟩ := mkS_self s2
      simp at hx3
      subst hx3
      match bs, hbs with
      | [b], hbs =>
        simp at hbs
        rw [hx0] at c0
        have hlow := World.block_lt_of_cell? w _ c0
        refine ⟨⟨b, t1, t2, x3, x4⟩, ⟨by rw [← hq]; exact hlow, ⟨?_, c1, c2, c3, c4⟩⟩, ?_, ?_, bounds_i64 w4⟩
        · rw [show (⟨q.block, q.off, q.spot⟩ : Addr) = q from rfl]
          exact c0.trans (by rw [hbs]; rfl)
        · simp only [maxLen] at z1; show t1.length ≤ _; omega
        · simp only [maxLen] at z2; show t2.length ≤ _; omega
  obtain ⟨F, hF⟩ := choose_lt each
  refine ⟨(List.range len).map F, ⟨by simp, fun j hj => ?_⟩, fun x hx => ?_, hl, hm⟩
  · have hj' : j < len := by simpa using hj
    refine ⟨ad, rfl, (hF j hj').1.1, ?_⟩
    simp only [List.getElem_map, List.getElem_range]
    exact (hF j hj').1.2
  · obtain ⟨j, hj, rfl⟩ := List.mem_map.1 hx
    exact (hF j (by simpa using hj)).2
end
end En
end Go.Proofs.YtmijploffdoenaaDoor
