/- Scripts' trees: two runs of the parser side by side: the relation, and what joins two runs. No premises. -/
import Derived.Test.YtkkchkkpnlnbgaaGreatDoorNn
import Derived.Test.YtkkchkkpnlnbgaaGreatDoorOa
import Derived.BigQuiet
import Derived.Test.YtkkchkkpnlnbgaaGreatDoorNb
namespace Go.Proofs.YtkkchkkpnlnbgaaGreatDoor
namespace Sx
open Lx (Tok)
structure Same (t u : Tok) : Prop where
  kind : u.kind = t.kind
  text : u.text = t.text
  body : t.kind ≠ 3 → u.body = t.body
section
variable {D : Prop} {Q r q : List Tok}
end
section
variable {D : Prop} {Q : List Tok} {pre : List Node} {s s' : St}
end
section
variable {D : Prop} {Q : List Tok} {pre : List Node} {α β γ δ : Type}
end
end Sx
end Go.Proofs.YtkkchkkpnlnbgaaGreatDoor
/- The document's texts: rows of texts that read alike are the same. No premises. -/
namespace Go.Proofs.YtkkchkkpnlnbgaaGreatDoor
open Go.RowKit Go.Maps
open Lx (nl Tok)
open Pz
end Go.Proofs.YtkkchkkpnlnbgaaGreatDoor
/- The document's Node: nodes that read alike are the same, but for their lines. No premises. -/
namespace Go.Proofs.YtkkchkkpnlnbgaaGreatDoor
open Go.RowKit Go.Maps
open Lx (nl Tok)
open Pz
def RdR (w : World) (B : Nat) (A : Option Addr) (n : Nat) (rs : List Sx.Arw) : Prop := rs.length = n ∧ ∀ (k : Nat) (h : k < rs.length), ∃ g, A = some ⟨g, 0, none⟩ ∧ g < B ∧ w.cell? ⟨g, k * 4, none⟩ = some (.int .i64 (rs[k].fd : Int)) ∧ w.cell? ⟨g, k * 4 + 1, none⟩ = some (.string (mkS rs[k].op)) ∧ w.cell? ⟨g, k * 4 + 2, none⟩ = some (.string (mkS rs[k].word)) ∧ w.cell? ⟨g, k * 4 + 3, none⟩ = some (.string (mkS rs[k].body))
theorem RdR.below {w w' : World} {B n : Nat} {A : Option Addr} {rs : List Sx.Arw} (h : RdR w B A n rs) (hb : Below B w w') : RdR w' B A n rs := by
  refine ⟨h.1, fun k hk => ?_⟩
  obtain ⟨g, e, hg, c0, c1, c2, c3⟩ := h.2 k hk
  exact ⟨g, e, hg, (hb.cell (p := ⟨g, k * 4, none⟩) hg).trans c0, (hb.cell (p := ⟨g, k * 4 + 1, none⟩) hg).trans c1, (hb.cell (p := ⟨g, k * 4 + 2, none⟩) hg).trans c2, (hb.cell (p := ⟨g, k * 4 + 3, none⟩) hg).trans c3⟩
theorem RdR.more {w : World} {B B' n : Nat} {A : Option Addr} {rs : List Sx.Arw} (h : RdR w B A n rs) (hB : B ≤ B') : RdR w B' A n rs := by
  refine ⟨h.1, fun k hk => ?_⟩
  obtain ⟨g, e, hg, c⟩ := h.2 k hk
  exact ⟨g, e, Nat.lt_of_lt_of_le hg hB, c⟩
theorem rcs_at : ∀ (rs : List Sx.Arw) (k : Nat) (hk : k < rs.length) (i : Nat) (_ : i < 4), (rs.flatMap rcs)[k * 4 + i]? = (rcs rs[k])[i]?
  | [], k, hk, _, _ => by simp at hk
  | x :: rs, 0, _, i, hi => by
    rw [List.flatMap_cons, List.getElem?_append_left (by simp [rcs]; omega)]
    simp
  | x :: rs, k + 1, hk, i, hi => by
    have hl : (rcs x).length = 4 := rfl
    rw [List.flatMap_cons, List.getElem?_append_right (by omega), hl, show (k + 1) * 4 + i - 4 = k * 4 + i by omega, rcs_at rs k (by simpa using hk) i hi]
    rfl
theorem RdR.of_own {w : World} {A : Option Addr} {c : Nat} {rs : List Sx.Arw} (h : w.ownsRow 0 79 4 (.slice A rs.length c) rs.length (rs.flatMap rcs)) : RdR w w.heap.size A rs.length rs := by
  refine ⟨rfl, fun k hk => ?_⟩
  rcases h.2 with ⟨hv, hn⟩ | ⟨g, cap, cur, hv, hb, hh, hnc, hcm, hcs, htake⟩
  · omega
  · injection hv with e1 e2 e3
    subst e1
    have hat : ∀ i, i < 4 → ∀ u, (rcs rs[k])[i]? = some u → w.cell? ⟨g, k * 4 + i, none⟩ = some u := fun i hi u hu => by
      have hc := h.cells (g := g) rfl (k * 4 + i) u (by rw [rcs_at rs k hk i hi]; exact hu)
      rwa [add_lit0] at hc
    have c0 := hat 0 (by omega) _ rfl
    exact ⟨g, rfl, World.block_lt_of_cell? w _ c0, c0, hat 1 (by omega) _ rfl, hat 2 (by omega) _ rfl, hat 3 (by omega) _ rfl⟩
end Go.Proofs.YtkkchkkpnlnbgaaGreatDoor
/- The document's Same: rows of nodes that read alike are the same, but for their lines. No premises. -/
namespace Go.Proofs.YtkkchkkpnlnbgaaGreatDoor
open Go.RowKit Go.Maps
open Lx (nl Tok)
open Pz
structure NodeC (W : World) (g o : Nat) (n : Sx.Node) (Aw Ar Ak : Option Addr) (cw cr ck : Nat) (ln : Int) : Prop where
  c0 : W.cell? ⟨g, o, none⟩ = some (.int .i64 (n.kind : Int))
  c1 : W.cell? ⟨g, o + 1, none⟩ = some (.string (mkS n.text))
  c2 : W.cell? ⟨g, o + 2, none⟩ = some (.bool n.flag)
  c3 : W.cell? ⟨g, o + 3, none⟩ = some (.slice Aw n.words.length cw)
  c4 : W.cell? ⟨g, o + 4, none⟩ = some (.int .i64 (n.sets : Int))
  c5 : W.cell? ⟨g, o + 5, none⟩ = some (.slice Ar n.redirs.length cr)
  c6 : W.cell? ⟨g, o + 6, none⟩ = some (.slice Ak n.kids.length ck)
  c7 : W.cell? ⟨g, o + 7, none⟩ = some (.int .i64 ln)
  w : Rd W W.heap.size Aw n.words.length (n.words.map sv)
  r : RdR W W.heap.size Ar n.redirs.length n.redirs
  k : Rd W W.heap.size Ak n.kids.length (n.kids.map iv)
  mw : n.words.length ≤ maxLen
  mr : n.redirs.length ≤ maxLen
  ml : n.kids.length ≤ maxLen
theorem NodeC.later {W W' : World} {g o : Nat} {n : Sx.Node} {Aw Ar Ak : Option Addr} {cw cr ck : Nat} {ln : Int} (h : NodeC W g o n Aw Ar Ak cw cr ck ln) (hl : Later W W') : NodeC W' g o n Aw Ar Ak cw cr ck ln :=
  ⟨cell_keeps hl h.c0, cell_keeps hl h.c1, cell_keeps hl h.c2, cell_keeps hl h.c3, cell_keeps hl h.c4, cell_keeps hl h.c5, cell_keeps hl h.c6, cell_keeps hl h.c7, (h.w.below hl).more hl.size, (h.r.below hl).more hl.size, (h.k.below hl).more hl.size, h.mw, h.mr, h.ml⟩
def RdN (W : World) (A : Option Addr) (n : Nat) (ns : List Sx.Node) : Prop := ns.length = n ∧ ∀ (k : Nat) (h : k < ns.length), ∃ g Aw Ar Ak cw cr ck ln, A = some ⟨g, 0, none⟩ ∧ NodeC W g (k * 8) ns[k] Aw Ar Ak cw cr ck ln
theorem RdN.later {W W' : World} {A : Option Addr} {n : Nat} {ns : List Sx.Node} (h : RdN W A n ns) (hl : Later W W') : RdN W' A n ns := by
  refine ⟨h.1, fun k hk => ?_⟩
  obtain ⟨g, Aw, Ar, Ak, cw, cr, ck, ln, e, h1⟩ := h.2 k hk
  exact ⟨g, Aw, Ar, Ak, cw, cr, ck, ln, e, h1.later hl⟩
theorem own_most {w : World} {base size n : Nat} {e : TypeId} {v : Value} {xs : List Value} (h : w.ownsRow base e size v n xs) : n ≤ maxLen := by
  rcases h.2 with ⟨_, h0⟩ | ⟨g, cap, cur, _, _, _, hnc, hcm, _⟩
  · rw [h0]; exact Nat.zero_le _
  · exact Nat.le_trans hnc hcm
theorem RdN.of_tree {W : World} {N n c : Nat} {A : Option Addr} {ns : List Sx.Node} (h : TreeM W N (.slice A n c) ns) (hn : ns.length = n) : RdN W A n ns := by
  refine ⟨hn, fun k hk => ?_⟩
  rcases h.at_ with h0 | ⟨g, rfl, hat⟩
  · rw [h0] at hk; cases hk
  · obtain ⟨v, h1, h2⟩ := hat k hk
    obtain ⟨Aw, cw, e1, _⟩ := own_any h2.w
    obtain ⟨Ar, cr, e2, _⟩ := own_any h2.r
    obtain ⟨Ak, ck, e3, _⟩ := own_any h2.k
    have hw := h2.w
    have hr := h2.r
    have hk := h2.k
    rw [e1] at hw
    rw [e2] at hr
    rw [e3] at hk
    obtain ⟨ln, hln⟩ : ∃ ln : Int, lnv N ns[k].left = .int .i64 ln := ⟨_, rfl⟩
    exact ⟨g, Aw, Ar, Ak, cw, cr, ck, ln, rfl, h1.c0, h1.c1, h1.c2, by rw [h1.c3, e1], h1.c4, by rw [h1.c5, e2], by rw [h1.c6, e3], by rw [h1.c7, hln], Rd.of_own hw, RdR.of_own hr, Rd.of_own hk, own_most hw, own_most hr, own_most hk⟩
end Go.Proofs.YtkkchkkpnlnbgaaGreatDoor
/- What Parse gives, for a walk that only compares trees. No premises. -/
namespace Go.Proofs.YtkkchkkpnlnbgaaGreatDoor
open Go.RowKit Go.Maps
open Lx (nl Tok)
open Pz
theorem sgetk (l : List UInt8) (k : Nat) (_ : k < l.length) : ∀ h, (mkS l)[k]'h = l[k] := fun _ => rfl
end Go.Proofs.YtkkchkkpnlnbgaaGreatDoor
