/- The document's example; tables that are made. Behind the powers of ten. -/
import Derived.Test.YtjijbgogdaafdaaDoorQo
import Derived.Test.YtjijbgogdaafdaaDoorQk
namespace Go.Proofs.YtjijbgogdaafdaaDoor
open Go.RowKit Go.Maps
theorem toList_mkS (l : List UInt8) : (mkS l).toList = l := by
  rw [ByteArray.toList_eq]; simp [mkS]
namespace Fd
set_option maxRecDepth 100000
/-- A table that is looked at. -/
structure Gd (L : Ps) (m : Nat) : Prop where
  up : Rises L
  ok : Ok L
  len : L.length ≤ m
theorem Gd.first : Gd first 3 := ⟨rises_first, ok_first, Nat.le_refl _⟩
theorem Gd.wi {L : Ps} {m : Nat} (h : Gd L m) {x k : Int} (hx : In x) (hk : In k) : Gd (wi L x k) (m + 1) := ⟨rises_wi h.up x k, ok_wi h.ok hx hk, Nat.le_trans (len_wi L x k) (Nat.succ_le_succ h.len)⟩
theorem Gd.wo {L : Ps} {m : Nat} (h : Gd L m) (x : Int) : Gd (wo L x) m := ⟨rises_wo h.up x, ok_wo h.ok x, Nat.le_trans (len_wo L x) h.len⟩
theorem Gd.more {L : Ps} {m n : Nat} (h : Gd L m) (hmn : m ≤ n) : Gd L n := ⟨h.up, h.ok, Nat.le_trans h.len hmn⟩
def L1 : Ps := [(0, 0), (1, 7), (2, 2)]
def L2 : Ps := [(0, 0), (2, 2)]
theorem l1_eq : wi first 1 7 = L1 := rfl
theorem l2_eq : wo L1 1 = L2 := rfl
theorem d_of {n : Nat} (h : n < 10) : Lib.itoa (n : Int) = [UInt8.ofNat (48 + n)] := by
  unfold Lib.itoa
  rw [if_neg (by omega), Int.toNat_natCast, Lib.decDigits, dif_pos h]
theorem text_1 : text L1 = [48, 61, 48, 32, 49, 61, 55, 32, 50, 61, 50] := by
  have e0 : Lib.itoa 0 = [48] := d_of (n := 0) (by omega)
  have e1 : Lib.itoa 1 = [49] := d_of (n := 1) (by omega)
  have e7 : Lib.itoa 7 = [55] := d_of (n := 7) (by omega)
  have e2 : Lib.itoa 2 = [50] := d_of (n := 2) (by omega)
  unfold text L1 one
  simp only [List.map_cons, List.map_nil, e0, e1, e7, e2]
  rfl
set_option maxHeartbeats 3200000 in
theorem awake_v (W : World) (hT : Tb W) : Calls Tryd.prog 5 #[] W fun e W' => e = .returned (.bool true) ∧ Later W W' := by
  have HT := Lib.hid hT
  have g1 : Gd L1 4 := by rw [← l1_eq]; exact Gd.first.wi (by unfold In; omega) (by unfold In; omega)
  have HF := Lib.hid (first_v W)
  clear hT
  go_enter Tryd.func5, Tryd.ntmps5
  go_wp2_with fail
  go_at_call 6
  with_reducible refine HF.out.mono ?_
  rintro e w1 ⟨⟨v1, rfl, h1⟩, hl1⟩
  have HL1 := Lib.hid hl1
  have HW := Lib.hid (with_v v1 first 1 7 w1 h1 rises_first (by show 3 ≤ _; omega))
  obtain ⟨A1, c1, rfl, _⟩ := h1.le
  clear h1 hl1
  go_wp2_with fail
  go_at_call 11
  with_reducible refine HW.out.mono ?_
  rintro e w2 ⟨⟨v2, rfl, h2⟩, hl2⟩
  have HL2 := Lib.hid (HL1.out.trans hl2)
  rw [l1_eq] at h2
  have H2 := Lib.hid h2
  have HG := Lib.hid (get_v v2 L1 1 w2 h2 g1.up (by show 3 ≤ _; omega))
  rw [show get L1 1 = (7, true) from rfl] at HG
  obtain ⟨A2, c2, rfl, _⟩ := h2.le
  clear h2 hl2
  go_wp2_with fail
  go_at_call 14
  with_reducible refine HG.out.mono ?_
  rintro e w3 ⟨rfl, hl3⟩
  have H3 := Lib.hid (H2.out.later hl3)
  have HL3 := Lib.hid (HL2.out.trans hl3)
  have HO := Lib.hid (without_v _ L1 1 w3 H3.out (by show 3 ≤ _; omega))
  clear hl3
  go_wp2_with fail
  go_at_call 9
  with_reducible refine HO.out.mono ?_
  rintro e w4 ⟨⟨v4, rfl, h4⟩, hl4⟩
  rw [l2_eq] at h4
  have H4 := Lib.hid (H3.out.later hl4)
  have HL4 := Lib.hid (HL3.out.trans hl4)
  have HG4 := Lib.hid (get_v v4 L2 1 w4 h4 (by unfold Rises L2; simp) (by show 2 ≤ _; omega))
  rw [show get L2 1 = (0, false) from rfl] at HG4
  obtain ⟨A4, c4, rfl, _⟩ := h4.le
  clear h4 hl4
  go_wp2_with fail
  go_at_call 14
  with_reducible refine HG4.out.mono ?_
  rintro e w5 ⟨rfl, hl5⟩
  have HL5 := Lib.hid (HL4.out.trans hl5)
  have HS := Lib.hid (show_v _ L1 w5 (H4.out.later hl5) g1.ok (by show 3 ≤ _; omega) (HT.out.later HL5.out))
  rw [text_1] at HS
  have htl : (mkS [48, 61, 48, 32, 49, 61, 55, 32, 50, 61, 50]).toList = [48, 61, 48, 32, 49, 61, 55, 32, 50, 61, 50] := toList_mkS _
  clear hl5
  go_wp2_with (go_at_call 13; (with_reducible refine HS.out.mono ?_); rintro e w6 ⟨rfl, hl6⟩; (have HL6 := Lib.hid (HL5.out.trans hl6)); clear hl6)
  go_ret
  exact ⟨rfl, HL6.out⟩
/-- Tables by all that is put. -/
def ot (l : List Deed) : Ps := l.foldl (fun t d => wi t d.fd d.k) first
def stp (t : Ps) (d : Deed) : Ps := if d.no = true then wo t d.fd else wi t d.fd d.k
def pl (l : List Deed) : Ps := l.foldl stp first
theorem ot_step {l : List Deed} {i : Nat} (h : i < l.length) : ot (l.take (i + 1)) = wi (ot (l.take i)) l[i].fd l[i].k := by
  unfold ot
  rw [List.take_succ_eq_append_getElem h, List.foldl_append]
  rfl
theorem pl_step {l : List Deed} {i : Nat} (h : i < l.length) : pl (l.take (i + 1)) = stp (pl (l.take i)) l[i] := by
  unfold pl
  rw [List.take_succ_eq_append_getElem h, List.foldl_append]
  rfl
theorem gd_ot {l : List Deed} (hk : ∀ d ∈ l, DdOk d) : ∀ i, i ≤ l.length → Gd (ot (l.take i)) (3 + i)
  | 0, _ => Gd.first
  | i + 1, h => by
    rw [ot_step (by omega)]
    have hd := hk _ (List.getElem_mem (show i < l.length by omega))
    exact (gd_ot hk i (by omega)).wi hd.1 hd.2
theorem gd_pl {l : List Deed} (hk : ∀ d ∈ l, DdOk d) : ∀ i, i ≤ l.length → Gd (pl (l.take i)) (3 + i)
  | 0, _ => Gd.first
  | i + 1, h => by
    rw [pl_step (by omega)]
    have hd := hk _ (List.getElem_mem (show i < l.length by omega))
    unfold stp
    split
    · exact ((gd_pl hk i (by omega)).wo _).more (by omega)
    · exact (gd_pl hk i (by omega)).wi hd.1 hd.2
end Fd
end Go.Proofs.YtjijbgogdaafdaaDoor
