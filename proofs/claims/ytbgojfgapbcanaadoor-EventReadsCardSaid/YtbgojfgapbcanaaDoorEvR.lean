/- event's row: how many texts, and these, as bytes. -/
import Derived.Test.YtbgojfgapbcanaaDoorEvS
import Derived.Test.YtbgojfgapbcanaaDoorPutT
import Derived.Test.YtbgojfgapbcanaaDoorLater
namespace Go.Proofs.YtbgojfgapbcanaaDoor
open Go.RowKit
/-- v is made by the call: new memory, that reads as L; nothing that was there has turned. -/
structure Made (w w' : World) (v : Value) (L : List UInt8) : Prop where
  bel : Below w.heap.size w w'
  own : w'.ownsRow w.heap.size 5 1 v (L.map bv).length (L.map bv)
theorem rd_later {w w' : World} {A : Option Addr} {n : Nat} {xs : List Value} (h : Rd w w.heap.size A n xs) (hl : Later w w') : Rd w' w'.heap.size A n xs := (h.below hl).more hl.size
theorem own_lower {w : World} {base b' n : Nat} {e : TypeId} {v : Value} {xs : List Value} (h : w.ownsRow base e 1 v n xs) (hb : b' ≤ base) : w.ownsRow b' e 1 v n xs := by
  refine ⟨h.1, ?_⟩
  rcases h.2 with h1 | ⟨g, cap, cur, h1, h2, h3⟩
  · exact .inl h1
  · exact .inr ⟨g, cap, cur, h1, Nat.le_trans hb h2, h3⟩
theorem Made.of_grew {w w1 w' : World} {v : Value} {L : List UInt8} {c : Nat} (hb : Below w.heap.size w w1) (h : Grew w1 w' w1.heap.size 5 (.slice none 0 c) v (L.map bv)) : Made w w' v L :=
  ⟨hb.trans (h.belowNil.mono hb.size), own_lower h.own hb.size⟩
theorem Made.below {w w' w'' : World} {v : Value} {L : List UInt8} (h : Made w w' v L) (hb : Below w'.heap.size w' w'') : Made w w'' v L :=
  ⟨h.1.trans (hb.mono h.1.size), own_below h.2 hb⟩
theorem Made.grew {w w' w'' : World} {v v' : Value} {L M : List UInt8} (h : Made w w' v L) (hg : Grew w' w'' w.heap.size 5 v v' (L.map bv ++ M.map bv)) : Made w w'' v' (L ++ M) := by
  refine ⟨h.1.trans (hg.below h.2 h.1.size), ?_⟩
  have := hg.own
  rw [← List.map_append] at this
  exact this
theorem Made.cut {w w1 w' : World} {v : Value} {L : List UInt8} (hb : Below w.heap.size w w1) (h : Made w1 w' v L) : Made w w' v L :=
  ⟨hb.trans (h.1.mono hb.size), own_lower h.2 hb.size⟩
/-- As a slice. -/
theorem Made.slice {w w' : World} {v : Value} {L : List UInt8} (h : Made w w' v L) : ∃ A c, v = .slice A L.length c ∧ L.length ≤ c ∧ Rd w' w'.heap.size A L.length (L.map bv) := by
  obtain ⟨A, c, h1, h2, h3, _⟩ := own_map h.own
  exact ⟨A, c, h1, h2, h3⟩
theorem Made.cap {w w' : World} {A : Option Addr} {n c : Nat} {L : List UInt8} (h : Made w w' (.slice A n c) L) : c ≤ maxLen := by
  rcases h.own.2 with ⟨h1, _⟩ | ⟨g, cap, cur, hv, _, _, _, h6, _⟩
  · injection h1 with _ _ h3; subst h3; unfold maxLen; omega
  · injection hv with _ _ h3; rw [h3]; exact h6
theorem textsL_B (l : List (List UInt8)) : textsL (l.map mkS) = textsB l := by
  unfold textsL textsB
  rw [List.flatMap_map]
  congr 1
theorem map_sv (l : List (List UInt8)) : l.map sv = (l.map mkS).map Value.string := by rw [List.map_map]; rfl
theorem textsU_v (A : Option Addr) (n cap B : Nat) (l : List (List UInt8)) (w : World) (hr : Rd w B A n (l.map sv)) (hB : B ≤ w.heap.size) (hn : n ≤ 140737488351232) (hx : (textsB l).length ≤ 100000000000000) :
    Calls Tryd.prog 33 #[.slice A n cap] w fun e w' => ∃ v', e = .returned v' ∧ Made w w' v' (textsB l) := by
  refine (texts_v A n cap B (l.map mkS) w (by rw [← map_sv]; exact hr) hB hn (by rw [textsL_B]; exact hx)).mono ?_
  rintro e w' ⟨v', rfl, hg⟩
  rw [textsL_B] at hg
  exact ⟨v', rfl, Made.of_grew (Below.refl _ _) hg⟩
theorem putU_v (A : Option Addr) (n cap B : Nat) (l : List Nat) (w : World) (hr : Rd w B A n (l.map nv)) (hB : B ≤ w.heap.size) (hn : n ≤ 1000000000000) (hx : ∀ x ∈ l, x < 18446744073709551616) :
    Calls Tryd.prog 31 #[.slice A n cap] w fun e w' => ∃ v', e = .returned v' ∧ Made w w' v' (putL l) := by
  refine (put_v A n cap B l w hr hB hn hx).mono ?_
  rintro e w' ⟨v', rfl, hg⟩
  exact ⟨v', rfl, Made.of_grew (Below.refl _ _) hg⟩
theorem putL_one (x : Nat) : putL [x] = numL x := by simp [putL]
set_option maxRecDepth 100000 in
theorem row_v (A : Option Addr) (n cap : Nat) (l : List (List UInt8)) (w : World) (hr : Rd w w.heap.size A n (l.map sv)) (hn : n ≤ 1000000000000) (hx : (textsB l).length ≤ 1000000000000) :
    Calls Tryd.prog 34 #[.slice A n cap, .func (.func 33) #[] #[]] w fun e w' => ∃ v', e = .returned v' ∧ Made w w' v' (numL l.length ++ textsB l) := by
  obtain ⟨i0, hi, hz0, hz1, hz2⟩ := info_parts info_u8
  have hl := Lib.hid hr.len_map
  have hw : IntKind.u64.wrap (n : Int) = (n : Int) := by rw [IntKind.wrap_u64]; omega
  have h64 := Lib.hid (show ∀ x ∈ [n], x < 18446744073709551616 by simp; omega)
  have h10 := Lib.hid (numL_ten (show n < 18446744073709551616 by omega))
  have HR := Lib.hid hr
  have HX := Lib.hid hx
  have hb1 := Lib.hid (Later.alloc w (.cells #[.int .u64 (n : Int)] 56))
  have hlit := Lib.hid (Rd.lit w 56 ([n].map nv))
  clear hr hx
  go_enter Tryd.func34, Tryd.ntmps34
  go_wp2_with (first
    | (go_at_call 31; (with_reducible refine (putU_v _ 1 1 _ [n] _ hlit.out ?hB ?hN h64.out).mono ?_); (case hB => simp); (case hN => omega); rintro e w1 ⟨v1, rfl, hm1⟩; rw [putL_one] at hm1; have M1 := Lib.hid (Made.cut (w := w) hb1.out hm1); clear hm1)
    | (go_at_call 33; (with_reducible refine (textsU_v A n cap _ l w1 (HR.out.below M1.out.bel) M1.out.bel.size ?hN2 ?hX2).mono ?_); (case hN2 => omega); (case hX2 => have := HX.out; omega); rintro e w2 ⟨v2, rfl, hm2⟩; obtain ⟨A2, c2, rfl, hc2, hr2⟩ := hm2.slice; have M2 := Lib.hid (M1.out.below hm2.bel); have R2 := Lib.hid hr2; clear hm2 hr2)
    | (at_builtin; refine wpList_appN w2 rfl (.tmp 9) (.tmp 12) _ rfl w.heap.size 5 i0 (.int .u8 0) 1 Tryd.underlying33 hi hz0 hz1 hz2 rfl v1 _ rfl M2.out.own w2.heap.size A2 _ c2 _ rfl R2.out (bv_one _) ?hby ?hle M2.out.bel.size ?_; (case hby => have := HX.out; have := h10.out; simp; omega); (case hle => have := HX.out; have := h10.out; simp; omega); intro v3 w3 hg3))
  go_ret
  exact ⟨v3, rfl, by rw [hl.out]; exact M2.out.grew hg3⟩
end Go.Proofs.YtbgojfgapbcanaaDoor
