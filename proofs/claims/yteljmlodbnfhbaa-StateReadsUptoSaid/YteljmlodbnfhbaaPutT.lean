/- varint's Texts: the bytes that it makes. -/
import Derived.Test.YteljmlodbnfhbaaPutN
namespace Go.Proofs.Yteljmlodbnfhbaa
open Go.RowKit
theorem textL_len (s : ByteArray) : (textL s).length = (numL s.size).length + s.size := by rw [textL, List.length_append, size_toList]
theorem texts_at (l : List ByteArray) (k : Nat) (hl : k < l.length) {T : Nat} (hx : (textsL l).length ≤ T) : (textsL (l.take k)).length + (numL l[k].size).length + l[k].size ≤ T := by
  have h1 := flat_at_len textL l k hl
  rw [textL_len] at h1
  exact Nat.le_trans (by rw [Nat.add_assoc]; exact h1) hx
set_option maxRecDepth 100000 in
theorem texts_v (A : Option Addr) (n cap B : Nat) (l : List ByteArray) (w : World) (hr : Rd w B A n (l.map Value.string)) (hB : B ≤ w.heap.size) (hn : n ≤ 140737488351232) (hx : (textsL l).length ≤ 100000000000000) :
    Calls Try.prog 52 #[.slice A n cap] w fun e w' => ∃ v', e = .returned v' ∧ Grew w w' w.heap.size 5 (.slice none 0 0) v' ((textsL l).map bv) := by
  obtain ⟨i0, hi, hz0, hz1, hz2⟩ := info_parts info_u8
  have hlen := Lib.hid hr.len_map
  have HX := Lib.hid hx
  have HR := Lib.hid hr
  clear hx hr
  go_enter Try.func52, Try.ntmps52
  go_wp2
  go_loopw [3, 8] (fun v i wr => ∃ k : Nat, k ≤ n ∧ i = .int .i64 (k : Int) ∧ Grew w wr w.heap.size 5 (.slice none 0 0) v ((textsL (l.take k)).map bv)) (fun _ i _ => n - (intOf i).toNat)
  case atStart => exact ⟨0, by omega, rfl, Grew.nil _ _ _⟩
  case round =>
    obtain ⟨k, hk, rfl, hg⟩ := hrel
    have hsz := hg.grown.size
    by_cases hlt : k < n
    · obtain ⟨ad, hl, rfl, hb, hc⟩ := (HR.out.below (hg.belowNil.mono hB)).at_map (k := k) hlt
      obtain ⟨s, hs⟩ : ∃ s, s = l[k] := ⟨_, rfl⟩
      rw [← hs] at hc
      have hbl : (textsL (l.take k)).length + (numL s.size).length + s.size ≤ 100000000000000 := by
        rw [hs]; exact texts_at l k hl HX.out
      have hw : IntKind.u64.wrap (s.size : Int) = (s.size : Int) := by rw [IntKind.wrap_u64]; omega
      have HS := Lib.hid hs
      have HG := Lib.hid hg
      clear hs hg
      have hs64 := Lib.hid (show s.size < 18446744073709551616 by omega)
      go_wp2_with (first
        | (go_at_call 72; refine (add_v w.heap.size _ (textsL (l.take k)) s.size wr HG.out.own hsz hs64.out (by omega)).mono ?_; rintro e w1 ⟨v1, rfl, hg1⟩; have hsz1 := hg1.grown.size)
        | (at_builtin; refine wpList_appS w1 rfl (.tmp 17) (.tmp 18) _ _ rfl w.heap.size 5 i0 Try.underlying43 Try.underlying9 hi hz0 hz1 hz2 v1 _ rfl hg1.own s rfl (by simp; omega) (by omega) ?_; intro v2 w2 hg2))
      go_roundw
      case rel =>
        refine ⟨k + 1, by omega, by go_num, ?_⟩
        have e : textsL (l.take (k + 1)) = (textsL (l.take k) ++ numL s.size) ++ s.data.toList := by
          rw [HS.out, List.append_assoc]; exact flat_snoc textL l k hl
        rw [e, List.map_append]
        exact (HG.out.trans hg1).trans hg2
      case measure => simp [intOf]; omega
    · have e : l.take k = l := by rw [List.take_of_length_le]; have := hlen.out; omega
      rw [e] at hg
      clear e
      go_wp2
      go_ret
      exact ⟨_, rfl, hg⟩
end Go.Proofs.Yteljmlodbnfhbaa
