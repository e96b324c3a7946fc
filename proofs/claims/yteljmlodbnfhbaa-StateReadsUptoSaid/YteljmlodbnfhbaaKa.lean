/- THE DOCUMENT'S numbers, truths, texts, rows of texts and of numbers, as bytes. No premises. -/
import Derived.Test.YteljmlodbnfhbaaKs
import Derived.Test.YteljmlodbnfhbaaZz
import Derived.Test.YteljmlodbnfhbaaRefNum
import Derived.BigQuiet
namespace Go.Proofs.Yteljmlodbnfhbaa
open Go.RowKit
namespace Ks
theorem zig_eq {x : Int} (h : I64 x) : zigOf x = (((zig x).toNat : Nat) : Int) := by
  have h1 := (zig_nat h.1 h.2)
  unfold zigOf zig
  unfold zig at h1
  split <;> omega
theorem numP_len {x : Int} (h : I64 x) : (numP x).length ≤ 10 := numL_ten (zig_nat h.1 h.2)
/-- A row's place in a later world. -/
theorem Row.later {α : Type} {r : Rp α} {w w' : World} {A : Option Addr} {l : List α} (h : Row r w w.heap.size A l) (hl : Later w w') : Row r w' w'.heap.size A l := (h.keep fun _ hp => hl.cell hp).more hl.size
theorem Row.txt_at {w : World} {n : Nat} {A : Option Addr} {l : List B} (h : Row rtxt w n A l) {k : Nat} (hk : k < l.length) : ∃ ad, A = some ad ∧ ad.block < n ∧ w.cell? (ad.add k) = some (.string (mkS l[k])) ∧ l[k].length ≤ 9223372036854775807 := by
  obtain ⟨ad, cs, e, hb, hc, hu⟩ := h.at_ hk (by decide)
  have h1 := hu 0 (.string (mkS l[k])) (by rw [hc.1]; rfl)
  exact ⟨ad, e, hb, by simpa [rtxt] using h1, hc.2⟩
theorem Row.num_at {w : World} {n : Nat} {A : Option Addr} {l : List Int} (h : Row rnum w n A l) {k : Nat} (hk : k < l.length) : ∃ ad, A = some ad ∧ ad.block < n ∧ w.cell? (ad.add k) = some (.int .i64 l[k]) ∧ I64 l[k] := by
  obtain ⟨ad, cs, e, hb, hc, hu⟩ := h.at_ hk (by decide)
  have h1 := hu 0 (.int .i64 l[k]) (by rw [hc.1]; rfl)
  exact ⟨ad, e, hb, by simpa [rnum] using h1, hc.2⟩
theorem many_snoc_put {α : Type} (c : Cd α) (l : List α) (k : Nat) (h : k < l.length) : manyP c (l.take (k + 1)) = manyP c (l.take k) ++ c.put l[k] := flat_snoc c.put l k h
theorem many_le {α : Type} (c : Cd α) (l : List α) (k : Nat) (h : k < l.length) : (manyP c (l.take k)).length + (c.put l[k]).length ≤ (manyP c l).length := flat_at_len c.put l k h
theorem text_v (t : B) (w : World) (ht : t.length ≤ 1000000000) :
    Calls Try.prog 41 #[.string (mkS t)] w fun e w' => e = .returned (.string (mkS (textB t))) ∧ Later w w' := by
  have hs := mkS_size t
  obtain ⟨n, hn⟩ : ∃ n, n = t.length := ⟨_, rfl⟩
  rw [← hn] at hs ht
  have hw : IntKind.u64.wrap (n : Int) = (n : Int) := by rw [IntKind.wrap_u64]; omega
  have hb : mkS (numL n) ++ mkS t = mkS (textB t) := by rw [mkS_add, hn]; rfl
  have h10 := numL_ten (show n < 18446744073709551616 by omega)
  have hs2 := mkS_size (numL n)
  have hs3 : (mkS (numL n)).size ≤ 10 := by omega
  have HN := Lib.hid hn
  clear hn hs2 h10
  go_enter Try.func41, Try.ntmps41
  go_wp2_with (go_at_call 42; (with_reducible refine (refNum_v n _ ?hx).mono ?_); (case hx => omega); rintro e w1 ⟨rfl, hb1⟩; have HB1 := Lib.hid hb1; clear hb1)
  go_ret
  exact ⟨by rw [← hb]; rfl, HB1.out⟩
theorem n_v (x : Int) (hx : I64 x) (w : World) : Calls Try.prog 19 #[.int .i64 x] w fun e w' => e = .returned (.string (mkS (numP x))) ∧ Later w w' := by
  have hz := zig_eq hx
  obtain ⟨z, hzz⟩ : ∃ z, z = (zig x).toNat := ⟨_, rfl⟩
  have hp : numP x = numL z := by rw [hzz]; rfl
  have hlt : z < 18446744073709551616 := by rw [hzz]; exact zig_nat hx.1 hx.2
  rw [← hzz] at hz
  rw [hp]
  have HZ := Lib.hid (fun w => refZig_v x w hx.1 hx.2)
  rw [hz] at HZ
  clear hp hzz hz hx
  have HN := Lib.hid (fun w => refNum_v z w hlt)
  clear hlt
  go_enter Try.func19, Try.ntmps19
  go_wp2_with (first
    | (go_at_call 43; (with_reducible refine (HZ.out _).mono ?_); rintro e w1 ⟨rfl, rfl⟩)
    | (go_at_call 42; (with_reducible refine (HN.out _).mono ?_); rintro e w1 ⟨rfl, hb1⟩; have HB1 := Lib.hid hb1; clear hb1))
  go_ret
  exact ⟨rfl, HB1.out⟩
theorem is_v (b : Bool) (w : World) : Calls Try.prog 24 #[.bool b] w fun e w' => e = .returned (.string (mkS (bitP b))) ∧ Later w w' := by
  have H1 := Lib.hid (fun w => n_v 1 (bit_ok true) w)
  have H0 := Lib.hid (fun w => n_v 0 (bit_ok false) w)
  cases b
  · go_enter Try.func24, Try.ntmps24
    go_wp2_with (go_at_call 19; (with_reducible refine (H0.out _).mono ?_); rintro e w1 ⟨rfl, hb1⟩; have HB1 := Lib.hid hb1; clear hb1)
    go_ret
    exact ⟨rfl, HB1.out⟩
  · go_enter Try.func24, Try.ntmps24
    go_wp2_with (go_at_call 19; (with_reducible refine (H1.out _).mono ?_); rintro e w1 ⟨rfl, hb1⟩; have HB1 := Lib.hid hb1; clear hb1)
    go_ret
    exact ⟨rfl, HB1.out⟩
set_option maxRecDepth 100000 in
theorem row_v (A : Option Addr) (cap n : Nat) (l : List B) (w : World) (hr : Row rtxt w w.heap.size A l) (hn : n = l.length) (hx : (txts.put l).length ≤ 1000000000) (h5 : l.length ≤ 1000000000) :
    Calls Try.prog 18 #[.slice A n cap] w fun e w' => e = .returned (.string (mkS (txts.put l))) ∧ Later w w' := by
  have hI : I64 (n : Int) := ⟨by omega, by omega⟩
  have hput : txts.put l = numP n ++ manyP txt l := by rw [hn]; rfl
  rw [hput] at hx ⊢
  have HNV := Lib.hid (fun w => n_v n hI w)
  obtain ⟨h0, hh0⟩ : ∃ h0, h0 = numP n := ⟨_, rfl⟩
  rw [← hh0] at hx HNV ⊢
  have hx2 : h0.length + (manyP txt l).length ≤ 1000000000 := by rw [← List.length_append]; exact hx
  have HX := Lib.hid hx2
  have HR := Lib.hid hr
  have HN := Lib.hid hn
  have h5' : n ≤ 1000000000 := by omega
  clear hx hx2 hr hput hh0 hI h5 hn
  go_enter Try.func18, Try.ntmps18
  go_wp2_with (go_at_call 19; (with_reducible refine (HNV.out _).mono ?_); rintro e w1 ⟨rfl, hb1⟩; have HB1 := Lib.hid (show Later w w1 from hb1); clear hb1)
  go_loopw [3, 4] (fun s i wr => ∃ k : Nat, k ≤ n ∧ i = .int .i64 (k : Int) ∧ s = .string (mkS (h0 ++ manyP txt (l.take k))) ∧ Later w wr) (fun _ i _ => n - (intOf i).toNat)
  case atStart => exact ⟨0, by omega, rfl, by simp [manyP], HB1.out⟩
  case round =>
    obtain ⟨k, hk, rfl, rfl, hb⟩ := hrel
    have HB := Lib.hid hb
    by_cases hlt : k < n
    · have hkl : k < l.length := by rw [← HN.out]; exact hlt
      obtain ⟨ad, rfl, _, hc, hlen⟩ := Row.txt_at (HR.out.later hb) hkl
      obtain ⟨t, ht⟩ : ∃ t, t = l[k] := ⟨_, rfl⟩
      rw [← ht] at hc hlen
      have hbound := many_le txt l k hkl
      have htl : (txt.put l[k]).length = (numL t.length).length + t.length := by rw [← ht]; exact List.length_append
      have hxo := HX.out
      obtain ⟨a, ha⟩ : ∃ a, a = h0 ++ manyP txt (l.take k) := ⟨_, rfl⟩
      obtain ⟨b, hbb⟩ : ∃ b, b = textB t := ⟨_, rfl⟩
      have hal : a.length = h0.length + (manyP txt (l.take k)).length := by rw [ha, List.length_append]
      have htx := fun w => text_v t w (by omega)
      rw [← hbb] at htx
      rw [← ha]
      have s1 := mkS_size a
      have s2 := mkS_size b
      have hbl : b.length = (numL t.length).length + t.length := by rw [hbb]; exact List.length_append
      have hsum : ¬ 9223372036854775807 < (mkS a).size + (mkS b).size := by omega
      have hadd := mkS_add a b
      have hstep : a ++ b = h0 ++ manyP txt (l.take (k + 1)) := by rw [ha, hbb, ht, many_snoc_put txt l k hkl, List.append_assoc]; rfl
      have HS := Lib.hid hstep
      have HTX := Lib.hid htx
      have HADD := Lib.hid hadd
      clear ht ha hbb htx hstep hal s1 s2 hadd hbound htl hb hxo hbl hlen hkl
      go_wp2_with (go_at_call 41; (with_reducible refine (HTX.out _).mono ?_); rintro e w2 ⟨rfl, hb2⟩; have HB2 := Lib.hid (Later.trans HB.out hb2); clear hb2)
      go_roundw
      case rel => exact ⟨k + 1, by omega, by go_num, by rw [HADD.out, HS.out], HB2.out⟩
      case measure => simp [intOf]; omega
    · have e : l.take k = l := by rw [List.take_of_length_le]; have := HN.out; omega
      rw [e]
      clear e hb
      go_wp2
      go_ret
      exact ⟨rfl, HB.out⟩
set_option maxRecDepth 100000 in
theorem ints_v (A : Option Addr) (cap n : Nat) (l : List Int) (w : World) (hr : Row rnum w w.heap.size A l) (hn : n = l.length) (hx : (manyP num l).length ≤ 1000000000) (h5 : l.length ≤ 1000000000) :
    Calls Try.prog 23 #[.slice A n cap] w fun e w' => e = .returned (.string (mkS (manyP num l))) ∧ Later w w' := by
  have HX := Lib.hid hx
  have HR := Lib.hid hr
  have HN := Lib.hid hn
  have h5' : n ≤ 1000000000 := by omega
  clear hx hr h5 hn
  go_enter Try.func23, Try.ntmps23
  go_wp2
  go_loopw [3, 4] (fun s i wr => ∃ k : Nat, k ≤ n ∧ i = .int .i64 (k : Int) ∧ s = .string (mkS (manyP num (l.take k))) ∧ Later w wr) (fun _ i _ => n - (intOf i).toNat)
  case atStart => exact ⟨0, by omega, rfl, rfl, Later.refl _⟩
  case round =>
    obtain ⟨k, hk, rfl, rfl, hb⟩ := hrel
    have HB := Lib.hid hb
    by_cases hlt : k < n
    · have hkl : k < l.length := by rw [← HN.out]; exact hlt
      obtain ⟨ad, rfl, _, hc, hI⟩ := Row.num_at (HR.out.later hb) hkl
      obtain ⟨t, ht⟩ : ∃ t, t = l[k] := ⟨_, rfl⟩
      rw [← ht] at hc hI
      have hbound := many_le num l k hkl
      have htl : (num.put l[k]).length = (numP t).length := by rw [← ht]; rfl
      have hxo := HX.out
      obtain ⟨a, ha⟩ : ∃ a, a = manyP num (l.take k) := ⟨_, rfl⟩
      obtain ⟨b, hbb⟩ : ∃ b, b = numP t := ⟨_, rfl⟩
      have htx := fun w => n_v t hI w
      rw [← hbb] at htx
      rw [← ha] at hbound ⊢
      rw [← hbb] at htl
      have s1 := mkS_size a
      have s2 := mkS_size b
      have hsum : ¬ 9223372036854775807 < (mkS a).size + (mkS b).size := by omega
      have hadd := mkS_add a b
      have hstep : a ++ b = manyP num (l.take (k + 1)) := by rw [ha, hbb, ht, many_snoc_put num l k hkl]; rfl
      have HS := Lib.hid hstep
      have HTX := Lib.hid htx
      have HADD := Lib.hid hadd
      clear ht ha hbb htx hstep s1 s2 hadd hbound htl hb hxo hI hkl
      go_wp2_with (go_at_call 19; (with_reducible refine (HTX.out _).mono ?_); rintro e w2 ⟨rfl, hb2⟩; have HB2 := Lib.hid (Later.trans HB.out hb2); clear hb2)
      go_roundw
      case rel => exact ⟨k + 1, by omega, by go_num, by rw [HADD.out, HS.out], HB2.out⟩
      case measure => simp [intOf]; omega
    · have e : l.take k = l := by rw [List.take_of_length_le]; have := HN.out; omega
      rw [e]
      clear e hb
      go_wp2
      go_ret
      exact ⟨rfl, HB.out⟩
theorem add_flat (g o n : Nat) : Addr.add ⟨g, o, none⟩ n = ⟨g, o + n, none⟩ := by
  unfold Addr.add
  split
  · rename_i h; rw [h, Nat.add_zero]
  · rfl
/-- A thing of a row, its place told by block and offset. -/
theorem Row.lie {α : Type} {r : Rp α} {w : World} {n : Nat} {A : Option Addr} {l : List α} (h : Row r w n A l) (hn : 0 < l.length) (hw : 0 < r.wd) :
    ∃ g o, A = some ⟨g, o, none⟩ ∧ g < n ∧ ∀ (k : Nat) (hk : k < l.length), ∃ cs, r.C w n cs l[k] ∧ ∀ (j : Nat) (u : Value), cs[j]? = some u → w.cell? ⟨g, o + k * r.wd + j, none⟩ = some u := by
  obtain ⟨ad, cs, e, hb, hc, hu⟩ := h.at_ hn hw
  have h0 : 0 < cs.length := by rw [r.len hc]; exact hw
  have h1 := hu 0 cs[0] (List.getElem?_eq_getElem h0)
  obtain ⟨g, o, s⟩ := ad
  have hs : s = none := by
    have h2 : w.cell? ⟨g, o, s⟩ = some cs[0] := by simpa [Addr.add] using h1
    unfold World.cell? at h2
    split at h2
    · cases s with
      | none => rfl
      | some x => simp at h2
    · cases h2
  subst hs
  refine ⟨g, o, e, hb, fun k hk => ?_⟩
  obtain ⟨ad', cs', e', _, hc', hu'⟩ := h.at_ hk hw
  rw [e] at e'
  cases e'
  exact ⟨cs', hc', fun j u hj => by have := hu' j u hj; rwa [add_flat, ← Nat.add_assoc] at this⟩
theorem Row.lie_pr {w : World} {n : Nat} {A : Option Addr} {l : List (B × B)} (h : Row prR w n A l) (hn : 0 < l.length) : ∃ g o, A = some ⟨g, o, none⟩ ∧ g < n ∧ ∀ (k : Nat) (hk : k < l.length), w.cell? ⟨g, o + k * 2, none⟩ = some (.string (mkS l[k].1)) ∧ w.cell? ⟨g, o + k * 2 + 1, none⟩ = some (.string (mkS l[k].2)) := by
  obtain ⟨g, o, e, hg, hk⟩ := h.lie hn (by decide)
  refine ⟨g, o, e, hg, fun k hl => ?_⟩
  obtain ⟨cs, ⟨c1, c2, rfl, h1, h2⟩, hu⟩ := hk k hl
  rw [h1.1, h2.1] at hu
  exact ⟨hu 0 _ rfl, hu 1 _ rfl⟩
theorem Row.lie_fn {w : World} {n : Nat} {A : Option Addr} {l : List (B × Int × Int)} (h : Row fnR w n A l) (hn : 0 < l.length) : ∃ g o, A = some ⟨g, o, none⟩ ∧ g < n ∧ ∀ (k : Nat) (hk : k < l.length), w.cell? ⟨g, o + k * 3, none⟩ = some (.string (mkS l[k].1)) ∧ w.cell? ⟨g, o + k * 3 + 1, none⟩ = some (.int .i64 l[k].2.1) ∧ w.cell? ⟨g, o + k * 3 + 2, none⟩ = some (.int .i64 l[k].2.2) := by
  obtain ⟨g, o, e, hg, hk⟩ := h.lie hn (by decide)
  refine ⟨g, o, e, hg, fun k hl => ?_⟩
  obtain ⟨cs, ⟨c1, c2, rfl, h1, c3, c4, rfl, h2, h3⟩, hu⟩ := hk k hl
  rw [h1.1, h2.1, h3.1] at hu
  exact ⟨hu 0 _ rfl, hu 1 _ rfl, hu 2 _ rfl⟩
theorem Row.lie_tp {w : World} {n : Nat} {A : Option Addr} {l : List (Int × B)} (h : Row tpR w n A l) (hn : 0 < l.length) : ∃ g o, A = some ⟨g, o, none⟩ ∧ g < n ∧ ∀ (k : Nat) (hk : k < l.length), w.cell? ⟨g, o + k * 2, none⟩ = some (.int .i64 l[k].1) ∧ w.cell? ⟨g, o + k * 2 + 1, none⟩ = some (.string (mkS l[k].2)) := by
  obtain ⟨g, o, e, hg, hk⟩ := h.lie hn (by decide)
  refine ⟨g, o, e, hg, fun k hl => ?_⟩
  obtain ⟨cs, ⟨c1, c2, rfl, h1, h2⟩, hu⟩ := hk k hl
  rw [h1.1, h2.1] at hu
  exact ⟨hu 0 _ rfl, hu 1 _ rfl⟩
theorem Row.lie_fd {w : World} {n : Nat} {A : Option Addr} {l : List (Int × Int)} (h : Row fdR w n A l) (hn : 0 < l.length) : ∃ g o, A = some ⟨g, o, none⟩ ∧ g < n ∧ ∀ (k : Nat) (hk : k < l.length), w.cell? ⟨g, o + k * 2, none⟩ = some (.int .i64 l[k].1) ∧ w.cell? ⟨g, o + k * 2 + 1, none⟩ = some (.int .i64 l[k].2) := by
  obtain ⟨g, o, e, hg, hk⟩ := h.lie hn (by decide)
  refine ⟨g, o, e, hg, fun k hl => ?_⟩
  obtain ⟨cs, ⟨c1, c2, rfl, h1, h2⟩, hu⟩ := hk k hl
  rw [h1.1, h2.1] at hu
  exact ⟨hu 0 _ rfl, hu 1 _ rfl⟩
/-- Some cells of a block are loaded as a struct. -/
theorem load_sub {w : World} {g o : Nat} {cs : Array Value} {t ty : TypeId} {d : TypeDesc} (h : w.heap[g]? = some (.cells cs t (0, 0))) (l : List Value) (hl : (cs.toList.drop o).take l.length = l) (hu : Try.prog.underlying ty = some d) (hd : d.isRow = true) (hi : (Try.prog.info? ty).map (·.size) = some l.length) :
    (Instr.loadAt ty (.pointer (some ⟨g, o, none⟩))).run Try.prog w = .ok (.agg l.toArray) w := by
  refine run_loadAt_mid w g o ty l d (fun j v hv => ?_) hu hd hi
  rw [(cell_row h (o + j)).1]
  have hj : j < l.length := (List.getElem?_eq_some_iff.1 hv).1
  rw [← hl, List.getElem?_take, if_pos hj, List.getElem?_drop] at hv
  simpa using hv
end Ks
end Go.Proofs.Yteljmlodbnfhbaa
