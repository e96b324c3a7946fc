/- between, Get. Behind Vd. -/
import Derived.Test.YtmijploffdoenaaDoorNwf
namespace Go.Proofs.YtmijploffdoenaaDoor
open Go.RowKit Go.Maps
namespace En
theorem join_words (b : B) : ∀ l : List B, Lib.join l b = joined b l
  | [] => rfl
  | [w] => by simp [Lib.join, joined]
  | w :: v :: l => by
    have := join_words b (v :: l)
    simp [Lib.join, joined] at this ⊢
    exact this
theorem join_v {W : World} {A : Option Addr} {n c : Nat} (ts : List B) (b : B) (hr : Rd W W.heap.size A n (ts.map fun x => .string (mkS x))) (hc : n ≤ c) (hn : n ≤ 1000000) (hl : (joined b ts).length ≤ 20000000000000) : Calls Tryd.prog 38 #[.slice A n c, .string (mkS b)] W fun e W' => e = .returned (.string (mkS (joined b ts))) ∧ Later W W' := by
  have hts : ts.length = n := hr.len_map
  rcases Nat.eq_zero_or_pos n with h0 | h0
  · subst h0
    have e : ts = [] := List.eq_nil_of_length_eq_zero hts
    subst e
    refine (Tryd.strings_Join_none A c (mkS b) W).mono ?_
    rintro e w' ⟨rfl, rfl⟩
    exact ⟨rfl, Later.refl _⟩
  · obtain ⟨ad, rfl, hb, hcell⟩ := hr.2 h0
    have hsp : ad.spot = none := by
      have h1 := hcell 0 _ (by rw [List.getElem?_map, List.getElem?_eq_getElem (by omega)]; rfl)
      have := World.cell?_spot h1
      unfold Addr.add at this
      simpa using this
    obtain ⟨bk, o, sp⟩ := ad
    simp only at hsp
    subst hsp
    have hxl : (ts.map mkS).length = n := by rw [List.length_map, hts]
    have hmap : (ts.map mkS).map (·.data.toList) = ts := by rw [List.map_map]; exact (List.map_congr_left fun x _ => mkS_list x).trans (List.map_id ts)
    have hlen : (Lib.join ((ts.map mkS).map (·.data.toList)) (mkS b).data.toList).length ≤ 140737488355328 := by rw [hmap, mkS_list, join_words]; omega
    have hj := Tryd.strings_Join bk o c (ts.map mkS) (mkS b) W (fun j x hx => by
      have h1 := hcell j (.string x) (by
        rw [List.getElem?_map] at hx ⊢
        cases e : ts[j]? with
        | none => rw [e] at hx; cases hx
        | some y => rw [e] at hx; simp only [Option.map_some, Option.some.injEq] at hx ⊢; rw [← hx])
      exact cell_add h1) hb (by omega) (by omega) hlen
    rw [hxl, hmap, mkS_list, join_words] at hj
    exact hj
theorem later_grow (w : World) (k : Nat) (os : Array Obj) : Later w (Sort.grow (w.drewN k) os) :=
  ⟨rfl, rfl, rfl, by simp [Sort.grow, World.drewN], fun i hi => by
    show (w.heap ++ os)[i]? = w.heap[i]?
    exact Array.getElem?_append_left hi⟩
theorem itoa_v (k : Nat) (hk : k ≤ 9223372036854775807) (W : World) (hd : Vd W) : Calls Tryd.prog 37 #[.int .i64 (k : Int)] W fun e W' => e = .returned (.string (mkS (Lib.decDigits k))) ∧ Later W W' := by
  refine (Tryd.strconv_Itoa (k : Int) (by omega) (by omega) W hd.tb).mono ?_
  rintro e w ⟨rfl, j, os, rfl⟩
  refine ⟨?_, later_grow W j os⟩
  have he : Lib.itoa (k : Int) = Lib.decDigits k := by rw [Lib.itoa, if_neg (by omega), Int.toNat_natCast]
  rw [he]
  rfl
set_option maxRecDepth 100000 in
set_option maxHeartbeats 3200000 in
theorem between_v (va : Value) (e : E) (W : World) (h : RdE W va e) (hif : (ifs e.vars).length ≤ 9223372036854775807) : Calls Tryd.prog 39 #[va] W fun x W' => x = .returned (.string (mkS ((ifs e.vars).take 1))) ∧ Later W W' := by
  have HI := Lib.hid (show ∀ W', Later W W' → Calls Tryd.prog 17 #[va] W' fun x W'' => x = .returned (.string (mkS (ifs e.vars))) ∧ Later W' W'' from fun W' hl => ifs_v va e W' (h.later hl))
  obtain ⟨v0, A, n, c, rfl, hv, _, _, _⟩ := h
  obtain ⟨Av, cv, rfl, hcv, hcw, _⟩ := hv.le
  obtain ⟨n0, hn0⟩ : ∃ n0, n0 = e.vars.length := ⟨_, rfl⟩
  obtain ⟨st, hst⟩ : ∃ st : Int, st = (e.status : Int) := ⟨_, rfl⟩
  obtain ⟨fl, hfl⟩ : ∃ fl, fl = mkS e.flags := ⟨_, rfl⟩
  obtain ⟨f, hf⟩ : ∃ f, f = ifs e.vars := ⟨_, rfl⟩
  rw [← hn0, ← hst, ← hfl, ← hf] at HI
  rw [← hn0, ← hst, ← hfl, ← hf]
  rw [← hf] at hif
  have HLA := Lib.hid (Later.alloc W (.cells #[.slice Av n0 cv, .slice A n c, .int .i64 st, .string fl] 28))
  have hfs : ((mkS f).size : Int) = (f.length : Int) := by rw [mkS_size]
  clear hv hcv hcw hst hfl hn0 hf
  by_cases h0 : f.length = 0
  · have hm : min (f.length : Int) 1 = 0 := by omega
    have hx : ByteArray.empty = mkS (f.take 1) := by
      rw [List.length_eq_zero_iff.1 h0]; rfl
    clear h0
    go_enter Tryd.func39, Tryd.ntmps39
    go_wp2_with (go_at_call 17; (with_reducible refine (HI.out _ HLA.out).mono ?_); rintro x w3 ⟨rfl, hl3⟩; (have HL3 := Lib.hid (HLA.out.trans hl3)); clear hl3)
    go_ret
    exact ⟨rfl, HL3.out⟩
  · have hm : min (f.length : Int) 1 = 1 := by omega
    have hx := take_one f
    have h1 : (1 : Int) ≤ (f.length : Int) := by omega
    clear h0
    go_enter Tryd.func39, Tryd.ntmps39
    go_wp2_with (go_at_call 17; (with_reducible refine (HI.out _ HLA.out).mono ?_); rintro x w3 ⟨rfl, hl3⟩; (have HL3 := Lib.hid (HLA.out.trans hl3)); clear hl3)
    go_ret
    exact ⟨rfl, HL3.out⟩
end En
end Go.Proofs.YtmijploffdoenaaDoor
