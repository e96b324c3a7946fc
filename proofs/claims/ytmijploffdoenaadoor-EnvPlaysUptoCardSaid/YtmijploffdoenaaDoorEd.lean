/- THE DOCUMENT'S Var, Ifs, Has. No premises. -/
import Derived.Test.YtmijploffdoenaaDoorNr
import Derived.Test.YtmijploffdoenaaDoorEb
import Derived.BigQuiet
namespace Go.Proofs.YtmijploffdoenaaDoor
open Go.RowKit Go.Maps
namespace En
/-- A place of a name among variables. -/
def AtV (l : Vs) (s : B) (r : Int) : Prop := (r = -1 ∧ var l s = none) ∨ ∃ k, ∃ hk : k < l.length, r = (k : Int) ∧ var l s = some l[k].2
theorem none_of {l : Vs} {s : B} (h : ∀ j (h : j < l.length), j < l.length → l[j].1 ≠ s) : var l s = none := var_none.2 fun q hq => by
  obtain ⟨j, hj, rfl⟩ := List.mem_iff_getElem.1 hq
  exact h j hj hj
set_option maxRecDepth 100000 in
set_option maxHeartbeats 1600000 in
theorem rvar_v (v : Value) (e : E) (s : B) (W : World) (h : RdE W v e) : Calls Tryd.prog 34 #[v, .string (mkS s)] W fun x W' => (∃ r : Int, x = .returned (.int .i64 r) ∧ AtV e.vars s r) ∧ Later W W' := by
  obtain ⟨va, A, n, c, rfl, hv, ha, hc1, hc2⟩ := h
  obtain ⟨Av, cv, rfl, hcv, hcw, _⟩ := hv.le
  obtain ⟨vs, hvs⟩ : ∃ vs, vs = e.vars := ⟨_, rfl⟩
  rw [← hvs] at hv hcv ⊢
  clear hvs ha hc1 hc2
  have HV := Lib.hid hv
  have hlen : vs.length ≤ 9223372036854775807 := by omega
  have HLA := Lib.hid (Later.alloc W (.cells #[.slice Av vs.length cv, .slice A n c, .int .i64 (e.status : Int), .string (mkS e.flags)] 31))
  have HNA := Lib.hid (heap_alloc_new W (.cells #[.slice Av vs.length cv, .slice A n c, .int .i64 (e.status : Int), .string (mkS e.flags)] 31))
  clear hv hcv hcw
  have htl : ∀ l : B, (mkS l).toList = l := toList_mkS
  go_enter Tryd.func34, Tryd.ntmps34
  go_wp2_with fail
  go_loopw [5] (fun s5 wr => ∃ i : Nat, s5 = .int .i64 (i : Int) ∧ i ≤ vs.length ∧ (∀ j (h : j < vs.length), j < i → vs[j].1 ≠ s) ∧ wr = W.alloc (.cells #[.slice Av vs.length cv, .slice A n c, .int .i64 (e.status : Int), .string (mkS e.flags)] 31)) (fun i _ => vs.length - (intOf i).toNat)
  case atStart => exact ⟨0, rfl, Nat.zero_le _, fun j _ hj => absurd hj (Nat.not_lt_zero _), rfl⟩
  case round =>
    obtain ⟨i, rfl, hi, hno, hw⟩ := hrel
    have HNO := Lib.hid hno
    have HW := Lib.hid hw
    have hbx := HNA.out
    rw [← hw] at hbx
    have b0 : wr.cell? ⟨W.heap.size, 0, none⟩ = some (.slice Av vs.length cv) := (cell_row hbx 0).1
    have hlw : Later W wr := by rw [hw]; exact HLA.out
    clear hno hbx hw
    have hi0 : (0 : Int) ≤ (i : Int) := by omega
    by_cases hlt : i < vs.length
    · have hi1 : (i : Int) < (vs.length : Int) := by omega
      obtain ⟨g, o, c', e1, hg, hcc⟩ := HV.out.at_ (by omega)
      injection e1 with e1 _ e2
      subst e1 e2
      obtain ⟨x, hx⟩ : ∃ x, x = vs[i] := ⟨_, rfl⟩
      have p1 := (hlw.cell (p := ⟨g, o + i * 2, none⟩) hg).trans (hcc i hlt).1
      rw [← hx] at p1
      have HX := Lib.hid hx
      clear hcc hlw hx
      by_cases hxs : x.1 = s
      · have f1 : (x.1 == s) = true := by simp [hxs]
        have HXS := Lib.hid hxs
        clear hxs
        go_wp2
        go_ret
        have hat : AtV vs s (i : Int) := .inr ⟨i, hlt, rfl, var_at hlt HNO.out (by rw [← HX.out]; exact HXS.out)⟩
        exact ⟨⟨_, rfl, hat⟩, by rw [HW.out]; exact HLA.out⟩
      · have f1 : (x.1 == s) = false := by simpa using hxs
        have HXS := Lib.hid hxs
        clear hxs
        go_wp2
        go_roundw
        case rel =>
          refine ⟨i + 1, by go_num, by omega, ?_, HW.out⟩
          intro j hj hji
          rcases Nat.lt_succ_iff_lt_or_eq.1 hji with h1 | rfl
          · exact HNO.out j hj h1
          · rw [← HX.out]; exact HXS.out
        case measure => simp [intOf]; omega
    · have hin : i = vs.length := by omega
      clear hlw
      go_wp2
      go_ret
      have hat : AtV vs s (-1) := .inl ⟨rfl, none_of fun j hj _ => HNO.out j hj (by omega)⟩
      exact ⟨⟨_, rfl, hat⟩, by rw [HW.out]; exact HLA.out⟩
end En
end Go.Proofs.YtmijploffdoenaaDoor
/- THE DOCUMENT'S Ifs, Has, Flag. No premises. -/
namespace Go.Proofs.YtmijploffdoenaaDoor
open Go.RowKit Go.Maps
namespace En
/-- A box of an Env. -/
def boxE (va aa : Value) (e : E) : Array Value := #[va, aa, .int .i64 (e.status : Int), .string (mkS e.flags)]
set_option maxRecDepth 100000 in
set_option maxHeartbeats 1600000 in
theorem rifs_v (v : Value) (e : E) (W : World) (h : RdE W v e) : Calls Tryd.prog 18 #[v] W fun x W' => x = .returned (.string (mkS (ifs e.vars))) ∧ Later W W' := by
  have HVR := Lib.hid (show ∀ W', Later W W' → Calls Tryd.prog 34 #[v, .string ⟨#[73, 70, 83]⟩] W' fun x W'' => (∃ r : Int, x = .returned (.int .i64 r) ∧ AtV e.vars IFS r) ∧ Later W' W'' from fun W' hl => rvar_v v e IFS W' (h.later hl))
  obtain ⟨va, A, n, c, rfl, hv, ha, hc1, hc2⟩ := h
  obtain ⟨Av, cv, rfl, hcv, hcw, _⟩ := hv.le
  obtain ⟨vs, hvs⟩ : ∃ vs, vs = e.vars := ⟨_, rfl⟩
  rw [← hvs] at hv hcv HVR ⊢
  clear hvs ha hc1 hc2
  have HV := Lib.hid hv
  have hlen : vs.length ≤ 9223372036854775807 := by omega
  have HLA := Lib.hid (Later.alloc W (.cells #[.slice Av vs.length cv, .slice A n c, .int .i64 (e.status : Int), .string (mkS e.flags)] 31))
  have HNA := Lib.hid (heap_alloc_new W (.cells #[.slice Av vs.length cv, .slice A n c, .int .i64 (e.status : Int), .string (mkS e.flags)] 31))
  clear hv hcv hcw
  go_enter Tryd.func18, Tryd.ntmps18
  go_wp2_with fail
  go_at_call 34
  with_reducible refine (HVR.out _ HLA.out).mono ?_
  rintro x w1 ⟨⟨r, rfl, hat⟩, hl1⟩
  have hb := later_cells hl1 HNA.out
  have b0 : w1.cell? ⟨W.heap.size, 0, none⟩ = some (.slice Av vs.length cv) := (cell_row hb 0).1
  have HL := Lib.hid (HLA.out.trans hl1)
  clear hb hl1
  rcases hat with ⟨rfl, hn⟩ | ⟨k, hk, rfl, hvk⟩
  · have HN := Lib.hid hn
    clear hn
    go_wp2
    go_ret
    exact ⟨by unfold ifs; rw [HN.out]; rfl, HL.out⟩
  · obtain ⟨g, o, c', e1, hg, hcc⟩ := HV.out.at_ (by omega)
    injection e1 with e1 _ e2
    subst e1 e2
    obtain ⟨x, hx⟩ : ∃ x, x = vs[k] := ⟨_, rfl⟩
    have p1 := (HL.out.cell (p := ⟨g, o + k * 2 + 1, none⟩) hg).trans (hcc k hk).2
    rw [← hx] at p1 hvk
    have hk0 : (0 : Int) ≤ (k : Int) := by omega
    have hk1 : (k : Int) < (vs.length : Int) := by omega
    have HVK := Lib.hid hvk
    clear hcc hx hvk
    go_wp2
    go_ret
    exact ⟨by unfold ifs; rw [HVK.out]; rfl, HL.out⟩
theorem f8 {c : UInt8} {n : Nat} {b : Bool} (hn : n < 256) (h : decide (c = UInt8.ofNat n) = b) : ((c.toNat : Int) == (n : Int)) = b := by
  rw [← h, Bool.eq_iff_iff, beq_iff_eq, decide_eq_true_iff]
  constructor
  · intro h; exact UInt8.toNat_inj.1 (by rw [UInt8.toNat_ofNat']; omega)
  · rintro rfl; rw [UInt8.toNat_ofNat']; omega
theorem mkS_get' (l : B) (k : Nat) (_ : k < (mkS l).size) (h2 : k < l.length) : (mkS l)[k] = l[k] := by simp [mkS, ByteArray.getElem_eq_getElem_data]
theorem has_snoc {f : B} {k : Nat} (hk : k < f.length) (c : UInt8) : c ∈ f.take (k + 1) ↔ c ∈ f.take k ∨ f[k] = c := by
  rw [List.take_succ_eq_append_getElem hk, List.mem_append, List.mem_singleton]
  exact or_congr Iff.rfl eq_comm
set_option maxRecDepth 100000 in
set_option maxHeartbeats 1600000 in
theorem rhas_x (va : Value) (A : Option Addr) (n c : Nat) (st : Int) (f : B) (q : UInt8) (W : World) (hf : f.length ≤ 9223372036854775807) : Calls Tryd.prog 23 #[.agg #[va, .slice A n c, .int .i64 st, .string (mkS f)], .int .u8 (q.toNat : Int)] W fun x W' => x = .returned (.bool (f.contains q)) ∧ Later W W' := by
  have HLA := Lib.hid (Later.alloc W (.cells #[va, .slice A n c, .int .i64 st, .string (mkS f)] 31))
  have HNA := Lib.hid (heap_alloc_new W (.cells #[va, .slice A n c, .int .i64 st, .string (mkS f)] 31))
  have hfs : ((mkS f).size : Int) = (f.length : Int) := by rw [mkS_size]
  go_enter Tryd.func23, Tryd.ntmps23
  go_wp2_with fail
  go_loopw [5] (fun s5 wr => ∃ i : Nat, s5 = .int .i64 (i : Int) ∧ i ≤ f.length ∧ q ∉ f.take i ∧ wr = W.alloc (.cells #[va, .slice A n c, .int .i64 st, .string (mkS f)] 31)) (fun i _ => f.length - (intOf i).toNat)
  case atStart => exact ⟨0, rfl, Nat.zero_le _, by simp, rfl⟩
  case round =>
    obtain ⟨i, rfl, hi, hno, hw⟩ := hrel
    have HNO := Lib.hid hno
    have HW := Lib.hid hw
    have hbx := HNA.out
    rw [← hw] at hbx
    have b3 : wr.cell? ⟨W.heap.size, 3, none⟩ = some (.string (mkS f)) := (cell_row hbx 3).1
    clear hno hbx hw
    have hi0 : (0 : Int) ≤ (i : Int) := by omega
    by_cases hlt : i < f.length
    · have hi1 : (i : Int) < (f.length : Int) := by omega
      have hi2 : i < (mkS f).size := by rw [mkS_size]; exact hlt
      obtain ⟨x, hx⟩ : ∃ x, x = (mkS f)[i] := ⟨_, rfl⟩
      have HX := Lib.hid (show f[i] = x by rw [hx]; exact (mkS_get' f i hi2 hlt).symm)
      have hxt : (mkS f)[i] = x := hx.symm
      clear hx
      by_cases hxq : x = q
      · have f1 : ((x.toNat : Int) == (q.toNat : Int)) = true := by rw [hxq]; simp
        have HXQ := Lib.hid hxq
        clear hxq
        go_wp2
        go_ret
        have hm : f.contains q = true := List.contains_iff_mem.2 (by rw [← HXQ.out, ← HX.out]; exact List.getElem_mem hlt)
        exact ⟨by rw [hm]; rfl, by rw [HW.out]; exact HLA.out⟩
      · have f1 : ((x.toNat : Int) == (q.toNat : Int)) = false := by
          have h5 : x.toNat ≠ q.toNat := fun h => hxq (UInt8.toNat_inj.1 h)
          rw [beq_eq_false_iff_ne]; omega
        have HXQ := Lib.hid hxq
        clear hxq
        go_wp2
        go_roundw
        case rel =>
          refine ⟨i + 1, by go_num, by omega, ?_, HW.out⟩
          rw [has_snoc hlt]
          exact fun h => h.elim HNO.out fun h => HXQ.out (HX.out.symm.trans h)
        case measure => simp [intOf]; omega
    · go_wp2
      go_ret
      have hm : f.contains q = false := by
        rw [← Bool.not_eq_true, List.contains_iff_mem]
        intro h
        exact HNO.out (by rw [List.take_of_length_le (by omega)]; exact h)
      exact ⟨by rw [hm]; rfl, by rw [HW.out]; exact HLA.out⟩
theorem rhas_v (v : Value) (e : E) (q : UInt8) (W : World) (h : RdE W v e) (hf : e.flags.length ≤ 9223372036854775807) : Calls Tryd.prog 23 #[v, .int .u8 (q.toNat : Int)] W fun x W' => x = .returned (.bool (e.flags.contains q)) ∧ Later W W' := by
  obtain ⟨va, A, n, c, rfl, _, _, _, _⟩ := h
  exact rhas_x va A n c _ e.flags q W hf
end En
end Go.Proofs.YtmijploffdoenaaDoor
