/- The lexer's reader: where a word ends, and what it is. No premises. -/
import Derived.Test.YtnjabmacbgehlaaDoorLmN
import Derived.Test.YtnjabmacbgehlaaDoorLmG
import Derived.Lib.Bytealg
namespace Go.Proofs.YtnjabmacbgehlaaDoor
open Go.RowKit Go.Maps
open Lx (nl Tok R sq ar up pre stop)
theorem idx_run (s : ByteArray) (c : UInt8) (w : World) : (callFunc 42 #[.string s, .int .u8 (c.toNat : Int)]).run Tryd.prog w = .ok (.value (.int .i64 (Lib.indexByte s.data.toList c))) w := by
  rw [run_callFunc_extern Tryd.func42 (by kernel_rfl) (by kernel_rfl) (by kernel_rfl) (e := Extern.BytealgIndexByte.indexByte) (by kernel_rfl), Lib.run_indexByteString]
  simp [Result.andThen]
set_option maxRecDepth 100000 in
theorem idxLite_v (s : ByteArray) (c : UInt8) (W : World) : Calls Tryd.prog 25 #[.string s, .int .u8 (c.toNat : Int)] W fun e W' => e = .returned (.int .i64 (Lib.indexByte s.data.toList c)) ∧ W' = W := by
  have hr := idx_run s c
  obtain ⟨v, hv⟩ : ∃ v, v = Lib.indexByte s.data.toList c := ⟨_, rfl⟩
  rw [← hv] at hr ⊢
  clear hv
  go_enter Tryd.func25, Tryd.ntmps25
  go_wp2
  go_ret
  exact ⟨rfl, rfl⟩
set_option maxRecDepth 100000 in
theorem idxStr_v (s : ByteArray) (c : UInt8) (v : Int) (hv : v = Lib.indexByte s.data.toList c) (W : World) : Calls Tryd.prog 17 #[.string s, .int .u8 (c.toNat : Int)] W fun e W' => e = .returned (.int .i64 v) ∧ W' = W := by
  have HC := Lib.hid (idxLite_v s c W)
  rw [← hv] at HC
  clear hv
  go_enter Tryd.func17, Tryd.ntmps17
  go_wp2_with (go_at_call 25; (with_reducible refine HC.out.mono ?_); rintro e w1 ⟨rfl, rfl⟩)
  go_ret
  exact ⟨rfl, rfl⟩
theorem idx_neg (l : L) (c : UInt8) : Lib.indexByte l c < 0 ↔ c ∉ l := by
  induction l with
  | nil => simp [Lib.indexByte]
  | cons b l ih =>
    have hge := Lib.indexByte_ge l c
    unfold Lib.indexByte
    by_cases h : b = c
    · simp [h]
    · have h2 : ¬ c = b := fun e => h e.symm
      simp only [beq_iff_eq, if_neg h, List.mem_cons, not_or, h2, not_false_iff, true_and]
      rw [← ih]
      split <;> omega
theorem idx_stop (c : UInt8) : Lib.indexByte [32, 9, 10, 59, 38, 124, 40, 41, 60, 62] c < 0 ↔ stop c = false := by
  rw [idx_neg]
  simp [stop, and_assoc]
set_option maxRecDepth 100000 in
theorem digit_v (c : UInt8) (W : World) : Calls Tryd.prog 19 #[.int .u8 (c.toNat : Int)] W fun e W' => e = .returned (.bool (decide (48 ≤ c) && decide (c ≤ 57))) ∧ W' = W := by
  have e1 : decide (48 ≤ c) = decide (48 ≤ (c.toNat : Int)) := by rw [decide_eq_decide, UInt8.le_iff_toNat_le]; simp; omega
  have e2 : decide (c ≤ 57) = decide ((c.toNat : Int) ≤ 57) := by rw [decide_eq_decide, UInt8.le_iff_toNat_le]; simp; omega
  rw [e1, e2]
  obtain ⟨x, hx⟩ : ∃ x : Nat, x = c.toNat := ⟨_, rfl⟩
  rw [← hx]
  clear hx e1 e2
  by_cases h1 : (48 : Int) ≤ (x : Int) <;> by_cases h2 : (x : Int) ≤ 57
  all_goals
    go_enter Tryd.func19, Tryd.ntmps19
    go_wp2
    go_ret
    exact ⟨ret_bool (by simp [h1, h2]; try omega), rfl⟩
theorem cellsT_at (N : Nat) : ∀ (ts : List Tok) (j : Nat) (hj : j < ts.length) (i : Nat) (_ : i < 4), (cellsT N ts)[j * 4 + i]? = (tcs N ts[j])[i]?
  | [], j, hj, _, _ => by simp at hj
  | z :: ts, 0, _, i, hi => by
    have e : cellsT N (z :: ts) = (tcs N z).toList ++ cellsT N ts := by simp [cellsT]
    rw [e, List.getElem?_append_left (by simp [tcs]; omega)]
    simp
  | z :: ts, j + 1, hj, i, hi => by
    have e : cellsT N (z :: ts) = (tcs N z).toList ++ cellsT N ts := by simp [cellsT]
    have hl : (tcs N z).toList.length = 4 := rfl
    rw [e, List.getElem?_append_right (by omega), hl, show (j + 1) * 4 + i - 4 = j * 4 + i by omega, cellsT_at N ts j (by simpa using hj) i hi]
    rfl
/-- Token number j lies at ad. -/
structure TokAt (w : World) (N : Nat) (ad : Addr) (t : Tok) : Prop where
  c0 : w.cell? ad = some (.int .i64 (t.kind : Int))
  c1 : w.cell? ⟨ad.block, ad.off + 1, none⟩ = some (.string (mkS t.text))
  c2 : w.cell? ⟨ad.block, ad.off + 2, none⟩ = some (.string (mkS t.body))
  c3 : w.cell? ⟨ad.block, ad.off + 3, none⟩ = some (.int .i64 ((1 + N - t.left : Nat) : Int))
theorem tok_at {w : World} {B N : Nat} {e : TypeId} {v : Value} {ts : List Tok} (h : w.ownsRow B e 4 v ts.length (cellsT N ts)) {j : Nat} (hj : j < ts.length) :
    ∃ ad c, v = .slice (some ad) ts.length c ∧ ts.length ≤ c ∧ B ≤ ad.block ∧ ad.block < w.heap.size ∧ ∀ (i : Nat) (hi : i < ts.length), TokAt w N (ad.add (i * 4)) ts[i] := by
  rcases h.2 with ⟨rfl, h0⟩ | ⟨g, cap, cur, rfl, hb, hh, hnc, hcm, hcs, htake⟩
  · omega
  · refine ⟨_, _, rfl, hnc, hb, lt_of_block hh, fun i hi => ?_⟩
    have hat : ∀ k, k < 4 → ∀ u, (tcs N ts[i])[k]? = some u → w.cell? ⟨g, i * 4 + k, none⟩ = some u := fun k hk u hu => by
      have hc := h.cells (g := g) rfl (i * 4 + k) u (by rw [cellsT_at N ts i hi k hk]; exact hu)
      rwa [add_lit0] at hc
    rw [add_lit0]
    exact ⟨hat 0 (by omega) _ rfl, hat 1 (by omega) _ rfl, hat 2 (by omega) _ rfl, hat 3 (by omega) _ rfl⟩
theorem text_eq (a b : L) : ((mkS a).toList == (mkS b).toList) = (a == b) := by rw [toList_mkS, toList_mkS]
set_option maxRecDepth 100000 in
theorem isHere_v (B g : Nat) (S : L) (σ : St) (hn : σ.ts.length ≤ 5000) (W : World) (h : Mem W B g S σ) : Calls Tryd.prog 54 #[.pointer (some ⟨g, 0, none⟩)] W fun e W' => e = .returned (.bool (Lx.hung σ.ts)) ∧ W' = W := by
  obtain ⟨p, n, vt, vh, vx, ms, mp, h⟩ := h
  obtain ⟨⟨_, _, _, _, c4, _⟩, hz⟩ := h.facts
  rcases List.eq_nil_or_concat σ.ts with hts | ⟨l, t, hts⟩
  · obtain ⟨A0, k0, rfl, hk0⟩ := own_slice4 h.tok
    rw [hts] at c4 ⊢
    simp only [List.length_nil] at c4
    clear h hts hk0
    go_enter Tryd.func54, Tryd.ntmps54
    go_wp2
    go_ret
    exact ⟨rfl, rfl⟩
  · have hm : l.length < σ.ts.length := by rw [hts]; simp
    obtain ⟨ad, c, rfl, hc, _, _, hat⟩ := tok_at h.tok hm
    obtain ⟨h0, h1, _, _⟩ := hat l.length hm
    have ht : σ.ts[l.length] = t := by simp [hts]
    have hlen : σ.ts.length = l.length + 1 := by rw [hts]; simp
    have hg : Lx.hung σ.ts = (t.kind == 2 && t.text == [60, 60]) := by rw [hts]; simp [Lx.hung]
    rw [ht] at h0 h1
    rw [hlen] at c4 hn hc
    rw [hg]
    obtain ⟨m, hm⟩ : ∃ m, m = l.length := ⟨_, rfl⟩
    rw [← hm] at h0 h1 c4 hn hc
    have hm0 : (0 : Int) ≤ (m : Int) := by omega
    clear h hts hat ht hlen hg hm
    by_cases hk : t.kind = 2
    · have hk1 : ((t.kind : Int) == 2) = true := by rw [hk]; rfl
      have hk2 : (t.kind == 2 && t.text == [60, 60]) = (t.text == [60, 60]) := by rw [hk]; rfl
      have hte := text_eq t.text [60, 60]
      rw [hk2]
      have HTE := Lib.hid hte
      clear hte hk2
      go_enter Tryd.func54, Tryd.ntmps54
      go_wp2
      go_ret
      exact ⟨ret_bool (by rw [toList_mkS]), rfl⟩
    · have hk1 : ((t.kind : Int) == 2) = false := by simp; omega
      have hk2 : (t.kind == 2 && t.text == [60, 60]) = false := by simp [hk]
      rw [hk2]
      clear hk2
      go_enter Tryd.func54, Tryd.ntmps54
      go_wp2
      go_ret
      exact ⟨rfl, rfl⟩
def dig (c : UInt8) : Bool := decide (48 ≤ c) && decide (c ≤ 57)
theorem pre_one (c : UInt8) (l : L) : ([c] : L).isPrefixOf l = (l.head? == some c) := by
  cases l with
  | nil => rfl
  | cons b l =>
    rw [Bool.eq_iff_iff]
    simp [List.isPrefixOf]
    exact eq_comm
set_option maxRecDepth 100000 in
theorem isIo_v (B g : Nat) (S : L) (σ : St) (hq : σ.q.length ≤ 5000) (W : World) (h : Mem W B g S σ) : Calls Tryd.prog 53 #[.pointer (some ⟨g, 0, none⟩)] W fun e W' => e = .returned (.bool (Lx.digits σ.q && (!σ.j && (σ.l.head? == some 60 || σ.l.head? == some 62)))) ∧ ∃ m, W' = W.drewN m := by
  have ha := fun b hb => ahead_t B g S σ ⟨#[60]⟩ [60] rfl b hb W h
  have hb := fun b hb m => ahead_t B g S σ ⟨#[62]⟩ [62] rfl b hb (W.drewN m) (h.drewN m)
  rw [pre_one] at ha hb
  obtain ⟨p, n, vt, vh, vx, ms, mp, h⟩ := h
  obtain ⟨⟨_, _, _, _, _, _, c6, c7, _⟩, hz⟩ := h.facts
  obtain ⟨A, c, rfl, hc, hr, _⟩ := own_map h.txt
  obtain ⟨q, hqq⟩ : ∃ q, q = σ.q := ⟨_, rfl⟩
  obtain ⟨l, hll⟩ : ∃ l, l = σ.l := ⟨_, rfl⟩
  obtain ⟨j, hjj⟩ : ∃ j, j = σ.j := ⟨_, rfl⟩
  obtain ⟨n, hnn⟩ : ∃ n, n = σ.q.length := ⟨_, rfl⟩
  rw [← hnn] at c6 hq hc hr
  rw [← hqq] at hr hnn ⊢
  rw [← hll] at ha hb ⊢
  rw [← hjj] at c7 ⊢
  have HA := Lib.hid ha
  have HB := Lib.hid hb
  have HR := Lib.hid hr
  have HN := Lib.hid hnn
  have HD := Lib.hid (fun (c : UInt8) (W : World) => digit_v c W)
  clear h ha hb hqq hll hjj hr hnn
  go_enter Tryd.func53, Tryd.ntmps53
  go_wp2
  go_loopw [10] (fun i wr => ∃ k : Nat, k ≤ n ∧ i = .int .i64 (k : Int) ∧ wr = W ∧ Lx.digits (q.take k) = true) (fun i _ => n - (intOf i).toNat)
  case atStart => exact ⟨0, by omega, rfl, rfl, rfl⟩
  case round =>
    obtain ⟨k, hk, rfl, rfl, hd⟩ := hrel
    have HDD := Lib.hid hd
    clear hd
    by_cases hkn : k < n
    · obtain ⟨ad, hl, rfl, _, hcell⟩ := HR.out.byte hkn
      obtain ⟨x, hx⟩ : ∃ x, x = q[k] := ⟨_, rfl⟩
      rw [← hx] at hcell
      have hcell2 : wr.cell? (ad.add k) = some (.int .u8 (x.toNat : Int)) := hcell
      have hk0 : (0 : Int) ≤ (k : Int) := by omega
      have hk1 : (k : Int) < (n : Int) := by omega
      have htk : q.take (k + 1) = q.take k ++ [x] := by rw [List.take_succ_eq_append_getElem hl, hx]
      have HTK := Lib.hid htk
      have HX := Lib.hid (show x ∈ q by rw [hx]; exact List.getElem_mem _)
      clear hcell htk hx hl
      by_cases hdx : dig x = true
      · have hdd := HD.out x
        rw [show (decide (48 ≤ x) && decide (x ≤ 57)) = true from hdx] at hdd
        have HD2 := Lib.hid hdd
        clear hdd
        go_wp2_with (first
          | (go_at_call 19; (with_reducible refine (HD2.out _).mono ?_); rintro e w1 ⟨rfl, rfl⟩))
        go_roundw
        case rel =>
          refine ⟨k + 1, by omega, by go_num, (by first | rfl | trivial), ?_⟩
          have := HDD.out
          unfold Lx.digits at this ⊢
          rw [HTK.out, List.all_append, this]
          simpa [dig] using hdx
        case measure => simp [intOf]; omega
      · have hdf : dig x = false := by simpa using hdx
        have hdd := HD.out x
        rw [show (decide (48 ≤ x) && decide (x ≤ 57)) = false from hdf] at hdd
        have HD2 := Lib.hid hdd
        clear hdd
        have hres : Lx.digits q = false := by
          rw [Bool.eq_false_iff]
          intro h
          unfold Lx.digits at h
          rw [List.all_eq_true] at h
          have := h x HX.out
          exact hdx this
        have HRES := Lib.hid hres
        clear hres
        go_wp2_with (first
          | (go_at_call 19; (with_reducible refine (HD2.out _).mono ?_); rintro e w1 ⟨rfl, rfl⟩))
        go_ret
        exact ⟨ret_bool (by rw [HRES.out]; rfl), 0, (World.drewN_zero _).symm⟩
    · obtain hke : k = n := by omega
      have hres : Lx.digits q = true := by
        have := HDD.out
        rw [hke, HN.out, List.take_length] at this
        exact this
      have HRES := Lib.hid hres
      clear hres
      cases j with
      | true =>
        go_wp2
        go_ret
        exact ⟨ret_bool (by rw [HRES.out]; rfl), 0, (World.drewN_zero _).symm⟩
      | false =>
        by_cases h60 : l.head? = some 60
        · have ha1 := HA.out true (by rw [h60]; rfl)
          have HA1 := Lib.hid ha1
          have hv : (l.head? == some 60 || l.head? == some 62) = true := by rw [h60]; rfl
          have HV := Lib.hid hv
          clear ha1 hv
          go_wp2_with (first
            | (go_at_call 47; (with_reducible refine HA1.out.mono ?_); rintro e w1 ⟨rfl, m, rfl⟩))
          go_ret
          exact ⟨ret_bool (by rw [HRES.out, HV.out]; rfl), _, rfl⟩
        · have ha1 := HA.out false (by simpa using h60)
          have HA1 := Lib.hid ha1
          obtain ⟨b, hb⟩ : ∃ b, (l.head? == some 62) = b := ⟨_, rfl⟩
          have HB1 := Lib.hid (fun m => HB.out b hb m)
          have hv : (l.head? == some 60 || l.head? == some 62) = b := by rw [hb]; simp [h60]
          have HV := Lib.hid hv
          clear ha1 hv
          go_wp2_with (first
            | (go_at_call 47; (first | (with_reducible refine HA1.out.mono ?_) | (with_reducible refine (HB1.out _).mono ?_)); rintro e w1 ⟨rfl, m, rfl⟩))
          go_ret
          exact ⟨ret_bool (by rw [HRES.out, HV.out]; rfl), _, rfl⟩
end Go.Proofs.YtnjabmacbgehlaaDoor
