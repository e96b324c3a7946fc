/- strconv.ParseUint, and the argument that a text of digits names. The listed variables: their condition. -/
import Derived.Test.YtmijploffdoenaaDoorNwd
namespace Go.Proofs.YtmijploffdoenaaDoor
open Go.RowKit Go.Maps
namespace En
/-- A variable that holds an error. -/
def ErrAt (W : World) (g : Nat) : Prop := ∃ ev, W.cell? ⟨g, 0, none⟩ = some ev ∧ (ev = .nilIface ∨ ∃ te pe, ev = .iface te pe)
/-- What the listed variables hold. -/
structure Vd (W : World) : Prop where
  tb : Lib.TabIs Tryd.prog W "internal/strconv.uint64pow10" .u64 Lib.pow10Tab
  es : ErrAt W 2
  er : ErrAt W 3
theorem ErrAt.later {w w' : World} {g : Nat} (h : ErrAt w g) (hl : Later w w') : ErrAt w' g := by
  obtain ⟨ev, h1, h2⟩ := h
  exact ⟨ev, (hl.cell (World.block_lt_of_cell? w _ h1)).trans h1, h2⟩
theorem Tb_later {w w' : World} (h : Lib.TabIs Tryd.prog w "internal/strconv.uint64pow10" .u64 Lib.pow10Tab) (hb : Later w w') : Lib.TabIs Tryd.prog w' "internal/strconv.uint64pow10" .u64 Lib.pow10Tab := by
  have hg : Tryd.prog.globalNamed "internal/strconv.uint64pow10" = some 1 := by kernel_rfl
  unfold Lib.TabIs World.var? at h ⊢
  rw [hg] at h ⊢
  simp only [Option.bind_some] at h ⊢
  have hlt : 1 < w.heap.size := by
    rcases Nat.lt_or_ge 1 w.heap.size with h' | h'
    · exact h'
    · rw [Array.getElem?_eq_none h'] at h; cases h
  rw [hb.block _ hlt]
  exact h
theorem Vd.later {w w' : World} (h : Vd w) (hl : Later w w') : Vd w' := ⟨Tb_later h.tb hl, h.es.later hl, h.er.later hl⟩
set_option maxRecDepth 100000 in
theorem pu_empty (W : World) : Calls Tryd.prog 61 #[.string (mkS []), .int .i64 10, .int .i64 63] W fun e W' => e = .returned (.tuple #[.int .u64 0, .iface 105 (.int .i64 2)]) ∧ W' = W := by
  go_enter Tryd.func61, Tryd.ntmps61
  have he : ((mkS []).toList == ([] : List UInt8)) = true := by rw [toList_mkS]; rfl
  go_wp2
  go_ret2
  exact ⟨rfl, rfl⟩
/-- The inner one, at any text. -/
theorem pu_all (l : B) (W : World) (hl : l.length ≤ 2000000) : Calls Tryd.prog 61 #[.string (mkS l), .int .i64 10, .int .i64 63] W fun e W' => (∃ x q, e = .returned (.tuple #[.int .u64 x, q]) ∧ ((NumOk63 l ∧ l ≠ [] ∧ q = .nilIface ∧ x = (val l : Int)) ∨ (¬ (NumOk63 l ∧ l ≠ []) ∧ (q = .iface 105 (.int .i64 1) ∨ q = .iface 105 (.int .i64 2))))) ∧ Later W W' := by
  by_cases h0 : l = []
  · subst h0
    refine (pu_empty W).mono ?_
    rintro e w' ⟨rfl, rfl⟩
    exact ⟨⟨_, _, rfl, .inr ⟨fun h => h.2 rfl, .inr rfl⟩⟩, Later.refl _⟩
  · refine (pu_inner l W h0 hl).mono ?_
    rintro e w' ⟨⟨x, q, rfl, hq⟩, hl'⟩
    refine ⟨⟨x, q, rfl, ?_⟩, hl'⟩
    rcases hq with ⟨h1, h2, h3⟩ | ⟨h1, h2⟩
    · exact .inl ⟨h1, h0, h2, h3⟩
    · exact .inr ⟨fun h => h1 h.1, h2⟩
set_option maxRecDepth 100000 in
set_option maxHeartbeats 3200000 in
theorem parse_v (l : B) (W : World) (hd : Vd W) (hl : l.length ≤ 2000000) : Calls Tryd.prog 54 #[.string (mkS l), .int .i64 10, .int .i64 63] W fun e W' => (∃ x q, e = .returned (.tuple #[.int .u64 x, q]) ∧ ((NumOk63 l ∧ l ≠ [] ∧ q = .nilIface ∧ x = (val l : Int)) ∨ (¬ (NumOk63 l ∧ l ≠ []) ∧ ∃ te pe, q = .iface te pe))) ∧ Later W W' := by
  have HPU := Lib.hid (pu_all l W hl)
  have HD := Lib.hid hd
  have hsz : (mkS l).size ≤ 281474976710656 := by rw [mkS_size]; omega
  have HTS := Lib.hid (fun fn ev w hv hev => Tryd.strconv_toError_syntax fn (mkS l) 10 63 ev w hsz hv hev)
  have HTR := Lib.hid (fun fn ev w hv hev => Tryd.strconv_toError_range fn (mkS l) 10 63 ev w hsz hv hev)
  clear hd hl hsz
  go_enter Tryd.func54, Tryd.ntmps54
  go_wp2_with fail
  go_at_call 61
  with_reducible refine HPU.out.mono ?_
  rintro e w1 ⟨⟨x, q, rfl, hq⟩, hl1⟩
  have HL1 := Lib.hid hl1
  have HQ := Lib.hid hq
  clear hl1
  rcases hq with ⟨_, _, rfl, _⟩ | ⟨_, rfl | rfl⟩
  · go_wp2
    go_ret2
    obtain ⟨h1, h2, _, h3⟩ | ⟨_, h | h⟩ := HQ.out
    · exact ⟨⟨_, _, rfl, .inl ⟨h1, h2, rfl, rfl⟩⟩, HL1.out⟩
    · cases h
    · cases h
  · obtain ⟨ev, hv, hev⟩ := HD.out.er.later HL1.out
    have HV := Lib.hid (And.intro hv hev)
    clear hv hev
    go_wp2_with (go_at_call 62; (with_reducible refine (HTR.out _ ev _ HV.out.1 HV.out.2).mono ?_); rintro e w2 ⟨N, rfl, _, _, hl2⟩; have HL2 := Lib.hid hl2; clear hl2)
    go_ret2
    obtain ⟨_, _, h, _⟩ | ⟨h, _⟩ := HQ.out
    · cases h
    · exact ⟨⟨_, _, rfl, .inr ⟨h, _, _, rfl⟩⟩, HL1.out.trans HL2.out⟩
  · obtain ⟨ev, hv, hev⟩ := HD.out.es.later HL1.out
    have HV := Lib.hid (And.intro hv hev)
    clear hv hev
    go_wp2_with (go_at_call 62; (with_reducible refine (HTS.out _ ev _ HV.out.1 HV.out.2).mono ?_); rintro e w2 ⟨N, rfl, _, _, hl2⟩; have HL2 := Lib.hid hl2; clear hl2)
    go_ret2
    obtain ⟨_, _, h, _⟩ | ⟨h, _⟩ := HQ.out
    · cases h
    · exact ⟨⟨_, _, rfl, .inr ⟨h, _, _, rfl⟩⟩, HL1.out.trans HL2.out⟩
end En
end Go.Proofs.YtmijploffdoenaaDoor
