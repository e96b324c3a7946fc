/- The document's examples. The listed variables: their condition. -/
import Derived.Test.YtjidclefpmcgoaaDoorYp
import Derived.Test.YtjidclefpmcgoaaDoorYq
import Derived.BigQuiet
namespace Go.Proofs.YtjidclefpmcgoaaDoor
open Go.RowKit Go.Maps
namespace Ar
/-- Arguments that are laid just ahead of a call. -/
theorem lit_dec (l : List L) (hs : Short l) (n : Nat) (hn : n = l.length) (cs : Array Value) (hcs : cs = (l.map sv).toArray) (W : World) (hvd : Vd W) (v : Value) (hv : decV (dec l) = v) (N : Nat) (hN : N = W.heap.size) : Calls Tryd.prog 8 #[.slice (some ⟨N, 0, none⟩) n n] (W.alloc (.cells cs 9)) fun e W' => e = .returned v ∧ Later (W.alloc (.cells cs 9)) W' := by
  subst hn hcs hv hN
  have hr := Rd.lit W 9 (l.map sv)
  rw [List.length_map] at hr
  refine dec_all _ _ _ l rfl (Nat.le_refl _) hs _ (hvd.later (Later.alloc _ _)) ?_
  rw [World.size_alloc]
  exact hr
theorem dec_ex1 : decV (dec [[51], [45, 108, 116], [49, 48]]) = .tuple #[.int .i64 0, .agg #[.bool false, .string ⟨#[]⟩, .string ⟨#[]⟩], .bool false] := by
  have h : mid [45, 108, 116] [51] [49, 48] = some 0 := by decide +kernel
  unfold dec
  rw [h]
  rfl
theorem dec_ex2 : decV (dec [[33], [97], [61], [97]]) = .tuple #[.int .i64 1, .agg #[.bool false, .string ⟨#[]⟩, .string ⟨#[]⟩], .bool false] := rfl
theorem dec_ex3 : decV (dec [[33], [45, 100], [120]]) = .tuple #[.int .i64 0, .agg #[.bool true, .string ⟨#[45, 100]⟩, .string ⟨#[120]⟩], .bool true] := rfl
theorem short_of {l : List L} (h : l.all (fun t => decide (t.length ≤ 100)) = true) : Short l := fun t ht => by
  have := of_decide_eq_true (List.all_eq_true.1 h t ht)
  omega
set_option maxHeartbeats 3200000 in
set_option maxRecDepth 100000 in
theorem awake_v (W : World) (hvd : Vd W) : Calls Tryd.prog 7 #[] W fun e W' => e = .returned (.bool true) ∧ Later W W' := by
  have htl : ∀ l, (mkS l).toList = l := toList_mkS
  have HVD := Lib.hid hvd
  have HD1 := Lib.hid (fun w hv N hN => lit_dec [[51], [45, 108, 116], [49, 48]] (short_of rfl) 3 rfl #[.string ⟨#[51]⟩, .string ⟨#[45, 108, 116]⟩, .string ⟨#[49, 48]⟩] rfl w hv _ dec_ex1 N hN)
  have HD2 := Lib.hid (fun w hv N hN => lit_dec [[33], [97], [61], [97]] (short_of rfl) 4 rfl #[.string ⟨#[33]⟩, .string ⟨#[97]⟩, .string ⟨#[61]⟩, .string ⟨#[97]⟩] rfl w hv _ dec_ex2 N hN)
  have HD3 := Lib.hid (fun w hv N hN => lit_dec [[33], [45, 100], [120]] (short_of rfl) 3 rfl #[.string ⟨#[33]⟩, .string ⟨#[45, 100]⟩, .string ⟨#[120]⟩] rfl w hv _ dec_ex3 N hN)
  have HTO := Lib.hid (show ∀ w, Calls Tryd.prog 10 #[.agg #[.bool true, .string ⟨#[45, 100]⟩, .string ⟨#[120]⟩], .agg #[.int .i64 0, .int .i64 0, .int .i64 2, .int .i64 0, .string ⟨#[]⟩, .slice none 0 0, .int .i64 0]] w fun r w' => r = .returned (.int .i64 1) ∧ Later w w' from fun w => answer_v true [45, 100] [120] 0 0 2 0 ⟨#[]⟩ none 0 0 0 w)
  clear hvd
  go_enter Tryd.func7, Tryd.ntmps7
  go_wp2_with fail
  go_at_call 8
  with_reducible refine (HD1.out _ HVD.out _ rfl).mono ?_
  rintro e w1 ⟨rfl, hl1⟩
  have HL1 := Lib.hid (((Later.alloc W _).trans hl1).trans (Later.alloc w1 (.cells #[.bool false, .string ⟨#[]⟩, .string ⟨#[]⟩] 25)))
  clear hl1
  go_wp2_with fail
  go_at_call 8
  with_reducible refine (HD2.out _ (HVD.out.later HL1.out) (w1.heap.size + 1) (World.size_alloc _ _).symm).mono ?_
  rintro e w2 ⟨rfl, hl2⟩
  have HL2 := Lib.hid (((HL1.out.trans (Later.alloc _ _)).trans hl2).trans (Later.alloc w2 (.cells #[.bool false, .string ⟨#[]⟩, .string ⟨#[]⟩] 25)))
  clear hl2
  go_wp2_with fail
  go_at_call 8
  with_reducible refine (HD3.out _ (HVD.out.later HL2.out) (w2.heap.size + 1) (World.size_alloc _ _).symm).mono ?_
  rintro e w3 ⟨rfl, hl3⟩
  have HL3 := Lib.hid (((HL2.out.trans (Later.alloc _ _)).trans hl3).trans (Later.alloc w3 (.cells #[.bool true, .string ⟨#[45, 100]⟩, .string ⟨#[120]⟩] 25)))
  clear hl3
  go_wp2_with (go_at_call 10; (with_reducible refine (HTO.out _).mono ?_); rintro e w4 ⟨rfl, hl4⟩)
  go_ret
  exact ⟨rfl, HL3.out.trans hl4⟩
end Ar
end Go.Proofs.YtjidclefpmcgoaaDoor
