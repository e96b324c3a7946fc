/- TesterTells' walk. The listed variables: their condition. -/
import Derived.Test.YtjidclefpmcgoaaDoorYw
import Derived.Test.YtjidclefpmcgoaaDoorYu
namespace Go.Proofs.YtjidclefpmcgoaaDoor
open Go.RowKit Go.Maps
namespace Ar
theorem rd_later {W W' : World} {A : Option Addr} {n : Nat} {xs : List Value} (h : Rd W W.heap.size A n xs) (hl : Later W W') : Rd W' W'.heap.size A n xs := (h.below hl).more hl.size
set_option maxHeartbeats 3200000 in
set_option maxRecDepth 100000 in
theorem tells_law (A : Option Addr) (n c : Nat) (l : List L) (hn : l.length = n) (hc : n ≤ c) (hcm : c ≤ 9223372036854775807) (hs : Short l) (W : World) (hvd : Vd W) (hr : Rd W W.heap.size A n (l.map sv)) : Calls Tryd.prog 3 #[.slice A n c] W fun r W' => r = .returned (.bool true) ∧ Later W W' := by
  have htl : ∀ l, (mkS l).toList = l := toList_mkS
  have HAW := Lib.hid (awake_v W hvd)
  obtain ⟨d, hd⟩ : ∃ d, d = dec l := ⟨_, rfl⟩
  have HD := Lib.hid (show ∀ w, Later W w → Calls Tryd.prog 8 #[.slice A n c] w fun e W' => e = .returned (.tuple #[.int .i64 d.n, .agg #[.bool d.nt, .string (mkS d.op), .string (mkS d.path)], .bool d.asks]) ∧ Later w W' from fun w hl => by rw [hd]; exact dec_all A n c l hn hc hs w (hvd.later hl) (rd_later hr hl))
  have HR := Lib.hid (show ∀ w, Later W w → Calls Tryd.prog 9 #[.slice A n c] w fun e W' => e = .returned (.agg #[.int .i64 d.n, .bool d.asks, .bool d.nt, .string (mkS d.op), .string (mkS d.path)]) ∧ Later w W' from fun w hl => by rw [hd]; exact rdec_all A n c l hn hc hs w (rd_later hr hl))
  have hn9 : (n : Int) ≤ 9223372036854775807 := by omega
  clear hvd hr hs hn hc hcm hd
  obtain ⟨x, nt, op, path, asks⟩ := d
  simp only at HD HR
  by_cases h10 : (10 : Int) < (n : Int)
  · go_enter Tryd.func3, Tryd.ntmps3
    go_wp2_with (go_at_call 7; (with_reducible refine HAW.out.mono ?_); rintro ew w1 ⟨rfl, hl1⟩)
    go_ret
    exact ⟨rfl, hl1⟩
  · go_enter Tryd.func3, Tryd.ntmps3
    go_wp2_with fail
    go_at_call 7
    with_reducible refine HAW.out.mono ?_
    rintro ew w1 ⟨rfl, hl1⟩
    have HL1 := Lib.hid hl1
    clear hl1
    go_wp2_with fail
    go_at_call 8
    with_reducible refine (HD.out _ HL1.out).mono ?_
    rintro e1 w2 ⟨rfl, hl2⟩
    have HL2 := Lib.hid ((HL1.out.trans hl2).trans (Later.alloc w2 (.cells #[.bool nt, .string (mkS op), .string (mkS path)] 25)))
    clear hl2
    go_wp2_with fail
    go_at_call 9
    with_reducible refine (HR.out _ HL2.out).mono ?_
    rintro e3 w3 ⟨rfl, hl3⟩
    have hq := later_cells (hl3.trans (Later.alloc w3 (.cells #[.int .i64 x, .bool asks, .bool nt, .string (mkS op), .string (mkS path)] 29))) (heap_alloc_new w2 (.cells #[.bool nt, .string (mkS op), .string (mkS path)] 25))
    have q0 := (cell_row hq 0).1
    have q1 := (cell_row hq 1).1
    have q2 := (cell_row hq 2).1
    have HL3 := Lib.hid ((HL2.out.trans hl3).trans (Later.alloc w3 (.cells #[.int .i64 x, .bool asks, .bool nt, .string (mkS op), .string (mkS path)] 29)))
    replace q0 : (w3.alloc (.cells #[.int .i64 x, .bool asks, .bool nt, .string (mkS op), .string (mkS path)] 29)).cell? ⟨w2.heap.size, 0, none⟩ = some (.bool nt) := q0
    replace q1 : (w3.alloc (.cells #[.int .i64 x, .bool asks, .bool nt, .string (mkS op), .string (mkS path)] 29)).cell? ⟨w2.heap.size, 1, none⟩ = some (.string (mkS op)) := q1
    replace q2 : (w3.alloc (.cells #[.int .i64 x, .bool asks, .bool nt, .string (mkS op), .string (mkS path)] 29)).cell? ⟨w2.heap.size, 2, none⟩ = some (.string (mkS path)) := q2
    clear hq hl3
    go_wp2
    go_ret
    exact ⟨by first | rfl | simp, HL3.out⟩
end Ar
namespace testerTells
theorem strs (l : List ByteArray) : l.map Value.string = (l.map fun s => s.data.toList).map sv := by
  rw [List.map_map]
  refine List.map_congr_left fun s _ => ?_
  simp only [Function.comp, sv, mkS_of]
theorem sum_le : ∀ (l : List ByteArray) (s : ByteArray), s ∈ l → s.size ≤ (l.map ByteArray.size).sum
  | x :: l, s, h => by
    rw [List.map_cons, List.sum_cons]
    rcases List.mem_cons.1 h with rfl | h
    · omega
    · have := sum_le l s h; omega
theorem short (l : List ByteArray) (h : (l.map ByteArray.size).sum ≤ 1048576) : Ar.Short (l.map fun s => s.data.toList) := fun t ht => by
  obtain ⟨s, hs, rfl⟩ := List.mem_map.1 ht
  have h1 := sum_le l s hs
  have h2 : s.data.toList.length = s.size := rfl
  omega
theorem walk (W : World) (hvd : Ar.Vd W) (A : Option Addr) (n c : Nat) (l : List ByteArray) (h : Rd W W.heap.size A n (l.map Value.string) ∧ (∀ x ∈ l, x.size ≤ maxLen) ∧ n ≤ c ∧ c ≤ maxLen ∧ (l.map ByteArray.size).sum ≤ 1048576) : Calls Tryd.prog 3 #[.slice A n c] W fun r W' => r = .returned (.bool true) ∧ Below W.heap.size W W' := by
  obtain ⟨hr, _, hc, hm, hsum⟩ := h
  rw [strs] at hr
  exact Ar.tells_law A n c _ hr.len_map hc (by unfold maxLen at hm; omega) (short l hsum) W hvd hr
end testerTells
end Go.Proofs.YtjidclefpmcgoaaDoor
