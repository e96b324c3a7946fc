/- The document's Does. No premises. -/
import Derived.Test.YtdfnbanbofnabaaDoorHc
namespace Go.Proofs.YtdfnbanbofnabaaDoor
open Go.RowKit Go.Maps
namespace Pm
theorem two (w : World) (a b : Obj) : Later w ((w.alloc a).alloc b) := (Later.alloc w a).trans (Later.alloc _ b)
set_option maxRecDepth 100000 in
set_option maxHeartbeats 1600000 in
theorem ref_full0 (v : L) (w : World) (hv : v ≠ [])  : Calls Tryd.prog 8 #[.string (mkS [58, 45]), .string (mkS v), .bool true] w fun e w' => e = .returned (.int .i64 1) ∧ Later w w' := by
  have hn := no v [] hv
  have e0 := is [58, 45] [58, 45] true (by decide)
  have e1 := is [58, 45] [45] false (by decide)
  have e2 := is [58, 45] [58, 61] false (by decide)
  have e3 := is [58, 45] [61] false (by decide)
  have e4 := is [58, 45] [58, 63] false (by decide)
  have e5 := is [58, 45] [63] false (by decide)
  have e6 := is [58, 45] [58, 43] false (by decide)
  have e7 := is [58, 45] [43] false (by decide)
  go_enter Tryd.func8, Tryd.ntmps8
  go_wp2
  go_ret
  exact ⟨rfl, two _ _ _⟩
set_option maxRecDepth 100000 in
set_option maxHeartbeats 1600000 in
theorem ref_full1 (v : L) (w : World) (hv : v ≠ [])  : Calls Tryd.prog 8 #[.string (mkS [45]), .string (mkS v), .bool true] w fun e w' => e = .returned (.int .i64 1) ∧ Later w w' := by
  have hn := no v [] hv
  have e0 := is [45] [58, 45] false (by decide)
  have e1 := is [45] [45] true (by decide)
  have e2 := is [45] [58, 61] false (by decide)
  have e3 := is [45] [61] false (by decide)
  have e4 := is [45] [58, 63] false (by decide)
  have e5 := is [45] [63] false (by decide)
  have e6 := is [45] [58, 43] false (by decide)
  have e7 := is [45] [43] false (by decide)
  go_enter Tryd.func8, Tryd.ntmps8
  go_wp2
  go_ret
  exact ⟨rfl, two _ _ _⟩
set_option maxRecDepth 100000 in
set_option maxHeartbeats 1600000 in
theorem ref_full2 (v : L) (w : World) (hv : v ≠ [])  : Calls Tryd.prog 8 #[.string (mkS [58, 61]), .string (mkS v), .bool true] w fun e w' => e = .returned (.int .i64 1) ∧ Later w w' := by
  have hn := no v [] hv
  have e0 := is [58, 61] [58, 45] false (by decide)
  have e1 := is [58, 61] [45] false (by decide)
  have e2 := is [58, 61] [58, 61] true (by decide)
  have e3 := is [58, 61] [61] false (by decide)
  have e4 := is [58, 61] [58, 63] false (by decide)
  have e5 := is [58, 61] [63] false (by decide)
  have e6 := is [58, 61] [58, 43] false (by decide)
  have e7 := is [58, 61] [43] false (by decide)
  go_enter Tryd.func8, Tryd.ntmps8
  go_wp2
  go_ret
  exact ⟨rfl, two _ _ _⟩
set_option maxRecDepth 100000 in
set_option maxHeartbeats 1600000 in
theorem ref_full3 (v : L) (w : World) (hv : v ≠ [])  : Calls Tryd.prog 8 #[.string (mkS [61]), .string (mkS v), .bool true] w fun e w' => e = .returned (.int .i64 1) ∧ Later w w' := by
  have hn := no v [] hv
  have e0 := is [61] [58, 45] false (by decide)
  have e1 := is [61] [45] false (by decide)
  have e2 := is [61] [58, 61] false (by decide)
  have e3 := is [61] [61] true (by decide)
  have e4 := is [61] [58, 63] false (by decide)
  have e5 := is [61] [63] false (by decide)
  have e6 := is [61] [58, 43] false (by decide)
  have e7 := is [61] [43] false (by decide)
  go_enter Tryd.func8, Tryd.ntmps8
  go_wp2
  go_ret
  exact ⟨rfl, two _ _ _⟩
set_option maxRecDepth 100000 in
set_option maxHeartbeats 1600000 in
theorem ref_full4 (v : L) (w : World) (hv : v ≠ [])  : Calls Tryd.prog 8 #[.string (mkS [58, 63]), .string (mkS v), .bool true] w fun e w' => e = .returned (.int .i64 1) ∧ Later w w' := by
  have hn := no v [] hv
  have e0 := is [58, 63] [58, 45] false (by decide)
  have e1 := is [58, 63] [45] false (by decide)
  have e2 := is [58, 63] [58, 61] false (by decide)
  have e3 := is [58, 63] [61] false (by decide)
  have e4 := is [58, 63] [58, 63] true (by decide)
  have e5 := is [58, 63] [63] false (by decide)
  have e6 := is [58, 63] [58, 43] false (by decide)
  have e7 := is [58, 63] [43] false (by decide)
  go_enter Tryd.func8, Tryd.ntmps8
  go_wp2
  go_ret
  exact ⟨rfl, two _ _ _⟩
set_option maxRecDepth 100000 in
set_option maxHeartbeats 1600000 in
theorem ref_full5 (v : L) (w : World) (hv : v ≠ [])  : Calls Tryd.prog 8 #[.string (mkS [63]), .string (mkS v), .bool true] w fun e w' => e = .returned (.int .i64 1) ∧ Later w w' := by
  have hn := no v [] hv
  have e0 := is [63] [58, 45] false (by decide)
  have e1 := is [63] [45] false (by decide)
  have e2 := is [63] [58, 61] false (by decide)
  have e3 := is [63] [61] false (by decide)
  have e4 := is [63] [58, 63] false (by decide)
  have e5 := is [63] [63] true (by decide)
  have e6 := is [63] [58, 43] false (by decide)
  have e7 := is [63] [43] false (by decide)
  go_enter Tryd.func8, Tryd.ntmps8
  go_wp2
  go_ret
  exact ⟨rfl, two _ _ _⟩
set_option maxRecDepth 100000 in
set_option maxHeartbeats 1600000 in
theorem ref_full6 (v : L) (w : World) (hv : v ≠ [])  : Calls Tryd.prog 8 #[.string (mkS [58, 43]), .string (mkS v), .bool true] w fun e w' => e = .returned (.int .i64 2) ∧ Later w w' := by
  have hn := no v [] hv
  have e0 := is [58, 43] [58, 45] false (by decide)
  have e1 := is [58, 43] [45] false (by decide)
  have e2 := is [58, 43] [58, 61] false (by decide)
  have e3 := is [58, 43] [61] false (by decide)
  have e4 := is [58, 43] [58, 63] false (by decide)
  have e5 := is [58, 43] [63] false (by decide)
  have e6 := is [58, 43] [58, 43] true (by decide)
  have e7 := is [58, 43] [43] false (by decide)
  go_enter Tryd.func8, Tryd.ntmps8
  go_wp2
  go_ret
  exact ⟨rfl, two _ _ _⟩
set_option maxRecDepth 100000 in
set_option maxHeartbeats 1600000 in
theorem ref_full7 (v : L) (w : World) (hv : v ≠ [])  : Calls Tryd.prog 8 #[.string (mkS [43]), .string (mkS v), .bool true] w fun e w' => e = .returned (.int .i64 2) ∧ Later w w' := by
  have hn := no v [] hv
  have e0 := is [43] [58, 45] false (by decide)
  have e1 := is [43] [45] false (by decide)
  have e2 := is [43] [58, 61] false (by decide)
  have e3 := is [43] [61] false (by decide)
  have e4 := is [43] [58, 63] false (by decide)
  have e5 := is [43] [63] false (by decide)
  have e6 := is [43] [58, 43] false (by decide)
  have e7 := is [43] [43] true (by decide)
  go_enter Tryd.func8, Tryd.ntmps8
  go_wp2
  go_ret
  exact ⟨rfl, two _ _ _⟩
set_option maxRecDepth 100000 in
set_option maxHeartbeats 1600000 in
theorem ref_full8 (op : L) (v : L) (w : World) (hv : v ≠ []) (h0 : op ≠ [58, 45]) (h1 : op ≠ [45]) (h2 : op ≠ [58, 61]) (h3 : op ≠ [61]) (h4 : op ≠ [58, 63]) (h5 : op ≠ [63]) (h6 : op ≠ [58, 43]) (h7 : op ≠ [43]) : Calls Tryd.prog 8 #[.string (mkS op), .string (mkS v), .bool true] w fun e w' => e = .returned (.int .i64 1) ∧ Later w w' := by
  have hn := no v [] hv
  have e0 := no op [58, 45] h0
  have e1 := no op [45] h1
  have e2 := no op [58, 61] h2
  have e3 := no op [61] h3
  have e4 := no op [58, 63] h4
  have e5 := no op [63] h5
  have e6 := no op [58, 43] h6
  have e7 := no op [43] h7
  clear h0 h1 h2 h3 h4 h5 h6 h7
  go_enter Tryd.func8, Tryd.ntmps8
  go_wp2
  go_ret
  exact ⟨rfl, Later.alloc _ _⟩
set_option maxRecDepth 100000 in
set_option maxHeartbeats 1600000 in
theorem ref_empty0 (w : World)   : Calls Tryd.prog 8 #[.string (mkS [58, 45]), .string (mkS []), .bool true] w fun e w' => e = .returned (.int .i64 2) ∧ Later w w' := by
  have hn := is [] [] true rfl
  have e0 := is [58, 45] [58, 45] true (by decide)
  have e1 := is [58, 45] [45] false (by decide)
  have e2 := is [58, 45] [58, 61] false (by decide)
  have e3 := is [58, 45] [61] false (by decide)
  have e4 := is [58, 45] [58, 63] false (by decide)
  have e5 := is [58, 45] [63] false (by decide)
  have e6 := is [58, 45] [58, 43] false (by decide)
  have e7 := is [58, 45] [43] false (by decide)
  go_enter Tryd.func8, Tryd.ntmps8
  go_wp2
  go_ret
  exact ⟨rfl, two _ _ _⟩
set_option maxRecDepth 100000 in
set_option maxHeartbeats 1600000 in
theorem ref_empty1 (w : World)   : Calls Tryd.prog 8 #[.string (mkS [45]), .string (mkS []), .bool true] w fun e w' => e = .returned (.int .i64 1) ∧ Later w w' := by
  have hn := is [] [] true rfl
  have e0 := is [45] [58, 45] false (by decide)
  have e1 := is [45] [45] true (by decide)
  have e2 := is [45] [58, 61] false (by decide)
  have e3 := is [45] [61] false (by decide)
  have e4 := is [45] [58, 63] false (by decide)
  have e5 := is [45] [63] false (by decide)
  have e6 := is [45] [58, 43] false (by decide)
  have e7 := is [45] [43] false (by decide)
  go_enter Tryd.func8, Tryd.ntmps8
  go_wp2
  go_ret
  exact ⟨rfl, two _ _ _⟩
set_option maxRecDepth 100000 in
set_option maxHeartbeats 1600000 in
theorem ref_empty2 (w : World)   : Calls Tryd.prog 8 #[.string (mkS [58, 61]), .string (mkS []), .bool true] w fun e w' => e = .returned (.int .i64 3) ∧ Later w w' := by
  have hn := is [] [] true rfl
  have e0 := is [58, 61] [58, 45] false (by decide)
  have e1 := is [58, 61] [45] false (by decide)
  have e2 := is [58, 61] [58, 61] true (by decide)
  have e3 := is [58, 61] [61] false (by decide)
  have e4 := is [58, 61] [58, 63] false (by decide)
  have e5 := is [58, 61] [63] false (by decide)
  have e6 := is [58, 61] [58, 43] false (by decide)
  have e7 := is [58, 61] [43] false (by decide)
  go_enter Tryd.func8, Tryd.ntmps8
  go_wp2
  go_ret
  exact ⟨rfl, two _ _ _⟩
set_option maxRecDepth 100000 in
set_option maxHeartbeats 1600000 in
theorem ref_empty3 (w : World)   : Calls Tryd.prog 8 #[.string (mkS [61]), .string (mkS []), .bool true] w fun e w' => e = .returned (.int .i64 1) ∧ Later w w' := by
  have hn := is [] [] true rfl
  have e0 := is [61] [58, 45] false (by decide)
  have e1 := is [61] [45] false (by decide)
  have e2 := is [61] [58, 61] false (by decide)
  have e3 := is [61] [61] true (by decide)
  have e4 := is [61] [58, 63] false (by decide)
  have e5 := is [61] [63] false (by decide)
  have e6 := is [61] [58, 43] false (by decide)
  have e7 := is [61] [43] false (by decide)
  go_enter Tryd.func8, Tryd.ntmps8
  go_wp2
  go_ret
  exact ⟨rfl, two _ _ _⟩
set_option maxRecDepth 100000 in
set_option maxHeartbeats 1600000 in
theorem ref_empty4 (w : World)   : Calls Tryd.prog 8 #[.string (mkS [58, 63]), .string (mkS []), .bool true] w fun e w' => e = .returned (.int .i64 4) ∧ Later w w' := by
  have hn := is [] [] true rfl
  have e0 := is [58, 63] [58, 45] false (by decide)
  have e1 := is [58, 63] [45] false (by decide)
  have e2 := is [58, 63] [58, 61] false (by decide)
  have e3 := is [58, 63] [61] false (by decide)
  have e4 := is [58, 63] [58, 63] true (by decide)
  have e5 := is [58, 63] [63] false (by decide)
  have e6 := is [58, 63] [58, 43] false (by decide)
  have e7 := is [58, 63] [43] false (by decide)
  go_enter Tryd.func8, Tryd.ntmps8
  go_wp2
  go_ret
  exact ⟨rfl, two _ _ _⟩
set_option maxRecDepth 100000 in
set_option maxHeartbeats 1600000 in
theorem ref_empty5 (w : World)   : Calls Tryd.prog 8 #[.string (mkS [63]), .string (mkS []), .bool true] w fun e w' => e = .returned (.int .i64 1) ∧ Later w w' := by
  have hn := is [] [] true rfl
  have e0 := is [63] [58, 45] false (by decide)
  have e1 := is [63] [45] false (by decide)
  have e2 := is [63] [58, 61] false (by decide)
  have e3 := is [63] [61] false (by decide)
  have e4 := is [63] [58, 63] false (by decide)
  have e5 := is [63] [63] true (by decide)
  have e6 := is [63] [58, 43] false (by decide)
  have e7 := is [63] [43] false (by decide)
  go_enter Tryd.func8, Tryd.ntmps8
  go_wp2
  go_ret
  exact ⟨rfl, two _ _ _⟩
set_option maxRecDepth 100000 in
set_option maxHeartbeats 1600000 in
theorem ref_empty6 (w : World)   : Calls Tryd.prog 8 #[.string (mkS [58, 43]), .string (mkS []), .bool true] w fun e w' => e = .returned (.int .i64 5) ∧ Later w w' := by
  have hn := is [] [] true rfl
  have e0 := is [58, 43] [58, 45] false (by decide)
  have e1 := is [58, 43] [45] false (by decide)
  have e2 := is [58, 43] [58, 61] false (by decide)
  have e3 := is [58, 43] [61] false (by decide)
  have e4 := is [58, 43] [58, 63] false (by decide)
  have e5 := is [58, 43] [63] false (by decide)
  have e6 := is [58, 43] [58, 43] true (by decide)
  have e7 := is [58, 43] [43] false (by decide)
  go_enter Tryd.func8, Tryd.ntmps8
  go_wp2
  go_ret
  exact ⟨rfl, two _ _ _⟩
set_option maxRecDepth 100000 in
set_option maxHeartbeats 1600000 in
theorem ref_empty7 (w : World)   : Calls Tryd.prog 8 #[.string (mkS [43]), .string (mkS []), .bool true] w fun e w' => e = .returned (.int .i64 2) ∧ Later w w' := by
  have hn := is [] [] true rfl
  have e0 := is [43] [58, 45] false (by decide)
  have e1 := is [43] [45] false (by decide)
  have e2 := is [43] [58, 61] false (by decide)
  have e3 := is [43] [61] false (by decide)
  have e4 := is [43] [58, 63] false (by decide)
  have e5 := is [43] [63] false (by decide)
  have e6 := is [43] [58, 43] false (by decide)
  have e7 := is [43] [43] true (by decide)
  go_enter Tryd.func8, Tryd.ntmps8
  go_wp2
  go_ret
  exact ⟨rfl, two _ _ _⟩
set_option maxRecDepth 100000 in
set_option maxHeartbeats 1600000 in
theorem ref_empty8 (op : L) (w : World)  (h0 : op ≠ [58, 45]) (h1 : op ≠ [45]) (h2 : op ≠ [58, 61]) (h3 : op ≠ [61]) (h4 : op ≠ [58, 63]) (h5 : op ≠ [63]) (h6 : op ≠ [58, 43]) (h7 : op ≠ [43]) : Calls Tryd.prog 8 #[.string (mkS op), .string (mkS []), .bool true] w fun e w' => e = .returned (.int .i64 1) ∧ Later w w' := by
  have hn := is [] [] true rfl
  have e0 := no op [58, 45] h0
  have e1 := no op [45] h1
  have e2 := no op [58, 61] h2
  have e3 := no op [61] h3
  have e4 := no op [58, 63] h4
  have e5 := no op [63] h5
  have e6 := no op [58, 43] h6
  have e7 := no op [43] h7
  clear h0 h1 h2 h3 h4 h5 h6 h7
  go_enter Tryd.func8, Tryd.ntmps8
  go_wp2
  go_ret
  exact ⟨rfl, Later.alloc _ _⟩
set_option maxRecDepth 100000 in
set_option maxHeartbeats 1600000 in
theorem ref_unset0 (v : L) (w : World)   : Calls Tryd.prog 8 #[.string (mkS [58, 45]), .string (mkS v), .bool false] w fun e w' => e = .returned (.int .i64 2) ∧ Later w w' := by
  have e0 := is [58, 45] [58, 45] true (by decide)
  have e1 := is [58, 45] [45] false (by decide)
  have e2 := is [58, 45] [58, 61] false (by decide)
  have e3 := is [58, 45] [61] false (by decide)
  have e4 := is [58, 45] [58, 63] false (by decide)
  have e5 := is [58, 45] [63] false (by decide)
  have e6 := is [58, 45] [58, 43] false (by decide)
  have e7 := is [58, 45] [43] false (by decide)
  go_enter Tryd.func8, Tryd.ntmps8
  go_wp2
  go_ret
  exact ⟨rfl, two _ _ _⟩
set_option maxRecDepth 100000 in
set_option maxHeartbeats 1600000 in
theorem ref_unset1 (v : L) (w : World)   : Calls Tryd.prog 8 #[.string (mkS [45]), .string (mkS v), .bool false] w fun e w' => e = .returned (.int .i64 2) ∧ Later w w' := by
  have e0 := is [45] [58, 45] false (by decide)
  have e1 := is [45] [45] true (by decide)
  have e2 := is [45] [58, 61] false (by decide)
  have e3 := is [45] [61] false (by decide)
  have e4 := is [45] [58, 63] false (by decide)
  have e5 := is [45] [63] false (by decide)
  have e6 := is [45] [58, 43] false (by decide)
  have e7 := is [45] [43] false (by decide)
  go_enter Tryd.func8, Tryd.ntmps8
  go_wp2
  go_ret
  exact ⟨rfl, two _ _ _⟩
set_option maxRecDepth 100000 in
set_option maxHeartbeats 1600000 in
theorem ref_unset2 (v : L) (w : World)   : Calls Tryd.prog 8 #[.string (mkS [58, 61]), .string (mkS v), .bool false] w fun e w' => e = .returned (.int .i64 3) ∧ Later w w' := by
  have e0 := is [58, 61] [58, 45] false (by decide)
  have e1 := is [58, 61] [45] false (by decide)
  have e2 := is [58, 61] [58, 61] true (by decide)
  have e3 := is [58, 61] [61] false (by decide)
  have e4 := is [58, 61] [58, 63] false (by decide)
  have e5 := is [58, 61] [63] false (by decide)
  have e6 := is [58, 61] [58, 43] false (by decide)
  have e7 := is [58, 61] [43] false (by decide)
  go_enter Tryd.func8, Tryd.ntmps8
  go_wp2
  go_ret
  exact ⟨rfl, two _ _ _⟩
set_option maxRecDepth 100000 in
set_option maxHeartbeats 1600000 in
theorem ref_unset3 (v : L) (w : World)   : Calls Tryd.prog 8 #[.string (mkS [61]), .string (mkS v), .bool false] w fun e w' => e = .returned (.int .i64 3) ∧ Later w w' := by
  have e0 := is [61] [58, 45] false (by decide)
  have e1 := is [61] [45] false (by decide)
  have e2 := is [61] [58, 61] false (by decide)
  have e3 := is [61] [61] true (by decide)
  have e4 := is [61] [58, 63] false (by decide)
  have e5 := is [61] [63] false (by decide)
  have e6 := is [61] [58, 43] false (by decide)
  have e7 := is [61] [43] false (by decide)
  go_enter Tryd.func8, Tryd.ntmps8
  go_wp2
  go_ret
  exact ⟨rfl, two _ _ _⟩
set_option maxRecDepth 100000 in
set_option maxHeartbeats 1600000 in
theorem ref_unset4 (v : L) (w : World)   : Calls Tryd.prog 8 #[.string (mkS [58, 63]), .string (mkS v), .bool false] w fun e w' => e = .returned (.int .i64 4) ∧ Later w w' := by
  have e0 := is [58, 63] [58, 45] false (by decide)
  have e1 := is [58, 63] [45] false (by decide)
  have e2 := is [58, 63] [58, 61] false (by decide)
  have e3 := is [58, 63] [61] false (by decide)
  have e4 := is [58, 63] [58, 63] true (by decide)
  have e5 := is [58, 63] [63] false (by decide)
  have e6 := is [58, 63] [58, 43] false (by decide)
  have e7 := is [58, 63] [43] false (by decide)
  go_enter Tryd.func8, Tryd.ntmps8
  go_wp2
  go_ret
  exact ⟨rfl, two _ _ _⟩
set_option maxRecDepth 100000 in
set_option maxHeartbeats 1600000 in
theorem ref_unset5 (v : L) (w : World)   : Calls Tryd.prog 8 #[.string (mkS [63]), .string (mkS v), .bool false] w fun e w' => e = .returned (.int .i64 4) ∧ Later w w' := by
  have e0 := is [63] [58, 45] false (by decide)
  have e1 := is [63] [45] false (by decide)
  have e2 := is [63] [58, 61] false (by decide)
  have e3 := is [63] [61] false (by decide)
  have e4 := is [63] [58, 63] false (by decide)
  have e5 := is [63] [63] true (by decide)
  have e6 := is [63] [58, 43] false (by decide)
  have e7 := is [63] [43] false (by decide)
  go_enter Tryd.func8, Tryd.ntmps8
  go_wp2
  go_ret
  exact ⟨rfl, two _ _ _⟩
set_option maxRecDepth 100000 in
set_option maxHeartbeats 1600000 in
theorem ref_unset6 (v : L) (w : World)   : Calls Tryd.prog 8 #[.string (mkS [58, 43]), .string (mkS v), .bool false] w fun e w' => e = .returned (.int .i64 5) ∧ Later w w' := by
  have e0 := is [58, 43] [58, 45] false (by decide)
  have e1 := is [58, 43] [45] false (by decide)
  have e2 := is [58, 43] [58, 61] false (by decide)
  have e3 := is [58, 43] [61] false (by decide)
  have e4 := is [58, 43] [58, 63] false (by decide)
  have e5 := is [58, 43] [63] false (by decide)
  have e6 := is [58, 43] [58, 43] true (by decide)
  have e7 := is [58, 43] [43] false (by decide)
  go_enter Tryd.func8, Tryd.ntmps8
  go_wp2
  go_ret
  exact ⟨rfl, two _ _ _⟩
set_option maxRecDepth 100000 in
set_option maxHeartbeats 1600000 in
theorem ref_unset7 (v : L) (w : World)   : Calls Tryd.prog 8 #[.string (mkS [43]), .string (mkS v), .bool false] w fun e w' => e = .returned (.int .i64 5) ∧ Later w w' := by
  have e0 := is [43] [58, 45] false (by decide)
  have e1 := is [43] [45] false (by decide)
  have e2 := is [43] [58, 61] false (by decide)
  have e3 := is [43] [61] false (by decide)
  have e4 := is [43] [58, 63] false (by decide)
  have e5 := is [43] [63] false (by decide)
  have e6 := is [43] [58, 43] false (by decide)
  have e7 := is [43] [43] true (by decide)
  go_enter Tryd.func8, Tryd.ntmps8
  go_wp2
  go_ret
  exact ⟨rfl, two _ _ _⟩
set_option maxRecDepth 100000 in
set_option maxHeartbeats 1600000 in
theorem ref_unset8 (op : L) (v : L) (w : World)  (h0 : op ≠ [58, 45]) (h1 : op ≠ [45]) (h2 : op ≠ [58, 61]) (h3 : op ≠ [61]) (h4 : op ≠ [58, 63]) (h5 : op ≠ [63]) (h6 : op ≠ [58, 43]) (h7 : op ≠ [43]) : Calls Tryd.prog 8 #[.string (mkS op), .string (mkS v), .bool false] w fun e w' => e = .returned (.int .i64 5) ∧ Later w w' := by
  have e0 := no op [58, 45] h0
  have e1 := no op [45] h1
  have e2 := no op [58, 61] h2
  have e3 := no op [61] h3
  have e4 := no op [58, 63] h4
  have e5 := no op [63] h5
  have e6 := no op [58, 43] h6
  have e7 := no op [43] h7
  clear h0 h1 h2 h3 h4 h5 h6 h7
  go_enter Tryd.func8, Tryd.ntmps8
  go_wp2
  go_ret
  exact ⟨rfl, Later.alloc _ _⟩
theorem ref_v (op v : L) (b : Bool) (w : World) : Calls Tryd.prog 8 #[.string (mkS op), .string (mkS v), .bool b] w fun e w' => e = .returned (.int .i64 (does op v b)) ∧ Later w w' := by
  unfold does
  by_cases h0 : op = [58, 45]
  · subst h0
    rw [row0]
    cases b with
    | false => rw [col2]; exact ref_unset0 v w
    | true =>
      by_cases hv : v = []
      · subst hv; rw [col1]; exact ref_empty0 w
      · rw [col0 hv]; exact ref_full0 v w hv
  by_cases h1 : op = [45]
  · subst h1
    rw [row1]
    cases b with
    | false => rw [col2]; exact ref_unset1 v w
    | true =>
      by_cases hv : v = []
      · subst hv; rw [col1]; exact ref_empty1 w
      · rw [col0 hv]; exact ref_full1 v w hv
  by_cases h2 : op = [58, 61]
  · subst h2
    rw [row2]
    cases b with
    | false => rw [col2]; exact ref_unset2 v w
    | true =>
      by_cases hv : v = []
      · subst hv; rw [col1]; exact ref_empty2 w
      · rw [col0 hv]; exact ref_full2 v w hv
  by_cases h3 : op = [61]
  · subst h3
    rw [row3]
    cases b with
    | false => rw [col2]; exact ref_unset3 v w
    | true =>
      by_cases hv : v = []
      · subst hv; rw [col1]; exact ref_empty3 w
      · rw [col0 hv]; exact ref_full3 v w hv
  by_cases h4 : op = [58, 63]
  · subst h4
    rw [row4]
    cases b with
    | false => rw [col2]; exact ref_unset4 v w
    | true =>
      by_cases hv : v = []
      · subst hv; rw [col1]; exact ref_empty4 w
      · rw [col0 hv]; exact ref_full4 v w hv
  by_cases h5 : op = [63]
  · subst h5
    rw [row5]
    cases b with
    | false => rw [col2]; exact ref_unset5 v w
    | true =>
      by_cases hv : v = []
      · subst hv; rw [col1]; exact ref_empty5 w
      · rw [col0 hv]; exact ref_full5 v w hv
  by_cases h6 : op = [58, 43]
  · subst h6
    rw [row6]
    cases b with
    | false => rw [col2]; exact ref_unset6 v w
    | true =>
      by_cases hv : v = []
      · subst hv; rw [col1]; exact ref_empty6 w
      · rw [col0 hv]; exact ref_full6 v w hv
  by_cases h7 : op = [43]
  · subst h7
    rw [row7]
    cases b with
    | false => rw [col2]; exact ref_unset7 v w
    | true =>
      by_cases hv : v = []
      · subst hv; rw [col1]; exact ref_empty7 w
      · rw [col0 hv]; exact ref_full7 v w hv
  rw [row8 h0 h1 h2 h3 h4 h5 h6 h7]
  cases b with
  | false => rw [col2]; exact ref_unset8 op v w h0 h1 h2 h3 h4 h5 h6 h7
  | true =>
    by_cases hv : v = []
    · subst hv; rw [col1]; exact ref_empty8 op w h0 h1 h2 h3 h4 h5 h6 h7
    · rw [col0 hv]; exact ref_full8 op v w hv h0 h1 h2 h3 h4 h5 h6 h7
end Pm
end Go.Proofs.YtdfnbanbofnabaaDoor
