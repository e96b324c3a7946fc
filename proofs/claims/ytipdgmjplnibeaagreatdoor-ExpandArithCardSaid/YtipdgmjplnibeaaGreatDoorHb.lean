import Derived.Test.YtipdgmjplnibeaaGreatDoorG13
set_option maxRecDepth 100000
set_option maxHeartbeats 1600000
namespace Go.Proofs.YtipdgmjplnibeaaGreatDoor
open Go.RowKit Go.Maps
namespace Pm
def row (op:L):List Int:=if op=[58,45] then [1,2,2] else if op=[45] then [1,1,2] else if op=[58,61] then [1,3,3] else if op=[61] then [1,1,3] else if op=[58,63] then [1,4,4] else if op=[63] then [1,1,4] else if op=[58,43] then [2,5,5] else if op=[43] then [2,2,5] else [1,1,5]
def col (v:L) (b:Bool):Nat:=if b=true then (if v=[] then 1 else 0) else 2
def does (op v:L) (b:Bool):Int:=(row op).getD (col v b) 0
theorem ne_nil {v:L} (h:v≠[]):¬ (mkS v).toList=[]:=by rw[toList_mkS];exact h
theorem is_nil:((mkS []).toList=[]):=by rw[toList_mkS]
theorem does_full0 (v:L) (w:World) (hv:v≠[])  : Calls Tryz.prog 110 #[.string (mkS [58,45]),.string (mkS v),.bool true] w fun e w'=>e=.returned (.int .i64 1)∧Later w w':=by
 have HL:=Lib.hid (fun o=>Later.alloc w o)
 have hn:=ne_nil hv
 have e0:=is [58,45] [58,45] true (by decide)
 have e1:=is [58,45] [45] false (by decide)
 have e2:=is [58,45] [58,61] false (by decide)
 have e3:=is [58,45] [61] false (by decide)
 have e4:=is [58,45] [58,63] false (by decide)
 have e5:=is [58,45] [63] false (by decide)
 have e6:=is [58,45] [58,43] false (by decide)
 have e7:=is [58,45] [43] false (by decide)
 have hd:(mkS [58,45]).extract 1 (mkS [58,45]).size=mkS [45]:=drop_text _ _
 have ed:=is [45] [43] false (by decide)
 go_enter Tryz.func110,Tryz.ntmps110
 go_wp2_with (go_at_call 142;(with_reducible refine(without_v _ _).mono ?_);rintro e w1 ⟨rfl,rfl⟩)
 go_ret
 first | exact⟨rfl,HL.out _⟩ | exact⟨by rw[←HW.out];rfl,HL.out _⟩
theorem does_full1 (v:L) (w:World) (hv:v≠[])  : Calls Tryz.prog 110 #[.string (mkS [45]),.string (mkS v),.bool true] w fun e w'=>e=.returned (.int .i64 1)∧Later w w':=by
 have HL:=Lib.hid (fun o=>Later.alloc w o)
 have hn:=ne_nil hv
 have e0:=is [45] [58,45] false (by decide)
 have e1:=is [45] [45] true (by decide)
 have e2:=is [45] [58,61] false (by decide)
 have e3:=is [45] [61] false (by decide)
 have e4:=is [45] [58,63] false (by decide)
 have e5:=is [45] [63] false (by decide)
 have e6:=is [45] [58,43] false (by decide)
 have e7:=is [45] [43] false (by decide)
 go_enter Tryz.func110,Tryz.ntmps110
 go_wp2_with (go_at_call 142;(with_reducible refine(without_v _ _).mono ?_);rintro e w1 ⟨rfl,rfl⟩)
 go_ret
 first | exact⟨rfl,HL.out _⟩ | exact⟨by rw[←HW.out];rfl,HL.out _⟩
theorem does_full2 (v:L) (w:World) (hv:v≠[])  : Calls Tryz.prog 110 #[.string (mkS [58,61]),.string (mkS v),.bool true] w fun e w'=>e=.returned (.int .i64 1)∧Later w w':=by
 have HL:=Lib.hid (fun o=>Later.alloc w o)
 have hn:=ne_nil hv
 have e0:=is [58,61] [58,45] false (by decide)
 have e1:=is [58,61] [45] false (by decide)
 have e2:=is [58,61] [58,61] true (by decide)
 have e3:=is [58,61] [61] false (by decide)
 have e4:=is [58,61] [58,63] false (by decide)
 have e5:=is [58,61] [63] false (by decide)
 have e6:=is [58,61] [58,43] false (by decide)
 have e7:=is [58,61] [43] false (by decide)
 have hd:(mkS [58,61]).extract 1 (mkS [58,61]).size=mkS [61]:=drop_text _ _
 have ed:=is [61] [43] false (by decide)
 go_enter Tryz.func110,Tryz.ntmps110
 go_wp2_with (go_at_call 142;(with_reducible refine(without_v _ _).mono ?_);rintro e w1 ⟨rfl,rfl⟩)
 go_ret
 first | exact⟨rfl,HL.out _⟩ | exact⟨by rw[←HW.out];rfl,HL.out _⟩
theorem does_full3 (v:L) (w:World) (hv:v≠[])  : Calls Tryz.prog 110 #[.string (mkS [61]),.string (mkS v),.bool true] w fun e w'=>e=.returned (.int .i64 1)∧Later w w':=by
 have HL:=Lib.hid (fun o=>Later.alloc w o)
 have hn:=ne_nil hv
 have e0:=is [61] [58,45] false (by decide)
 have e1:=is [61] [45] false (by decide)
 have e2:=is [61] [58,61] false (by decide)
 have e3:=is [61] [61] true (by decide)
 have e4:=is [61] [58,63] false (by decide)
 have e5:=is [61] [63] false (by decide)
 have e6:=is [61] [58,43] false (by decide)
 have e7:=is [61] [43] false (by decide)
 go_enter Tryz.func110,Tryz.ntmps110
 go_wp2_with (go_at_call 142;(with_reducible refine(without_v _ _).mono ?_);rintro e w1 ⟨rfl,rfl⟩)
 go_ret
 first | exact⟨rfl,HL.out _⟩ | exact⟨by rw[←HW.out];rfl,HL.out _⟩
theorem does_full4 (v:L) (w:World) (hv:v≠[])  : Calls Tryz.prog 110 #[.string (mkS [58,63]),.string (mkS v),.bool true] w fun e w'=>e=.returned (.int .i64 1)∧Later w w':=by
 have HL:=Lib.hid (fun o=>Later.alloc w o)
 have hn:=ne_nil hv
 have e0:=is [58,63] [58,45] false (by decide)
 have e1:=is [58,63] [45] false (by decide)
 have e2:=is [58,63] [58,61] false (by decide)
 have e3:=is [58,63] [61] false (by decide)
 have e4:=is [58,63] [58,63] true (by decide)
 have e5:=is [58,63] [63] false (by decide)
 have e6:=is [58,63] [58,43] false (by decide)
 have e7:=is [58,63] [43] false (by decide)
 have hd:(mkS [58,63]).extract 1 (mkS [58,63]).size=mkS [63]:=drop_text _ _
 have ed:=is [63] [43] false (by decide)
 go_enter Tryz.func110,Tryz.ntmps110
 go_wp2_with (go_at_call 142;(with_reducible refine(without_v _ _).mono ?_);rintro e w1 ⟨rfl,rfl⟩)
 go_ret
 first | exact⟨rfl,HL.out _⟩ | exact⟨by rw[←HW.out];rfl,HL.out _⟩
theorem does_full5 (v:L) (w:World) (hv:v≠[])  : Calls Tryz.prog 110 #[.string (mkS [63]),.string (mkS v),.bool true] w fun e w'=>e=.returned (.int .i64 1)∧Later w w':=by
 have HL:=Lib.hid (fun o=>Later.alloc w o)
 have hn:=ne_nil hv
 have e0:=is [63] [58,45] false (by decide)
 have e1:=is [63] [45] false (by decide)
 have e2:=is [63] [58,61] false (by decide)
 have e3:=is [63] [61] false (by decide)
 have e4:=is [63] [58,63] false (by decide)
 have e5:=is [63] [63] true (by decide)
 have e6:=is [63] [58,43] false (by decide)
 have e7:=is [63] [43] false (by decide)
 go_enter Tryz.func110,Tryz.ntmps110
 go_wp2_with (go_at_call 142;(with_reducible refine(without_v _ _).mono ?_);rintro e w1 ⟨rfl,rfl⟩)
 go_ret
 first | exact⟨rfl,HL.out _⟩ | exact⟨by rw[←HW.out];rfl,HL.out _⟩
theorem does_full6 (v:L) (w:World) (hv:v≠[])  : Calls Tryz.prog 110 #[.string (mkS [58,43]),.string (mkS v),.bool true] w fun e w'=>e=.returned (.int .i64 2)∧Later w w':=by
 have HL:=Lib.hid (fun o=>Later.alloc w o)
 have hn:=ne_nil hv
 have e0:=is [58,43] [58,45] false (by decide)
 have e1:=is [58,43] [45] false (by decide)
 have e2:=is [58,43] [58,61] false (by decide)
 have e3:=is [58,43] [61] false (by decide)
 have e4:=is [58,43] [58,63] false (by decide)
 have e5:=is [58,43] [63] false (by decide)
 have e6:=is [58,43] [58,43] true (by decide)
 have e7:=is [58,43] [43] false (by decide)
 have hd:(mkS [58,43]).extract 1 (mkS [58,43]).size=mkS [43]:=drop_text _ _
 have ed:=is [43] [43] true (by decide)
 go_enter Tryz.func110,Tryz.ntmps110
 go_wp2_with (go_at_call 142;(with_reducible refine(without_v _ _).mono ?_);rintro e w1 ⟨rfl,rfl⟩)
 go_ret
 first | exact⟨rfl,HL.out _⟩ | exact⟨by rw[←HW.out];rfl,HL.out _⟩
theorem does_full7 (v:L) (w:World) (hv:v≠[])  : Calls Tryz.prog 110 #[.string (mkS [43]),.string (mkS v),.bool true] w fun e w'=>e=.returned (.int .i64 2)∧Later w w':=by
 have HL:=Lib.hid (fun o=>Later.alloc w o)
 have hn:=ne_nil hv
 have e0:=is [43] [58,45] false (by decide)
 have e1:=is [43] [45] false (by decide)
 have e2:=is [43] [58,61] false (by decide)
 have e3:=is [43] [61] false (by decide)
 have e4:=is [43] [58,63] false (by decide)
 have e5:=is [43] [63] false (by decide)
 have e6:=is [43] [58,43] false (by decide)
 have e7:=is [43] [43] true (by decide)
 go_enter Tryz.func110,Tryz.ntmps110
 go_wp2_with (go_at_call 142;(with_reducible refine(without_v _ _).mono ?_);rintro e w1 ⟨rfl,rfl⟩)
 go_ret
 first | exact⟨rfl,HL.out _⟩ | exact⟨by rw[←HW.out];rfl,HL.out _⟩
theorem does_full8 (op:L) (v:L) (w:World) (hv:v≠[]) (h0:op≠[58,45]) (h1:op≠[45]) (h2:op≠[58,61]) (h3:op≠[61]) (h4:op≠[58,63]) (h5:op≠[63]) (h6:op≠[58,43]) (h7:op≠[43]):Calls Tryz.prog 110 #[.string (mkS op),.string (mkS v),.bool true] w fun e w'=>e=.returned (.int .i64 1)∧Later w w':=by
 have HL:=Lib.hid (fun o=>Later.alloc w o)
 have hn:=ne_nil hv
 have e0:=no op [58,45] h0
 have e1:=no op [45] h1
 have e2:=no op [58,61] h2
 have e3:=no op [61] h3
 have e4:=no op [58,63] h4
 have e5:=no op [63] h5
 have e6:=no op [58,43] h6
 have e7:=no op [43] h7
 have hw:without op=5:=by unfold without;rw[if_neg h1,if_neg h3,if_neg h5]
 have HW:=Lib.hid hw
 clear hw h0 h1 h2 h3 h4 h5 h6 h7
 go_enter Tryz.func110,Tryz.ntmps110
 go_wp2_with (go_at_call 142;(with_reducible refine(without_v _ _).mono ?_);rintro e w1 ⟨rfl,rfl⟩)
 go_ret
 first | exact⟨rfl,HL.out _⟩ | exact⟨by rw[←HW.out];rfl,HL.out _⟩
theorem does_empty0 (w:World)   : Calls Tryz.prog 110 #[.string (mkS [58,45]),.string (mkS []),.bool true] w fun e w'=>e=.returned (.int .i64 2)∧Later w w':=by
 have HL:=Lib.hid (fun o=>Later.alloc w o)
 have hn:=is_nil
 have e0:=is [58,45] [58,45] true (by decide)
 have e1:=is [58,45] [45] false (by decide)
 have e2:=is [58,45] [58,61] false (by decide)
 have e3:=is [58,45] [61] false (by decide)
 have e4:=is [58,45] [58,63] false (by decide)
 have e5:=is [58,45] [63] false (by decide)
 have e6:=is [58,45] [58,43] false (by decide)
 have e7:=is [58,45] [43] false (by decide)
 have hd:(mkS [58,45]).extract 1 (mkS [58,45]).size=mkS [45]:=drop_text _ _
 have ed:=is [45] [43] false (by decide)
 go_enter Tryz.func110,Tryz.ntmps110
 go_wp2_with (go_at_call 142;(with_reducible refine(without_v _ _).mono ?_);rintro e w1 ⟨rfl,rfl⟩)
 go_ret
 first | exact⟨rfl,HL.out _⟩ | exact⟨by rw[←HW.out];rfl,HL.out _⟩
theorem does_empty1 (w:World)   : Calls Tryz.prog 110 #[.string (mkS [45]),.string (mkS []),.bool true] w fun e w'=>e=.returned (.int .i64 1)∧Later w w':=by
 have HL:=Lib.hid (fun o=>Later.alloc w o)
 have hn:=is_nil
 have e0:=is [45] [58,45] false (by decide)
 have e1:=is [45] [45] true (by decide)
 have e2:=is [45] [58,61] false (by decide)
 have e3:=is [45] [61] false (by decide)
 have e4:=is [45] [58,63] false (by decide)
 have e5:=is [45] [63] false (by decide)
 have e6:=is [45] [58,43] false (by decide)
 have e7:=is [45] [43] false (by decide)
 go_enter Tryz.func110,Tryz.ntmps110
 go_wp2_with (go_at_call 142;(with_reducible refine(without_v _ _).mono ?_);rintro e w1 ⟨rfl,rfl⟩)
 go_ret
 first | exact⟨rfl,HL.out _⟩ | exact⟨by rw[←HW.out];rfl,HL.out _⟩
theorem does_empty2 (w:World)   : Calls Tryz.prog 110 #[.string (mkS [58,61]),.string (mkS []),.bool true] w fun e w'=>e=.returned (.int .i64 3)∧Later w w':=by
 have HL:=Lib.hid (fun o=>Later.alloc w o)
 have hn:=is_nil
 have e0:=is [58,61] [58,45] false (by decide)
 have e1:=is [58,61] [45] false (by decide)
 have e2:=is [58,61] [58,61] true (by decide)
 have e3:=is [58,61] [61] false (by decide)
 have e4:=is [58,61] [58,63] false (by decide)
 have e5:=is [58,61] [63] false (by decide)
 have e6:=is [58,61] [58,43] false (by decide)
 have e7:=is [58,61] [43] false (by decide)
 have hd:(mkS [58,61]).extract 1 (mkS [58,61]).size=mkS [61]:=drop_text _ _
 have ed:=is [61] [43] false (by decide)
 go_enter Tryz.func110,Tryz.ntmps110
 go_wp2_with (go_at_call 142;(with_reducible refine(without_v _ _).mono ?_);rintro e w1 ⟨rfl,rfl⟩)
 go_ret
 first | exact⟨rfl,HL.out _⟩ | exact⟨by rw[←HW.out];rfl,HL.out _⟩
theorem does_empty3 (w:World)   : Calls Tryz.prog 110 #[.string (mkS [61]),.string (mkS []),.bool true] w fun e w'=>e=.returned (.int .i64 1)∧Later w w':=by
 have HL:=Lib.hid (fun o=>Later.alloc w o)
 have hn:=is_nil
 have e0:=is [61] [58,45] false (by decide)
 have e1:=is [61] [45] false (by decide)
 have e2:=is [61] [58,61] false (by decide)
 have e3:=is [61] [61] true (by decide)
 have e4:=is [61] [58,63] false (by decide)
 have e5:=is [61] [63] false (by decide)
 have e6:=is [61] [58,43] false (by decide)
 have e7:=is [61] [43] false (by decide)
 go_enter Tryz.func110,Tryz.ntmps110
 go_wp2_with (go_at_call 142;(with_reducible refine(without_v _ _).mono ?_);rintro e w1 ⟨rfl,rfl⟩)
 go_ret
 first | exact⟨rfl,HL.out _⟩ | exact⟨by rw[←HW.out];rfl,HL.out _⟩
theorem does_empty4 (w:World)   : Calls Tryz.prog 110 #[.string (mkS [58,63]),.string (mkS []),.bool true] w fun e w'=>e=.returned (.int .i64 4)∧Later w w':=by
 have HL:=Lib.hid (fun o=>Later.alloc w o)
 have hn:=is_nil
 have e0:=is [58,63] [58,45] false (by decide)
 have e1:=is [58,63] [45] false (by decide)
 have e2:=is [58,63] [58,61] false (by decide)
 have e3:=is [58,63] [61] false (by decide)
 have e4:=is [58,63] [58,63] true (by decide)
 have e5:=is [58,63] [63] false (by decide)
 have e6:=is [58,63] [58,43] false (by decide)
 have e7:=is [58,63] [43] false (by decide)
 have hd:(mkS [58,63]).extract 1 (mkS [58,63]).size=mkS [63]:=drop_text _ _
 have ed:=is [63] [43] false (by decide)
 go_enter Tryz.func110,Tryz.ntmps110
 go_wp2_with (go_at_call 142;(with_reducible refine(without_v _ _).mono ?_);rintro e w1 ⟨rfl,rfl⟩)
 go_ret
 first | exact⟨rfl,HL.out _⟩ | exact⟨by rw[←HW.out];rfl,HL.out _⟩
theorem does_empty5 (w:World)   : Calls Tryz.prog 110 #[.string (mkS [63]),.string (mkS []),.bool true] w fun e w'=>e=.returned (.int .i64 1)∧Later w w':=by
 have HL:=Lib.hid (fun o=>Later.alloc w o)
 have hn:=is_nil
 have e0:=is [63] [58,45] false (by decide)
 have e1:=is [63] [45] false (by decide)
 have e2:=is [63] [58,61] false (by decide)
 have e3:=is [63] [61] false (by decide)
 have e4:=is [63] [58,63] false (by decide)
 have e5:=is [63] [63] true (by decide)
 have e6:=is [63] [58,43] false (by decide)
 have e7:=is [63] [43] false (by decide)
 go_enter Tryz.func110,Tryz.ntmps110
 go_wp2_with (go_at_call 142;(with_reducible refine(without_v _ _).mono ?_);rintro e w1 ⟨rfl,rfl⟩)
 go_ret
 first | exact⟨rfl,HL.out _⟩ | exact⟨by rw[←HW.out];rfl,HL.out _⟩
theorem does_empty6 (w:World)   : Calls Tryz.prog 110 #[.string (mkS [58,43]),.string (mkS []),.bool true] w fun e w'=>e=.returned (.int .i64 5)∧Later w w':=by
 have HL:=Lib.hid (fun o=>Later.alloc w o)
 have hn:=is_nil
 have e0:=is [58,43] [58,45] false (by decide)
 have e1:=is [58,43] [45] false (by decide)
 have e2:=is [58,43] [58,61] false (by decide)
 have e3:=is [58,43] [61] false (by decide)
 have e4:=is [58,43] [58,63] false (by decide)
 have e5:=is [58,43] [63] false (by decide)
 have e6:=is [58,43] [58,43] true (by decide)
 have e7:=is [58,43] [43] false (by decide)
 have hd:(mkS [58,43]).extract 1 (mkS [58,43]).size=mkS [43]:=drop_text _ _
 have ed:=is [43] [43] true (by decide)
 go_enter Tryz.func110,Tryz.ntmps110
 go_wp2_with (go_at_call 142;(with_reducible refine(without_v _ _).mono ?_);rintro e w1 ⟨rfl,rfl⟩)
 go_ret
 first | exact⟨rfl,HL.out _⟩ | exact⟨by rw[←HW.out];rfl,HL.out _⟩
theorem does_empty7 (w:World)   : Calls Tryz.prog 110 #[.string (mkS [43]),.string (mkS []),.bool true] w fun e w'=>e=.returned (.int .i64 2)∧Later w w':=by
 have HL:=Lib.hid (fun o=>Later.alloc w o)
 have hn:=is_nil
 have e0:=is [43] [58,45] false (by decide)
 have e1:=is [43] [45] false (by decide)
 have e2:=is [43] [58,61] false (by decide)
 have e3:=is [43] [61] false (by decide)
 have e4:=is [43] [58,63] false (by decide)
 have e5:=is [43] [63] false (by decide)
 have e6:=is [43] [58,43] false (by decide)
 have e7:=is [43] [43] true (by decide)
 go_enter Tryz.func110,Tryz.ntmps110
 go_wp2_with (go_at_call 142;(with_reducible refine(without_v _ _).mono ?_);rintro e w1 ⟨rfl,rfl⟩)
 go_ret
 first | exact⟨rfl,HL.out _⟩ | exact⟨by rw[←HW.out];rfl,HL.out _⟩
theorem does_empty8 (op:L) (w:World)  (h0:op≠[58,45]) (h1:op≠[45]) (h2:op≠[58,61]) (h3:op≠[61]) (h4:op≠[58,63]) (h5:op≠[63]) (h6:op≠[58,43]) (h7:op≠[43]):Calls Tryz.prog 110 #[.string (mkS op),.string (mkS []),.bool true] w fun e w'=>e=.returned (.int .i64 1)∧Later w w':=by
 have HL:=Lib.hid (fun o=>Later.alloc w o)
 have hn:=is_nil
 have e0:=no op [58,45] h0
 have e1:=no op [45] h1
 have e2:=no op [58,61] h2
 have e3:=no op [61] h3
 have e4:=no op [58,63] h4
 have e5:=no op [63] h5
 have e6:=no op [58,43] h6
 have e7:=no op [43] h7
 have hw:without op=5:=by unfold without;rw[if_neg h1,if_neg h3,if_neg h5]
 have HW:=Lib.hid hw
 clear hw h0 h1 h2 h3 h4 h5 h6 h7
 go_enter Tryz.func110,Tryz.ntmps110
 go_wp2_with (go_at_call 142;(with_reducible refine(without_v _ _).mono ?_);rintro e w1 ⟨rfl,rfl⟩)
 go_ret
 first | exact⟨rfl,HL.out _⟩ | exact⟨by rw[←HW.out];rfl,HL.out _⟩
theorem does_unset0 (v:L) (w:World)   : Calls Tryz.prog 110 #[.string (mkS [58,45]),.string (mkS v),.bool false] w fun e w'=>e=.returned (.int .i64 2)∧Later w w':=by
 have HL:=Lib.hid (fun o=>Later.alloc w o)
 have e0:=is [58,45] [58,45] true (by decide)
 have e1:=is [58,45] [45] false (by decide)
 have e2:=is [58,45] [58,61] false (by decide)
 have e3:=is [58,45] [61] false (by decide)
 have e4:=is [58,45] [58,63] false (by decide)
 have e5:=is [58,45] [63] false (by decide)
 have e6:=is [58,45] [58,43] false (by decide)
 have e7:=is [58,45] [43] false (by decide)
 have hd:(mkS [58,45]).extract 1 (mkS [58,45]).size=mkS [45]:=drop_text _ _
 have ed:=is [45] [43] false (by decide)
 go_enter Tryz.func110,Tryz.ntmps110
 go_wp2_with (go_at_call 142;(with_reducible refine(without_v _ _).mono ?_);rintro e w1 ⟨rfl,rfl⟩)
 go_ret
 first | exact⟨rfl,HL.out _⟩ | exact⟨by rw[←HW.out];rfl,HL.out _⟩
theorem does_unset1 (v:L) (w:World)   : Calls Tryz.prog 110 #[.string (mkS [45]),.string (mkS v),.bool false] w fun e w'=>e=.returned (.int .i64 2)∧Later w w':=by
 have HL:=Lib.hid (fun o=>Later.alloc w o)
 have e0:=is [45] [58,45] false (by decide)
 have e1:=is [45] [45] true (by decide)
 have e2:=is [45] [58,61] false (by decide)
 have e3:=is [45] [61] false (by decide)
 have e4:=is [45] [58,63] false (by decide)
 have e5:=is [45] [63] false (by decide)
 have e6:=is [45] [58,43] false (by decide)
 have e7:=is [45] [43] false (by decide)
 go_enter Tryz.func110,Tryz.ntmps110
 go_wp2_with (go_at_call 142;(with_reducible refine(without_v _ _).mono ?_);rintro e w1 ⟨rfl,rfl⟩)
 go_ret
 first | exact⟨rfl,HL.out _⟩ | exact⟨by rw[←HW.out];rfl,HL.out _⟩
theorem does_unset2 (v:L) (w:World)   : Calls Tryz.prog 110 #[.string (mkS [58,61]),.string (mkS v),.bool false] w fun e w'=>e=.returned (.int .i64 3)∧Later w w':=by
 have HL:=Lib.hid (fun o=>Later.alloc w o)
 have e0:=is [58,61] [58,45] false (by decide)
 have e1:=is [58,61] [45] false (by decide)
 have e2:=is [58,61] [58,61] true (by decide)
 have e3:=is [58,61] [61] false (by decide)
 have e4:=is [58,61] [58,63] false (by decide)
 have e5:=is [58,61] [63] false (by decide)
 have e6:=is [58,61] [58,43] false (by decide)
 have e7:=is [58,61] [43] false (by decide)
 have hd:(mkS [58,61]).extract 1 (mkS [58,61]).size=mkS [61]:=drop_text _ _
 have ed:=is [61] [43] false (by decide)
 go_enter Tryz.func110,Tryz.ntmps110
 go_wp2_with (go_at_call 142;(with_reducible refine(without_v _ _).mono ?_);rintro e w1 ⟨rfl,rfl⟩)
 go_ret
 first | exact⟨rfl,HL.out _⟩ | exact⟨by rw[←HW.out];rfl,HL.out _⟩
theorem does_unset3 (v:L) (w:World)   : Calls Tryz.prog 110 #[.string (mkS [61]),.string (mkS v),.bool false] w fun e w'=>e=.returned (.int .i64 3)∧Later w w':=by
 have HL:=Lib.hid (fun o=>Later.alloc w o)
 have e0:=is [61] [58,45] false (by decide)
 have e1:=is [61] [45] false (by decide)
 have e2:=is [61] [58,61] false (by decide)
 have e3:=is [61] [61] true (by decide)
 have e4:=is [61] [58,63] false (by decide)
 have e5:=is [61] [63] false (by decide)
 have e6:=is [61] [58,43] false (by decide)
 have e7:=is [61] [43] false (by decide)
 go_enter Tryz.func110,Tryz.ntmps110
 go_wp2_with (go_at_call 142;(with_reducible refine(without_v _ _).mono ?_);rintro e w1 ⟨rfl,rfl⟩)
 go_ret
 first | exact⟨rfl,HL.out _⟩ | exact⟨by rw[←HW.out];rfl,HL.out _⟩
theorem does_unset4 (v:L) (w:World)   : Calls Tryz.prog 110 #[.string (mkS [58,63]),.string (mkS v),.bool false] w fun e w'=>e=.returned (.int .i64 4)∧Later w w':=by
 have HL:=Lib.hid (fun o=>Later.alloc w o)
 have e0:=is [58,63] [58,45] false (by decide)
 have e1:=is [58,63] [45] false (by decide)
 have e2:=is [58,63] [58,61] false (by decide)
 have e3:=is [58,63] [61] false (by decide)
 have e4:=is [58,63] [58,63] true (by decide)
 have e5:=is [58,63] [63] false (by decide)
 have e6:=is [58,63] [58,43] false (by decide)
 have e7:=is [58,63] [43] false (by decide)
 have hd:(mkS [58,63]).extract 1 (mkS [58,63]).size=mkS [63]:=drop_text _ _
 have ed:=is [63] [43] false (by decide)
 go_enter Tryz.func110,Tryz.ntmps110
 go_wp2_with (go_at_call 142;(with_reducible refine(without_v _ _).mono ?_);rintro e w1 ⟨rfl,rfl⟩)
 go_ret
 first | exact⟨rfl,HL.out _⟩ | exact⟨by rw[←HW.out];rfl,HL.out _⟩
theorem does_unset5 (v:L) (w:World)   : Calls Tryz.prog 110 #[.string (mkS [63]),.string (mkS v),.bool false] w fun e w'=>e=.returned (.int .i64 4)∧Later w w':=by
 have HL:=Lib.hid (fun o=>Later.alloc w o)
 have e0:=is [63] [58,45] false (by decide)
 have e1:=is [63] [45] false (by decide)
 have e2:=is [63] [58,61] false (by decide)
 have e3:=is [63] [61] false (by decide)
 have e4:=is [63] [58,63] false (by decide)
 have e5:=is [63] [63] true (by decide)
 have e6:=is [63] [58,43] false (by decide)
 have e7:=is [63] [43] false (by decide)
 go_enter Tryz.func110,Tryz.ntmps110
 go_wp2_with (go_at_call 142;(with_reducible refine(without_v _ _).mono ?_);rintro e w1 ⟨rfl,rfl⟩)
 go_ret
 first | exact⟨rfl,HL.out _⟩ | exact⟨by rw[←HW.out];rfl,HL.out _⟩
theorem does_unset6 (v:L) (w:World)   : Calls Tryz.prog 110 #[.string (mkS [58,43]),.string (mkS v),.bool false] w fun e w'=>e=.returned (.int .i64 5)∧Later w w':=by
 have HL:=Lib.hid (fun o=>Later.alloc w o)
 have e0:=is [58,43] [58,45] false (by decide)
 have e1:=is [58,43] [45] false (by decide)
 have e2:=is [58,43] [58,61] false (by decide)
 have e3:=is [58,43] [61] false (by decide)
 have e4:=is [58,43] [58,63] false (by decide)
 have e5:=is [58,43] [63] false (by decide)
 have e6:=is [58,43] [58,43] true (by decide)
 have e7:=is [58,43] [43] false (by decide)
 have hd:(mkS [58,43]).extract 1 (mkS [58,43]).size=mkS [43]:=drop_text _ _
 have ed:=is [43] [43] true (by decide)
 go_enter Tryz.func110,Tryz.ntmps110
 go_wp2_with (go_at_call 142;(with_reducible refine(without_v _ _).mono ?_);rintro e w1 ⟨rfl,rfl⟩)
 go_ret
 first | exact⟨rfl,HL.out _⟩ | exact⟨by rw[←HW.out];rfl,HL.out _⟩
theorem does_unset7 (v:L) (w:World)   : Calls Tryz.prog 110 #[.string (mkS [43]),.string (mkS v),.bool false] w fun e w'=>e=.returned (.int .i64 5)∧Later w w':=by
 have HL:=Lib.hid (fun o=>Later.alloc w o)
 have e0:=is [43] [58,45] false (by decide)
 have e1:=is [43] [45] false (by decide)
 have e2:=is [43] [58,61] false (by decide)
 have e3:=is [43] [61] false (by decide)
 have e4:=is [43] [58,63] false (by decide)
 have e5:=is [43] [63] false (by decide)
 have e6:=is [43] [58,43] false (by decide)
 have e7:=is [43] [43] true (by decide)
 go_enter Tryz.func110,Tryz.ntmps110
 go_wp2_with (go_at_call 142;(with_reducible refine(without_v _ _).mono ?_);rintro e w1 ⟨rfl,rfl⟩)
 go_ret
 first | exact⟨rfl,HL.out _⟩ | exact⟨by rw[←HW.out];rfl,HL.out _⟩
theorem does_unset8 (op:L) (v:L) (w:World)  (h0:op≠[58,45]) (h1:op≠[45]) (h2:op≠[58,61]) (h3:op≠[61]) (h4:op≠[58,63]) (h5:op≠[63]) (h6:op≠[58,43]) (h7:op≠[43]):Calls Tryz.prog 110 #[.string (mkS op),.string (mkS v),.bool false] w fun e w'=>e=.returned (.int .i64 5)∧Later w w':=by
 have HL:=Lib.hid (fun o=>Later.alloc w o)
 have e0:=no op [58,45] h0
 have e1:=no op [45] h1
 have e2:=no op [58,61] h2
 have e3:=no op [61] h3
 have e4:=no op [58,63] h4
 have e5:=no op [63] h5
 have e6:=no op [58,43] h6
 have e7:=no op [43] h7
 have hw:without op=5:=by unfold without;rw[if_neg h1,if_neg h3,if_neg h5]
 have HW:=Lib.hid hw
 clear hw h0 h1 h2 h3 h4 h5 h6 h7
 go_enter Tryz.func110,Tryz.ntmps110
 go_wp2_with (go_at_call 142;(with_reducible refine(without_v _ _).mono ?_);rintro e w1 ⟨rfl,rfl⟩)
 go_ret
 first | exact⟨rfl,HL.out _⟩ | exact⟨by rw[←HW.out];rfl,HL.out _⟩
theorem row0:row [58,45]=[1,2,2]:=by decide
theorem row1:row [45]=[1,1,2]:=by decide
theorem row2:row [58,61]=[1,3,3]:=by decide
theorem row3:row [61]=[1,1,3]:=by decide
theorem row4:row [58,63]=[1,4,4]:=by decide
theorem row5:row [63]=[1,1,4]:=by decide
theorem row6:row [58,43]=[2,5,5]:=by decide
theorem row7:row [43]=[2,2,5]:=by decide
theorem row8 {op:L} (h0:op≠[58,45]) (h1:op≠[45]) (h2:op≠[58,61]) (h3:op≠[61]) (h4:op≠[58,63]) (h5:op≠[63]) (h6:op≠[58,43]) (h7:op≠[43]):row op=[1,1,5]:=by
 unfold row
 rw[if_neg h0,if_neg h1,if_neg h2,if_neg h3,if_neg h4,if_neg h5,if_neg h6,if_neg h7]
theorem col0 {v:L} (h:v≠[]):col v true=0:=by unfold col;rw[if_pos rfl,if_neg h]
theorem col1:col [] true=1:=by unfold col;rw[if_pos rfl,if_pos rfl]
theorem col2 (v:L):col v false=2:=by unfold col;rw[if_neg Bool.false_ne_true]
theorem does_v (op v:L) (b:Bool) (w:World):Calls Tryz.prog 110 #[.string (mkS op),.string (mkS v),.bool b] w fun e w'=>e=.returned (.int .i64 (does op v b))∧Later w w':=by
 unfold does
 by_cases h0:op=[58,45]
 ·subst h0
  rw[row0]
  cases b with
  | false=>rw[col2];exact does_unset0 v w
  | true=>
   by_cases hv:v=[]
   ·subst hv;rw[col1];exact does_empty0 w
   ·rw[col0 hv];exact does_full0 v w hv
 by_cases h1:op=[45]
 ·subst h1
  rw[row1]
  cases b with
  | false=>rw[col2];exact does_unset1 v w
  | true=>
   by_cases hv:v=[]
   ·subst hv;rw[col1];exact does_empty1 w
   ·rw[col0 hv];exact does_full1 v w hv
 by_cases h2:op=[58,61]
 ·subst h2
  rw[row2]
  cases b with
  | false=>rw[col2];exact does_unset2 v w
  | true=>
   by_cases hv:v=[]
   ·subst hv;rw[col1];exact does_empty2 w
   ·rw[col0 hv];exact does_full2 v w hv
 by_cases h3:op=[61]
 ·subst h3
  rw[row3]
  cases b with
  | false=>rw[col2];exact does_unset3 v w
  | true=>
   by_cases hv:v=[]
   ·subst hv;rw[col1];exact does_empty3 w
   ·rw[col0 hv];exact does_full3 v w hv
 by_cases h4:op=[58,63]
 ·subst h4
  rw[row4]
  cases b with
  | false=>rw[col2];exact does_unset4 v w
  | true=>
   by_cases hv:v=[]
   ·subst hv;rw[col1];exact does_empty4 w
   ·rw[col0 hv];exact does_full4 v w hv
 by_cases h5:op=[63]
 ·subst h5
  rw[row5]
  cases b with
  | false=>rw[col2];exact does_unset5 v w
  | true=>
   by_cases hv:v=[]
   ·subst hv;rw[col1];exact does_empty5 w
   ·rw[col0 hv];exact does_full5 v w hv
 by_cases h6:op=[58,43]
 ·subst h6
  rw[row6]
  cases b with
  | false=>rw[col2];exact does_unset6 v w
  | true=>
   by_cases hv:v=[]
   ·subst hv;rw[col1];exact does_empty6 w
   ·rw[col0 hv];exact does_full6 v w hv
 by_cases h7:op=[43]
 ·subst h7
  rw[row7]
  cases b with
  | false=>rw[col2];exact does_unset7 v w
  | true=>
   by_cases hv:v=[]
   ·subst hv;rw[col1];exact does_empty7 w
   ·rw[col0 hv];exact does_full7 v w hv
 rw[row8 h0 h1 h2 h3 h4 h5 h6 h7]
 cases b with
 | false=>rw[col2];exact does_unset8 op v w h0 h1 h2 h3 h4 h5 h6 h7
 | true=>
  by_cases hv:v=[]
  ·subst hv;rw[col1];exact does_empty8 op w h0 h1 h2 h3 h4 h5 h6 h7
  ·rw[col0 hv];exact does_full8 op v w hv h0 h1 h2 h3 h4 h5 h6 h7
end Pm
end Go.Proofs.YtipdgmjplnibeaaGreatDoor
