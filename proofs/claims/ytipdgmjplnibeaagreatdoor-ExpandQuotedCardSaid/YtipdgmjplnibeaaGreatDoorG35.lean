import Derived.Test.YtipdgmjplnibeaaGreatDoorXh
import Derived.Shelf.Strings.Search3
import Derived.Shelf.Strings.Count
import Derived.Ground.Names2Prog
import Derived.Ground.SlgnProg
import Derived.Test.YtipdgmjplnibeaaGreatDoorProg
set_option maxRecDepth 100000
namespace Go.Proofs.YtipdgmjplnibeaaGreatDoor
open Go.RowKit Go.Maps
set_option maxRecDepth 100000
set_option maxHeartbeats 3200000
namespace Ex
open Jo (ft fm rows own_ge)
open En (E RdE Vd Rises FrE)
def TxtR (W:World) (X:Nat→Prop) (g m:Nat) (res:Res) (f:Rw→B) (x:Ending) (W':World):Prop:=match res with
 | .ok r e=>x=.returned (.string (mkS (f r)))∧Wt W' X g m e∧W.grownBy W' (some g)
 | .bad n t=>x=.panicked (flt n t)∧W.grownBy W' (some g)
 | .big=>True
def RowSm (row:E→List P→Res):Prop:=∀ e ps r e',row e ps=.ok r e'→r.length≤100000
theorem ft_solid (r:Rw):ft (solid r)=flat r:=rfl
theorem field_row (a b:ByteArray) (w:World):(Instr.field 37 (.agg #[.string a,.string b]) 0).run Tryz.prog w=.ok (.string a) w:=by kernel_rfl
theorem flat_v {row:E→List P→Res} (hR:RowOk row) (hS:RowSm row) (W:World) (X:Nat→Prop) (g m:Nat) (e:E) (v:Value) (ps:List P) (h:Wt W X g m e) (hv:PsAt W (Nb g) v ps) (hb:row e ps≠.big):Calls Tryz.prog 145 #[.pointer (some ⟨g,0,none⟩),v] W (TxtR W X g m (row e ps) flat):=by
 obtain⟨A0,c0,rfl⟩:=hv.one.2
 have hc:=hR W X g m e _ ps h hv hb
 cases hres:row e ps with
 | big=>exact absurd hres hb
 | bad n t=>
  rw[hres] at hc
  have HC:=Lib.hid hc
  obtain⟨k,hk⟩:∃ k,k=ps.length:=⟨_,rfl⟩
  rw[←hk] at HC⊢
  clear hc hres hb hv h hk
  go_enter Tryz.func145,Tryz.ntmps145
  go_wp2_with (go_at_call 48;(with_reducible refine HC.out.mono ?_);rintro e w2 ⟨rfl,hg2⟩;have HG2:=Lib.hid hg2;clear hg2)
  exact⟨rfl,rfl,HG2.out⟩
 | ok r e2=>
  rw[hres] at hc
  have HC:=Lib.hid (show Calls Tryz.prog 48 #[.pointer (some ⟨g,0,none⟩),.slice A0 ps.length c0] W fun x W'=>x=.returned (rv r)∧Wt W' X g m e2∧W.grownBy W' (some g) from hc)
  have HSO:=Lib.hid (fun W=>solid_v r (hS _ _ _ _ hres) W)
  have hfd:=field_row
  have HRR:=Lib.hid (fun r:Rw=>show rv r=.agg #[.string (mkS (ft r)),.string (mkS (fm r))] from rfl)
  obtain⟨k,hk⟩:∃ k,k=ps.length:=⟨_,rfl⟩
  rw[←hk] at HC⊢
  clear hc hres hb hv h hk
  go_enter Tryz.func145,Tryz.ntmps145
  go_wp2_with (first
   |(go_at_call 48;(with_reducible refine HC.out.mono ?_);rintro e w2 ⟨rfl,hw2,hg2⟩;have HW2:=Lib.hid hw2;have HG2:=Lib.hid hg2;clear hw2 hg2)
   |(go_at_call 33;(with_reducible refine(HSO.out _).mono ?_);rintro e w3 ⟨rfl,hl3⟩;rw[HRR.out];have HL3:=Lib.hid hl3;clear hl3))
  go_ret
  exact⟨rfl,HW2.out.later HL3.out,grown_trans HG2.out (later_some HL3.out)⟩
end Ex
end Go.Proofs.YtipdgmjplnibeaaGreatDoor
namespace Go.Proofs
open Go.Shelf
def Tryz.lays138_ren:Go.Shelf.Ren:=⟨fun | 138=>223 | 195=>245 | 218=>246 | 143=>173 | 219=>172 | 217=>101 | 225=>225 | 224=>226 | 267=>227 | 266=>135 | 314=>248 | n=>n,fun | 9=>9 | 3=>3 | 4=>4 | 5=>5 | 0=>0 | 46=>110 | 146=>245 | 51=>200 | n=>n,fun | 1=>0 | n=>n⟩
theorem Tryz.lays138:Go.Proofs.Lays.n138 Tryz.prog Tryz.lays138_ren:={
 mixed:=by kernel_rfl
 f138:=Tryz.func223.trans (congrArg some (by kernel_rfl))
 f143:=Tryz.func173.trans (congrArg some (by kernel_rfl))
 f195:=Tryz.func245.trans (congrArg some (by kernel_rfl))
 f217:=Tryz.func101.trans (congrArg some (by kernel_rfl))
 f218:=Tryz.func246.trans (congrArg some (by kernel_rfl))
 f219:=Tryz.func172.trans (congrArg some (by kernel_rfl))
 f224:=Tryz.func226.trans (congrArg some (by kernel_rfl))
 f225:=Tryz.func225.trans (congrArg some (by kernel_rfl))
 f266:=Tryz.func135.trans (congrArg some (by kernel_rfl))
 f267:=Tryz.func227.trans (congrArg some (by kernel_rfl))
 f314:=Tryz.func248.trans (congrArg some (by kernel_rfl))
 t0:=Tryz.underlying0
 a0:=Tryz.isAgg0
 z0:=Tryz.sizeOf0
 v0:=Tryz.zeroValue0
 t3:=Tryz.underlying3
 a3:=Tryz.isAgg3
 z3:=Tryz.sizeOf3
 v3:=Tryz.zeroValue3
 t4:=Tryz.underlying4
 a4:=Tryz.isAgg4
 z4:=Tryz.sizeOf4
 v4:=Tryz.zeroValue4
 t5:=Tryz.underlying5
 a5:=Tryz.isAgg5
 z5:=Tryz.sizeOf5
 v5:=Tryz.zeroValue5
 t9:=Tryz.underlying9
 a9:=Tryz.isAgg9
 z9:=Tryz.sizeOf9
 v9:=Tryz.zeroValue9
 t46:=Tryz.underlying110
 a46:=Tryz.isAgg110
 z46:=Tryz.sizeOf110
 v46:=Tryz.zeroValue110
 t51:=Tryz.underlying200
 a51:=Tryz.isAgg200
 z51:=Tryz.sizeOf200
 v51:=Tryz.zeroValue200
 t146:=Tryz.underlying245
 a146:=Tryz.isAgg245
 z146:=Tryz.sizeOf245
 v146:=Tryz.zeroValue245
 g1:=by kernel_rfl }
open Go.RowKit Go.Lib in
theorem Tryz.strings_Count_one (s:ByteArray) (c:UInt8) (w:World) :
  Calls Tryz.prog 223 #[.string s,.string ⟨#[c]⟩] w fun e w'=>e=.returned (.int .i64 (Lib.countByte s.data.toList c))∧w'=w:=Any.strings_Count_one Tryz.lays138 s c w
end Go.Proofs
namespace Go.Proofs.YtipdgmjplnibeaaGreatDoor
open Go.RowKit Go.Maps
set_option maxRecDepth 100000
set_option maxHeartbeats 3200000
namespace Ex
open Jo (ft fm rows own_ge)
open En (E RdE Vd Rises FrE)
def Wi (X:Nat→Prop) (W w:World):Nat→Prop:=fun k=>X k∨(W.heap.size≤k∧k<w.heap.size)
theorem Wt.ends {W w1 w w':World} {X:Nat→Prop} {g m b:Nat} {e e':E} {cs:Array Value} {t:TypeId} {fr:Nat×Nat} (h0:Wt W X g m e) (hl:Later W w1) (hw:Wt w (Wi X W w1) g m e') (hg:w1.grownBy w (some g)) (hb:W.heap.size≤b) (hb2:b<w1.heap.size) (hx:w.heap[b]?=some (.cells cs t fr)) (hs:w.grownBy w' (some b)):Wt w' X g m e'∧W.grownBy w' (some g):=by
 have hlt:=h0.lt
 have hv:=vd_lt h0.vd
 obtain⟨va,aa,h1,h2⟩:=hw.bx
 refine⟨⟨⟨va,aa,grown_cells hs h1 (by omega),(h2.grown hs fun k e=>.inr ⟨by have:=Option.some.inj e;omega,by have:=Option.some.inj e;omega⟩).less fun k hk=>.inl hk⟩,h0.xg,fun k hk=>Nat.lt_of_lt_of_le (h0.xl k hk) (Nat.le_trans hl.size (Nat.le_trans hg.size hs.size)),hw.tab.kept hs (fun e=>?_),hw.sm,hw.up,vd_grown hw.vd hs (fun k e=>?_),hw.lo⟩,?_⟩
 ·exact hw.tab.apart hx (Option.some.inj e)
 ·have:=Option.some.inj e
  exact⟨by omega,by omega,by omega⟩
 ·exact⟨hs.os.trans (hg.os.trans hl.os),hs.tape.trans (hg.tape.trans hl.tape),hs.output.trans (hg.output.trans hl.output),Nat.le_trans hl.size (Nat.le_trans hg.size hs.size),fun k hk hn=>(hs.block k (Nat.lt_of_lt_of_le hk (Nat.le_trans hl.size hg.size)) (fun e=>by have:=Option.some.inj e;omega)).trans ((hg.block k (Nat.lt_of_lt_of_le hk hl.size) hn).trans (hl.block k hk))⟩
theorem replace_none (l:L) (h:l.all (fun y=>!(y==108))=true) (W:World):Calls Tryz.prog 146 #[.string (mkS l),.string ⟨#[108]⟩,.string ⟨#[115]⟩] W fun e W'=>e=.returned (.string (mkS l))∧W'=W:=by
 have hc:∀ W,Calls Tryz.prog 223 #[.string (mkS l),.string ⟨#[108]⟩] W fun e w'=>e=.returned (.int .i64 0)∧w'=W:=fun W=>by
  have h1:=Tryz.strings_Count_one (mkS l) 108 W
  rw[mkS_list] at h1
  have h2:Lib.countByte l 108=0:=by
   unfold Lib.countByte
   rw[List.count_eq_zero]
   intro hm
   have:=List.all_eq_true.1 h 108 hm
   simp at this
  rw[h2] at h1
  exact h1
 have HC:=Lib.hid hc
 have hne:((⟨#[108]⟩:ByteArray).toList==(⟨#[115]⟩:ByteArray).toList)=false:=by decide +kernel
 have HR:=Lib.hid (show ∀ W,Calls Tryz.prog 171 #[.string (mkS l),.string ⟨#[108]⟩,.string ⟨#[115]⟩,.int .i64 (-1)] W fun e W'=>e=.returned (.string (mkS l))∧W'=W from fun W=>by
  clear hc
  go_enter Tryz.func171,Tryz.ntmps171
  go_wp2_with (go_at_call 223;(with_reducible refine(HC.out _).mono ?_);rintro e w2 ⟨rfl,rfl⟩)
  go_ret
  exact⟨rfl,rfl⟩)
 clear hc hne
 go_enter Tryz.func146,Tryz.ntmps146
 go_wp2_with (go_at_call 171;(with_reducible refine(HR.out _).mono ?_);rintro e w2 ⟨rfl,rfl⟩)
 go_ret
 exact⟨rfl,rfl⟩
end Ex
end Go.Proofs.YtipdgmjplnibeaaGreatDoor
namespace Go.Proofs.YtipdgmjplnibeaaGreatDoor
open Go.RowKit Go.Maps
set_option maxRecDepth 100000
set_option maxHeartbeats 6400000
namespace Ex
open Jo (ft fm rows own_ge)
open En (E RdE Vd Rises FrE)
theorem flat_len (r:Rw):(flat r).length≤r.length:=by unfold flat solid;rw[List.length_map];exact List.length_filter_le _ _
theorem ptR_ok {t:B} {c:UInt8} {e:E} (h:t.length≤100000):ptR t c e=.ok (pt t c) e:=if_pos h
def insR (row:E→List P→Res) (e:E) (p:P):Res:=(row e p.w).then fun r e'=>if p.q=true then ptR (flat r) 113 e' else if noLit r=true then .ok r e' else .big
theorem instead_v {row:E→List P→Res} (hR:RowOk row) (hS:RowSm row) (W:World) (X:Nat→Prop) (g m:Nat) (e:E) (vw:Value) (p:P) (h:Wt W X g m e) (hv:PsAt W (Nb g) vw p.w) (hb:insR row e p≠.big):Calls Tryz.prog 112 #[.pointer (some ⟨g,0,none⟩),pv p vw] W (RowR W X g m (insR row e p)):=by
 obtain⟨Aw,cw,rfl⟩:=hv.one.2
 have hrb:row e p.w≠.big:=fun e9=>hb (by unfold insR;rw[e9];rfl)
 have HF:=Lib.hid (fun W1 (hl:Later W W1)=>flat_v hR hS W1 (Wi X W W1) g m e (.slice Aw p.w.length cw) p.w (h.wide hl) (ps_grown hv (later_some hl)) hrb)
 have HRW:=Lib.hid (fun W1 (hl:Later W W1)=>hR W1 (Wi X W W1) g m e (.slice Aw p.w.length cw) p.w (h.wide hl) (ps_grown hv (later_some hl)) hrb)
 have HB:=Lib.hid hb
 have HH:=Lib.hid h
 have hgl:=h.lt
 have HGL:=Lib.hid hgl
 obtain⟨res,hres⟩:∃ res,res=row e p.w:=⟨_,rfl⟩
 have hins:insR row e p=res.then fun r e'=>if p.q=true then ptR (flat r) 113 e' else if noLit r=true then .ok r e' else .big:=by rw[hres];rfl
 rw[←hres] at HF HRW
 obtain⟨k,t,o,q,l⟩:=p
 obtain⟨nl,hnl⟩:∃ nl,nl=l.length:=⟨_,rfl⟩
 replace hins:insR row e (.mk k t o q l)=res.then fun r e'=>if q=true then ptR (flat r) 113 e' else if noLit r=true then .ok r e' else .big:=hins
 rw[hins] at HB⊢
 unfold pv
 show Calls Tryz.prog 112 #[.pointer (some ⟨g,0,none⟩),.agg #[.int .i64 (k:Int),.string (mkS t),.string (mkS o),.bool q,.slice Aw l.length cw]] W _
 replace HF:=Lib.hid (show ∀ W1,Later W W1→Calls Tryz.prog 145 #[.pointer (some ⟨g,0,none⟩),.slice Aw l.length cw] W1 (TxtR W1 (Wi X W W1) g m res flat) from HF.out)
 replace HRW:=Lib.hid (show ∀ W1,Later W W1→Calls Tryz.prog 48 #[.pointer (some ⟨g,0,none⟩),.slice Aw l.length cw] W1 (RowR W1 (Wi X W W1) g m res) from HRW.out)
 rw[←hnl] at HF HRW⊢
 have HLA:=Lib.hid (fun W o=>Later.alloc W o)
 have HN0:=Lib.hid (fun o=>heap_alloc_new (W.alloc o) (.cells #[.string ⟨#[]⟩,.string ⟨#[]⟩] 37))
 have hsz:∀ o,(W.alloc o).heap.size=W.heap.size+1:=fun o=>World.size_alloc _ _
 have hsz2:∀ o o',((W.alloc o).alloc o').heap.size=W.heap.size+2:=fun o o'=>by rw[World.size_alloc,World.size_alloc]
 have HRR:=Lib.hid (fun r:Rw=>show rv r=.agg #[.string (mkS (ft r)),.string (mkS (fm r))] from rfl)
 have HSM:=Lib.hid (show ∀ r e',res=.ok r e'→r.length≤100000 from fun r e' e9=>hS _ _ _ _ (hres.symm.trans e9))
 clear hb h hgl hins hnl hres hv hrb
 cases q with
 | true=>
  cases res with
  | big=>exact absurd rfl HB.out
  | bad n et=>
   go_enter Tryz.func112,Tryz.ntmps112
   go_wp2_with (go_at_call 145;(with_reducible refine(HF.out _ ((HLA.out _ _).trans (HLA.out _ _))).mono ?_);rintro e w2 ⟨rfl,hg2⟩;have HG2:=Lib.hid hg2;clear hg2)
   exact⟨rfl,rfl,grown_trans (later_some ((HLA.out _ _).trans (HLA.out _ _))) HG2.out⟩
  | ok r e2=>
   have hsm:=HSM.out r e2 rfl
   have HP:=Lib.hid (show ∀ W,Calls Tryz.prog 102 #[.string (mkS (flat r)),.int .u8 113] W fun e W'=>e=.returned (rv (pt (flat r) 113))∧Later W W' from fun W=>put_v (flat r) 113 (Nat.le_trans (flat_len r) hsm) W)
   have HPT:=Lib.hid (ptR_ok (c:=113) (e:=e2) (Nat.le_trans (flat_len r) hsm))
   clear hsm
   go_enter Tryz.func112,Tryz.ntmps112
   go_wp2_with (first
    |(go_at_call 145;(with_reducible refine(HF.out _ ((HLA.out _ _).trans (HLA.out _ _))).mono ?_);rintro e w2 ⟨rfl,hw2,hg2⟩;(have hn2:=grown_cells hg2 (HN0.out _) (by have:=HGL.out;rw[hsz];omega));rw[hsz] at hn2;(have HN2:=Lib.hid hn2);have HW2:=Lib.hid hw2;have HG2:=Lib.hid hg2;clear hw2 hg2 hn2)
    |(go_at_call 102;(with_reducible refine(HP.out _).mono ?_);rintro e w3 ⟨rfl,hl3⟩;(have hn3:=later_cells hl3 HN2.out);rw[HRR.out];obtain⟨r0,z0⟩:=cell_row hn3 0;obtain⟨r1,z1⟩:=cell_row hn3 1;(have HN3:=Lib.hid hn3);(have HL3:=Lib.hid hl3);clear hl3 hn3))
   refine end_row rfl rfl HN3.out rfl rfl fun w4 h4=>?_
   show RowR W X g m (ptR (flat r) 113 e2) _ _
   rw[HPT.out]
   exact⟨rfl,HH.out.ends ((HLA.out _ _).trans (HLA.out _ _)) (HW2.out.later HL3.out) (grown_trans HG2.out (later_some HL3.out)) (by omega) (by rw[hsz2];omega) HN3.out h4⟩
 | false=>
  cases res with
  | big=>exact absurd rfl HB.out
  | bad n et=>
   go_enter Tryz.func112,Tryz.ntmps112
   go_wp2_with (go_at_call 48;(with_reducible refine(HRW.out _ ((HLA.out _ _).trans (HLA.out _ _))).mono ?_);rintro e w2 ⟨rfl,hg2⟩;have HG2:=Lib.hid hg2;clear hg2)
   exact⟨rfl,rfl,grown_trans (later_some ((HLA.out _ _).trans (HLA.out _ _))) HG2.out⟩
  | ok r e2=>
   have hsm:=HSM.out r e2 rfl
   have hnl:noLit r=true:=by
    by_cases h9:noLit r=true
    ·exact h9
    ·refine absurd ?_ HB.out
     show (if false=true then ptR (flat r) 113 e2 else if noLit r=true then Res.ok r e2 else .big)=.big
     rw[if_neg (by simp),if_neg h9]
   have HEQ:=Lib.hid (show (if false=true then ptR (flat r) 113 e2 else if noLit r=true then Res.ok r e2 else .big)=.ok r e2 by rw[if_neg (by simp),if_pos hnl])
   have HM:=Lib.hid (fun W=>replace_none (fm r) (by unfold fm noLit at *;rw[List.all_map];exact hnl) W)
   clear hsm hnl
   go_enter Tryz.func112,Tryz.ntmps112
   go_wp2_with (first
    |(go_at_call 48;(with_reducible refine(HRW.out _ ((HLA.out _ _).trans (HLA.out _ _))).mono ?_);rintro e w2 ⟨rfl,hw2,hg2⟩;(have hn2:=grown_cells hg2 (HN0.out _) (by have:=HGL.out;rw[hsz];omega));rw[hsz] at hn2;rw[HRR.out];(have hn3:=later_cells (HLA.out w2 (.cells #[.string (mkS (ft r)),.string (mkS (fm r))] 37)) hn2);obtain⟨r0,z0⟩:=cell_row hn3 0;obtain⟨r1,z1⟩:=cell_row hn3 1;(have HN3:=Lib.hid hn3);have HW2:=Lib.hid hw2;have HG2:=Lib.hid hg2;clear hw2 hg2 hn2 hn3)
    |(go_at_call 146;(with_reducible refine(HM.out _).mono ?_);rintro e w3 ⟨rfl,rfl⟩))
   refine end_row rfl rfl HN3.out rfl rfl fun w4 h4=>?_
   show RowR W X g m (if false=true then ptR (flat r) 113 e2 else if noLit r=true then Res.ok r e2 else .big) _ _
   rw[HEQ.out]
   exact⟨rfl,HH.out.ends ((HLA.out _ _).trans (HLA.out _ _)) (HW2.out.later (HLA.out _ _)) (grown_trans HG2.out (later_some (HLA.out _ _))) (by omega) (by rw[hsz2];omega) HN3.out h4⟩
end Ex
end Go.Proofs.YtipdgmjplnibeaaGreatDoor
