import Derived.Test.YtipdgmjplnibeaaGreatDoorVh
import Derived.Shelf.Strings.Search3
import Derived.Shelf.Strings.Count
import Derived.Ground.Names2Prog
import Derived.Ground.SlgnProg
import Derived.Test.YtipdgmjplnibeaaGreatDoorProg
set_option maxRecDepth 100000
set_option maxHeartbeats 6400000
namespace Go.Proofs.YtipdgmjplnibeaaGreatDoor
open Go.RowKit Go.Maps
set_option maxRecDepth 100000
set_option maxHeartbeats 3200000
namespace Ey
open Jo (ft fm rows own_ge)
open En (E RdE Vd Rises FrE)
def TxtR (W:World) (X:Nat→Prop) (g m:Nat) (res:Res) (f:Rw→B) (x:Ending) (W':World):Prop:=match res with
 | .ok r e=>x=.returned (.string (mkS (f r)))∧Wt W' X g m e∧W.grownBy W' (some g)
 | .bad n t=>x=.panicked (flt n t)∧W.grownBy W' (some g)
 | .big=>True
def RowSm (row:E→List P→Res):Prop:=∀ e ps r e',row e ps=.ok r e'→r.length≤100000
theorem ft_solid (r:Rw):ft (solid r)=flat r:=rfl
theorem field_row (a b:ByteArray) (w:World):(Instr.field 37 (.agg #[.string a,.string b]) 0).run Tryz.prog w=.ok (.string a) w:=by kernel_rfl
theorem flat_v {row:E→List P→Res} (hR:RowOk row) (hS:RowSm row) (W:World) (X:Nat→Prop) (g m:Nat) (e:E) (v:Value) (ps:List P) (h:Wt W X g m e) (hv:PsAt W (Nb g) v ps) (hb:row e ps≠.big):Calls Tryz.prog 145 #[.pointer (some ⟨g,0,none⟩),v] W (TxtR W X g m (row e ps) flat):=by
 obtain⟨A0,c0,rfl⟩:=hv.one.2
 have hc:=hR W X g m e _ ps h hv hb
 cases hres:row e ps with
 | big=>exact absurd hres hb
 | bad n t=>
  rw[hres] at hc
  have HC:=Lib.hid hc
  obtain⟨k,hk⟩:∃ k,k=ps.length:=⟨_,rfl⟩
  rw[←hk] at HC⊢
  clear hc hres hb hv h hk
  go_enter Tryz.func145,Tryz.ntmps145
  go_wp2_with (go_at_call 48;(with_reducible refine HC.out.mono ?_);rintro e w2 ⟨rfl,hg2⟩;have HG2:=Lib.hid hg2;clear hg2)
  exact⟨rfl,rfl,HG2.out⟩
 | ok r e2=>
  rw[hres] at hc
  have HC:=Lib.hid (show Calls Tryz.prog 48 #[.pointer (some ⟨g,0,none⟩),.slice A0 ps.length c0] W fun x W'=>x=.returned (rv r)∧Wt W' X g m e2∧W.grownBy W' (some g) from hc)
  have HSO:=Lib.hid (fun W=>solid_v r (hS _ _ _ _ hres) W)
  have hfd:=field_row
  have HRR:=Lib.hid (fun r:Rw=>show rv r=.agg #[.string (mkS (ft r)),.string (mkS (fm r))] from rfl)
  obtain⟨k,hk⟩:∃ k,k=ps.length:=⟨_,rfl⟩
  rw[←hk] at HC⊢
  clear hc hres hb hv h hk
  go_enter Tryz.func145,Tryz.ntmps145
  go_wp2_with (first
   |(go_at_call 48;(with_reducible refine HC.out.mono ?_);rintro e w2 ⟨rfl,hw2,hg2⟩;have HW2:=Lib.hid hw2;have HG2:=Lib.hid hg2;clear hw2 hg2)
   |(go_at_call 33;(with_reducible refine(HSO.out _).mono ?_);rintro e w3 ⟨rfl,hl3⟩;rw[HRR.out];have HL3:=Lib.hid hl3;clear hl3))
  go_ret
  exact⟨rfl,HW2.out.later HL3.out,grown_trans HG2.out (later_some HL3.out)⟩
end Ey
end Go.Proofs.YtipdgmjplnibeaaGreatDoor
namespace Go.Proofs
open Go.Shelf
def Tryz.lays138_ren:Go.Shelf.Ren:=⟨fun | 138=>223 | 195=>245 | 218=>246 | 143=>173 | 219=>172 | 217=>101 | 225=>225 | 224=>226 | 267=>227 | 266=>135 | 314=>248 | n=>n,fun | 9=>9 | 3=>3 | 4=>4 | 5=>5 | 0=>0 | 46=>110 | 146=>245 | 51=>200 | n=>n,fun | 1=>0 | n=>n⟩
theorem Tryz.lays138:Go.Proofs.Lays.n138 Tryz.prog Tryz.lays138_ren:={
 mixed:=by kernel_rfl
 f138:=Tryz.func223.trans (congrArg some (by kernel_rfl))
 f143:=Tryz.func173.trans (congrArg some (by kernel_rfl))
 f195:=Tryz.func245.trans (congrArg some (by kernel_rfl))
 f217:=Tryz.func101.trans (congrArg some (by kernel_rfl))
 f218:=Tryz.func246.trans (congrArg some (by kernel_rfl))
 f219:=Tryz.func172.trans (congrArg some (by kernel_rfl))
 f224:=Tryz.func226.trans (congrArg some (by kernel_rfl))
 f225:=Tryz.func225.trans (congrArg some (by kernel_rfl))
 f266:=Tryz.func135.trans (congrArg some (by kernel_rfl))
 f267:=Tryz.func227.trans (congrArg some (by kernel_rfl))
 f314:=Tryz.func248.trans (congrArg some (by kernel_rfl))
 t0:=Tryz.underlying0
 a0:=Tryz.isAgg0
 z0:=Tryz.sizeOf0
 v0:=Tryz.zeroValue0
 t3:=Tryz.underlying3
 a3:=Tryz.isAgg3
 z3:=Tryz.sizeOf3
 v3:=Tryz.zeroValue3
 t4:=Tryz.underlying4
 a4:=Tryz.isAgg4
 z4:=Tryz.sizeOf4
 v4:=Tryz.zeroValue4
 t5:=Tryz.underlying5
 a5:=Tryz.isAgg5
 z5:=Tryz.sizeOf5
 v5:=Tryz.zeroValue5
 t9:=Tryz.underlying9
 a9:=Tryz.isAgg9
 z9:=Tryz.sizeOf9
 v9:=Tryz.zeroValue9
 t46:=Tryz.underlying110
 a46:=Tryz.isAgg110
 z46:=Tryz.sizeOf110
 v46:=Tryz.zeroValue110
 t51:=Tryz.underlying200
 a51:=Tryz.isAgg200
 z51:=Tryz.sizeOf200
 v51:=Tryz.zeroValue200
 t146:=Tryz.underlying245
 a146:=Tryz.isAgg245
 z146:=Tryz.sizeOf245
 v146:=Tryz.zeroValue245
 g1:=by kernel_rfl }
open Go.RowKit Go.Lib in
theorem Tryz.strings_Count_one (s:ByteArray) (c:UInt8) (w:World) :
  Calls Tryz.prog 223 #[.string s,.string ⟨#[c]⟩] w fun e w'=>e=.returned (.int .i64 (Lib.countByte s.data.toList c))∧w'=w:=Any.strings_Count_one Tryz.lays138 s c w
end Go.Proofs
namespace Go.Proofs.YtipdgmjplnibeaaGreatDoor
open Go.RowKit Go.Maps
set_option maxRecDepth 100000
set_option maxHeartbeats 3200000
namespace Ey
open Jo (ft fm rows own_ge)
open En (E RdE Vd Rises FrE)
def Wi (X:Nat→Prop) (W w:World):Nat→Prop:=fun k=>X k∨(W.heap.size≤k∧k<w.heap.size)
theorem Wt.ends {W w1 w w':World} {X:Nat→Prop} {g m b:Nat} {e e':E} {cs:Array Value} {t:TypeId} {fr:Nat×Nat} (h0:Wt W X g m e) (hl:Later W w1) (hw:Wt w (Wi X W w1) g m e') (hg:w1.grownBy w (some g)) (hb:W.heap.size≤b) (hb2:b<w1.heap.size) (hx:w.heap[b]?=some (.cells cs t fr)) (hs:w.grownBy w' (some b)):Wt w' X g m e'∧W.grownBy w' (some g):=by
 have hlt:=h0.lt
 have hv:=vd_lt h0.vd
 obtain⟨va,aa,h1,h2⟩:=hw.bx
 have hgg:W.grownBy w' (some g):=⟨hs.os.trans (hg.os.trans hl.os),hs.tape.trans (hg.tape.trans hl.tape),hs.output.trans (hg.output.trans hl.output),Nat.le_trans hl.size (Nat.le_trans hg.size hs.size),fun k hk hn=>(hs.block k (Nat.lt_of_lt_of_le hk (Nat.le_trans hl.size hg.size)) (fun e=>by have:=Option.some.inj e;omega)).trans ((hg.block k (Nat.lt_of_lt_of_le hk hl.size) hn).trans (hl.block k hk))⟩
 refine⟨⟨⟨va,aa,grown_cells hs h1 (by omega),(h2.grown hs fun k e=>.inr ⟨by have:=Option.some.inj e;omega,by have:=Option.some.inj e;omega⟩).less fun k hk=>.inl hk⟩,h0.xg,fun k hk=>Nat.lt_of_lt_of_le (h0.xl k hk) (Nat.le_trans hl.size (Nat.le_trans hg.size hs.size)),hw.tab.kept hs (fun e=>?_),hw.sm,hw.up,vd_grown hw.vd hs (fun k e=>?_),hw.lo,h0.ta.kept hgg⟩,hgg⟩
 ·exact hw.tab.apart hx (Option.some.inj e)
 ·have:=Option.some.inj e
  exact⟨by omega,by omega,by omega⟩
theorem replace_none (l:L) (h:l.all (fun y=>!(y==108))=true) (W:World):Calls Tryz.prog 146 #[.string (mkS l),.string ⟨#[108]⟩,.string ⟨#[115]⟩] W fun e W'=>e=.returned (.string (mkS l))∧W'=W:=by
 have hc:∀ W,Calls Tryz.prog 223 #[.string (mkS l),.string ⟨#[108]⟩] W fun e w'=>e=.returned (.int .i64 0)∧w'=W:=fun W=>by
  have h1:=Tryz.strings_Count_one (mkS l) 108 W
  rw[mkS_list] at h1
  have h2:Lib.countByte l 108=0:=by
   unfold Lib.countByte
   rw[List.count_eq_zero]
   intro hm
   have:=List.all_eq_true.1 h 108 hm
   simp at this
  rw[h2] at h1
  exact h1
 have HC:=Lib.hid hc
 have hne:((⟨#[108]⟩:ByteArray).toList==(⟨#[115]⟩:ByteArray).toList)=false:=by decide +kernel
 have HR:=Lib.hid (show ∀ W,Calls Tryz.prog 171 #[.string (mkS l),.string ⟨#[108]⟩,.string ⟨#[115]⟩,.int .i64 (-1)] W fun e W'=>e=.returned (.string (mkS l))∧W'=W from fun W=>by
  clear hc
  go_enter Tryz.func171,Tryz.ntmps171
  go_wp2_with (go_at_call 223;(with_reducible refine(HC.out _).mono ?_);rintro e w2 ⟨rfl,rfl⟩)
  go_ret
  exact⟨rfl,rfl⟩)
 clear hc hne
 go_enter Tryz.func146,Tryz.ntmps146
 go_wp2_with (go_at_call 171;(with_reducible refine(HR.out _).mono ?_);rintro e w2 ⟨rfl,rfl⟩)
 go_ret
 exact⟨rfl,rfl⟩
end Ey
end Go.Proofs.YtipdgmjplnibeaaGreatDoor
namespace Go.Proofs.YtipdgmjplnibeaaGreatDoor
open Go.RowKit Go.Maps
set_option maxRecDepth 100000
set_option maxHeartbeats 6400000
namespace Ey
open Jo (ft fm rows own_ge)
open En (E RdE Vd Rises FrE)
theorem flat_len (r:Rw):(flat r).length≤r.length:=by unfold flat solid;rw[List.length_map];exact List.length_filter_le _ _
theorem ptR_ok {t:B} {c:UInt8} {e:E} (h:t.length≤100000):ptR t c e=.ok (pt t c) e:=if_pos h
def insR (row:E→List P→Res) (e:E) (p:P):Res:=(row e p.w).then fun r e'=>if p.q=true then ptR (flat r) 113 e' else if noLit r=true then .ok r e' else .big
theorem instead_v {row:E→List P→Res} (hR:RowOk row) (hS:RowSm row) (W:World) (X:Nat→Prop) (g m:Nat) (e:E) (vw:Value) (p:P) (h:Wt W X g m e) (hv:PsAt W (Nb g) vw p.w) (hb:insR row e p≠.big):Calls Tryz.prog 112 #[.pointer (some ⟨g,0,none⟩),pv p vw] W (RowR W X g m (insR row e p)):=by
 obtain⟨Aw,cw,rfl⟩:=hv.one.2
 have hrb:row e p.w≠.big:=fun e9=>hb (by unfold insR;rw[e9];rfl)
 have HF:=Lib.hid (fun W1 (hl:Later W W1)=>flat_v hR hS W1 (Wi X W W1) g m e (.slice Aw p.w.length cw) p.w (h.wide hl) (ps_grown hv (later_some hl)) hrb)
 have HRW:=Lib.hid (fun W1 (hl:Later W W1)=>hR W1 (Wi X W W1) g m e (.slice Aw p.w.length cw) p.w (h.wide hl) (ps_grown hv (later_some hl)) hrb)
 have HB:=Lib.hid hb
 have HH:=Lib.hid h
 have hgl:=h.lt
 have HGL:=Lib.hid hgl
 obtain⟨res,hres⟩:∃ res,res=row e p.w:=⟨_,rfl⟩
 have hins:insR row e p=res.then fun r e'=>if p.q=true then ptR (flat r) 113 e' else if noLit r=true then .ok r e' else .big:=by rw[hres];rfl
 rw[←hres] at HF HRW
 obtain⟨k,t,o,q,l⟩:=p
 obtain⟨nl,hnl⟩:∃ nl,nl=l.length:=⟨_,rfl⟩
 replace hins:insR row e (.mk k t o q l)=res.then fun r e'=>if q=true then ptR (flat r) 113 e' else if noLit r=true then .ok r e' else .big:=hins
 rw[hins] at HB⊢
 unfold pv
 show Calls Tryz.prog 112 #[.pointer (some ⟨g,0,none⟩),.agg #[.int .i64 (k:Int),.string (mkS t),.string (mkS o),.bool q,.slice Aw l.length cw]] W _
 replace HF:=Lib.hid (show ∀ W1,Later W W1→Calls Tryz.prog 145 #[.pointer (some ⟨g,0,none⟩),.slice Aw l.length cw] W1 (TxtR W1 (Wi X W W1) g m res flat) from HF.out)
 replace HRW:=Lib.hid (show ∀ W1,Later W W1→Calls Tryz.prog 48 #[.pointer (some ⟨g,0,none⟩),.slice Aw l.length cw] W1 (RowR W1 (Wi X W W1) g m res) from HRW.out)
 rw[←hnl] at HF HRW⊢
 have HLA:=Lib.hid (fun W o=>Later.alloc W o)
 have HN0:=Lib.hid (fun o=>heap_alloc_new (W.alloc o) (.cells #[.string ⟨#[]⟩,.string ⟨#[]⟩] 37))
 have hsz:∀ o,(W.alloc o).heap.size=W.heap.size+1:=fun o=>World.size_alloc _ _
 have hsz2:∀ o o',((W.alloc o).alloc o').heap.size=W.heap.size+2:=fun o o'=>by rw[World.size_alloc,World.size_alloc]
 have HRR:=Lib.hid (fun r:Rw=>show rv r=.agg #[.string (mkS (ft r)),.string (mkS (fm r))] from rfl)
 have HSM:=Lib.hid (show ∀ r e',res=.ok r e'→r.length≤100000 from fun r e' e9=>hS _ _ _ _ (hres.symm.trans e9))
 clear hb h hgl hins hnl hres hv hrb
 cases q with
 | true=>
  cases res with
  | big=>exact absurd rfl HB.out
  | bad n et=>
   go_enter Tryz.func112,Tryz.ntmps112
   go_wp2_with (go_at_call 145;(with_reducible refine(HF.out _ ((HLA.out _ _).trans (HLA.out _ _))).mono ?_);rintro e w2 ⟨rfl,hg2⟩;have HG2:=Lib.hid hg2;clear hg2)
   exact⟨rfl,rfl,grown_trans (later_some ((HLA.out _ _).trans (HLA.out _ _))) HG2.out⟩
  | ok r e2=>
   have hsm:=HSM.out r e2 rfl
   have HP:=Lib.hid (show ∀ W,Calls Tryz.prog 102 #[.string (mkS (flat r)),.int .u8 113] W fun e W'=>e=.returned (rv (pt (flat r) 113))∧Later W W' from fun W=>put_v (flat r) 113 (Nat.le_trans (flat_len r) hsm) W)
   have HPT:=Lib.hid (ptR_ok (c:=113) (e:=e2) (Nat.le_trans (flat_len r) hsm))
   clear hsm
   go_enter Tryz.func112,Tryz.ntmps112
   go_wp2_with (first
    |(go_at_call 145;(with_reducible refine(HF.out _ ((HLA.out _ _).trans (HLA.out _ _))).mono ?_);rintro e w2 ⟨rfl,hw2,hg2⟩;(have hn2:=grown_cells hg2 (HN0.out _) (by have:=HGL.out;rw[hsz];omega));rw[hsz] at hn2;(have HN2:=Lib.hid hn2);have HW2:=Lib.hid hw2;have HG2:=Lib.hid hg2;clear hw2 hg2 hn2)
    |(go_at_call 102;(with_reducible refine(HP.out _).mono ?_);rintro e w3 ⟨rfl,hl3⟩;(have hn3:=later_cells hl3 HN2.out);rw[HRR.out];obtain⟨r0,z0⟩:=cell_row hn3 0;obtain⟨r1,z1⟩:=cell_row hn3 1;(have HN3:=Lib.hid hn3);(have HL3:=Lib.hid hl3);clear hl3 hn3))
   refine end_row rfl rfl HN3.out rfl rfl fun w4 h4=>?_
   show RowR W X g m (ptR (flat r) 113 e2) _ _
   rw[HPT.out]
   exact⟨rfl,HH.out.ends ((HLA.out _ _).trans (HLA.out _ _)) (HW2.out.later HL3.out) (grown_trans HG2.out (later_some HL3.out)) (by omega) (by rw[hsz2];omega) HN3.out h4⟩
 | false=>
  cases res with
  | big=>exact absurd rfl HB.out
  | bad n et=>
   go_enter Tryz.func112,Tryz.ntmps112
   go_wp2_with (go_at_call 48;(with_reducible refine(HRW.out _ ((HLA.out _ _).trans (HLA.out _ _))).mono ?_);rintro e w2 ⟨rfl,hg2⟩;have HG2:=Lib.hid hg2;clear hg2)
   exact⟨rfl,rfl,grown_trans (later_some ((HLA.out _ _).trans (HLA.out _ _))) HG2.out⟩
  | ok r e2=>
   have hsm:=HSM.out r e2 rfl
   have hnl:noLit r=true:=by
    by_cases h9:noLit r=true
    ·exact h9
    ·refine absurd ?_ HB.out
     show (if false=true then ptR (flat r) 113 e2 else if noLit r=true then Res.ok r e2 else .big)=.big
     rw[if_neg (by simp),if_neg h9]
   have HEQ:=Lib.hid (show (if false=true then ptR (flat r) 113 e2 else if noLit r=true then Res.ok r e2 else .big)=.ok r e2 by rw[if_neg (by simp),if_pos hnl])
   have HM:=Lib.hid (fun W=>replace_none (fm r) (by unfold fm noLit at *;rw[List.all_map];exact hnl) W)
   clear hsm hnl
   go_enter Tryz.func112,Tryz.ntmps112
   go_wp2_with (first
    |(go_at_call 48;(with_reducible refine(HRW.out _ ((HLA.out _ _).trans (HLA.out _ _))).mono ?_);rintro e w2 ⟨rfl,hw2,hg2⟩;(have hn2:=grown_cells hg2 (HN0.out _) (by have:=HGL.out;rw[hsz];omega));rw[hsz] at hn2;rw[HRR.out];(have hn3:=later_cells (HLA.out w2 (.cells #[.string (mkS (ft r)),.string (mkS (fm r))] 37)) hn2);obtain⟨r0,z0⟩:=cell_row hn3 0;obtain⟨r1,z1⟩:=cell_row hn3 1;(have HN3:=Lib.hid hn3);have HW2:=Lib.hid hw2;have HG2:=Lib.hid hg2;clear hw2 hg2 hn2 hn3)
    |(go_at_call 146;(with_reducible refine(HM.out _).mono ?_);rintro e w3 ⟨rfl,rfl⟩))
   refine end_row rfl rfl HN3.out rfl rfl fun w4 h4=>?_
   show RowR W X g m (if false=true then ptR (flat r) 113 e2 else if noLit r=true then Res.ok r e2 else .big) _ _
   rw[HEQ.out]
   exact⟨rfl,HH.out.ends ((HLA.out _ _).trans (HLA.out _ _)) (HW2.out.later (HLA.out _ _)) (grown_trans HG2.out (later_some (HLA.out _ _))) (by omega) (by rw[hsz2];omega) HN3.out h4⟩
end Ey
end Go.Proofs.YtipdgmjplnibeaaGreatDoor
namespace Go.Proofs.YtipdgmjplnibeaaGreatDoor
open Go.RowKit Go.Maps
set_option maxRecDepth 100000
theorem wp_call3 {P:Program} {o:Oper} {a:Act} {w:World} {K:Act→World→Prop} {Q:Exit→Act→World→Prop} (f:FuncId) (i j k:Tmp) (ats:Array TypeId) (v1 v2 v3:Value) (hop:o.op=.call { callee:=.value (.func f),args:=#[.tmp i,.tmp j,.tmp k],argTypes:=ats }) (hi:a.tmps.getD i undef=v1) (hj:a.tmps.getD j undef=v2) (hk:a.tmps.getD k undef=v3) (hent:∀ args w,(callFunc f args).run P w=.ok (.enter f args) w)
  (h:Calls P f #[v1,v2,v3] w fun e w'=>(∃ r,e=.returned r∧K (a.put o.dst r) w')∨(∃ ch,e=.panicked ch∧Q (.panic ch) a w')):Oper.wp P o a w K Q:=by
 have e1:execOp a.eval o=callFunc f #[v1,v2,v3]:=by
  unfold execOp
  simp[hop,resolve,Deferred.ofValue,invoke,Act.eval,hi,hj,hk]
 unfold Oper.wp
 rw[e1,hent]
 refine h.mono fun e w' hh=>?_
 rcases hh with⟨r,rfl,hk⟩ | ⟨ch,rfl,hq⟩
 ·exact hk
 ·exact hq
namespace Ey
open Jo (ft fm rows own_ge)
open En (E RdE Vd Rises FrE)
theorem env_load {w:World} {g o:Nat} {a b:Value} {st:Int} {fl:ByteArray} (c0:w.cell? ⟨g,o,none⟩=some a) (c1:w.cell? ⟨g,o+1,none⟩=some b) (c2:w.cell? ⟨g,o+2,none⟩=some (.int .i64 st)) (c3:w.cell? ⟨g,o+3,none⟩=some (.string fl)):(Instr.loadAt 28 (.pointer (some ⟨g,o,none⟩))).run Tryz.prog w=.ok (.agg #[a,b,.int .i64 st,.string fl]) w:=by
 refine run_loadAt_mid (P:=Tryz.prog) w g o 28 [a,b,.int .i64 st,.string fl] _ (fun j v hv=>?_) Tryz.underlying28 rfl (by kernel_rfl)
 have hj:j<4:=(List.getElem?_eq_some_iff.1 hv).1
 match j,hj with
 | 0,_=>cases hv;exact c0
 | 1,_=>cases hv;exact c1
 | 2,_=>cases hv;exact c2
 | 3,_=>cases hv;exact c3
theorem Wt.put {W w:World} {X:Nat→Prop} {g m:Nat} {e e2:E} {va aa:Value} (h:Wt W X g m e) (hl:Later W w) (hf:FrE W.heap.size w (.agg #[va,aa,.int .i64 (e2.status:Int),.string (mkS e2.flags)]) e2) (hs:Sm e2=true) (hu:Rises e2.vars) :
  (∃ va0 aa0 st0 fl0,w.heap[g]?=some (.cells #[va0,aa0,.int .i64 st0,.string fl0,.map (some m)] 94 (0,0)))∧Wt ((((w.setCell ⟨g,0,none⟩ va).setCell ⟨g,1,none⟩ aa).setCell ⟨g,2,none⟩ (.int .i64 (e2.status:Int))).setCell ⟨g,3,none⟩ (.string (mkS e2.flags))) X g m e2∧W.grownBy ((((w.setCell ⟨g,0,none⟩ va).setCell ⟨g,1,none⟩ aa).setCell ⟨g,2,none⟩ (.int .i64 (e2.status:Int))).setCell ⟨g,3,none⟩ (.string (mkS e2.flags))) (some g):=by
 obtain⟨va0,aa0,h1,_⟩:=h.bx
 have h2:=later_cells hl h1
 have hg:w.grownBy ((((w.setCell ⟨g,0,none⟩ va).setCell ⟨g,1,none⟩ aa).setCell ⟨g,2,none⟩ (.int .i64 (e2.status:Int))).setCell ⟨g,3,none⟩ (.string (mkS e2.flags))) (some g):=only_trans (only_trans (only_trans (set_only _ _ _ _) (set_only _ _ _ _)) (set_only _ _ _ _)) (set_only _ _ _ _)
 have hw:=h.later hl
 refine⟨⟨va0,aa0,_,_,h2⟩,⟨⟨va,aa,set_row (set_row (set_row (set_row h2 0 _) 1 _) 2 _) 3 _,(Ap.of_fre hf h.xl).grown hg fun k e=>by rw[←Option.some.inj e];exact h.xg⟩,h.xg,fun k hk=>Nat.lt_of_lt_of_le (hw.xl k hk) hg.size,hw.tab.kept hg (fun e=>hw.tab.apart h2 (Option.some.inj e)),hs,hu,vd_grown hw.vd hg (fun k e=>by rw[←Option.some.inj e];exact h.lo),h.lo,hw.ta.kept hg⟩,later_grown hl hg⟩
def asgR (row:E→List P→Res) (e:E) (p:P):Res:=(row e p.w).then fun r e'=>if Sm (En.set Ar.nameB e' p.t (flat r))=true then .ok r (En.set Ar.nameB e' p.t (flat r)) else .big
theorem rises_set {e:E} (h:Rises e.vars) (n v:B):Rises (En.set Ar.nameB e n v).vars:=by
 unfold En.set
 split
 ·exact Rises.setV h n v
 ·exact h
theorem assigned_v {row:E→List P→Res} (hR:RowOk row) (hS:RowSm row) (W:World) (X:Nat→Prop) (g m:Nat) (e:E) (vw:Value) (p:P) (h:Wt W X g m e) (hv:PsAt W (Nb g) vw p.w) (hn:Ar.nameB p.t=true) (ht:p.t.length≤100000) (hb:asgR row e p≠.big):Calls Tryz.prog 113 #[.pointer (some ⟨g,0,none⟩),pv p vw] W (TxtR W X g m (asgR row e p) flat):=by
 obtain⟨Aw,cw,rfl⟩:=hv.one.2
 have hrb:row e p.w≠.big:=fun e9=>hb (by unfold asgR;rw[e9];rfl)
 have HF:=Lib.hid (fun W1 (hl:Later W W1)=>flat_v hR hS W1 X g m e (.slice Aw p.w.length cw) p.w (h.later hl) (ps_grown hv (later_some hl)) hrb)
 have HB:=Lib.hid hb
 obtain⟨res,hres⟩:∃ res,res=row e p.w:=⟨_,rfl⟩
 have hins:asgR row e p=res.then fun r e'=>if Sm (En.set Ar.nameB e' p.t (flat r))=true then .ok r (En.set Ar.nameB e' p.t (flat r)) else .big:=by rw[hres];rfl
 rw[←hres] at HF
 obtain⟨k,t,o,q,l⟩:=p
 obtain⟨nl,hnl⟩:∃ nl,nl=l.length:=⟨_,rfl⟩
 replace hins:asgR row e (.mk k t o q l)=res.then fun r e'=>if Sm (En.set Ar.nameB e' t (flat r))=true then .ok r (En.set Ar.nameB e' t (flat r)) else .big:=hins
 replace hn:Ar.nameB t=true:=hn
 replace ht:t.length≤100000:=ht
 rw[hins] at HB⊢
 unfold pv
 show Calls Tryz.prog 113 #[.pointer (some ⟨g,0,none⟩),.agg #[.int .i64 (k:Int),.string (mkS t),.string (mkS o),.bool q,.slice Aw l.length cw]] W _
 replace HF:=Lib.hid (show ∀ W1,Later W W1→Calls Tryz.prog 145 #[.pointer (some ⟨g,0,none⟩),.slice Aw l.length cw] W1 (TxtR W1 X g m res flat) from HF.out)
 rw[←hnl] at HF⊢
 have HNM:=Lib.hid (show ∀ W,Calls Tryz.prog 28 #[.string (mkS t)] W fun e W'=>e=.returned (.bool true)∧Later W W' from fun W=>by have:=Ar.name_v t (by omega) W;rw[hn] at this;exact this)
 have HLA:=Lib.hid (fun W o=>Later.alloc W o)
 have HN0:=Lib.hid (heap_alloc_new W (.cells #[.int .i64 (k:Int),.string (mkS t),.string (mkS o),.bool q,.slice Aw nl cw] 105))
 have HGL:=Lib.hid h.lt
 have HT:=Lib.hid ht
 clear hb h hins hnl hres hv hrb hn ht
 cases res with
 | big=>exact absurd rfl HB.out
 | bad n et=>
  go_enter Tryz.func113,Tryz.ntmps113
  go_wp2_with (first
   |(go_at_call 28;(with_reducible refine(HNM.out _).mono ?_);rintro e w1 ⟨rfl,hl1⟩;(have hn1:=later_cells hl1 HN0.out);obtain⟨b0,_⟩:=cell_row hn1 4;(have b4:w1.cell? ⟨W.heap.size,4,none⟩=some (.slice Aw nl cw):=b0);(have HL1:=Lib.hid ((HLA.out _ _).trans hl1));clear hl1 hn1 b0)
   |(go_at_call 145;(with_reducible refine(HF.out _ HL1.out).mono ?_);rintro e w2 ⟨rfl,hg2⟩;have HG2:=Lib.hid hg2;clear hg2))
  exact⟨rfl,rfl,grown_trans (later_some HL1.out) HG2.out⟩
 | ok r e2=>
  have hsm:Sm (En.set Ar.nameB e2 t (flat r))=true:=by
   by_cases h9:Sm (En.set Ar.nameB e2 t (flat r))=true
   ·exact h9
   ·exact absurd (show (if Sm (En.set Ar.nameB e2 t (flat r))=true then Res.ok r (En.set Ar.nameB e2 t (flat r)) else .big)=.big from if_neg h9) HB.out
  have HEQ:=Lib.hid (show (if Sm (En.set Ar.nameB e2 t (flat r))=true then Res.ok r (En.set Ar.nameB e2 t (flat r)) else .big)=.ok r (En.set Ar.nameB e2 t (flat r)) from if_pos hsm)
  obtain⟨TX,hTX⟩:∃ TX,TX=flat r:=⟨_,rfl⟩
  have HTX:=Lib.hid hTX
  rw[←hTX] at hsm
  have HSE:=Lib.hid hsm
  have HEN:=Lib.hid (entO (c:=_) Tryz.func14 rfl rfl)
  clear hsm hTX
  go_enter Tryz.func113,Tryz.ntmps113
  go_wp2_with (first
   |(go_at_call 28;(with_reducible refine(HNM.out _).mono ?_);rintro e w1 ⟨rfl,hl1⟩;(have hn1:=later_cells hl1 HN0.out);obtain⟨b0,_⟩:=cell_row hn1 4;(have b4:w1.cell? ⟨W.heap.size,4,none⟩=some (.slice Aw nl cw):=b0);(have HN1:=Lib.hid hn1);(have HL1:=Lib.hid ((HLA.out _ _).trans hl1));clear hl1 hn1 b0)
   |(go_at_call 145;(with_reducible refine(HF.out _ HL1.out).mono ?_);rintro e w2 ⟨rfl,hw2,hg2⟩;(have hn2:=grown_cells hg2 HN1.out (by have:=HGL.out;omega));(have HN2:=Lib.hid hn2);have HW2:=Lib.hid hw2;have HG2:=Lib.hid hg2;rw[←HTX.out];clear hw2 hg2 hn2))
  obtain⟨va,aa,hc⟩:=HW2.out.cells
  obtain⟨⟨c0,c1,c2,c3,c4⟩,hrd⟩:=hc w2.drew (Later.drew _)
  obtain⟨st,hst⟩:∃ st:Int,st=e2.status:=⟨_,rfl⟩
  obtain⟨fl,hfl⟩:∃ fl,fl=mkS e2.flags:=⟨_,rfl⟩
  rw[←hst] at c2 hrd
  rw[←hfl] at c3 hrd
  obtain⟨hsv,hsq,hsa,_⟩:=sm_facts HW2.out.sm
  have hset:=En.set_v (.agg #[va,aa,.int .i64 st,.string fl]) e2 t TX w2.drew hrd HW2.out.up (by omega) (by omega) (by have:=HT.out;omega)
  have HSET:=Lib.hid hset
  have HE0:=Lib.hid (env_load c0 c1 c2 c3)
  have HT0:=Lib.hid (show w2.drew.cell? ⟨W.heap.size,1,none⟩=some (.string (mkS t)) from(cell_row (later_cells (Later.drew _) HN2.out) 1).1)
  obtain⟨C0,hC0⟩:∃ C0:Nat→Value→World→Prop,C0=fun j u w=>(j=0∧w=w2.drew)∨(j=1∧∃ va' aa',u=.agg #[va',aa',.int .i64 ((En.set Ar.nameB e2 t TX).status:Int),.string (mkS (En.set Ar.nameB e2 t TX).flags)]∧FrE w2.heap.size w u (En.set Ar.nameB e2 t TX)∧Later w2 w)∨(j=2∧Wt w X g m (En.set Ar.nameB e2 t TX)∧w2.grownBy w (some g)):=⟨_,rfl⟩
  have HA:=Lib.hid (show ∀ j u w,C0 j u w→j≤0→w=w2.drew from fun j u w hc hj=>by
   rw[hC0] at hc
   rcases hc with⟨_,e⟩ | ⟨e,_⟩ | ⟨e,_⟩
   ·exact e
   all_goals omega)
  have H0:=Lib.hid (show C0 0 undef w2.drew by rw[hC0];exact .inl ⟨rfl,rfl⟩)
  have HEV:=Lib.hid (show ∀ j u w,C0 j u w→j≤0→(Instr.loadAt 28 (.pointer (some ⟨g,0,none⟩))).run Tryz.prog w=.ok (.agg #[va,aa,.int .i64 st,.string fl]) w from fun j u w hc hj=>by rw[HA.out j u w hc hj];exact HE0.out)
  have HTT:=Lib.hid (show ∀ j u w,C0 j u w→j≤0→w.cell? ⟨W.heap.size,1,none⟩=some (.string (mkS t)) from fun j u w hc hj=>by rw[HA.out j u w hc hj];exact HT0.out)
  have H1:=Lib.hid (show ∀ e9 w9,En.Told w2.drew w9 e9 (En.set En.nm e2 t TX)→∃ u,e9=.returned u∧C0 1 u w9 from fun e9 w9 h9=>by
   obtain⟨⟨v,rfl,hf⟩,hl9⟩:=h9
   obtain⟨va',A,n,c,e1,_⟩:=hf.rd
   refine⟨v,rfl,?_⟩
   rw[hC0]
   exact .inr (.inl ⟨rfl,va',.slice A n c,e1,hf,(Later.drew _).trans hl9⟩))
  have HA1:=Lib.hid (show ∀ u w,C0 1 u w→∃ A1 n1 c1 A2 n2 c2 y0 y1 y2 y3,u=.agg #[.slice A1 n1 c1,.slice A2 n2 c2,.int .i64 ((En.set Ar.nameB e2 t TX).status:Int),.string (mkS (En.set Ar.nameB e2 t TX).flags)]∧w.cell? ⟨g,0,none⟩=some y0∧w.cell? ⟨g,1,none⟩=some y1∧w.cell? ⟨g,2,none⟩=some y2∧w.cell? ⟨g,3,none⟩=some y3∧(∀ i,w.frozen? ⟨g,i,none⟩=false)∧C0 2 undef ((((w.setCell ⟨g,0,none⟩ (.slice A1 n1 c1)).setCell ⟨g,1,none⟩ (.slice A2 n2 c2)).setCell ⟨g,2,none⟩ (.int .i64 ((En.set Ar.nameB e2 t TX).status:Int))).setCell ⟨g,3,none⟩ (.string (mkS (En.set Ar.nameB e2 t TX).flags))) from fun u w hc=>by
   have hc':=hc
   rw[hC0] at hc
   rcases hc with⟨e,_⟩ | ⟨_,va',aa',hu,hf,hl9⟩ | ⟨e,_⟩
   ·cases e
   ·subst hu
    obtain⟨va2,A2,n2,c2,e1,hp,_⟩:=hf.rd
    injection e1 with e1
    simp only[Array.mk.injEq,List.cons.injEq,and_true] at e1
    obtain⟨rfl,rfl⟩:=e1
    obtain⟨A1,c1,rfl,_⟩:=hp.le
    obtain⟨⟨a0,a1,s0,f0,hx⟩,hw',hg'⟩:=HW2.out.put hl9 hf HSE.out (rises_set HW2.out.up _ _)
    exact⟨A1,_,c1,A2,n2,c2,_,_,_,_,rfl,(cell_row hx 0).1,(cell_row hx 1).1,(cell_row hx 2).1,(cell_row hx 3).1,fun i=>(cell_row hx i).2,by rw[hC0];exact .inr (.inr ⟨rfl,hw',hg'⟩)⟩
   ·cases e)
  have HF2:=Lib.hid (show ∀ u w,C0 2 u w→Wt w X g m (En.set Ar.nameB e2 t TX)∧w2.grownBy w (some g) from fun u w hc=>by
   rw[hC0] at hc
   rcases hc with⟨e,_⟩ | ⟨e,_⟩ | ⟨_,e⟩
   ·cases e
   ·cases e
   ·exact e)
  clear hC0
  refine wp_region_seq (by kernel_rfl) [8,11] (C0) [some (.pointer (some ⟨g,0,none⟩)),some (.pointer (some ⟨g,0,none⟩)),some (.pointer (some ⟨g,0,none⟩)),some (.pointer (some ⟨g,0,none⟩)),some (.agg #[va,aa,.int .i64 st,.string fl]),some (.pointer (some ⟨W.heap.size,1,none⟩)),some (.string (mkS t)),some (.string (mkS TX)),none,some (.pointer (some ⟨g,0,none⟩)),some (.pointer (some ⟨g,0,none⟩)),none] (by decide) (by decide) (by kernel_rfl) (by kernel_rfl) (H0.out) ?_ ?_
  ·refine⟨?_,?_,?_,?_,?_,?_,?_,?_,?_,?_,?_,?_,trivial⟩
   ·
    refine OwesS.q rfl fun a w j u hC hb hs=>⟨rfl,?_⟩
    have e0:a.tmps.getD 0 undef=.pointer (some ⟨g,0,none⟩):=hs.free 0 rfl
    refine ValWp.pure (v:=.pointer (some ⟨g,0,none⟩)) (fun K' hK'=>?_) ⟨rfl,rfl⟩
    simp only[ValWp,execOp,Act.eval,e0]
    go_simp
    all_goals exact hK'
   ·
    refine OwesS.q rfl fun a w j u hC hb hs=>⟨rfl,?_⟩
    have e0:a.tmps.getD 0 undef=.pointer (some ⟨g,0,none⟩):=hs.free 0 rfl
    refine ValWp.pure (v:=.pointer (some ⟨g,0,none⟩)) (fun K' hK'=>?_) ⟨rfl,rfl⟩
    simp only[ValWp,execOp,Act.eval,e0]
    go_simp
    all_goals exact hK'
   ·
    refine OwesS.q rfl fun a w j u hC hb hs=>⟨rfl,?_⟩
    have e18:a.tmps.getD 18 undef=.pointer (some ⟨g,0,none⟩):=hs.dep 1 _ rfl rfl
    refine ValWp.pure (v:=.pointer (some ⟨g,0,none⟩)) (fun K' hK'=>?_) ⟨rfl,rfl⟩
    simp only[ValWp,execOp,Act.eval,e18]
    go_simp
    all_goals exact hK'
   ·
    refine OwesS.q rfl fun a w j u hC hb hs=>⟨rfl,?_⟩
    have e19:a.tmps.getD 19 undef=.pointer (some ⟨g,0,none⟩):=hs.dep 2 _ rfl rfl
    refine ValWp.pure (v:=.pointer (some ⟨g,0,none⟩)) (fun K' hK'=>?_) ⟨rfl,rfl⟩
    simp only[ValWp,execOp,Act.eval,e19]
    go_simp
    all_goals exact hK'
   ·
    refine OwesS.q rfl fun a w j u hC hb hs=>⟨rfl,?_⟩
    have e20:a.tmps.getD 20 undef=.pointer (some ⟨g,0,none⟩):=hs.dep 3 _ rfl rfl
    have hj:=hb 0 8 rfl rfl
    exact ValWp.loadR rfl e20 (HEV.out j u w hC hj) ⟨rfl,rfl⟩
   ·
    refine OwesS.q rfl fun a w j u hC hb hs=>⟨rfl,?_⟩
    have e3:a.tmps.getD 3 undef=.pointer (some ⟨W.heap.size,0,none⟩):=hs.free 3 rfl
    refine ValWp.pure (v:=.pointer (some ⟨W.heap.size,1,none⟩)) (fun K' hK'=>?_) ⟨rfl,rfl⟩
    simp only[ValWp,execOp,Act.eval,e3]
    go_simp
    all_goals exact hK'
   ·
    refine OwesS.q rfl fun a w j u hC hb hs=>⟨rfl,?_⟩
    have e22:a.tmps.getD 22 undef=.pointer (some ⟨W.heap.size,1,none⟩):=hs.dep 5 _ rfl rfl
    have hj:=hb 0 8 rfl rfl
    have q0:=HTT.out j u w hC hj
    refine ValWp.pure (v:=.string (mkS t)) (fun K' hK'=>?_) ⟨rfl,rfl⟩
    simp only[ValWp,execOp,Act.eval,e22]
    go_simp
    all_goals exact hK'
   ·
    refine OwesS.q rfl fun a w j u hC hb hs=>⟨rfl,?_⟩
    have e5:a.tmps.getD 5 undef=.string (mkS TX):=hs.free 5 rfl
    refine ValWp.pure (v:=.string (mkS TX)) (fun K' hK'=>?_) ⟨rfl,rfl⟩
    simp only[ValWp,execOp,Act.eval,e5]
    go_simp
    all_goals exact hK'
   ·
    refine OwesS.w rfl fun a w u hC hl hs=>⟨rfl,fun K hK=>?_⟩
    have e21:a.tmps.getD 21 undef=.agg #[va,aa,.int .i64 st,.string fl]:=hs.dep 4 _ rfl rfl
    have e23:a.tmps.getD 23 undef=.string (mkS t):=hs.dep 6 _ rfl rfl
    have e24:a.tmps.getD 24 undef=.string (mkS TX):=hs.dep 7 _ rfl rfl
    have hw:=HA.out 0 u w hC (Nat.le_refl _)
    subst hw
    refine wp_call3 14 21 23 24 _ _ _ _ rfl e21 e23 e24 HEN.out (HSET.out.mono ?_)
    rintro e9 w9 h9
    obtain⟨u9,rfl,hu9⟩:=H1.out e9 w9 h9
    exact .inl ⟨_,rfl,hK _ _ trivial hu9⟩
   ·
    refine OwesS.q rfl fun a w j u hC hb hs=>⟨rfl,?_⟩
    have e17:a.tmps.getD 17 undef=.pointer (some ⟨g,0,none⟩):=hs.dep 0 _ rfl rfl
    refine ValWp.pure (v:=.pointer (some ⟨g,0,none⟩)) (fun K' hK'=>?_) ⟨rfl,rfl⟩
    simp only[ValWp,execOp,Act.eval,e17]
    go_simp
    all_goals exact hK'
   ·
    refine OwesS.q rfl fun a w j u hC hb hs=>⟨rfl,?_⟩
    have e26:a.tmps.getD 26 undef=.pointer (some ⟨g,0,none⟩):=hs.dep 9 _ rfl rfl
    refine ValWp.pure (v:=.pointer (some ⟨g,0,none⟩)) (fun K' hK'=>?_) ⟨rfl,rfl⟩
    simp only[ValWp,execOp,Act.eval,e26]
    go_simp
    all_goals exact hK'
   ·
    refine OwesS.w rfl fun a w u hC hl hs=>⟨rfl,fun K hK=>?_⟩
    have e27:a.tmps.getD 27 undef=.pointer (some ⟨g,0,none⟩):=hs.dep 10 _ rfl rfl
    have e25:a.tmps.getD 25 undef=u:=hl
    obtain⟨A1,n1,c1,A2,n2,c2,y0,y1,y2,y3,hu,q0,q1,q2,q3,z,h1⟩:=HA1.out u w hC
    subst hu
    refine wp_of_val ?_
    refine ValWp.pure (v:=undef) (w':=(((w.setCell ⟨g,0,none⟩ (.slice A1 n1 c1)).setCell ⟨g,1,none⟩ (.slice A2 n2 c2)).setCell ⟨g,2,none⟩ (.int .i64 ((En.set Ar.nameB e2 t TX).status:Int))).setCell ⟨g,3,none⟩ (.string (mkS (En.set Ar.nameB e2 t TX).flags))) (fun K' hK'=>?_) (hK _ _ trivial h1)
    simp only[ValWp,execOp,Act.eval,e27,e25]
    go_simp
    all_goals exact hK'
  ·intro a w u hC hl hd hsz hfree hs
   obtain⟨u17,hu17⟩:∃ u,u=a.tmps.getD 17 undef:=⟨_,rfl⟩
   obtain⟨u18,hu18⟩:∃ u,u=a.tmps.getD 18 undef:=⟨_,rfl⟩
   obtain⟨u19,hu19⟩:∃ u,u=a.tmps.getD 19 undef:=⟨_,rfl⟩
   obtain⟨u20,hu20⟩:∃ u,u=a.tmps.getD 20 undef:=⟨_,rfl⟩
   obtain⟨u21,hu21⟩:∃ u,u=a.tmps.getD 21 undef:=⟨_,rfl⟩
   obtain⟨u22,hu22⟩:∃ u,u=a.tmps.getD 22 undef:=⟨_,rfl⟩
   obtain⟨u23,hu23⟩:∃ u,u=a.tmps.getD 23 undef:=⟨_,rfl⟩
   obtain⟨u24,hu24⟩:∃ u,u=a.tmps.getD 24 undef:=⟨_,rfl⟩
   obtain⟨u25,hu25⟩:∃ u,u=a.tmps.getD 25 undef:=⟨_,rfl⟩
   obtain⟨u26,hu26⟩:∃ u,u=a.tmps.getD 26 undef:=⟨_,rfl⟩
   obtain⟨u27,hu27⟩:∃ u,u=a.tmps.getD 27 undef:=⟨_,rfl⟩
   have hal:AllAt a 0 [_,_,_,_,_,_,_,_,_,_,_,_,_,_,_,_,_,u17,u18,u19,u20,u21,u22,u23,u24,u25,u26,u27,_]:=⟨hfree 0 rfl,hfree 1 rfl,hfree 2 rfl,hfree 3 rfl,hfree 4 rfl,hfree 5 rfl,hfree 6 rfl,hfree 7 rfl,hfree 8 rfl,hfree 9 rfl,hfree 10 rfl,hfree 11 rfl,hfree 12 rfl,hfree 13 rfl,hfree 14 rfl,hfree 15 rfl,hfree 16 rfl,hu17.symm,hu18.symm,hu19.symm,hu20.symm,hu21.symm,hu22.symm,hu23.symm,hu24.symm,hu25.symm,hu26.symm,hu27.symm,hfree 28 rfl,trivial⟩
   have hlit:=fun h=>act_lit hd h hal
   rw[hlit hsz]
   simp only[Array.getD_eq_getD_getElem?,List.getElem?_toArray,List.getElem?_cons_zero,List.getElem?_cons_succ,Option.getD_some]
   clear hlit hal hd hsz hfree hs hu17 hu18 hu19 hu20 hu21 hu22 hu23 hu24 hu25 hu26 hu27
   obtain⟨hw9,hg9⟩:=HF2.out u w hC
   have HW9:=Lib.hid hw9
   have HG9:=Lib.hid hg9
   clear hC hl hw9 hg9
   go_wp2
   go_ret
   rw[HTX.out] at HW9
   show TxtR W X g m (if Sm (En.set Ar.nameB e2 t (flat r))=true then Res.ok r (En.set Ar.nameB e2 t (flat r)) else .big) flat _ _
   rw[HEQ.out]
   exact⟨by rw[HTX.out];rfl,HW9.out,grown_trans (later_some HL1.out) (grown_trans HG2.out HG9.out)⟩
end Ey
end Go.Proofs.YtipdgmjplnibeaaGreatDoor
