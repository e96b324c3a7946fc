import Derived.Test.YtipdgmjplnibeaaGreatDoorVs
import Derived.Test.YtipdgmjplnibeaaGreatDoorG46
import Derived.Defers
import Derived.Recover
set_option maxRecDepth 100000
set_option maxHeartbeats 12800000
namespace Go.Proofs.YtipdgmjplnibeaaGreatDoor
open Go.RowKit Go.Maps
set_option maxRecDepth 100000
namespace Ey
open Jo (ft fm rows own_ge)
open En (E RdE RdP Vd Rises FrE)
theorem assert_nil (w:World):(Instr.typeAssert .nilIface 20 33 true).run Tryz.prog w=.ok (.tuple #[.agg #[.int .i64 0,.string ⟨#[]⟩],.bool false]) w:=by kernel_rfl
theorem assert_flt (n:Int) (t:ByteArray) (w:World):(Instr.typeAssert (.iface 33 (.agg #[.int .i64 n,.string t])) 20 33 true).run Tryz.prog w=.ok (.tuple #[.agg #[.int .i64 n,.string t],.bool true]) w:=by kernel_rfl
theorem catch_frame {args:Array Value} {n:Nat} {l:List Value} (h:args++Array.replicate n undef=l.toArray):({ tmps:=args++Array.replicate n undef,defers:=[] }:Act)=⟨l.toArray,[]⟩:=by rw[h]
theorem catch_idle (p0:Addr) (w:World):CallsD Tryz.prog 45 #[.pointer (some p0)] .returning w fun e u' w'=>e=.returned (.tuple #[])∧u'=.returning∧Later w w':=by
 have hta:=assert_nil
 refine callsD_of_wpS Tryz.func45 rfl fun c₀ cs hu=>?_
 rw[Tryz.ntmps45]
 rw[catch_frame (l:=[.pointer (some p0),undef,undef,undef,undef,undef,undef,undef,undef,undef]) rfl]
 apply wpS_seq
 apply wpS_region
 simp[wpOpsS,go_sem,recoverD,hu,Exit.thenS,hta]
 refine wpS_of_wp ?_
 go_wp2
 cases c₀
 simp_all [bodyPostS,results,Tryz.results45]
 exact Later.alloc w _
theorem catch_flt (b:Nat) (v0 v1:Value) (n:Int) (t:ByteArray) (older:List PanicEntry) (w:World) (h0:w.heap[b]?=some (.cells #[v0,v1] 33 (0,0))) :
  CallsD Tryz.prog 45 #[.pointer (some ⟨b,0,none⟩)] (.panicking ({ v:=.iface 33 (.agg #[.int .i64 n,.string t]),recovered:=false }::older)) w fun r u' w'=>
   r=.returned (.tuple #[])∧u'=.panicking ({ v:=.iface 33 (.agg #[.int .i64 n,.string t]),recovered:=true }::older)∧w'.heap[b]?=some (.cells #[.int .i64 n,.string t] 33 (0,0))∧w.grownBy w' (some b):=by
 have hta:=assert_flt n t
 have c0:=(cell_row h0 0).1
 have c1:=(cell_row h0 1).1
 have z0:=(cell_row h0 0).2
 have z1:=(cell_row h0 1).2
 have n0:=lt_of_block h0
 have H0:=Lib.hid h0
 clear h0
 refine callsD_of_wpS Tryz.func45 rfl fun c₀ cs hu=>?_
 rw[Tryz.ntmps45]
 rw[catch_frame (l:=[.pointer (some ⟨b,0,none⟩),undef,undef,undef,undef,undef,undef,undef,undef,undef]) rfl]
 apply wpS_seq
 apply wpS_region
 simp[wpOpsS,go_sem,recoverD,hu,Exit.thenS,hta]
 refine wpS_of_wp ?_
 go_wp2
 exact⟨rfl,_,rfl,_,results_none rfl _ _ _,rfl,rfl,later_cells (Later.alloc _ _) (set_row (set_row H0.out 0 _) 1 _),grown_trans (only_trans (set_only _ _ _ _) (set_only _ _ _ _)) (later_some (Later.alloc _ _))⟩
theorem results3 {tmps:Array Value} {w:World} {r v f:Nat} {a b c d x y n t:Value} (h6:tmps.getD 6 undef=.pointer (some ⟨r,0,none⟩)) (h7:tmps.getD 7 undef=.pointer (some ⟨v,0,none⟩)) (h8:tmps.getD 8 undef=.pointer (some ⟨f,0,none⟩))
  (hR:w.heap[r]?=some (.cells #[a,b] 37 (0,0))) (hV:w.heap[v]?=some (.cells #[c,d,x,y] 28 (0,0))) (hF:w.heap[f]?=some (.cells #[n,t] 33 (0,0))):(results Tryz.f21 tmps).run Tryz.prog w=.ok (.tuple #[.agg #[a,b],.agg #[c,d,x,y],.agg #[n,t]]) w:=by
 rw[Array.getD_eq_getD_getElem?] at h6 h7 h8
 have r0:=(cell_row hR 0).1
 have r1:=(cell_row hR 1).1
 have v0:=(cell_row hV 0).1
 have v1:=(cell_row hV 1).1
 have v2:=(cell_row hV 2).1
 have v3:=(cell_row hV 3).1
 have f0:=(cell_row hF 0).1
 have f1:=(cell_row hF 1).1
 simp[results,Tryz.results21,go_sem,h6,h7,h8] at *
 simp[r0,r1,v0,v1,v2,v3,f0,f1]
theorem fail_end {tmps:Array Value} {w:World} {r v f:Nat} {a b c d x y n0 t0:Value} {n:Nat} {t:B} {K:Ending→World→Prop} (h6:tmps.getD 6 undef=.pointer (some ⟨r,0,none⟩)) (h7:tmps.getD 7 undef=.pointer (some ⟨v,0,none⟩)) (h8:tmps.getD 8 undef=.pointer (some ⟨f,0,none⟩))
  (hR:w.heap[r]?=some (.cells #[a,b] 37 (0,0))) (hV:w.heap[v]?=some (.cells #[c,d,x,y] 28 (0,0))) (hF:w.heap[f]?=some (.cells #[n0,t0] 33 (0,0))) (hrf:r≠f) (hvf:v≠f)
  (hK:∀ w',w.grownBy w' (some f)→K (.returned (.tuple #[.agg #[a,b],.agg #[c,d,x,y],.agg #[.int .i64 (n:Int),.string (mkS t)]])) w') :
  bodyPostD Tryz.prog Tryz.f21 K (Exit.panic (flt n t)) { tmps:=tmps,defers:=[{ target:=.fn (.func 45) #[.pointer (some ⟨f,0,none⟩)],args:=#[] }] } w:=by
 refine leaves_cons (f:=45) (args:=#[.pointer (some ⟨f,0,none⟩)]) (by simp) (by simp[go_sem]) ?_
 refine(catch_flt f n0 t0 (n:Int) (mkS t) [] w hF).mono ?_
 rintro r' u' w3 ⟨rfl,rfl,hf3,hg3⟩
 show ∃ v,(results Tryz.f21 _).run Tryz.prog w3=.ok v w3∧K (.returned v) w3
 exact⟨_,results3 h6 h7 h8 (grown_cells hg3 hR hrf) (grown_cells hg3 hV hvf) hf3,hK w3 hg3⟩
theorem good_end {tmps:Array Value} {w:World} {r v f:Nat} {a b c d x y n t:Value} {K:Ending→World→Prop} (h6:tmps.getD 6 undef=.pointer (some ⟨r,0,none⟩)) (h7:tmps.getD 7 undef=.pointer (some ⟨v,0,none⟩)) (h8:tmps.getD 8 undef=.pointer (some ⟨f,0,none⟩))
  (hR:w.heap[r]?=some (.cells #[a,b] 37 (0,0))) (hV:w.heap[v]?=some (.cells #[c,d,x,y] 28 (0,0))) (hF:w.heap[f]?=some (.cells #[n,t] 33 (0,0)))
  (hK:∀ w',Later w w'→K (.returned (.tuple #[.agg #[a,b],.agg #[c,d,x,y],.agg #[n,t]])) w') :
  bodyPostD Tryz.prog Tryz.f21 K Exit.ret { tmps:=tmps,defers:=[{ target:=.fn (.func 45) #[.pointer (some ⟨f,0,none⟩)],args:=#[] }] } w:=by
 refine leaves_cons (f:=45) (args:=#[.pointer (some ⟨f,0,none⟩)]) (by simp) (by simp[go_sem]) ?_
 refine(catch_idle _ w).mono ?_
 rintro r' u' w3 ⟨rfl,rfl,hl3⟩
 show ∃ v,(results Tryz.f21 _).run Tryz.prog w3=.ok v w3∧K (.returned v) w3
 exact⟨_,results3 h6 h7 h8 (later_cells hl3 hR) (later_cells hl3 hV) (later_cells hl3 hF),hK w3 hl3⟩
def ExR (W:World) (e:E) (res:Res) (x:Ending) (W':World):Prop:=match res with
 | .ok r e2=>(∃ v,x=.returned (.tuple #[rv r,v,.agg #[.int .i64 0,.string ⟨#[]⟩]])∧FrE W.heap.size W' v e2∧Sm e2=true∧Rises e2.vars)∧Later W W'
 | .bad n t=>(∃ v,x=.returned (.tuple #[rv [],v,.agg #[.int .i64 (n:Int),.string (mkS t)]])∧FrE W.heap.size W' v e)∧Later W W'
 | .big=>True
theorem expanded_v (va:Value) (e:E) (raw:B) (W:World) (h:RdE W va e) (hs:Sm e=true) (hu:Rises e.vars) (hd:Vd W) (hT0:Ar.Tb0 W) (hO:Ops W) (ho:4<W.heap.size) (hr:raw.length≤100000) (hb:word e raw≠.big):Calls Tryz.prog 21 #[va,.string (mkS raw),.func (.func 22) #[] #[]] W (ExR W e (word e raw)):=by
 have HTB0:=Lib.hid hT0
 clear hT0
 obtain⟨v0,A,n,c,rfl,hv,hr0,hc1,hc2⟩:=id h
 obtain⟨Av,cv,rfl,_⟩:=hv.le
 obtain⟨st,hst⟩:∃ st:Int,st=e.status:=⟨_,rfl⟩
 obtain⟨fl,hfl⟩:∃ fl,fl=mkS e.flags:=⟨_,rfl⟩
 obtain⟨nv,hnv⟩:∃ nv,nv=e.vars.length:=⟨_,rfl⟩
 have HST:=Lib.hid hst
 have HFL:=Lib.hid hfl
 rw[←hst,←hfl,←hnv] at h⊢
 obtain⟨W4,hW4⟩:∃ W4,W4=(((W.alloc (.cells #[.slice Av nv cv,.slice A n c,.int .i64 st,.string fl] 28)).alloc (.cells #[.string ⟨#[]⟩,.string ⟨#[]⟩] 37)).alloc (.cells #[.slice none 0 0,.slice none 0 0,.int .i64 0,.string ⟨#[]⟩] 28)).alloc (.cells #[.int .i64 0,.string ⟨#[]⟩] 33):=⟨_,rfl⟩
 have hl4:Later W W4:=by rw[hW4];exact(((Later.alloc _ _).trans (Later.alloc _ _)).trans (Later.alloc _ _)).trans (Later.alloc _ _)
 have HL4:=Lib.hid hl4
 have HS4:=Lib.hid (show W4.heap.size=W.heap.size+4 by rw[hW4];simp only[World.size_alloc])
 have HR4:=Lib.hid (show W4.heap[W.heap.size+1]?=some (.cells #[.string ⟨#[]⟩,.string ⟨#[]⟩] 37 (0,0)) by
  have:=heap_alloc_new (W.alloc (.cells #[.slice Av nv cv,.slice A n c,.int .i64 st,.string fl] 28)) (.cells #[.string ⟨#[]⟩,.string ⟨#[]⟩] 37)
  rw[World.size_alloc] at this
  rw[hW4]
  exact later_cells (Later.alloc _ _) (later_cells (Later.alloc _ _) this))
 have HV4:=Lib.hid (show W4.heap[W.heap.size+2]?=some (.cells #[.slice none 0 0,.slice none 0 0,.int .i64 0,.string ⟨#[]⟩] 28 (0,0)) by
  have:=heap_alloc_new ((W.alloc (.cells #[.slice Av nv cv,.slice A n c,.int .i64 st,.string fl] 28)).alloc (.cells #[.string ⟨#[]⟩,.string ⟨#[]⟩] 37)) (.cells #[.slice none 0 0,.slice none 0 0,.int .i64 0,.string ⟨#[]⟩] 28)
  simp only[World.size_alloc] at this
  rw[hW4]
  exact later_cells (Later.alloc _ _) this)
 have HF4:=Lib.hid (show W4.heap[W.heap.size+3]?=some (.cells #[.int .i64 0,.string ⟨#[]⟩] 33 (0,0)) by
  have:=heap_alloc_new (((W.alloc (.cells #[.slice Av nv cv,.slice A n c,.int .i64 st,.string fl] 28)).alloc (.cells #[.string ⟨#[]⟩,.string ⟨#[]⟩] 37)).alloc (.cells #[.slice none 0 0,.slice none 0 0,.int .i64 0,.string ⟨#[]⟩] 28)) (.cells #[.int .i64 0,.string ⟨#[]⟩] 33)
  simp only[World.size_alloc] at this
  rw[hW4]
  exact this)
 have HAN:=Lib.hid (anew_v _ e W4 (h.later hl4) hs)
 have HW4:=Lib.hid hW4
 have hmf:∀ (fn:Fn) (first cap:Array Value) (w:World),(Instr.makeFunc fn first cap).run Tryz.prog w=.ok (.func fn first cap) w:=fun _ _ _ _=>rfl
 have HPA:=Lib.hid (fun w (hl:Later W w)=>Ws.parse_v raw hr (hO.kept (hl.block _ ho)) (Nat.lt_of_lt_of_le ho hl.size))
 have HSM:=Lib.hid (And.intro hs (And.intro hu hd))
 have HB:=Lib.hid hb
 clear hv hr0 hc1 hc2 hst hfl hnv hl4 hW4 h hO ho hr hs hu hd hb
 go_enter_defers Tryz.func21,Tryz.ntmps21
 go_wp2_with (first
  |(go_at_call 44;rw[←HW4.out];(with_reducible refine HAN.out.mono ?_);rintro e1 w1 ⟨v1,rfl,hf1,hl1⟩;obtain⟨va1,A1,n1,c1,rfl,hp1,_⟩:=hf1.rd;obtain⟨Av1,cv1,rfl,_⟩:=hp1.le;have q:=later_cells hl1 HV4.out;have q0:=(cell_row q 0).1;have q1:=(cell_row q 1).1;have q2:=(cell_row q 2).1;have q3:=(cell_row q 3).1;have z:=fun i=>(cell_row q i).2;have HF1:=Lib.hid hf1;have HL1:=Lib.hid hl1;clear hf1 hl1 hp1))
 have hg2:=only_trans (only_trans (only_trans (set_only w1 (W.heap.size+1+1) 0 (.slice Av1 e.vars.length cv1)) (set_only _ (W.heap.size+1+1) 1 (.slice A1 n1 c1))) (set_only _ (W.heap.size+1+1) 2 (.int .i64 (e.status:Int)))) (set_only _ (W.heap.size+1+1) 3 (.string (mkS e.flags)))
 have hb2:=set_row (set_row (set_row (set_row q 0 (.slice Av1 e.vars.length cv1)) 1 (.slice A1 n1 c1)) 2 (.int .i64 (e.status:Int))) 3 (.string (mkS e.flags))
 obtain⟨w2,hw2⟩:∃ w2,w2=(((w1.setCell ⟨W.heap.size+1+1,0,none⟩ (.slice Av1 e.vars.length cv1)).setCell ⟨W.heap.size+1+1,1,none⟩ (.slice A1 n1 c1)).setCell ⟨W.heap.size+1+1,2,none⟩ (.int .i64 (e.status:Int))).setCell ⟨W.heap.size+1+1,3,none⟩ (.string (mkS e.flags)):=⟨_,rfl⟩
 rw[←hw2] at hg2 hb2⊢
 have hs4:=HS4.out
 have HV2:=Lib.hid (show w2.heap[W.heap.size+1+1]?=some (.cells #[.slice Av1 e.vars.length cv1,.slice A1 n1 c1,.int .i64 (e.status:Int),.string (mkS e.flags)] 28 (0,0)) from hb2)
 have HR2:=Lib.hid (grown_cells hg2 (later_cells HL1.out HR4.out) (by omega))
 have HF2:=Lib.hid (grown_cells hg2 (later_cells HL1.out HF4.out) (by omega))
 have HLW:=Lib.hid (later_of_new (HL4.out.trans HL1.out) hg2 (by omega))
 have HRD:=Lib.hid (HF1.out.set hg2 (by omega)).rd
 have HK2:=Lib.hid (HF1.out.set hg2 (show W.heap.size+1+1<W4.heap.size by omega))
 have HS24:=Lib.hid (show W4.heap.size≤w2.heap.size from Nat.le_trans HL1.out.size hg2.size)
 clear hw2 hg2 hb2 q q0 q1 q2 q3 z hs4
 obtain⟨y,hy⟩:∃ y,y=Wd.parse raw:=⟨_,rfl⟩
 have HPG:=Lib.hid (HPA.out w2 HLW.out)
 have HY:=Lib.hid (show word e raw=told e raw y by rw[hy];rfl)
 rw[←hy] at HPG
 clear hy
 by_cases hy2:y.2=0
 ·have HTO:=Lib.hid (show word e raw=rowD 10 e y.1 by rw[HY.out];unfold told;rw[if_neg (by rw[hy2];simp)])
  have hpg:=HPG.out
  unfold Ws.Pg at hpg
  rw[hy2] at hpg
  have HPG0:=Lib.hid (show Calls Tryz.prog 22 #[.string (mkS raw)] w2 fun x W'=>∃ v,x=.returned (.tuple #[v,.int .i64 0])∧PsAt W' (fun _=>True) v y.1∧Later w2 W' from hpg)
  have HRO:=Lib.hid (fun W=>refuse_ok raw W)
  have HNE:=Lib.hid (show rowD 10 e y.1≠.big from fun e9=>HB.out (by rw[HTO.out];exact e9))
  have HRR:=Lib.hid (fun r:Rw=>show rv r=.agg #[.string (mkS (ft r)),.string (mkS (fm r))] from rfl)
  clear hpg hy2
  cases hres:rowD 10 e y.1 with
  | big=>exact absurd hres HNE.out
  | bad en et=>
   have HRS:=Lib.hid hres
   clear hres
   go_wp2_with (first
    |(go_at_call 22;(with_reducible refine HPG0.out.mono ?_);rintro e3 w3 ⟨vp,rfl,hps,hl3⟩;(have hv3:=later_cells hl3 HV2.out);have c0:=(cell_row hv3 0).1;have c1:=(cell_row hv3 1).1;have c2:=(cell_row hv3 2).1;have c3:=(cell_row hv3 3).1;have HPS3:=Lib.hid hps;have HL3:=Lib.hid hl3;clear hps hl3 hv3)
    |(go_at_call 46;(with_reducible refine(HRO.out _).mono ?_);rintro e4 w4 ⟨rfl,rfl⟩)
    |(go_at_call 47;(have hap3:=Ap.later (Ap.of_fre (X:=fun k=>k<W4.heap.size) HK2.out fun k h=>h) HL3.out);(have hop:=open_v (fun k=>k<W4.heap.size) _ e _ hap3 (fun k hk=>Nat.lt_of_lt_of_le hk (Nat.le_trans HS24.out HL3.out.size)) HSM.out.1 HSM.out.2.1 (HSM.out.2.2.later (HLW.out.trans HL3.out)) (HTB0.out.later (HLW.out.trans HL3.out)));(with_reducible refine hop.mono ?_);clear hop hap3;rintro e5 w4 ⟨g5,m5,rfl,hge,hwt4,hl4⟩;have HGE:=Lib.hid hge;have HWT4:=Lib.hid hwt4;have HL4b:=Lib.hid hl4;have HPS4:=Lib.hid (ps_nb HPS3.out hl4 hge);clear hge hwt4 hl4)
    |(go_at_call 48;(have hrow:=row_ok 10 _ _ _ _ e _ y.1 HWT4.out HPS4.out HNE.out);rw[HRS.out] at hrow;(with_reducible refine hrow.mono ?_);rintro e5 w5 ⟨rfl,hg5⟩;have HG5:=Lib.hid hg5;clear hrow hg5))
   have hge:=HGE.out
   have hs3:=HL3.out.size
   have hlv:=lt_of_block HF2.out
   refine fail_end rfl rfl rfl (grown_cells HG5.out (later_cells HL4b.out (later_cells HL3.out HR2.out)) (by omega)) (grown_cells HG5.out (later_cells HL4b.out (later_cells HL3.out HV2.out)) (by omega)) (grown_cells HG5.out (later_cells HL4b.out (later_cells HL3.out HF2.out)) (by omega)) (by omega) (by omega) fun w' hw'=>?_
   rw[HTO.out,HRS.out]
   have hge2:w2.grownBy w5 (some g5):=grown_trans (later_some (HL3.out.trans HL4b.out)) HG5.out
   have hlW:Later W w':=by
    have h5:Later W w5:=⟨HG5.out.os.trans (HL4b.out.os.trans (HL3.out.os.trans HLW.out.os)),HG5.out.tape.trans (HL4b.out.tape.trans (HL3.out.tape.trans HLW.out.tape)),HG5.out.output.trans (HL4b.out.output.trans (HL3.out.output.trans HLW.out.output)),Nat.le_trans HLW.out.size hge2.size,fun k hk=>(hge2.block k (Nat.lt_of_lt_of_le hk HLW.out.size) (fun e=>by have:=Option.some.inj e;have:=HLW.out.size;omega)).trans (HLW.out.block k hk)⟩
    exact later_of_new h5 hw' (by omega)
   refine⟨⟨_,rfl,?_⟩,hlW⟩
   refine fun w'' z1 z2=>HK2.out w'' (Nat.le_trans (Nat.le_trans hge2.size hw'.size) z1) fun k hk hk2=>(z2 k (by have:=HS4.out;omega) (Nat.lt_of_lt_of_le hk2 (Nat.le_trans hge2.size hw'.size))).trans <| (hw'.block k (Nat.lt_of_lt_of_le hk2 hge2.size) (fun e=>by have:=Option.some.inj e;have:=HS4.out;omega)).trans (hge2.block k hk2 (fun e=>by have:=Option.some.inj e;omega))
  | ok r e2=>
   have HRS:=Lib.hid hres
   clear hres
   go_wp2_with (first
    |(go_at_call 22;(with_reducible refine HPG0.out.mono ?_);rintro e3 w3 ⟨vp,rfl,hps,hl3⟩;(have hv3:=later_cells hl3 HV2.out);have c0:=(cell_row hv3 0).1;have c1:=(cell_row hv3 1).1;have c2:=(cell_row hv3 2).1;have c3:=(cell_row hv3 3).1;have HPS3:=Lib.hid hps;have HL3:=Lib.hid hl3;clear hps hl3 hv3)
    |(go_at_call 46;(with_reducible refine(HRO.out _).mono ?_);rintro e4 w4 ⟨rfl,rfl⟩)
    |(go_at_call 47;(have hap3:=Ap.later (Ap.of_fre (X:=fun k=>k<W4.heap.size) HK2.out fun k h=>h) HL3.out);(have hop:=open_v (fun k=>k<W4.heap.size) _ e _ hap3 (fun k hk=>Nat.lt_of_lt_of_le hk (Nat.le_trans HS24.out HL3.out.size)) HSM.out.1 HSM.out.2.1 (HSM.out.2.2.later (HLW.out.trans HL3.out)) (HTB0.out.later (HLW.out.trans HL3.out)));(with_reducible refine hop.mono ?_);clear hop hap3;rintro e5 w4 ⟨g5,m5,rfl,hge,hwt4,hl4⟩;have HGE:=Lib.hid hge;have HWT4:=Lib.hid hwt4;have HL4b:=Lib.hid hl4;have HPS4:=Lib.hid (ps_nb HPS3.out hl4 hge);clear hge hwt4 hl4)
    |(go_at_call 48;(have hrow:=row_ok 10 _ _ _ _ e _ y.1 HWT4.out HPS4.out HNE.out);rw[HRS.out] at hrow;(with_reducible refine hrow.mono ?_);rintro e5 w5 ⟨rfl,hwt5,hg5⟩;rw[HRR.out];(have hr5:=grown_cells hg5 (later_cells HL4b.out (later_cells HL3.out HR2.out)) (by have:=HGE.out;have:=HL3.out.size;have:=lt_of_block HF2.out;omega));(have hv5:=grown_cells hg5 (later_cells HL4b.out (later_cells HL3.out HV2.out)) (by have:=HGE.out;have:=HL3.out.size;have:=lt_of_block HF2.out;omega));(have hf5:=grown_cells hg5 (later_cells HL4b.out (later_cells HL3.out HF2.out)) (by have:=HGE.out;have:=HL3.out.size;have:=lt_of_block HF2.out;omega));have r0:=(cell_row hr5 0).1;have r1:=(cell_row hr5 1).1;have zr:=fun i=>(cell_row hr5 i).2;have HR5:=Lib.hid hr5;have HV5:=Lib.hid hv5;have HF5:=Lib.hid hf5;have HWT5:=Lib.hid hwt5;have HG5:=Lib.hid hg5;clear hrow hg5 hwt5 hr5 hv5 hf5))
   have hg6:=only_trans (set_only w5 (W.heap.size+1) 0 (.string (mkS (ft r)))) (set_only _ (W.heap.size+1) 1 (.string (mkS (fm r))))
   have hr6:=set_row (set_row HR5.out 0 (.string (mkS (ft r)))) 1 (.string (mkS (fm r)))
   obtain⟨w6,hw6⟩:∃ w6,w6=(w5.setCell ⟨W.heap.size+1,0,none⟩ (.string (mkS (ft r)))).setCell ⟨W.heap.size+1,1,none⟩ (.string (mkS (fm r))):=⟨_,rfl⟩
   rw[←hw6] at hg6 hr6⊢
   have hge:=HGE.out
   have hs3:=HL3.out.size
   have hs4b:=HL4b.out.size
   have hlv:=lt_of_block HF2.out
   obtain⟨va5,aa5,hbx5,hap5⟩:=HWT5.out.bx
   obtain⟨va6,A6,n6,c6,e6,hp6,_⟩:=hap5.rd
   injection e6 with e6
   simp only[Array.mk.injEq,List.cons.injEq,and_true] at e6
   obtain⟨rfl,rfl⟩:=e6
   obtain⟨Av6,cv6,rfl,_⟩:=hp6.le
   have HBX6:=Lib.hid (grown_cells hg6 hbx5 (by omega))
   have hv6:=grown_cells hg6 HV5.out (by omega)
   have hf6:=grown_cells hg6 HF5.out (by omega)
   have HR6:=Lib.hid hr6
   have HV6:=Lib.hid hv6
   have HF6:=Lib.hid hf6
   have HG6:=Lib.hid hg6
   have HAP:=Lib.hid hap5
   obtain⟨st2,hst2⟩:∃ st2:Int,st2=e2.status:=⟨_,rfl⟩
   obtain⟨fl2,hfl2⟩:∃ fl2,fl2=mkS e2.flags:=⟨_,rfl⟩
   have HS2:=Lib.hid (And.intro hst2 hfl2)
   have g0:w6.cell? ⟨g5,0,none⟩=some (.slice Av6 e2.vars.length cv6):=(cell_row HBX6.out 0).1
   have g1:w6.cell? ⟨g5,1,none⟩=some (.slice A6 n6 c6):=(cell_row HBX6.out 1).1
   have g2:w6.cell? ⟨g5,2,none⟩=some (.int .i64 st2):=by rw[hst2];exact(cell_row HBX6.out 2).1
   have g3:w6.cell? ⟨g5,3,none⟩=some (.string fl2):=by rw[hfl2];exact(cell_row HBX6.out 3).1
   have p0:w6.cell? ⟨W.heap.size+1,0,none⟩=some (.string (mkS (ft r))):=(cell_row hr6 0).1
   have p1:w6.cell? ⟨W.heap.size+1,1,none⟩=some (.string (mkS (fm r))):=(cell_row hr6 1).1
   have pz:=fun i=>(cell_row hr6 i).2
   have v0:=(cell_row hv6 0).1
   have v1:=(cell_row hv6 1).1
   have v2:=(cell_row hv6 2).1
   have v3:=(cell_row hv6 3).1
   have vz:=fun i=>(cell_row hv6 i).2
   have f0:=(cell_row hf6 0).1
   have f1:=(cell_row hf6 1).1
   have fz:=fun i=>(cell_row hf6 i).2
   clear r0 r1 zr hw6 hr6 hv6 hf6 hg6 hbx5 hap5 hp6 hst2 hfl2
   go_region
   go_wp2
   have hga:=only_trans (set_only w6 (W.heap.size+1) 0 (.string (mkS (ft r)))) (set_only _ (W.heap.size+1) 1 (.string (mkS (fm r))))
   have hra:=set_row (set_row HR6.out 0 (.string (mkS (ft r)))) 1 (.string (mkS (fm r)))
   obtain⟨wa,hwa⟩:∃ wa,wa=(w6.setCell ⟨W.heap.size+1,0,none⟩ (.string (mkS (ft r)))).setCell ⟨W.heap.size+1,1,none⟩ (.string (mkS (fm r))):=⟨_,rfl⟩
   rw[←hwa] at hga hra⊢
   have hgb:=only_trans (only_trans (only_trans (set_only wa (W.heap.size+1+1) 0 (.slice Av6 e2.vars.length cv6)) (set_only _ (W.heap.size+1+1) 1 (.slice A6 n6 c6))) (set_only _ (W.heap.size+1+1) 2 (.int .i64 st2))) (set_only _ (W.heap.size+1+1) 3 (.string fl2))
   have hvb:=set_row (set_row (set_row (set_row (grown_cells hga HV6.out (by omega)) 0 (.slice Av6 e2.vars.length cv6)) 1 (.slice A6 n6 c6)) 2 (.int .i64 st2)) 3 (.string fl2)
   obtain⟨wb,hwb⟩:∃ wb,wb=(((wa.setCell ⟨W.heap.size+1+1,0,none⟩ (.slice Av6 e2.vars.length cv6)).setCell ⟨W.heap.size+1+1,1,none⟩ (.slice A6 n6 c6)).setCell ⟨W.heap.size+1+1,2,none⟩ (.int .i64 st2)).setCell ⟨W.heap.size+1+1,3,none⟩ (.string fl2):=⟨_,rfl⟩
   rw[←hwb] at hgb hvb⊢
   have hgc:=only_trans (set_only wb (W.heap.size+1+1+1) 0 (.int .i64 0)) (set_only _ (W.heap.size+1+1+1) 1 (.string ⟨#[]⟩))
   have hfc:=set_row (set_row (grown_cells hgb (grown_cells hga HF6.out (by omega)) (by omega)) 0 (.int .i64 0)) 1 (.string ⟨#[]⟩)
   obtain⟨wc,hwc⟩:∃ wc,wc=((wb.setCell ⟨W.heap.size+1+1+1,0,none⟩ (.int .i64 0)).setCell ⟨W.heap.size+1+1+1,1,none⟩ (.string ⟨#[]⟩)).drew:=⟨_,rfl⟩
   have hgd:=grown_trans hgc (later_some (Later.drew _))
   have hfd:=later_cells (Later.drew _) hfc
   rw[←hwc] at hgd hfd⊢
   clear hwa hwb hwc
   refine good_end rfl rfl rfl (grown_cells hgd (grown_cells hgb hra (by omega)) (by omega)) (grown_cells hgd hvb (by omega)) hfd fun w' hl'=>?_
   rw[HTO.out,HRS.out]
   have hge2:w2.grownBy w5 (some g5):=grown_trans (later_some (HL3.out.trans HL4b.out)) HG5.out
   have h5:Later W w5:=⟨HG5.out.os.trans (HL4b.out.os.trans (HL3.out.os.trans HLW.out.os)),HG5.out.tape.trans (HL4b.out.tape.trans (HL3.out.tape.trans HLW.out.tape)),HG5.out.output.trans (HL4b.out.output.trans (HL3.out.output.trans HLW.out.output)),Nat.le_trans HLW.out.size hge2.size,fun k hk=>(hge2.block k (Nat.lt_of_lt_of_le hk HLW.out.size) (fun e=>by have:=Option.some.inj e;have:=HLW.out.size;omega)).trans (HLW.out.block k hk)⟩
   have hs4:=HS4.out
   have hlW:Later W w':=(later_of_new (later_of_new (later_of_new (later_of_new h5 HG6.out (by omega)) hga (by omega)) hgb (by omega)) hgd (by omega)).trans hl'
   refine⟨⟨_,rfl,?_,HWT5.out.sm,HWT5.out.up⟩,hlW⟩
   obtain⟨q1,q2⟩:=HS2.out
   rw[q1,q2]
   have hszz:=(Nat.le_trans HG6.out.size (Nat.le_trans hga.size (Nat.le_trans hgb.size (Nat.le_trans hgd.size hl'.size))))
   refine fun w'' z1 z2=>HAP.out w'' (Nat.le_trans hszz z1) fun k hk hk2=>?_
   have hk3:¬ k<W4.heap.size:=fun h=>hk2 (.inl h)
   have z6:=HG6.out.block k hk (fun e=>by have:=Option.some.inj e;omega)
   have za:=hga.block k (Nat.lt_of_lt_of_le hk HG6.out.size) (fun e=>by have:=Option.some.inj e;omega)
   have zb:=hgb.block k (Nat.lt_of_lt_of_le hk (Nat.le_trans HG6.out.size hga.size)) (fun e=>by have:=Option.some.inj e;omega)
   have zd:=hgd.block k (Nat.lt_of_lt_of_le hk (Nat.le_trans HG6.out.size (Nat.le_trans hga.size hgb.size))) (fun e=>by have:=Option.some.inj e;omega)
   have zl:=hl'.block k (Nat.lt_of_lt_of_le hk (Nat.le_trans HG6.out.size (Nat.le_trans hga.size (Nat.le_trans hgb.size hgd.size))))
   exact(z2 k (by omega) (Nat.lt_of_lt_of_le hk hszz)).trans (zl.trans (zd.trans (zb.trans (za.trans z6))))
 ·have HTO:=Lib.hid (show word e raw=.bad y.2 raw by rw[HY.out];unfold told;rw[if_pos hy2])
  have HRB:=Lib.hid (fun W=>refuse_bad y.2 hy2 raw W)
  clear hy2
  go_wp2_with (first
   |(go_at_call 22;(with_reducible refine HPG.out.mono ?_);rintro e2 w3 ⟨vp,rfl,_,hl3⟩;have HL3:=Lib.hid hl3;clear hl3)
   |(go_at_call 46;(with_reducible refine(HRB.out _).mono ?_);rintro e3 w4 ⟨rfl,rfl⟩))
  refine fail_end rfl rfl rfl (later_cells HL3.out HR2.out) (later_cells HL3.out HV2.out) (later_cells HL3.out HF2.out) (by omega) (by omega) fun w' hw'=>?_
  rw[HTO.out]
  refine⟨⟨_,rfl,?_⟩,later_of_new (HLW.out.trans HL3.out) hw' (by omega)⟩
  refine fun w'' z1 z2=>HK2.out w'' (Nat.le_trans (Nat.le_trans HL3.out.size hw'.size) z1) fun k hk hk2=>(z2 k (by have:=HS4.out;omega) (Nat.lt_of_lt_of_le hk2 (Nat.le_trans HL3.out.size hw'.size))).trans <| (hw'.block k (Nat.lt_of_lt_of_le hk2 HL3.out.size) (fun e=>by have:=Option.some.inj e;have:=HS4.out;omega)).trans (HL3.out.block k hk2)
end Ey
end Go.Proofs.YtipdgmjplnibeaaGreatDoor
