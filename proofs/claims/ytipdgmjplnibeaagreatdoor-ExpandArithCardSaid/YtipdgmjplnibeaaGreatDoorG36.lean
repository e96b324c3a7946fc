import Derived.Test.YtipdgmjplnibeaaGreatDoorG35
import Derived.Test.YtipdgmjplnibeaaGreatDoorG31
set_option maxRecDepth 100000
set_option maxHeartbeats 3200000
namespace Go.Proofs.YtipdgmjplnibeaaGreatDoor
open Go.RowKit Go.Maps
set_option maxRecDepth 100000
theorem entO {f:FuncId} {fn:Func} {c:Code} (hf:Tryz.prog.funcs[f]?=some fn) (hname:(fn.name== "runtime.NumGoroutine")=false) (hb:fn.body=some c):∀ args w,(callFunc f args).run Tryz.prog w=.ok (.enter f args) w:=fun args w=>run_enter hf hname hb args w
theorem wp_callN {P:Program} {o:Oper} {a:Act} {w:World} {K:Act→World→Prop} {Q:Exit→Act→World→Prop} (f:FuncId) (xs:Array Operand) (ats:Array TypeId) (vals:Array Value) (hop:o.op=.call { callee:=.value (.func f),args:=xs,argTypes:=ats }) (hρ:a.eval (.func f)=.func (.func f) #[] #[]) (hv:xs.map a.eval=vals) (hent:∀ args w,(callFunc f args).run P w=.ok (.enter f args) w)
  (h:Calls P f vals w fun e w'=>∃ v,e=.returned v∧K (a.put o.dst v) w'):Oper.wp P o a w K Q:=by
 have e1:execOp a.eval o=callFunc f vals:=by
  subst hv
  unfold execOp
  simp[hop,resolve,Deferred.ofValue,invoke,hρ]
 unfold Oper.wp
 rw[e1,hent]
 refine h.mono fun e w' hh=>?_
 obtain⟨v,rfl,hk⟩:=hh
 exact hk
namespace Ws
section
variable {W W':World} {X T:Nat→Prop} {g s dp:Nat} {raw:L} {r:Wd.R} {x x':Wd.S} {br:Wd.S→Wd.P×Wd.S}
theorem later_drew (W:World):Later W W.drew:=Later.drew W
theorem RMv_more {v:Value} {ps:List Wd.P} (h:RMv W X g s raw dp r x v ps) (hl:Later W W') (l:List Nat) (hb:∀ b∈l,W.heap.size≤b∧b<W'.heap.size):RMv W' (plus X l) g s raw dp r x v ps:=by
 obtain⟨T,⟨vp,vt,nd,h⟩,h2⟩:=h
 exact⟨T,⟨vp,vt,nd,h.more hl l hb⟩,h2.kept hl.size (fun b _ hlt=>hl.block b hlt) fun _ hb=>hb⟩
theorem keep_v {rb:Nat} {v:Value} {ps:List Wd.P} (h:RMv W (plus X [rb]) g s raw dp r x v ps) (hg:W.grownBy W' (some rb)) (ho:rb≠4):RMv W' (plus X [rb]) g s raw dp r x v ps:=by
 obtain⟨T,⟨vp,vt,nd,h⟩,h2⟩:=h
 have hp:plus X [rb] rb:=.inr (by simp)
 have ne:∀ b,¬ plus X [rb] b→some b≠some rb:=fun b hb e=>by injection e with e;exact hb (by rw[e];exact hp)
 have hk:∀ b,T b→b<W.heap.size→W'.heap[b]?=W.heap[b]?:=fun b hT hlt=>hg.block b hlt (ne b fun hb=>h.xt b hb hT)
 have row:∀ {base size n:Nat} {e:TypeId} {v:Value} {xs:List Value},W.ownsRow base e size v n xs→(∀ b,v.ownBlock=some b→¬ plus X [rb] b)→W'.ownsRow base e size v n xs:=fun {base size n e v xs} h1 h3=>h1.kept hg (by
  cases e1:v.ownBlock with
  | none=>exact .inl rfl
  | some b=>exact .inr (ne b (h3 b e1)))
 exact⟨T,⟨vp,vt,nd,(hg.block g h.lt (ne g h.gX)).trans h.box,h.src.kept hg (ne s h.sX),h.gX,h.sX,h.gT,h.sT,row h.txt h.tX,h.tX,h.tT,row h.row h.pX,h.pX,h.pT,h.ps,tree_kept h.tree hg.size hk,h.kk,h.xl.mono hg.size,h.tl.mono hg.size,h.xt,h.og,h.op.kept (hg.block _ (h.xl _ h.og) (fun e=>ho (by injection e with e;exact e.symm)))⟩,h2.kept hg.size hk fun _ hb=>hb⟩
theorem dollar_v (hb:BrOk dp br) (h:RM W X g s raw dp r x) (k:Nat) (kv:Int) (hkv:kv=(k:Int)) (hk:k≤9) (hlen:r.ps.length+r.t.length≤1000000):Calls Tryz.prog 85 #[.pointer (some ⟨g,0,none⟩),.int .i64 kv] W (Rt W X g s raw dp (Wd.dollar br k (r,x)).1 (Wd.dollar br k (r,x)).2 (.tuple #[])):=by
 have HV:=Lib.hid (value_v hb h)
 have HX:=Lib.hid h.xl
 have HOG:=Lib.hid h.og
 obtain⟨p,hp⟩:∃ p,p=(Wd.value br x).1:=⟨_,rfl⟩
 obtain⟨y,hy⟩:∃ y,y=(Wd.value br x).2:=⟨_,rfl⟩
 have hd:Wd.dollar br k (r,x)=if p.k=0 then (Wd.put k [36] r,y) else (Wd.add (.mk p.k p.t p.o (decide (k=2)) p.w) r,y):=by rw[hp,hy];rfl
 rw[hd]
 unfold Rp at HV
 rw[←hp,←hy] at HV
 have HLN:=Lib.hid hlen
 have HK:=Lib.hid hk
 have HKV:=Lib.hid hkv
 clear hb h hd hp hy hlen hk hkv
 by_cases h0:p.k=0
 ·rw[if_pos h0]
  have hk0:((p.k:Int)==0)=true:=by simp[h0]
  clear h0
  go_enter Tryz.func85,Tryz.ntmps85
  go_wp2_with (first
   |(go_at_call 118;(with_reducible refine HV.out.mono ?_);rintro e w1 ⟨vw,rfl,h1,f1⟩;obtain⟨A1,n1,c1,rfl⟩:=RMv_shape h1;have H1:=Lib.hid h1;have F1:=Lib.hid f1;clear h1 f1)
   |(refine wpList_allocO 4 rfl rfl 105 rfl _ 5 info_part ?_;intro w2 hb2 hl2 hsz2;have h2:=RMv_more H1.out hl2 [w1.heap.size] (by intro b hb;simp at hb;subst hb;omega);have HNX:=Lib.hid (show ¬ X w1.heap.size from fun e=>by have:=H1.out.rm.xl _ e;omega);have HNG:=Lib.hid (show w1.heap.size≠4 from fun e=>by have:=H1.out.rm.xl _ HOG.out;omega);have H2:=Lib.hid h2;have HL2:=Lib.hid hl2;have HB2:=Lib.hid hb2;clear h2 hl2 hb2 hsz2)
   |(refine wpList_storeO rfl 105 (.tmp 4) (.tmp 6) rfl w1.heap.size _ _ rfl rfl HB2.out size_part rfl (by first | rfl | (simp[Value.oneCell'];done)) ?_;intro w3 hb3 hg3 hs3;have h3:=keep_v H2.out hg3 HNG.out;have c30:=(cell_row hb3 0).1;have c33:=(cell_row hb3 3).1;have cz3:=(cell_row hb3 3).2;have FB3:=Lib.hid ((Fr.later (X:=X) HL2.out).trans (Fr.grown hg3 fun b e=>by injection e with e;rw[←e];exact HNX.out));have H3:=Lib.hid h3;have HB3:=Lib.hid hb3;clear h3 hb3 hg3 hs3)
   |(go_at_call 82;(with_reducible refine(put_r (H3.out.rm.less HOG.out) k kv HKV.out HK.out [36] ⟨#[36]⟩ rfl (by have:=HLN.out;simp;omega)).mono ?_);rintro e w4 ⟨rfl,h4,f4⟩))
  go_end0
  exact⟨rfl,h4,F1.out.trans (FB3.out.trans f4)⟩
 ·rw[if_neg h0]
  have hk0:((p.k:Int)==0)=false:=by simp;omega
  have hkq:(kv==2)=decide (k=2):=by rw[HKV.out,Bool.eq_iff_iff];simp;omega
  clear h0
  go_enter Tryz.func85,Tryz.ntmps85
  go_wp2_with (first
   |(go_at_call 118;(with_reducible refine HV.out.mono ?_);rintro e w1 ⟨vw,rfl,h1,f1⟩;obtain⟨A1,n1,c1,rfl⟩:=RMv_shape h1;have H1:=Lib.hid h1;have F1:=Lib.hid f1;clear h1 f1)
   |(refine wpList_allocO 4 rfl rfl 105 rfl _ 5 info_part ?_;intro w2 hb2 hl2 hsz2;have h2:=RMv_more H1.out hl2 [w1.heap.size] (by intro b hb;simp at hb;subst hb;omega);have HNX:=Lib.hid (show ¬ X w1.heap.size from fun e=>by have:=H1.out.rm.xl _ e;omega);have HNG:=Lib.hid (show w1.heap.size≠4 from fun e=>by have:=H1.out.rm.xl _ HOG.out;omega);have H2:=Lib.hid h2;have HL2:=Lib.hid hl2;have HB2:=Lib.hid hb2;clear h2 hl2 hb2 hsz2)
   |(refine wpList_storeO rfl 105 (.tmp 4) (.tmp 6) rfl w1.heap.size _ _ rfl rfl HB2.out size_part rfl (by first | rfl | (simp[Value.oneCell'];done)) ?_;intro w3 hb3 hg3 hs3;have h3:=keep_v H2.out hg3 HNG.out;have c30:=(cell_row hb3 0).1;have c33:=(cell_row hb3 3).1;have cz3:=(cell_row hb3 3).2;have FB3:=Lib.hid ((Fr.later (X:=X) HL2.out).trans (Fr.grown hg3 fun b e=>by injection e with e;rw[←e];exact HNX.out));have H3:=Lib.hid h3;have HB3:=Lib.hid hb3;clear h3 hb3 hg3 hs3))
  have HB5:=Lib.hid (show (w3.setCell ⟨w1.heap.size,3,none⟩ (.bool (decide (k=2)))).heap[w1.heap.size]?=some (.cells #[.int .i64 (p.k:Int),.string (mkS p.t),.string (mkS p.o),.bool (decide (k=2)),.slice A1 n1 c1] 105 (0,0)) from set_row HB3.out 3 _)
  have h5:=other H3.out HOG.out HNX.out (set_only w3 w1.heap.size 3 (.bool (decide (k=2))))
  have f5:Fr X w1 (w3.setCell ⟨w1.heap.size,3,none⟩ (.bool (decide (k=2)))):=FB3.out.trans (Fr.grown (set_only w3 w1.heap.size 3 _) fun b e=>by injection e with e;rw[←e];exact HNX.out)
  obtain⟨W5,hW5⟩:∃ W5,W5=w3.setCell ⟨w1.heap.size,3,none⟩ (.bool (decide (k=2))):=⟨_,rfl⟩
  rw[←hW5] at HB5 h5 f5
  obtain⟨PC,hPC⟩:∃ PC:Array Value,PC=#[.int .i64 (p.k:Int),.string (mkS p.t),.string (mkS p.o),.bool (decide (k=2)),.slice A1 n1 c1]:=⟨_,rfl⟩
  rw[←hPC] at HB5
  have HADD:=Lib.hid (add_r (p:=.mk p.k p.t p.o (decide (k=2)) p.w) (h5.later (later_drew W5)) PC hPC (by have:=HLN.out;omega))
  have HF5:=Lib.hid f5
  have HW5:=Lib.hid hW5
  obtain⟨C0,hC0⟩:∃ C0:Nat→Value→World→Prop,C0=fun j u w=>(j=0∧w=W5.drew)∨(j=1∧Rt W5.drew X g s raw dp (Wd.add (.mk p.k p.t p.o (decide (k=2)) p.w) r) y (.tuple #[]) (.returned (.tuple #[])) w):=⟨_,rfl⟩
  have HA:=Lib.hid (show ∀ j u w,C0 j u w→j≤0→w=W5.drew from fun j u w hc hj=>by
   rw[hC0] at hc
   rcases hc with⟨_,e⟩ | ⟨e,_⟩
   ·exact e
   ·omega)
  have HC0:=Lib.hid (show C0 0 undef W5.drew by rw[hC0];exact .inl ⟨rfl,rfl⟩)
  have H9:=Lib.hid (show ∀ u w,Rt W5.drew X g s raw dp (Wd.add (.mk p.k p.t p.o (decide (k=2)) p.w) r) y (.tuple #[]) (.returned (.tuple #[])) w→C0 1 u w from fun u w h=>by rw[hC0];exact .inr ⟨rfl,h⟩)
  have HE:=Lib.hid (show ∀ u w,C0 1 u w→Rt W5.drew X g s raw dp (Wd.add (.mk p.k p.t p.o (decide (k=2)) p.w) r) y (.tuple #[]) (.returned (.tuple #[])) w from fun u w hc=>by
   rw[hC0] at hc
   rcases hc with⟨e,_⟩ | ⟨_,e⟩
   ·omega
   ·exact e)
  have HPS:=Lib.hid (show PC.size=5 by rw[hPC];rfl)
  clear hC0 hPC h5 f5 hW5
  rw[←HW5.out]
  refine wp_region_seq (by kernel_rfl) [4] (C0) [some (.pointer (some ⟨g,0,none⟩)),some (.pointer (some ⟨g,0,none⟩)),some (.pointer (some ⟨g,0,none⟩)),some (.agg PC),some (.tuple #[])] (by decide) (by decide) (by kernel_rfl) (by kernel_rfl) (HC0.out) ?_ ?_
  ·refine⟨?_,?_,?_,?_,?_,trivial⟩
   ·
    refine OwesS.q rfl fun a w j u hC hb hs=>⟨rfl,?_⟩
    have e0:a.tmps.getD 0 undef=.pointer (some ⟨g,0,none⟩):=hs.free 0 rfl
    refine ValWp.pure (v:=.pointer (some ⟨g,0,none⟩)) (fun K' hK'=>?_) ⟨rfl,rfl⟩
    simp only[ValWp,execOp,Act.eval,e0]
    go_simp
    all_goals exact hK'
   ·
    refine OwesS.q rfl fun a w j u hC hb hs=>⟨rfl,?_⟩
    have e18:a.tmps.getD 18 undef=.pointer (some ⟨g,0,none⟩):=hs.dep 0 _ rfl rfl
    refine ValWp.pure (v:=.pointer (some ⟨g,0,none⟩)) (fun K' hK'=>?_) ⟨rfl,rfl⟩
    simp only[ValWp,execOp,Act.eval,e18]
    go_simp
    all_goals exact hK'
   ·
    refine OwesS.q rfl fun a w j u hC hb hs=>⟨rfl,?_⟩
    have e19:a.tmps.getD 19 undef=.pointer (some ⟨g,0,none⟩):=hs.dep 1 _ rfl rfl
    refine ValWp.pure (v:=.pointer (some ⟨g,0,none⟩)) (fun K' hK'=>?_) ⟨rfl,rfl⟩
    simp only[ValWp,execOp,Act.eval,e19]
    go_simp
    all_goals exact hK'
   ·
    refine OwesS.q rfl fun a w j u hC hb hs=>⟨rfl,?_⟩
    have e4:a.tmps.getD 4 undef=.pointer (some ⟨w1.heap.size,0,none⟩):=hs.free 4 rfl
    have hw:=HA.out j u w hC (hb 0 4 rfl rfl)
    subst hw
    exact ValWp.loadR rfl e4 (loadO_run _ _ _ _ (later_cells (later_drew W5) HB5.out) Tryz.underlying105 rfl (by rw[HPS.out];exact size_part)) ⟨rfl,rfl⟩
   ·
    refine OwesS.w rfl fun a w u hC hl hs=>⟨rfl,fun K hK=>?_⟩
    have e20:a.tmps.getD 20 undef=.pointer (some ⟨g,0,none⟩):=hs.dep 2 _ rfl rfl
    have e21:a.tmps.getD 21 undef=.agg PC:=hs.dep 3 _ rfl rfl
    have hw:=HA.out 0 u w hC (Nat.le_refl _)
    subst hw
    refine wp_callN 52 _ _ #[.pointer (some ⟨g,0,none⟩),.agg PC] rfl rfl (by simp only[List.map_toArray,List.map_cons,List.map_nil,Act.eval,e20,e21]) (entO Tryz.func52 rfl rfl) ?_
    refine HADD.out.mono ?_
    rintro e w9 ⟨rfl,h9,f9⟩
    exact⟨_,rfl,hK _ w9 rfl (H9.out _ w9 ⟨rfl,h9,f9⟩)⟩
  ·intro a w u hC hl hd hsz hfree hs
   obtain⟨z0,u1,u2,u3,u4,u5,u6,u7,u8,u9,u10,u11,u12,u13,u14,u15,u16,u17,u18,u19,u20,u21,u22,hal⟩:=lets a 23 0
   obtain rfl:=hal.on (v:=.pointer (some ⟨g,0,none⟩)) 0 (hfree 0 rfl) rfl
   have hlit:=fun h=>act_lit hd h hal
   rw[hlit hsz]
   clear hlit hal hd hsz hfree hs
   have h9:=HE.out u w hC
   go_wp2
   go_end0
   exact⟨rfl,h9.2.1,F1.out.trans (HF5.out.trans ((Fr.later (later_drew W5)).trans h9.2.2))⟩
theorem cont_one (l:L) (c:UInt8) (W:World):Calls Tryz.prog 148 #[.string (mkS l),.string (mkS [c])] W fun e W'=>e=.returned (.bool (l.contains c))∧W'=W:=by
 have:=Tryz.strings_Contains_one (mkS l) c W
 rw[mkS_list,index_has] at this
 exact this
theorem cont_nil (l:L) (W:World):Calls Tryz.prog 148 #[.string (mkS l),.string (mkS [])] W fun e W'=>e=.returned (.bool true)∧W'=W:=by
 have hs:(mkS []).size=0:=rfl
 go_enter Tryz.func148,Tryz.ntmps148
 go_wp2
 go_ret
 exact⟨rfl,rfl⟩
def bare (B b:L):Bool:=match b with
 | []=>true
 | c::_=>B.contains c
theorem cont_r (h:RM W X g s raw dp r x) (B:L) (Bs:ByteArray) (hB:Bs=mkS B) (b:L) (hb:b.length≤1):Calls Tryz.prog 148 #[.string Bs,.string (mkS b)] W (Rt W X g s raw dp r x (.bool (bare B b))):=by
 subst hB
 match b,hb with
 | [],_=>exact lift_l h ((cont_nil B W).mono fun _ _ ⟨e1,e2⟩=>⟨e1,by rw[e2];exact Later.refl W⟩)
 | [c],_=>exact lift_l h ((cont_one B c W).mono fun _ _ ⟨e1,e2⟩=>⟨e1,by rw[e2];exact Later.refl W⟩)
theorem bare_iff (B b:L) (hb:b.length≤1):(b=[]∨∃ u∈B,b=[u])↔bare B b=true:=by
 match b,hb with
 | [],_=>simp[bare]
 | [c],_=>simp[bare]
theorem next_cons {c:UInt8} {t:L} (hx:x.l=c::t):Wd.next x=([c],⟨t,x.e⟩):=by unfold Wd.next;rw[hx]
theorem content_bs {t B:L} (hx:x.l=92::t):Wd.content br B (r,x)=if bare B (Wd.next ⟨t,x.e⟩).1=true then (Wd.put 2 (Wd.next ⟨t,x.e⟩).1 r,(Wd.next ⟨t,x.e⟩).2) else (Wd.put 2 ([92]++(Wd.next ⟨t,x.e⟩).1) r,(Wd.next ⟨t,x.e⟩).2):=by
 unfold Wd.content
 simp only[next_cons hx,if_true]
 have:=bare_iff B (Wd.next ⟨t,x.e⟩).1 (Wd.next_len _).2.1
 by_cases h:bare B (Wd.next ⟨t,x.e⟩).1=true
 ·rw[if_pos h,if_pos (this.2 h)]
 ·rw[if_neg h,if_neg fun e=>h (this.1 e)]
theorem content_dl {t B:L} (hx:x.l=36::t):Wd.content br B (r,x)=Wd.dollar br 2 (r,⟨t,x.e⟩):=by
 unfold Wd.content
 simp only[next_cons hx]
 simp
theorem content_bq {t B:L} (hx:x.l=96::t):Wd.content br B (r,x)=(r,Wd.fail 11 ⟨t,x.e⟩):=by
 unfold Wd.content
 simp only[next_cons hx]
 simp
theorem content_el {c:UInt8} {t B:L} (hx:x.l=c::t) (h1:c≠92) (h2:c≠36) (h3:c≠96):Wd.content br B (r,x)=(Wd.put 2 [c] r,⟨t,x.e⟩):=by
 unfold Wd.content
 simp only[next_cons hx]
 simp[h1,h2,h3]
theorem next_eq (h:RM W X g s raw dp r x) {c:UInt8} {t:L} (hx:x.l=c::t):Calls Tryz.prog 81 #[.pointer (some ⟨s,0,none⟩)] W (Rt W X g s raw dp r ⟨t,x.e⟩ (.string (mkS [c]))):=by
 have:=next_r h
 rw[next_cons hx] at this
 exact this
theorem content_v (hb:BrOk dp br) (h:RM W X g s raw dp r x) (B:L) (Bs:ByteArray) (hB:Bs=mkS B) (hlen:r.ps.length+r.t.length≤1000000) (hne:x.l≠[]):Calls Tryz.prog 117 #[.pointer (some ⟨g,0,none⟩),.string Bs] W (Rt W X g s raw dp (Wd.content br B (r,x)).1 (Wd.content br B (r,x)).2 (.tuple #[])):=by
 obtain⟨c,t,hx⟩:∃ c t,x.l=c::t:=by
  cases hl:x.l with
  | nil=>exact absurd hl hne
  | cons c t=>exact⟨c,t,rfl⟩
 obtain⟨⟨d3,d4⟩,dz⟩:=h.facts
 have HN:=Lib.hid (next_eq h hx)
 have HBR:=Lib.hid hb
 have HBS:=Lib.hid hB
 have HLN:=Lib.hid hlen
 have h92:=tok_eq c 92
 have h36:=tok_eq c 36
 have h96:=tok_eq c 96
 clear h hb hB hlen hne
 by_cases e92:c=92
 ·rw[decide_eq_true e92] at h92
  rw[content_bs (by rw[hx,e92])]
  have hn2:=fun (W1:World) (h1:RM W1 X g s raw dp r ⟨t,x.e⟩)=>next_r h1
  have hbl:=(Wd.next_len ⟨t,x.e⟩).2.1
  obtain⟨b,hbd⟩:∃ b,b=(Wd.next ⟨t,x.e⟩).1:=⟨_,rfl⟩
  obtain⟨y,hyd⟩:∃ y,y=(Wd.next ⟨t,x.e⟩).2:=⟨_,rfl⟩
  rw[←hbd,←hyd] at hn2⊢
  rw[←hbd] at hbl
  have HN2:=Lib.hid hn2
  have HBL:=Lib.hid hbl
  have HC:=Lib.hid e92
  have hz1:¬ 9223372036854775807<(mkS [c]).size+(mkS b).size:=by rw[mkS_size,mkS_size];simp;omega
  have hcat:mkS [c]++mkS b=mkS ([92]++b):=by rw[mkS_add,e92]
  have HCT:=Lib.hid hcat
  clear hbd hyd hn2 hbl hx e92 h36 h96 hcat
  cases hbr:bare B b with
  | true=>
   rw[if_pos rfl]
   have HB:=Lib.hid hbr
   clear hbr
   go_enter Tryz.func117,Tryz.ntmps117
   go_wp2_with (first
    |(go_at_call 81;(with_reducible refine(HN.out).mono ?_);rintro e w1 ⟨rfl,h1,f1⟩;obtain⟨⟨d3x1,d4x1⟩,dzx1⟩:=h1.facts;have H1:=Lib.hid h1;have F1:=Lib.hid f1;clear h1 f1)
    |(go_at_call 81;(with_reducible refine(HN2.out w1 H1.out).mono ?_);rintro e w2 ⟨rfl,h2,f2⟩;obtain⟨⟨d3x2,d4x2⟩,dzx2⟩:=h2.facts;have H2:=Lib.hid h2;have F2:=Lib.hid f2;clear h2 f2)
    |(go_at_call 148;have hc9:=cont_r H2.out B _ HBS.out b HBL.out;rw[HB.out] at hc9;(with_reducible refine hc9.mono ?_);clear hc9;rintro e w3 ⟨rfl,h3,f3⟩;obtain⟨⟨d3x3,d4x3⟩,dzx3⟩:=h3.facts;have H3:=Lib.hid h3;have F3:=Lib.hid f3;clear h3 f3)
    |(go_at_call 82;(with_reducible refine(put_r H3.out 2 2 rfl (by omega) b _ rfl (by have:=HLN.out;have:=HBL.out;omega)).mono ?_);rintro e w4 ⟨rfl,h4,f4⟩;obtain⟨⟨d3x4,d4x4⟩,dzx4⟩:=h4.facts;have H4:=Lib.hid h4;have F4:=Lib.hid f4;clear h4 f4))
   go_end0
   exact⟨rfl,H4.out,F1.out.trans (F2.out.trans (F3.out.trans F4.out))⟩
  | false=>
   rw[if_neg (by simp)]
   have HB:=Lib.hid hbr
   clear hbr
   go_enter Tryz.func117,Tryz.ntmps117
   go_wp2_with (first
    |(go_at_call 81;(with_reducible refine(HN.out).mono ?_);rintro e w1 ⟨rfl,h1,f1⟩;obtain⟨⟨d3x1,d4x1⟩,dzx1⟩:=h1.facts;have H1:=Lib.hid h1;have F1:=Lib.hid f1;clear h1 f1)
    |(go_at_call 81;(with_reducible refine(HN2.out w1 H1.out).mono ?_);rintro e w2 ⟨rfl,h2,f2⟩;obtain⟨⟨d3x2,d4x2⟩,dzx2⟩:=h2.facts;have H2:=Lib.hid h2;have F2:=Lib.hid f2;clear h2 f2)
    |(go_at_call 148;have hc9:=cont_r H2.out B _ HBS.out b HBL.out;rw[HB.out] at hc9;(with_reducible refine hc9.mono ?_);clear hc9;rintro e w3 ⟨rfl,h3,f3⟩;obtain⟨⟨d3x3,d4x3⟩,dzx3⟩:=h3.facts;have H3:=Lib.hid h3;have F3:=Lib.hid f3;clear h3 f3)
    |(go_at_call 82;(with_reducible refine(put_r H3.out 2 2 rfl (by omega) ([92]++b) _ HCT.out (by have:=HLN.out;have:=HBL.out;simp;omega)).mono ?_);rintro e w4 ⟨rfl,h4,f4⟩;obtain⟨⟨d3x4,d4x4⟩,dzx4⟩:=h4.facts;have H4:=Lib.hid h4;have F4:=Lib.hid f4;clear h4 f4))
   go_end0
   exact⟨rfl,H4.out,F1.out.trans (F2.out.trans (F3.out.trans F4.out))⟩
 ·rw[decide_eq_false e92] at h92
  by_cases e36:c=36
  ·rw[decide_eq_true e36] at h36
   rw[content_dl (by rw[hx,e36])]
   clear hx e92 e36 h96
   go_enter Tryz.func117,Tryz.ntmps117
   go_wp2_with (first
    |(go_at_call 81;(with_reducible refine(HN.out).mono ?_);rintro e w1 ⟨rfl,h1,f1⟩;obtain⟨⟨d3x1,d4x1⟩,dzx1⟩:=h1.facts;have H1:=Lib.hid h1;have F1:=Lib.hid f1;clear h1 f1)
    |(go_at_call 85;(with_reducible refine(dollar_v HBR.out H1.out 2 2 rfl (by omega) HLN.out).mono ?_);rintro e w2 ⟨rfl,h2,f2⟩;obtain⟨⟨d3x2,d4x2⟩,dzx2⟩:=h2.facts;have H2:=Lib.hid h2;have F2:=Lib.hid f2;clear h2 f2))
   go_end0
   exact⟨rfl,H2.out,F1.out.trans F2.out⟩
  ·rw[decide_eq_false e36] at h36
   by_cases e96:c=96
   ·rw[decide_eq_true e96] at h96
    rw[content_bq (by rw[hx,e96])]
    clear hx e92 e36 e96
    go_enter Tryz.func117,Tryz.ntmps117
    go_wp2_with (first
     |(go_at_call 81;(with_reducible refine(HN.out).mono ?_);rintro e w1 ⟨rfl,h1,f1⟩;obtain⟨⟨d3x1,d4x1⟩,dzx1⟩:=h1.facts;have H1:=Lib.hid h1;have F1:=Lib.hid f1;clear h1 f1)
     |(go_at_call 79;(with_reducible refine(fail_r H1.out).mono ?_);rintro e w2 ⟨rfl,h2,f2⟩;obtain⟨⟨d3x2,d4x2⟩,dzx2⟩:=h2.facts;have H2:=Lib.hid h2;have F2:=Lib.hid f2;clear h2 f2))
    go_end0
    exact⟨rfl,H2.out,F1.out.trans F2.out⟩
   ·rw[decide_eq_false e96] at h96
    rw[content_el hx e92 e36 e96]
    clear hx e92 e36 e96
    go_enter Tryz.func117,Tryz.ntmps117
    go_wp2_with (first
     |(go_at_call 81;(with_reducible refine(HN.out).mono ?_);rintro e w1 ⟨rfl,h1,f1⟩;obtain⟨⟨d3x1,d4x1⟩,dzx1⟩:=h1.facts;have H1:=Lib.hid h1;have F1:=Lib.hid f1;clear h1 f1)
     |(go_at_call 82;(with_reducible refine(put_r H1.out 2 2 rfl (by omega) [c] _ rfl (by have:=HLN.out;simp;omega)).mono ?_);rintro e w2 ⟨rfl,h2,f2⟩;obtain⟨⟨d3x2,d4x2⟩,dzx2⟩:=h2.facts;have H2:=Lib.hid h2;have F2:=Lib.hid f2;clear h2 f2))
    go_end0
    exact⟨rfl,H2.out,F1.out.trans F2.out⟩
end
end Ws
end Go.Proofs.YtipdgmjplnibeaaGreatDoor
namespace Go.Proofs.YtipdgmjplnibeaaGreatDoor
open Go.RowKit Go.Maps
set_option maxRecDepth 100000
theorem wp_callV {P:Program} {o:Oper} {a:Act} {w:World} {K:Act→World→Prop} {Q:Exit→Act→World→Prop} (i j:Tmp) (ats:Array TypeId) (f:FuncId) (pg v:Value) (hop:o.op=.call { callee:=.value (.tmp i),args:=#[.tmp j],argTypes:=ats }) (hi:a.tmps.getD i undef=.func (.func f) #[pg] #[]) (hj:a.tmps.getD j undef=v) (hent:∀ args w,(callFunc f args).run P w=.ok (.enter f args) w)
  (h:Calls P f #[pg,v] w fun e w'=>(∃ r,e=.returned r∧K (a.put o.dst r) w')∨(∃ ch,e=.panicked ch∧Q (.panic ch) a w')):Oper.wp P o a w K Q:=by
 have e1:execOp a.eval o=callFunc f #[pg,v]:=by
  unfold execOp
  simp[hop,resolve,Deferred.ofValue,invoke,Act.eval,hi,hj]
 unfold Oper.wp
 rw[e1,hent]
 refine h.mono fun e w' hh=>?_
 rcases hh with⟨r,rfl,hk⟩ | ⟨ch,rfl,hq⟩
 ·exact hk
 ·exact hq
namespace Ey
open Jo (ft fm rows own_ge)
open En (E RdE Vd Rises FrE)
def RowR (W:World) (X:Nat→Prop) (g m:Nat) (res:Res) (x:Ending) (W':World):Prop:=match res with
 | .ok r e=>x=.returned (rv r)∧Wt W' X g m e∧W.grownBy W' (some g)
 | .bad n t=>x=.panicked (flt n t)∧W.grownBy W' (some g)
 | .big=>True
theorem grown_trans {a b c:World} {row:Option Nat} (h:a.grownBy b row) (k:b.grownBy c row):a.grownBy c row:=
 ⟨k.os.trans h.os,k.tape.trans h.tape,k.output.trans h.output,Nat.le_trans h.size k.size,fun i hi hne=>(k.block i (Nat.lt_of_lt_of_le hi h.size) hne).trans (h.block i hi hne)⟩
theorem RowR.from {W W1 W':World} {X:Nat→Prop} {g m:Nat} {res:Res} {x:Ending} (h:RowR W1 X g m res x W') (hg:W.grownBy W1 (some g)):RowR W X g m res x W':=by
 cases res with
 | ok r e=>exact⟨h.1,h.2.1,grown_trans hg h.2.2⟩
 | bad n t=>exact⟨h.1,grown_trans hg h.2⟩
 | big=>trivial
def Nb (g:Nat):Nat→Prop:=fun b=>b≠g
theorem ps_grown {W W':World} {g:Nat} {v:Value} {ps:List P} (h:PsAt W (Nb g) v ps) (hg:W.grownBy W' (some g)):PsAt W' (Nb g) v ps:=
 h.kept hg.size (fun b hb hl=>hg.block b hl fun e=>hb (Option.some.inj e)) fun _ h=>h
theorem ps_low {W:World} {T:Nat→Prop} {v:Value} {ps:List P} (h:PsAt W T v ps):PsAt W (fun b=>T b∧b<W.heap.size) v ps:=by
 induction h with
 | nil A c=>exact .nil A c
 | row b c n nd ps hps hn hT hlt hc hnc hr ih=>exact .row b c n nd ps hps hn ⟨hT,hlt⟩ hlt hc hnc ih
theorem ps_nb {W W':World} {T:Nat→Prop} {g:Nat} {v:Value} {ps:List P} (h:PsAt W T v ps) (hl:Later W W') (hg:W.heap.size≤g):PsAt W' (Nb g) v ps:=
 (ps_low h).kept hl.size (fun b _ hlt=>hl.block b hlt) fun b hb=>by have:=hb.2;show b≠g;omega
def RowOk (row:E→List P→Res):Prop:=∀ (W:World) (X:Nat→Prop) (g m:Nat) (e:E) (v:Value) (ps:List P),Wt W X g m e→PsAt W (Nb g) v ps→row e ps≠.big→Calls Tryz.prog 48 #[.pointer (some ⟨g,0,none⟩),v] W (RowR W X g m (row e ps))
def PartOk (part:E→P→Res):Prop:=∀ (W:World) (X:Nat→Prop) (g m:Nat) (e:E) (vw:Value) (p:P) (f:Nat),Wt W X g m e→PsAt W (Nb g) vw p.w→part e p≠.big→putsT g p.k=some (fnv f g)→Calls Tryz.prog f #[.pointer (some ⟨g,0,none⟩),pv p vw] W (RowR W X g m (part e p))
theorem later_some {W W':World} {g:Nat} (h:Later W W'):W.grownBy W' (some g):=grown_of_later h _
theorem box5 (w:World) (z:Array Value) (t:TypeId) (c0 c1 c2 c3 c4:Value) (hz:z.size=5):∃ w',w'=((((((w.alloc (.cells z t)).setCell ⟨w.heap.size,0,none⟩ c0).setCell ⟨w.heap.size,1,none⟩ c1).setCell ⟨w.heap.size,2,none⟩ c2).setCell ⟨w.heap.size,3,none⟩ c3).setCell ⟨w.heap.size,4,none⟩ c4)∧Later w w'∧w'.heap[w.heap.size]?=some (.cells #[c0,c1,c2,c3,c4] t (0,0)):=by
 have h0:=heap_alloc_new w (.cells z t)
 refine⟨_,rfl,?_,?_⟩
 ·exact later_of_new (later_of_new (later_of_new (later_of_new (later_of_new (Later.alloc _ _) (set_only _ _ _ _) (Nat.le_refl _)) (set_only _ _ _ _) (Nat.le_refl _)) (set_only _ _ _ _) (Nat.le_refl _)) (set_only _ _ _ _) (Nat.le_refl _)) (set_only _ _ _ _) (Nat.le_refl _)
 ·obtain⟨l⟩:=z
  match l,hz with
  | [_,_,_,_,_],_=>exact set_row (set_row (set_row (set_row (set_row h0 0 c0) 1 c1) 2 c2) 3 c3) 4 c4
theorem part_load {w:World} {g o:Nat} {p:P} {vw:Value} (c0:w.cell? ⟨g,o,none⟩=some (.int .i64 (p.k:Int))) (c1:w.cell? ⟨g,o+1,none⟩=some (.string (mkS p.t))) (c2:w.cell? ⟨g,o+2,none⟩=some (.string (mkS p.o))) (c3:w.cell? ⟨g,o+3,none⟩=some (.bool p.q)) (c4:w.cell? ⟨g,o+4,none⟩=some vw):(Instr.loadAt 105 (.pointer (some ⟨g,o,none⟩))).run Tryz.prog w=.ok (pv p vw) w:=by
 refine run_loadAt_mid (P:=Tryz.prog) w g o 105 [.int .i64 (p.k:Int),.string (mkS p.t),.string (mkS p.o),.bool p.q,vw] _ (fun j v hv=>?_) Tryz.underlying105 rfl (by kernel_rfl)
 have hj:j<5:=(List.getElem?_eq_some_iff.1 hv).1
 match j,hj with
 | 0,_=>cases hv;exact c0
 | 1,_=>cases hv;exact c1
 | 2,_=>cases hv;exact c2
 | 3,_=>cases hv;exact c3
 | 4,_=>cases hv;exact c4
theorem part_box {w:World} {b:Nat} {p:P} {vw:Value} (h:w.heap[b]?=some (.cells #[.int .i64 (p.k:Int),.string (mkS p.t),.string (mkS p.o),.bool p.q,vw] 105 (0,0))):(Instr.loadAt 105 (.pointer (some ⟨b,0,none⟩))).run Tryz.prog w=.ok (pv p vw) w:=
 part_load (cell_row h 0).1 (cell_row h 1).1 (cell_row h 2).1 (cell_row h 3).1 (cell_row h 4).1
end Ey
end Go.Proofs.YtipdgmjplnibeaaGreatDoor
