import Derived.RangeFuncCalls
import Derived.OrdersIn
import Derived.TacticsIn
import Derived.Test.YtipdgmjplnibeaaGreatDoorG09
import Derived.Test.YtipdgmjplnibeaaGreatDoorShf
import Derived.Shelf.Small.Strs
import Derived.Shelf.Strings.Repeat
import Derived.Test.YtipdgmjplnibeaaGreatDoorProg
import Derived.Lib.Bytealg
import Derived.BigQuiet
import Derived.Test.YtipdgmjplnibeaaGreatDoorG02
import Derived.Test.YtipdgmjplnibeaaGreatDoorG05
set_option maxRecDepth 100000
set_option maxHeartbeats 1600000
namespace Go.Proofs.YtipdgmjplnibeaaGreatDoor
open Go.RowKit
def Free (F:Fence):Prop:=F=Fence.wide∨∃ l,F=Fence.wide.inRound l
theorem Free.wide:Free Fence.wide:=.inl rfl
theorem Free.round (l:Nat):Free (Fence.wide.inRound l):=.inr ⟨l,rfl⟩
theorem roundIn_wide {m m':Nat} {P:Program} {l:Nat} {f:FuncId} {tmps:Array Value} {assign body:Code} {w:World} {R:Ending→World→Prop} (h:RoundIn Fence.wide m P l f tmps assign body w R):RoundIn Fence.wide m' P l f tmps assign body w R:=
 ⟨h.1,fun c cs _=>h.2 c cs (room_wide _)⟩
section
variable {P:Program} {F:Fence} {n:Nat} {ops:Array Oper} {Q:Exit→Act→World→Prop} {a0:Act} {C:List Bool→World→Prop} {R:Nat→Value→World→Prop}
theorem Free.fn (hF:Free F) (f:FuncId):F.fn f:=by rcases hF with rfl | ⟨l,rfl⟩ <;> exact trivial
theorem Free.depth (hF:Free F):F.depth.isSome=true→1≤n:=by rcases hF with rfl | ⟨l,rfl⟩ <;> (intro h;cases h)
theorem Free.calls (hF:Free F) {f:FuncId} {args:Array Value} {w:World} {R:Ending→World→Prop} (h:Calls P f args w R):CallsIn F n P f args w R:=by
 rcases hF with rfl | ⟨l,rfl⟩
 ·exact callsIn_wide.2 h
 ·exact CallsIn.inRound l (callsIn_wide.2 h)
theorem Free.rnd (hF:Free F) {m l:Nat} {f:FuncId} {tmps:Array Value} {assign body:Code} {w:World} {R:Ending→World→Prop} (h:RoundIn Fence.wide m P l f tmps assign body w R):RoundIn F n P l f tmps assign body w R:=by
 rcases hF with rfl | ⟨k,rfl⟩
 ·exact roundIn_wide h
 ·exact(roundIn_wide h:RoundIn Fence.wide n P l f tmps assign body w R)
theorem Free.sem (hF:Free F) (ρ:Operand→Value) (o:Oper) (h:∀ c,o.op≠.defer c):o.semAt F.round ρ=execOp ρ o:=by
 rcases hF with rfl | ⟨k,rfl⟩
 ·rfl
 ·exact Oper.semAt_some k _ _ h
theorem wpIn_of_val (hF:Free F) {o:Oper} {a:Act} {w:World} {K:Act→World→Prop} (hd:∀ c,o.op≠.defer c) (h:ValWp P o a.eval w fun v w'=>K (a.put o.dst v) w'):Oper.wpIn F n P o a w K Q:=by
 refine⟨fun f _=>hF.fn f,?_⟩
 rw[hF.sem _ _ hd]
 unfold ValWp at h
 generalize (execOp a.eval o).run P w=r at *
 cases r with
 | ok x w'=>
  cases x <;> simp only[Oper.uponIn] at h⊢
  case value v=>exact h
  case skip=>exact h
  case enter f args=>exact⟨hF.depth,hF.calls (h.mono fun e w'' ⟨v,he,hk⟩=>by subst he;exact hk)⟩
 | halt x w'=>simp at h
theorem wpIn_of_yield (hF:Free F) {o:Oper} {a:Act} {w:World} {K:Act→World→Prop} {x:Operand} {xs:Array Operand} {ats:Array TypeId} {m l:Nat} (args:Array Value) (ho:o.op=.call { callee:=.value x,args:=xs,argTypes:=ats }) (hx:a.eval x=.func (.yield l) #[] #[]) (hv:xs.map a.eval=args)
  (hY:YieldAt Fence.wide m P l args w fun e w'=>∃ v,e=.returned v∧K (a.put o.dst v) w'):Oper.wpIn F n P o a w K Q:=by
 obtain⟨fn,tmps,assign,body,hy,hR⟩:=hY
 refine⟨fun f _=>hF.fn f,?_⟩
 rw[hF.sem _ _ (fun c h=>by rw[ho] at h;cases h)]
 have e1:(execOp a.eval o).run P w=.ok (.round l fn tmps assign body) w:=by
  subst hv
  unfold execOp
  simpa [ho,resolve,Deferred.ofValue,invoke,hx] using hy
 rw[e1]
 exact⟨hF.depth,hF.rnd (hR.mono fun e w'' ⟨v,he,hk⟩=>by subst he;exact hk)⟩
theorem wpAnyIn_softA {C:Array Bool→Act→World→Prop} {G:World→World→Prop} (hF:Free F) (hok:SoftOk ops a0.tmps.size) (hmono:∀ i v w w',G w w'→R i v w→R i v w')
  (hstep:∀ (i:Nat) o,ops[i]?=some o→∀ (listed:Array Bool) (a:Act) (w:World),listed.size=ops.size→listed.getD i true=false→(∀ e∈o.after,Region.binds .any e=true→listed.getD e.on false=true)→C listed a w→a.tmps.size=a0.tmps.size→Sees ops a0 R o a w→∀ K:Act→World→Prop,
   (∀ v w',R i (if o.dst.isSome then v else undef) w'→C (listed.setIfInBounds i true) (a.put o.dst v) w'→G w w'→K (a.put o.dst v) w') →
   if Region.wanted o (yielded ops a.tmps)=true then Oper.wpIn F n P o a w K Q else K (a.put o.dst undef) w)
  (hQ:∀ (listed:Array Bool) a w,(∀ i,i<ops.size→listed.getD i false=true)→C listed a w→Fits ops a0 R (Array.replicate ops.size true) a w→Q .normal a w) :
  ∀ (fuel:Nat) (listed:Array Bool) (a:Act) (w:World),open_ listed≤fuel→C listed a w→Fits ops a0 R listed a w→wpAnyIn F n P .any ops Q fuel listed a w:=by
 have hend:∀ (listed:Array Bool) (a:Act) (w:World),C listed a w→Fits ops a0 R listed a w→Region.ready .any ops listed=[]→Q .normal a w:=by
  intro listed a w hC h hr
  have hall:=ready_nil h.lsize hok hr
  refine hQ listed a w hall hC ⟨by simp,h.defers,h.size,fun t ht=>h.outer t fun i o ho hl=>ht i o ho (by have:=(Array.getElem?_eq_some_iff.1 ho).1;simp[this]),fun i o ho _=>h.inner i o ho (hall i (Array.getElem?_eq_some_iff.1 ho).1)⟩
 intro fuel
 induction fuel with
 | zero=>
  intro listed a w hf hC h
  have hz:=open_zero (Nat.le_zero.1 hf)
  have hr:Region.ready .any ops listed=[]:=by
   rw[List.eq_nil_iff_forall_not_mem]
   intro i hi
   have:=(mem_ready.1 hi).1
   rw[hz i] at this
   cases this
  exact⟨hr,hend listed a w hC h hr⟩
 | succ fuel ih=>
  intro listed a w hf hC h
  refine⟨hend listed a w hC h,fun i hi=>?_⟩
  obtain⟨hun,o,ho,hdeps⟩:=mem_ready.1 hi
  have hin:i<listed.size:=by rw[h.lsize];exact(Array.getElem?_eq_some_iff.1 ho).1
  have hst:=hstep i o ho listed a w h.lsize hun hdeps hC h.size (h.sees hi ho) (wpAnyIn F n P .any ops Q fuel (listed.setIfInBounds i true)) fun v w' hR hC' hG=>
   ih _ _ _ (by have:=open_set hin hun;omega) hC' (h.step (C:=fun _=>True) hok (fun i v w w' _=>hmono i v w w') ho trivial hG hR)
  unfold wpOpIn
  rw[ho]
  dsimp only
  split
  ·rename_i hw;rw[if_pos hw] at hst;exact hst
  ·rename_i hw;rw[if_neg hw] at hst;exact⟨fun f _=>hF.fn f,hst⟩
def OwesI (F:Fence) (n:Nat) (P:Program) (ops:Array Oper) (Q:Exit→Act→World→Prop) (C:List Bool→World→Prop) (ps:List Nat) (R:Nat→Value→World→Prop) (a0:Act) (i:Nat) (o:Oper):Prop:=
 ∀ (a:Act) (w:World) (bits:List Bool),C bits w→(∀ (k p:Nat),ps[k]?=some p→(depOn ops i p=true∨∃ q,depOn ops i q=true∧depOn ops q p=true)→bits[k]?=some true)→(∀ (k p:Nat),ps[k]?=some p→(p=i∨depOn ops p i=true)→bits[k]?=some false)→Sees ops a0 R o a w →
  (Region.wanted o (yielded ops a.tmps)=true∧∀ K:Act→World→Prop,(∀ v w',R i (if o.dst.isSome then v else undef) w'→C (setAt ps i bits) w'→K (a.put o.dst v) w')→Oper.wpIn F n P o a w K Q) ∨
  (Region.wanted o (yielded ops a.tmps)=false∧R i undef w∧C (setAt ps i bits) w)
theorem OwesI.q (hF:Free F) {ps:List Nat} {i:Nat} {o:Oper} (hi:idx ps i=none) (hnd:∀ c,o.op≠.defer c) (h:∀ (a:Act) (w:World) (bits:List Bool),C bits w→(∀ (k p:Nat),ps[k]?=some p→(depOn ops i p=true∨∃ q,depOn ops i q=true∧depOn ops q p=true)→bits[k]?=some true)→(∀ (k p:Nat),ps[k]?=some p→(p=i∨depOn ops p i=true)→bits[k]?=some false)→Sees ops a0 R o a w →
  Region.wanted o (yielded ops a.tmps)=true∧ValWp P o a.eval w fun v w'=>R i (if o.dst.isSome then v else undef) w'∧w'=w):OwesI F n P ops Q C ps R a0 i o:=fun a w bits hC hd hu hs=>by
 obtain⟨h1,h2⟩:=h a w bits hC hd hu hs
 refine .inl ⟨h1,fun K hK=>wpIn_of_val hF hnd (h2.mono fun v w' hk=>hK v w' hk.1 ?_)⟩
 obtain⟨_,rfl⟩:=hk
 unfold setAt
 rw[hi]
 exact hC
theorem OwesI.off {ps:List Nat} {i:Nat} {o:Oper} (hi:idx ps i=none) (h:∀ (a:Act) (w:World),Sees ops a0 R o a w→Region.wanted o (yielded ops a.tmps)=false∧R i undef w):OwesI F n P ops Q C ps R a0 i o:=fun a w bits hC hd hu hs=>by
 obtain⟨h1,h2⟩:=h a w hs
 refine .inr ⟨h1,h2,?_⟩
 unfold setAt
 rw[hi]
 exact hC
def OwesAllI (F:Fence) (n:Nat) (P:Program) (ops:Array Oper) (Q:Exit→Act→World→Prop) (C:List Bool→World→Prop) (ps:List Nat) (R:Nat→Value→World→Prop) (a0:Act):Nat→List Oper→Prop
 | _,[]=>True
 | k,o::l=>OwesI F n P ops Q C ps R a0 k o∧OwesAllI F n P ops Q C ps R a0 (k+1) l
theorem owesAllI_at {ps:List Nat}:∀ (l:List Oper) (k i:Nat) (o:Oper),OwesAllI F n P ops Q C ps R a0 k l→l[i]?=some o→OwesI F n P ops Q C ps R a0 (k+i) o
 | [],_,i,o,_,h=>by simp at h
 | x::l,k,0,o,h,ho=>by simp at ho;subst ho;exact h.1
 | x::l,k,i+1,o,h,ho=>by
  have:=owesAllI_at l (k+1) i o h.2 (by simpa using ho)
  rwa[show k+1+i=k+(i+1) by omega] at this
theorem wpIn_region_bits (hF:Free F) {id:Nat} {w:World} {l:List Oper} (hm:P.follows .mixedOrders=true) (ps:List Nat) (C:List Bool→World→Prop) (rv:List (Option Value)) (hps:∀ p∈ps,p<l.length) (hnd:ps.Nodup) (hok:softB l.toArray a0.tmps.size=true)
  (hC:C (ps.map fun _=>false) w.drew) (hstep:OwesAllI F n P l.toArray Q C ps (RV rv) a0 0 l)
  (hQ:∀ a w,C (ps.map fun _=>true) w→a.defers=a0.defers→a.tmps.size=a0.tmps.size→(∀ t,freeTmp l.toArray t=true→a.tmps.getD t undef=a0.tmps.getD t undef)→(∀ (i:Nat) o,l[i]?=some o→RV rv i (slotOf o.dst a) w)→Q .normal a w) :
  (Code.region id l.toArray true).wpIn F n P Q a0 w:=by
 have hmono:∀ i v w w',(fun _ _=>True:World→World→Prop) w w'→RV rv i v w→RV rv i v w':=fun i v w w' _ h=>h
 have hso:=SoftOk.of hok
 refine wpIn_region_any hm (wpAnyIn_softA (C:=fun listed _ w=>PhaseB l.toArray ps C listed w) (R:=RV rv) (G:=fun _ _=>True) hF hso hmono (fun i o ho listed a w hsz hun hdeps hc hsize hsee K hK=>?_)
  (fun listed a w hall hc h=>?_) l.toArray.size (Array.replicate l.toArray.size false) a0 w.drew ?_ ?_ ⟨by simp,rfl,rfl,fun _ _=>rfl,fun i o ho hl=>?_⟩)
 ·have hil:i<listed.size:=by rw[hsz];exact(Array.getElem?_eq_some_iff.1 ho).1
  have hf:listed.getD i false=false:=by simp[hil] at hun⊢;exact hun
  have hw:=owesAllI_at l 0 i o hstep (by simpa using ho)
  rw[Nat.zero_add] at hw
  have hdl:=fun d hd=>deps_listed ho hdeps d hd
  have hnew:∀ w',C (setAt ps i (ps.map fun p=>listed.getD p false)) w'→PhaseB l.toArray ps C (listed.setIfInBounds i true) w':=fun w' hC'=>by
   refine⟨by rw[bits_set hnd hil];exact hC',fun p hp d hd=>?_⟩
   by_cases hpi:i=p
   ·subst hpi
    exact listed_more hil (hdl d hd)
   ·rw[getD_set_ne hpi] at hp
    exact listed_more hil (hc.dep p hp d hd)
  rcases hw a w _ hc.c (fun k p hk hd=>by
   rw[List.getElem?_map,hk]
   simp only[Option.map_some]
   rcases hd with hd | ⟨q,h1,h2⟩
   ·rw[hdl p hd]
   ·rw[hc.dep q (hdl q h1) p h2]) (fun k p hk hd=>by
   rw[List.getElem?_map,hk]
   simp only[Option.map_some]
   rcases hd with rfl | hd
   ·rw[hf]
   ·cases e:listed.getD p false with
    | false=>rfl
    | true=>rw[hc.dep p e i hd] at hf;cases hf) hsee with⟨hw1,hw2⟩ | ⟨hw1,hw2,hw3⟩
  ·rw[if_pos hw1]
   exact hw2 K fun v w' hR hC'=>hK v w' hR (hnew w' hC') trivial
  ·rw[hw1]
   simp only[Bool.false_eq_true,if_false]
   exact hK undef w (by simpa using hw2) (hnew w hw3) trivial
 ·refine hQ a w ?_ h.defers h.size (fun t ht=>h.outer t fun j oj' hj _ hd=>?_) fun i o ho=>h.inner i o (by simpa using ho) (by have:=(List.getElem?_eq_some_iff.1 ho).1;simp[this])
  ·have:=hc.c
   rwa[List.map_congr_left (g:=fun _=>true) fun p hp=>hall p (by simpa using hps p hp)] at this
  unfold freeTmp at ht
  rw[List.all_eq_true] at ht
  have:=ht oj' (Array.mem_toList_iff.2 (Array.mem_of_getElem? hj))
  simp[hd] at this
 ·unfold open_;exact Nat.le_trans List.countP_le_length (by simp)
 ·have hz:∀ p:Nat,(Array.replicate l.toArray.size false).getD p false=false:=fun p=>by by_cases hp:p<l.length <;> simp[hp]
  refine⟨?_,fun p hp=>by rw[hz] at hp;cases hp⟩
  rwa[List.map_congr_left (g:=fun _=>false) fun p _=>hz p]
 ·exfalso
  have hi:=(Array.getElem?_eq_some_iff.1 ho).1
  rw[List.size_toArray] at hi
  simp[hi] at hl
end
theorem allAt_tmps {t:Array Value} {d ds:List Deferred}:∀ {l:List Value} {n:Nat},AllAt ⟨t,d⟩ n l→AllAt ⟨t,ds⟩ n l
 | [],_,_=>trivial
 | _::_,_,h=>⟨h.1,allAt_tmps h.2⟩
theorem act_litD {a:Act} {l:List Value} {ds:List Deferred} (hd:a.defers=ds) (hsz:a.tmps.size=l.length) (h:AllAt a 0 l):a=⟨l.toArray,ds⟩:=by
 obtain⟨t,d⟩:=a
 simp only at hd
 subst hd
 have:=act_lit (a:=⟨t,[]⟩) (l:=l) rfl hsz (allAt_tmps h)
 injection this with e
 rw[e]
section
variable {F:Fence} {n:Nat} {P:Program}
theorem wpIn_rangeFunc_at2 {g:Operand} {ps:Array Tmp} {assign body:Code} {Q:Exit→Act→World→Prop} {a:Act} {w:World} (hro:F.round=none) (h1:1≤n) {gf:Nat} {lb:Array Value}
  (hg:a.eval g=.func (.func gf) #[] lb) (hFg:F.fn gf) (eg:∀ args w,(callFunc gf args).run P w=.ok (.enter gf args) w)
  (h:∀ fn,F.fn fn→∀ r:Rng,r=⟨w.heap.size,fn,a.tmps,ps,assign,body⟩→∀ W1,r.At .ready none W1→Below w.heap.size w W1→W1.heap.size=w.heap.size+2 →
   CallsIn F (n-1) P gf (#[.func (.yield (r.D+1)) #[] #[]]++lb) W1 fun e W2=>(∃ v,e=.returned v)∧∃ x pe,r.At x pe W2∧x≠.busy∧∀ W3,r.Turn W2 W3→r.At .exhausted pe W3 →
    match pe with
    | none=>Q .normal { a with defers:={ target:=.collected r.D,args:=#[] }::a.defers } W3
    | some c=>c.wpIn F n P Q { a with defers:={ target:=.collected r.D,args:=#[] }::a.defers } W3) :
  (Code.rangeFunc g ps assign body).wpIn F n P Q a w:=by
 refine wpIn_rangeFunc fun fn hfn=>?_
 rw[hro]
 let r:Rng:=⟨w.heap.size,fn,a.tmps,ps,assign,body⟩
 let W0:=w.alloc (.deferred (some []))
 let W1:=W0.alloc (.loop (r.record .ready none))
 have hz:W0.heap.size=w.heap.size+1:=World.size_alloc ..
 have hat:r.At .ready none W1:=⟨by have:=World.alloc_heap_new W0 (.loop (r.record .ready none));rwa[hz] at this,(Below.heap_alloc _ _ _ (by rw[hz];exact Nat.lt_succ_self _)).trans (World.alloc_heap_new w _)⟩
 have hb:Below w.heap.size w W1:=((Below.refl _ w).alloc (Nat.le_refl _) _).alloc (by rw[hz];omega) _
 refine⟨w.heap.size+1,[{ target:=.collected w.heap.size,args:=#[] }],W1,{ target:=.fn (.func gf) lb,args:=#[.func (.yield (w.heap.size+1)) #[] #[]] },W1,gf,#[.func (.yield (w.heap.size+1)) #[] #[]]++lb,W1,
  run_enterLoop_outer _ _ _ _ _,?_,?_,?_,fun _=>h1,?_⟩
 ·simp only[resolve,hg]
  simp[go_sem]
 ·intro f' hf';simp[Target.leads] at hf';subst hf';exact hFg
 ·simp[invoke,go_sem,eg]
 ·refine(h fn hfn r rfl W1 hat hb (by rw[show W1.heap.size=W0.heap.size+1 from World.size_alloc ..,hz])).mono ?_
  rintro e W2 ⟨⟨v,rfl⟩,x,pe,h2,hx,hq⟩
  have hend:=run_endLoop (P:=P) h2.1 hx
  have h3:=hq (W2.putObj (r.D+1) (.loop (r.record .exhausted pe))) ⟨⟨_,_,h2⟩,_,rfl⟩ h2.turn
  cases pe with
  | none=>exact⟨none,_,hend,h3⟩
  | some c=>exact⟨some c,_,hend,h3⟩
end
end Go.Proofs.YtipdgmjplnibeaaGreatDoor
namespace Go.Proofs
open Go.Shelf
def Tryz.lays105_ren:Go.Shelf.Ren:=⟨fun | 105=>159 | 212=>181 | 99=>50 | 165=>65 | 166=>66 | 170=>182 | 169=>67 | 263=>230 | 264=>231 | 206=>77 | 240=>97 | 241=>98 | 276=>127 | 277=>128 | n=>n,fun | 9=>9 | 3=>3 | 4=>4 | 20=>20 | 0=>0 | 46=>110 | 109=>219 | 5=>5 | 72=>118 | 76=>122 | 51=>200 | 146=>245 | 53=>124 | 148=>247 | 70=>116 | 37=>81 | 75=>121 | 127=>152 | 164=>175 | 80=>63 | n=>n,fun | n=>n⟩
theorem Tryz.lays105:Go.Proofs.Lays.n105 Tryz.prog Tryz.lays105_ren:={
 mixed:=by kernel_rfl
 f99:=Tryz.func50.trans (congrArg some (by kernel_rfl))
 f105:=Tryz.func159.trans (congrArg some (by kernel_rfl))
 f165:=Tryz.func65.trans (congrArg some (by kernel_rfl))
 f166:=Tryz.func66.trans (congrArg some (by kernel_rfl))
 f169:=Tryz.func67.trans (congrArg some (by kernel_rfl))
 f170:=Tryz.func182.trans (congrArg some (by kernel_rfl))
 f206:=Tryz.func77.trans (congrArg some (by kernel_rfl))
 f212:=Tryz.func181.trans (congrArg some (by kernel_rfl))
 f240:=Tryz.func97.trans (congrArg some (by kernel_rfl))
 f241:=Tryz.func98.trans (congrArg some (by kernel_rfl))
 f263:=Tryz.func230.trans (congrArg some (by kernel_rfl))
 f264:=Tryz.func231.trans (congrArg some (by kernel_rfl))
 f276:=Tryz.func127.trans (congrArg some (by kernel_rfl))
 f277:=Tryz.func128.trans (congrArg some (by kernel_rfl))
 t0:=Tryz.underlying0
 a0:=Tryz.isAgg0
 z0:=Tryz.sizeOf0
 v0:=Tryz.zeroValue0
 t3:=Tryz.underlying3
 a3:=Tryz.isAgg3
 z3:=Tryz.sizeOf3
 v3:=Tryz.zeroValue3
 t4:=Tryz.underlying4
 a4:=Tryz.isAgg4
 z4:=Tryz.sizeOf4
 v4:=Tryz.zeroValue4
 t5:=Tryz.underlying5
 a5:=Tryz.isAgg5
 z5:=Tryz.sizeOf5
 v5:=Tryz.zeroValue5
 t9:=Tryz.underlying9
 a9:=Tryz.isAgg9
 z9:=Tryz.sizeOf9
 v9:=Tryz.zeroValue9
 t20:=Tryz.underlying20
 a20:=Tryz.isAgg20
 z20:=Tryz.sizeOf20
 v20:=Tryz.zeroValue20
 t37:=Tryz.underlying81
 a37:=Tryz.isAgg81
 z37:=Tryz.sizeOf81
 v37:=Tryz.zeroValue81
 t46:=Tryz.underlying110
 a46:=Tryz.isAgg110
 z46:=Tryz.sizeOf110
 v46:=Tryz.zeroValue110
 t51:=Tryz.underlying200
 a51:=Tryz.isAgg200
 z51:=Tryz.sizeOf200
 v51:=Tryz.zeroValue200
 t53:=Tryz.underlying124
 a53:=Tryz.isAgg124
 z53:=Tryz.sizeOf124
 v53:=Tryz.zeroValue124
 t70:=Tryz.underlying116
 a70:=Tryz.isAgg116
 z70:=Tryz.sizeOf116
 v70:=Tryz.zeroValue116
 t72:=Tryz.underlying118
 a72:=Tryz.isAgg118
 z72:=Tryz.sizeOf118
 v72:=Tryz.zeroValue118
 t75:=Tryz.underlying121
 a75:=Tryz.isAgg121
 z75:=Tryz.sizeOf121
 v75:=Tryz.zeroValue121
 t76:=Tryz.underlying122
 a76:=Tryz.isAgg122
 z76:=Tryz.sizeOf122
 v76:=Tryz.zeroValue122
 t109:=Tryz.underlying219
 a109:=Tryz.isAgg219
 z109:=Tryz.sizeOf219
 v109:=Tryz.zeroValue219
 t127:=Tryz.underlying152
 a127:=Tryz.isAgg152
 z127:=Tryz.sizeOf152
 v127:=Tryz.zeroValue152
 t146:=Tryz.underlying245
 a146:=Tryz.isAgg245
 z146:=Tryz.sizeOf245
 v146:=Tryz.zeroValue245
 t148:=Tryz.underlying247
 a148:=Tryz.isAgg247
 z148:=Tryz.sizeOf247
 v148:=Tryz.zeroValue247
 t164:=Tryz.underlying175
 a164:=Tryz.isAgg175
 z164:=Tryz.sizeOf175
 v164:=Tryz.zeroValue175 }
theorem Tryz.Builder_Extra_105:Builder.Extra Tryz.prog Tryz.lays105_ren:={
 sizeBuilder:=by kernel_rfl
 liesBuilder:=by kernel_rfl
 t5:=Tryz.underlying5
 a5:=Tryz.isAgg5
 z5:=Tryz.sizeOf5
 v5:=Tryz.zeroValue5
 infoByte:=by kernel_rfl
 cellsByte:=by kernel_rfl
 sizeByte:=by kernel_rfl
 neB5:=by decide }
open Go.RowKit Go.Lib in
theorem Tryz.strings_Repeat (s:ByteArray) (c:Nat) (w:World) (hc:c≤9223372036854775807) (hlen:s.size*c≤140737488355328) :
  Calls Tryz.prog 159 #[.string s,.int .i64 c] w fun e w'=>e=.returned (.string ⟨(Lib.repeatL s.data.toList c).toArray⟩)∧Below w.heap.size w w':=Any.strings_Repeat Tryz.lays105 Tryz.Builder_Extra_105 s c w hc hlen
end Go.Proofs
namespace Go.Proofs.YtipdgmjplnibeaaGreatDoor
open Go.RowKit
namespace Jo
abbrev C2:=UInt8×UInt8
def cl (p:C2):Value:=.agg #[bv p.1,bv p.2]
def cs (z:List C2):List Value:=z.flatMap fun p=>[bv p.1,bv p.2]
theorem cs_len (z:List C2):(cs z).length=z.length*2:=by
 unfold cs
 induction z with
 | nil=>rfl
 | cons y l ih=>rw[List.flatMap_cons,List.length_append,ih];simp;omega
theorem cs_app (z:List C2) (y:C2):cs (z++[y])=cs z++[bv y.1,bv y.2]:=by simp[cs]
theorem cs_at:∀ (z:List C2) (j:Nat) (h:j<z.length),(cs z)[j*2]?=some (bv z[j].1)∧(cs z)[j*2+1]?=some (bv z[j].2)
 | [],j,h=>by simp at h
 | y::l,0,_=>by simp[cs]
 | y::l,j+1,h=>by
  have:=cs_at l j (by simpa using h)
  have e:cs (y::l)=[bv y.1,bv y.2]++cs l:=rfl
  rw[e,List.getElem?_append_right (by simp;omega),List.getElem?_append_right (by simp;omega)]
  simp only[List.length_cons,List.length_nil,List.getElem_cons_succ]
  rw[show (j+1)*2-(0+1+1)=j*2 by omega,show (j+1)*2+1-(0+1+1)=j*2+1 by omega]
  exact this
def kindN (ifs:L) (p:C2):Nat:=if p.2=101 then 1 else if p.2=98 then 2 else if sepB ifs p=true then (if whiteB p.1=true then 3 else 4) else 0
theorem index_neg (l:L) (c:UInt8):(Lib.indexByte l c<0)↔c∉l:=by
 induction l with
 | nil=>simp[Lib.indexByte]
 | cons a l ih=>
  have hge:=Lib.indexByte_ge l c
  unfold Lib.indexByte
  by_cases h:a=c
  ·subst h;simp
  ·have hb:(a==c)=false:=by simpa using h
   rw[hb,List.mem_cons,not_or,←ih]
   have h2:¬ c=a:=fun e=>h e.symm
   by_cases h3:Lib.indexByte l c=-1
   ·simp[h3,h2]
   ·simp[h3,h2]
    omega
theorem nat8 {c:UInt8} {n:Nat} (hn:n<256):c.toNat=n↔c=UInt8.ofNat n:=by
 constructor
 ·intro h;rw[←h];simp
 ·intro h;rw[h];simp;omega
theorem eq8 (c:UInt8) (n:Nat) (hn:n<256):(((c.toNat:Int)==(n:Int))=decide (c=UInt8.ofNat n))∧(((c.toNat:Int) != (n:Int))=!decide (c=UInt8.ofNat n)):=by
 have h:((c.toNat:Int)=(n:Int))↔c=UInt8.ofNat n:=by rw[←nat8 hn];omega
 constructor
 ·rw[Bool.eq_iff_iff,beq_iff_eq,decide_eq_true_iff];exact h
 ·unfold bne
  congr 1
  rw[Bool.eq_iff_iff,beq_iff_eq,decide_eq_true_iff];exact h
theorem toNat8 (c:UInt8):(c.toNat:Int).toNat.toUInt8=c:=by simp
theorem kind_v (ifs:L) (p:C2) (w:World):Calls Tryz.prog 90 #[cl p,.string (mkS ifs)] w fun e w'=>e=.returned (.int .i64 (kindN ifs p:Int))∧Later w w':=by
 obtain⟨c,m⟩:=p
 unfold cl kindN
 simp only[bv]
 have hl:=Later.alloc w (.cells #[.int .u8 (c.toNat:Int),.int .u8 (m.toNat:Int)] 146)
 have h101:((m.toNat:Int)==101)=decide (m=101):=(eq8 m 101 (by decide)).1
 have h98:((m.toNat:Int)==98)=decide (m=98):=(eq8 m 98 (by decide)).1
 have h115:((m.toNat:Int) != 115)=!decide (m=115):=(eq8 m 115 (by decide)).2
 have HI:=Lib.hid (fun W=>Tryz.strings_IndexByte (mkS ifs) (c.toNat:Int) W)
 have HJ:=Lib.hid (fun W=>Tryz.strings_IndexByte ⟨#[32,9,10]⟩ (c.toNat:Int) W)
 by_cases e1:m=101
 ·have f1:((m.toNat:Int)==101)=true:=by rw[h101];simpa using e1
  rw[if_pos e1]
  clear h101 h98 h115 e1
  go_enter Tryz.func90,Tryz.ntmps90
  go_wp2
  go_ret
  exact⟨rfl,hl⟩
 have f1:((m.toNat:Int)==101)=false:=by rw[h101];simpa using e1
 rw[if_neg e1]
 by_cases e2:m=98
 ·have f2:((m.toNat:Int)==98)=true:=by rw[h98];simpa using e2
  rw[if_pos e2]
  clear h101 h98 h115 e1 e2
  go_enter Tryz.func90,Tryz.ntmps90
  go_wp2
  go_ret
  exact⟨rfl,hl⟩
 have f2:((m.toNat:Int)==98)=false:=by rw[h98];simpa using e2
 rw[if_neg e2]
 by_cases e3:m=115
 ·have f3:((m.toNat:Int) != 115)=false:=by rw[h115];simp[e3]
  have hs:sepB ifs (c,m)=ifs.contains c:=by simp[sepB,e3]
  rw[hs]
  clear h101 h98 h115 e1 e2 e3 hs
  have g1:Lib.indexByte (mkS ifs).data.toList ((c.toNat:Int).toNat.toUInt8)<0↔c∉ifs:=by rw[mkS_list,toNat8,index_neg]
  have g2:Lib.indexByte [32,9,10] ((c.toNat:Int).toNat.toUInt8)<0↔c∉[32,9,10]:=by rw[toNat8,index_neg]
  obtain⟨z,hz⟩:∃ z,z=Lib.indexByte (mkS ifs).data.toList ((c.toNat:Int).toNat.toUInt8):=⟨_,rfl⟩
  obtain⟨y,hy⟩:∃ y,y=Lib.indexByte [32,9,10] ((c.toNat:Int).toNat.toUInt8):=⟨_,rfl⟩
  rw[←hz] at g1
  rw[←hy] at g2
  have HZ:=Lib.hid hz
  have HY:=Lib.hid hy
  clear hz hy
  by_cases hc:c∈ifs
  ·have k1:¬ z<0:=by rw[g1];simpa using hc
   rw[if_pos (by simpa using hc)]
   clear g1 hc
   by_cases hw:whiteB c=true
   ·have k2:0≤y:=by
     have:¬ y<0:=by rw[g2];unfold whiteB at hw;simp only[Bool.or_eq_true,beq_iff_eq] at hw;rcases hw with(hw | hw) | hw <;> simp[hw]
     omega
    rw[if_pos hw]
    clear hw g2
    go_enter Tryz.func90,Tryz.ntmps90
    go_wp2_with (first
     |(go_at_call 70;(with_reducible refine(HI.out _).mono ?_);rintro e w1 ⟨rfl,rfl⟩;rw[←HZ.out];clear HI)
     |(go_at_call 70;(with_reducible refine(HJ.out _).mono ?_);rintro e w1 ⟨rfl,rfl⟩;rw[←HY.out];clear HJ))
    go_ret
    exact⟨rfl,hl⟩
   ·have k2:¬ 0≤y:=by
     have:y<0:=by rw[g2];unfold whiteB at hw;simp only[Bool.or_eq_true,beq_iff_eq,not_or] at hw;simp[hw.1.1,hw.1.2,hw.2]
     omega
    rw[if_neg hw]
    clear hw g2
    go_enter Tryz.func90,Tryz.ntmps90
    go_wp2_with (first
     |(go_at_call 70;(with_reducible refine(HI.out _).mono ?_);rintro e w1 ⟨rfl,rfl⟩;rw[←HZ.out];clear HI)
     |(go_at_call 70;(with_reducible refine(HJ.out _).mono ?_);rintro e w1 ⟨rfl,rfl⟩;rw[←HY.out];clear HJ))
    go_ret
    exact⟨rfl,hl⟩
  ·have k1:z<0:=by rw[g1];exact hc
   rw[if_neg (by simpa using hc)]
   clear g1 g2 hc HY HJ
   go_enter Tryz.func90,Tryz.ntmps90
   go_wp2_with (first
    |(go_at_call 70;(with_reducible refine(HI.out _).mono ?_);rintro e w1 ⟨rfl,rfl⟩;rw[←HZ.out];clear HI)
    | fail)
   go_ret
   exact⟨rfl,hl⟩
 ·have f3:((m.toNat:Int) != 115)=true:=by rw[h115];simp[e3]
  have hs:sepB ifs (c,m)=false:=by simp[sepB,e3]
  rw[hs]
  clear h101 h98 h115 e1 e2 e3 hs HI HJ
  go_enter Tryz.func90,Tryz.ntmps90
  go_wp2
  go_ret
  exact⟨rfl,hl⟩
end Jo
end Go.Proofs.YtipdgmjplnibeaaGreatDoor
