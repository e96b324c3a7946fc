import Derived.Test.YtipdgmjplnibeaaGreatDoorG03
import Derived.Test.YtipdgmjplnibeaaGreatDoorG13
import Derived.Test.YtipdgmjplnibeaaGreatDoorHb
import Derived.Test.YtipdgmjplnibeaaGreatDoorG05
import Derived.Test.YtipdgmjplnibeaaGreatDoorG06
import Derived.RangeFuncBox
import Derived.RangeFuncRecord
import Derived.RangeFuncCalls
import Derived.WalkKit
import Derived.OrdersIn
import Derived.TacticsIn
import Derived.Test.YtipdgmjplnibeaaGreatDoorG10
namespace Go.Proofs.YtipdgmjplnibeaaGreatDoor
namespace Ey
open En (E)
abbrev B:=List UInt8
abbrev Rw:=Jo.Rw
abbrev P:=Wd.P
inductive Res where
 | ok (r:Rw) (e:E)
 | bad (n:Nat) (t:B)
 | big
def Sm (e:E):Bool:=decide (e.vars.length≤1000) && e.vars.all (fun p=>decide (p.2.length≤100000)) && decide (e.args.length≤1000) && e.args.all (fun x=>decide (x.length≤100000)) && decide (e.status≤1000000) && decide (e.flags.length≤1000)
def pt (t:B) (c:UInt8):Rw:=if t=[]∧c=113 then [(0,101)] else t.map fun x=>(x,c)
def lt (q:Bool):UInt8:=if q=true then 113 else 115
def ptR (t:B) (c:UInt8) (e:E):Res:=if t.length≤100000 then .ok (pt t c) e else .big
def solid (r:Rw):Rw:=r.filter fun y=>!(y.2==101)
def flat (r:Rw):B:=(solid r).map (·.1)
def LEN:B:=[108,101,110]
def HOME:B:=[72,79,77,69]
def without:B:=[45,61,63,43]
def need (p:P):Bool:=!(decide (p.t=[64]) || decide (p.t=[42])) && !(p.o.any fun x=>without.contains x)
def parted (p:P):Bool:=decide (p.o=[]) && (decide (p.t=[64]) || (decide (p.t=[42]) && !p.q))
def args (c:UInt8):List B→Rw
 | []=>[]
 | x::l=>pt x c++l.flatMap fun y=>(32,98)::pt y c
def noLit (r:Rw):Bool:=r.all fun y=>!(y.2==108)
def Res.then (x:Res) (f:Rw→E→Res):Res:=match x with
 | .ok r e=>f r e
 | .bad n t=>.bad n t
 | .big=>.big
def parF (row:E→List P→Res) (e:E) (p:P):Res:=
 if parted p=true then (if (args (lt p.q) e.args).length≤100000 then .ok (args (lt p.q) e.args) e else .big)
 else if (En.get Ar.nameB e p.t).2=false∧need p=true then (if e.flags.contains 117=true then .bad 23 p.t else .big)
 else if p.o=LEN then .big
 else if Pm.does p.o (En.get Ar.nameB e p.t).1 (En.get Ar.nameB e p.t).2=1 then
  (if Pm.trims p.o=true∨(En.get Ar.nameB e p.t).2=false then .big else ptR (En.get Ar.nameB e p.t).1 (lt p.q) e)
 else if Pm.does p.o (En.get Ar.nameB e p.t).1 (En.get Ar.nameB e p.t).2=3 then
  (if Ar.nameB p.t=true∧(En.get Ar.nameB e p.t).2=false then (row e p.w).then fun r e'=>if Sm (En.set Ar.nameB e' p.t (flat r))=true then ptR (flat r) (lt p.q) (En.set Ar.nameB e' p.t (flat r)) else .big else .big)
 else .big
def lk (e:E) (n:B):Int:=(Ar.look e.vars n).getD 0
def has2 (e:E):Bool:=(Ar.look e.vars [120]).isSome && (Ar.look e.vars [121]).isSome && e.vars.all fun p=>decide (p.1.length≤4000) && decide (p.2.length≤4000)
def sumT:B:=[120,43,36,121]
def gtT:B:=[120,62,121]
def arithN (e:E) (t:B):Int:=if t=sumT then Go.RowKit.wrap64 (lk e [120]+lk e [121]) else if lk e [121]<lk e [120] then 1 else 0
def arithR (q:Bool) (e:E) (t:B):Res:=if (t=sumT∨t=gtT)∧has2 e=true then ptR (Lib.itoa (arithN e t)) (lt q) e else .big
def partF (row:E→List P→Res) (e:E) (p:P):Res:=
 if p.t.length≤100000∧p.o.length≤100000∧(p.o.all fun x=>decide (x.toNat<128))=true then
  if p.k=1 then .ok (pt p.t 108) e
  else if p.k=2 then .ok (pt p.t 113) e
  else if p.k=3 then parF row e p
  else if p.k=4 then arithR p.q e p.t
  else if p.k=5 then (if (En.get Ar.nameB e HOME).2=true then ptR (En.get Ar.nameB e HOME).1 113 e else .ok (pt [126] 108) e)
  else .big
 else .big
def rowF (part:E→P→Res):E→List P→Rw→Res
 | e,[],r=>.ok r e
 | e,p::l,r=>(part e p).then fun r' e'=>if (r++r').length≤100000 then rowF part e' l (r++r') else .big
def rowD:Nat→E→List P→Res
 | 0,_,_=>.big
 | d+1,e,l=>if l.length≤1000 then rowF (partF (rowD d)) e l [] else .big
def told (e:E) (raw:B) (y:List P×Nat):Res:=if y.2≠0 then .bad y.2 raw else rowD 10 e y.1
def word (e:E) (raw:B):Res:=told e raw (Wd.parse raw)
end Ey
end Go.Proofs.YtipdgmjplnibeaaGreatDoor
namespace Go.Proofs.YtipdgmjplnibeaaGreatDoor
open Go.RowKit
structure Rng where
 D:Nat
 fn:FuncId
 tmps:Array Value
 ps:Array Tmp
 assign:Code
 body:Code
def Rng.record (r:Rng) (st:LoopState) (pe:Option Code):Loop:={ state:=st,pending:=pe,fn:=r.fn,tmps:=r.tmps,params:=r.ps,assign:=r.assign,body:=r.body,defers:=r.D }
def Rng.At (r:Rng) (st:LoopState) (pe:Option Code) (w:World):Prop:=w.heap[r.D+1]?=some (.loop (r.record st pe))∧w.heap[r.D]?=some (.deferred (some []))
def Rng.Turn (r:Rng) (w w':World):Prop:=(∃ x y,r.At x y w)∧∃ o,w'=w.putObj (r.D+1) o
section
variable {r:Rng} {w w':World}
theorem Rng.Turn.grown (h:r.Turn w w'):w.grownBy w' (some (r.D+1)):=by
 obtain⟨_,o,rfl⟩:=h
 exact grownBy_putObj' w _ o
theorem Rng.Turn.size (h:r.Turn w w'):w'.heap.size=w.heap.size:=by
 obtain⟨_,o,rfl⟩:=h
 exact World.putObj_size
theorem Rng.Turn.below {B:Nat} (h:r.Turn w w') (hB:B≤r.D+1) (hw:B≤w.heap.size):Below B w w':=(Below.refl B w).grown h.grown hw fun k e=>by cases e;exact hB
theorem Rng.Turn.boxed {B:Nat} {t:TypeId} {v:Value} (h:r.Turn w w') (hb:Boxed w B t v):Boxed w' B t v:=by
 refine hb.kept h.grown fun e=>?_
 obtain⟨⟨x,y,hl,_⟩,_⟩:=h
 cases e
 rw[show w.heap[r.D+1]?=_ from hb] at hl
 cases hl
theorem Rng.Turn.own {base n size:Nat} {e:TypeId} {v:Value} {xs:List Value} (h:r.Turn w w') (ho:w.ownsRow base e size v n xs):w'.ownsRow base e size v n xs:=by
 obtain⟨⟨x,y,hl,_⟩,o,rfl⟩:=h
 exact ownsRow_putObj ho o hl rfl
theorem Rng.At.lt {x:LoopState} {y:Option Code} (h:r.At x y w):r.D+1<w.heap.size:=(Array.getElem?_eq_some_iff.1 h.1).1
theorem Rng.At.keep {x:LoopState} {y:Option Code} (h:r.At x y w) (hk:KeepsOthers w w'):r.At x y w':=⟨hk.same _ _ h.1 rfl,hk.same _ _ h.2 rfl⟩
theorem Rng.At.turn {x x':LoopState} {y y':Option Code} (h:r.At x y w):r.At x' y' (w.putObj (r.D+1) (.loop (r.record x' y'))):=⟨World.putObj_heap_same h.lt,(World.putObj_heap_other (by omega)).trans h.2⟩
end
theorem others_of_below {w w':World} (h:Below w.heap.size w w'):KeepsOthers w w':=⟨h.size,fun k _ hk _=>(h.block k (Array.getElem?_eq_some_iff.1 hk).1).trans hk⟩
variable {F:Fence} {n:Nat} {P:Program}
def Rng.out (r:Rng) (R:Ending→World→Prop):Exit→Act→World→Prop
 | .normal,_,w=>r.At .busy none w∧∀ w',r.Turn w w'→r.At .ready none w'→R (.returned (.bool true)) w'
 | .ret,_,w=>r.At .busy none w∧∀ w',r.Turn w w'→r.At .done (some .ret) w'→R (.returned (.bool false)) w'
 | .exit id,_,w=>r.At .busy none w∧∀ w',r.Turn w w'→r.At .done (some (.exit id)) w'→R (.returned (.bool false)) w'
 | _,_,_=>False
theorem Rng.yield {r:Rng} {args:Array Value} {W:World} {R:Ending→World→Prop} (h:r.At .ready none W) (hF:F.fn r.fn) (hs:args.size=r.ps.size)
  (hw:r.assign.wpIn (F.inRound (r.D+1)) n P (Exit.then (fun a' Wa=>r.At .ready none Wa∧∀ W2,r.Turn Wa W2→r.At .busy none W2→r.body.wpIn (F.inRound (r.D+1)) n P (r.out R) a' W2) (fun _ _ _=>False))
   { tmps:=(r.ps.zip args).foldl (fun t (p,v)=>t.setIfInBounds p v) r.tmps,defers:=[] } W):YieldAt F n P (r.D+1) args W R:=by
 refine⟨r.fn,_,r.assign,r.body,run_yield h.1 hs,roundIn_of_wpIn hF (wpIn_mono hw ?_)⟩
 intro e a' Wa he
 cases e with
 | normal=>
  obtain⟨hat,hb⟩:=he
  refine⟨_,run_beginRound hat.1 rfl,wpIn_mono (hb _ ⟨⟨_,_,hat⟩,_,rfl⟩ (hat.turn (x':=.busy) (y':=none))) ?_⟩
  intro e a3 W3 he
  have fin:∀ (j:Option Code),r.At .busy none W3→(Instr.endRound (r.D+1) j).run P W3=.ok (.bool j.isNone) (W3.putObj (r.D+1) (.loop (r.record (if j.isNone then .ready else .done) j))):=fun j hb3=>run_endRound j hb3.1
  cases e with
  | normal=>exact⟨_,_,fin none he.1,he.2 _ ⟨⟨_,_,he.1⟩,_,rfl⟩ he.1.turn⟩
  | ret=>exact⟨_,_,fin (some .ret) he.1,he.2 _ ⟨⟨_,_,he.1⟩,_,rfl⟩ he.1.turn⟩
  | exit id=>exact⟨_,_,fin (some (.exit id)) he.1,he.2 _ ⟨⟨_,_,he.1⟩,_,rfl⟩ he.1.turn⟩
  | goto t=>exact he.elim
  | panic ch=>exact he.elim
  | outgrown=>exact he.elim
 | ret=>exact he.elim
 | exit id=>exact he.elim
 | goto t=>exact he.elim
 | panic ch=>exact he.elim
 | outgrown=>exact he.elim
theorem wpIn_rangeFunc_at {g:Operand} {ps:Array Tmp} {assign body:Code} {Q:Exit→Act→World→Prop} {a:Act} {w:World} (hro:F.round=none) (h1:1≤n) {gf:Nat} {lb:Array Value}
  (hg:a.eval g=.func (.func gf) #[] lb) (hFg:F.fn gf) (eg:∀ args w,(callFunc gf args).run P w=.ok (.enter gf args) w)
  (h:∀ fn,F.fn fn→∀ r:Rng,r=⟨w.heap.size,fn,a.tmps,ps,assign,body⟩→∀ W1,r.At .ready none W1→Below w.heap.size w W1→W1.heap.size=w.heap.size+2 →
   CallsIn F (n-1) P gf (#[.func (.yield (r.D+1)) #[] #[]]++lb) W1 fun e W2=>(∃ v,e=.returned v)∧∃ x pe,r.At x pe W2∧x≠.busy∧∀ W3,r.Turn W2 W3→W3.heap[r.D]?=some (.deferred (some [])) →
    match pe with
    | none=>Q .normal { a with defers:={ target:=.collected r.D,args:=#[] }::a.defers } W3
    | some c=>c.wpIn F n P Q { a with defers:={ target:=.collected r.D,args:=#[] }::a.defers } W3) :
  (Code.rangeFunc g ps assign body).wpIn F n P Q a w:=by
 refine wpIn_rangeFunc fun fn hfn=>?_
 rw[hro]
 let r:Rng:=⟨w.heap.size,fn,a.tmps,ps,assign,body⟩
 let W0:=w.alloc (.deferred (some []))
 let W1:=W0.alloc (.loop (r.record .ready none))
 have hz:W0.heap.size=w.heap.size+1:=World.size_alloc ..
 have hat:r.At .ready none W1:=⟨by have:=World.alloc_heap_new W0 (.loop (r.record .ready none));rwa[hz] at this,(Below.heap_alloc _ _ _ (by rw[hz];exact Nat.lt_succ_self _)).trans (World.alloc_heap_new w _)⟩
 have hb:Below w.heap.size w W1:=((Below.refl _ w).alloc (Nat.le_refl _) _).alloc (by rw[hz];omega) _
 refine⟨w.heap.size+1,[{ target:=.collected w.heap.size,args:=#[] }],W1,{ target:=.fn (.func gf) lb,args:=#[.func (.yield (w.heap.size+1)) #[] #[]] },W1,gf,#[.func (.yield (w.heap.size+1)) #[] #[]]++lb,W1,
  run_enterLoop_outer _ _ _ _ _,?_,?_,?_,fun _=>h1,?_⟩
 ·simp only[resolve,hg]
  simp[go_sem]
 ·intro f' hf';simp[Target.leads] at hf';subst hf';exact hFg
 ·simp[invoke,go_sem,eg]
 ·refine(h fn hfn r rfl W1 hat hb (by rw[show W1.heap.size=W0.heap.size+1 from World.size_alloc ..,hz])).mono ?_
  rintro e W2 ⟨⟨v,rfl⟩,x,pe,h2,hx,hq⟩
  have hend:=run_endLoop (P:=P) h2.1 hx
  have h3:=hq (W2.putObj (r.D+1) (.loop (r.record .exhausted pe))) ⟨⟨_,_,h2⟩,_,rfl⟩ ((World.putObj_heap_other (by omega)).trans h2.2)
  cases pe with
  | none=>exact⟨none,_,hend,h3⟩
  | some c=>exact⟨some c,_,hend,h3⟩
end Go.Proofs.YtipdgmjplnibeaaGreatDoor
namespace Go.Proofs.YtipdgmjplnibeaaGreatDoor
open Go.RowKit
def Free (F:Fence):Prop:=F=Fence.wide∨∃ l,F=Fence.wide.inRound l
theorem Free.wide:Free Fence.wide:=.inl rfl
theorem Free.round (l:Nat):Free (Fence.wide.inRound l):=.inr ⟨l,rfl⟩
theorem roundIn_wide {m m':Nat} {P:Program} {l:Nat} {f:FuncId} {tmps:Array Value} {assign body:Code} {w:World} {R:Ending→World→Prop} (h:RoundIn Fence.wide m P l f tmps assign body w R):RoundIn Fence.wide m' P l f tmps assign body w R:=
 ⟨h.1,fun c cs _=>h.2 c cs (room_wide _)⟩
section
variable {P:Program} {F:Fence} {n:Nat} {ops:Array Oper} {Q:Exit→Act→World→Prop} {a0:Act} {C:List Bool→World→Prop} {R:Nat→Value→World→Prop}
theorem Free.fn (hF:Free F) (f:FuncId):F.fn f:=by rcases hF with rfl | ⟨l,rfl⟩ <;> exact trivial
theorem Free.depth (hF:Free F):F.depth.isSome=true→1≤n:=by rcases hF with rfl | ⟨l,rfl⟩ <;> (intro h;cases h)
theorem Free.calls (hF:Free F) {f:FuncId} {args:Array Value} {w:World} {R:Ending→World→Prop} (h:Calls P f args w R):CallsIn F n P f args w R:=by
 rcases hF with rfl | ⟨l,rfl⟩
 ·exact callsIn_wide.2 h
 ·exact CallsIn.inRound l (callsIn_wide.2 h)
theorem Free.rnd (hF:Free F) {m l:Nat} {f:FuncId} {tmps:Array Value} {assign body:Code} {w:World} {R:Ending→World→Prop} (h:RoundIn Fence.wide m P l f tmps assign body w R):RoundIn F n P l f tmps assign body w R:=by
 rcases hF with rfl | ⟨k,rfl⟩
 ·exact roundIn_wide h
 ·exact(roundIn_wide h:RoundIn Fence.wide n P l f tmps assign body w R)
theorem Free.sem (hF:Free F) (ρ:Operand→Value) (o:Oper) (h:∀ c,o.op≠.defer c):o.semAt F.round ρ=execOp ρ o:=by
 rcases hF with rfl | ⟨k,rfl⟩
 ·rfl
 ·exact Oper.semAt_some k _ _ h
theorem wpIn_of_val (hF:Free F) {o:Oper} {a:Act} {w:World} {K:Act→World→Prop} (hd:∀ c,o.op≠.defer c) (h:ValWp P o a.eval w fun v w'=>K (a.put o.dst v) w'):Oper.wpIn F n P o a w K Q:=by
 refine⟨fun f _=>hF.fn f,?_⟩
 rw[hF.sem _ _ hd]
 unfold ValWp at h
 generalize (execOp a.eval o).run P w=r at *
 cases r with
 | ok x w'=>
  cases x <;> simp only[Oper.uponIn] at h⊢
  case value v=>exact h
  case skip=>exact h
  case enter f args=>exact⟨hF.depth,hF.calls (h.mono fun e w'' ⟨v,he,hk⟩=>by subst he;exact hk)⟩
 | halt x w'=>simp at h
theorem wpIn_of_yield (hF:Free F) {o:Oper} {a:Act} {w:World} {K:Act→World→Prop} {x:Operand} {xs:Array Operand} {ats:Array TypeId} {m l:Nat} (args:Array Value) (ho:o.op=.call { callee:=.value x,args:=xs,argTypes:=ats }) (hx:a.eval x=.func (.yield l) #[] #[]) (hv:xs.map a.eval=args)
  (hY:YieldAt Fence.wide m P l args w fun e w'=>∃ v,e=.returned v∧K (a.put o.dst v) w'):Oper.wpIn F n P o a w K Q:=by
 obtain⟨fn,tmps,assign,body,hy,hR⟩:=hY
 refine⟨fun f _=>hF.fn f,?_⟩
 rw[hF.sem _ _ (fun c h=>by rw[ho] at h;cases h)]
 have e1:(execOp a.eval o).run P w=.ok (.round l fn tmps assign body) w:=by
  subst hv
  unfold execOp
  simpa [ho,resolve,Deferred.ofValue,invoke,hx] using hy
 rw[e1]
 exact⟨hF.depth,hF.rnd (hR.mono fun e w'' ⟨v,he,hk⟩=>by subst he;exact hk)⟩
theorem wpAnyIn_softA {C:Array Bool→Act→World→Prop} {G:World→World→Prop} (hF:Free F) (hok:SoftOk ops a0.tmps.size) (hmono:∀ i v w w',G w w'→R i v w→R i v w')
  (hstep:∀ (i:Nat) o,ops[i]?=some o→∀ (listed:Array Bool) (a:Act) (w:World),listed.size=ops.size→listed.getD i true=false→(∀ e∈o.after,Region.binds .any e=true→listed.getD e.on false=true)→C listed a w→a.tmps.size=a0.tmps.size→Sees ops a0 R o a w→∀ K:Act→World→Prop,
   (∀ v w',R i (if o.dst.isSome then v else undef) w'→C (listed.setIfInBounds i true) (a.put o.dst v) w'→G w w'→K (a.put o.dst v) w') →
   if Region.wanted o (yielded ops a.tmps)=true then Oper.wpIn F n P o a w K Q else K (a.put o.dst undef) w)
  (hQ:∀ (listed:Array Bool) a w,(∀ i,i<ops.size→listed.getD i false=true)→C listed a w→Fits ops a0 R (Array.replicate ops.size true) a w→Q .normal a w) :
  ∀ (fuel:Nat) (listed:Array Bool) (a:Act) (w:World),open_ listed≤fuel→C listed a w→Fits ops a0 R listed a w→wpAnyIn F n P .any ops Q fuel listed a w:=by
 have hend:∀ (listed:Array Bool) (a:Act) (w:World),C listed a w→Fits ops a0 R listed a w→Region.ready .any ops listed=[]→Q .normal a w:=by
  intro listed a w hC h hr
  have hall:=ready_nil h.lsize hok hr
  refine hQ listed a w hall hC ⟨by simp,h.defers,h.size,fun t ht=>h.outer t fun i o ho hl=>ht i o ho (by have:=(Array.getElem?_eq_some_iff.1 ho).1;simp[this]),fun i o ho _=>h.inner i o ho (hall i (Array.getElem?_eq_some_iff.1 ho).1)⟩
 intro fuel
 induction fuel with
 | zero=>
  intro listed a w hf hC h
  have hz:=open_zero (Nat.le_zero.1 hf)
  have hr:Region.ready .any ops listed=[]:=by
   rw[List.eq_nil_iff_forall_not_mem]
   intro i hi
   have:=(mem_ready.1 hi).1
   rw[hz i] at this
   cases this
  exact⟨hr,hend listed a w hC h hr⟩
 | succ fuel ih=>
  intro listed a w hf hC h
  refine⟨hend listed a w hC h,fun i hi=>?_⟩
  obtain⟨hun,o,ho,hdeps⟩:=mem_ready.1 hi
  have hin:i<listed.size:=by rw[h.lsize];exact(Array.getElem?_eq_some_iff.1 ho).1
  have hst:=hstep i o ho listed a w h.lsize hun hdeps hC h.size (h.sees hi ho) (wpAnyIn F n P .any ops Q fuel (listed.setIfInBounds i true)) fun v w' hR hC' hG=>
   ih _ _ _ (by have:=open_set hin hun;omega) hC' (h.step (C:=fun _=>True) hok (fun i v w w' _=>hmono i v w w') ho trivial hG hR)
  unfold wpOpIn
  rw[ho]
  dsimp only
  split
  ·rename_i hw;rw[if_pos hw] at hst;exact hst
  ·rename_i hw;rw[if_neg hw] at hst;exact⟨fun f _=>hF.fn f,hst⟩
def OwesI (F:Fence) (n:Nat) (P:Program) (ops:Array Oper) (Q:Exit→Act→World→Prop) (C:List Bool→World→Prop) (ps:List Nat) (R:Nat→Value→World→Prop) (a0:Act) (i:Nat) (o:Oper):Prop:=
 ∀ (a:Act) (w:World) (bits:List Bool),C bits w→(∀ (k p:Nat),ps[k]?=some p→(depOn ops i p=true∨∃ q,depOn ops i q=true∧depOn ops q p=true)→bits[k]?=some true)→(∀ (k p:Nat),ps[k]?=some p→(p=i∨depOn ops p i=true)→bits[k]?=some false)→Sees ops a0 R o a w →
  (Region.wanted o (yielded ops a.tmps)=true∧∀ K:Act→World→Prop,(∀ v w',R i (if o.dst.isSome then v else undef) w'→C (setAt ps i bits) w'→K (a.put o.dst v) w')→Oper.wpIn F n P o a w K Q) ∨
  (Region.wanted o (yielded ops a.tmps)=false∧R i undef w∧C (setAt ps i bits) w)
theorem OwesI.q (hF:Free F) {ps:List Nat} {i:Nat} {o:Oper} (hi:idx ps i=none) (hnd:∀ c,o.op≠.defer c) (h:∀ (a:Act) (w:World) (bits:List Bool),C bits w→(∀ (k p:Nat),ps[k]?=some p→(depOn ops i p=true∨∃ q,depOn ops i q=true∧depOn ops q p=true)→bits[k]?=some true)→(∀ (k p:Nat),ps[k]?=some p→(p=i∨depOn ops p i=true)→bits[k]?=some false)→Sees ops a0 R o a w →
  Region.wanted o (yielded ops a.tmps)=true∧ValWp P o a.eval w fun v w'=>R i (if o.dst.isSome then v else undef) w'∧w'=w):OwesI F n P ops Q C ps R a0 i o:=fun a w bits hC hd hu hs=>by
 obtain⟨h1,h2⟩:=h a w bits hC hd hu hs
 refine .inl ⟨h1,fun K hK=>wpIn_of_val hF hnd (h2.mono fun v w' hk=>hK v w' hk.1 ?_)⟩
 obtain⟨_,rfl⟩:=hk
 unfold setAt
 rw[hi]
 exact hC
theorem OwesI.off {ps:List Nat} {i:Nat} {o:Oper} (hi:idx ps i=none) (h:∀ (a:Act) (w:World),Sees ops a0 R o a w→Region.wanted o (yielded ops a.tmps)=false∧R i undef w):OwesI F n P ops Q C ps R a0 i o:=fun a w bits hC hd hu hs=>by
 obtain⟨h1,h2⟩:=h a w hs
 refine .inr ⟨h1,h2,?_⟩
 unfold setAt
 rw[hi]
 exact hC
def OwesAllI (F:Fence) (n:Nat) (P:Program) (ops:Array Oper) (Q:Exit→Act→World→Prop) (C:List Bool→World→Prop) (ps:List Nat) (R:Nat→Value→World→Prop) (a0:Act):Nat→List Oper→Prop
 | _,[]=>True
 | k,o::l=>OwesI F n P ops Q C ps R a0 k o∧OwesAllI F n P ops Q C ps R a0 (k+1) l
theorem owesAllI_at {ps:List Nat}:∀ (l:List Oper) (k i:Nat) (o:Oper),OwesAllI F n P ops Q C ps R a0 k l→l[i]?=some o→OwesI F n P ops Q C ps R a0 (k+i) o
 | [],_,i,o,_,h=>by simp at h
 | x::l,k,0,o,h,ho=>by simp at ho;subst ho;exact h.1
 | x::l,k,i+1,o,h,ho=>by
  have:=owesAllI_at l (k+1) i o h.2 (by simpa using ho)
  rwa[show k+1+i=k+(i+1) by omega] at this
theorem wpIn_region_bits (hF:Free F) {id:Nat} {w:World} {l:List Oper} (hm:P.follows .mixedOrders=true) (ps:List Nat) (C:List Bool→World→Prop) (rv:List (Option Value)) (hps:∀ p∈ps,p<l.length) (hnd:ps.Nodup) (hok:softB l.toArray a0.tmps.size=true)
  (hC:C (ps.map fun _=>false) w.drew) (hstep:OwesAllI F n P l.toArray Q C ps (RV rv) a0 0 l)
  (hQ:∀ a w,C (ps.map fun _=>true) w→a.defers=a0.defers→a.tmps.size=a0.tmps.size→(∀ t,freeTmp l.toArray t=true→a.tmps.getD t undef=a0.tmps.getD t undef)→(∀ (i:Nat) o,l[i]?=some o→RV rv i (slotOf o.dst a) w)→Q .normal a w) :
  (Code.region id l.toArray true).wpIn F n P Q a0 w:=by
 have hmono:∀ i v w w',(fun _ _=>True:World→World→Prop) w w'→RV rv i v w→RV rv i v w':=fun i v w w' _ h=>h
 have hso:=SoftOk.of hok
 refine wpIn_region_any hm (wpAnyIn_softA (C:=fun listed _ w=>PhaseB l.toArray ps C listed w) (R:=RV rv) (G:=fun _ _=>True) hF hso hmono (fun i o ho listed a w hsz hun hdeps hc hsize hsee K hK=>?_)
  (fun listed a w hall hc h=>?_) l.toArray.size (Array.replicate l.toArray.size false) a0 w.drew ?_ ?_ ⟨by simp,rfl,rfl,fun _ _=>rfl,fun i o ho hl=>?_⟩)
 ·have hil:i<listed.size:=by rw[hsz];exact(Array.getElem?_eq_some_iff.1 ho).1
  have hf:listed.getD i false=false:=by simp[hil] at hun⊢;exact hun
  have hw:=owesAllI_at l 0 i o hstep (by simpa using ho)
  rw[Nat.zero_add] at hw
  have hdl:=fun d hd=>deps_listed ho hdeps d hd
  have hnew:∀ w',C (setAt ps i (ps.map fun p=>listed.getD p false)) w'→PhaseB l.toArray ps C (listed.setIfInBounds i true) w':=fun w' hC'=>by
   refine⟨by rw[bits_set hnd hil];exact hC',fun p hp d hd=>?_⟩
   by_cases hpi:i=p
   ·subst hpi
    exact listed_more hil (hdl d hd)
   ·rw[getD_set_ne hpi] at hp
    exact listed_more hil (hc.dep p hp d hd)
  rcases hw a w _ hc.c (fun k p hk hd=>by
   rw[List.getElem?_map,hk]
   simp only[Option.map_some]
   rcases hd with hd | ⟨q,h1,h2⟩
   ·rw[hdl p hd]
   ·rw[hc.dep q (hdl q h1) p h2]) (fun k p hk hd=>by
   rw[List.getElem?_map,hk]
   simp only[Option.map_some]
   rcases hd with rfl | hd
   ·rw[hf]
   ·cases e:listed.getD p false with
    | false=>rfl
    | true=>rw[hc.dep p e i hd] at hf;cases hf) hsee with⟨hw1,hw2⟩ | ⟨hw1,hw2,hw3⟩
  ·rw[if_pos hw1]
   exact hw2 K fun v w' hR hC'=>hK v w' hR (hnew w' hC') trivial
  ·rw[hw1]
   simp only[Bool.false_eq_true,if_false]
   exact hK undef w (by simpa using hw2) (hnew w hw3) trivial
 ·refine hQ a w ?_ h.defers h.size (fun t ht=>h.outer t fun j oj' hj _ hd=>?_) fun i o ho=>h.inner i o (by simpa using ho) (by have:=(List.getElem?_eq_some_iff.1 ho).1;simp[this])
  ·have:=hc.c
   rwa[List.map_congr_left (g:=fun _=>true) fun p hp=>hall p (by simpa using hps p hp)] at this
  unfold freeTmp at ht
  rw[List.all_eq_true] at ht
  have:=ht oj' (Array.mem_toList_iff.2 (Array.mem_of_getElem? hj))
  simp[hd] at this
 ·unfold open_;exact Nat.le_trans List.countP_le_length (by simp)
 ·have hz:∀ p:Nat,(Array.replicate l.toArray.size false).getD p false=false:=fun p=>by by_cases hp:p<l.length <;> simp[hp]
  refine⟨?_,fun p hp=>by rw[hz] at hp;cases hp⟩
  rwa[List.map_congr_left (g:=fun _=>false) fun p _=>hz p]
 ·exfalso
  have hi:=(Array.getElem?_eq_some_iff.1 ho).1
  rw[List.size_toArray] at hi
  simp[hi] at hl
end
theorem allAt_tmps {t:Array Value} {d ds:List Deferred}:∀ {l:List Value} {n:Nat},AllAt ⟨t,d⟩ n l→AllAt ⟨t,ds⟩ n l
 | [],_,_=>trivial
 | _::_,_,h=>⟨h.1,allAt_tmps h.2⟩
theorem act_litD {a:Act} {l:List Value} {ds:List Deferred} (hd:a.defers=ds) (hsz:a.tmps.size=l.length) (h:AllAt a 0 l):a=⟨l.toArray,ds⟩:=by
 obtain⟨t,d⟩:=a
 simp only at hd
 subst hd
 have:=act_lit (a:=⟨t,[]⟩) (l:=l) rfl hsz (allAt_tmps h)
 injection this with e
 rw[e]
section
variable {F:Fence} {n:Nat} {P:Program}
theorem wpIn_rangeFunc_at2 {g:Operand} {ps:Array Tmp} {assign body:Code} {Q:Exit→Act→World→Prop} {a:Act} {w:World} (hro:F.round=none) (h1:1≤n) {gf:Nat} {lb:Array Value}
  (hg:a.eval g=.func (.func gf) #[] lb) (hFg:F.fn gf) (eg:∀ args w,(callFunc gf args).run P w=.ok (.enter gf args) w)
  (h:∀ fn,F.fn fn→∀ r:Rng,r=⟨w.heap.size,fn,a.tmps,ps,assign,body⟩→∀ W1,r.At .ready none W1→Below w.heap.size w W1→W1.heap.size=w.heap.size+2 →
   CallsIn F (n-1) P gf (#[.func (.yield (r.D+1)) #[] #[]]++lb) W1 fun e W2=>(∃ v,e=.returned v)∧∃ x pe,r.At x pe W2∧x≠.busy∧∀ W3,r.Turn W2 W3→r.At .exhausted pe W3 →
    match pe with
    | none=>Q .normal { a with defers:={ target:=.collected r.D,args:=#[] }::a.defers } W3
    | some c=>c.wpIn F n P Q { a with defers:={ target:=.collected r.D,args:=#[] }::a.defers } W3) :
  (Code.rangeFunc g ps assign body).wpIn F n P Q a w:=by
 refine wpIn_rangeFunc fun fn hfn=>?_
 rw[hro]
 let r:Rng:=⟨w.heap.size,fn,a.tmps,ps,assign,body⟩
 let W0:=w.alloc (.deferred (some []))
 let W1:=W0.alloc (.loop (r.record .ready none))
 have hz:W0.heap.size=w.heap.size+1:=World.size_alloc ..
 have hat:r.At .ready none W1:=⟨by have:=World.alloc_heap_new W0 (.loop (r.record .ready none));rwa[hz] at this,(Below.heap_alloc _ _ _ (by rw[hz];exact Nat.lt_succ_self _)).trans (World.alloc_heap_new w _)⟩
 have hb:Below w.heap.size w W1:=((Below.refl _ w).alloc (Nat.le_refl _) _).alloc (by rw[hz];omega) _
 refine⟨w.heap.size+1,[{ target:=.collected w.heap.size,args:=#[] }],W1,{ target:=.fn (.func gf) lb,args:=#[.func (.yield (w.heap.size+1)) #[] #[]] },W1,gf,#[.func (.yield (w.heap.size+1)) #[] #[]]++lb,W1,
  run_enterLoop_outer _ _ _ _ _,?_,?_,?_,fun _=>h1,?_⟩
 ·simp only[resolve,hg]
  simp[go_sem]
 ·intro f' hf';simp[Target.leads] at hf';subst hf';exact hFg
 ·simp[invoke,go_sem,eg]
 ·refine(h fn hfn r rfl W1 hat hb (by rw[show W1.heap.size=W0.heap.size+1 from World.size_alloc ..,hz])).mono ?_
  rintro e W2 ⟨⟨v,rfl⟩,x,pe,h2,hx,hq⟩
  have hend:=run_endLoop (P:=P) h2.1 hx
  have h3:=hq (W2.putObj (r.D+1) (.loop (r.record .exhausted pe))) ⟨⟨_,_,h2⟩,_,rfl⟩ h2.turn
  cases pe with
  | none=>exact⟨none,_,hend,h3⟩
  | some c=>exact⟨some c,_,hend,h3⟩
end
end Go.Proofs.YtipdgmjplnibeaaGreatDoor
