/- A statement of open order in which several operations write, each waiting for the one before it (a call, a literal, an append, a store): between them the world is as C j says, with the last writer's value. All others leave the world as it is. No premises. -/
import Derived.Test.YtkkchkkpnlnbgaaGreatDoorNb
import Derived.Test.YtkkchkkpnlnbgaaGreatDoorNn
import Derived.Test.YtkkchkkpnlnbgaaGreatDoorNm
import Derived.Deep.MidRow
import Derived.Deep.WholeRow
import Derived.Laws.Rows
set_option maxRecDepth 100000
set_option maxHeartbeats 800000
namespace Go.Proofs.YtkkchkkpnlnbgaaGreatDoor
open Go.RowKit
section
variable {P:Program} {ops:Array Oper} {Q:Exit→Act→World→Prop} {a0:Act} {C:Nat→Value→World→Prop} {R:Nat→Value→World→Prop}
def RV (rv:List (Option Value)) (i:Nat) (v:Value) (_:World):Prop:=match rv[i]? with
 | some (some x)=>v=x
 | _=>True
def idx:List Nat→Nat→Option Nat
 | [],_=>none
 | p::ps,n=>if n=p then some 0 else (idx ps n).map (·+1)
theorem idx_some {ps:List Nat} {n j:Nat} (h:idx ps n=some j):ps[j]?=some n:=by
 induction ps generalizing j with
 | nil=>cases h
 | cons p ps ih=>
  unfold idx at h
  split at h
  ·rename_i e;cases h;simp[e]
  ·cases e:idx ps n with
   | none=>rw[e] at h;cases h
   | some k=>rw[e] at h;cases h;simpa using ih e
theorem idx_none {ps:List Nat} {n:Nat} (h:idx ps n=none):∀ k:Nat,ps[k]?≠some n:=by
 induction ps with
 | nil=>simp
 | cons p ps ih=>
  unfold idx at h
  split at h
  ·cases h
  ·rename_i e1
   cases e:idx ps n with
   | some k=>rw[e] at h;cases h
   | none=>
    intro k
    cases k with
    | zero=>simpa using fun e2=>e1 e2.symm
    | succ k=>simpa using ih e k
def lastIs (ops:Array Oper) (ps:List Nat) (j:Nat) (a:Act) (u:Value):Prop:=match j with
 | 0=>True
 | j+1=>match (ps[j]?).bind fun p=>(ops[p]?).bind (·.dst) with
  | some t=>a.tmps.getD t undef=u
  | none=>True
def OwesQ (P:Program) (ops:Array Oper) (C:Nat→Value→World→Prop) (ps:List Nat) (R:Nat→Value→World→Prop) (a0:Act) (i:Nat) (o:Oper):Prop:=
 ∀ (a:Act) (w:World) (j:Nat) (u:Value),C j u w→(∀ k p,ps[k]?=some p→depOn ops p i=true→j≤k)→Sees ops a0 R o a w →
  Region.wanted o (yielded ops a.tmps)=true∧ValWp P o a.eval w fun v w'=>R i (if o.dst.isSome then v else undef) w'∧w'=w
def OwesW (P:Program) (ops:Array Oper) (Q:Exit→Act→World→Prop) (C:Nat→Value→World→Prop) (ps:List Nat) (R:Nat→Value→World→Prop) (a0:Act) (i:Nat) (o:Oper) (j:Nat):Prop:=
 ∀ (a:Act) (w:World) (u:Value),C j u w→lastIs ops ps j a u→Sees ops a0 R o a w →
  Region.wanted o (yielded ops a.tmps)=true∧∀ K:Act→World→Prop,(∀ v w',R i (if o.dst.isSome then v else undef) w'→C (j+1) v w'→K (a.put o.dst v) w')→Oper.wp P o a w K Q
def OwesS (P:Program) (ops:Array Oper) (Q:Exit→Act→World→Prop) (C:Nat→Value→World→Prop) (ps:List Nat) (R:Nat→Value→World→Prop) (a0:Act) (i:Nat) (o:Oper):Prop:=
 match idx ps i with
 | some j=>OwesW P ops Q C ps R a0 i o j
 | none=>OwesQ P ops C ps R a0 i o
theorem OwesS.w {ps:List Nat} {i j:Nat} {o:Oper} (h:idx ps i=some j) (hw:OwesW P ops Q C ps R a0 i o j):OwesS P ops Q C ps R a0 i o:=by unfold OwesS;rw[h];exact hw
theorem OwesS.q {ps:List Nat} {i:Nat} {o:Oper} (h:idx ps i=none) (hw:OwesQ P ops C ps R a0 i o):OwesS P ops Q C ps R a0 i o:=by unfold OwesS;rw[h];exact hw
def OwesAllS (P:Program) (ops:Array Oper) (Q:Exit→Act→World→Prop) (C:Nat→Value→World→Prop) (ps:List Nat) (R:Nat→Value→World→Prop) (a0:Act):Nat→List Oper→Prop
 | _,[]=>True
 | n,o::l=>OwesS P ops Q C ps R a0 n o∧OwesAllS P ops Q C ps R a0 (n+1) l
theorem owesAllS_at {ps:List Nat}:∀ (l:List Oper) (n i:Nat) (o:Oper),OwesAllS P ops Q C ps R a0 n l→l[i]?=some o→OwesS P ops Q C ps R a0 (n+i) o
 | [],_,i,o,_,h=>by simp at h
 | x::l,n,0,o,h,ho=>by simp at ho;subst ho;exact h.1
 | x::l,n,i+1,o,h,ho=>by
  have:=owesAllS_at l (n+1) i o h.2 (by simpa using ho)
  rwa[show n+1+i=n+(i+1) by omega] at this
def chainB (ops:Array Oper):List Nat→Bool
 | p::q::ps=>depOn ops q p && chainB ops (q::ps)
 | _=>true
theorem chainB_at {ps:List Nat} (h:chainB ops ps=true):∀ k p q,ps[k]?=some p→ps[k+1]?=some q→depOn ops q p=true:=by
 induction ps with
 | nil=>intro k p q h1;simp at h1
 | cons x ps ih=>
  intro k p q h1 h2
  cases ps with
  | nil=>simp at h2
  | cons y ps=>
   simp only[chainB,Bool.and_eq_true] at h
   cases k with
   | zero=>simp at h1 h2;subst h1;subst h2;exact h.1
   | succ k=>exact ih h.2 k p q (by simpa using h1) (by simpa using h2)
structure PhaseS (ops:Array Oper) (ps:List Nat) (C:Nat→Value→World→Prop) (j:Nat) (u:Value) (listed:Array Bool) (a:Act) (w:World):Prop where
 le:j≤ps.length
 c:C j u w
 last:lastIs ops ps j a u
 at_:∀ k p,ps[k]?=some p→listed.getD p false=decide (k<j)
 dep:∀ k p,ps[k]?=some p→k<j→∀ i,depOn ops p i=true→listed.getD i false=true
theorem nodup_at {ps:List Nat} (h:ps.Nodup) {j k p:Nat} (h1:ps[j]?=some p) (h2:ps[k]?=some p):j=k:=by
 induction ps generalizing j k with
 | nil=>simp at h1
 | cons x ps ih=>
  obtain⟨hx,hn⟩:=List.nodup_cons.1 h
  cases j with
  | zero=>cases k with
   | zero=>rfl
   | succ k=>
    simp only[List.getElem?_cons_zero,Option.some.injEq] at h1
    simp only[List.getElem?_cons_succ] at h2
    subst h1
    exact absurd (List.mem_of_getElem? h2) hx
  | succ j=>cases k with
   | zero=>
    simp only[List.getElem?_cons_zero,Option.some.injEq] at h2
    simp only[List.getElem?_cons_succ] at h1
    subst h2
    exact absurd (List.mem_of_getElem? h1) hx
   | succ k=>exact congrArg (·+1) (ih hn (by simpa using h1) (by simpa using h2))
theorem wp_region_seq {id:Nat} {w:World} {l:List Oper} (hm:P.follows .mixedOrders=true) (ps:List Nat) (C:Nat→Value→World→Prop) (rv:List (Option Value)) (hps:∀ p∈ps,p<l.length) (hnd:ps.Nodup) (hch:chainB l.toArray ps=true) (hok:softB l.toArray a0.tmps.size=true)
  (hC:C 0 undef w.drew) (hstep:OwesAllS P l.toArray Q C ps (RV rv) a0 0 l)
  (hQ:∀ a w u,C ps.length u w→lastIs l.toArray ps ps.length a u→a.defers=a0.defers→a.tmps.size=a0.tmps.size→(∀ t,freeTmp l.toArray t=true→a.tmps.getD t undef=a0.tmps.getD t undef)→(∀ (i:Nat) o,l[i]?=some o→RV rv i (slotOf o.dst a) w)→Q .normal a w) :
  (Code.region id l.toArray true).wp P Q a0 w:=by
 have hmono:∀ i v w w',(fun _ _=>True:World→World→Prop) w w'→RV rv i v w→RV rv i v w':=fun i v w w' _ h=>h
 have hso:=SoftOk.of hok
 refine wp_region_any hm (wpAny_softA (C:=fun listed a w=>∃ j u,PhaseS l.toArray ps C j u listed a w) (R:=RV rv) (G:=fun _ _=>True) hso hmono (fun i o ho listed a w hsz hun hdeps hc hsize hsee K hK=>?_)
  (fun listed a w hall hc h=>?_) l.toArray.size (Array.replicate l.toArray.size false) a0 w.drew ?_ ?_ ⟨by simp,rfl,rfl,fun _ _=>rfl,fun i o ho hl=>?_⟩)
 ·have hil:i<listed.size:=by rw[hsz];exact(Array.getElem?_eq_some_iff.1 ho).1
  have hf:listed.getD i false=false:=by simp[hil] at hun⊢;exact hun
  have hw:=owesAllS_at l 0 i o hstep (by simpa using ho)
  rw[Nat.zero_add] at hw
  unfold OwesS at hw
  obtain⟨j,u,hp⟩:=hc
  have hdl:=fun d hd=>deps_listed ho hdeps d hd
  cases hi:idx ps i with
  | some j0=>
   rw[hi] at hw
   simp only at hw
   have hj0:=idx_some hi
   have h1:=hp.at_ j0 i hj0
   rw[hf] at h1
   have hle:j≤j0:=by simpa using h1.symm
   have hge:j0≤j:=by
    cases j0 with
    | zero=>omega
    | succ k=>
     have hlt:k<ps.length:=by have:=(List.getElem?_eq_some_iff.1 hj0).1;omega
     have h2:ps[k]?=some ps[k]:=by simp[hlt]
     have h3:=hdl _ (chainB_at hch k ps[k] i h2 hj0)
     rw[hp.at_ k _ h2] at h3
     have:=of_decide_eq_true h3
     omega
   have hje:j=j0:=by omega
   subst hje
   obtain⟨hw1,hw2⟩:=hw a w u hp.c hp.last hsee
   rw[if_pos hw1]
   refine hw2 K fun v w' hR hC'=>hK v w' hR ⟨j+1,v,(List.getElem?_eq_some_iff.1 hj0).1,hC',?_,fun k p hk=>?_,fun k p hk hkj d hd=>?_⟩ trivial
   ·show (match (ps[j]?).bind fun p=>(l.toArray[p]?).bind (·.dst) with | some t=>(a.put o.dst v).tmps.getD t undef=v | none=>True)
    rw[hj0]
    simp only[Option.bind_some,ho]
    cases hdst:o.dst with
    | none=>trivial
    | some t=>
     have h9:=slot_put_same (a:=a) (d:=o.dst) (v:=v) (fun t' ht'=>by rw[hsize];exact hso.inn i o t' ho ht')
     rw[hdst] at h9
     simpa [slotOf] using h9
   ·by_cases hpi:i=p
    ·subst hpi
     rw[getD_set_same hil,nodup_at hnd hk hj0]
     simp
    ·rw[getD_set_ne hpi,hp.at_ k p hk]
     have hkj:k≠j:=fun e=>hpi (by rw[e,hj0] at hk;exact Option.some.inj hk)
     simp only[decide_eq_decide]
     omega
   ·by_cases hkj':k=j
    ·subst hkj'
     rw[hj0] at hk
     cases hk
     exact listed_more hil (hdl d hd)
    ·exact listed_more hil (hp.dep k p hk (by omega) d hd)
  | none=>
   rw[hi] at hw
   simp only at hw
   have hni:=idx_none hi
   have hb:∀ k p,ps[k]?=some p→depOn l.toArray p i=true→j≤k:=fun k p hk hd=>by
    by_cases hkj:k<j
    ·have:=hp.dep k p hk hkj i hd
     rw[hf] at this
     cases this
    ·omega
   obtain⟨hw1,hw2⟩:=hw a w j u hp.c hb hsee
   rw[if_pos hw1]
   refine wp_of_val (hw2.mono fun v w' hk=>hK v w' hk.1 ?_ trivial)
   obtain⟨_,rfl⟩:=hk
   refine⟨j,u,hp.le,hp.c,?_,fun k p hk=>?_,fun k p hk hkj d hd=>listed_more hil (hp.dep k p hk hkj d hd)⟩
   ·cases j with
    | zero=>trivial
    | succ j=>
     have h5:=hp.last
     unfold lastIs at h5⊢
     simp only at h5⊢
     cases hpj:ps[j]? with
     | none=>trivial
     | some p=>
      rw[hpj] at h5
      simp only[Option.bind_some] at h5⊢
      cases hpo:l.toArray[p]? with
      | none=>trivial
      | some op=>
       rw[hpo] at h5
       simp only[Option.bind_some] at h5⊢
       cases hpt:op.dst with
       | none=>trivial
       | some t=>
        rw[hpt] at h5
        simp only at h5⊢
        have h9:=slot_put_other (a:=a) (d:=o.dst) (e:=some t) (v:=v) (fun t' ht' e=>hni j (by rw[hpj,hso.one i p o op t' ho hpo ht' (by rw[hpt];exact e)]))
        exact(show (a.put o.dst v).tmps.getD t undef=a.tmps.getD t undef from h9).trans h5
   ·have hpi:i≠p:=fun e=>hni k (by rw[hk,e])
    rw[getD_set_ne hpi,hp.at_ k p hk]
 ·obtain⟨j,u,hp⟩:=hc
  have hje:j=ps.length:=by
   by_cases hlt:j<ps.length
   ·have h2:ps[j]?=some ps[j]:=by simp[hlt]
    have h3:=hp.at_ j _ h2
    rw[hall ps[j] (by simpa using hps _ (List.getElem_mem hlt))] at h3
    simp at h3
   ·have:=hp.le;omega
  subst hje
  refine hQ a w u hp.c hp.last h.defers h.size (fun t ht=>h.outer t fun j oj' hj _ hd=>?_) fun i o ho=>h.inner i o (by simpa using ho) (by have:=(List.getElem?_eq_some_iff.1 ho).1;simp[this])
  unfold freeTmp at ht
  rw[List.all_eq_true] at ht
  have:=ht oj' (Array.mem_toList_iff.2 (Array.mem_of_getElem? hj))
  simp[hd] at this
 ·unfold open_;exact Nat.le_trans List.countP_le_length (by simp)
 ·refine⟨0,undef,Nat.zero_le _,hC,trivial,fun k p hk=>?_,fun k p _ hk=>by omega⟩
  by_cases hp:p<l.length <;> simp[hp]
 ·exfalso
  have hi:=(Array.getElem?_eq_some_iff.1 ho).1
  rw[List.size_toArray] at hi
  simp[hi] at hl
end
end Go.Proofs.YtkkchkkpnlnbgaaGreatDoor
namespace Go.Proofs.YtkkchkkpnlnbgaaGreatDoor
open Go.RowKit Go.Maps
open Lx (Tok nl)
structure Ctx where
 vt:Value
 ms:Nat
 N:Nat
 TS:List Tok
def plus (X:Nat→Prop) (l:List Nat):Nat→Prop:=fun b=>X b∨b∈l
structure Fr (X:Nat→Prop) (w w':World):Prop where
 os:w'.os=w.os
 tape:w'.tape=w.tape
 output:w'.output=w.output
 size:w.heap.size≤w'.heap.size
 block:∀ b,b<w.heap.size→X b→w'.heap[b]?=w.heap[b]?
theorem Fr.refl (X:Nat→Prop) (w:World):Fr X w w:=⟨rfl,rfl,rfl,Nat.le_refl _,fun _ _ _=>rfl⟩
theorem Fr.trans {X:Nat→Prop} {a b c:World} (h:Fr X a b) (k:Fr X b c):Fr X a c:=
 ⟨k.os.trans h.os,k.tape.trans h.tape,k.output.trans h.output,Nat.le_trans h.size k.size,fun i hi hx=>(k.block i (Nat.lt_of_lt_of_le hi h.size) hx).trans (h.block i hi hx)⟩
theorem Fr.later {X:Nat→Prop} {a b:World} (h:Later a b):Fr X a b:=⟨h.os,h.tape,h.output,h.size,fun i hi _=>h.block i hi⟩
theorem Fr.grown {X:Nat→Prop} {a b:World} {row:Option Nat} (h:a.grownBy b row) (hr:∀ x,row=some x→¬ X x):Fr X a b:=
 ⟨h.os,h.tape,h.output,h.size,fun i hi hx=>h.block i hi fun e=>hr i e.symm hx⟩
theorem Fr.sub {X Y:Nat→Prop} {a b:World} (h:Fr X a b) (hs:∀ i,Y i→X i):Fr Y a b:=⟨h.os,h.tape,h.output,h.size,fun i hi hy=>h.block i hi (hs i hy)⟩
theorem Fr.less {X:Nat→Prop} {l:List Nat} {a b:World} (h:Fr (plus X l) a b):Fr X a b:=h.sub fun _ hx=>.inl hx
theorem Fr.row {X:Nat→Prop} {a b:World} (h:Fr X a b) {base size n:Nat} {e:TypeId} {v:Value} {xs:List Value} (hr:a.ownsRow base e size v n xs) (hx:∀ i,v.ownBlock=some i→X i):b.ownsRow base e size v n xs:=by
 refine⟨hr.1,?_⟩
 rcases hr.2 with h0 | ⟨g,cap,cur,rfl,h1,h2,h3⟩
 ·exact .inl h0
 ·exact .inr ⟨g,cap,cur,rfl,h1,(h.block g (lt_of_block h2) (hx g rfl)).trans h2,h3⟩
theorem Fr.cells {X:Nat→Prop} {a b:World} (h:Fr X a b) {i:Nat} {o:Obj} (hi:a.heap[i]?=some o) (hx:X i):b.heap[i]?=some o:=(h.block i (lt_of_block hi) hx).trans hi
theorem grown_of_later {a b:World} (h:Later a b) (row:Option Nat):a.grownBy b row:=⟨h.os,h.tape,h.output,h.size,fun k hk _=>h.block k hk⟩
def sv (l:List UInt8):Value:=.string (mkS l)
def lnv (N k:Nat):Value:=.int .i64 ((1+N-k:Nat):Int)
def rcs (x:Sx.Arw):List Value:=[iv x.fd,sv x.op,sv x.word,sv x.body]
structure Vals where
 w:Value
 r:Value
 k:Value
def ncs (n:Sx.Node) (v:Vals) (ln:Value):List Value:=[iv n.kind,sv n.text,.bool n.flag,v.w,iv n.sets,v.r,v.k,ln]
def cellsN (N:Nat) (nd:List (Sx.Node×Vals)):List Value:=nd.flatMap fun x=>ncs x.1 x.2 (lnv N x.1.left)
def blks (v:Vals):List Nat:=v.w.ownBlock.toList++v.r.ownBlock.toList++v.k.ownBlock.toList
structure Nest (W:World) (n:Sx.Node) (v:Vals):Prop where
 w:W.ownsRow 0 9 1 v.w n.words.length (n.words.map sv)
 r:W.ownsRow 0 79 4 v.r n.redirs.length (n.redirs.flatMap rcs)
 k:W.ownsRow 0 3 1 v.k n.kids.length (n.kids.map iv)
theorem mem_blks {v:Vals} {b:Nat}:b∈blks v↔v.w.ownBlock=some b∨v.r.ownBlock=some b∨v.k.ownBlock=some b:=by
 unfold blks
 simp[Option.mem_toList]
theorem Nest.fr {X:Nat→Prop} {W W':World} {n:Sx.Node} {v:Vals} (h:Nest W n v) (hf:Fr X W W') (hx:∀ b∈blks v,X b):Nest W' n v:=
 ⟨hf.row h.w fun i e=>hx i (mem_blks.2 (.inl e)),hf.row h.r fun i e=>hx i (mem_blks.2 (.inr (.inl e))),hf.row h.k fun i e=>hx i (mem_blks.2 (.inr (.inr e)))⟩
theorem Nest.grown {W W':World} {n:Sx.Node} {v:Vals} {row:Option Nat} (h:Nest W n v) (hg:W.grownBy W' row) (hx:∀ b∈blks v,some b≠row):Nest W' n v:=by
 have hf:Fr (fun b=>some b≠row) W W':=Fr.grown hg fun x e hx=>hx e.symm
 exact h.fr hf hx
theorem Nest.later {W W':World} {n:Sx.Node} {v:Vals} (h:Nest W n v) (hl:Later W W'):Nest W' n v:=h.fr (X:=fun _=>True) (Fr.later hl) fun _ _=>trivial
theorem Nest.lt {W:World} {n:Sx.Node} {v:Vals} (h:Nest W n v) {b:Nat} (hb:b∈blks v):b<W.heap.size:=by
 rcases mem_blks.1 hb with e | e | e
 ·exact(h.w.lt b e).2
 ·exact(h.r.lt b e).2
 ·exact(h.k.lt b e).2
theorem Nest.types {W:World} {n:Sx.Node} {v:Vals} (h:Nest W n v) {b:Nat} (hb:b∈blks v):∃ cs t,W.heap[b]?=some (.cells cs t (0,0))∧(t=9∨t=79∨t=3):=by
 have key:∀ {size m:Nat} {e:TypeId} {u:Value} {xs:List Value},W.ownsRow 0 e size u m xs→u.ownBlock=some b→∃ cs,W.heap[b]?=some (.cells cs e (0,0)):=by
  intro size m e u xs hr hu
  rcases hr.2 with⟨rfl,_⟩ | ⟨g,cap,cur,rfl,_,h2,_⟩
  ·cases hu
  ·simp only[Value.ownBlock,Option.some.injEq] at hu
   subst hu
   exact⟨cur,h2⟩
 rcases mem_blks.1 hb with e | e | e
 ·obtain⟨cs,hc⟩:=key h.w e;exact⟨cs,_,hc,.inl rfl⟩
 ·obtain⟨cs,hc⟩:=key h.r e;exact⟨cs,_,hc,.inr (.inl rfl)⟩
 ·obtain⟨cs,hc⟩:=key h.k e;exact⟨cs,_,hc,.inr (.inr rfl)⟩
def fnS (f:Nat):Value:=.func (.func f) #[] #[]
def compT (t:List UInt8):Option Value:=
 if t=[123] then some (fnS 22)
 else if t=[40] then some (fnS 23)
 else if t=Sx.kIF then some (fnS 24)
 else if t=Sx.kWHILE then some (fnS 25)
 else if t=Sx.kUNTIL then some (fnS 25)
 else if t=Sx.kFOR then some (fnS 26)
 else if t=Sx.kCASE then some (fnS 27)
 else none
theorem compT_isSome (t:List UInt8):(compT t).isSome=Sx.isComp t:=by
 unfold compT Sx.isComp
 by_cases h1:t=[123]
 ·subst h1;rfl
 by_cases h2:t=[40]
 ·subst h2;rfl
 by_cases h3:t=Sx.kIF
 ·subst h3;rfl
 by_cases h4:t=Sx.kWHILE
 ·subst h4;rfl
 by_cases h5:t=Sx.kUNTIL
 ·subst h5;rfl
 by_cases h6:t=Sx.kFOR
 ·subst h6;rfl
 by_cases h7:t=Sx.kCASE
 ·subst h7;rfl
 simp[h1,h2,h3,h4,h5,h6,h7]
def TabS (W:World) (m k:Nat) (f:List UInt8→Option Value):Prop:=
 ∃ D n,W.ownsMap Tryz.prog 9 heldR m n D∧n≤k∧∀ c,Maps.has D (.string c)=(f c).isSome∧∀ z,D.atKey (.string c) (.held z)=.held ((f c).getD z)
theorem str_keyed:Keyed Tryz.prog 9:=string_keyed Tryz.underlying9
theorem keyOf_str (t:List UInt8) (ht:t.length≤5000):keyOf Tryz.prog 9 (sv t)=some (.string t):=by
 have h1:(mkS t).size≤maxLen:=by rw[mkS_size];unfold maxLen;omega
 rw[keyOf_string Tryz.underlying9]
 simp[sv,mapKey,Tryz.underlying9,h1,mkS_list]
theorem TabS.kept {W W':World} {m k:Nat} {f:List UInt8→Option Value} {row:Option Nat} (h:TabS W m k f) (hg:W.grownBy W' row) (hne:some m≠row):TabS W' m k f:=by
 obtain⟨D,n,h1,h2,h3⟩:=h
 exact⟨D,n,h1.kept hg hne,h2,h3⟩
theorem TabS.is_map {W:World} {m k:Nat} {f:List UInt8→Option Value} (h:TabS W m k f):∃ es cl,W.heap[m]?=some (.map es cl):=by
 obtain⟨D,n,⟨es,cl,h1,_⟩,_⟩:=h
 exact⟨es,cl,h1⟩
theorem TabS.lt {W:World} {m k:Nat} {f:List UInt8→Option Value} (h:TabS W m k f):m<W.heap.size:=by
 obtain⟨D,n,h1,_⟩:=h
 exact h1.lt
theorem TabS.look {W:World} {m k:Nat} {f:List UInt8→Option Value} (h:TabS W m k f) (c:List UInt8) (hc:c.length≤5000):(Instr.lookup 46 (.map (some m)) (.string (mkS c)) true).run Tryz.prog W=.ok (.tuple #[(f c).getD .nilFunc,.bool (f c).isSome]) W:=by
 obtain⟨D,k,h1,_,h3⟩:=h
 obtain⟨v,ps,hrun,hv⟩:=World.ownsMap.look_ok (w:=W) h1 str_keyed Tryz.underlying46 (z:=.nilFunc) (by kernel_rfl) (zd:=.held .nilFunc) (zp:=[]) rfl (keyOf_str c hc)
 rw[(h3 c).2 .nilFunc] at hv
 simp only[heldR,Option.some.injEq,Prod.mk.injEq,DataW.held.injEq] at hv
 rw[show (Value.string (mkS c))=sv c from rfl,hrun,hv.1,(h3 c).1]
abbrev PC (C:Ctx) (p d:Nat) (vn:Value):Array Value:=#[C.vt,.int .i64 (p:Int),.int .i64 (d:Int),vn,.map (some C.ms)]
structure PMemX (W:World) (X:Nat→Prop) (g:Nat) (C:Ctx) (σ:Sx.St) (p:Nat) (vn:Value) (nd:List (Sx.Node×Vals)):Prop where
 box:W.heap[g]?=some (.cells (PC C p σ.d vn) 49 (0,0))
 gX:¬ X g
 rest:σ.r=C.TS.drop p
 len:p+σ.r.length=C.TS.length
 tok:W.ownsRow 0 63 4 C.vt C.TS.length (cellsT C.N C.TS)
 tX:∀ b,C.vt.ownBlock=some b→X b
 tab:TabS W C.ms 30 compT
 mX:X C.ms
 ns:nd.map (fun x=>x.1)=σ.ns
 row:W.ownsRow 0 37 8 vn nd.length (cellsN C.N nd)
 rX:∀ b,vn.ownBlock=some b→¬ X b
 big:C.TS.length≤5000
 sml:∀ t∈C.TS,t.text.length≤5000
 nest:∀ x∈nd,Nest W x.1 x.2∧∀ b∈blks x.2,¬ X b
def PMem (W:World) (X:Nat→Prop) (g:Nat) (C:Ctx) (σ:Sx.St):Prop:=∃ p vn nd,PMemX W X g C σ p vn nd
def CtxX (X:Nat→Prop) (C:Ctx):Prop:=(∀ b,C.vt.ownBlock=some b→X b)∧X C.ms
section
variable {W W':World} {X:Nat→Prop} {g p:Nat} {C:Ctx} {σ:Sx.St} {vn:Value} {nd:List (Sx.Node×Vals)}
theorem PMemX.mem (h:PMemX W X g C σ p vn nd):PMem W X g C σ:=⟨p,vn,nd,h⟩
theorem PMemX.facts (h:PMemX W X g C σ p vn nd):(W.cell? ⟨g,0,none⟩=some C.vt∧W.cell? ⟨g,1,none⟩=some (.int .i64 (p:Int))∧W.cell? ⟨g,2,none⟩=some (.int .i64 (σ.d:Int))∧W.cell? ⟨g,3,none⟩=some vn∧W.cell? ⟨g,4,none⟩=some (.map (some C.ms)))∧∀ i,W.frozen? ⟨g,i,none⟩=false:=
 ⟨⟨(cell_row h.box 0).1,(cell_row h.box 1).1,(cell_row h.box 2).1,(cell_row h.box 3).1,(cell_row h.box 4).1⟩,fun i=>(cell_row h.box i).2⟩
theorem PMemX.lt (h:PMemX W X g C σ p vn nd):g<W.heap.size:=lt_of_block h.box
theorem PMem.ctx (h:PMem W X g C σ):CtxX X C:=by
 obtain⟨p,vn,nd,h⟩:=h
 exact⟨h.tX,h.mX⟩
theorem own_type {w:World} {base size n b:Nat} {e:TypeId} {v:Value} {xs:List Value} (h:w.ownsRow base e size v n xs) (hb:v.ownBlock=some b):∃ cs,w.heap[b]?=some (.cells cs e (0,0)):=by
 rcases h.2 with⟨rfl,_⟩ | ⟨g,cap,cur,rfl,_,h2,_⟩
 ·cases hb
 ·simp only[Value.ownBlock,Option.some.injEq] at hb
  subst hb
  exact⟨cur,h2⟩
theorem PMemX.kept (h:PMemX W X g C σ p vn nd) {row:Option Nat} (hg:W.grownBy W' row) (h1:row≠some g) (h2:C.vt.ownBlock=none∨C.vt.ownBlock≠row) (h3:some C.ms≠row) (h4:vn.ownBlock=none∨vn.ownBlock≠row) (h5:∀ x∈nd,∀ b∈blks x.2,some b≠row):PMemX W' X g C σ p vn nd:=
 ⟨(hg.block g h.lt (fun e=>h1 e.symm)).trans h.box,h.gX,h.rest,h.len,h.tok.kept hg h2,h.tX,h.tab.kept hg h3,h.mX,h.ns,h.row.kept hg h4,h.rX,h.big,h.sml,fun x hx=>⟨(h.nest x hx).1.grown hg (h5 x hx),(h.nest x hx).2⟩⟩
theorem PMemX.later (h:PMemX W X g C σ p vn nd) (hl:Later W W'):PMemX W' X g C σ p vn nd:=
 h.kept (grown_of_later hl none) nofun (by cases C.vt.ownBlock <;> simp) nofun (by cases vn.ownBlock <;> simp) nofun
theorem PMem.later (h:PMem W X g C σ) (hl:Later W W'):PMem W' X g C σ:=by
 obtain⟨p,vn,nd,h⟩:=h
 exact(h.later hl).mem
theorem PMem.low (h:PMem W X g C σ):(∀ b,C.vt.ownBlock=some b→b<W.heap.size)∧C.ms<W.heap.size:=by
 obtain⟨p,vn,nd,h⟩:=h
 exact⟨fun b e=>(h.tok.lt b e).2,h.tab.lt⟩
theorem PMem.other (h:PMem W X g C σ) {x:Nat} (hg:W.grownBy W' (some x)) (hx:X x) (h2:C.vt.ownBlock≠some x) (h3:C.ms≠x):PMem W' X g C σ:=by
 obtain⟨p,vn,nd,h⟩:=h
 exact(h.kept hg (fun e1=>h.gX (by injection e1 with e1;rw[←e1];exact hx)) (.inr h2) (fun e1=>h3 (by injection e1)) (.inr fun e1=>h.rX x e1 hx) fun y hy b hb e1=>(h.nest y hy).2 b hb (by injection e1 with e1;rw[e1];exact hx)).mem
theorem PMem.more (h:PMem W X g C σ) (l:List Nat) (hl:∀ b∈l,W.heap.size≤b):PMem W (plus X l) g C σ:=by
 obtain⟨p,vn,nd,h⟩:=h
 refine⟨p,vn,nd,h.box,?_,h.rest,h.len,h.tok,fun b e=>.inl (h.tX b e),h.tab,.inl h.mX,h.ns,h.row,fun b e=>?_,h.big,h.sml,fun x hx=>⟨(h.nest x hx).1,fun b hb=>?_⟩⟩
 ·rintro(h1 | h1)
  ·exact h.gX h1
  ·have:=hl _ h1;have:=h.lt;omega
 ·rintro(h1 | h1)
  ·exact h.rX b e h1
  ·have:=hl _ h1;have:=(h.row.lt b e).2;omega
 ·rintro(h1 | h1)
  ·exact(h.nest x hx).2 b hb h1
  ·have:=hl _ h1;have:=(h.nest x hx).1.lt hb;omega
theorem PMem.sub {Y:Nat→Prop} (h:PMem W X g C σ) (hs:∀ b,Y b→X b) (hc:CtxX Y C):PMem W Y g C σ:=by
 obtain⟨p,vn,nd,h⟩:=h
 exact⟨p,vn,nd,h.box,fun e=>h.gX (hs _ e),h.rest,h.len,h.tok,hc.1,h.tab,hc.2,h.ns,h.row,fun b e e2=>h.rX b e (hs _ e2),h.big,h.sml,fun x hx=>⟨(h.nest x hx).1,fun b hb e2=>(h.nest x hx).2 b hb (hs _ e2)⟩⟩
theorem PMem.less {l:List Nat} (h:PMem W (plus X l) g C σ) (hc:CtxX X C):PMem W X g C σ:=h.sub (fun _ hx=>.inl hx) hc
theorem CtxX.more (h:CtxX X C) (l:List Nat):CtxX (plus X l) C:=⟨fun b e=>.inl (h.1 b e),.inl h.2⟩
theorem PMemX.set (h:PMemX W X g C σ p vn nd) (i:Nat) (u:Value) {σ':Sx.St} {p':Nat} (hc:(PC C p σ.d vn).setIfInBounds i u=PC C p' σ'.d vn) (h1:σ'.r=C.TS.drop p') (h2:p'+σ'.r.length=C.TS.length) (h3:σ'.ns=σ.ns):PMemX (W.setCell ⟨g,i,none⟩ u) X g C σ' p' vn nd:=by
 have hg:=set_only W g i u
 have hgt:∀ b cs t,W.heap[b]?=some (.cells cs t (0,0))→t≠49→b≠g:=fun b cs t hb ht e=>by
  rw[e,h.box] at hb
  injection hb with hb
  injection hb with _ hb _
  exact ht hb.symm
 refine⟨by rw[set_row h.box,hc],h.gX,h1,h2,h.tok.kept hg (.inr fun e=>?_),h.tX,h.tab.kept hg (fun e=>?_),h.mX,h.ns.trans h3.symm,h.row.kept hg (.inr fun e=>?_),h.rX,h.big,h.sml,fun x hx=>⟨(h.nest x hx).1.grown hg fun b hb e=>?_,(h.nest x hx).2⟩⟩
 ·obtain⟨cs,hb⟩:=own_type h.tok e;exact hgt g cs _ hb (by decide) rfl
 ·injection e with e;obtain⟨es,cl,hb⟩:=h.tab.is_map;rw[e,h.box] at hb;cases hb
 ·obtain⟨cs,hb⟩:=own_type h.row e;exact hgt g cs _ hb (by decide) rfl
 ·injection e with e;subst e
  obtain⟨cs,t,hb,ht⟩:=(h.nest x hx).1.types hb
  refine hgt b cs t hb ?_ rfl
  rcases ht with rfl | rfl | rfl <;> decide
end
end Go.Proofs.YtkkchkkpnlnbgaaGreatDoor
namespace Go.Proofs.YtkkchkkpnlnbgaaGreatDoor
open Go.RowKit Go.Maps
open Lx (nl Tok)
theorem toks_at {w:World} {B N n c:Nat} {e:TypeId} {ad:Addr} {ts:List Tok} (h:w.ownsRow B e 4 (.slice (some ad) n c) ts.length (cellsT N ts)) (i:Nat) (hi:i<ts.length):TokAt w N (ad.add (i*4)) ts[i]:=by
 obtain⟨ad',c',e1,_,_,_,h1⟩:=tok_at h hi
 injection e1 with e2 _ _
 injection e2 with e2
 subst e2
 exact h1 i hi
theorem wpList_loadRun {P:Program} {ops:Array Oper} {rest:List Oper} {op:Oper} {a:Act} {w:World} {Q:Exit→Act→World→Prop} (hgd:op.guard=none) (ty:TypeId) (x:Operand) (ho:op.op=.load ty x) (p v:Value) (hx:a.eval x=p) (hr:(Instr.loadAt ty p).run P w=.ok v w) (h:wpList P ops Q rest (a.put op.dst v) w):wpList P ops Q (op::rest) a w:=
 wpList_plain hgd fun _ hK=>by
  unfold Oper.wp execOp
  simp only[ho,hx,Sem.run_bind,hr,Result.andThen_ok,Sem.run_pure]
  exact hK _ _ h
theorem wpList_storeRun {P:Program} {ops:Array Oper} {rest:List Oper} {op:Oper} {a:Act} {w w':World} {Q:Exit→Act→World→Prop} (hgd:op.guard=none) (ty:TypeId) (x y:Operand) (ho:op.op=.store ty x y) (p v:Value) (hx:a.eval x=p) (hy:a.eval y=v) (hr:(Instr.storeAt ty p v).run P w=.ok () w') (h:wpList P ops Q rest (a.put op.dst undef) w'):wpList P ops Q (op::rest) a w:=
 wpList_plain hgd fun _ hK=>by
  unfold Oper.wp execOp
  simp only[ho,hx,hy,Sem.run_bind,hr,Result.andThen_ok,Sem.run_pure]
  exact hK _ _ h
theorem tok_load {w:World} {B N n c:Nat} {e:TypeId} {ad:Addr} {ts:List Tok} (h:w.ownsRow B e 4 (.slice (some ad) n c) n (cellsT N ts)) (hn:n=ts.length) (i:Nat) (hi:i<ts.length):(Instr.loadAt 63 (.pointer (some (ad.add (i*4))))).run Tryz.prog w=.ok (.agg (tcs N ts[i])) w∧TokAt w N (ad.add (i*4)) ts[i]∧ad.block<w.heap.size:=by
 subst hn
 have ht:=toks_at h i hi
 obtain⟨ad',c',e1,_,_,hb,_⟩:=tok_at h hi
 injection e1 with e2 _ _
 injection e2 with e2
 subst e2
 rcases h.2 with⟨h8,_⟩ | ⟨g,cap,cur,h9,_⟩
 ·cases h8
 ·injection h9 with h9 _ _
  injection h9 with h9
  subst h9
  refine⟨?_,ht,hb⟩
  rw[add_lit0] at ht⊢
  refine run_loadAt_mid (P:=Tryz.prog) w g (i*4) 63 (tcs N ts[i]).toList _ (fun j v hv=>?_) Tryz.underlying63 rfl (by kernel_rfl)
  have hj:j<4:=(List.getElem?_eq_some_iff.1 hv).1
  match j,hj with
  | 0,_=>cases hv;exact ht.c0
  | 1,_=>cases hv;exact ht.c1
  | 2,_=>cases hv;exact ht.c2
  | 3,_=>cases hv;exact ht.c3
theorem tok_store (w:World) (c0:Array Value) (k k':Int) (t b:ByteArray) (h0:c0.size=4):(Instr.storeAt 63 (.pointer (some ⟨w.heap.size,0,none⟩)) (.agg #[.int .i64 k,.string t,.string b,.int .i64 k'])).run Tryz.prog (w.alloc (.cells c0 63))=.ok () (w.alloc (.cells #[.int .i64 k,.string t,.string b,.int .i64 k'] 63)):=
 run_storeAt_new w _ c0 _ (by kernel_rfl) h0 (Array.all_eq_true_iff_forall_mem.2 (by intro v hv;simp only[List.mem_toArray,List.mem_cons,List.not_mem_nil,or_false] at hv;rcases hv with rfl | rfl | rfl | rfl <;> rfl))
theorem ValWp.loadR {P:Program} {o:Oper} {ρ:Operand→Value} {w:World} {K:Value→World→Prop} {ty:TypeId} {x:Operand} {p v:Value} (ho:o.op=.load ty x) (hx:ρ x=p) (hr:(Instr.loadAt ty p).run P w=.ok v w) (hk:K v w):ValWp P o ρ w K:=by
 unfold ValWp execOp
 simp only[ho,hx,Sem.run_bind,hr,Result.andThen_ok,Sem.run_pure]
 exact hk
theorem ValWp.storeR {P:Program} {o:Oper} {ρ:Operand→Value} {w w':World} {K:Value→World→Prop} {ty:TypeId} {x y:Operand} {p v:Value} (ho:o.op=.store ty x y) (hx:ρ x=p) (hy:ρ y=v) (hr:(Instr.storeAt ty p v).run P w=.ok () w') (hk:K undef w'):ValWp P o ρ w K:=by
 unfold ValWp execOp
 simp only[ho,hx,hy,Sem.run_bind,hr,Result.andThen_ok,Sem.run_pure]
 exact hk
theorem results_tok {fn:Func} {p:Tmp} (h:fn.results=#[.cell p 63]) (tmps:Array Value) (w:World) (g:Nat) (cs:Array Value) (fr:Nat×Nat) (hp:tmps.getD p undef=.pointer (some ⟨g,0,none⟩)) (hg:w.heap[g]?=some (.cells cs 63 fr)) (hs:cs.size=4):(results fn tmps).run Tryz.prog w=.ok (.agg cs) w:=
 results_cell_row h tmps w g _ cs fr _ hp hg Tryz.underlying63 rfl (by rw[hs];kernel_rfl)
end Go.Proofs.YtkkchkkpnlnbgaaGreatDoor
namespace Go.Proofs.YtkkchkkpnlnbgaaGreatDoor
open Go.RowKit Go.Maps
open Lx (Tok nl)
namespace Pz
theorem peek_v {W:World} {X:Nat→Prop} {g:Nat} {C:Ctx} {σ:Sx.St} (h:PMem W X g C σ) (hne:σ.r≠[]):Calls Tryz.prog 29 #[.pointer (some ⟨g,0,none⟩)] W fun e W'=>e=.returned (.agg (tcs C.N (Sx.hd σ)))∧Later W W':=by
 obtain⟨p,vn,nd,h⟩:=h
 have hlen:=h.len
 have hp:p<C.TS.length:=by
  have:0<σ.r.length:=List.length_pos_iff.2 hne
  omega
 have hhd:Sx.hd σ=C.TS[p]:=by
  unfold Sx.hd
  rw[h.rest,List.drop_eq_getElem_cons hp]
  rfl
 have hbig:=h.big
 obtain⟨ad,ct,hvt,hct,_,_,_⟩:=tok_at h.tok hp
 obtain⟨m,hm⟩:∃ m,m=C.TS.length:=⟨_,rfl⟩
 rw[←hm] at hvt hct hp
 rw[hhd]
 obtain⟨TK,hTK⟩:∃ TK,TK=tcs C.N C.TS[p]:=⟨_,rfl⟩
 rw[←hTK]
 have hfa:=fun w (hw:Later W w)=>(h.later hw).facts
 have HQ:=Lib.hid (show ∀ w,Later W w→w.cell? ⟨g,0,none⟩=some (.slice (some ad) m ct)∧w.cell? ⟨g,1,none⟩=some (.int .i64 (p:Int))∧(Instr.loadAt 63 (.pointer (some (ad.add (p*4))))).run Tryz.prog w=.ok (.agg TK) w from fun w hw=>by
  have hf:=hfa w hw
  refine⟨by rw[←hvt];exact hf.1.1,hf.1.2.1,?_⟩
  have ht:=(h.later hw).tok
  rw[hvt,←hm] at ht
  rw[hTK]
  exact(tok_load ht hm p (by omega)).1)
 have HIX:=Lib.hid (show (0:Int)≤(p:Int)∧(p:Int)<(m:Int) from⟨by omega,by omega⟩)
 obtain⟨C0,hC0⟩:∃ C0:Nat→Value→World→Prop,C0=fun j _ w=>(j=0∧w=(W.alloc (.cells #[.int .i64 0,.string ⟨#[]⟩,.string ⟨#[]⟩,.int .i64 0] 63)).drew)∨(j=1∧w=(W.alloc (.cells TK 63)).drew):=⟨_,rfl⟩
 have HL:=Lib.hid (show ∀ j u w,C0 j u w→Later W w from fun j u w hc=>by
  rw[hC0] at hc
  rcases hc with⟨_,rfl⟩ | ⟨_,rfl⟩
  ·exact(Later.alloc _ _).trans (Later.drew _)
  ·exact(Later.alloc _ _).trans (Later.drew _))
 have H0:=Lib.hid (show C0 0 undef (W.alloc (.cells #[.int .i64 0,.string ⟨#[]⟩,.string ⟨#[]⟩,.int .i64 0] 63)).drew by rw[hC0];exact .inl ⟨rfl,rfl⟩)
 have H1:=Lib.hid (show ∀ u w,C0 0 u w→w=(W.alloc (.cells #[.int .i64 0,.string ⟨#[]⟩,.string ⟨#[]⟩,.int .i64 0] 63)).drew from fun u w hc=>by
  rw[hC0] at hc
  rcases hc with⟨_,e⟩ | ⟨e,_⟩
  ·exact e
  ·cases e)
 have H2:=Lib.hid (show C0 1 undef (W.alloc (.cells TK 63)).drew by rw[hC0];exact .inr ⟨rfl,rfl⟩)
 have H3:=Lib.hid (show ∀ u w,C0 1 u w→w=(W.alloc (.cells TK 63)).drew from fun u w hc=>by
  rw[hC0] at hc
  rcases hc with⟨e,_⟩ | ⟨_,e⟩
  ·cases e
  ·exact e)
 have HST:=Lib.hid (show (Instr.storeAt 63 (.pointer (some ⟨W.heap.size,0,none⟩)) (.agg TK)).run Tryz.prog (W.alloc (.cells #[.int .i64 0,.string ⟨#[]⟩,.string ⟨#[]⟩,.int .i64 0] 63)).drew=.ok () (W.alloc (.cells TK 63)).drew by
  rw[hTK]
  exact tok_store W.drew _ _ _ _ _ rfl)
 have HLD:=Lib.hid (show (W.alloc (.cells TK 63)).drew.heap[W.heap.size]?=some (.cells TK 63 (0,0))∧TK.size=4 from⟨heap_alloc_new W.drew _,by rw[hTK];rfl⟩)
 clear hC0 hfa h hTK hhd hvt hlen hbig hp hm
 go_enter Tryz.func29,Tryz.ntmps29
 go_wp2
 refine wp_region_seq (by kernel_rfl) [10] (C0) [some (.pointer (some ⟨g,0,none⟩)),some (.pointer (some ⟨g,0,none⟩)),some (.pointer (some ⟨g,0,none⟩)),some (.slice (some ad) m ct),some (.pointer (some ⟨g,0,none⟩)),some (.pointer (some ⟨g,0,none⟩)),some (.pointer (some ⟨g,1,none⟩)),some (.int .i64 (p:Int)),some (.pointer (some (ad.add (p*4)))),some (.agg TK),none] (by decide) (by decide) (by kernel_rfl) (by kernel_rfl) (H0.out) ?_ ?_
 ·refine⟨?_,?_,?_,?_,?_,?_,?_,?_,?_,?_,?_,trivial⟩
  ·
   refine OwesS.q rfl fun a w j u hC hb hs=>⟨rfl,?_⟩
   have e0:a.tmps.getD 0 undef=.pointer (some ⟨g,0,none⟩):=hs.free 0 rfl
   refine ValWp.pure (v:=.pointer (some ⟨g,0,none⟩)) (fun K' hK'=>?_) ⟨rfl,rfl⟩
   simp only[ValWp,execOp,Act.eval,e0]
   go_simp
   all_goals exact hK'
  ·
   refine OwesS.q rfl fun a w j u hC hb hs=>⟨rfl,?_⟩
   have e3:a.tmps.getD 3 undef=.pointer (some ⟨g,0,none⟩):=hs.dep 0 _ rfl rfl
   refine ValWp.pure (v:=.pointer (some ⟨g,0,none⟩)) (fun K' hK'=>?_) ⟨rfl,rfl⟩
   simp only[ValWp,execOp,Act.eval,e3]
   go_simp
   all_goals exact hK'
  ·
   refine OwesS.q rfl fun a w j u hC hb hs=>⟨rfl,?_⟩
   have e4:a.tmps.getD 4 undef=.pointer (some ⟨g,0,none⟩):=hs.dep 1 _ rfl rfl
   refine ValWp.pure (v:=.pointer (some ⟨g,0,none⟩)) (fun K' hK'=>?_) ⟨rfl,rfl⟩
   simp only[ValWp,execOp,Act.eval,e4]
   go_simp
   all_goals exact hK'
  ·
   refine OwesS.q rfl fun a w j u hC hb hs=>⟨rfl,?_⟩
   have e5:a.tmps.getD 5 undef=.pointer (some ⟨g,0,none⟩):=hs.dep 2 _ rfl rfl
   have q0:=(HQ.out w (HL.out j u w hC)).1
   refine ValWp.pure (v:=.slice (some ad) m ct) (fun K' hK'=>?_) ⟨rfl,rfl⟩
   simp only[ValWp,execOp,Act.eval,e5]
   go_simp
   all_goals exact hK'
  ·
   refine OwesS.q rfl fun a w j u hC hb hs=>⟨rfl,?_⟩
   have e0:a.tmps.getD 0 undef=.pointer (some ⟨g,0,none⟩):=hs.free 0 rfl
   refine ValWp.pure (v:=.pointer (some ⟨g,0,none⟩)) (fun K' hK'=>?_) ⟨rfl,rfl⟩
   simp only[ValWp,execOp,Act.eval,e0]
   go_simp
   all_goals exact hK'
  ·
   refine OwesS.q rfl fun a w j u hC hb hs=>⟨rfl,?_⟩
   have e7:a.tmps.getD 7 undef=.pointer (some ⟨g,0,none⟩):=hs.dep 4 _ rfl rfl
   refine ValWp.pure (v:=.pointer (some ⟨g,0,none⟩)) (fun K' hK'=>?_) ⟨rfl,rfl⟩
   simp only[ValWp,execOp,Act.eval,e7]
   go_simp
   all_goals exact hK'
  ·
   refine OwesS.q rfl fun a w j u hC hb hs=>⟨rfl,?_⟩
   have e8:a.tmps.getD 8 undef=.pointer (some ⟨g,0,none⟩):=hs.dep 5 _ rfl rfl
   refine ValWp.pure (v:=.pointer (some ⟨g,1,none⟩)) (fun K' hK'=>?_) ⟨rfl,rfl⟩
   simp only[ValWp,execOp,Act.eval,e8]
   go_simp
   all_goals exact hK'
  ·
   refine OwesS.q rfl fun a w j u hC hb hs=>⟨rfl,?_⟩
   have e9:a.tmps.getD 9 undef=.pointer (some ⟨g,1,none⟩):=hs.dep 6 _ rfl rfl
   have q1:=(HQ.out w (HL.out j u w hC)).2.1
   refine ValWp.pure (v:=.int .i64 (p:Int)) (fun K' hK'=>?_) ⟨rfl,rfl⟩
   simp only[ValWp,execOp,Act.eval,e9]
   go_simp
   all_goals exact hK'
  ·
   refine OwesS.q rfl fun a w j u hC hb hs=>⟨rfl,?_⟩
   have e6:a.tmps.getD 6 undef=.slice (some ad) m ct:=hs.dep 3 _ rfl rfl
   have e10:a.tmps.getD 10 undef=.int .i64 (p:Int):=hs.dep 7 _ rfl rfl
   have q2:=HIX.out.1
   have q3:=HIX.out.2
   refine ValWp.pure (v:=.pointer (some (ad.add (p*4)))) (fun K' hK'=>?_) ⟨rfl,rfl⟩
   simp only[ValWp,execOp,Act.eval,e6,e10]
   go_simp
   all_goals exact hK'
  ·
   refine OwesS.q rfl fun a w j u hC hb hs=>⟨rfl,?_⟩
   have e11:a.tmps.getD 11 undef=.pointer (some (ad.add (p*4))):=hs.dep 8 _ rfl rfl
   exact ValWp.loadR rfl e11 (HQ.out w (HL.out j u w hC)).2.2 ⟨rfl,rfl⟩
  ·
   refine OwesS.w rfl fun a w u hC hl hs=>⟨rfl,fun K hK=>?_⟩
   have e2:a.tmps.getD 2 undef=.pointer (some ⟨W.heap.size,0,none⟩):=hs.free 2 rfl
   have e12:a.tmps.getD 12 undef=.agg TK:=hs.dep 9 _ rfl rfl
   have hw:=H1.out u w hC
   subst hw
   exact wp_of_val (ValWp.storeR rfl e2 e12 HST.out (hK _ _ trivial H2.out))
 ·intro a w u hC hl hd hsz hfree hs
  obtain⟨z0,u1,z2,u3,u4,u5,u6,u7,u8,u9,u10,u11,u12,hal⟩:=lets a 13 0
  obtain rfl:=hal.on (v:=.pointer (some ⟨g,0,none⟩)) 0 (hfree 0 rfl) rfl
  obtain rfl:=hal.on (v:=.pointer (some ⟨W.heap.size,0,none⟩)) 2 (hfree 2 rfl) rfl
  have hlit:=fun h=>act_lit hd h hal
  rw[hlit hsz]
  clear hlit hal hd hsz hfree hs
  have hw:=H3.out u w hC
  subst hw
  have hl:=HL.out 1 undef _ H2.out
  go_wp2
  refine bodyPost_ret (results_tok rfl _ _ W.heap.size TK (0,0) rfl HLD.out.1 HLD.out.2) rfl ?_
  exact⟨rfl,hl⟩
end Pz
end Go.Proofs.YtkkchkkpnlnbgaaGreatDoor
namespace Go.Proofs.YtkkchkkpnlnbgaaGreatDoor
open Go.RowKit Go.Maps
section
variable {P:Program} {ops:Array Oper} {rest:List Oper} {o:Oper} {a:Act} {w:World} {Q:Exit→Act→World→Prop}
theorem wpList_allocO (tm:Tmp) (_hd:o.dst=some tm) (hgd:o.guard=none) (ty:TypeId) (ho:o.op=.alloc ty) (cs:Array Value) (n:Nat) (hz:(P.info? ty).map (fun i=>(i.zero,i.size))=some (some (.agg cs),n))
  (h:∀ w1,w1.heap[w.heap.size]?=some (.cells cs ty (0,0))→Later w w1→w1.heap.size=w.heap.size+1→wpList P ops Q rest (a.put o.dst (.pointer (some ⟨w.heap.size,0,none⟩))) w1):wpList P ops Q (o::rest) a w:=
 wpList_plain hgd fun _ hK=>by
  have hz1:=(zero_of_info hz).1
  unfold Oper.wp execOp
  simp only[ho,Instr.alloc,Sem.run_bind,hz1,Result.andThen_ok,Sem.run_pure]
  simp only[newVar,go_sem]
  exact hK _ _ (h (w.alloc (.cells cs ty)) (heap_alloc_new w _) (Later.alloc w _) (by simp))
theorem wpList_storeO (hgd:o.guard=none) (ty:TypeId) (x y:Operand) (ho:o.op=.store ty x y) (b:Nat) (c c':Array Value) (hx:a.eval x=.pointer (some ⟨b,0,none⟩)) (hy:a.eval y=.agg c')
  (hb:w.heap[b]?=some (.cells c ty (0,0))) (hi:(P.info? ty).map (·.size)=some c'.size) (hs:c.size=c'.size) (h1:c'.all (·.oneCell')=true)
  (h:∀ w1,w1.heap[b]?=some (.cells c' ty (0,0))→w.grownBy w1 (some b)→w1.heap.size=w.heap.size→wpList P ops Q rest (a.put o.dst undef) w1):wpList P ops Q (o::rest) a w:=by
 have hr:(Instr.storeAt ty (.pointer (some ⟨b,0,none⟩)) (.agg c')).run P w=.ok () (w.setRow b c'):=by
  simp only[Instr.storeAt,Instr.sureAddr,Sem.run_bind,Sem.run_pure,Result.andThen]
  exact run_storeVar_row _ _ ty ty c c' hb hi hs h1
 refine wpList_storeRun hgd ty x y ho _ _ hx hy hr (h _ (setRow_heap w b c c' ty (0,0) hb) ⟨rfl,rfl,rfl,by simp,fun k _ hk=>setRow_other w b k c' (fun e=>hk (by rw[e]))⟩ (by simp))
theorem wpList_loadO (hgd:o.guard=none) (ty:TypeId) (x:Operand) (ho:o.op=.load ty x) (b:Nat) (c:Array Value) (d:TypeDesc) (hx:a.eval x=.pointer (some ⟨b,0,none⟩))
  (hb:w.heap[b]?=some (.cells c ty (0,0))) (hu:P.underlying ty=some d) (hd:(match d with | .struct _ | .array _ _=>true | _=>false)=true) (hi:(P.info? ty).map (·.size)=some c.size)
  (h:wpList P ops Q rest (a.put o.dst (.agg c)) w):wpList P ops Q (o::rest) a w:=by
 have hr:(Instr.loadAt ty (.pointer (some ⟨b,0,none⟩))).run P w=.ok (.agg c) w:=by
  simp only[Instr.loadAt,Instr.sureAddr,Sem.run_bind,Sem.run_pure,Result.andThen]
  exact run_loadVar_row w b ty ty c (0,0) d hb hu hd hi
 exact wpList_loadRun hgd ty x ho _ _ hx hr h
theorem loadO_run (ty:TypeId) (b:Nat) (c:Array Value) (d:TypeDesc) (hb:w.heap[b]?=some (.cells c ty (0,0))) (hu:P.underlying ty=some d) (hd:(match d with | .struct _ | .array _ _=>true | _=>false)=true) (hi:(P.info? ty).map (·.size)=some c.size):(Instr.loadAt ty (.pointer (some ⟨b,0,none⟩))).run P w=.ok (.agg c) w:=by
 simp only[Instr.loadAt,Instr.sureAddr,Sem.run_bind,Sem.run_pure,Result.andThen]
 exact run_loadVar_row w b ty ty c (0,0) d hb hu hd hi
end
theorem fld0 (a b c d:Value) (w:World):(Instr.field 63 (.agg #[a,b,c,d]) 0).run Tryz.prog w=.ok a w:=by kernel_rfl
theorem fld1 (a b c d:Value) (w:World):(Instr.field 63 (.agg #[a,b,c,d]) 1).run Tryz.prog w=.ok b w:=by kernel_rfl
theorem fld3 (a b c d:Value) (w:World):(Instr.field 63 (.agg #[a,b,c,d]) 3).run Tryz.prog w=.ok d w:=by kernel_rfl
theorem info_tok2:(Tryz.prog.info? 63).map (fun i=>(i.zero,i.size))=some (some (.agg #[.int .i64 0,.string ⟨#[]⟩,.string ⟨#[]⟩,.int .i64 0]),4):=by kernel_rfl
theorem info_node:(Tryz.prog.info? 37).map (fun i=>(i.zero,i.size))=some (some (.agg #[.int .i64 0,.string ⟨#[]⟩,.bool false,.slice none 0 0,.int .i64 0,.slice none 0 0,.slice none 0 0,.int .i64 0]),8):=by kernel_rfl
theorem info_redir:(Tryz.prog.info? 79).map (fun i=>(i.zero,i.size))=some (some (.agg #[.int .i64 0,.string ⟨#[]⟩,.string ⟨#[]⟩,.string ⟨#[]⟩]),4):=by kernel_rfl
theorem size_tok:(Tryz.prog.info? 63).map (·.size)=some 4:=by kernel_rfl
theorem size_node:(Tryz.prog.info? 37).map (·.size)=some 8:=by kernel_rfl
theorem size_redir:(Tryz.prog.info? 79).map (·.size)=some 4:=by kernel_rfl
theorem tcs_one (N:Nat) (t:Lx.Tok):(tcs N t).all (·.oneCell')=true:=by simp[tcs,Value.oneCell']
theorem later_of_new {a b c:World} {x:Nat} (h:Later a b) (hg:b.grownBy c (some x)) (hx:a.heap.size≤x):Later a c:=
 ⟨hg.os.trans h.os,hg.tape.trans h.tape,hg.output.trans h.output,Nat.le_trans h.size hg.size,fun k hk=>(hg.block k (Nat.lt_of_lt_of_le hk h.size) (fun e=>by injection e with e;omega)).trans (h.block k hk)⟩
theorem later_cells {a b:World} {x:Nat} {o:Obj} (h:Later a b) (hx:a.heap[x]?=some o):b.heap[x]?=some o:=(h.block x (lt_of_block hx)).trans hx
theorem grown_cells {a b:World} {x y:Nat} {o:Obj} (h:a.grownBy b (some y)) (hx:a.heap[x]?=some o) (hne:x≠y):b.heap[x]?=some o:=(h.block x (lt_of_block hx) (fun e=>hne (by injection e))).trans hx
theorem results_node {fn:Func} {p:Tmp} (h:fn.results=#[.cell p 37]) (tmps:Array Value) (w:World) (g:Nat) (cs:Array Value) (fr:Nat×Nat) (hp:tmps.getD p undef=.pointer (some ⟨g,0,none⟩)) (hg:w.heap[g]?=some (.cells cs 37 fr)) (hs:cs.size=8):(results fn tmps).run Tryz.prog w=.ok (.agg cs) w:=
 results_cell_row h tmps w g _ cs fr _ hp hg Tryz.underlying37 rfl (by rw[hs];kernel_rfl)
theorem results_redir {fn:Func} {p:Tmp} (h:fn.results=#[.cell p 79]) (tmps:Array Value) (w:World) (g:Nat) (cs:Array Value) (fr:Nat×Nat) (hp:tmps.getD p undef=.pointer (some ⟨g,0,none⟩)) (hg:w.heap[g]?=some (.cells cs 79 fr)) (hs:cs.size=4):(results fn tmps).run Tryz.prog w=.ok (.agg cs) w:=
 results_cell_row h tmps w g _ cs fr _ hp hg Tryz.underlying79 rfl (by rw[hs];kernel_rfl)
end Go.Proofs.YtkkchkkpnlnbgaaGreatDoor
