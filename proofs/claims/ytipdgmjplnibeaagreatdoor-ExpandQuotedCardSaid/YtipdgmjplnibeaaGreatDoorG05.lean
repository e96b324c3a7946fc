import Derived.Test.YtipdgmjplnibeaaGreatDoorG04
import Derived.Deep.QuietTactic
import Derived.Deep.MidRow
import Derived.Deep.WholeRow
import Derived.Laws.Rows
namespace Go.Proofs.YtipdgmjplnibeaaGreatDoor
open Go.RowKit
section
variable {P:Program} {ops:Array Oper} {Q:Exit→Act→World→Prop} {a0:Act} {C:Nat→Value→World→Prop} {R:Nat→Value→World→Prop}
def onlyB (ops:Array Oper) (ps:List Nat) (t0:Tmp):Bool:=(List.range ops.size).all fun i=>match ops[i]? with
 | some o=>o.dst != some t0 || ps.getLast?==some i
 | none=>true
theorem onlyB_at {ps:List Nat} {t0:Tmp} (h:onlyB ops ps t0=true) {i:Nat} {o:Oper} (ho:ops[i]?=some o) (hd:o.dst=some t0):ps[ps.length-1]?=some i:=by
 unfold onlyB at h
 rw[List.all_eq_true] at h
 have:=h i (List.mem_range.2 (Array.getElem?_eq_some_iff.1 ho).1)
 rw[ho] at this
 simp only[hd,bne_self_eq_false,Bool.false_or,beq_iff_eq] at this
 rw[←List.getLast?_eq_getElem?]
 exact this
def OwesQE (P:Program) (ops:Array Oper) (C:Nat→Value→World→Prop) (ps:List Nat) (R:Nat→Value→World→Prop) (a0:Act) (t0:Tmp) (i:Nat) (o:Oper):Prop:=
 ∀ (a:Act) (w:World) (j:Nat) (u:Value),C j u w→(∀ k p,ps[k]?=some p→depOn ops p i=true→j≤k)→(j<ps.length→a.tmps.getD t0 undef=a0.tmps.getD t0 undef)→Sees ops a0 R o a w →
  Region.wanted o (yielded ops a.tmps)=true∧ValWp P o a.eval w fun v w'=>R i (if o.dst.isSome then v else undef) w'∧w'=w
def OwesSE (P:Program) (ops:Array Oper) (Q:Exit→Act→World→Prop) (C:Nat→Value→World→Prop) (ps:List Nat) (R:Nat→Value→World→Prop) (a0:Act) (t0:Tmp) (i:Nat) (o:Oper):Prop:=
 match idx ps i with
 | some j=>OwesW P ops Q C ps R a0 i o j
 | none=>OwesQE P ops C ps R a0 t0 i o
theorem OwesSE.w {ps:List Nat} {t0:Tmp} {i j:Nat} {o:Oper} (h:idx ps i=some j) (hw:OwesW P ops Q C ps R a0 i o j):OwesSE P ops Q C ps R a0 t0 i o:=by unfold OwesSE;rw[h];exact hw
theorem OwesSE.q {ps:List Nat} {t0:Tmp} {i:Nat} {o:Oper} (h:idx ps i=none) (hw:OwesQE P ops C ps R a0 t0 i o):OwesSE P ops Q C ps R a0 t0 i o:=by unfold OwesSE;rw[h];exact hw
def OwesAllSE (P:Program) (ops:Array Oper) (Q:Exit→Act→World→Prop) (C:Nat→Value→World→Prop) (ps:List Nat) (R:Nat→Value→World→Prop) (a0:Act) (t0:Tmp):Nat→List Oper→Prop
 | _,[]=>True
 | n,o::l=>OwesSE P ops Q C ps R a0 t0 n o∧OwesAllSE P ops Q C ps R a0 t0 (n+1) l
theorem owesAllSE_at {ps:List Nat} {t0:Tmp}:∀ (l:List Oper) (n i:Nat) (o:Oper),OwesAllSE P ops Q C ps R a0 t0 n l→l[i]?=some o→OwesSE P ops Q C ps R a0 t0 (n+i) o
 | [],_,i,o,_,h=>by simp at h
 | x::l,n,0,o,h,ho=>by simp at ho;subst ho;exact h.1
 | x::l,n,i+1,o,h,ho=>by
  have:=owesAllSE_at l (n+1) i o h.2 (by simpa using ho)
  rwa[show n+1+i=n+(i+1) by omega] at this
theorem wp_region_seqE {id:Nat} {w:World} {l:List Oper} (hm:P.follows .mixedOrders=true) (ps:List Nat) (C:Nat→Value→World→Prop) (rv:List (Option Value)) (hps:∀ p∈ps,p<l.length) (hnd:ps.Nodup) (hch:chainB l.toArray ps=true) (hok:softB l.toArray a0.tmps.size=true) (t0:Tmp) (hon:onlyB l.toArray ps t0=true)
  (hC:C 0 undef w.drew) (hstep:OwesAllSE P l.toArray Q C ps (RV rv) a0 t0 0 l)
  (hQ:∀ a w u,C ps.length u w→lastIs l.toArray ps ps.length a u→a.defers=a0.defers→a.tmps.size=a0.tmps.size→(∀ t,freeTmp l.toArray t=true→a.tmps.getD t undef=a0.tmps.getD t undef)→(∀ (i:Nat) o,l[i]?=some o→RV rv i (slotOf o.dst a) w)→Q .normal a w) :
  (Code.region id l.toArray true).wp P Q a0 w:=by
 have hmono:∀ i v w w',(fun _ _=>True:World→World→Prop) w w'→RV rv i v w→RV rv i v w':=fun i v w w' _ h=>h
 have hso:=SoftOk.of hok
 refine wp_region_any hm (wpAny_softA (C:=fun listed a w=>∃ j u,PhaseS l.toArray ps C j u listed a w∧(j<ps.length→a.tmps.getD t0 undef=a0.tmps.getD t0 undef)) (R:=RV rv) (G:=fun _ _=>True) hso hmono (fun i o ho listed a w hsz hun hdeps hc hsize hsee K hK=>?_)
  (fun listed a w hall hc h=>?_) l.toArray.size (Array.replicate l.toArray.size false) a0 w.drew ?_ ?_ ⟨by simp,rfl,rfl,fun _ _=>rfl,fun i o ho hl=>?_⟩)
 ·have hil:i<listed.size:=by rw[hsz];exact(Array.getElem?_eq_some_iff.1 ho).1
  have hf:listed.getD i false=false:=by simp[hil] at hun⊢;exact hun
  have hw:=owesAllSE_at l 0 i o hstep (by simpa using ho)
  rw[Nat.zero_add] at hw
  unfold OwesSE at hw
  obtain⟨j,u,hp,he⟩:=hc
  have hdl:=fun d hd=>deps_listed ho hdeps d hd
  cases hi:idx ps i with
  | some j0=>
   rw[hi] at hw
   simp only at hw
   have hj0:=idx_some hi
   have h1:=hp.at_ j0 i hj0
   rw[hf] at h1
   have hle:j≤j0:=by simpa using h1.symm
   have hge:j0≤j:=by
    cases j0 with
    | zero=>omega
    | succ k=>
     have hlt:k<ps.length:=by have:=(List.getElem?_eq_some_iff.1 hj0).1;omega
     have h2:ps[k]?=some ps[k]:=by simp[hlt]
     have h3:=hdl _ (chainB_at hch k ps[k] i h2 hj0)
     rw[hp.at_ k _ h2] at h3
     have:=of_decide_eq_true h3
     omega
   have hje:j=j0:=by omega
   subst hje
   obtain⟨hw1,hw2⟩:=hw a w u hp.c hp.last hsee
   rw[if_pos hw1]
   refine hw2 K fun v w' hR hC'=>hK v w' hR ⟨j+1,v,⟨(List.getElem?_eq_some_iff.1 hj0).1,hC',?_,fun k p hk=>?_,fun k p hk hkj d hd=>?_⟩,fun hjl=>?_⟩ trivial
   ·show (match (ps[j]?).bind fun p=>(l.toArray[p]?).bind (·.dst) with | some t=>(a.put o.dst v).tmps.getD t undef=v | none=>True)
    rw[hj0]
    simp only[Option.bind_some,ho]
    cases hdst:o.dst with
    | none=>trivial
    | some t=>
     have h9:=slot_put_same (a:=a) (d:=o.dst) (v:=v) (fun t' ht'=>by rw[hsize];exact hso.inn i o t' ho ht')
     rw[hdst] at h9
     simpa [slotOf] using h9
   ·by_cases hpi:i=p
    ·subst hpi
     rw[getD_set_same hil,nodup_at hnd hk hj0]
     simp
    ·rw[getD_set_ne hpi,hp.at_ k p hk]
     have hkj:k≠j:=fun e=>hpi (by rw[e,hj0] at hk;exact Option.some.inj hk)
     simp only[decide_eq_decide]
     omega
   ·by_cases hkj':k=j
    ·subst hkj'
     rw[hj0] at hk
     cases hk
     exact listed_more hil (hdl d hd)
    ·exact listed_more hil (hp.dep k p hk (by omega) d hd)
   ·rw[←he (by omega)]
    have h9:=slot_put_other (a:=a) (d:=o.dst) (e:=some t0) (v:=v) (fun t' ht' e=>by
     injection e with e
     subst e
     have h8:=onlyB_at hon ho ht'
     have:=nodup_at hnd hj0 h8
     omega)
    exact h9
  | none=>
   rw[hi] at hw
   simp only at hw
   have hni:=idx_none hi
   have hb:∀ k p,ps[k]?=some p→depOn l.toArray p i=true→j≤k:=fun k p hk hd=>by
    by_cases hkj:k<j
    ·have:=hp.dep k p hk hkj i hd
     rw[hf] at this
     cases this
    ·omega
   obtain⟨hw1,hw2⟩:=hw a w j u hp.c hb he hsee
   rw[if_pos hw1]
   refine wp_of_val (hw2.mono fun v w' hk=>hK v w' hk.1 ?_ trivial)
   obtain⟨_,rfl⟩:=hk
   refine⟨j,u,⟨hp.le,hp.c,?_,fun k p hk=>?_,fun k p hk hkj d hd=>listed_more hil (hp.dep k p hk hkj d hd)⟩,fun hjl=>?_⟩
   ·cases j with
    | zero=>trivial
    | succ j=>
     have h5:=hp.last
     unfold lastIs at h5⊢
     simp only at h5⊢
     cases hpj:ps[j]? with
     | none=>trivial
     | some p=>
      rw[hpj] at h5
      simp only[Option.bind_some] at h5⊢
      cases hpo:l.toArray[p]? with
      | none=>trivial
      | some op=>
       rw[hpo] at h5
       simp only[Option.bind_some] at h5⊢
       cases hpt:op.dst with
       | none=>trivial
       | some t=>
        rw[hpt] at h5
        simp only at h5⊢
        have h9:=slot_put_other (a:=a) (d:=o.dst) (e:=some t) (v:=v) (fun t' ht' e=>hni j (by rw[hpj,hso.one i p o op t' ho hpo ht' (by rw[hpt];exact e)]))
        exact(show (a.put o.dst v).tmps.getD t undef=a.tmps.getD t undef from h9).trans h5
   ·have hpi:i≠p:=fun e=>hni k (by rw[hk,e])
    rw[getD_set_ne hpi,hp.at_ k p hk]
   ·rw[←he hjl]
    have h9:=slot_put_other (a:=a) (d:=o.dst) (e:=some t0) (v:=v) (fun t' ht' e=>by
     injection e with e
     subst e
     exact hni _ (onlyB_at hon ho ht'))
    exact h9
 ·obtain⟨j,u,hp,he⟩:=hc
  have hje:j=ps.length:=by
   by_cases hlt:j<ps.length
   ·have h2:ps[j]?=some ps[j]:=by simp[hlt]
    have h3:=hp.at_ j _ h2
    rw[hall ps[j] (by simpa using hps _ (List.getElem_mem hlt))] at h3
    simp at h3
   ·have:=hp.le;omega
  subst hje
  refine hQ a w u hp.c hp.last h.defers h.size (fun t ht=>h.outer t fun j oj' hj _ hd=>?_) fun i o ho=>h.inner i o (by simpa using ho) (by have:=(List.getElem?_eq_some_iff.1 ho).1;simp[this])
  unfold freeTmp at ht
  rw[List.all_eq_true] at ht
  have:=ht oj' (Array.mem_toList_iff.2 (Array.mem_of_getElem? hj))
  simp[hd] at this
 ·unfold open_;exact Nat.le_trans List.countP_le_length (by simp)
 ·refine⟨0,undef,⟨Nat.zero_le _,hC,trivial,fun k p hk=>?_,fun k p _ hk=>by omega⟩,fun _=>rfl⟩
  by_cases hp:p<l.length <;> simp[hp]
 ·exfalso
  have hi:=(Array.getElem?_eq_some_iff.1 ho).1
  rw[List.size_toArray] at hi
  simp[hi] at hl
end
end Go.Proofs.YtipdgmjplnibeaaGreatDoor
namespace Go.Proofs.YtipdgmjplnibeaaGreatDoor
open Go.RowKit Go.Maps
abbrev L:=List UInt8
theorem cell_row {w:World} {g:Nat} {cs:Array Value} {t:TypeId} (h:w.heap[g]?=some (.cells cs t (0,0))) (i:Nat):w.cell? ⟨g,i,none⟩=cs[i]?∧w.frozen? ⟨g,i,none⟩=false:=
 ⟨by simp[World.cell?,h],by simp[World.frozen?,h]⟩
theorem set_row {w:World} {g:Nat} {cs:Array Value} {t:TypeId} (h:w.heap[g]?=some (.cells cs t (0,0))) (i:Nat) (u:Value):(w.setCell ⟨g,i,none⟩ u).heap[g]?=some (.cells (cs.setIfInBounds i u) t (0,0)):=by
 have hlt:=lt_of_block h
 have h':w.heap[g]=.cells cs t (0,0):=by simpa [Array.getElem?_eq_getElem hlt] using h
 show (w.heap.modify g _)[g]?=_
 rw[Array.getElem?_eq_getElem (by simpa using hlt),Array.getElem_modify_self,h']
 rfl
theorem set_only (w:World) (g i:Nat) (u:Value):w.grownBy (w.setCell ⟨g,i,none⟩ u) (some g):=
 ⟨rfl,rfl,rfl,by simp[World.setCell],fun k _ hk=>Below.heap_setCell _ _ _ _ (fun e=>hk (by rw[e]))⟩
theorem apart_types {w:World} {base size n base' size' n':Nat} {e e':TypeId} {v v':Value} {xs xs':List Value} (h:w.ownsRow base e size v n xs) (h':w.ownsRow base' e' size' v' n' xs') (hne:e≠e'):v.ownBlock=none∨v.ownBlock≠v'.ownBlock:=by
 rcases h.2 with⟨rfl,_⟩ | ⟨g,cap,cur,rfl,_,hg,_⟩
 ·exact .inl rfl
 ·refine .inr fun e1=>?_
  rcases h'.2 with⟨rfl,_⟩ | ⟨g',cap',cur',rfl,_,hg',_⟩
  ·cases e1
  ·simp only[Value.ownBlock,Option.some.injEq] at e1
   subst e1
   rw[hg] at hg'
   simp only[Option.some.injEq,Obj.cells.injEq] at hg'
   exact hne hg'.2.1
theorem ret_bool {a b:Bool} (h:a=b):Ending.returned (.bool a)=.returned (.bool b):=by rw[h]
theorem owes_append {P:Program} {o:Oper} {a:Act} {w w':World} {K:Act→World→Prop} {Q:Exit→Act→World→Prop} {i j:Tmp} {t:TypeId} {v x v':Value} (hrun:(Builtin.append_ #[t,t] o.type #[v,x]).run P w=.ok v' w')
  (ho:o.op=.call { callee:=.builtin .append,args:=#[.tmp i,.tmp j],argTypes:=#[t,t] }) (hi:a.tmps.getD i undef=v) (hj:a.tmps.getD j undef=x) (hK:K (a.put o.dst v') w'):Oper.wp P o a w K Q:=by
 have ei:a.eval (.tmp i)=v:=hi
 have ej:a.eval (.tmp j)=x:=hj
 unfold Oper.wp execOp
 simp only[ho,resolve,invoke,builtin,Sem.run_bind,Sem.run_pure,Result.andThen_ok,List.map_toArray,List.map_cons,List.map_nil,ei,ej,hrun]
 exact hK
theorem later_grown {a b c:World} {row:Option Nat} (h:Later a b) (k:b.grownBy c row):a.grownBy c row:=
 ⟨k.os.trans h.os,k.tape.trans h.tape,k.output.trans h.output,Nat.le_trans h.size k.size,fun i hi hne=>(k.block i (Nat.lt_of_lt_of_le hi h.size) hne).trans (h.block i hi)⟩
def plus (X:Nat→Prop) (l:List Nat):Nat→Prop:=fun b=>X b∨b∈l
structure Fr (X:Nat→Prop) (w w':World):Prop where
 os:w'.os=w.os
 tape:w'.tape=w.tape
 output:w'.output=w.output
 size:w.heap.size≤w'.heap.size
 block:∀ b,b<w.heap.size→X b→w'.heap[b]?=w.heap[b]?
theorem Fr.refl (X:Nat→Prop) (w:World):Fr X w w:=⟨rfl,rfl,rfl,Nat.le_refl _,fun _ _ _=>rfl⟩
theorem Fr.trans {X:Nat→Prop} {a b c:World} (h:Fr X a b) (k:Fr X b c):Fr X a c:=
 ⟨k.os.trans h.os,k.tape.trans h.tape,k.output.trans h.output,Nat.le_trans h.size k.size,fun i hi hx=>(k.block i (Nat.lt_of_lt_of_le hi h.size) hx).trans (h.block i hi hx)⟩
theorem Fr.later {X:Nat→Prop} {a b:World} (h:Later a b):Fr X a b:=⟨h.os,h.tape,h.output,h.size,fun i hi _=>h.block i hi⟩
theorem Fr.grown {X:Nat→Prop} {a b:World} {row:Option Nat} (h:a.grownBy b row) (hr:∀ x,row=some x→¬ X x):Fr X a b:=
 ⟨h.os,h.tape,h.output,h.size,fun i hi hx=>h.block i hi fun e=>hr i e.symm hx⟩
theorem Fr.sub {X Y:Nat→Prop} {a b:World} (h:Fr X a b) (hs:∀ i,Y i→X i):Fr Y a b:=⟨h.os,h.tape,h.output,h.size,fun i hi hy=>h.block i hi (hs i hy)⟩
theorem Fr.less {X:Nat→Prop} {l:List Nat} {a b:World} (h:Fr (plus X l) a b):Fr X a b:=h.sub fun _ hx=>.inl hx
theorem Fr.row {X:Nat→Prop} {a b:World} (h:Fr X a b) {base size n:Nat} {e:TypeId} {v:Value} {xs:List Value} (hr:a.ownsRow base e size v n xs) (hx:∀ i,v.ownBlock=some i→X i):b.ownsRow base e size v n xs:=by
 refine⟨hr.1,?_⟩
 rcases hr.2 with h0 | ⟨g,cap,cur,rfl,h1,h2,h3⟩
 ·exact .inl h0
 ·exact .inr ⟨g,cap,cur,rfl,h1,(h.block g (lt_of_block h2) (hx g rfl)).trans h2,h3⟩
theorem Fr.cells {X:Nat→Prop} {a b:World} (h:Fr X a b) {i:Nat} {o:Obj} (hi:a.heap[i]?=some o) (hx:X i):b.heap[i]?=some o:=(h.block i (lt_of_block hi) hx).trans hi
theorem grown_of_later {a b:World} (h:Later a b) (row:Option Nat):a.grownBy b row:=⟨h.os,h.tape,h.output,h.size,fun k hk _=>h.block k hk⟩
def sv (l:List UInt8):Value:=.string (mkS l)
theorem own_type {w:World} {base size n b:Nat} {e:TypeId} {v:Value} {xs:List Value} (h:w.ownsRow base e size v n xs) (hb:v.ownBlock=some b):∃ cs,w.heap[b]?=some (.cells cs e (0,0)):=by
 rcases h.2 with⟨rfl,_⟩ | ⟨g,cap,cur,rfl,_,h2,_⟩
 ·cases hb
 ·simp only[Value.ownBlock,Option.some.injEq] at hb
  subst hb
  exact⟨cur,h2⟩
theorem Fr.new {X:Nat→Prop} {a b c:World} {x:Nat} (h:Fr X a b) (hg:b.grownBy c (some x)) (hx:a.heap.size≤x):Fr X a c:=
 ⟨hg.os.trans h.os,hg.tape.trans h.tape,hg.output.trans h.output,Nat.le_trans h.size hg.size,fun i hi hxi=>(hg.block i (Nat.lt_of_lt_of_le hi h.size) (fun e=>by injection e with e;omega)).trans (h.block i hi hxi)⟩
theorem Fr.thenLater {X:Nat→Prop} {a b c:World} (h:Fr X a b) (hl:Later b c):Fr X a c:=h.trans (Fr.later hl)
theorem own_any {w:World} {base size n:Nat} {e:TypeId} {v:Value} {xs:List Value} (h:w.ownsRow base e size v n xs):∃ A c,v=.slice A n c∧n≤c:=by
 rcases h.2 with⟨rfl,rfl⟩ | ⟨g,cap,cur,rfl,_,_,hnc,_⟩
 ·exact⟨none,0,rfl,Nat.le_refl _⟩
 ·exact⟨_,_,rfl,hnc⟩
def XL (X:Nat→Prop) (W:World):Prop:=∀ b,X b→b<W.heap.size
theorem XL.mono {X:Nat→Prop} {W W':World} (h:XL X W) (hs:W.heap.size≤W'.heap.size):XL X W':=fun b hb=>Nat.lt_of_lt_of_le (h b hb) hs
theorem wpList_loadRun {P:Program} {ops:Array Oper} {rest:List Oper} {op:Oper} {a:Act} {w:World} {Q:Exit→Act→World→Prop} (hgd:op.guard=none) (ty:TypeId) (x:Operand) (ho:op.op=.load ty x) (p v:Value) (hx:a.eval x=p) (hr:(Instr.loadAt ty p).run P w=.ok v w) (h:wpList P ops Q rest (a.put op.dst v) w):wpList P ops Q (op::rest) a w:=
 wpList_plain hgd fun _ hK=>by
  unfold Oper.wp execOp
  simp only[ho,hx,Sem.run_bind,hr,Result.andThen_ok,Sem.run_pure]
  exact hK _ _ h
theorem wpList_storeRun {P:Program} {ops:Array Oper} {rest:List Oper} {op:Oper} {a:Act} {w w':World} {Q:Exit→Act→World→Prop} (hgd:op.guard=none) (ty:TypeId) (x y:Operand) (ho:op.op=.store ty x y) (p v:Value) (hx:a.eval x=p) (hy:a.eval y=v) (hr:(Instr.storeAt ty p v).run P w=.ok () w') (h:wpList P ops Q rest (a.put op.dst undef) w'):wpList P ops Q (op::rest) a w:=
 wpList_plain hgd fun _ hK=>by
  unfold Oper.wp execOp
  simp only[ho,hx,hy,Sem.run_bind,hr,Result.andThen_ok,Sem.run_pure]
  exact hK _ _ h
theorem ValWp.loadR {P:Program} {o:Oper} {ρ:Operand→Value} {w:World} {K:Value→World→Prop} {ty:TypeId} {x:Operand} {p v:Value} (ho:o.op=.load ty x) (hx:ρ x=p) (hr:(Instr.loadAt ty p).run P w=.ok v w) (hk:K v w):ValWp P o ρ w K:=by
 unfold ValWp execOp
 simp only[ho,hx,Sem.run_bind,hr,Result.andThen_ok,Sem.run_pure]
 exact hk
section
variable {P:Program} {ops:Array Oper} {rest:List Oper} {o:Oper} {a:Act} {w:World} {Q:Exit→Act→World→Prop}
theorem wpList_allocO (tm:Tmp) (_hd:o.dst=some tm) (hgd:o.guard=none) (ty:TypeId) (ho:o.op=.alloc ty) (cs:Array Value) (n:Nat) (hz:(P.info? ty).map (fun i=>(i.zero,i.size))=some (some (.agg cs),n))
  (h:∀ w1,w1.heap[w.heap.size]?=some (.cells cs ty (0,0))→Later w w1→w1.heap.size=w.heap.size+1→wpList P ops Q rest (a.put o.dst (.pointer (some ⟨w.heap.size,0,none⟩))) w1):wpList P ops Q (o::rest) a w:=
 wpList_plain hgd fun _ hK=>by
  have hz1:=(zero_of_info hz).1
  unfold Oper.wp execOp
  simp only[ho,Instr.alloc,Sem.run_bind,hz1,Result.andThen_ok,Sem.run_pure]
  simp only[newVar,go_sem]
  exact hK _ _ (h (w.alloc (.cells cs ty)) (heap_alloc_new w _) (Later.alloc w _) (by simp))
theorem wpList_storeO (hgd:o.guard=none) (ty:TypeId) (x y:Operand) (ho:o.op=.store ty x y) (b:Nat) (c c':Array Value) (hx:a.eval x=.pointer (some ⟨b,0,none⟩)) (hy:a.eval y=.agg c')
  (hb:w.heap[b]?=some (.cells c ty (0,0))) (hi:(P.info? ty).map (·.size)=some c'.size) (hs:c.size=c'.size) (h1:c'.all (·.oneCell')=true)
  (h:∀ w1,w1.heap[b]?=some (.cells c' ty (0,0))→w.grownBy w1 (some b)→w1.heap.size=w.heap.size→wpList P ops Q rest (a.put o.dst undef) w1):wpList P ops Q (o::rest) a w:=by
 have hr:(Instr.storeAt ty (.pointer (some ⟨b,0,none⟩)) (.agg c')).run P w=.ok () (w.setRow b c'):=by
  simp only[Instr.storeAt,Instr.sureAddr,Sem.run_bind,Sem.run_pure,Result.andThen]
  exact run_storeVar_row _ _ ty ty c c' hb hi hs h1
 refine wpList_storeRun hgd ty x y ho _ _ hx hy hr (h _ (setRow_heap w b c c' ty (0,0) hb) ⟨rfl,rfl,rfl,by simp,fun k _ hk=>setRow_other w b k c' (fun e=>hk (by rw[e]))⟩ (by simp))
theorem wpList_loadO (hgd:o.guard=none) (ty:TypeId) (x:Operand) (ho:o.op=.load ty x) (b:Nat) (c:Array Value) (d:TypeDesc) (hx:a.eval x=.pointer (some ⟨b,0,none⟩))
  (hb:w.heap[b]?=some (.cells c ty (0,0))) (hu:P.underlying ty=some d) (hd:(match d with | .struct _ | .array _ _=>true | _=>false)=true) (hi:(P.info? ty).map (·.size)=some c.size)
  (h:wpList P ops Q rest (a.put o.dst (.agg c)) w):wpList P ops Q (o::rest) a w:=by
 have hr:(Instr.loadAt ty (.pointer (some ⟨b,0,none⟩))).run P w=.ok (.agg c) w:=by
  simp only[Instr.loadAt,Instr.sureAddr,Sem.run_bind,Sem.run_pure,Result.andThen]
  exact run_loadVar_row w b ty ty c (0,0) d hb hu hd hi
 exact wpList_loadRun hgd ty x ho _ _ hx hr h
theorem loadO_run (ty:TypeId) (b:Nat) (c:Array Value) (d:TypeDesc) (hb:w.heap[b]?=some (.cells c ty (0,0))) (hu:P.underlying ty=some d) (hd:(match d with | .struct _ | .array _ _=>true | _=>false)=true) (hi:(P.info? ty).map (·.size)=some c.size):(Instr.loadAt ty (.pointer (some ⟨b,0,none⟩))).run P w=.ok (.agg c) w:=by
 simp only[Instr.loadAt,Instr.sureAddr,Sem.run_bind,Sem.run_pure,Result.andThen]
 exact run_loadVar_row w b ty ty c (0,0) d hb hu hd hi
end
theorem later_of_new {a b c:World} {x:Nat} (h:Later a b) (hg:b.grownBy c (some x)) (hx:a.heap.size≤x):Later a c:=
 ⟨hg.os.trans h.os,hg.tape.trans h.tape,hg.output.trans h.output,Nat.le_trans h.size hg.size,fun k hk=>(hg.block k (Nat.lt_of_lt_of_le hk h.size) (fun e=>by injection e with e;omega)).trans (h.block k hk)⟩
theorem later_cells {a b:World} {x:Nat} {o:Obj} (h:Later a b) (hx:a.heap[x]?=some o):b.heap[x]?=some o:=(h.block x (lt_of_block hx)).trans hx
theorem grown_cells {a b:World} {x y:Nat} {o:Obj} (h:a.grownBy b (some y)) (hx:a.heap[x]?=some o) (hne:x≠y):b.heap[x]?=some o:=(h.block x (lt_of_block hx) (fun e=>hne (by injection e))).trans hx
end Go.Proofs.YtipdgmjplnibeaaGreatDoor
