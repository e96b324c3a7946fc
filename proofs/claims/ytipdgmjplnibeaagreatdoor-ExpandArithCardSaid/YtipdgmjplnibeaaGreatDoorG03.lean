import Derived.Test.YtipdgmjplnibeaaGreatDoorG02
import Derived.Deep.QuietTactic
import Derived.Deep.MidRow
import Derived.Deep.WholeRow
import Derived.Laws.Rows
import Derived.Lib.Strings
import Derived.Lib.Bytealg
namespace Go.Proofs.YtipdgmjplnibeaaGreatDoor
open Go.RowKit
section
variable {P:Program} {ops:Array Oper} {Q:Exit→Act→World→Prop} {a0:Act} {C:Nat→Value→World→Prop} {R:Nat→Value→World→Prop}
def onlyB (ops:Array Oper) (ps:List Nat) (t0:Tmp):Bool:=(List.range ops.size).all fun i=>match ops[i]? with
 | some o=>o.dst != some t0 || ps.getLast?==some i
 | none=>true
theorem onlyB_at {ps:List Nat} {t0:Tmp} (h:onlyB ops ps t0=true) {i:Nat} {o:Oper} (ho:ops[i]?=some o) (hd:o.dst=some t0):ps[ps.length-1]?=some i:=by
 unfold onlyB at h
 rw[List.all_eq_true] at h
 have:=h i (List.mem_range.2 (Array.getElem?_eq_some_iff.1 ho).1)
 rw[ho] at this
 simp only[hd,bne_self_eq_false,Bool.false_or,beq_iff_eq] at this
 rw[←List.getLast?_eq_getElem?]
 exact this
def OwesQE (P:Program) (ops:Array Oper) (C:Nat→Value→World→Prop) (ps:List Nat) (R:Nat→Value→World→Prop) (a0:Act) (t0:Tmp) (i:Nat) (o:Oper):Prop:=
 ∀ (a:Act) (w:World) (j:Nat) (u:Value),C j u w→(∀ k p,ps[k]?=some p→depOn ops p i=true→j≤k)→(j<ps.length→a.tmps.getD t0 undef=a0.tmps.getD t0 undef)→Sees ops a0 R o a w →
  Region.wanted o (yielded ops a.tmps)=true∧ValWp P o a.eval w fun v w'=>R i (if o.dst.isSome then v else undef) w'∧w'=w
def OwesSE (P:Program) (ops:Array Oper) (Q:Exit→Act→World→Prop) (C:Nat→Value→World→Prop) (ps:List Nat) (R:Nat→Value→World→Prop) (a0:Act) (t0:Tmp) (i:Nat) (o:Oper):Prop:=
 match idx ps i with
 | some j=>OwesW P ops Q C ps R a0 i o j
 | none=>OwesQE P ops C ps R a0 t0 i o
theorem OwesSE.w {ps:List Nat} {t0:Tmp} {i j:Nat} {o:Oper} (h:idx ps i=some j) (hw:OwesW P ops Q C ps R a0 i o j):OwesSE P ops Q C ps R a0 t0 i o:=by unfold OwesSE;rw[h];exact hw
theorem OwesSE.q {ps:List Nat} {t0:Tmp} {i:Nat} {o:Oper} (h:idx ps i=none) (hw:OwesQE P ops C ps R a0 t0 i o):OwesSE P ops Q C ps R a0 t0 i o:=by unfold OwesSE;rw[h];exact hw
def OwesAllSE (P:Program) (ops:Array Oper) (Q:Exit→Act→World→Prop) (C:Nat→Value→World→Prop) (ps:List Nat) (R:Nat→Value→World→Prop) (a0:Act) (t0:Tmp):Nat→List Oper→Prop
 | _,[]=>True
 | n,o::l=>OwesSE P ops Q C ps R a0 t0 n o∧OwesAllSE P ops Q C ps R a0 t0 (n+1) l
theorem owesAllSE_at {ps:List Nat} {t0:Tmp}:∀ (l:List Oper) (n i:Nat) (o:Oper),OwesAllSE P ops Q C ps R a0 t0 n l→l[i]?=some o→OwesSE P ops Q C ps R a0 t0 (n+i) o
 | [],_,i,o,_,h=>by simp at h
 | x::l,n,0,o,h,ho=>by simp at ho;subst ho;exact h.1
 | x::l,n,i+1,o,h,ho=>by
  have:=owesAllSE_at l (n+1) i o h.2 (by simpa using ho)
  rwa[show n+1+i=n+(i+1) by omega] at this
theorem wp_region_seqE {id:Nat} {w:World} {l:List Oper} (hm:P.follows .mixedOrders=true) (ps:List Nat) (C:Nat→Value→World→Prop) (rv:List (Option Value)) (hps:∀ p∈ps,p<l.length) (hnd:ps.Nodup) (hch:chainB l.toArray ps=true) (hok:softB l.toArray a0.tmps.size=true) (t0:Tmp) (hon:onlyB l.toArray ps t0=true)
  (hC:C 0 undef w.drew) (hstep:OwesAllSE P l.toArray Q C ps (RV rv) a0 t0 0 l)
  (hQ:∀ a w u,C ps.length u w→lastIs l.toArray ps ps.length a u→a.defers=a0.defers→a.tmps.size=a0.tmps.size→(∀ t,freeTmp l.toArray t=true→a.tmps.getD t undef=a0.tmps.getD t undef)→(∀ (i:Nat) o,l[i]?=some o→RV rv i (slotOf o.dst a) w)→Q .normal a w) :
  (Code.region id l.toArray true).wp P Q a0 w:=by
 have hmono:∀ i v w w',(fun _ _=>True:World→World→Prop) w w'→RV rv i v w→RV rv i v w':=fun i v w w' _ h=>h
 have hso:=SoftOk.of hok
 refine wp_region_any hm (wpAny_softA (C:=fun listed a w=>∃ j u,PhaseS l.toArray ps C j u listed a w∧(j<ps.length→a.tmps.getD t0 undef=a0.tmps.getD t0 undef)) (R:=RV rv) (G:=fun _ _=>True) hso hmono (fun i o ho listed a w hsz hun hdeps hc hsize hsee K hK=>?_)
  (fun listed a w hall hc h=>?_) l.toArray.size (Array.replicate l.toArray.size false) a0 w.drew ?_ ?_ ⟨by simp,rfl,rfl,fun _ _=>rfl,fun i o ho hl=>?_⟩)
 ·have hil:i<listed.size:=by rw[hsz];exact(Array.getElem?_eq_some_iff.1 ho).1
  have hf:listed.getD i false=false:=by simp[hil] at hun⊢;exact hun
  have hw:=owesAllSE_at l 0 i o hstep (by simpa using ho)
  rw[Nat.zero_add] at hw
  unfold OwesSE at hw
  obtain⟨j,u,hp,he⟩:=hc
  have hdl:=fun d hd=>deps_listed ho hdeps d hd
  cases hi:idx ps i with
  | some j0=>
   rw[hi] at hw
   simp only at hw
   have hj0:=idx_some hi
   have h1:=hp.at_ j0 i hj0
   rw[hf] at h1
   have hle:j≤j0:=by simpa using h1.symm
   have hge:j0≤j:=by
    cases j0 with
    | zero=>omega
    | succ k=>
     have hlt:k<ps.length:=by have:=(List.getElem?_eq_some_iff.1 hj0).1;omega
     have h2:ps[k]?=some ps[k]:=by simp[hlt]
     have h3:=hdl _ (chainB_at hch k ps[k] i h2 hj0)
     rw[hp.at_ k _ h2] at h3
     have:=of_decide_eq_true h3
     omega
   have hje:j=j0:=by omega
   subst hje
   obtain⟨hw1,hw2⟩:=hw a w u hp.c hp.last hsee
   rw[if_pos hw1]
   refine hw2 K fun v w' hR hC'=>hK v w' hR ⟨j+1,v,⟨(List.getElem?_eq_some_iff.1 hj0).1,hC',?_,fun k p hk=>?_,fun k p hk hkj d hd=>?_⟩,fun hjl=>?_⟩ trivial
   ·show (match (ps[j]?).bind fun p=>(l.toArray[p]?).bind (·.dst) with | some t=>(a.put o.dst v).tmps.getD t undef=v | none=>True)
    rw[hj0]
    simp only[Option.bind_some,ho]
    cases hdst:o.dst with
    | none=>trivial
    | some t=>
     have h9:=slot_put_same (a:=a) (d:=o.dst) (v:=v) (fun t' ht'=>by rw[hsize];exact hso.inn i o t' ho ht')
     rw[hdst] at h9
     simpa [slotOf] using h9
   ·by_cases hpi:i=p
    ·subst hpi
     rw[getD_set_same hil,nodup_at hnd hk hj0]
     simp
    ·rw[getD_set_ne hpi,hp.at_ k p hk]
     have hkj:k≠j:=fun e=>hpi (by rw[e,hj0] at hk;exact Option.some.inj hk)
     simp only[decide_eq_decide]
     omega
   ·by_cases hkj':k=j
    ·subst hkj'
     rw[hj0] at hk
     cases hk
     exact listed_more hil (hdl d hd)
    ·exact listed_more hil (hp.dep k p hk (by omega) d hd)
   ·rw[←he (by omega)]
    have h9:=slot_put_other (a:=a) (d:=o.dst) (e:=some t0) (v:=v) (fun t' ht' e=>by
     injection e with e
     subst e
     have h8:=onlyB_at hon ho ht'
     have:=nodup_at hnd hj0 h8
     omega)
    exact h9
  | none=>
   rw[hi] at hw
   simp only at hw
   have hni:=idx_none hi
   have hb:∀ k p,ps[k]?=some p→depOn l.toArray p i=true→j≤k:=fun k p hk hd=>by
    by_cases hkj:k<j
    ·have:=hp.dep k p hk hkj i hd
     rw[hf] at this
     cases this
    ·omega
   obtain⟨hw1,hw2⟩:=hw a w j u hp.c hb he hsee
   rw[if_pos hw1]
   refine wp_of_val (hw2.mono fun v w' hk=>hK v w' hk.1 ?_ trivial)
   obtain⟨_,rfl⟩:=hk
   refine⟨j,u,⟨hp.le,hp.c,?_,fun k p hk=>?_,fun k p hk hkj d hd=>listed_more hil (hp.dep k p hk hkj d hd)⟩,fun hjl=>?_⟩
   ·cases j with
    | zero=>trivial
    | succ j=>
     have h5:=hp.last
     unfold lastIs at h5⊢
     simp only at h5⊢
     cases hpj:ps[j]? with
     | none=>trivial
     | some p=>
      rw[hpj] at h5
      simp only[Option.bind_some] at h5⊢
      cases hpo:l.toArray[p]? with
      | none=>trivial
      | some op=>
       rw[hpo] at h5
       simp only[Option.bind_some] at h5⊢
       cases hpt:op.dst with
       | none=>trivial
       | some t=>
        rw[hpt] at h5
        simp only at h5⊢
        have h9:=slot_put_other (a:=a) (d:=o.dst) (e:=some t) (v:=v) (fun t' ht' e=>hni j (by rw[hpj,hso.one i p o op t' ho hpo ht' (by rw[hpt];exact e)]))
        exact(show (a.put o.dst v).tmps.getD t undef=a.tmps.getD t undef from h9).trans h5
   ·have hpi:i≠p:=fun e=>hni k (by rw[hk,e])
    rw[getD_set_ne hpi,hp.at_ k p hk]
   ·rw[←he hjl]
    have h9:=slot_put_other (a:=a) (d:=o.dst) (e:=some t0) (v:=v) (fun t' ht' e=>by
     injection e with e
     subst e
     exact hni _ (onlyB_at hon ho ht'))
    exact h9
 ·obtain⟨j,u,hp,he⟩:=hc
  have hje:j=ps.length:=by
   by_cases hlt:j<ps.length
   ·have h2:ps[j]?=some ps[j]:=by simp[hlt]
    have h3:=hp.at_ j _ h2
    rw[hall ps[j] (by simpa using hps _ (List.getElem_mem hlt))] at h3
    simp at h3
   ·have:=hp.le;omega
  subst hje
  refine hQ a w u hp.c hp.last h.defers h.size (fun t ht=>h.outer t fun j oj' hj _ hd=>?_) fun i o ho=>h.inner i o (by simpa using ho) (by have:=(List.getElem?_eq_some_iff.1 ho).1;simp[this])
  unfold freeTmp at ht
  rw[List.all_eq_true] at ht
  have:=ht oj' (Array.mem_toList_iff.2 (Array.mem_of_getElem? hj))
  simp[hd] at this
 ·unfold open_;exact Nat.le_trans List.countP_le_length (by simp)
 ·refine⟨0,undef,⟨Nat.zero_le _,hC,trivial,fun k p hk=>?_,fun k p _ hk=>by omega⟩,fun _=>rfl⟩
  by_cases hp:p<l.length <;> simp[hp]
 ·exfalso
  have hi:=(Array.getElem?_eq_some_iff.1 ho).1
  rw[List.size_toArray] at hi
  simp[hi] at hl
end
end Go.Proofs.YtipdgmjplnibeaaGreatDoor
namespace Go.Proofs.YtipdgmjplnibeaaGreatDoor
open Go.RowKit Go.Maps
abbrev L:=List UInt8
theorem cell_row {w:World} {g:Nat} {cs:Array Value} {t:TypeId} (h:w.heap[g]?=some (.cells cs t (0,0))) (i:Nat):w.cell? ⟨g,i,none⟩=cs[i]?∧w.frozen? ⟨g,i,none⟩=false:=
 ⟨by simp[World.cell?,h],by simp[World.frozen?,h]⟩
theorem set_row {w:World} {g:Nat} {cs:Array Value} {t:TypeId} (h:w.heap[g]?=some (.cells cs t (0,0))) (i:Nat) (u:Value):(w.setCell ⟨g,i,none⟩ u).heap[g]?=some (.cells (cs.setIfInBounds i u) t (0,0)):=by
 have hlt:=lt_of_block h
 have h':w.heap[g]=.cells cs t (0,0):=by simpa [Array.getElem?_eq_getElem hlt] using h
 show (w.heap.modify g _)[g]?=_
 rw[Array.getElem?_eq_getElem (by simpa using hlt),Array.getElem_modify_self,h']
 rfl
theorem set_only (w:World) (g i:Nat) (u:Value):w.grownBy (w.setCell ⟨g,i,none⟩ u) (some g):=
 ⟨rfl,rfl,rfl,by simp[World.setCell],fun k _ hk=>Below.heap_setCell _ _ _ _ (fun e=>hk (by rw[e]))⟩
theorem apart_types {w:World} {base size n base' size' n':Nat} {e e':TypeId} {v v':Value} {xs xs':List Value} (h:w.ownsRow base e size v n xs) (h':w.ownsRow base' e' size' v' n' xs') (hne:e≠e'):v.ownBlock=none∨v.ownBlock≠v'.ownBlock:=by
 rcases h.2 with⟨rfl,_⟩ | ⟨g,cap,cur,rfl,_,hg,_⟩
 ·exact .inl rfl
 ·refine .inr fun e1=>?_
  rcases h'.2 with⟨rfl,_⟩ | ⟨g',cap',cur',rfl,_,hg',_⟩
  ·cases e1
  ·simp only[Value.ownBlock,Option.some.injEq] at e1
   subst e1
   rw[hg] at hg'
   simp only[Option.some.injEq,Obj.cells.injEq] at hg'
   exact hne hg'.2.1
theorem ret_bool {a b:Bool} (h:a=b):Ending.returned (.bool a)=.returned (.bool b):=by rw[h]
theorem owes_append {P:Program} {o:Oper} {a:Act} {w w':World} {K:Act→World→Prop} {Q:Exit→Act→World→Prop} {i j:Tmp} {t:TypeId} {v x v':Value} (hrun:(Builtin.append_ #[t,t] o.type #[v,x]).run P w=.ok v' w')
  (ho:o.op=.call { callee:=.builtin .append,args:=#[.tmp i,.tmp j],argTypes:=#[t,t] }) (hi:a.tmps.getD i undef=v) (hj:a.tmps.getD j undef=x) (hK:K (a.put o.dst v') w'):Oper.wp P o a w K Q:=by
 have ei:a.eval (.tmp i)=v:=hi
 have ej:a.eval (.tmp j)=x:=hj
 unfold Oper.wp execOp
 simp only[ho,resolve,invoke,builtin,Sem.run_bind,Sem.run_pure,Result.andThen_ok,List.map_toArray,List.map_cons,List.map_nil,ei,ej,hrun]
 exact hK
theorem later_grown {a b c:World} {row:Option Nat} (h:Later a b) (k:b.grownBy c row):a.grownBy c row:=
 ⟨k.os.trans h.os,k.tape.trans h.tape,k.output.trans h.output,Nat.le_trans h.size k.size,fun i hi hne=>(k.block i (Nat.lt_of_lt_of_le hi h.size) hne).trans (h.block i hi)⟩
def plus (X:Nat→Prop) (l:List Nat):Nat→Prop:=fun b=>X b∨b∈l
structure Fr (X:Nat→Prop) (w w':World):Prop where
 os:w'.os=w.os
 tape:w'.tape=w.tape
 output:w'.output=w.output
 size:w.heap.size≤w'.heap.size
 block:∀ b,b<w.heap.size→X b→w'.heap[b]?=w.heap[b]?
theorem Fr.refl (X:Nat→Prop) (w:World):Fr X w w:=⟨rfl,rfl,rfl,Nat.le_refl _,fun _ _ _=>rfl⟩
theorem Fr.trans {X:Nat→Prop} {a b c:World} (h:Fr X a b) (k:Fr X b c):Fr X a c:=
 ⟨k.os.trans h.os,k.tape.trans h.tape,k.output.trans h.output,Nat.le_trans h.size k.size,fun i hi hx=>(k.block i (Nat.lt_of_lt_of_le hi h.size) hx).trans (h.block i hi hx)⟩
theorem Fr.later {X:Nat→Prop} {a b:World} (h:Later a b):Fr X a b:=⟨h.os,h.tape,h.output,h.size,fun i hi _=>h.block i hi⟩
theorem Fr.grown {X:Nat→Prop} {a b:World} {row:Option Nat} (h:a.grownBy b row) (hr:∀ x,row=some x→¬ X x):Fr X a b:=
 ⟨h.os,h.tape,h.output,h.size,fun i hi hx=>h.block i hi fun e=>hr i e.symm hx⟩
theorem Fr.sub {X Y:Nat→Prop} {a b:World} (h:Fr X a b) (hs:∀ i,Y i→X i):Fr Y a b:=⟨h.os,h.tape,h.output,h.size,fun i hi hy=>h.block i hi (hs i hy)⟩
theorem Fr.less {X:Nat→Prop} {l:List Nat} {a b:World} (h:Fr (plus X l) a b):Fr X a b:=h.sub fun _ hx=>.inl hx
theorem Fr.row {X:Nat→Prop} {a b:World} (h:Fr X a b) {base size n:Nat} {e:TypeId} {v:Value} {xs:List Value} (hr:a.ownsRow base e size v n xs) (hx:∀ i,v.ownBlock=some i→X i):b.ownsRow base e size v n xs:=by
 refine⟨hr.1,?_⟩
 rcases hr.2 with h0 | ⟨g,cap,cur,rfl,h1,h2,h3⟩
 ·exact .inl h0
 ·exact .inr ⟨g,cap,cur,rfl,h1,(h.block g (lt_of_block h2) (hx g rfl)).trans h2,h3⟩
theorem Fr.cells {X:Nat→Prop} {a b:World} (h:Fr X a b) {i:Nat} {o:Obj} (hi:a.heap[i]?=some o) (hx:X i):b.heap[i]?=some o:=(h.block i (lt_of_block hi) hx).trans hi
theorem grown_of_later {a b:World} (h:Later a b) (row:Option Nat):a.grownBy b row:=⟨h.os,h.tape,h.output,h.size,fun k hk _=>h.block k hk⟩
def sv (l:List UInt8):Value:=.string (mkS l)
theorem own_type {w:World} {base size n b:Nat} {e:TypeId} {v:Value} {xs:List Value} (h:w.ownsRow base e size v n xs) (hb:v.ownBlock=some b):∃ cs,w.heap[b]?=some (.cells cs e (0,0)):=by
 rcases h.2 with⟨rfl,_⟩ | ⟨g,cap,cur,rfl,_,h2,_⟩
 ·cases hb
 ·simp only[Value.ownBlock,Option.some.injEq] at hb
  subst hb
  exact⟨cur,h2⟩
theorem Fr.new {X:Nat→Prop} {a b c:World} {x:Nat} (h:Fr X a b) (hg:b.grownBy c (some x)) (hx:a.heap.size≤x):Fr X a c:=
 ⟨hg.os.trans h.os,hg.tape.trans h.tape,hg.output.trans h.output,Nat.le_trans h.size hg.size,fun i hi hxi=>(hg.block i (Nat.lt_of_lt_of_le hi h.size) (fun e=>by injection e with e;omega)).trans (h.block i hi hxi)⟩
theorem Fr.thenLater {X:Nat→Prop} {a b c:World} (h:Fr X a b) (hl:Later b c):Fr X a c:=h.trans (Fr.later hl)
theorem own_any {w:World} {base size n:Nat} {e:TypeId} {v:Value} {xs:List Value} (h:w.ownsRow base e size v n xs):∃ A c,v=.slice A n c∧n≤c:=by
 rcases h.2 with⟨rfl,rfl⟩ | ⟨g,cap,cur,rfl,_,_,hnc,_⟩
 ·exact⟨none,0,rfl,Nat.le_refl _⟩
 ·exact⟨_,_,rfl,hnc⟩
def XL (X:Nat→Prop) (W:World):Prop:=∀ b,X b→b<W.heap.size
theorem XL.mono {X:Nat→Prop} {W W':World} (h:XL X W) (hs:W.heap.size≤W'.heap.size):XL X W':=fun b hb=>Nat.lt_of_lt_of_le (h b hb) hs
theorem wpList_loadRun {P:Program} {ops:Array Oper} {rest:List Oper} {op:Oper} {a:Act} {w:World} {Q:Exit→Act→World→Prop} (hgd:op.guard=none) (ty:TypeId) (x:Operand) (ho:op.op=.load ty x) (p v:Value) (hx:a.eval x=p) (hr:(Instr.loadAt ty p).run P w=.ok v w) (h:wpList P ops Q rest (a.put op.dst v) w):wpList P ops Q (op::rest) a w:=
 wpList_plain hgd fun _ hK=>by
  unfold Oper.wp execOp
  simp only[ho,hx,Sem.run_bind,hr,Result.andThen_ok,Sem.run_pure]
  exact hK _ _ h
theorem wpList_storeRun {P:Program} {ops:Array Oper} {rest:List Oper} {op:Oper} {a:Act} {w w':World} {Q:Exit→Act→World→Prop} (hgd:op.guard=none) (ty:TypeId) (x y:Operand) (ho:op.op=.store ty x y) (p v:Value) (hx:a.eval x=p) (hy:a.eval y=v) (hr:(Instr.storeAt ty p v).run P w=.ok () w') (h:wpList P ops Q rest (a.put op.dst undef) w'):wpList P ops Q (op::rest) a w:=
 wpList_plain hgd fun _ hK=>by
  unfold Oper.wp execOp
  simp only[ho,hx,hy,Sem.run_bind,hr,Result.andThen_ok,Sem.run_pure]
  exact hK _ _ h
theorem ValWp.loadR {P:Program} {o:Oper} {ρ:Operand→Value} {w:World} {K:Value→World→Prop} {ty:TypeId} {x:Operand} {p v:Value} (ho:o.op=.load ty x) (hx:ρ x=p) (hr:(Instr.loadAt ty p).run P w=.ok v w) (hk:K v w):ValWp P o ρ w K:=by
 unfold ValWp execOp
 simp only[ho,hx,Sem.run_bind,hr,Result.andThen_ok,Sem.run_pure]
 exact hk
section
variable {P:Program} {ops:Array Oper} {rest:List Oper} {o:Oper} {a:Act} {w:World} {Q:Exit→Act→World→Prop}
theorem wpList_allocO (tm:Tmp) (_hd:o.dst=some tm) (hgd:o.guard=none) (ty:TypeId) (ho:o.op=.alloc ty) (cs:Array Value) (n:Nat) (hz:(P.info? ty).map (fun i=>(i.zero,i.size))=some (some (.agg cs),n))
  (h:∀ w1,w1.heap[w.heap.size]?=some (.cells cs ty (0,0))→Later w w1→w1.heap.size=w.heap.size+1→wpList P ops Q rest (a.put o.dst (.pointer (some ⟨w.heap.size,0,none⟩))) w1):wpList P ops Q (o::rest) a w:=
 wpList_plain hgd fun _ hK=>by
  have hz1:=(zero_of_info hz).1
  unfold Oper.wp execOp
  simp only[ho,Instr.alloc,Sem.run_bind,hz1,Result.andThen_ok,Sem.run_pure]
  simp only[newVar,go_sem]
  exact hK _ _ (h (w.alloc (.cells cs ty)) (heap_alloc_new w _) (Later.alloc w _) (by simp))
theorem wpList_storeO (hgd:o.guard=none) (ty:TypeId) (x y:Operand) (ho:o.op=.store ty x y) (b:Nat) (c c':Array Value) (hx:a.eval x=.pointer (some ⟨b,0,none⟩)) (hy:a.eval y=.agg c')
  (hb:w.heap[b]?=some (.cells c ty (0,0))) (hi:(P.info? ty).map (·.size)=some c'.size) (hs:c.size=c'.size) (h1:c'.all (·.oneCell')=true)
  (h:∀ w1,w1.heap[b]?=some (.cells c' ty (0,0))→w.grownBy w1 (some b)→w1.heap.size=w.heap.size→wpList P ops Q rest (a.put o.dst undef) w1):wpList P ops Q (o::rest) a w:=by
 have hr:(Instr.storeAt ty (.pointer (some ⟨b,0,none⟩)) (.agg c')).run P w=.ok () (w.setRow b c'):=by
  simp only[Instr.storeAt,Instr.sureAddr,Sem.run_bind,Sem.run_pure,Result.andThen]
  exact run_storeVar_row _ _ ty ty c c' hb hi hs h1
 refine wpList_storeRun hgd ty x y ho _ _ hx hy hr (h _ (setRow_heap w b c c' ty (0,0) hb) ⟨rfl,rfl,rfl,by simp,fun k _ hk=>setRow_other w b k c' (fun e=>hk (by rw[e]))⟩ (by simp))
theorem wpList_loadO (hgd:o.guard=none) (ty:TypeId) (x:Operand) (ho:o.op=.load ty x) (b:Nat) (c:Array Value) (d:TypeDesc) (hx:a.eval x=.pointer (some ⟨b,0,none⟩))
  (hb:w.heap[b]?=some (.cells c ty (0,0))) (hu:P.underlying ty=some d) (hd:(match d with | .struct _ | .array _ _=>true | _=>false)=true) (hi:(P.info? ty).map (·.size)=some c.size)
  (h:wpList P ops Q rest (a.put o.dst (.agg c)) w):wpList P ops Q (o::rest) a w:=by
 have hr:(Instr.loadAt ty (.pointer (some ⟨b,0,none⟩))).run P w=.ok (.agg c) w:=by
  simp only[Instr.loadAt,Instr.sureAddr,Sem.run_bind,Sem.run_pure,Result.andThen]
  exact run_loadVar_row w b ty ty c (0,0) d hb hu hd hi
 exact wpList_loadRun hgd ty x ho _ _ hx hr h
theorem loadO_run (ty:TypeId) (b:Nat) (c:Array Value) (d:TypeDesc) (hb:w.heap[b]?=some (.cells c ty (0,0))) (hu:P.underlying ty=some d) (hd:(match d with | .struct _ | .array _ _=>true | _=>false)=true) (hi:(P.info? ty).map (·.size)=some c.size):(Instr.loadAt ty (.pointer (some ⟨b,0,none⟩))).run P w=.ok (.agg c) w:=by
 simp only[Instr.loadAt,Instr.sureAddr,Sem.run_bind,Sem.run_pure,Result.andThen]
 exact run_loadVar_row w b ty ty c (0,0) d hb hu hd hi
end
theorem later_of_new {a b c:World} {x:Nat} (h:Later a b) (hg:b.grownBy c (some x)) (hx:a.heap.size≤x):Later a c:=
 ⟨hg.os.trans h.os,hg.tape.trans h.tape,hg.output.trans h.output,Nat.le_trans h.size hg.size,fun k hk=>(hg.block k (Nat.lt_of_lt_of_le hk h.size) (fun e=>by injection e with e;omega)).trans (h.block k hk)⟩
theorem later_cells {a b:World} {x:Nat} {o:Obj} (h:Later a b) (hx:a.heap[x]?=some o):b.heap[x]?=some o:=(h.block x (lt_of_block hx)).trans hx
theorem grown_cells {a b:World} {x y:Nat} {o:Obj} (h:a.grownBy b (some y)) (hx:a.heap[x]?=some o) (hne:x≠y):b.heap[x]?=some o:=(h.block x (lt_of_block hx) (fun e=>hne (by injection e))).trans hx
end Go.Proofs.YtipdgmjplnibeaaGreatDoor
namespace Go.Proofs.YtipdgmjplnibeaaGreatDoor
namespace Wd
abbrev B:=List UInt8
inductive P where
 | mk (k:Nat) (t o:B) (q:Bool) (w:List P)
def P.k:P→Nat | .mk k _ _ _ _=>k
def P.t:P→B | .mk _ t _ _ _=>t
def P.o:P→B | .mk _ _ o _ _=>o
def P.q:P→Bool | .mk _ _ _ q _=>q
def P.w:P→List P | .mk _ _ _ _ w=>w
def P0:P:=.mk 0 [] [] false []
structure R where
 ps:List P
 k:Nat
 t:B
structure S where
 l:B
 e:Nat
def fail (n:Nat) (s:S):S:=⟨[],if s.e=0 then n else s.e⟩
def next (s:S):B×S:=match s.l with
 | []=>([],fail 11 s)
 | c::t=>([c],⟨t,s.e⟩)
def ahead (t:B) (s:S):Bool:=Lib.hasPrefix s.l t
def skip (n:Nat) (s:S):S:=⟨s.l.drop n,s.e⟩
def need (t:B) (s:S):S:=if ahead t s then skip t.length s else fail 11 s
def upTo (c:UInt8) (s:S):B×S:=if Lib.indexByte s.l c<0 then ([],fail 11 s) else (s.l.take (Lib.indexByte s.l c).toNat,skip ((Lib.indexByte s.l c).toNat+1) s)
def close (r:R):R:=if 0<r.k then ⟨r.ps++[.mk r.k r.t [] false []],0,[]⟩ else ⟨r.ps,0,[]⟩
def put (k:Nat) (t:B) (r:R):R:=if k=r.k then ⟨r.ps,r.k,r.t++t⟩ else ⟨(close r).ps,k,t⟩
def add (p:P) (r:R):R:=⟨(close r).ps++[p],0,[]⟩
def all (r:R):List P:=(close r).ps
def letB (c:UInt8):Bool:=(decide (97≤c) && decide (c≤122)) || (decide (65≤c) && decide (c≤90)) || c==95
def dig (c:UInt8):Bool:=decide (48≤c) && decide (c≤57)
def nm (c:UInt8):Bool:=letB c || dig c
def singles:B:=[48,49,50,51,52,53,54,55,56,57,63,35,64,42,45]
def tens:B:=[48,49,50,51,52,53,54,55,56,57]
def param (l:B):B:=match l with
 | []=>[]
 | c::_=>if singles.contains c then [c] else l.takeWhile nm
def digits (l:B):B:=l.takeWhile (tens.contains ·)
def measured (s:S):B×S:=
 if param (Lib.trimPrefix s.l [35])=[] then ([],s)
 else if ahead ([35]++param (Lib.trimPrefix s.l [35])++[125]) s then (param (Lib.trimPrefix s.l [35]),skip ((param (Lib.trimPrefix s.l [35])).length+2) s)
 else ([],s)
def nameOf (l:B):B:=if digits l=[] then param l else digits l
def named (s:S):B×S:=(nameOf s.l,need (nameOf s.l) (if nameOf s.l=[] then fail 11 s else s))
def ops:List B:=[[58,45],[58,61],[58,63],[58,43],[37,37],[35,35],[45],[61],[63],[43],[37],[35]]
def op (s:S):B×S:=match ops.find? (fun o=>ahead o s) with
 | some o=>(o,skip o.length s)
 | none=>([],fail 11 s)
def rk:Nat→Nat→S→S
 | 0,_,s=>s
 | n+1,o,s=>if s.l≠[]∧(0<o∨ahead [41] s=false) then rk n (if (next s).1=[40] then o+1 else if (next s).1=[41] then o-1 else o) (next s).2 else s
def reckoned (s:S):B×S:=(s.l.take (s.l.length-(rk s.l.length 0 s).l.length),need [41,41] (rk s.l.length 0 s))
def paren (s:S):S:=if ahead [40] s then fail 11 s else s
section
variable (br:S→P×S)
def value (s:S):P×S:=
 if ahead [123] s then br (skip 1 s)
 else if ahead [40,40] s then (.mk 4 (reckoned (skip 2 s)).1 [] false [],(reckoned (skip 2 s)).2)
 else if param (paren s).l=[] then (P0,paren s)
 else (.mk 3 (param (paren s).l) [] false [],need (param (paren s).l) (paren s))
def dollar (kind:Nat) (x:R×S):R×S:=
 let v:=value br x.2
 if v.1.k=0 then (put kind [36] x.1,v.2) else (add (.mk v.1.k v.1.t v.1.o (decide (kind=2)) v.1.w) x.1,v.2)
def content (bare:B) (x:R×S):R×S:=
 let c:=next x.2
 if c.1=[92] then
  let b:=next c.2
  if b.1=[]∨∃ u∈bare,b.1=[u] then (put 2 b.1 x.1,b.2) else (put 2 (c.1++b.1) x.1,b.2)
 else if c.1=[36] then dollar br 2 (x.1,c.2)
 else if c.1=[96] then (x.1,fail 11 c.2)
 else (put 2 c.1 x.1,c.2)
def loop (go:S→Bool) (f:R×S→R×S):Nat→R×S→R×S
 | 0,x=>x
 | n+1,x=>if go x.2 then loop go f n (f x) else x
def left (s:S):Bool:=!s.l.isEmpty
def more (t:B) (s:S):Bool:=left s && !ahead t s
def inHere:B:=[36,96,92]
def inQuotes:B:=[36,96,92,34]
def double (x:R×S):R×S:=
 let y:=loop (more [34]) (content br inQuotes) x.2.l.length (if ahead [34] x.2 then put 2 [] x.1 else x.1,x.2)
 (y.1,need [34] y.2)
def part (x:R×S):R×S:=
 let c:=next x.2
 if c.1=[92] then (put 2 (next c.2).1 x.1,(next c.2).2)
 else if c.1=[39] then (put 2 (upTo 39 c.2).1 x.1,(upTo 39 c.2).2)
 else if c.1=[34] then double br (x.1,c.2)
 else if c.1=[36] then dollar br 1 (x.1,c.2)
 else if c.1=[96] then (x.1,fail 11 c.2)
 else (put 1 c.1 x.1,c.2)
def wordIn (s:S):R×S:=loop (more [125]) (part br) s.l.length (⟨[],0,[]⟩,s)
def word (s:S):List P×S:=(all (wordIn br s).1,need [125] (wordIn br s).2)
end
def braceF (wd:S→List P×S) (s:S):P×S:=
 if (measured s).1≠[] then (.mk 3 (measured s).1 [108,101,110] false [],(measured s).2)
 else if ahead [125] (named s).2 then (.mk 3 (named s).1 [] false [],skip 1 (named s).2)
 else (.mk 3 (named s).1 (op (named s).2).1 false (wd (op (named s).2).2).1,(wd (op (named s).2).2).2)
def brace:Nat→S→P×S
 | 0,s=>(P0,fail 21 s)
 | d+1,s=>braceF (word (brace d)) s
def R0:R:=⟨[],0,[]⟩
def start (raw:B):R×S:=if raw=[126]∨Lib.hasPrefix raw [126,47]=true then (add (.mk 5 [] [] false []) R0,need [126] ⟨raw,0⟩) else (R0,⟨raw,0⟩)
def told (x:R×S):List P×Nat:=if x.2.e≠0 then ([],x.2.e) else (all x.1,0)
def parse (raw:B):List P×Nat:=told (loop left (part (brace 8)) raw.length (start raw))
def body (raw:B):List P×Nat:=told (loop left (content (brace 8) inHere) raw.length (R0,⟨raw,0⟩))
def m (x:R×S):Nat:=x.1.ps.length+x.1.t.length+3*x.2.l.length
theorem fail_len (n:Nat) (s:S):(fail n s).l.length=0:=rfl
theorem next_len (s:S):(next s).2.l.length≤s.l.length∧(next s).1.length≤1∧((next s).1.length+(next s).2.l.length=s.l.length):=by
 unfold next
 cases h:s.l with
 | nil=>simp[fail]
 | cons c t=>simp;omega
theorem skip_len (n:Nat) (s:S):(skip n s).l.length=s.l.length-n:=by simp[skip]
theorem need_len (t:B) (s:S):(need t s).l.length≤s.l.length:=by
 unfold need
 split
 ·rw[skip_len];omega
 ·rw[fail_len];omega
theorem upTo_len (c:UInt8) (s:S):(upTo c s).1.length+(upTo c s).2.l.length≤s.l.length:=by
 unfold upTo
 split
 ·simp[fail]
 ·simp only[skip_len,List.length_take];omega
theorem put_m (k:Nat) (t:B) (r:R):(put k t r).ps.length+(put k t r).t.length≤r.ps.length+r.t.length+1+t.length:=by
 unfold put
 split
 ·simp;omega
 ·unfold close
  split <;> simp <;> omega
theorem add_m (p:P) (r:R):(add p r).ps.length+(add p r).t.length≤r.ps.length+2:=by
 unfold add close
 split <;> simp
theorem rk_len:∀ n o s,(rk n o s).l.length≤s.l.length
 | 0,_,s=>Nat.le_refl _
 | n+1,o,s=>by
  rw[rk]
  split
  ·exact Nat.le_trans (rk_len n _ _) (next_len s).1
  ·exact Nat.le_refl _
theorem measured_len (s:S):(measured s).2.l.length≤s.l.length:=by
 unfold measured
 repeat' split
 all_goals first | exact Nat.le_refl _ | (rw[skip_len];omega)
theorem named_len (s:S):(named s).2.l.length≤s.l.length:=by
 unfold named
 refine Nat.le_trans (need_len _ _) ?_
 split
 ·rw[fail_len];omega
 ·exact Nat.le_refl _
theorem op_len (s:S):(op s).2.l.length≤s.l.length:=by
 unfold op
 split
 ·rw[skip_len];omega
 ·rw[fail_len];omega
section
variable {br:S→P×S} (hb:∀ s,(br s).2.l.length≤s.l.length)
include hb
theorem value_len (s:S):(value br s).2.l.length≤s.l.length:=by
 unfold value
 split
 ·exact Nat.le_trans (hb _) (by rw[skip_len];omega)
 ·split
  ·refine Nat.le_trans (need_len _ _) (Nat.le_trans (rk_len _ _ _) (by rw[skip_len];omega))
  ·have h1:(paren s).l.length≤s.l.length:=by unfold paren;split;exact Nat.zero_le _;exact Nat.le_refl _
   split
   ·exact h1
   ·exact Nat.le_trans (need_len _ _) h1
theorem dollar_m (k:Nat) (x:R×S):(dollar br k x).2.l.length≤x.2.l.length∧m (dollar br k x)≤m x+2:=by
 have h1:=value_len hb x.2
 unfold dollar m
 dsimp only
 split
 ·have:=put_m k [36] x.1
  simp at this
  exact⟨h1,by dsimp only;omega⟩
 ·have:=add_m (.mk (value br x.2).1.k (value br x.2).1.t (value br x.2).1.o (decide (k=2)) (value br x.2).1.w) x.1
  exact⟨h1,by dsimp only;omega⟩
theorem content_m (bare:B) (x:R×S) (h0:x.2.l≠[]):(content br bare x).2.l.length<x.2.l.length∧m (content br bare x)≤m x:=by
 have h1:=next_len x.2
 have h2:=next_len (next x.2).2
 have h3:0<x.2.l.length:=List.length_pos_iff.2 h0
 have h4:(next x.2).1.length=1:=by unfold next;cases h:x.2.l with | nil=>exact absurd h h0 | cons c t=>rfl
 unfold content
 dsimp only
 split
 ·split
  ·have:=put_m 2 (next (next x.2).2).1 x.1
   unfold m;dsimp only
   exact⟨by omega,by omega⟩
  ·have:=put_m 2 ((next x.2).1++(next (next x.2).2).1) x.1
   rw[List.length_append] at this
   unfold m;dsimp only
   exact⟨by omega,by omega⟩
 ·split
  ·have:=dollar_m hb 2 (x.1,(next x.2).2)
   unfold m at this⊢;dsimp only at this
   exact⟨by omega,by omega⟩
  ·split
   ·unfold m;dsimp only;rw[fail_len]
    exact⟨by omega,by omega⟩
   ·have:=put_m 2 (next x.2).1 x.1
    unfold m;dsimp only
    exact⟨by omega,by omega⟩
omit hb in
theorem loop_m {go:S→Bool} {f:R×S→R×S} (hg:∀ s,go s=true→s.l≠[]) (hf:∀ x,x.2.l≠[]→(f x).2.l.length<x.2.l.length∧m (f x)≤m x):∀ n x,(loop go f n x).2.l.length≤x.2.l.length∧m (loop go f n x)≤m x
 | 0,x=>⟨Nat.le_refl _,Nat.le_refl _⟩
 | n+1,x=>by
  rw[loop]
  split
  ·rename_i h
   have h1:=hf x (hg _ h)
   have h2:=loop_m hg hf n (f x)
   exact⟨by omega,by omega⟩
  ·exact⟨Nat.le_refl _,Nat.le_refl _⟩
omit hb in
theorem left_ne {s:S} (h:left s=true):s.l≠[]:=by
 unfold left at h
 intro e
 rw[e] at h
 cases h
omit hb in
theorem more_ne {t:B} {s:S} (h:more t s=true):s.l≠[]:=by
 unfold more at h
 rw[Bool.and_eq_true] at h
 exact left_ne h.1
theorem double_m (x:R×S):(double br x).2.l.length≤x.2.l.length∧m (double br x)≤m x+1:=by
 have h1:=loop_m (fun s h=>more_ne (t:=[34]) h) (fun x h=>content_m hb inQuotes x h) x.2.l.length (if ahead [34] x.2 then put 2 [] x.1 else x.1,x.2)
 have h2:m (if ahead [34] x.2 then put 2 [] x.1 else x.1,x.2)≤m x+1:=by
  split
  ·have:=put_m 2 [] x.1
   simp at this
   unfold m;dsimp only;omega
  ·exact Nat.le_succ _
 unfold double
 dsimp only at h1⊢
 have h3:=need_len [34] (loop (more [34]) (content br inQuotes) x.2.l.length (if ahead [34] x.2 then put 2 [] x.1 else x.1,x.2)).2
 refine⟨by omega,Nat.le_trans ?_ (Nat.le_trans h1.2 h2)⟩
 unfold m;dsimp only;omega
theorem part_m (x:R×S) (h0:x.2.l≠[]):(part br x).2.l.length<x.2.l.length∧m (part br x)≤m x:=by
 have h1:=next_len x.2
 have h2:=next_len (next x.2).2
 have h3:0<x.2.l.length:=List.length_pos_iff.2 h0
 have h4:(next x.2).1.length=1:=by unfold next;cases h:x.2.l with | nil=>exact absurd h h0 | cons c t=>rfl
 unfold part
 dsimp only
 split
 ·have:=put_m 2 (next (next x.2).2).1 x.1
  unfold m;dsimp only
  exact⟨by omega,by omega⟩
 ·split
  ·have:=put_m 2 (upTo 39 (next x.2).2).1 x.1
   have h5:=upTo_len 39 (next x.2).2
   unfold m;dsimp only
   exact⟨by omega,by omega⟩
  ·split
   ·have:=double_m hb (x.1,(next x.2).2)
    unfold m at this⊢;dsimp only at this
    exact⟨by omega,by omega⟩
   ·split
    ·have:=dollar_m hb 1 (x.1,(next x.2).2)
     unfold m at this⊢;dsimp only at this
     exact⟨by omega,by omega⟩
    ·split
     ·unfold m;dsimp only;rw[fail_len]
      exact⟨by omega,by omega⟩
     ·have:=put_m 1 (next x.2).1 x.1
      unfold m;dsimp only
      exact⟨by omega,by omega⟩
theorem word_len (s:S):(word br s).2.l.length≤s.l.length:=
 Nat.le_trans (need_len _ _) (loop_m (fun s h=>more_ne (t:=[125]) h) (fun x h=>part_m hb x h) _ _).1
end
theorem brace_len:∀ d s,(brace d s).2.l.length≤s.l.length
 | 0,s=>by show (fail 21 s).l.length≤_;rw[fail_len];omega
 | d+1,s=>by
  show (braceF (word (brace d)) s).2.l.length≤_
  unfold braceF
  split
  ·exact measured_len s
  ·split
   ·dsimp only;rw[skip_len];have:=named_len s;omega
   ·exact Nat.le_trans (word_len (brace_len d) _) (Nat.le_trans (op_len _) (named_len s))
end Wd
end Go.Proofs.YtipdgmjplnibeaaGreatDoor
