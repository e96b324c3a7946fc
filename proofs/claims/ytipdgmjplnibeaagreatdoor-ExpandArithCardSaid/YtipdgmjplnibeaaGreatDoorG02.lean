import Derived.Test.YtipdgmjplnibeaaGreatDoorG01
namespace Go.Proofs.YtipdgmjplnibeaaGreatDoor
open Go.RowKit
section
variable {P:Program} {ops:Array Oper} {Q:Exit→Act→World→Prop} {G:World→World→Prop} {R:Nat→Value→World→Prop} {a0:Act}
theorem wpAny_softA {C:Array Bool→Act→World→Prop} (hok:SoftOk ops a0.tmps.size) (hmono:∀ i v w w',G w w'→R i v w→R i v w')
  (hstep:∀ (i:Nat) o,ops[i]?=some o→∀ (listed:Array Bool) (a:Act) (w:World),listed.size=ops.size→listed.getD i true=false→(∀ e∈o.after,Region.binds .any e=true→listed.getD e.on false=true)→C listed a w→a.tmps.size=a0.tmps.size→Sees ops a0 R o a w→∀ K:Act→World→Prop,
   (∀ v w',R i (if o.dst.isSome then v else undef) w'→C (listed.setIfInBounds i true) (a.put o.dst v) w'→G w w'→K (a.put o.dst v) w') →
   if Region.wanted o (yielded ops a.tmps)=true then Oper.wp P o a w K Q else K (a.put o.dst undef) w)
  (hQ:∀ (listed:Array Bool) a w,(∀ i,i<ops.size→listed.getD i false=true)→C listed a w→Fits ops a0 R (Array.replicate ops.size true) a w→Q .normal a w) :
  ∀ (fuel:Nat) (listed:Array Bool) (a:Act) (w:World),open_ listed≤fuel→C listed a w→Fits ops a0 R listed a w→wpAny P .any ops Q fuel listed a w:=by
 have hend:∀ (listed:Array Bool) (a:Act) (w:World),C listed a w→Fits ops a0 R listed a w→Region.ready .any ops listed=[]→Q .normal a w:=by
  intro listed a w hC h hr
  have hall:=ready_nil h.lsize hok hr
  refine hQ listed a w hall hC ⟨by simp,h.defers,h.size,fun t ht=>h.outer t fun i o ho hl=>ht i o ho (by have:=(Array.getElem?_eq_some_iff.1 ho).1;simp[this]),fun i o ho _=>h.inner i o ho (hall i (Array.getElem?_eq_some_iff.1 ho).1)⟩
 intro fuel
 induction fuel with
 | zero=>
  intro listed a w hf hC h
  have hz:=open_zero (Nat.le_zero.1 hf)
  have hr:Region.ready .any ops listed=[]:=by
   rw[List.eq_nil_iff_forall_not_mem]
   intro i hi
   have:=(mem_ready.1 hi).1
   rw[hz i] at this
   cases this
  exact⟨hr,hend listed a w hC h hr⟩
 | succ fuel ih=>
  intro listed a w hf hC h
  refine⟨hend listed a w hC h,fun i hi=>?_⟩
  obtain⟨hun,o,ho,hdeps⟩:=mem_ready.1 hi
  have hin:i<listed.size:=by rw[h.lsize];exact(Array.getElem?_eq_some_iff.1 ho).1
  have hst:=hstep i o ho listed a w h.lsize hun hdeps hC h.size (h.sees hi ho) (wpAny P .any ops Q fuel (listed.setIfInBounds i true)) fun v w' hR hC' hG=>
   ih _ _ _ (by have:=open_set hin hun;omega) hC' (h.step (C:=fun _=>True) hok (fun i v w w' _=>hmono i v w w') ho trivial hG hR)
  unfold wpOp
  rw[ho]
  dsimp only
  split
  ·rename_i hw;rw[if_pos hw] at hst;exact .inl hst
  ·rename_i hw;rw[if_neg hw] at hst;exact hst
def OwesT (P:Program) (ops:Array Oper) (Q:Exit→Act→World→Prop) (C0:World→Prop) (C1:Value→World→Prop) (C2:World→Prop) (G:World→World→Prop) (p q:Nat) (R:Nat→Value→World→Prop) (a0:Act) (i:Nat) (o:Oper):Prop:=
 if i=p then ∀ (a:Act) (w:World),C0 w→Sees ops a0 R o a w →
  (Region.wanted o (yielded ops a.tmps)=true∧∀ K:Act→World→Prop,(∀ v w',R i v w'→C1 v w'→G w w'→K (a.put o.dst v) w')→Oper.wp P o a w K Q)
 else if i=q then ∀ (a:Act) (w:World) (u:Value),C1 u w→((ops[p]?).bind (·.dst)).elim True (fun t=>a.tmps.getD t undef=u)→Sees ops a0 R o a w →
  (Region.wanted o (yielded ops a.tmps)=true∧ValWp P o a.eval w fun v w'=>R i (if o.dst.isSome then v else undef) w'∧C2 w'∧G w w')
 else ∀ (a:Act) (w:World),(depOn ops p i=true→C0 w)→(C0 w∨(∃ u,C1 u w)∨C2 w)→Sees ops a0 R o a w →
  (Region.wanted o (yielded ops a.tmps)=true∧ValWp P o a.eval w fun v w'=>R i (if o.dst.isSome then v else undef) w'∧(C0 w'∨(∃ u,C1 u w')∨C2 w')∧Later w w')
def OwesAllT (P:Program) (ops:Array Oper) (Q:Exit→Act→World→Prop) (C0:World→Prop) (C1:Value→World→Prop) (C2:World→Prop) (G:World→World→Prop) (p q:Nat) (R:Nat→Value→World→Prop) (a0:Act):Nat→List Oper→Prop
 | _,[]=>True
 | n,o::l=>OwesT P ops Q C0 C1 C2 G p q R a0 n o∧OwesAllT P ops Q C0 C1 C2 G p q R a0 (n+1) l
theorem owesAllT_at {C0 C2:World→Prop} {C1:Value→World→Prop} {p q:Nat}:∀ (l:List Oper) (n i:Nat) (o:Oper),OwesAllT P ops Q C0 C1 C2 G p q R a0 n l→l[i]?=some o→OwesT P ops Q C0 C1 C2 G p q R a0 (n+i) o
 | [],_,i,o,_,h=>by simp at h
 | x::l,n,0,o,h,ho=>by simp at ho;subst ho;exact h.1
 | x::l,n,i+1,o,h,ho=>by
  have:=owesAllT_at l (n+1) i o h.2 (by simpa using ho)
  rwa[show n+1+i=n+(i+1) by omega] at this
theorem deps_listed {i:Nat} {o:Oper} {listed:Array Bool} (ho:ops[i]?=some o) (hdeps:∀ e∈o.after,Region.binds .any e=true→listed.getD e.on false=true) (j:Nat) (hj:depOn ops i j=true):listed.getD j false=true:=by
 unfold depOn at hj
 rw[ho] at hj
 obtain⟨e,he,hb⟩:=List.any_eq_true.1 hj
 simp only[Bool.and_eq_true,beq_iff_eq] at hb
 rw[←hb.1]
 exact hdeps e (by simpa using he) hb.2
theorem listed_more {i j:Nat} {listed:Array Bool} (hi:i<listed.size) (h:listed.getD j false=true):(listed.setIfInBounds i true).getD j false=true:=by
 by_cases hji:i=j
 ·subst hji;exact getD_set_same hi
 ·rw[getD_set_ne hji];exact h
def Phase (ops:Array Oper) (p q:Nat) (C0:World→Prop) (C1:Value→World→Prop) (C2:World→Prop) (listed:Array Bool) (a:Act) (w:World):Prop:=
 (listed.getD p false=false∧listed.getD q false=false∧C0 w) ∨
 (listed.getD p false=true∧listed.getD q false=false∧(∃ u,C1 u w∧((ops[p]?).bind (·.dst)).elim True fun t=>a.tmps.getD t undef=u)∧∀ i,depOn ops p i=true→listed.getD i false=true) ∨
 (listed.getD p false=true∧listed.getD q false=true∧C2 w∧∀ i,depOn ops p i=true→listed.getD i false=true)
theorem wp_region_two {id:Nat} {w:World} {l:List Oper} (hm:P.follows .mixedOrders=true) (p q:Nat) (C0:World→Prop) (C1:Value→World→Prop) (C2:World→Prop) (G:World→World→Prop) (sp:List (Sp G)) (hp:p<l.length) (hq:q<l.length) (hpq:p≠q) (hdq:depOn l.toArray q p=true) (hpd:((l.toArray[p]?).bind (·.dst)).isSome=true) (hok:softB l.toArray a0.tmps.size=true)
  (hC:C0 w.drew) (h0:∀ w w',C0 w→Later w w'→C0 w') (h1:∀ u w w',C1 u w→Later w w'→C1 u w') (h2:∀ w w',C2 w→Later w w'→C2 w') (hL:∀ w w',Later w w'→G w w')
  (hstep:OwesAllT P l.toArray Q C0 C1 C2 G p q (spAt sp) a0 0 l)
  (hQ:∀ a w,C2 w→a.defers=a0.defers→a.tmps.size=a0.tmps.size→(∀ t,freeTmp l.toArray t=true→a.tmps.getD t undef=a0.tmps.getD t undef)→(∀ (i:Nat) o,l[i]?=some o→spAt sp i (slotOf o.dst a) w)→Q .normal a w) :
  (Code.region id l.toArray true).wp P Q a0 w:=by
 have hmono:∀ i v w w',G w w'→spAt sp i v w→spAt sp i v w':=fun i v w w' hg h=>(sp.getD i Sp.any).lasts v w w' hg h
 have hso:=SoftOk.of hok
 refine wp_region_any hm (wpAny_softA (C:=Phase l.toArray p q C0 C1 C2) (R:=spAt sp) hso hmono (fun i o ho listed a w hsz hun hdeps hc hsize hsee K hK=>?_)
  (fun listed a w hall hc h=>?_) l.toArray.size (Array.replicate l.toArray.size false) a0 w.drew ?_ ?_ ⟨by simp,rfl,rfl,fun _ _=>rfl,fun i o ho hl=>?_⟩)
 ·have hil:i<listed.size:=by rw[hsz];exact(Array.getElem?_eq_some_iff.1 ho).1
  have hf:listed.getD i false=false:=by simp[hil] at hun⊢;exact hun
  have hw:=owesAllT_at l 0 i o hstep (by simpa using ho)
  rw[Nat.zero_add] at hw
  unfold OwesT at hw
  by_cases hip:i=p
  ·subst hip
   rw[if_pos rfl] at hw
   have hsm:o.dst.isSome=true:=by rw[ho] at hpd;exact hpd
   obtain⟨t,ht⟩:=Option.isSome_iff_exists.1 hsm
   rcases hc with⟨_,c2,c3⟩ | ⟨c1,_⟩ | ⟨c1,_⟩
   ·obtain⟨hw1,hw2⟩:=hw a w c3 hsee
    rw[if_pos hw1]
    refine hw2 K fun v w' hR hC' hG=>hK v w' (by rw[if_pos hsm];exact hR) (.inr (.inl ⟨getD_set_same hil,by rw[getD_set_ne hpq];exact c2,⟨v,hC',?_⟩,fun j hj=>listed_more hil (deps_listed ho hdeps j hj)⟩)) hG
    rw[ho]
    simp only[Option.bind_some,ht,Option.elim_some]
    have h9:=slot_put_same (a:=a) (d:=o.dst) (v:=v) (fun t' ht'=>by rw[hsize];exact hso.inn i o t' ho ht')
    rw[ht] at h9
    simpa [slotOf] using h9
   ·rw[hf] at c1;cases c1
   ·rw[hf] at c1;cases c1
  ·rw[if_neg hip] at hw
   by_cases hiq:i=q
   ·subst hiq
    rw[if_pos rfl] at hw
    have hpl:=deps_listed ho hdeps p hdq
    rcases hc with⟨c1,_⟩ | ⟨c1,_,⟨u,c3,c5⟩,c4⟩ | ⟨_,c2,_⟩
    ·rw[hpl] at c1;cases c1
    ·obtain⟨hw1,hw2⟩:=hw a w u c3 c5 hsee
     rw[if_pos hw1]
     refine wp_of_val (hw2.mono fun v w' hk=>?_)
     exact hK v w' hk.1 (.inr (.inr ⟨by rw[getD_set_ne (Ne.symm hpq)];exact c1,getD_set_same hil,hk.2.1,fun j hj=>listed_more hil (c4 j hj)⟩)) hk.2.2
    ·rw[hf] at c2;cases c2
   ·rw[if_neg hiq] at hw
    have hor:C0 w∨(∃ u,C1 u w)∨C2 w:=by
     rcases hc with⟨_,_,c⟩ | ⟨_,_,⟨u,c,_⟩,_⟩ | ⟨_,_,c,_⟩
     ·exact .inl c
     ·exact .inr (.inl ⟨u,c⟩)
     ·exact .inr (.inr c)
    have hd0:depOn l.toArray p i=true→C0 w:=fun hd=>by
     rcases hc with⟨_,_,c⟩ | ⟨_,_,_,c⟩ | ⟨_,_,_,c⟩
     ·exact c
     ·have:=c i hd;rw[hf] at this;cases this
     ·have:=c i hd;rw[hf] at this;cases this
    obtain⟨hw1,hw2⟩:=hw a w hd0 hor hsee
    rw[if_pos hw1]
    refine wp_of_val (hw2.mono fun v w' hk=>hK v w' hk.1 ?_ (hL _ _ hk.2.2))
    rcases hc with⟨c1,c2,c⟩ | ⟨c1,c2,⟨u,c,c5⟩,c4⟩ | ⟨c1,c2,c,c4⟩
    ·exact .inl ⟨by rw[getD_set_ne hip];exact c1,by rw[getD_set_ne hiq];exact c2,h0 _ _ c hk.2.2⟩
    ·refine .inr (.inl ⟨by rw[getD_set_ne hip];exact c1,by rw[getD_set_ne hiq];exact c2,⟨u,h1 _ _ _ c hk.2.2,?_⟩,fun j hj=>listed_more hil (c4 j hj)⟩)
     cases hpo:l.toArray[p]? with
     | none=>simp
     | some op=>
      rw[hpo] at c5
      cases hpt:op.dst with
      | none=>simp[hpt]
      | some t=>
       simp only[Option.bind_some,hpt,Option.elim_some] at c5⊢
       have h9:=slot_put_other (a:=a) (d:=o.dst) (e:=some t) (v:=v) (fun t' ht' e=>hip (hso.one i p o op t' ho hpo ht' (by rw[hpt];exact e)))
       exact(show (a.put o.dst v).tmps.getD t undef=a.tmps.getD t undef from h9).trans c5
    ·exact .inr (.inr ⟨by rw[getD_set_ne hip];exact c1,by rw[getD_set_ne hiq];exact c2,h2 _ _ c hk.2.2,fun j hj=>listed_more hil (c4 j hj)⟩)
 ·have hql:=hall q (by simpa using hq)
  have hc2:C2 w:=by
   rcases hc with⟨_,c,_⟩ | ⟨_,c,_⟩ | ⟨_,_,c,_⟩
   ·rw[hql] at c;cases c
   ·rw[hql] at c;cases c
   ·exact c
  refine hQ a w hc2 h.defers h.size (fun t ht=>h.outer t fun j oj' hj _ hd=>?_) fun i o ho=>h.inner i o (by simpa using ho) (by have:=(List.getElem?_eq_some_iff.1 ho).1;simp[this])
  unfold freeTmp at ht
  rw[List.all_eq_true] at ht
  have:=ht oj' (Array.mem_toList_iff.2 (Array.mem_of_getElem? hj))
  simp[hd] at this
 ·unfold open_;exact Nat.le_trans List.countP_le_length (by simp)
 ·exact .inl ⟨by simp[hp],by simp[hq],hC⟩
 ·exfalso
  have hi:=(Array.getElem?_eq_some_iff.1 ho).1
  rw[List.size_toArray] at hi
  simp[hi] at hl
end
end Go.Proofs.YtipdgmjplnibeaaGreatDoor
namespace Go.Proofs.YtipdgmjplnibeaaGreatDoor
open Go.RowKit
section
variable {P:Program} {ops:Array Oper} {Q:Exit→Act→World→Prop} {a0:Act} {C:Nat→Value→World→Prop} {R:Nat→Value→World→Prop}
def RV (rv:List (Option Value)) (i:Nat) (v:Value) (_:World):Prop:=match rv[i]? with
 | some (some x)=>v=x
 | _=>True
def idx:List Nat→Nat→Option Nat
 | [],_=>none
 | p::ps,n=>if n=p then some 0 else (idx ps n).map (·+1)
theorem idx_some {ps:List Nat} {n j:Nat} (h:idx ps n=some j):ps[j]?=some n:=by
 induction ps generalizing j with
 | nil=>cases h
 | cons p ps ih=>
  unfold idx at h
  split at h
  ·rename_i e;cases h;simp[e]
  ·cases e:idx ps n with
   | none=>rw[e] at h;cases h
   | some k=>rw[e] at h;cases h;simpa using ih e
theorem idx_none {ps:List Nat} {n:Nat} (h:idx ps n=none):∀ k:Nat,ps[k]?≠some n:=by
 induction ps with
 | nil=>simp
 | cons p ps ih=>
  unfold idx at h
  split at h
  ·cases h
  ·rename_i e1
   cases e:idx ps n with
   | some k=>rw[e] at h;cases h
   | none=>
    intro k
    cases k with
    | zero=>simpa using fun e2=>e1 e2.symm
    | succ k=>simpa using ih e k
def lastIs (ops:Array Oper) (ps:List Nat) (j:Nat) (a:Act) (u:Value):Prop:=match j with
 | 0=>True
 | j+1=>match (ps[j]?).bind fun p=>(ops[p]?).bind (·.dst) with
  | some t=>a.tmps.getD t undef=u
  | none=>True
def OwesQ (P:Program) (ops:Array Oper) (C:Nat→Value→World→Prop) (ps:List Nat) (R:Nat→Value→World→Prop) (a0:Act) (i:Nat) (o:Oper):Prop:=
 ∀ (a:Act) (w:World) (j:Nat) (u:Value),C j u w→(∀ k p,ps[k]?=some p→depOn ops p i=true→j≤k)→Sees ops a0 R o a w →
  Region.wanted o (yielded ops a.tmps)=true∧ValWp P o a.eval w fun v w'=>R i (if o.dst.isSome then v else undef) w'∧w'=w
def OwesW (P:Program) (ops:Array Oper) (Q:Exit→Act→World→Prop) (C:Nat→Value→World→Prop) (ps:List Nat) (R:Nat→Value→World→Prop) (a0:Act) (i:Nat) (o:Oper) (j:Nat):Prop:=
 ∀ (a:Act) (w:World) (u:Value),C j u w→lastIs ops ps j a u→Sees ops a0 R o a w →
  Region.wanted o (yielded ops a.tmps)=true∧∀ K:Act→World→Prop,(∀ v w',R i (if o.dst.isSome then v else undef) w'→C (j+1) v w'→K (a.put o.dst v) w')→Oper.wp P o a w K Q
def OwesS (P:Program) (ops:Array Oper) (Q:Exit→Act→World→Prop) (C:Nat→Value→World→Prop) (ps:List Nat) (R:Nat→Value→World→Prop) (a0:Act) (i:Nat) (o:Oper):Prop:=
 match idx ps i with
 | some j=>OwesW P ops Q C ps R a0 i o j
 | none=>OwesQ P ops C ps R a0 i o
theorem OwesS.w {ps:List Nat} {i j:Nat} {o:Oper} (h:idx ps i=some j) (hw:OwesW P ops Q C ps R a0 i o j):OwesS P ops Q C ps R a0 i o:=by unfold OwesS;rw[h];exact hw
theorem OwesS.q {ps:List Nat} {i:Nat} {o:Oper} (h:idx ps i=none) (hw:OwesQ P ops C ps R a0 i o):OwesS P ops Q C ps R a0 i o:=by unfold OwesS;rw[h];exact hw
def OwesAllS (P:Program) (ops:Array Oper) (Q:Exit→Act→World→Prop) (C:Nat→Value→World→Prop) (ps:List Nat) (R:Nat→Value→World→Prop) (a0:Act):Nat→List Oper→Prop
 | _,[]=>True
 | n,o::l=>OwesS P ops Q C ps R a0 n o∧OwesAllS P ops Q C ps R a0 (n+1) l
theorem owesAllS_at {ps:List Nat}:∀ (l:List Oper) (n i:Nat) (o:Oper),OwesAllS P ops Q C ps R a0 n l→l[i]?=some o→OwesS P ops Q C ps R a0 (n+i) o
 | [],_,i,o,_,h=>by simp at h
 | x::l,n,0,o,h,ho=>by simp at ho;subst ho;exact h.1
 | x::l,n,i+1,o,h,ho=>by
  have:=owesAllS_at l (n+1) i o h.2 (by simpa using ho)
  rwa[show n+1+i=n+(i+1) by omega] at this
def chainB (ops:Array Oper):List Nat→Bool
 | p::q::ps=>depOn ops q p && chainB ops (q::ps)
 | _=>true
theorem chainB_at {ps:List Nat} (h:chainB ops ps=true):∀ k p q,ps[k]?=some p→ps[k+1]?=some q→depOn ops q p=true:=by
 induction ps with
 | nil=>intro k p q h1;simp at h1
 | cons x ps ih=>
  intro k p q h1 h2
  cases ps with
  | nil=>simp at h2
  | cons y ps=>
   simp only[chainB,Bool.and_eq_true] at h
   cases k with
   | zero=>simp at h1 h2;subst h1;subst h2;exact h.1
   | succ k=>exact ih h.2 k p q (by simpa using h1) (by simpa using h2)
structure PhaseS (ops:Array Oper) (ps:List Nat) (C:Nat→Value→World→Prop) (j:Nat) (u:Value) (listed:Array Bool) (a:Act) (w:World):Prop where
 le:j≤ps.length
 c:C j u w
 last:lastIs ops ps j a u
 at_:∀ k p,ps[k]?=some p→listed.getD p false=decide (k<j)
 dep:∀ k p,ps[k]?=some p→k<j→∀ i,depOn ops p i=true→listed.getD i false=true
theorem nodup_at {ps:List Nat} (h:ps.Nodup) {j k p:Nat} (h1:ps[j]?=some p) (h2:ps[k]?=some p):j=k:=by
 induction ps generalizing j k with
 | nil=>simp at h1
 | cons x ps ih=>
  obtain⟨hx,hn⟩:=List.nodup_cons.1 h
  cases j with
  | zero=>cases k with
   | zero=>rfl
   | succ k=>
    simp only[List.getElem?_cons_zero,Option.some.injEq] at h1
    simp only[List.getElem?_cons_succ] at h2
    subst h1
    exact absurd (List.mem_of_getElem? h2) hx
  | succ j=>cases k with
   | zero=>
    simp only[List.getElem?_cons_zero,Option.some.injEq] at h2
    simp only[List.getElem?_cons_succ] at h1
    subst h2
    exact absurd (List.mem_of_getElem? h1) hx
   | succ k=>exact congrArg (·+1) (ih hn (by simpa using h1) (by simpa using h2))
theorem wp_region_seq {id:Nat} {w:World} {l:List Oper} (hm:P.follows .mixedOrders=true) (ps:List Nat) (C:Nat→Value→World→Prop) (rv:List (Option Value)) (hps:∀ p∈ps,p<l.length) (hnd:ps.Nodup) (hch:chainB l.toArray ps=true) (hok:softB l.toArray a0.tmps.size=true)
  (hC:C 0 undef w.drew) (hstep:OwesAllS P l.toArray Q C ps (RV rv) a0 0 l)
  (hQ:∀ a w u,C ps.length u w→lastIs l.toArray ps ps.length a u→a.defers=a0.defers→a.tmps.size=a0.tmps.size→(∀ t,freeTmp l.toArray t=true→a.tmps.getD t undef=a0.tmps.getD t undef)→(∀ (i:Nat) o,l[i]?=some o→RV rv i (slotOf o.dst a) w)→Q .normal a w) :
  (Code.region id l.toArray true).wp P Q a0 w:=by
 have hmono:∀ i v w w',(fun _ _=>True:World→World→Prop) w w'→RV rv i v w→RV rv i v w':=fun i v w w' _ h=>h
 have hso:=SoftOk.of hok
 refine wp_region_any hm (wpAny_softA (C:=fun listed a w=>∃ j u,PhaseS l.toArray ps C j u listed a w) (R:=RV rv) (G:=fun _ _=>True) hso hmono (fun i o ho listed a w hsz hun hdeps hc hsize hsee K hK=>?_)
  (fun listed a w hall hc h=>?_) l.toArray.size (Array.replicate l.toArray.size false) a0 w.drew ?_ ?_ ⟨by simp,rfl,rfl,fun _ _=>rfl,fun i o ho hl=>?_⟩)
 ·have hil:i<listed.size:=by rw[hsz];exact(Array.getElem?_eq_some_iff.1 ho).1
  have hf:listed.getD i false=false:=by simp[hil] at hun⊢;exact hun
  have hw:=owesAllS_at l 0 i o hstep (by simpa using ho)
  rw[Nat.zero_add] at hw
  unfold OwesS at hw
  obtain⟨j,u,hp⟩:=hc
  have hdl:=fun d hd=>deps_listed ho hdeps d hd
  cases hi:idx ps i with
  | some j0=>
   rw[hi] at hw
   simp only at hw
   have hj0:=idx_some hi
   have h1:=hp.at_ j0 i hj0
   rw[hf] at h1
   have hle:j≤j0:=by simpa using h1.symm
   have hge:j0≤j:=by
    cases j0 with
    | zero=>omega
    | succ k=>
     have hlt:k<ps.length:=by have:=(List.getElem?_eq_some_iff.1 hj0).1;omega
     have h2:ps[k]?=some ps[k]:=by simp[hlt]
     have h3:=hdl _ (chainB_at hch k ps[k] i h2 hj0)
     rw[hp.at_ k _ h2] at h3
     have:=of_decide_eq_true h3
     omega
   have hje:j=j0:=by omega
   subst hje
   obtain⟨hw1,hw2⟩:=hw a w u hp.c hp.last hsee
   rw[if_pos hw1]
   refine hw2 K fun v w' hR hC'=>hK v w' hR ⟨j+1,v,(List.getElem?_eq_some_iff.1 hj0).1,hC',?_,fun k p hk=>?_,fun k p hk hkj d hd=>?_⟩ trivial
   ·show (match (ps[j]?).bind fun p=>(l.toArray[p]?).bind (·.dst) with | some t=>(a.put o.dst v).tmps.getD t undef=v | none=>True)
    rw[hj0]
    simp only[Option.bind_some,ho]
    cases hdst:o.dst with
    | none=>trivial
    | some t=>
     have h9:=slot_put_same (a:=a) (d:=o.dst) (v:=v) (fun t' ht'=>by rw[hsize];exact hso.inn i o t' ho ht')
     rw[hdst] at h9
     simpa [slotOf] using h9
   ·by_cases hpi:i=p
    ·subst hpi
     rw[getD_set_same hil,nodup_at hnd hk hj0]
     simp
    ·rw[getD_set_ne hpi,hp.at_ k p hk]
     have hkj:k≠j:=fun e=>hpi (by rw[e,hj0] at hk;exact Option.some.inj hk)
     simp only[decide_eq_decide]
     omega
   ·by_cases hkj':k=j
    ·subst hkj'
     rw[hj0] at hk
     cases hk
     exact listed_more hil (hdl d hd)
    ·exact listed_more hil (hp.dep k p hk (by omega) d hd)
  | none=>
   rw[hi] at hw
   simp only at hw
   have hni:=idx_none hi
   have hb:∀ k p,ps[k]?=some p→depOn l.toArray p i=true→j≤k:=fun k p hk hd=>by
    by_cases hkj:k<j
    ·have:=hp.dep k p hk hkj i hd
     rw[hf] at this
     cases this
    ·omega
   obtain⟨hw1,hw2⟩:=hw a w j u hp.c hb hsee
   rw[if_pos hw1]
   refine wp_of_val (hw2.mono fun v w' hk=>hK v w' hk.1 ?_ trivial)
   obtain⟨_,rfl⟩:=hk
   refine⟨j,u,hp.le,hp.c,?_,fun k p hk=>?_,fun k p hk hkj d hd=>listed_more hil (hp.dep k p hk hkj d hd)⟩
   ·cases j with
    | zero=>trivial
    | succ j=>
     have h5:=hp.last
     unfold lastIs at h5⊢
     simp only at h5⊢
     cases hpj:ps[j]? with
     | none=>trivial
     | some p=>
      rw[hpj] at h5
      simp only[Option.bind_some] at h5⊢
      cases hpo:l.toArray[p]? with
      | none=>trivial
      | some op=>
       rw[hpo] at h5
       simp only[Option.bind_some] at h5⊢
       cases hpt:op.dst with
       | none=>trivial
       | some t=>
        rw[hpt] at h5
        simp only at h5⊢
        have h9:=slot_put_other (a:=a) (d:=o.dst) (e:=some t) (v:=v) (fun t' ht' e=>hni j (by rw[hpj,hso.one i p o op t' ho hpo ht' (by rw[hpt];exact e)]))
        exact(show (a.put o.dst v).tmps.getD t undef=a.tmps.getD t undef from h9).trans h5
   ·have hpi:i≠p:=fun e=>hni k (by rw[hk,e])
    rw[getD_set_ne hpi,hp.at_ k p hk]
 ·obtain⟨j,u,hp⟩:=hc
  have hje:j=ps.length:=by
   by_cases hlt:j<ps.length
   ·have h2:ps[j]?=some ps[j]:=by simp[hlt]
    have h3:=hp.at_ j _ h2
    rw[hall ps[j] (by simpa using hps _ (List.getElem_mem hlt))] at h3
    simp at h3
   ·have:=hp.le;omega
  subst hje
  refine hQ a w u hp.c hp.last h.defers h.size (fun t ht=>h.outer t fun j oj' hj _ hd=>?_) fun i o ho=>h.inner i o (by simpa using ho) (by have:=(List.getElem?_eq_some_iff.1 ho).1;simp[this])
  unfold freeTmp at ht
  rw[List.all_eq_true] at ht
  have:=ht oj' (Array.mem_toList_iff.2 (Array.mem_of_getElem? hj))
  simp[hd] at this
 ·unfold open_;exact Nat.le_trans List.countP_le_length (by simp)
 ·refine⟨0,undef,Nat.zero_le _,hC,trivial,fun k p hk=>?_,fun k p _ hk=>by omega⟩
  by_cases hp:p<l.length <;> simp[hp]
 ·exfalso
  have hi:=(Array.getElem?_eq_some_iff.1 ho).1
  rw[List.size_toArray] at hi
  simp[hi] at hl
end
end Go.Proofs.YtipdgmjplnibeaaGreatDoor
