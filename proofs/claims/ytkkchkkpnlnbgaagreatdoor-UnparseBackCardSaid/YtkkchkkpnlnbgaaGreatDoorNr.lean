/- The parser: a node that a method is at, in a block of its own. No premises. -/
import Derived.Test.YtkkchkkpnlnbgaaGreatDoorNq
namespace Go.Proofs.YtkkchkkpnlnbgaaGreatDoor
open Go.RowKit Go.Maps
open Lx (Tok nl)
theorem PMem.otherT {W W':World} {X:Nat→Prop} {g:Nat} {C:Ctx} {σ:Sx.St} (h:PMem W X g C σ) {x:Nat} (hg:W.grownBy W' (some x)) (hx:X x) {cs:Array Value} {e:TypeId} {fr:Nat×Nat} (hb:W.heap[x]?=some (.cells cs e fr)) (he:e≠63):PMem W' X g C σ:=by
 refine h.other hg hx (fun e1=>?_) (fun e1=>?_)
 ·obtain⟨p,vn,nd,h⟩:=h
  obtain⟨cs',h1⟩:=own_type h.tok e1
  rw[hb] at h1
  injection h1 with h1
  injection h1 with _ h1 _
  exact he h1
 ·obtain⟨p,vn,nd,h⟩:=h
  obtain⟨es,cl,h1⟩:=h.tab.is_map
  rw[e1,hb] at h1
  cases h1
structure PLoc (W0:World) (X:Nat→Prop) (g:Nat) (C:Ctx) (h:Nat) (ln:Value) (n:Sx.Node) (v:Vals) (σ:Sx.St) (w:World):Prop where
 mem:PMem w (plus X (h::blks v)) g C σ
 box:w.heap[h]?=some (.cells (ncs n v ln).toArray 37 (0,0))
 nest:Nest w n v
 new:∀ b∈h::blks v,W0.heap.size≤b
 fr:Fr X W0 w
section
variable {W0 w w':World} {X:Nat→Prop} {g:Nat} {C:Ctx} {h:Nat} {ln:Value} {n:Sx.Node} {v:Vals} {σ σ':Sx.St}
theorem PLoc.notX (hp:PLoc W0 X g C h ln n v σ w) (hX:XL X W0):∀ b∈h::blks v,¬ X b:=fun b hb hx=>by have:=hp.new b hb;have:=hX b hx;omega
theorem PLoc.call (hp:PLoc W0 X g C h ln n v σ w) (hm:PMem w' (plus X (h::blks v)) g C σ') (hf:Fr (plus X (h::blks v)) w w'):PLoc W0 X g C h ln n v σ' w':=
 ⟨hm,hf.cells hp.box (.inr (by simp)),hp.nest.fr hf fun b hb=>.inr (by simp[hb]),hp.new,hp.fr.trans hf.less⟩
theorem PLoc.later (hp:PLoc W0 X g C h ln n v σ w) (hl:Later w w'):PLoc W0 X g C h ln n v σ w':=hp.call (hp.mem.later hl) (Fr.later hl)
theorem PLoc.cell (hp:PLoc W0 X g C h ln n v σ w) (i:Nat):w.cell? ⟨h,i,none⟩=(ncs n v ln)[i]?∧w.frozen? ⟨h,i,none⟩=false:=by
 have:=cell_row hp.box i
 rw[List.getElem?_toArray] at this
 exact this
theorem blks_type (hn:Nest w n v) {b:Nat} (hb:b∈blks v) {cs:Array Value} {fr:Nat×Nat} (hh:w.heap[b]?=some (.cells cs 37 fr)):False:=by
 obtain⟨cs',t,h1,ht⟩:=hn.types hb
 rw[hh] at h1
 injection h1 with h1
 injection h1 with _ h1 _
 rcases ht with rfl | rfl | rfl <;> revert h1 <;> decide
theorem PLoc.set (hp:PLoc W0 X g C h ln n v σ w) (hX:XL X W0) (i:Nat) (u:Value) {n':Sx.Node} {ln':Value} (hc:(ncs n v ln).set i u=ncs n' v ln') (h1:n'.words=n.words) (h2:n'.redirs=n.redirs) (h3:n'.kids=n.kids):PLoc W0 X g C h ln' n' v σ (w.setCell ⟨h,i,none⟩ u):=by
 have hg:=set_only w h i u
 refine⟨hp.mem.otherT hg (.inr (by simp)) hp.box (by decide),?_,?_,hp.new,hp.fr.trans (Fr.grown hg (by rintro x ⟨⟩;exact hp.notX hX h (by simp)))⟩
 ·rw[set_row hp.box,←hc]
  simp
 ·have h4:=hp.nest.grown hg fun b hb e=>by injection e with e;subst e;exact blks_type hp.nest hb hp.box
  exact⟨by rw[h1];exact h4.w,by rw[h2];exact h4.r,by rw[h3];exact h4.k⟩
theorem PLoc.growK (hp:PLoc W0 X g C h ln n v σ w) (hX:XL X W0) (hc:CtxX X C) (i:Nat) {ws:World} (hls:Later w ws) {v':Value} {w':World} (ho:w'.ownsRow 0 3 1 v' (n.kids.length+1) (n.kids.map iv++[iv i])) (hg:ws.grownBy w' v.k.ownBlock) (hm:v'.ownBlock=v.k.ownBlock∨v'.ownBlock=some ws.heap.size) :
  PLoc W0 X g C h ln { n with kids:=n.kids++[i] } { v with k:=v' } σ (w'.setCell ⟨h,6,none⟩ v')∧(∃ A c,v'=.slice A (n.kids.length+1) c)∧w'.cell? ⟨h,6,none⟩=some v.k∧w'.frozen? ⟨h,6,none⟩=false:=by
 have hps:=hp.later hls
 have hkt:∀ b cs t,ws.heap[b]?=some (.cells cs t (0,0))→t≠3→some b≠v.k.ownBlock:=fun b cs t hb ht e=>by
  obtain⟨cs',hb'⟩:=own_type hps.nest.k e.symm
  rw[hb] at hb'
  injection hb' with hb'
  injection hb' with _ hb' _
  exact ht hb'
 have hbox:w'.heap[h]?=some (.cells (ncs n v ln).toArray 37 (0,0)):=(hg.block h (lt_of_block hps.box) (hkt h _ _ hps.box (by decide))).trans hps.box
 have hs:=set_only w' h 6 v'
 have hlt:h<ws.heap.size:=lt_of_block hps.box
 have hm0:PMem w' (plus (plus X (h::blks v)) [ws.heap.size]) g C σ:=by
  have h1:=hps.mem.more [ws.heap.size] (by simp)
  cases e:v.k.ownBlock with
  | none=>
   rw[e] at hg
   exact h1.later ⟨hg.os,hg.tape,hg.output,hg.size,fun k hk=>hg.block k hk (by nofun)⟩
  | some b=>
   obtain⟨cs,hb⟩:=own_type hps.nest.k e
   rw[e] at hg
   exact h1.otherT hg (.inl (.inr (by simp[mem_blks,e]))) hb (by decide)
 have hnew:∀ b∈h::blks { v with k:=v' },b∈h::blks v∨b=ws.heap.size:=fun b hb=>by
  rcases List.mem_cons.1 hb with rfl | hb
  ·exact .inl (by simp)
  ·have h1:=mem_blks.1 hb
   simp only at h1
   rcases h1 with h1 | h1 | h1
   ·exact .inl (by simp[mem_blks,h1])
   ·exact .inl (by simp[mem_blks,h1])
   ·rcases hm with hm | hm
    ·exact .inl (by simp[mem_blks,←hm,h1])
    ·exact .inr (by rw[h1] at hm;injection hm)
 have hkeep:∀ {size m:Nat} {e:TypeId} {u:Value} {xs:List Value},ws.ownsRow 0 e size u m xs→e≠3→e≠37→(w'.setCell ⟨h,6,none⟩ v').ownsRow 0 e size u m xs:=by
  intro size m e u xs hr h1 h2
  have h3:w'.ownsRow 0 e size u m xs:=hr.kept hg (by
   cases eu:u.ownBlock with
   | none=>exact .inl rfl
   | some b=>obtain⟨cs,hb⟩:=own_type hr eu;exact .inr (hkt b cs _ hb h1))
  refine h3.kept hs ?_
  cases eu:u.ownBlock with
  | none=>exact .inl rfl
  | some b=>
   refine .inr fun e3=>?_
   injection e3 with e3
   obtain⟨cs,hb⟩:=own_type h3 eu
   rw[e3,hbox] at hb
   injection hb with hb
   injection hb with _ hb _
   exact h2 hb.symm
 have hko:(w'.setCell ⟨h,6,none⟩ v').ownsRow 0 3 1 v' (n.kids.length+1) (n.kids.map iv++[iv i]):=by
  refine ho.kept hs ?_
  cases eu:v'.ownBlock with
  | none=>exact .inl rfl
  | some b=>
   refine .inr fun e3=>?_
   injection e3 with e3
   obtain⟨cs,hb⟩:=own_type ho eu
   rw[e3,hbox] at hb
   injection hb with hb
   injection hb with _ hb _
   revert hb
   decide
 refine⟨⟨?_,?_,?_,fun b hb=>?_,?_⟩,?_,?_,(cell_row hbox 6).2⟩
 ·refine(hm0.otherT hs (.inl (.inr (by simp))) hbox (by decide)).sub (fun b hb=>?_) (CtxX.more hc _)
  rcases hb with hb | hb
  ·exact .inl (.inl hb)
  ·rcases hnew b hb with h1 | h1
   ·exact .inl (.inr h1)
   ·exact .inr (by simp[h1])
 ·rw[set_row hbox]
  simp[ncs]
 ·exact⟨hkeep hps.nest.w (by decide) (by decide),hkeep hps.nest.r (by decide) (by decide),by simpa using hko⟩
 ·rcases hnew b hb with h1 | h1
  ·exact hp.new b h1
  ·rw[h1];exact Nat.le_trans hp.fr.size hls.size
 ·refine((hps.fr.trans (Fr.grown hg fun x e hx=>?_)).trans (Fr.grown hs (by rintro x ⟨⟩;exact hp.notX hX h (by simp))))
  exact hp.notX hX x (List.mem_cons_of_mem _ (mem_blks.2 (.inr (.inr e)))) hx
 ·obtain⟨A,c,e,_⟩:=own_any ho
  exact⟨A,c,e⟩
 ·have:=(cell_row hbox 6).1
  rw[this]
  simp[ncs]
theorem PLoc.growW (hp:PLoc W0 X g C h ln n v σ w) (hX:XL X W0) (hc:CtxX X C) (t:Lx.L) {ws:World} (hls:Later w ws) {v':Value} {w':World} (ho:w'.ownsRow 0 9 1 v' (n.words.length+1) (n.words.map sv++[sv t])) (hg:ws.grownBy w' v.w.ownBlock) (hm:v'.ownBlock=v.w.ownBlock∨v'.ownBlock=some ws.heap.size) :
  PLoc W0 X g C h ln { n with words:=n.words++[t] } { v with w:=v' } σ (w'.setCell ⟨h,3,none⟩ v')∧(∃ A c,v'=.slice A (n.words.length+1) c)∧w'.cell? ⟨h,3,none⟩=some v.w∧w'.frozen? ⟨h,3,none⟩=false:=by
 have hps:=hp.later hls
 have hkt:∀ b cs t,ws.heap[b]?=some (.cells cs t (0,0))→t≠9→some b≠v.w.ownBlock:=fun b cs t hb ht e=>by
  obtain⟨cs',hb'⟩:=own_type hps.nest.w e.symm
  rw[hb] at hb'
  injection hb' with hb'
  injection hb' with _ hb' _
  exact ht hb'
 have hbox:w'.heap[h]?=some (.cells (ncs n v ln).toArray 37 (0,0)):=(hg.block h (lt_of_block hps.box) (hkt h _ _ hps.box (by decide))).trans hps.box
 have hs:=set_only w' h 3 v'
 have hlt:h<ws.heap.size:=lt_of_block hps.box
 have hm0:PMem w' (plus (plus X (h::blks v)) [ws.heap.size]) g C σ:=by
  have h1:=hps.mem.more [ws.heap.size] (by simp)
  cases e:v.w.ownBlock with
  | none=>
   rw[e] at hg
   exact h1.later ⟨hg.os,hg.tape,hg.output,hg.size,fun k hk=>hg.block k hk (by nofun)⟩
  | some b=>
   obtain⟨cs,hb⟩:=own_type hps.nest.w e
   rw[e] at hg
   exact h1.otherT hg (.inl (.inr (by simp[mem_blks,e]))) hb (by decide)
 have hnew:∀ b∈h::blks { v with w:=v' },b∈h::blks v∨b=ws.heap.size:=fun b hb=>by
  rcases List.mem_cons.1 hb with rfl | hb
  ·exact .inl (by simp)
  ·have h1:=mem_blks.1 hb
   simp only at h1
   rcases h1 with h1 | h1 | h1
   ·rcases hm with hm | hm
    ·exact .inl (by simp[mem_blks,←hm,h1])
    ·exact .inr (by rw[h1] at hm;injection hm)
   ·exact .inl (by simp[mem_blks,h1])
   ·exact .inl (by simp[mem_blks,h1])
 have hkeep:∀ {size m:Nat} {e:TypeId} {u:Value} {xs:List Value},ws.ownsRow 0 e size u m xs→e≠9→e≠37→(w'.setCell ⟨h,3,none⟩ v').ownsRow 0 e size u m xs:=by
  intro size m e u xs hr h1 h2
  have h3:w'.ownsRow 0 e size u m xs:=hr.kept hg (by
   cases eu:u.ownBlock with
   | none=>exact .inl rfl
   | some b=>obtain⟨cs,hb⟩:=own_type hr eu;exact .inr (hkt b cs _ hb h1))
  refine h3.kept hs ?_
  cases eu:u.ownBlock with
  | none=>exact .inl rfl
  | some b=>
   refine .inr fun e3=>?_
   injection e3 with e3
   obtain⟨cs,hb⟩:=own_type h3 eu
   rw[e3,hbox] at hb
   injection hb with hb
   injection hb with _ hb _
   exact h2 hb.symm
 have hko:(w'.setCell ⟨h,3,none⟩ v').ownsRow 0 9 1 v' (n.words.length+1) (n.words.map sv++[sv t]):=by
  refine ho.kept hs ?_
  cases eu:v'.ownBlock with
  | none=>exact .inl rfl
  | some b=>
   refine .inr fun e3=>?_
   injection e3 with e3
   obtain⟨cs,hb⟩:=own_type ho eu
   rw[e3,hbox] at hb
   injection hb with hb
   injection hb with _ hb _
   revert hb
   decide
 refine⟨⟨?_,?_,?_,fun b hb=>?_,?_⟩,?_,?_,(cell_row hbox 3).2⟩
 ·refine(hm0.otherT hs (.inl (.inr (by simp))) hbox (by decide)).sub (fun b hb=>?_) (CtxX.more hc _)
  rcases hb with hb | hb
  ·exact .inl (.inl hb)
  ·rcases hnew b hb with h1 | h1
   ·exact .inl (.inr h1)
   ·exact .inr (by simp[h1])
 ·rw[set_row hbox]
  simp[ncs]
 ·exact⟨by simpa using hko,hkeep hps.nest.r (by decide) (by decide),hkeep hps.nest.k (by decide) (by decide)⟩
 ·rcases hnew b hb with h1 | h1
  ·exact hp.new b h1
  ·rw[h1];exact Nat.le_trans hp.fr.size hls.size
 ·refine((hps.fr.trans (Fr.grown hg fun x e hx=>?_)).trans (Fr.grown hs (by rintro x ⟨⟩;exact hp.notX hX h (by simp))))
  exact hp.notX hX x (List.mem_cons_of_mem _ (mem_blks.2 (.inl e))) hx
 ·obtain⟨A,c,e,_⟩:=own_any ho
  exact⟨A,c,e⟩
 ·have:=(cell_row hbox 3).1
  rw[this]
  simp[ncs]
theorem PLoc.growR (hp:PLoc W0 X g C h ln n v σ w) (hX:XL X W0) (hc:CtxX X C) (y:Sx.Arw) {ws:World} (hls:Later w ws) {v':Value} {w':World} (ho:w'.ownsRow 0 79 4 v' (n.redirs.length+1) (n.redirs.flatMap rcs++rcs y)) (hg:ws.grownBy w' v.r.ownBlock) (hm:v'.ownBlock=v.r.ownBlock∨v'.ownBlock=some ws.heap.size) :
  PLoc W0 X g C h ln { n with redirs:=n.redirs++[y] } { v with r:=v' } σ (w'.setCell ⟨h,5,none⟩ v')∧(∃ A c,v'=.slice A (n.redirs.length+1) c)∧w'.cell? ⟨h,5,none⟩=some v.r∧w'.frozen? ⟨h,5,none⟩=false:=by
 have hps:=hp.later hls
 have hkt:∀ b cs t,ws.heap[b]?=some (.cells cs t (0,0))→t≠79→some b≠v.r.ownBlock:=fun b cs t hb ht e=>by
  obtain⟨cs',hb'⟩:=own_type hps.nest.r e.symm
  rw[hb] at hb'
  injection hb' with hb'
  injection hb' with _ hb' _
  exact ht hb'
 have hbox:w'.heap[h]?=some (.cells (ncs n v ln).toArray 37 (0,0)):=(hg.block h (lt_of_block hps.box) (hkt h _ _ hps.box (by decide))).trans hps.box
 have hs:=set_only w' h 5 v'
 have hlt:h<ws.heap.size:=lt_of_block hps.box
 have hm0:PMem w' (plus (plus X (h::blks v)) [ws.heap.size]) g C σ:=by
  have h1:=hps.mem.more [ws.heap.size] (by simp)
  cases e:v.r.ownBlock with
  | none=>
   rw[e] at hg
   exact h1.later ⟨hg.os,hg.tape,hg.output,hg.size,fun k hk=>hg.block k hk (by nofun)⟩
  | some b=>
   obtain⟨cs,hb⟩:=own_type hps.nest.r e
   rw[e] at hg
   exact h1.otherT hg (.inl (.inr (by simp[mem_blks,e]))) hb (by decide)
 have hnew:∀ b∈h::blks { v with r:=v' },b∈h::blks v∨b=ws.heap.size:=fun b hb=>by
  rcases List.mem_cons.1 hb with rfl | hb
  ·exact .inl (by simp)
  ·have h1:=mem_blks.1 hb
   simp only at h1
   rcases h1 with h1 | h1 | h1
   ·exact .inl (by simp[mem_blks,h1])
   ·rcases hm with hm | hm
    ·exact .inl (by simp[mem_blks,←hm,h1])
    ·exact .inr (by rw[h1] at hm;injection hm)
   ·exact .inl (by simp[mem_blks,h1])
 have hkeep:∀ {size m:Nat} {e:TypeId} {u:Value} {xs:List Value},ws.ownsRow 0 e size u m xs→e≠79→e≠37→(w'.setCell ⟨h,5,none⟩ v').ownsRow 0 e size u m xs:=by
  intro size m e u xs hr h1 h2
  have h3:w'.ownsRow 0 e size u m xs:=hr.kept hg (by
   cases eu:u.ownBlock with
   | none=>exact .inl rfl
   | some b=>obtain⟨cs,hb⟩:=own_type hr eu;exact .inr (hkt b cs _ hb h1))
  refine h3.kept hs ?_
  cases eu:u.ownBlock with
  | none=>exact .inl rfl
  | some b=>
   refine .inr fun e3=>?_
   injection e3 with e3
   obtain⟨cs,hb⟩:=own_type h3 eu
   rw[e3,hbox] at hb
   injection hb with hb
   injection hb with _ hb _
   exact h2 hb.symm
 have hko:(w'.setCell ⟨h,5,none⟩ v').ownsRow 0 79 4 v' (n.redirs.length+1) (n.redirs.flatMap rcs++rcs y):=by
  refine ho.kept hs ?_
  cases eu:v'.ownBlock with
  | none=>exact .inl rfl
  | some b=>
   refine .inr fun e3=>?_
   injection e3 with e3
   obtain⟨cs,hb⟩:=own_type ho eu
   rw[e3,hbox] at hb
   injection hb with hb
   injection hb with _ hb _
   revert hb
   decide
 refine⟨⟨?_,?_,?_,fun b hb=>?_,?_⟩,?_,?_,(cell_row hbox 5).2⟩
 ·refine(hm0.otherT hs (.inl (.inr (by simp))) hbox (by decide)).sub (fun b hb=>?_) (CtxX.more hc _)
  rcases hb with hb | hb
  ·exact .inl (.inl hb)
  ·rcases hnew b hb with h1 | h1
   ·exact .inl (.inr h1)
   ·exact .inr (by simp[h1])
 ·rw[set_row hbox]
  simp[ncs]
 ·exact⟨hkeep hps.nest.w (by decide) (by decide),by simpa using hko,hkeep hps.nest.k (by decide) (by decide)⟩
 ·rcases hnew b hb with h1 | h1
  ·exact hp.new b h1
  ·rw[h1];exact Nat.le_trans hp.fr.size hls.size
 ·refine((hps.fr.trans (Fr.grown hg fun x e hx=>?_)).trans (Fr.grown hs (by rintro x ⟨⟩;exact hp.notX hX h (by simp))))
  exact hp.notX hX x (List.mem_cons_of_mem _ (mem_blks.2 (.inr (.inl e)))) hx
 ·obtain⟨A,c,e,_⟩:=own_any ho
  exact⟨A,c,e⟩
 ·have:=(cell_row hbox 5).1
  rw[this]
  simp[ncs]
theorem PLoc.growK2 (hp:PLoc W0 X g C h ln n v σ w) (hX:XL X W0) (hc:CtxX X C) (i j:Nat) {ws:World} (hls:Later w ws) {v':Value} {w':World} (ho:w'.ownsRow 0 3 1 v' 2 [iv i,iv j]) (hg:ws.grownBy w' v.k.ownBlock) (hm:v'.ownBlock=v.k.ownBlock∨v'.ownBlock=some ws.heap.size) :
  PLoc W0 X g C h ln { n with kids:=[i,j] } { v with k:=v' } σ (w'.setCell ⟨h,6,none⟩ v')∧(∃ A c,v'=.slice A 2 c)∧w'.cell? ⟨h,6,none⟩=some v.k∧w'.frozen? ⟨h,6,none⟩=false:=by
 have hps:=hp.later hls
 have hkt:∀ b cs t,ws.heap[b]?=some (.cells cs t (0,0))→t≠3→some b≠v.k.ownBlock:=fun b cs t hb ht e=>by
  obtain⟨cs',hb'⟩:=own_type hps.nest.k e.symm
  rw[hb] at hb'
  injection hb' with hb'
  injection hb' with _ hb' _
  exact ht hb'
 have hbox:w'.heap[h]?=some (.cells (ncs n v ln).toArray 37 (0,0)):=(hg.block h (lt_of_block hps.box) (hkt h _ _ hps.box (by decide))).trans hps.box
 have hs:=set_only w' h 6 v'
 have hlt:h<ws.heap.size:=lt_of_block hps.box
 have hm0:PMem w' (plus (plus X (h::blks v)) [ws.heap.size]) g C σ:=by
  have h1:=hps.mem.more [ws.heap.size] (by simp)
  cases e:v.k.ownBlock with
  | none=>
   rw[e] at hg
   exact h1.later ⟨hg.os,hg.tape,hg.output,hg.size,fun k hk=>hg.block k hk (by nofun)⟩
  | some b=>
   obtain⟨cs,hb⟩:=own_type hps.nest.k e
   rw[e] at hg
   exact h1.otherT hg (.inl (.inr (by simp[mem_blks,e]))) hb (by decide)
 have hnew:∀ b∈h::blks { v with k:=v' },b∈h::blks v∨b=ws.heap.size:=fun b hb=>by
  rcases List.mem_cons.1 hb with rfl | hb
  ·exact .inl (by simp)
  ·have h1:=mem_blks.1 hb
   simp only at h1
   rcases h1 with h1 | h1 | h1
   ·exact .inl (by simp[mem_blks,h1])
   ·exact .inl (by simp[mem_blks,h1])
   ·rcases hm with hm | hm
    ·exact .inl (by simp[mem_blks,←hm,h1])
    ·exact .inr (by rw[h1] at hm;injection hm)
 have hkeep:∀ {size m:Nat} {e:TypeId} {u:Value} {xs:List Value},ws.ownsRow 0 e size u m xs→e≠3→e≠37→(w'.setCell ⟨h,6,none⟩ v').ownsRow 0 e size u m xs:=by
  intro size m e u xs hr h1 h2
  have h3:w'.ownsRow 0 e size u m xs:=hr.kept hg (by
   cases eu:u.ownBlock with
   | none=>exact .inl rfl
   | some b=>obtain⟨cs,hb⟩:=own_type hr eu;exact .inr (hkt b cs _ hb h1))
  refine h3.kept hs ?_
  cases eu:u.ownBlock with
  | none=>exact .inl rfl
  | some b=>
   refine .inr fun e3=>?_
   injection e3 with e3
   obtain⟨cs,hb⟩:=own_type h3 eu
   rw[e3,hbox] at hb
   injection hb with hb
   injection hb with _ hb _
   exact h2 hb.symm
 have hko:(w'.setCell ⟨h,6,none⟩ v').ownsRow 0 3 1 v' 2 [iv i,iv j]:=by
  refine ho.kept hs ?_
  cases eu:v'.ownBlock with
  | none=>exact .inl rfl
  | some b=>
   refine .inr fun e3=>?_
   injection e3 with e3
   obtain⟨cs,hb⟩:=own_type ho eu
   rw[e3,hbox] at hb
   injection hb with hb
   injection hb with _ hb _
   revert hb
   decide
 refine⟨⟨?_,?_,?_,fun b hb=>?_,?_⟩,?_,?_,(cell_row hbox 6).2⟩
 ·refine(hm0.otherT hs (.inl (.inr (by simp))) hbox (by decide)).sub (fun b hb=>?_) (CtxX.more hc _)
  rcases hb with hb | hb
  ·exact .inl (.inl hb)
  ·rcases hnew b hb with h1 | h1
   ·exact .inl (.inr h1)
   ·exact .inr (by simp[h1])
 ·rw[set_row hbox]
  simp[ncs]
 ·exact⟨hkeep hps.nest.w (by decide) (by decide),hkeep hps.nest.r (by decide) (by decide),by simpa using hko⟩
 ·rcases hnew b hb with h1 | h1
  ·exact hp.new b h1
  ·rw[h1];exact Nat.le_trans hp.fr.size hls.size
 ·refine((hps.fr.trans (Fr.grown hg fun x e hx=>?_)).trans (Fr.grown hs (by rintro x ⟨⟩;exact hp.notX hX h (by simp))))
  exact hp.notX hX x (List.mem_cons_of_mem _ (mem_blks.2 (.inr (.inr e)))) hx
 ·obtain⟨A,c,e,_⟩:=own_any ho
  exact⟨A,c,e⟩
 ·have:=(cell_row hbox 6).1
  rw[this]
  simp[ncs]
end
end Go.Proofs.YtkkchkkpnlnbgaaGreatDoor
