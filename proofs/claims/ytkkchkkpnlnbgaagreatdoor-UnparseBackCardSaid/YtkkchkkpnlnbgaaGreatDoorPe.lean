/- Which nodes were begun: a tree's nodes are each written once. No premises. -/
import Derived.Test.YtkkchkkpnlnbgaaGreatDoorPa
import Derived.Test.YtkkchkkpnlnbgaaGreatDoorOa
import Derived.Test.YtkkchkkpnlnbgaaGreatDoorPd
import Derived.Lib.Builder
import Derived.Deep.AppendLies
set_option maxRecDepth 100000
set_option maxHeartbeats 1600000
namespace Go.Proofs.YtkkchkkpnlnbgaaGreatDoor
namespace Um
structure Tr (ns:List Sx.Node):Prop where
 lt:∀ i (h:i<ns.length),∀ j∈ns[i].kids,j<i
 uniq:∀ i i' (h:i<ns.length) (h':i'<ns.length) j,j∈ns[i].kids→j∈ns[i'].kids→i=i'
 nodup:∀ i (h:i<ns.length),ns[i].kids.Nodup
 shape:∀ n∈ns,Sx.shapeB n=true
theorem count_two {ns:List Sx.Node} {i i' j:Nat} (h:i<ns.length) (h':i'<ns.length) (hlt:i<i') (hj:j∈ns[i].kids) (hj':j∈ns[i'].kids):2≤(ns.flatMap Sx.Node.kids).count j:=by
 have e:ns=ns.take i++(ns[i]::ns.drop (i+1)):=by rw[←List.drop_eq_getElem_cons h,List.take_append_drop]
 have h2:ns[i']∈ns.drop (i+1):=by
  rw[List.mem_iff_getElem?]
  refine⟨i'-(i+1),?_⟩
  rw[List.getElem?_drop,show i+1+(i'-(i+1))=i' by omega,List.getElem?_eq_getElem h']
 have h3:0<((ns.drop (i+1)).flatMap Sx.Node.kids).count j:=List.count_pos_iff.2 (List.mem_flatMap.2 ⟨_,h2,hj'⟩)
 have h4:0<ns[i].kids.count j:=List.count_pos_iff.2 hj
 conv=>rhs;rw[e]
 rw[List.flatMap_append,List.flatMap_cons,List.count_append,List.count_append]
 omega
theorem Tr.of {ns:List Sx.Node} {ks:List Nat} (hf:Sx.Forest 0 ns ks):Tr ns:=by
 have hin:∀ i (h:i<ns.length),∀ j∈ns[i].kids,j<i:=fun i h j hj=>by have:=hf.kid i h j hj;omega
 have hone:∀ i (h:i<ns.length),∀ j∈ns[i].kids,(ns.flatMap Sx.Node.kids).count j≤1:=fun i h j hj=>by
  have:=hin i h j hj
  have:=hf.one j (Nat.zero_le _) (by omega)
  omega
 refine⟨hin,fun i i' h h' j hj hj'=>?_,fun i h=>?_,hf.shape⟩
 ·have h1:=hone i h j hj
  rcases Nat.lt_trichotomy i i' with e | e | e
  ·have:=count_two h h' e hj hj';omega
  ·exact e
  ·have:=count_two h' h e hj' hj;omega
 ·refine List.nodup_iff_count.2 fun j=>?_
  by_cases hj:j∈ns[i].kids
  ·have h1:=hone i h j hj
   have e:ns=ns.take i++(ns[i]::ns.drop (i+1)):=by rw[←List.drop_eq_getElem_cons h,List.take_append_drop]
   have h2:ns[i].kids.count j≤(ns.flatMap Sx.Node.kids).count j:=by
    conv=>rhs;rw[e]
    rw[List.flatMap_append,List.flatMap_cons,List.count_append,List.count_append]
    omega
   omega
  ·rw[List.count_eq_zero.2 hj];omega
def bg (B:List Bool) (j:Nat):Prop:=B[j]?=some true
def kid (ns:List Sx.Node) (i j:Nat):Prop:=∃ h:i<ns.length,j∈ns[i].kids
def Inv (T:Nat) (ns:List Sx.Node) (B:List Bool):Prop:=B.length=ns.length∧∀ i j,i≤T→kid ns i j→bg B j→bg B i
structure Rdy (T:Nat) (ns:List Sx.Node) (B:List Bool) (k:Nat):Prop where
 inv:Inv T ns B
 lt:k<ns.length
 no:¬ bg B k
 le:k≤T
 up:∀ i,i≤T→kid ns i k→bg B i
structure Beg (T:Nat) (ns:List Sx.Node) (B B':List Bool) (k:Nat):Prop where
 inv:Inv T ns B'
 keep:∀ j,bg B j→bg B' j
 new:∀ j,bg B' j→¬ bg B j→j≤k∧(j=k∨∃ i,kid ns i j∧bg B' i∧¬ bg B i)
structure Mid (T:Nat) (ns:List Sx.Node) (p:Nat) (B1 B:List Bool) (done:List Nat):Prop where
 inv:Inv T ns B
 keep:∀ j,bg B1 j→bg B j
 new:∀ j,bg B j→¬ bg B1 j→j<p∧(j∈done∨∃ i,kid ns i j∧bg B i∧¬ bg B1 i)
 lt:p<ns.length
 le:p≤T
 own:bg B1 p
 kids:∀ j,kid ns p j→¬ bg B1 j
theorem bg_set {B:List Bool} {p:Nat} (hp:p<B.length) (j:Nat):bg (B.set p true) j↔j=p∨bg B j:=by
 unfold bg
 by_cases e:j=p
 ·subst e;simp[hp]
 ·rw[List.getElem?_set_ne (fun h=>e h.symm)];simp[e]
theorem Mid.start {T:Nat} {ns:List Sx.Node} {B:List Bool} {p:Nat} (ht:Tr ns) (h:Rdy T ns B p):Mid T ns p (B.set p true) (B.set p true) []:=by
 have hl:p<B.length:=by rw[h.inv.1];exact h.lt
 refine⟨⟨by rw[List.length_set];exact h.inv.1,fun i j hi hk hj=>?_⟩,fun j hj=>hj,fun j h1 h2=>absurd h1 h2,h.lt,h.le,(bg_set hl p).2 (.inl rfl),fun j hk hj=>?_⟩
 ·rw[bg_set hl] at hj⊢
  rcases hj with rfl | hj
  ·exact .inr (h.up i hi hk)
  ·exact .inr (h.inv.2 i j hi hk hj)
 ·rw[bg_set hl] at hj
  obtain⟨h1,h2⟩:=hk
  rcases hj with rfl | hj
  ·exact absurd (ht.lt j h1 j h2) (by omega)
  ·exact h.no (h.inv.2 p j h.le ⟨h1,h2⟩ hj)
theorem Mid.rdy {T:Nat} {ns:List Sx.Node} {p k:Nat} {B1 B:List Bool} {done:List Nat} (ht:Tr ns) (h:Mid T ns p B1 B done) (hk:kid ns p k) (hd:k∉done):Rdy T ns B k:=by
 obtain⟨h1,h2⟩:=hk
 have hlt:=ht.lt p h1 k h2
 have hu:∀ i,kid ns i k→i=p:=fun i ⟨h3,h4⟩=>ht.uniq i p h3 h1 k h4 h2
 refine⟨h.inv,by omega,fun hb=>?_,by have:=h.le;omega,fun i _ hi=>?_⟩
 ·obtain⟨_,h3⟩:=h.new k hb (h.kids k ⟨h1,h2⟩)
  rcases h3 with h3 | ⟨i,h3,_,h5⟩
  ·exact hd h3
  ·rw[hu i h3] at h5;exact h5 h.own
 ·rw[hu i hi];exact h.keep p h.own
theorem Mid.step {T:Nat} {ns:List Sx.Node} {p k:Nat} {B1 B B':List Bool} {done:List Nat} (ht:Tr ns) (h:Mid T ns p B1 B done) (hk:kid ns p k) (hb:Beg T ns B B' k):Mid T ns p B1 B' (done++[k]):=by
 obtain⟨h1,h2⟩:=hk
 have hlt:=ht.lt p h1 k h2
 refine⟨hb.inv,fun j hj=>hb.keep j (h.keep j hj),fun j hj hn=>?_,h.lt,h.le,h.own,h.kids⟩
 by_cases hB:bg B j
 ·obtain⟨h3,h4⟩:=h.new j hB hn
  refine⟨h3,?_⟩
  rcases h4 with h4 | ⟨i,h4,h5,h6⟩
  ·exact .inl (by simp[h4])
  ·exact .inr ⟨i,h4,hb.keep i h5,h6⟩
 ·obtain⟨h3,h4⟩:=hb.new j hj hB
  refine⟨by omega,?_⟩
  rcases h4 with rfl | ⟨i,h4,h5,h6⟩
  ·exact .inl (by simp)
  ·exact .inr ⟨i,h4,h5,fun e=>h6 (h.keep i e)⟩
theorem Mid.stop {T:Nat} {ns:List Sx.Node} {p:Nat} {B B':List Bool} (h0:Rdy T ns B p) (h:Mid T ns p (B.set p true) B' (ns[p]'h0.lt).kids):Beg T ns B B' p:=by
 have hl:p<B.length:=by rw[h0.inv.1];exact h0.lt
 refine⟨h.inv,fun j hj=>h.keep j ((bg_set hl j).2 (.inr hj)),fun j hj hn=>?_⟩
 by_cases e:j=p
 ·exact⟨by omega,.inl e⟩
 ·obtain⟨h3,h4⟩:=h.new j hj (fun hb=>by rcases(bg_set hl j).1 hb with e2 | e2;exact e e2;exact hn e2)
  refine⟨by omega,.inr ?_⟩
  rcases h4 with h4 | ⟨i,h4,h5,h6⟩
  ·exact⟨p,⟨h0.lt,h4⟩,h.keep p h.own,h0.no⟩
  ·exact⟨i,h4,h5,fun e2=>h6 ((bg_set hl i).2 (.inr e2))⟩
end Um
end Go.Proofs.YtkkchkkpnlnbgaaGreatDoor
namespace Go.Proofs.YtkkchkkpnlnbgaaGreatDoor
open Go.RowKit Go.Maps
open Lx (nl)
def fnW (g f:Nat):Value:=.func (.func f) #[.pointer (some ⟨g,0,none⟩)] #[]
def fnN (k:Nat):Option Nat:=
 if k=1 then some 69
 else if k=2 then some 70
 else if k=3 then some 71
 else if k=4 then some 72
 else if k=5 then some 73
 else if k=6 then some 74
 else if k=7 then some 75
 else if k=8 then some 76
 else if k=9 then some 77
 else if k=10 then some 78
 else if k=11 then some 79
 else if k=12 then some 80
 else if k=13 then some 81
 else none
def tabW (g:Nat):Nat→Option Value:=fun k=>(fnN k).map (fnW g)
def TabI (W:World) (m k:Nat) (f:Nat→Option Value):Prop:=
 ∃ D n,W.ownsMap Tryz.prog 3 heldR m n D∧n≤k∧∀ c:Nat,Maps.has D (.int .i64 (c:Int))=(f c).isSome∧∀ z,D.atKey (.int .i64 (c:Int)) (.held z)=.held ((f c).getD z)
theorem int_key:Keyed Tryz.prog 3:=int_keyed Tryz.underlying3
theorem keyOf_nat (c:Nat) (h:c≤100):keyOf Tryz.prog 3 (.int .i64 (c:Int))=some (.int .i64 (c:Int)):=
 keyOf_int_mk Tryz.underlying3 (by
  have e1:IntKind.min .i64=-9223372036854775808:=by decide
  have e2:IntKind.max .i64=9223372036854775807:=by decide
  unfold Lit.wf
  simp only[Bool.and_eq_true,decide_eq_true_eq]
  rw[e1,e2]
  omega)
theorem TabI.kept {W W':World} {m k:Nat} {f:Nat→Option Value} {row:Option Nat} (h:TabI W m k f) (hg:W.grownBy W' row) (hne:some m≠row):TabI W' m k f:=by
 obtain⟨D,n,h1,h2,h3⟩:=h
 exact⟨D,n,h1.kept hg hne,h2,h3⟩
theorem TabI.is_map {W:World} {m k:Nat} {f:Nat→Option Value} (h:TabI W m k f):∃ es cl,W.heap[m]?=some (.map es cl):=by
 obtain⟨D,n,⟨es,cl,h1,_⟩,_⟩:=h
 exact⟨es,cl,h1⟩
theorem TabI.lt {W:World} {m k:Nat} {f:Nat→Option Value} (h:TabI W m k f):m<W.heap.size:=by
 obtain⟨D,n,h1,_⟩:=h
 exact h1.lt
theorem TabI.look {W:World} {m k:Nat} {f:Nat→Option Value} (h:TabI W m k f) (c:Nat) (hc:c≤100):(Instr.lookup 73 (.map (some m)) (.int .i64 (c:Int)) true).run Tryz.prog W=.ok (.tuple #[(f c).getD .nilFunc,.bool (f c).isSome]) W:=by
 obtain⟨D,k,h1,_,h3⟩:=h
 obtain⟨v,ps,hrun,hv⟩:=World.ownsMap.look_ok (w:=W) h1 int_key Tryz.underlying73 (z:=.nilFunc) (by kernel_rfl) (zd:=.held .nilFunc) (zp:=[]) rfl (keyOf_nat c hc)
 rw[(h3 c).2 .nilFunc] at hv
 simp only[heldR,Option.some.injEq,Prod.mk.injEq,DataW.held.injEq] at hv
 rw[hrun,hv.1,(h3 c).1]
structure WC where
 W0:World
 A:Option Addr
 c:Nat
 ns:List Sx.Node
 vB:Value
 m:Nat
 T:Nat
def flatB (x:Sx.Arw):List UInt8:=x.body++Lx.bare x.word++[10]
def flat (H:List Sx.Arw):List UInt8:=H.flatMap flatB
def tv (b:Bool):Value:=.bool b
abbrev WCells (C:WC) (pa vb vh:Value):Array Value:=#[.slice C.A C.ns.length C.c,C.vB,pa,vb,vh,.map (some C.m)]
structure WMemX (W:World) (X:Nat→Prop) (g:Nat) (C:WC) (s:Up.S) (B:List Bool) (pa vb vh:Value) (H:List Sx.Arw):Prop where
 box:W.heap[g]?=some (.cells (WCells C pa vb vh) 75 (0,0))
 pa:pa=.pointer none∨pa=.pointer (some ⟨g,2,none⟩)
 gX:¬ X g
 low:Later C.W0 W
 lX:∀ b,b<C.W0.heap.size→X b
 len:B.length=C.ns.length
 beg:W.ownsRow 0 4 1 C.vB C.ns.length (B.map tv)
 bX:∀ b,C.vB.ownBlock=some b→¬ X b
 buf:W.ownsRow 0 5 1 vb s.text.length (s.text.map bv)
 uX:∀ b,vb.ownBlock=some b→¬ X b
 hs:W.ownsRow 0 79 4 vh H.length (H.flatMap rcs)
 hX:∀ b,vh.ownBlock=some b→¬ X b
 hm:s.more=flat H
 sm:∀ x∈H,x.fd≤99∧x.op.length≤2∧x.word.length≤4100∧x.body.length≤4100
 tab:TabI W C.m 30 (tabW g)
 mX:¬ X C.m
def WMemH (W:World) (X:Nat→Prop) (g:Nat) (C:WC) (s:Up.S) (B:List Bool) (vh:Value) (H:List Sx.Arw):Prop:=∃ pa vb,WMemX W X g C s B pa vb vh H
def WMem (W:World) (X:Nat→Prop) (g:Nat) (C:WC) (s:Up.S) (B:List Bool):Prop:=∃ vh H,WMemH W X g C s B vh H
section
variable {W W':World} {X:Nat→Prop} {g:Nat} {C:WC} {s:Up.S} {B:List Bool} {pa vb vh:Value} {H:List Sx.Arw}
theorem WMemX.memH (h:WMemX W X g C s B pa vb vh H):WMemH W X g C s B vh H:=⟨pa,vb,h⟩
theorem WMemH.mem (h:WMemH W X g C s B vh H):WMem W X g C s B:=⟨vh,H,h⟩
theorem WMemX.mem (h:WMemX W X g C s B pa vb vh H):WMem W X g C s B:=⟨vh,H,pa,vb,h⟩
theorem WMemX.facts (h:WMemX W X g C s B pa vb vh H):(W.cell? ⟨g,0,none⟩=some (.slice C.A C.ns.length C.c)∧W.cell? ⟨g,1,none⟩=some C.vB∧W.cell? ⟨g,2,none⟩=some pa∧W.cell? ⟨g,3,none⟩=some vb∧W.cell? ⟨g,4,none⟩=some vh∧W.cell? ⟨g,5,none⟩=some (.map (some C.m)))∧∀ i,W.frozen? ⟨g,i,none⟩=false:=
 ⟨⟨(cell_row h.box 0).1,(cell_row h.box 1).1,(cell_row h.box 2).1,(cell_row h.box 3).1,(cell_row h.box 4).1,(cell_row h.box 5).1⟩,fun i=>(cell_row h.box i).2⟩
theorem WMemX.lt (h:WMemX W X g C s B pa vb vh H):g<W.heap.size:=lt_of_block h.box
theorem WMemH.lt (h:WMemH W X g C s B vh H):g<W.heap.size:=by obtain⟨_,_,h⟩:=h;exact h.lt
theorem WMem.lt (h:WMem W X g C s B):g<W.heap.size:=by obtain⟨_,_,h⟩:=h;exact h.lt
theorem WMemX.ge (h:WMemX W X g C s B pa vb vh H) {b:Nat} (hb:¬ X b):C.W0.heap.size≤b:=Nat.le_of_not_lt fun e=>hb (h.lX b e)
theorem low_kept {W0 W W':World} {row:Option Nat} (h:Later W0 W) (hg:W.grownBy W' row) (hr:∀ b,row=some b→W0.heap.size≤b):Later W0 W':=
 Below.trans h (below_of_grown hg h.size hr)
theorem WMemX.kept (h:WMemX W X g C s B pa vb vh H) {row:Option Nat} (hg:W.grownBy W' row) (h0:∀ b,row=some b→C.W0.heap.size≤b) (h1:row≠some g) (h2:C.vB.ownBlock=none∨C.vB.ownBlock≠row) (h3:vb.ownBlock=none∨vb.ownBlock≠row) (h4:vh.ownBlock=none∨vh.ownBlock≠row) (h5:some C.m≠row):WMemX W' X g C s B pa vb vh H:=
 ⟨(hg.block g h.lt (fun e=>h1 e.symm)).trans h.box,h.pa,h.gX,low_kept h.low hg h0,h.lX,h.len,h.beg.kept hg h2,h.bX,h.buf.kept hg h3,h.uX,h.hs.kept hg h4,h.hX,h.hm,h.sm,h.tab.kept hg h5,h.mX⟩
theorem WMemX.later (h:WMemX W X g C s B pa vb vh H) (hl:Later W W'):WMemX W' X g C s B pa vb vh H:=
 h.kept (grown_of_later hl none) nofun nofun (by cases C.vB.ownBlock <;> simp) (by cases vb.ownBlock <;> simp) (by cases vh.ownBlock <;> simp) nofun
theorem WMemH.later (h:WMemH W X g C s B vh H) (hl:Later W W'):WMemH W' X g C s B vh H:=by
 obtain⟨_,_,h⟩:=h
 exact(h.later hl).memH
theorem WMem.later (h:WMem W X g C s B) (hl:Later W W'):WMem W' X g C s B:=by
 obtain⟨_,_,h⟩:=h
 exact(h.later hl).mem
theorem WMemX.other (h:WMemX W X g C s B pa vb vh H) {x:Nat} (hg:W.grownBy W' (some x)) (hx:X x) (h0:C.W0.heap.size≤x):WMemX W' X g C s B pa vb vh H:=
 h.kept hg (fun b e=>by injection e with e;omega) (fun e=>h.gX (by injection e with e;rw[←e];exact hx)) (.inr fun e=>h.bX x e hx) (.inr fun e=>h.uX x e hx) (.inr fun e=>h.hX x e hx) (fun e=>h.mX (by injection e with e;rw[e];exact hx))
theorem WMemH.other (h:WMemH W X g C s B vh H) {x:Nat} (hg:W.grownBy W' (some x)) (hx:X x) (h0:C.W0.heap.size≤x):WMemH W' X g C s B vh H:=by
 obtain⟨_,_,h⟩:=h
 exact(h.other hg hx h0).memH
theorem WMem.other (h:WMem W X g C s B) {x:Nat} (hg:W.grownBy W' (some x)) (hx:X x) (h0:C.W0.heap.size≤x):WMem W' X g C s B:=by
 obtain⟨_,_,h⟩:=h
 exact(h.other hg hx h0).mem
theorem WMemX.more (h:WMemX W X g C s B pa vb vh H) (l:List Nat) (hl:∀ b∈l,W.heap.size≤b):WMemX W (plus X l) g C s B pa vb vh H:=by
 have key:∀ b,b<W.heap.size→¬ X b→¬ plus X l b:=fun b hb hx e=>by
  rcases e with e | e
  ·exact hx e
  ·have:=hl _ e;omega
 exact⟨h.box,h.pa,key _ h.lt h.gX,h.low,fun b hb=>.inl (h.lX b hb),h.len,h.beg,fun b e=>key _ (h.beg.lt b e).2 (h.bX b e),h.buf,fun b e=>key _ (h.buf.lt b e).2 (h.uX b e),h.hs,fun b e=>key _ (h.hs.lt b e).2 (h.hX b e),h.hm,h.sm,h.tab,key _ h.tab.lt h.mX⟩
theorem WMemH.more (h:WMemH W X g C s B vh H) (l:List Nat) (hl:∀ b∈l,W.heap.size≤b):WMemH W (plus X l) g C s B vh H:=by
 obtain⟨_,_,h⟩:=h
 exact(h.more l hl).memH
theorem WMem.more (h:WMem W X g C s B) (l:List Nat) (hl:∀ b∈l,W.heap.size≤b):WMem W (plus X l) g C s B:=by
 obtain⟨_,_,h⟩:=h
 exact(h.more l hl).mem
theorem WMemX.sub {Y:Nat→Prop} (h:WMemX W X g C s B pa vb vh H) (hs:∀ b,Y b→X b) (hc:∀ b,b<C.W0.heap.size→Y b):WMemX W Y g C s B pa vb vh H:=
 ⟨h.box,h.pa,fun e=>h.gX (hs _ e),h.low,hc,h.len,h.beg,fun b e e2=>h.bX b e (hs _ e2),h.buf,fun b e e2=>h.uX b e (hs _ e2),h.hs,fun b e e2=>h.hX b e (hs _ e2),h.hm,h.sm,h.tab,fun e=>h.mX (hs _ e)⟩
theorem WMemH.sub {Y:Nat→Prop} (h:WMemH W X g C s B vh H) (hs:∀ b,Y b→X b) (hc:∀ b,b<C.W0.heap.size→Y b):WMemH W Y g C s B vh H:=by
 obtain⟨_,_,h⟩:=h
 exact(h.sub hs hc).memH
theorem WMem.sub {Y:Nat→Prop} (h:WMem W X g C s B) (hs:∀ b,Y b→X b) (hc:∀ b,b<C.W0.heap.size→Y b):WMem W Y g C s B:=by
 obtain⟨_,_,h⟩:=h
 exact(h.sub hs hc).mem
theorem WMemH.lX (h:WMemH W X g C s B vh H):∀ b,b<C.W0.heap.size→X b:=by obtain⟨_,_,h⟩:=h;exact h.lX
theorem WMem.lX (h:WMem W X g C s B):∀ b,b<C.W0.heap.size→X b:=by obtain⟨_,_,h⟩:=h;exact h.lX
theorem WMemH.low (h:WMemH W X g C s B vh H):Later C.W0 W:=by obtain⟨_,_,h⟩:=h;exact h.low
theorem WMem.low (h:WMem W X g C s B):Later C.W0 W:=by obtain⟨_,_,h⟩:=h;exact h.low
theorem WMemH.less {l:List Nat} (h:WMemH W (plus X l) g C s B vh H) (hc:∀ b,b<C.W0.heap.size→X b):WMemH W X g C s B vh H:=h.sub (fun _ hx=>.inl hx) hc
theorem WMem.less {l:List Nat} (h:WMem W (plus X l) g C s B) (hc:∀ b,b<C.W0.heap.size→X b):WMem W X g C s B:=h.sub (fun _ hx=>.inl hx) hc
theorem WMemX.ne_g (h:WMemX W X g C s B pa vb vh H) {base size n:Nat} {e:TypeId} {v:Value} {xs:List Value} (ho:W.ownsRow base e size v n xs) (he:e≠75):v.ownBlock≠some g:=fun e1=>by
 obtain⟨cs,hb⟩:=own_type ho e1
 rw[h.box] at hb
 injection hb with hb
 injection hb with _ hb _
 exact he hb.symm
theorem own_ne {base size n base' size' n':Nat} {e e':TypeId} {v v':Value} {xs xs':List Value} (h:W.ownsRow base e size v n xs) (h':W.ownsRow base' e' size' v' n' xs') (he:e≠e'):v.ownBlock=none∨v.ownBlock≠v'.ownBlock:=by
 cases e1:v.ownBlock with
 | none=>exact .inl rfl
 | some b=>
  refine .inr fun e2=>?_
  obtain⟨cs,hb⟩:=own_type h e1
  obtain⟨cs',hb'⟩:=own_type h' e2.symm
  rw[hb] at hb'
  injection hb' with hb'
  injection hb' with _ hb' _
  exact he hb'
theorem WMemX.m_ne (h:WMemX W X g C s B pa vb vh H) {base size n:Nat} {e:TypeId} {v:Value} {xs:List Value} (ho:W.ownsRow base e size v n xs):some C.m≠v.ownBlock:=fun e1=>by
 obtain⟨cs,hb⟩:=own_type ho e1.symm
 obtain⟨es,cl,h1⟩:=h.tab.is_map
 rw[h1] at hb
 cases hb
theorem WMemX.m_g (h:WMemX W X g C s B pa vb vh H):C.m≠g:=fun e1=>by
 obtain⟨es,cl,h1⟩:=h.tab.is_map
 rw[e1,h.box] at h1
 cases h1
theorem WMemX.cell (h:WMemX W X g C s B pa vb vh H) (i:Nat) (u:Value) {pa' vb' vh':Value} {H':List Sx.Arw} {s':Up.S} (hc:(WCells C pa vb vh).setIfInBounds i u=WCells C pa' vb' vh') (hp:pa'=.pointer none∨pa'=.pointer (some ⟨g,2,none⟩)) (hb:W.ownsRow 0 5 1 vb' s'.text.length (s'.text.map bv)) (hu:∀ b,vb'.ownBlock=some b→¬ X b) (hh:W.ownsRow 0 79 4 vh' H'.length (H'.flatMap rcs)) (hx:∀ b,vh'.ownBlock=some b→¬ X b) (hm:s'.more=flat H') (hsm:∀ x∈H',x.fd≤99∧x.op.length≤2∧x.word.length≤4100∧x.body.length≤4100):WMemX (W.setCell ⟨g,i,none⟩ u) X g C s' B pa' vb' vh' H':=by
 have hg:=set_only W g i u
 exact⟨by rw[set_row h.box,hc],hp,h.gX,low_kept h.low hg (fun b e=>by injection e with e;rw[←e];exact h.ge h.gX),h.lX,h.len,h.beg.kept hg (.inr (h.ne_g h.beg (by decide))),h.bX,hb.kept hg (.inr (h.ne_g hb (by decide))),hu,hh.kept hg (.inr (h.ne_g hh (by decide))),hx,hm,hsm,h.tab.kept hg (fun e=>h.m_g (by injection e)),h.mX⟩
theorem fr_own (hX:¬ X g) (i:Nat) (u:Value):Fr X W (W.setCell ⟨g,i,none⟩ u):=Fr.grown (set_only W g i u) fun x e hx=>by injection e with e;exact hX (by rw[e];exact hx)
end
end Go.Proofs.YtkkchkkpnlnbgaaGreatDoor
namespace Go.Proofs.YtkkchkkpnlnbgaaGreatDoor
open Go.RowKit Go.Maps
open Lx (nl)
namespace Uw
section
variable {W W':World} {X:Nat→Prop} {g:Nat} {C:WC} {s:Up.S} {B:List Bool} {pa vb vh:Value} {H:List Sx.Arw}
theorem shape_of (h:WMemX W X g C s B pa vb vh H):W.shape? g=some (75,6):=by
 have:=h.box
 simp[World.shape?,this]
theorem check_v (h:WMemX W X g C s B pa vb vh H):Calls Tryz.prog 133 #[.pointer (some ⟨g,2,none⟩)] W fun e W'=>e=.returned (.tuple #[])∧WMemX W' X g C s B (.pointer (some ⟨g,2,none⟩)) vb vh H∧Fr X W W':=by
 obtain⟨⟨c0,c1,c2,c3,c4,c5⟩,hz⟩:=h.facts
 have hsh:=shape_of h
 have hj:∃ j,Tryz.prog.info? 72=some j∧j.size=2:=by
  have e:(Tryz.prog.info? 72).map (fun i=>i.size)=some 2:=by kernel_rfl
  obtain⟨j,h1,h2⟩:=Option.map_eq_some_iff.1 e
  exact⟨j,h1,h2⟩
 obtain⟨j,hj,hjs⟩:=hj
 have HH:=Lib.hid h
 rcases h.pa with rfl | rfl
 ·clear h
  go_enter Tryz.func133,Tryz.ntmps133
  go_wp2
  rw[Lib.run_to_unsafe W ⟨g,2,none⟩ Tryz.underlying69 Tryz.underlying122 hj (by rw[hjs];decide) hsh (show 2<6 by omega)]
  simp only[Result.andThen]
  rw[Oper.upon_value]
  go_wp2
  rw[run_callFunc_extern Tryz.func140 (by kernel_rfl) (by kernel_rfl) (by kernel_rfl) (e:=Extern.AbiNoEscape.same) (by kernel_rfl)]
  rw[Lib.run_noEscape]
  simp only[Result.andThen]
  rw[Oper.upon_value]
  go_wp2
  rw[Lib.run_from_unsafe W ⟨g,2,none⟩ Tryz.underlying122 Tryz.underlying69 hj hsh (by kernel_rfl)]
  simp only[Result.andThen]
  rw[Oper.upon_value]
  go_wp2
  go_end0
  have h:=HH.out
  exact⟨rfl,h.cell 2 _ rfl (.inr rfl) h.buf h.uX h.hs h.hX h.hm h.sm,fr_own h.gX _ _⟩
 ·clear h
  go_enter Tryz.func133,Tryz.ntmps133
  go_wp2
  rw[Lib.run_neq_ptr_same W _ Tryz.underlying69 hj]
  go_wp2
  go_end0
  exact⟨rfl,HH.out,Fr.refl _ _⟩
theorem row_ne {base size n:Nat} {e t:TypeId} {v:Value} {xs:List Value} {cs:Array Value} (hb:W.heap[g]?=some (.cells cs t (0,0))) (ho:W.ownsRow base e size v n xs) (he:e≠t):v.ownBlock≠some g:=fun e1=>by
 obtain⟨cs',hb'⟩:=own_type ho e1
 rw[hb] at hb'
 injection hb' with hb'
 injection hb' with _ hb' _
 exact he hb'.symm
theorem map_ne {m k:Nat} {f:Nat→Option Value} {cs:Array Value} {t:TypeId} (hb:W.heap[g]?=some (.cells cs t (0,0))) (ht:TabI W m k f):some m≠some g:=fun e1=>by
 injection e1 with e1
 obtain⟨es,cl,h1⟩:=ht.is_map
 rw[e1,hb] at h1
 cases h1
theorem grown_set {W1:World} {row:Option Nat} {i:Nat} {u:Value} {pa' vb' vh':Value} {H':List Sx.Arw} {s':Up.S} (h:WMemX W X g C s B pa vb vh H) (hgr:W.grownBy W1 row) (hr:∀ b,row=some b→¬ X b) (hrg:row≠some g) (hrB:C.vB.ownBlock=none∨C.vB.ownBlock≠row) (hrm:some C.m≠row) (hc:(WCells C pa vb vh).setIfInBounds i u=WCells C pa' vb' vh') (hp:pa'=.pointer none∨pa'=.pointer (some ⟨g,2,none⟩)) (hb:W1.ownsRow 0 5 1 vb' s'.text.length (s'.text.map bv)) (hu:∀ b,vb'.ownBlock=some b→¬ X b) (hh:W1.ownsRow 0 79 4 vh' H'.length (H'.flatMap rcs)) (hx:∀ b,vh'.ownBlock=some b→¬ X b) (hm:s'.more=flat H') (hsm:∀ x∈H',x.fd≤99∧x.op.length≤2∧x.word.length≤4100∧x.body.length≤4100):WMemX (W1.setCell ⟨g,i,none⟩ u) X g C s' B pa' vb' vh' H'∧Fr X W (W1.setCell ⟨g,i,none⟩ u):=by
 have hs:=set_only W1 g i u
 have hbx:W1.heap[g]?=some (.cells (WCells C pa vb vh) 75 (0,0)):=(hgr.block g h.lt (fun e=>hrg e.symm)).trans h.box
 have hbeg:=h.beg.kept hgr hrB
 have htab:=h.tab.kept hgr hrm
 have hlow1:=low_kept h.low hgr fun b e=>h.ge (hr b e)
 refine⟨⟨by rw[set_row hbx,hc],hp,h.gX,low_kept hlow1 hs (fun b e=>by injection e with e;rw[←e];exact h.ge h.gX),h.lX,h.len,hbeg.kept hs (.inr (row_ne hbx hbeg (by decide))),h.bX,hb.kept hs (.inr (row_ne hbx hb (by decide))),hu,hh.kept hs (.inr (row_ne hbx hh (by decide))),hx,hm,hsm,htab.kept hs (map_ne hbx htab),h.mX⟩,?_⟩
 exact(Fr.grown hgr hr).trans (Fr.grown hs fun x e=>by injection e with e;rw[←e];exact h.gX)
theorem moved_new {W W1:World} {v v':Value} (hv:∀ b,v.ownBlock=some b→¬ X b) (hX:XL X W) (hm:Moved W v v'):∀ b,v'.ownBlock=some b→¬ X b:=fun b e=>by
 rcases hm with e1 | ⟨k,e1,e2⟩
 ·exact hv b (e1.symm.trans e)
 ·intro hx
  have:=hX b hx
  rw[e1] at e
  injection e with e
  omega
theorem wrote {W1:World} {v':Value} {t:List UInt8} (h:WMemX W X g C s B pa vb vh H) (hX:XL X W) (hg:Grew W W1 0 5 vb v' ((s.text++t).map bv)):WMemX (W1.setCell ⟨g,3,none⟩ v') X g C (Up.put s t) B pa v' vh H∧Fr X W (W1.setCell ⟨g,3,none⟩ v'):=by
 have hgr:=hg.2
 have ho:=hg.1
 rw[List.length_map] at ho
 exact grown_set (s':=Up.put s t) h hgr h.uX (h.ne_g h.buf (by decide)) (own_ne h.beg h.buf (by decide)) (h.m_ne h.buf) rfl h.pa ho (moved_new (W1:=W1) h.uX hX hg.3) (h.hs.kept hgr (own_ne h.hs h.buf (by decide))) h.hX h.hm h.sm
theorem write_v (h:WMemH W X g C s B vh H) (hX:XL X W) (t:List UInt8) (hl:s.text.length+t.length≤20000000000000):Calls Tryz.prog 123 #[.pointer (some ⟨g,2,none⟩),.string (mkS t)] W fun e W'=>(∃ n:Int,e=.returned (.tuple #[.int .i64 n,.nilIface]))∧WMemH W' X g C (Up.put s t) B vh H∧Fr X W W':=by
 obtain⟨pa,vb,h⟩:=h
 obtain⟨i0,hi,hz0,hz1,hz2⟩:=info_parts info_u8
 have HC:=Lib.hid (check_v h)
 have HX:=Lib.hid hX
 have HL:=Lib.hid hl
 clear h hX hl
 go_enter Tryz.func123,Tryz.ntmps123
 go_wp2_with (first
  |(go_at_call 133;(with_reducible refine HC.out.mono ?_);rintro e w1 ⟨rfl,h1,hf1⟩;have HF1:=Lib.hid hf1;have H1:=Lib.hid h1;obtain⟨⟨c0,c1,c2,c3,c4,c5⟩,hz⟩:=h1.facts;have hb:=h1.buf;have hbl:(s.text.map bv).length=s.text.length:=(List.length_map ..);rw[←hbl] at hb;have HB:=Lib.hid hb;clear h1 hf1 hb)
  |(refine wpList_appS _ rfl (.tmp 12) (.tmp 13) 70 9 rfl 0 5 i0 Tryz.underlying70 Tryz.underlying9 hi hz0 hz1 hz2 vb (s.text.map bv) rfl HB.out (mkS t) rfl (by rw[mkS_size,List.length_map];have:=HL.out;omega) (Nat.zero_le _) ?_;intro v' w2 hg;rw[mkS_list,←List.map_append] at hg;obtain⟨A2,k2,e9,_⟩:=own_any hg.1;subst e9;have hgr:=hg.2;have HG:=Lib.hid hg;have hq:=H1.out;have hz2:w2.frozen? ⟨g,3,none⟩=false:=(hgr.frozen_far ⟨g,3,none⟩ hq.lt (fun e=>hq.ne_g hq.buf (by decide) e.symm)).trans (hz 3);have e3:w2.cell? ⟨g,3,none⟩=some vb:=(hgr.cell_far ⟨g,3,none⟩ hq.lt (fun e=>hq.ne_g hq.buf (by decide) e.symm)).trans c3;clear hgr hq))
 have hlen:(List.map bv (s.text++t)).length=s.text.length+t.length:=by simp
 obtain⟨h2,f2⟩:=wrote H1.out (HX.out.mono HF1.out.size) HG.out
 rw[hlen] at h2 f2
 go_ret2
 exact⟨⟨_,rfl⟩,h2.memH,HF1.out.trans f2⟩
theorem rd_fr {A:Option Addr} {n:Nat} {xs:List Value} (h:Rd W W.heap.size A n xs) (hf:Fr X W W') (hA:0<n→∀ ad,A=some ad→X ad.block):Rd W' W'.heap.size A n xs:=by
 refine⟨h.1,fun h0=>?_⟩
 obtain⟨ad,e,hb,hc⟩:=h.2 h0
 refine⟨ad,e,Nat.lt_of_lt_of_le hb hf.size,fun k u hk=>?_⟩
 have h1:=hc k u hk
 rw[←h1]
 unfold World.cell?
 rw[show (ad.add k).block=ad.block from block_add _ _,hf.block ad.block hb (hA h0 ad e)]
theorem putH_v (h:WMemH W X g C s B vh H) (hX:XL X W) (A:Option Addr) (n c:Nat) (ts:List (List UInt8)) (hr:Rd W W.heap.size A n (ts.map sv)) (hA:0<n→∀ ad,A=some ad→X ad.block) (hn:n≤1000000) (hl:s.text.length+ts.flatten.length≤20000000000000):Calls Tryz.prog 102 #[.pointer (some ⟨g,0,none⟩),.slice A n c] W fun e W'=>e=.returned (.tuple #[])∧WMemH W' X g C (Up.put s ts.flatten) B vh H∧Fr X W W':=by
 have HH:=Lib.hid h
 have HX:=Lib.hid hX
 have HL:=Lib.hid hl
 have HR:=Lib.hid hr
 have HA:=Lib.hid hA
 have hts:ts.length=n:=hr.len_map
 clear h hX hl hr hA
 go_enter Tryz.func102,Tryz.ntmps102
 go_wp2_with (go_at_call 123;fail)
 go_loopw [8] (fun i wr=>∃ k:Nat,k≤n∧i=.int .i64 (k:Int)∧WMemH wr X g C (Up.put s (ts.take k).flatten) B vh H∧Fr X W wr) (fun i _=>n-(intOf i).toNat)
 case atStart=>exact⟨0,by omega,rfl,by simpa [Up.put] using HH.out,Fr.refl _ _⟩
 case round=>
  obtain⟨k,hk,rfl,hm,hf⟩:=hrel
  have HM:=Lib.hid hm
  have HF:=Lib.hid hf
  clear hm hf
  have hk0:(0:Int)≤(k:Int):=by omega
  by_cases hlt:k<n
  ·obtain⟨ad,hl1,rfl,_,hc⟩:=(rd_fr HR.out HF.out HA.out).at_map (k:=k) hlt
   have hk1:(k:Int)<(n:Int):=by omega
   obtain⟨x,hx⟩:∃ x,x=ts[k]:=⟨_,rfl⟩
   rw[←hx] at hc
   have hc1:wr.cell? (ad.add k)=some (.string (mkS x)):=hc
   have htk:(ts.take (k+1)).flatten=(ts.take k).flatten++x:=by rw[List.take_succ_eq_append_getElem hl1,List.flatten_append,hx];simp
   have hfl:ts.flatten.length=(ts.take k).flatten.length+x.length+(ts.drop (k+1)).flatten.length:=by
    have e1:ts.flatten=(ts.take (k+1)).flatten++(ts.drop (k+1)).flatten:=by rw[←List.flatten_append,List.take_append_drop]
    rw[e1,htk];simp;omega
   have HT:=Lib.hid htk
   have HS:=Lib.hid (show (Up.put s (ts.take k).flatten).text.length+x.length≤20000000000000 by have:=HL.out;unfold Up.put;simp only[List.length_append];omega)
   clear hc hx hl1 htk hfl
   have hgn:=HM.out.lt
   go_wp2_with (go_at_call 123;fail)
   (with_reducible refine(write_v HM.out (HX.out.mono HF.out.size) x HS.out).mono ?_)
   rintro e w1 ⟨⟨z,rfl⟩,hm1,hf1⟩
   have HM1:=Lib.hid hm1
   have HF1:=Lib.hid hf1
   clear hm1 hf1
   go_wp2
   go_roundw
   case rel=>
    refine⟨k+1,by omega,by go_num,?_,HF.out.trans HF1.out⟩
    rw[HT.out]
    have:=HM1.out
    simpa [Up.put] using this
   case measure=>simp[intOf];omega
  ·have hk1:¬ (k:Int)<(n:Int):=by omega
   have hkn:ts.take k=ts:=List.take_of_length_le (by omega)
   go_wp2
   go_end0
   rw[hkn] at HM
   exact⟨rfl,HM.out,HF.out⟩
theorem putH_lit (h:WMemH W X g C s B vh H) (hX:XL X W) (ts:List (List UInt8)) (hn:ts.length≤1000) (hl:s.text.length+ts.flatten.length≤20000000000000):Calls Tryz.prog 102 #[.pointer (some ⟨g,0,none⟩),.slice (some ⟨W.heap.size,0,none⟩) ts.length ts.length] (W.alloc (.cells (ts.map sv).toArray 9)) fun e W'=>e=.returned (.tuple #[])∧WMemH W' X g C (Up.put s ts.flatten) B vh H∧Fr X W W':=by
 have hla:=Later.alloc W (.cells (ts.map sv).toArray 9)
 have hr:=Rd.lit W 9 (ts.map sv)
 rw[List.length_map] at hr
 have hsz:(W.alloc (.cells (ts.map sv).toArray 9)).heap.size=W.heap.size+1:=by simp
 refine(putH_v ((h.more [W.heap.size] (by simp)).later hla) (X:=plus X [W.heap.size]) (fun b hb=>?_) (some ⟨W.heap.size,0,none⟩) ts.length ts.length ts (by rw[hsz];exact hr) (fun _ ad e=>?_) (by omega) hl).mono fun e W' ⟨e1,h1,h2⟩=>⟨e1,h1.less h.lX,(Fr.later hla).trans h2.less⟩
 ·rcases hb with hb | hb
  ·have:=hX b hb;omega
  ·simp at hb;omega
 ·injection e with e
  subst e
  exact .inr (by simp)
theorem put_lit (h:WMem W X g C s B) (hX:XL X W) (ts:List (List UInt8)) (hn:ts.length≤1000) (hl:s.text.length+ts.flatten.length≤20000000000000):Calls Tryz.prog 102 #[.pointer (some ⟨g,0,none⟩),.slice (some ⟨W.heap.size,0,none⟩) ts.length ts.length] (W.alloc (.cells (ts.map sv).toArray 9)) fun e W'=>e=.returned (.tuple #[])∧WMem W' X g C (Up.put s ts.flatten) B∧Fr X W W':=by
 obtain⟨vh,H,h⟩:=h
 exact(putH_lit h hX ts hn hl).mono fun e W' ⟨e1,h1,h2⟩=>⟨e1,h1.mem,h2⟩
end
end Uw
end Go.Proofs.YtkkchkkpnlnbgaaGreatDoor
