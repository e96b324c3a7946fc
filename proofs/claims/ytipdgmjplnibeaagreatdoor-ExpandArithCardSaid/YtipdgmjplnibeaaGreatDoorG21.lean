import Derived.Test.YtipdgmjplnibeaaGreatDoorG05
import Derived.Test.YtipdgmjplnibeaaGreatDoorG10
import Derived.Test.YtipdgmjplnibeaaGreatDoorG15
import Derived.Test.YtipdgmjplnibeaaGreatDoorG20
set_option maxRecDepth 100000
set_option maxHeartbeats 1600000
namespace Go.Proofs.YtipdgmjplnibeaaGreatDoor
open Go.RowKit Go.Maps
set_option maxRecDepth 100000
theorem later_drewN (W:World) (m:Nat):Later W (W.drewN m):=⟨rfl,rfl,rfl,Nat.le_refl _,fun _ _=>rfl⟩
def rc (vp vt:Value) (k s dp:Nat):Array Value:=#[vp,.int .i64 (k:Int),vt,.pointer (some ⟨s,0,none⟩),.int .i64 (dp:Int)]
def pcs (y:Wd.P×Value):List Value:=[.int .i64 (y.1.k:Int),sv y.1.t,sv y.1.o,.bool y.1.q,y.2]
def cellsP (nd:List (Wd.P×Value)):List Value:=nd.flatMap pcs
theorem cellsP_len (nd:List (Wd.P×Value)):(cellsP nd).length=nd.length*5:=by
 unfold cellsP
 induction nd with
 | nil=>rfl
 | cons y l ih=>rw[List.flatMap_cons,List.length_append,ih];simp[pcs];omega
theorem cellsP_app (nd:List (Wd.P×Value)) (y:Wd.P×Value):cellsP (nd++[y])=cellsP nd++pcs y:=by simp[cellsP]
inductive PsAt (W:World) (T:Nat→Prop):Value→List Wd.P→Prop
 | nil (A:Option Addr) (c:Nat):PsAt W T (.slice A 0 c) []
 | row (b c n:Nat) (nd:List (Wd.P×Value)) (ps:List Wd.P) (hps:nd.map Prod.fst=ps) (hn:nd.length=n) (hT:T b) (hlt:b<W.heap.size) (hc:∀ (j:Nat) (u:Value),(cellsP nd)[j]?=some u→W.cell? ⟨b,j,none⟩=some u) (hnc:n≤c∧c≤maxLen) (hr:∀ y∈nd,PsAt W T y.2 y.1.w):PsAt W T (.slice (some ⟨b,0,none⟩) n c) ps
theorem PsAt.one {W:World} {T:Nat→Prop} {v:Value} {ps:List Wd.P} (h:PsAt W T v ps):v.oneCell'=true∧∃ A c,v=.slice A ps.length c:=by
 cases h with
 | nil A c=>exact⟨rfl,A,c,rfl⟩
 | row b c n nd ps hps hn _ _ _ _ _=>exact⟨rfl,some ⟨b,0,none⟩,c,by rw[←hn,←hps,List.length_map]⟩
theorem PsAt.kept {W W':World} {T T':Nat→Prop} {v:Value} {ps:List Wd.P} (h:PsAt W T v ps) (hs:W.heap.size≤W'.heap.size) (hk:∀ b,T b→b<W.heap.size→W'.heap[b]?=W.heap[b]?) (hT:∀ b,T b→T' b):PsAt W' T' v ps:=by
 induction h with
 | nil A c=>exact .nil A c
 | row b c n nd ps hps hn hT1 hlt hc hnc hr ih=>
  refine .row b c n nd ps hps hn (hT _ hT1) (Nat.lt_of_lt_of_le hlt hs) (fun j u hu=>?_) hnc ih
  rw[←hc j u hu]
  unfold World.cell?
  rw[show (⟨b,j,none⟩:Addr).block=b from rfl,hk _ hT1 hlt]
theorem cellsP_at:∀ (nd:List (Wd.P×Value)) (j i:Nat) (y:Wd.P×Value),nd[j]?=some y→i<5→(cellsP nd)[j*5+i]?=(pcs y)[i]?
 | [],j,i,y,h,_=>by simp at h
 | z::l,0,i,y,h,hi=>by
  simp only[List.getElem?_cons_zero,Option.some.injEq] at h
  subst h
  unfold cellsP
  rw[List.flatMap_cons,List.getElem?_append_left (by simp[pcs];omega)]
  simp
 | z::l,j+1,i,y,h,hi=>by
  have ih:=cellsP_at l j i y (by simpa using h) hi
  unfold cellsP at ih⊢
  rw[List.flatMap_cons,List.getElem?_append_right (by simp[pcs];omega),←ih]
  congr 1
  simp[pcs]
  omega
theorem PsAt.small {W:World} {T:Nat→Prop} {v:Value} {ps:List Wd.P} (h:PsAt W T v ps):ps.length≤maxLen:=by
 cases h with
 | nil A c=>exact Nat.zero_le _
 | row b c n nd ps hps hn hT hlt hc hnc hr=>
  subst hps
  rw[List.length_map,hn]
  exact Nat.le_trans hnc.1 hnc.2
structure PAt (W:World) (T:Nat→Prop) (b o:Nat) (p:Wd.P) (vw:Value):Prop where
 c0:W.cell? ⟨b,o,none⟩=some (.int .i64 (p.k:Int))
 c1:W.cell? ⟨b,o+1,none⟩=some (.string (mkS p.t))
 c2:W.cell? ⟨b,o+2,none⟩=some (.string (mkS p.o))
 c3:W.cell? ⟨b,o+3,none⟩=some (.bool p.q)
 c4:W.cell? ⟨b,o+4,none⟩=some vw
 w:PsAt W T vw p.w
theorem PsAt.get {W:World} {T:Nat→Prop} {v:Value} {ps:List Wd.P} (h:PsAt W T v ps) (h0:ps≠[]):∃ b c,v=.slice (some ⟨b,0,none⟩) ps.length c∧ps.length≤c∧b<W.heap.size∧∀ (j:Nat) (p:Wd.P),ps[j]?=some p→∃ vw,PAt W T b (j*5) p vw:=by
 cases h with
 | nil A c=>exact absurd rfl h0
 | row b c n nd ps hps hn hT hlt hc hnc hr=>
  subst hps
  refine⟨b,c,by rw[List.length_map,hn],by rw[List.length_map,hn];exact hnc.1,hlt,fun j p hj=>?_⟩
  rw[List.getElem?_map] at hj
  cases e:nd[j]? with
  | none=>rw[e] at hj;cases hj
  | some y=>
   rw[e] at hj
   simp only[Option.map_some,Option.some.injEq] at hj
   subst hj
   exact⟨y.2,hc _ _ ((cellsP_at nd j 0 y e (by omega)).trans rfl),hc _ _ ((cellsP_at nd j 1 y e (by omega)).trans rfl),hc _ _ ((cellsP_at nd j 2 y e (by omega)).trans rfl),hc _ _ ((cellsP_at nd j 3 y e (by omega)).trans rfl),hc _ _ ((cellsP_at nd j 4 y e (by omega)).trans rfl),hr y (List.mem_of_getElem? e)⟩
def Ops (w:World):Prop:=∀ i:Nat,i<12→w.cell? ⟨4,i,none⟩=some (.string (mkS (Wd.ops.getD i [])))
theorem Ops.kept {W W':World} (h:Ops W) (e:W'.heap[4]?=W.heap[4]?):Ops W':=fun i hi=>by
 rw[←h i hi]
 unfold World.cell?
 rw[show (⟨4,i,none⟩:Addr).block=4 from rfl,e]
def un (X T:Nat→Prop):Nat→Prop:=fun b=>X b∨T b
structure RMx (W:World) (X T:Nat→Prop) (g s:Nat) (raw:L) (dp:Nat) (r:Wd.R) (x:Wd.S) (vp vt:Value) (nd:List (Wd.P×Value)):Prop where
 box:W.heap[g]?=some (.cells (rc vp vt r.k s dp) 102 (0,0))
 src:Sr W s raw x
 gX:¬ X g
 sX:¬ X s
 gT:¬ T g
 sT:¬ T s
 txt:W.ownsRow 0 5 1 vt r.t.length (r.t.map bv)
 tX:∀ b,vt.ownBlock=some b→¬ X b
 tT:∀ b,vt.ownBlock=some b→¬ T b
 row:W.ownsRow 0 105 5 vp nd.length (cellsP nd)
 pX:∀ b,vp.ownBlock=some b→¬ X b
 pT:∀ b,vp.ownBlock=some b→¬ T b
 ps:nd.map Prod.fst=r.ps
 tree:∀ y∈nd,PsAt W T y.2 y.1.w
 kk:r.k≤9
 xl:XL X W
 tl:XL T W
 xt:∀ b,X b→¬ T b
 og:X 4
 op:Ops W
def RMT (W:World) (X T:Nat→Prop) (g s:Nat) (raw:L) (dp:Nat) (r:Wd.R) (x:Wd.S):Prop:=∃ vp vt nd,RMx W X T g s raw dp r x vp vt nd
def RM (W:World) (X:Nat→Prop) (g s:Nat) (raw:L) (dp:Nat) (r:Wd.R) (x:Wd.S):Prop:=∃ T,RMT W X T g s raw dp r x
def RMv (W:World) (X:Nat→Prop) (g s:Nat) (raw:L) (dp:Nat) (r:Wd.R) (x:Wd.S) (v:Value) (ps:List Wd.P):Prop:=∃ T,RMT W X T g s raw dp r x∧PsAt W T v ps
section
variable {W W':World} {X T:Nat→Prop} {g s dp:Nat} {raw:L} {r:Wd.R} {x x':Wd.S} {vp vt:Value} {nd:List (Wd.P×Value)}
theorem RMx.rm (h:RMx W X T g s raw dp r x vp vt nd):RM W X g s raw dp r x:=⟨T,vp,vt,nd,h⟩
theorem RMv.rm {v:Value} {ps:List Wd.P} (h:RMv W X g s raw dp r x v ps):RM W X g s raw dp r x:=by obtain⟨T,h,_⟩:=h;exact⟨T,h⟩
theorem RM.nil (h:RM W X g s raw dp r x):RMv W X g s raw dp r x (.slice none 0 0) []:=by obtain⟨T,h⟩:=h;exact⟨T,h,.nil _ _⟩
theorem RMx.facts (h:RMx W X T g s raw dp r x vp vt nd):(W.cell? ⟨g,0,none⟩=some vp∧W.cell? ⟨g,1,none⟩=some (.int .i64 (r.k:Int))∧W.cell? ⟨g,2,none⟩=some vt∧W.cell? ⟨g,3,none⟩=some (.pointer (some ⟨s,0,none⟩))∧W.cell? ⟨g,4,none⟩=some (.int .i64 (dp:Int)))∧∀ i,W.frozen? ⟨g,i,none⟩=false:=
 ⟨⟨(cell_row h.box 0).1,(cell_row h.box 1).1,(cell_row h.box 2).1,(cell_row h.box 3).1,(cell_row h.box 4).1⟩,fun i=>(cell_row h.box i).2⟩
theorem RM.facts (h:RM W X g s raw dp r x):(W.cell? ⟨g,3,none⟩=some (.pointer (some ⟨s,0,none⟩))∧W.cell? ⟨g,4,none⟩=some (.int .i64 (dp:Int)))∧∀ i,W.frozen? ⟨g,i,none⟩=false:=by
 obtain⟨T,vp,vt,nd,h⟩:=h
 exact⟨⟨h.facts.1.2.2.2.1,h.facts.1.2.2.2.2⟩,h.facts.2⟩
theorem RMx.len (h:RMx W X T g s raw dp r x vp vt nd):nd.length=r.ps.length:=by rw[←h.ps,List.length_map]
theorem RMx.lt (h:RMx W X T g s raw dp r x vp vt nd):g<W.heap.size:=lt_of_block h.box
theorem RM.src (h:RM W X g s raw dp r x):Sr W s raw x:=by obtain⟨T,vp,vt,nd,h⟩:=h;exact h.src
theorem RM.xl (h:RM W X g s raw dp r x):XL X W:=by obtain⟨T,vp,vt,nd,h⟩:=h;exact h.xl
theorem RM.sX (h:RM W X g s raw dp r x):¬ X s:=by obtain⟨T,vp,vt,nd,h⟩:=h;exact h.sX
theorem row_ne {cs:Array Value} {t e:TypeId} {base size n b:Nat} {v:Value} {xs:List Value} (hb:W.heap[b]?=some (.cells cs t (0,0))) (ho:W.ownsRow base e size v n xs) (he:e≠t):v.ownBlock≠some b:=fun e1=>by
 obtain⟨cs',hb'⟩:=own_type ho e1
 rw[hb] at hb'
 injection hb' with hb'
 injection hb' with _ hb' _
 exact he hb'.symm
theorem blk_ne {cs cs':Array Value} {t t':TypeId} {b b':Nat} (hb:W.heap[b]?=some (.cells cs t (0,0))) (hb':W.heap[b']?=some (.cells cs' t' (0,0))) (he:t≠t'):b≠b':=fun e1=>by
 rw[e1,hb'] at hb
 injection hb with hb
 injection hb with _ hb _
 exact he hb.symm
theorem Sr.box (h:Sr W s raw x):∃ cs,W.heap[s]?=some (.cells cs 132 (0,0)):=by obtain⟨p,h⟩:=h;exact⟨_,h.box⟩
theorem RMx.g_ne_s (h:RMx W X T g s raw dp r x vp vt nd):g≠s:=by
 obtain⟨cs,hb⟩:=h.src.box
 exact blk_ne h.box hb (by decide)
theorem tree_kept (h:∀ y∈nd,PsAt W T y.2 y.1.w) (hs:W.heap.size≤W'.heap.size) (hk:∀ b,T b→b<W.heap.size→W'.heap[b]?=W.heap[b]?):∀ y∈nd,PsAt W' T y.2 y.1.w:=fun y hy=>(h y hy).kept hs hk fun _ hb=>hb
theorem RMx.step (h:RMx W X T g s raw dp r x vp vt nd) (hs:Sr W' s raw x') (hg:W.grownBy W' (some s)):RMx W' X T g s raw dp r x' vp vt nd:=by
 obtain⟨cs,hb⟩:=h.src.box
 exact⟨(hg.block g h.lt (fun e=>h.g_ne_s (by injection e))).trans h.box,hs,h.gX,h.sX,h.gT,h.sT,h.txt.kept hg (.inr (row_ne hb h.txt (by decide))),h.tX,h.tT,h.row.kept hg (.inr (row_ne hb h.row (by decide))),h.pX,h.pT,h.ps,tree_kept h.tree hg.size (fun b hT hlt=>hg.block b hlt (fun e=>h.sT (by injection e with e;rw[←e];exact hT))),h.kk,h.xl.mono hg.size,h.tl.mono hg.size,h.xt,h.og,h.op.kept (hg.block _ (h.xl _ h.og) (fun e=>h.sX (by injection e with e;rw[←e];exact h.og)))⟩
theorem RM.step (h:RM W X g s raw dp r x) (hs:Sr W' s raw x') (hg:W.grownBy W' (some s)):RM W' X g s raw dp r x'∧Fr X W W':=by
 obtain⟨T,vp,vt,nd,h⟩:=h
 exact⟨(h.step hs hg).rm,Fr.grown hg fun b e=>by injection e with e;rw[←e];exact h.sX⟩
theorem RMx.later (h:RMx W X T g s raw dp r x vp vt nd) (hl:Later W W'):RMx W' X T g s raw dp r x vp vt nd:=h.step (h.src.kept (grown_of_later hl none) nofun) (grown_of_later hl (some s))
theorem RM.later (h:RM W X g s raw dp r x) (hl:Later W W'):RM W' X g s raw dp r x:=by
 obtain⟨T,vp,vt,nd,h⟩:=h
 exact(h.later hl).rm
theorem RM.drewN (h:RM W X g s raw dp r x) (m:Nat):RM (W.drewN m) X g s raw dp r x:=h.later (later_drewN W m)
theorem RMv.later {v:Value} {ps:List Wd.P} (h:RMv W X g s raw dp r x v ps) (hl:Later W W'):RMv W' X g s raw dp r x v ps:=by
 obtain⟨T,⟨vp,vt,nd,h⟩,h2⟩:=h
 exact⟨T,⟨vp,vt,nd,h.later hl⟩,h2.kept hl.size (fun b _ hlt=>hl.block b hlt) fun _ hb=>hb⟩
theorem RMx.set (h:RMx W X T g s raw dp r x vp vt nd) {W1:World} {row:Option Nat} (hg:W.grownBy W1 row) (hr:∀ b,row=some b→¬ X b∧¬ T b) (hrg:row≠some g) (hrs:row≠some s) (i:Nat) (u:Value) {r':Wd.R} {vp' vt':Value} {nd':List (Wd.P×Value)} (hc:(rc vp vt r.k s dp).setIfInBounds i u=rc vp' vt' r'.k s dp)
  (ht:W1.ownsRow 0 5 1 vt' r'.t.length (r'.t.map bv)) (htb:∀ b,vt'.ownBlock=some b→¬ X b∧¬ T b) (hp:W1.ownsRow 0 105 5 vp' nd'.length (cellsP nd')) (hpb:∀ b,vp'.ownBlock=some b→¬ X b∧¬ T b) (hps:nd'.map Prod.fst=r'.ps) (htr:∀ y∈nd',PsAt W T y.2 y.1.w) (hk:r'.k≤9) :
  RMx (W1.setCell ⟨g,i,none⟩ u) X T g s raw dp r' x vp' vt' nd'∧Fr (un X T) W (W1.setCell ⟨g,i,none⟩ u):=by
 have hs:=set_only W1 g i u
 have hbx:W1.heap[g]?=some (.cells (rc vp vt r.k s dp) 102 (0,0)):=(hg.block g h.lt (fun e=>hrg e.symm)).trans h.box
 have hsr:=h.src.kept hg (fun e=>hrs e.symm)
 refine⟨⟨by rw[set_row hbx,hc],hsr.kept hs (fun e=>h.g_ne_s (by injection e with e;exact e.symm)),h.gX,h.sX,h.gT,h.sT,ht.kept hs (.inr (row_ne hbx ht (by decide))),fun b e=>(htb b e).1,fun b e=>(htb b e).2,hp.kept hs (.inr (row_ne hbx hp (by decide))),fun b e=>(hpb b e).1,fun b e=>(hpb b e).2,hps,?_,hk,(h.xl.mono hg.size).mono hs.size,(h.tl.mono hg.size).mono hs.size,h.xt,h.og,h.op.kept ((hs.block _ (Nat.lt_of_lt_of_le (h.xl _ h.og) hg.size) (fun e=>h.gX (by injection e with e;rw[←e];exact h.og))).trans (hg.block _ (h.xl _ h.og) fun e=>(hr _ e.symm).1 h.og))⟩,?_⟩
 ·refine tree_kept htr (Nat.le_trans hg.size hs.size) fun b hT hlt=>?_
  rw[hs.block b (Nat.lt_of_lt_of_le hlt hg.size) (fun e=>h.gT (by injection e with e;rw[←e];exact hT))]
  exact hg.block b hlt fun e=>(hr b e.symm).2 hT
 ·exact(Fr.grown hg fun b e hx=>hx.elim (hr b e).1 (hr b e).2).trans (Fr.grown hs fun b e=>by injection e with e;rw[←e];exact fun hx=>hx.elim h.gX h.gT)
theorem RMx.more (h:RMx W X T g s raw dp r x vp vt nd) (hl:Later W W') (l:List Nat) (hb:∀ b∈l,W.heap.size≤b∧b<W'.heap.size):RMx W' (plus X l) T g s raw dp r x vp vt nd:=by
 have h':=h.later hl
 have key:∀ b,b<W.heap.size→¬ X b→¬ plus X l b:=fun b hlt hx e=>by
  rcases e with e | e
  ·exact hx e
  ·have:=(hb b e).1;omega
 exact⟨h'.box,h'.src,key g h.lt h.gX,key s h.src.lt h.sX,h.gT,h.sT,h'.txt,fun b e=>key b (h.txt.lt b e).2 (h.tX b e),h.tT,h'.row,fun b e=>key b (h.row.lt b e).2 (h.pX b e),h.pT,h.ps,h'.tree,h.kk,fun b e=>by
  rcases e with e | e
  ·exact h'.xl b e
  ·exact(hb b e).2,h'.tl,fun b e ht=>by
  rcases e with e | e
  ·exact h.xt b e ht
  ·have:=(hb b e).1;have:=h.tl b ht;omega,.inl h.og,h'.op⟩
theorem RMx.less {l:List Nat} (h:RMx W (plus X l) T g s raw dp r x vp vt nd) (ho:X 4):RMx W X T g s raw dp r x vp vt nd:=
 ⟨h.box,h.src,fun e=>h.gX (.inl e),fun e=>h.sX (.inl e),h.gT,h.sT,h.txt,fun b e e2=>h.tX b e (.inl e2),h.tT,h.row,fun b e e2=>h.pX b e (.inl e2),h.pT,h.ps,h.tree,h.kk,fun b e=>h.xl b (.inl e),h.tl,fun b e=>h.xt b (.inl e),ho,h.op⟩
theorem RM.more (h:RM W X g s raw dp r x) (hl:Later W W') (l:List Nat) (hb:∀ b∈l,W.heap.size≤b∧b<W'.heap.size):RM W' (plus X l) g s raw dp r x:=by
 obtain⟨T,vp,vt,nd,h⟩:=h
 exact(h.more hl l hb).rm
theorem RM.less {l:List Nat} (h:RM W (plus X l) g s raw dp r x) (ho:X 4):RM W X g s raw dp r x:=by
 obtain⟨T,vp,vt,nd,h⟩:=h
 exact(h.less ho).rm
theorem RMv.less {l:List Nat} {v:Value} {ps:List Wd.P} (h:RMv W (plus X l) g s raw dp r x v ps) (ho:X 4):RMv W X g s raw dp r x v ps:=by
 obtain⟨T,⟨vp,vt,nd,h⟩,h2⟩:=h
 exact⟨T,⟨vp,vt,nd,h.less ho⟩,h2⟩
theorem RM.og (h:RM W X g s raw dp r x):X 4:=by obtain⟨T,vp,vt,nd,h⟩:=h;exact h.og
theorem RM.op (h:RM W X g s raw dp r x):Ops W:=by obtain⟨T,vp,vt,nd,h⟩:=h;exact h.op
theorem RM.lt (h:RM W X g s raw dp r x):g<W.heap.size:=by obtain⟨T,vp,vt,nd,h⟩:=h;exact h.lt
theorem moved_new {v v':Value} {Y:Nat→Prop} (hv:∀ b,v.ownBlock=some b→¬ Y b) (hY:XL Y W) (hm:Moved W v v'):∀ b,v'.ownBlock=some b→¬ Y b:=fun b e=>by
 rcases hm with e1 | ⟨k,e1,e2⟩
 ·exact hv b (e1.symm.trans e)
 ·intro hx
  have:=hY b hx
  rw[e1] at e
  injection e with e
  omega
theorem RMx.wrote (h:RMx W X T g s raw dp r x vp vt nd) {W1:World} {v':Value} {t:L} (hg:Grew W W1 0 5 vt v' ((r.t++t).map bv)):RMx (W1.setCell ⟨g,2,none⟩ v') X T g s raw dp ⟨r.ps,r.k,r.t++t⟩ x vp v' nd∧Fr (un X T) W (W1.setCell ⟨g,2,none⟩ v'):=by
 obtain⟨cs,hb⟩:=h.src.box
 have ho:=hg.1
 rw[List.length_map] at ho
 refine h.set hg.2 (fun b e=>⟨h.tX b e,h.tT b e⟩) (row_ne h.box h.txt (by decide)) (row_ne hb h.txt (by decide)) 2 v' (r':=⟨r.ps,r.k,r.t++t⟩) rfl ho (fun b e=>⟨moved_new h.tX h.xl hg.3 b e,moved_new h.tT h.tl hg.3 b e⟩) (h.row.kept hg.2 (apart_types h.row h.txt (by decide))) (fun b e=>⟨h.pX b e,h.pT b e⟩) h.ps h.tree h.kk
theorem RMx.kind (h:RMx W X T g s raw dp r x vp vt nd) (k:Nat) (hk:k≤9):RMx (W.setCell ⟨g,1,none⟩ (.int .i64 (k:Int))) X T g s raw dp ⟨r.ps,k,r.t⟩ x vp vt nd∧Fr (un X T) W (W.setCell ⟨g,1,none⟩ (.int .i64 (k:Int))):=
 h.set (World.grownBy.refl W none) nofun nofun nofun 1 _ (r':=⟨r.ps,k,r.t⟩) rfl h.txt (fun b e=>⟨h.tX b e,h.tT b e⟩) h.row (fun b e=>⟨h.pX b e,h.pT b e⟩) h.ps h.tree hk
theorem RMx.drop (h:RMx W X T g s raw dp r x vp vt nd):RMx (W.setCell ⟨g,2,none⟩ (.slice none 0 0)) X T g s raw dp ⟨r.ps,r.k,[]⟩ x vp (.slice none 0 0) nd∧Fr (un X T) W (W.setCell ⟨g,2,none⟩ (.slice none 0 0)):=
 h.set (World.grownBy.refl W none) nofun nofun nofun 2 _ (r':=⟨r.ps,r.k,[]⟩) rfl (World.ownsRow_nil W 0 _ 1) nofun h.row (fun b e=>⟨h.pX b e,h.pT b e⟩) h.ps h.tree h.kk
theorem RMx.added (h:RMx W X T g s raw dp r x vp vt nd) {W1:World} {v':Value} {y:Wd.P×Value} (ho:W1.ownsRow 0 105 5 v' (nd.length+1) (cellsP nd++pcs y)) (hg:W.grownBy W1 vp.ownBlock) (hm:Moved W vp v') (hy:PsAt W T y.2 y.1.w):RMx (W1.setCell ⟨g,0,none⟩ v') X T g s raw dp ⟨r.ps++[y.1],r.k,r.t⟩ x v' vt (nd++[y])∧Fr (un X T) W (W1.setCell ⟨g,0,none⟩ v'):=by
 obtain⟨cs,hb⟩:=h.src.box
 refine h.set hg (fun b e=>⟨h.pX b e,h.pT b e⟩) (row_ne h.box h.row (by decide)) (row_ne hb h.row (by decide)) 0 v' (r':=⟨r.ps++[y.1],r.k,r.t⟩) rfl (h.txt.kept hg (apart_types h.txt h.row (by decide))) (fun b e=>⟨h.tX b e,h.tT b e⟩) (by rw[cellsP_app,List.length_append];exact ho) (fun b e=>⟨moved_new h.pX h.xl hm b e,moved_new h.pT h.tl hm b e⟩) (by rw[List.map_append,h.ps];rfl) (fun z hz=>?_) h.kk
 rcases List.mem_append.1 hz with h1 | h1
 ·exact h.tree z h1
 ·simp only[List.mem_singleton] at h1
  subst h1
  exact hy
end
theorem info_part3:(Tryz.prog.info? 105).map (fun i=>(i.zero,i.size,i.bytes))=some (some (.agg #[.int .i64 0,.string ⟨#[]⟩,.string ⟨#[]⟩,.bool false,.slice none 0 0]),5,72):=by kernel_rfl
theorem info_part:(Tryz.prog.info? 105).map (fun i=>(i.zero,i.size))=some (some (.agg #[.int .i64 0,.string ⟨#[]⟩,.string ⟨#[]⟩,.bool false,.slice none 0 0]),5):=by kernel_rfl
theorem size_part:(Tryz.prog.info? 105).map (·.size)=some 5:=by kernel_rfl
end Go.Proofs.YtipdgmjplnibeaaGreatDoor
namespace Go.Proofs.YtipdgmjplnibeaaGreatDoor
open Go.RowKit Go.Maps
set_option maxRecDepth 100000
namespace Ey
def rv (r:Rw):Value:=.agg #[.string (mkS (Jo.ft r)),.string (mkS (Jo.fm r))]
def pv (p:P) (vw:Value):Value:=.agg #[.int .i64 (p.k:Int),.string (mkS p.t),.string (mkS p.o),.bool p.q,vw]
theorem ft_map (t:L) (c:UInt8):Jo.ft (t.map fun x=>(x,c))=t:=by unfold Jo.ft;rw[List.map_map];exact List.map_id _
theorem fm_map (t:L) (c:UInt8):Jo.fm (t.map fun x=>(x,c))=List.replicate t.length c:=by
 unfold Jo.fm
 rw[List.map_map]
 induction t with
 | nil=>rfl
 | cons a t ih=>simp only[List.map_cons,List.length_cons,List.replicate_succ,Function.comp];rw[←ih]
theorem rv_of (t:L) (c:UInt8):Value.agg #[.string (mkS t),.string (mkS (List.replicate t.length c))]=rv (t.map fun x=>(x,c)):=by unfold rv;rw[ft_map,fm_map]
theorem end_row {fn:Func} {p g:Nat} (hf:fn.results=#[.cell p 37]) {tmps:Array Value} {w:World} {a0 a1:Value} {t m:L} {r:Rw} {K:Ending→World→Prop} (hp:tmps.getD p undef=.pointer (some ⟨g,0,none⟩)) (h:w.heap[g]?=some (.cells #[a0,a1] 37 (0,0))) (ht:Jo.ft r=t) (hm:Jo.fm r=m) (hK:∀ w',w.grownBy w' (some g)→K (.returned (rv r)) w') :
  bodyPost Tryz.prog fn K Exit.ret { tmps:=tmps,defers:=[] } ((w.setCell ⟨g,0,none⟩ (.string (mkS t))).setCell ⟨g,1,none⟩ (.string (mkS m))):=by
 subst ht hm
 refine bodyPost_ret (Jo.results_row hf _ _ g _ (0,0) hp (set_row (set_row h 0 _) 1 _) rfl) rfl ?_
 exact hK _ (only_trans (set_only _ _ _ _) (set_only _ _ _ _))
theorem put_v (t:L) (c:UInt8) (ht:t.length≤100000) (W:World):Calls Tryz.prog 102 #[.string (mkS t),.int .u8 (c.toNat:Int)] W fun e W'=>e=.returned (rv (pt t c))∧Later W W':=by
 have HO:=Lib.hid (fun W=>Jo.of_v t c W (by omega))
 have HQ:=Lib.hid (show ∀ W,Calls Tryz.prog 136 #[.string ⟨#[0]⟩,.int .u8 101] W fun e w'=>e=.returned (.agg #[.string (mkS [0]),.string (mkS [101])])∧Later W w' from fun W=>Jo.of_v [0] 101 W (by decide))
 have HN:=Lib.hid (heap_alloc_new W (.cells #[.string ⟨#[]⟩,.string ⟨#[]⟩] 37))
 have HL0:=Lib.hid (Later.alloc W (.cells #[.string ⟨#[]⟩,.string ⟨#[]⟩] 37))
 obtain⟨r,hr⟩:∃ r,r=pt t c:=⟨_,rfl⟩
 rw[←hr]
 have HR:=Lib.hid hr
 by_cases hq:t=[]∧c=113
 ·obtain⟨h0,h1⟩:=hq
  have e0:(mkS t).toList.isEmpty=true:=by rw[toList_mkS,h0];rfl
  have e1:((c.toNat:Int)==113)=true:=byt_eq 113 h1
  have HP:=Lib.hid (show r=[(0,101)] by rw[hr];unfold pt;rw[if_pos ⟨h0,h1⟩])
  clear h0 h1 ht hr
  go_enter Tryz.func102,Tryz.ntmps102
  go_wp2_with (go_at_call 136;(with_reducible refine(HQ.out _).mono ?_);rintro e w3 ⟨rfl,hl3⟩;(have hn3:=later_cells hl3 HN.out);obtain⟨r0,z0⟩:=cell_row hn3 0;obtain⟨r1,z1⟩:=cell_row hn3 1;(have HN3:=Lib.hid hn3);(have HL3:=Lib.hid (HL0.out.trans hl3));clear hl3 hn3)
  refine end_row rfl rfl HN3.out (by rw[HP.out];rfl) (by rw[HP.out];rfl) fun w4 h4=>⟨rfl,later_of_new HL3.out h4 (Nat.le_refl _)⟩
 ·have hp:r=t.map fun x=>(x,c):=by rw[hr];unfold pt;rw[if_neg hq]
  have hrt:Jo.ft r=t:=by rw[hp,ft_map]
  have hrm:Jo.fm r=List.replicate t.length c:=by rw[hp,fm_map]
  have HRV:=Lib.hid (show Value.agg #[.string (mkS t),.string (mkS (List.replicate t.length c))]=rv r by rw[hp];exact rv_of t c)
  have HRT:=Lib.hid hrt
  have HRM:=Lib.hid hrm
  clear hp hrt hrm hr ht
  by_cases h0:t=[]
  ·have e0:(mkS t).toList.isEmpty=true:=by rw[toList_mkS,h0];rfl
   have e1:((c.toNat:Int)==113)=false:=byt_ne 113 fun e=>hq ⟨h0,e⟩
   clear h0 hq
   go_enter Tryz.func102,Tryz.ntmps102
   go_wp2_with (go_at_call 136;(with_reducible refine(HO.out _).mono ?_);rintro e w3 ⟨rfl,hl3⟩;(have hn3:=later_cells hl3 HN.out);obtain⟨r0,z0⟩:=cell_row hn3 0;obtain⟨r1,z1⟩:=cell_row hn3 1;(have HN3:=Lib.hid hn3);(have HL3:=Lib.hid (HL0.out.trans hl3));clear hl3 hn3)
   refine end_row rfl rfl HN3.out HRT.out HRM.out fun w4 h4=>⟨rfl,later_of_new HL3.out h4 (Nat.le_refl _)⟩
  ·have e0:¬ (mkS t).toList=[]:=by rw[toList_mkS];exact h0
   clear h0 hq
   go_enter Tryz.func102,Tryz.ntmps102
   go_wp2_with (go_at_call 136;(with_reducible refine(HO.out _).mono ?_);rintro e w3 ⟨rfl,hl3⟩;(have hn3:=later_cells hl3 HN.out);obtain⟨r0,z0⟩:=cell_row hn3 0;obtain⟨r1,z1⟩:=cell_row hn3 1;(have HN3:=Lib.hid hn3);(have HL3:=Lib.hid (HL0.out.trans hl3));clear hl3 hn3)
   refine end_row rfl rfl HN3.out HRT.out HRM.out fun w4 h4=>⟨rfl,later_of_new HL3.out h4 (Nat.le_refl _)⟩
end Ey
end Go.Proofs.YtipdgmjplnibeaaGreatDoor
namespace Go.Proofs.YtipdgmjplnibeaaGreatDoor
open Go.RowKit Go.Maps
set_option maxRecDepth 100000
namespace Ey
set_option maxHeartbeats 1600000
theorem letter_v (p:P) (vw:Value) (W:World):Calls Tryz.prog 105 #[pv p vw] W fun e W'=>e=.returned (.int .u8 ((lt p.q).toNat:Int))∧Later W W':=by
 obtain⟨k,t,o,q,l⟩:=p
 have HL:=Lib.hid (fun o=>Later.alloc W o)
 unfold pv
 cases q with
 | false=>
  go_enter Tryz.func105,Tryz.ntmps105
  go_wp2
  go_ret
  exact⟨rfl,HL.out _⟩
 | true=>
  go_enter Tryz.func105,Tryz.ntmps105
  go_wp2
  go_ret
  exact⟨rfl,HL.out _⟩
def flt (n:Nat) (t:L):List PanicEntry:=[{ v:=.iface 33 (.agg #[.int .i64 (n:Int),.string (mkS t)]),recovered:=false }]
theorem refuse_ok (t:L) (W:World):Calls Tryz.prog 46 #[.int .i64 0,.string (mkS t)] W fun e W'=>e=.returned (.tuple #[])∧W'=W:=by
 go_enter Tryz.func46,Tryz.ntmps46
 go_wp2
 go_end0
 exact⟨rfl,rfl⟩
theorem refuse_bad (n:Nat) (h:n≠0) (t:L) (W:World):Calls Tryz.prog 46 #[.int .i64 (n:Int),.string (mkS t)] W fun e W'=>e=.panicked (flt n t)∧W'=W:=by
 have h1:¬ ((n:Int)=0):=by omega
 clear h
 go_enter Tryz.func46,Tryz.ntmps46
 go_wp2
 exact⟨rfl,rfl,rfl⟩
theorem parted_v (p:P) (vw:Value) (W:World):Calls Tryz.prog 106 #[pv p vw] W fun e W'=>e=.returned (.bool (parted p))∧Later W W':=by
 obtain⟨k,t,o,q,l⟩:=p
 have HL:=Lib.hid (fun o=>Later.alloc W o)
 unfold pv
 have hP:parted (.mk k t o q l)=(decide (o=[]) && (decide (t=[64]) || (decide (t=[42]) && !q))):=rfl
 rw[hP]
 clear hP
 show Calls Tryz.prog 106 #[.agg #[.int .i64 (k:Int),.string (mkS t),.string (mkS o),.bool q,vw]] W _
 by_cases h0:o=[]
 ·have e0:(mkS o).toList.isEmpty=true:=by rw[toList_mkS,h0];rfl
  rw[decide_eq_true h0]
  clear h0
  have e1:=Pm.is t [64] _ rfl
  have e2:=Pm.is t [42] _ rfl
  cases hb1:decide (t=[64]) <;> cases hb2:decide (t=[42]) <;> cases q <;> rw[hb1] at e1 <;> rw[hb2] at e2 <;> clear hb1 hb2 <;>
   (go_enter Tryz.func106,Tryz.ntmps106
    go_wp2
    go_ret
    exact⟨rfl,HL.out _⟩)
 ·have e0:¬ (mkS o).toList=[]:=by rw[toList_mkS];exact h0
  rw[decide_eq_false h0]
  clear h0
  go_enter Tryz.func106,Tryz.ntmps106
  go_wp2
  go_ret
  exact⟨rfl,HL.out _⟩
end Ey
end Go.Proofs.YtipdgmjplnibeaaGreatDoor
namespace Go.Proofs.YtipdgmjplnibeaaGreatDoor
open Go.RowKit Go.Maps
set_option maxRecDepth 100000
set_option maxHeartbeats 1600000
namespace Ey
theorem lit_v (g:Nat) (p:P) (vw:Value) (ht:p.t.length≤100000) (W:World):Calls Tryz.prog 72 #[.pointer (some ⟨g,0,none⟩),pv p vw] W fun e W'=>e=.returned (rv (pt p.t 108))∧Later W W':=by
 obtain⟨k,t,o,q,l⟩:=p
 replace ht:t.length≤100000:=ht
 have HP:=Lib.hid (show ∀ W,Calls Tryz.prog 102 #[.string (mkS t),.int .u8 108] W fun e W'=>e=.returned (rv (pt t 108))∧Later W W' from fun W=>put_v t 108 ht W)
 have HR:=Lib.hid (show rv (pt t 108)=.agg #[.string (mkS (Jo.ft (pt t 108))),.string (mkS (Jo.fm (pt t 108)))] from rfl)
 have HLA:=Lib.hid (fun W o=>Later.alloc W o)
 unfold pv
 show Calls Tryz.prog 72 #[.pointer (some ⟨g,0,none⟩),.agg #[.int .i64 (k:Int),.string (mkS t),.string (mkS o),.bool q,vw]] W fun e W'=>e=.returned (rv (pt t 108))∧Later W W'
 obtain⟨r,hr⟩:∃ r,r=pt t 108:=⟨_,rfl⟩
 rw[←hr] at HP HR⊢
 clear hr ht
 have HN0:=Lib.hid (fun o=>heap_alloc_new (W.alloc o) (.cells #[.string ⟨#[]⟩,.string ⟨#[]⟩] 37))
 have hsz:∀ o,(W.alloc o).heap.size=W.heap.size+1:=fun o=>World.size_alloc _ _
 go_enter Tryz.func72,Tryz.ntmps72
 go_wp2_with (go_at_call 102;(with_reducible refine(HP.out _).mono ?_);rintro e w3 ⟨rfl,hl3⟩;(have hn3:=later_cells hl3 (HN0.out _));rw[hsz] at hn3;rw[HR.out];obtain⟨r0,z0⟩:=cell_row hn3 0;obtain⟨r1,z1⟩:=cell_row hn3 1;(have HN3:=Lib.hid hn3);(have HL3:=Lib.hid (((HLA.out W _).trans (HLA.out _ _)).trans hl3));clear hl3 hn3)
 refine end_row rfl rfl HN3.out rfl rfl fun w4 h4=>⟨rfl,later_of_new HL3.out h4 (by omega)⟩
theorem quo_v (g:Nat) (p:P) (vw:Value) (ht:p.t.length≤100000) (W:World):Calls Tryz.prog 73 #[.pointer (some ⟨g,0,none⟩),pv p vw] W fun e W'=>e=.returned (rv (pt p.t 113))∧Later W W':=by
 obtain⟨k,t,o,q,l⟩:=p
 replace ht:t.length≤100000:=ht
 have HP:=Lib.hid (show ∀ W,Calls Tryz.prog 102 #[.string (mkS t),.int .u8 113] W fun e W'=>e=.returned (rv (pt t 113))∧Later W W' from fun W=>put_v t 113 ht W)
 have HR:=Lib.hid (show rv (pt t 113)=.agg #[.string (mkS (Jo.ft (pt t 113))),.string (mkS (Jo.fm (pt t 113)))] from rfl)
 have HLA:=Lib.hid (fun W o=>Later.alloc W o)
 unfold pv
 show Calls Tryz.prog 73 #[.pointer (some ⟨g,0,none⟩),.agg #[.int .i64 (k:Int),.string (mkS t),.string (mkS o),.bool q,vw]] W fun e W'=>e=.returned (rv (pt t 113))∧Later W W'
 obtain⟨r,hr⟩:∃ r,r=pt t 113:=⟨_,rfl⟩
 rw[←hr] at HP HR⊢
 clear hr ht
 have HN0:=Lib.hid (fun o=>heap_alloc_new (W.alloc o) (.cells #[.string ⟨#[]⟩,.string ⟨#[]⟩] 37))
 have hsz:∀ o,(W.alloc o).heap.size=W.heap.size+1:=fun o=>World.size_alloc _ _
 go_enter Tryz.func73,Tryz.ntmps73
 go_wp2_with (go_at_call 102;(with_reducible refine(HP.out _).mono ?_);rintro e w3 ⟨rfl,hl3⟩;(have hn3:=later_cells hl3 (HN0.out _));rw[hsz] at hn3;rw[HR.out];obtain⟨r0,z0⟩:=cell_row hn3 0;obtain⟨r1,z1⟩:=cell_row hn3 1;(have HN3:=Lib.hid hn3);(have HL3:=Lib.hid (((HLA.out W _).trans (HLA.out _ _)).trans hl3));clear hl3 hn3)
 refine end_row rfl rfl HN3.out rfl rfl fun w4 h4=>⟨rfl,later_of_new HL3.out h4 (by omega)⟩
theorem any_contains (l c:L):Lib.containsAny l c=l.any fun x=>c.contains x:=by
 unfold Lib.containsAny
 induction l with
 | nil=>rfl
 | cons b l ih=>
  have hg:=Lib.indexAny_ge c l
  unfold Lib.indexAny
  rw[List.any_cons,←ih]
  cases hb:c.contains b with
  | true=>simp
  | false=>
   by_cases h1:Lib.indexAny l c=-1
   ·simp[h1]
   ·have h2:0≤Lib.indexAny l c:=by omega
    have h3:0≤Lib.indexAny l c+1:=by omega
    simp[h1,h2,h3]
theorem needed_v (p:P) (vw:Value) (ho:p.o.length≤100000) (ha:∀ x∈p.o,x.toNat<128) (W:World):Calls Tryz.prog 108 #[pv p vw] W fun e W'=>e=.returned (.bool (need p))∧Later W W':=by
 obtain⟨k,t,o,q,l⟩:=p
 have HL:=Lib.hid (fun o=>Later.alloc W o)
 have HC:=Lib.hid (show ∀ W,Calls Tryz.prog 141 #[.string (mkS o),.string ⟨#[45,61,63,43]⟩] W fun e W'=>e=.returned (.bool (o.any fun x=>without.contains x))∧Later W W' from fun W=>by
  have h:=Tryz.strings_ContainsAny_laid (mkS o) (mkS without) W (by rw[mkS_size];show o.length<_;have:o.length≤100000:=ho;omega) (by rw[mkS_size];decide) (by rw[mkS_list];intro j b hj;exact ha b (List.mem_of_getElem? hj)) (by rw[mkS_list];intro j b hj;exact(by decide:∀ x∈without,x.toNat<128) b (List.mem_of_getElem? hj))
  rw[mkS_list,mkS_list,any_contains] at h
  exact h)
 unfold pv
 obtain⟨b,hb⟩:∃ b,b=o.any fun x=>without.contains x:=⟨_,rfl⟩
 have hP:need (.mk k t o q l)=(!(decide (t=[64]) || decide (t=[42])) && !b):=by rw[hb];rfl
 rw[hP]
 rw[←hb] at HC
 clear hP hb ho ha
 show Calls Tryz.prog 108 #[.agg #[.int .i64 (k:Int),.string (mkS t),.string (mkS o),.bool q,vw]] W _
 have e1:=Pm.is t [64] _ rfl
 have e2:=Pm.is t [42] _ rfl
 cases hb1:decide (t=[64]) <;> cases hb2:decide (t=[42]) <;> rw[hb1] at e1 <;> rw[hb2] at e2 <;> clear hb1 hb2 <;>
  (go_enter Tryz.func108,Tryz.ntmps108
   go_wp2_with (go_at_call 141;(with_reducible refine(HC.out _).mono ?_);rintro e w3 ⟨rfl,hl3⟩;(have HL3:=Lib.hid ((HL.out _).trans hl3));clear hl3)
   go_ret
   first | exact⟨rfl,HL3.out⟩ | exact⟨rfl,HL.out _⟩)
end Ey
end Go.Proofs.YtipdgmjplnibeaaGreatDoor
