import Derived.Test.YtipdgmjplnibeaaGreatDoorProg
import Derived.Test.YtipdgmjplnibeaaGreatDoorG01
import Derived.Lib.SmallJoins
import Derived.Test.YtipdgmjplnibeaaGreatDoorG02
namespace Go.Proofs.YtipdgmjplnibeaaGreatDoor
open Go.RowKit
theorem conv_const (W:World) (C:Array Value) (n c g:Nat) (h:g=W.heap.size):(convert 81 81 (.slice (some ⟨g,0,none⟩) n c)).run Tryz.prog (W.alloc (.cells C 5))=.ok (.slice (some ⟨g,0,none⟩) n c) (W.alloc (.cells C 5 (C.size,C.size+1))):=
 Joins.run_convert_bytes_const_at W 81 5 C n c g h Tryz.underlying81 Tryz.underlying5
theorem Rd.litF (w:World) (e:TypeId) (fr:Nat×Nat) (cs:List Value):Rd (w.alloc (.cells cs.toArray e fr)) (w.heap.size+1) (some ⟨w.heap.size,0,none⟩) cs.length cs:=
 ⟨rfl,fun _=>⟨_,rfl,Nat.lt_succ_self _,fun j u hu=>by
  rw[add_lit0,cell_of_row _ _ j cs.toArray e fr (heap_alloc_new w _)]
  simpa using hu⟩⟩
theorem info_u8:(Tryz.prog.info? 5).map (fun i=>(i.zero,i.size,i.bytes))=some (some (.int .u8 0),1,1):=by kernel_rfl
theorem size_toList (s:ByteArray):s.data.toList.length=s.size:=rfl
theorem sget (s:ByteArray) (k:Nat) (h:k<s.size):s.data.toList[k]'h=s[k]:=by
 rw[Array.getElem_toList];rfl
theorem own_slice {w:World} {base n:Nat} {e:TypeId} {v:Value} {xs:List Value} (h:w.ownsRow base e 1 v n xs) :
  ∃ A c,v=.slice A n c∧n≤c∧Rd w w.heap.size A n xs∧(∀ ad,A=some ad→base≤ad.block∧ad.block<w.heap.size):=by
 rcases h.2 with⟨rfl,rfl⟩ | ⟨g,cap,cur,rfl,hb,hh,hnc,_⟩
 ·exact⟨none,0,rfl,Nat.le_refl _,by have:=h.1;simp at this;subst this;exact Rd.nil_,fun ad h=>by cases h⟩
 ·exact⟨_,_,rfl,hnc,Rd.of_own h,fun ad he=>by injection he with he;subst he;exact⟨hb,(Array.getElem?_eq_some_iff.1 hh).1⟩⟩
theorem own_map {α:Type} {f:α→Value} {w:World} {base:Nat} {e:TypeId} {v:Value} {xs:List α} (h:w.ownsRow base e 1 v (xs.map f).length (xs.map f)) :
  ∃ A c,v=.slice A xs.length c∧xs.length≤c∧Rd w w.heap.size A xs.length (xs.map f)∧(∀ ad,A=some ad→base≤ad.block∧ad.block<w.heap.size):=by
 rw[List.length_map] at h
 exact own_slice h
theorem str1 (W:World) (n:Nat) (h:n<256) (cap:Nat):(convert 81 9 (.slice (some ⟨W.heap.size,0,none⟩) 1 cap)).run Tryz.prog (W.alloc (.cells #[.int .u8 (n:Int)] 5))=.ok (.string (mkS [UInt8.ofNat n])) (W.alloc (.cells #[.int .u8 (n:Int)] 5)):=by
 refine run_str_of (bs:=[UInt8.ofNat n]) (B:=W.heap.size+1) ⟨rfl,fun _=>⟨_,rfl,Nat.lt_succ_self _,fun j y hy=>?_⟩⟩ _ _ 5 Tryz.underlying81 Tryz.underlying5 Tryz.underlying9 cap
 match j,hy with
 | 0,hy=>simp only[List.map_cons,List.map_nil,List.getElem?_cons_zero,Option.some.injEq,bv,show (UInt8.ofNat n).toNat=n by simp;omega] at hy;subst hy;simp[Addr.add]
def RdL (w:World) (B:Nat) (A:Option Addr) (n:Nat) (ls:List (List UInt8)):Prop:=
 ls.length=n∧∀ (j:Nat) (h:j<ls.length),∃ ad A' n' c',A=some ad∧ad.block<B∧w.cell? (ad.add j)=some (.slice A' n' c')∧Rd w B A' n' (ls[j].map bv)∧n'≤maxLen
theorem RdL.one {w:World} {B:Nat} {A:Option Addr} {n c:Nat} {l:List UInt8} (h:Rd w B A n (l.map bv)) (hB:B≤w.heap.size) (h1:n≤maxLen) (e:TypeId) :
  RdL (w.alloc (.cells #[.slice A n c] e)) (w.heap.size+1) (some ⟨w.heap.size,0,none⟩) 1 [l]:=by
 refine⟨rfl,fun j hj=>?_⟩
 have hj0:j=0:=by simpa using hj
 subst hj0
 refine⟨_,A,n,c,rfl,Nat.lt_succ_self _,?_,(h.below ((Below.refl B w).alloc hB _)).more (by omega),h1⟩
 obtain⟨ad,e1,_,e3⟩:=(Rd.lit w e [.slice A n c]).2 (by simp)
 injection e1 with e1
 subst e1
 exact e3 0 _ rfl
theorem RdL.keep {w w':World} {B:Nat} {A:Option Addr} {n:Nat} {ls:List (List UInt8)} (h:RdL w B A n ls) (hb:Below B w w'):RdL w' B A n ls:=by
 refine⟨h.1,fun j hj=>?_⟩
 obtain⟨ad,A',n',c',rfl,h1,h2,h3,h4⟩:=h.2 j hj
 exact⟨ad,A',n',c',rfl,h1,(hb.cell (by rw[block_add];exact h1)).trans h2,h3.below hb,h4⟩
theorem RdL.two {w:World} {B B':Nat} {A A':Option Addr} {n n' c c':Nat} {l l':List UInt8} (h:Rd w B A n (l.map bv)) (h':Rd w B' A' n' (l'.map bv)) (hB:B≤w.heap.size) (hB':B'≤w.heap.size) (h1:n≤maxLen) (h1':n'≤maxLen) (e:TypeId) :
  RdL (w.alloc (.cells #[.slice A n c,.slice A' n' c'] e)) (w.heap.size+1) (some ⟨w.heap.size,0,none⟩) 2 [l,l']:=by
 obtain⟨ad,e1,_,e3⟩:=(Rd.lit w e [.slice A n c,.slice A' n' c']).2 (by simp)
 injection e1 with e1
 subst e1
 refine⟨rfl,fun j hj=>?_⟩
 have hc:j=0∨j=1:=by simp at hj;omega
 rcases hc with rfl | rfl
 ·exact⟨_,A,n,c,rfl,Nat.lt_succ_self _,e3 0 _ rfl,(h.below ((Below.refl B w).alloc hB _)).more (by omega),h1⟩
 ·exact⟨_,A',n',c',rfl,Nat.lt_succ_self _,e3 1 _ rfl,(h'.below ((Below.refl B' w).alloc hB' _)).more (by omega),h1'⟩
end Go.Proofs.YtipdgmjplnibeaaGreatDoor
namespace Go.Proofs.YtipdgmjplnibeaaGreatDoor
open Go.RowKit
def Later (w w':World):Prop:=Below w.heap.size w w'
theorem Later.refl (w:World):Later w w:=Below.refl _ _
theorem Later.trans {a b c:World} (h:Later a b) (k:Later b c):Later a c:=Below.trans h (Below.mono k h.size)
theorem Later.alloc (w:World) (o:Obj):Later w (w.alloc o):=(Below.refl _ w).alloc (Nat.le_refl _) o
theorem Later.drew (w:World):Later w w.drew:=(Below.refl _ w).drew
def spBytes (n:Nat) (l:List UInt8):Sp Later:=⟨fun v w=>∃ A c,v=.slice A n c∧Rd w w.heap.size A n (l.map bv),fun _ _ _ hg ⟨A,c,h1,h2⟩=>⟨A,c,h1,(h2.below hg).more hg.size⟩⟩
def spRows (n:Nat) (ls:List (List UInt8)):Sp Later:=⟨fun v w=>∃ A c,v=.slice A n c∧RdL w w.heap.size A n ls,fun _ _ _ hg ⟨A,c,h1,h2⟩=>⟨A,c,h1,by
 refine⟨h2.1,fun j hj=>?_⟩
 obtain⟨ad,A',n',c',rfl,h3,h4,h5,h6⟩:=(RdL.keep h2 hg).2 j hj
 exact⟨ad,A',n',c',rfl,Nat.lt_of_lt_of_le h3 hg.size,h4,h5.more hg.size,h6⟩⟩⟩
end Go.Proofs.YtipdgmjplnibeaaGreatDoor
namespace Go.Proofs.YtipdgmjplnibeaaGreatDoor
open Go.RowKit
theorem yielded_undef {ops:Array Oper} {a:Act} {j:Nat} {d:Tmp} (h:(ops[j]?).bind (·.dst)=some d) (hv:a.tmps.getD d undef=undef):yielded ops a.tmps j=none:=by
 unfold yielded
 rw[h]
 by_cases hd:d<a.tmps.size
 ·simp[hd] at hv⊢
  rw[hv]
  rfl
 ·simp[hd]
def AllAt (a:Act):Nat→List Value→Prop
 | _,[]=>True
 | n,v::l=>a.tmps.getD n undef=v∧AllAt a (n+1) l
theorem AllAt.at_ {a:Act}:∀ {l:List Value} {n:Nat},AllAt a n l→∀ (i:Nat) (h:i<l.length),a.tmps.getD (n+i) undef=l[i]
 | v::l,n,h,0,_=>h.1
 | v::l,n,h,i+1,hi=>by
  have:=AllAt.at_ h.2 i (by simpa using hi)
  rw[show n+(i+1)=n+1+i by omega,this]
  rfl
theorem act_lit {a:Act} {l:List Value} (hd:a.defers=[]) (hsz:a.tmps.size=l.length) (h:AllAt a 0 l):a=⟨l.toArray,[]⟩:=by
 obtain⟨t,d⟩:=a
 simp only at hd hsz
 subst hd
 congr 1
 apply Array.ext
 ·simpa using hsz
 ·intro i h1 h2
  have h3:=h.at_ i (by simpa using h2)
  rw[Nat.zero_add] at h3
  simp only at h3
  rw[←Array.getElem_eq_getD (h:=h1)] at h3
  simpa using h3
end Go.Proofs.YtipdgmjplnibeaaGreatDoor
namespace Go.Proofs.YtipdgmjplnibeaaGreatDoor
open Go.RowKit
section
variable {P:Program} {ops:Array Oper} {Q:Exit→Act→World→Prop} {G:World→World→Prop} {R:Nat→Value→World→Prop} {a0:Act}
theorem wpAny_softL {C:Array Bool→World→Prop} (hok:SoftOk ops a0.tmps.size) (hmono:∀ i v w w',G w w'→R i v w→R i v w')
  (hstep:∀ (i:Nat) o,ops[i]?=some o→∀ (listed:Array Bool) (a:Act) (w:World),listed.size=ops.size→listed.getD i true=false→(∀ e∈o.after,Region.binds .any e=true→listed.getD e.on false=true)→C listed w→Sees ops a0 R o a w→∀ K:Act→World→Prop,
   (∀ v w',R i (if o.dst.isSome then v else undef) w'→C (listed.setIfInBounds i true) w'→G w w'→K (a.put o.dst v) w') →
   if Region.wanted o (yielded ops a.tmps)=true then Oper.wp P o a w K Q else K (a.put o.dst undef) w)
  (hQ:∀ (listed:Array Bool) a w,(∀ i,i<ops.size→listed.getD i false=true)→C listed w→Fits ops a0 R (Array.replicate ops.size true) a w→Q .normal a w) :
  ∀ (fuel:Nat) (listed:Array Bool) (a:Act) (w:World),open_ listed≤fuel→C listed w→Fits ops a0 R listed a w→wpAny P .any ops Q fuel listed a w:=by
 have hend:∀ (listed:Array Bool) (a:Act) (w:World),C listed w→Fits ops a0 R listed a w→Region.ready .any ops listed=[]→Q .normal a w:=by
  intro listed a w hC h hr
  have hall:=ready_nil h.lsize hok hr
  refine hQ listed a w hall hC ⟨by simp,h.defers,h.size,fun t ht=>h.outer t fun i o ho hl=>ht i o ho (by have:=(Array.getElem?_eq_some_iff.1 ho).1;simp[this]),fun i o ho _=>h.inner i o ho (hall i (Array.getElem?_eq_some_iff.1 ho).1)⟩
 intro fuel
 induction fuel with
 | zero=>
  intro listed a w hf hC h
  have hz:=open_zero (Nat.le_zero.1 hf)
  have hr:Region.ready .any ops listed=[]:=by
   rw[List.eq_nil_iff_forall_not_mem]
   intro i hi
   have:=(mem_ready.1 hi).1
   rw[hz i] at this
   cases this
  exact⟨hr,hend listed a w hC h hr⟩
 | succ fuel ih=>
  intro listed a w hf hC h
  refine⟨hend listed a w hC h,fun i hi=>?_⟩
  obtain⟨hun,o,ho,hdeps⟩:=mem_ready.1 hi
  have hin:i<listed.size:=by rw[h.lsize];exact(Array.getElem?_eq_some_iff.1 ho).1
  have hst:=hstep i o ho listed a w h.lsize hun hdeps hC (h.sees hi ho) (wpAny P .any ops Q fuel (listed.setIfInBounds i true)) fun v w' hR hC' hG=>
   ih _ _ _ (by have:=open_set hin hun;omega) hC' (h.step (C:=fun _=>True) hok (fun i v w w' _=>hmono i v w w') ho trivial hG hR)
  unfold wpOp
  rw[ho]
  dsimp only
  split
  ·rename_i hw;rw[if_pos hw] at hst;exact .inl hst
  ·rename_i hw;rw[if_neg hw] at hst;exact hst
theorem ValWp.mono {o:Oper} {ρ:Operand→Value} {w:World} {K K':Value→World→Prop} (h:ValWp P o ρ w K) (hk:∀ v w',K v w'→K' v w'):ValWp P o ρ w K':=by
 unfold ValWp at *
 generalize (execOp ρ o).run P w=r at *
 cases r with
 | ok n w'=>
  cases n <;> simp only at h⊢
  case value v=>exact hk _ _ h
  case skip=>exact hk _ _ h
  case enter f args=>exact Calls.mono h fun e w'' ⟨v,he,h2⟩=>⟨v,he,hk _ _ h2⟩
 | halt x w'=>simp at h
def depOn (ops:Array Oper) (p i:Nat):Bool:=match ops[p]? with | some o=>o.after.toList.any (fun e=>e.on==i && Region.binds .any e) | none=>false
def OwesP (P:Program) (ops:Array Oper) (C0 C1:World→Prop) (G:World→World→Prop) (p:Nat) (R:Nat→Value→World→Prop) (a0:Act) (i:Nat) (o:Oper):Prop:=
 if i=p then ∀ (a:Act) (w:World),C0 w→Sees ops a0 R o a w →
  (Region.wanted o (yielded ops a.tmps)=true∧ValWp P o a.eval w fun v w'=>R i (if o.dst.isSome then v else undef) w'∧C1 w'∧G w w')
 else ∀ (a:Act) (w:World),(depOn ops p i=true→C0 w)→(C0 w∨C1 w)→Sees ops a0 R o a w →
  (Region.wanted o (yielded ops a.tmps)=true∧ValWp P o a.eval w fun v w'=>R i (if o.dst.isSome then v else undef) w'∧(C0 w'∨C1 w')∧Later w w') ∨
  (Region.wanted o (yielded ops a.tmps)=false∧R i undef w)
def OwesAllP (P:Program) (ops:Array Oper) (C0 C1:World→Prop) (G:World→World→Prop) (p:Nat) (R:Nat→Value→World→Prop) (a0:Act):Nat→List Oper→Prop
 | _,[]=>True
 | n,o::l=>OwesP P ops C0 C1 G p R a0 n o∧OwesAllP P ops C0 C1 G p R a0 (n+1) l
theorem owesAllP_at {C0 C1:World→Prop} {p:Nat}:∀ (l:List Oper) (n i:Nat) (o:Oper),OwesAllP P ops C0 C1 G p R a0 n l→l[i]?=some o→OwesP P ops C0 C1 G p R a0 (n+i) o
 | [],_,i,o,_,h=>by simp at h
 | x::l,n,0,o,h,ho=>by simp at ho;subst ho;exact h.1
 | x::l,n,i+1,o,h,ho=>by
  have:=owesAllP_at l (n+1) i o h.2 (by simpa using ho)
  rwa[show n+1+i=n+(i+1) by omega] at this
theorem getD_set_same {l:Array Bool} {i:Nat} (h:i<l.size):(l.setIfInBounds i true).getD i false=true:=by simp[h]
theorem getD_set_ne {l:Array Bool} {i p:Nat} (h:i≠p):(l.setIfInBounds i true).getD p false=l.getD p false:=by
 by_cases hp:p<l.size
 ·simp[hp,h]
 ·simp[hp]
theorem wp_region_writes {id:Nat} {w:World} {l:List Oper} (hm:P.follows .mixedOrders=true) (p:Nat) (C0 C1:World→Prop) (G:World→World→Prop) (sp:List (Sp G)) (hp:p<l.length) (hok:softB l.toArray a0.tmps.size=true)
  (hC:C0 w.drew) (h0:∀ w w',C0 w→Later w w'→C0 w') (h1:∀ w w',C1 w→Later w w'→C1 w') (hL:∀ w w',Later w w'→G w w')
  (hstep:OwesAllP P l.toArray C0 C1 G p (spAt sp) a0 0 l)
  (hQ:∀ a w,C1 w→a.defers=a0.defers→a.tmps.size=a0.tmps.size→(∀ t,freeTmp l.toArray t=true→a.tmps.getD t undef=a0.tmps.getD t undef)→(∀ (i:Nat) o,l[i]?=some o→spAt sp i (slotOf o.dst a) w)→Q .normal a w) :
  (Code.region id l.toArray true).wp P Q a0 w:=by
 have hmono:∀ i v w w',G w w'→spAt sp i v w→spAt sp i v w':=fun i v w w' hg h=>(sp.getD i Sp.any).lasts v w w' hg h
 refine wp_region_any hm (wpAny_softL (C:=fun listed w=>if listed.getD p false=true then C1 w∧(∀ i,depOn l.toArray p i=true→listed.getD i false=true) else C0 w) (R:=spAt sp) (SoftOk.of hok) hmono (fun i o ho listed a w hsz hun hdeps hc hsee K hK=>?_)
  (fun listed a w hall hc h=>?_) l.toArray.size (Array.replicate l.toArray.size false) a0 w.drew ?_ ?_ ⟨by simp,rfl,rfl,fun _ _=>rfl,fun i o ho hl=>?_⟩)
 ·have hil:i<listed.size:=by rw[hsz];exact(Array.getElem?_eq_some_iff.1 ho).1
  have hw:=owesAllP_at l 0 i o hstep (by simpa using ho)
  rw[Nat.zero_add] at hw
  by_cases hip:i=p
  ·subst hip
   have hf:listed.getD i false=false:=by simp[hil] at hun⊢;exact hun
   rw[hf] at hc
   simp only[Bool.false_eq_true,if_false] at hc
   unfold OwesP at hw
   rw[if_pos rfl] at hw
   obtain⟨hw1,hw2⟩:=hw a w hc hsee
   rw[if_pos hw1]
   refine wp_of_val (hw2.mono fun v w' hk=>?_)
   refine hK v w' hk.1 ?_ hk.2.2
   rw[if_pos (getD_set_same hil)]
   refine⟨hk.2.1,fun j hj=>?_⟩
   by_cases hji:i=j
   ·subst hji;exact getD_set_same hil
   ·rw[getD_set_ne hji]
    unfold depOn at hj
    rw[ho] at hj
    obtain⟨e,he,hb⟩:=List.any_eq_true.1 hj
    simp only[Bool.and_eq_true,beq_iff_eq] at hb
    rw[←hb.1]
    exact hdeps e (by simpa using he) hb.2
  ·unfold OwesP at hw
   rw[if_neg hip] at hw
   have hor:C0 w∨C1 w:=by split at hc;exact .inr hc.1;exact .inl hc
   have hdep:depOn l.toArray p i=true→C0 w:=fun hd=>by
    split at hc
    ·have h1:=hc.2 i hd
     simp[hil] at hun h1
     rw[hun] at h1;cases h1
    ·exact hc
   have hkeep:∀ w',Later w w'→(if (listed.setIfInBounds i true).getD p false=true then C1 w'∧(∀ j,depOn l.toArray p j=true→(listed.setIfInBounds i true).getD j false=true) else C0 w'):=by
    intro w' hl
    rw[getD_set_ne hip]
    split
    ·rename_i h;rw[if_pos h] at hc;refine⟨h1 _ _ hc.1 hl,fun j hj=>?_⟩
     by_cases hji:i=j
     ·subst hji;exact getD_set_same hil
     ·rw[getD_set_ne hji];exact hc.2 j hj
    ·rename_i h;rw[if_neg h] at hc;exact h0 _ _ hc hl
   rcases hw a w hdep hor hsee with⟨hw1,hw2⟩ | ⟨hw1,hw2⟩
   ·rw[if_pos hw1]
    exact wp_of_val (hw2.mono fun v w' hk=>hK v w' hk.1 (hkeep _ hk.2.2) (hL _ _ hk.2.2))
   ·rw[hw1]
    simp only[Bool.false_eq_true,if_false]
    exact hK undef w (by simpa using hw2) (hkeep w (Later.refl w)) (hL _ _ (Later.refl w))
 ·have hpl:=hall p (by simpa using hp)
  rw[hpl] at hc
  simp only[if_true] at hc
  refine hQ a w hc.1 h.defers h.size (fun t ht=>h.outer t fun j oj' hj _ hd=>?_) fun i o ho=>h.inner i o (by simpa using ho) (by have:=(List.getElem?_eq_some_iff.1 ho).1;simp[this])
  unfold freeTmp at ht
  rw[List.all_eq_true] at ht
  have:=ht oj' (Array.mem_toList_iff.2 (Array.mem_of_getElem? hj))
  simp[hd] at this
 ·unfold open_;exact Nat.le_trans List.countP_le_length (by simp)
 ·simp[hp];exact hC
 ·exfalso
  have hi:=(Array.getElem?_eq_some_iff.1 ho).1
  rw[List.size_toArray] at hi
  simp[hi] at hl
end
def Lets:Nat→(List Value→Prop)→Prop
 | 0,P=>P []
 | n+1,P=>∃ u,Lets n fun l=>P (u::l)
theorem Lets.mono:∀ (n:Nat) {P Q:List Value→Prop},(∀ l,P l→Q l)→Lets n P→Lets n Q
 | 0,_,_,h,hp=>h _ hp
 | n+1,_,_,h,⟨u,hu⟩=>⟨u,Lets.mono n (fun l hl=>h (u::l) hl) hu⟩
theorem lets (a:Act):∀ n k,Lets n (AllAt a k)
 | 0,_=>trivial
 | n+1,k=>⟨a.tmps.getD k undef,Lets.mono n (fun _ h=>⟨rfl,h⟩) (lets a n (k+1))⟩
theorem AllAt.on {a:Act} {l:List Value} {v:Value} (i:Nat) (h:AllAt a 0 l) (e:a.tmps.getD i undef=v) (hi:Nat.ble (i+1) l.length=true):v=l[i]'(Nat.le_of_ble_eq_true hi):=by
 have:=h.at_ i (Nat.le_of_ble_eq_true hi)
 rw[Nat.zero_add] at this
 exact e.symm.trans this
end Go.Proofs.YtipdgmjplnibeaaGreatDoor
