/- Scripts' trees as plain mathematics: the parser, as a function of tokens. No premises. -/
import Derived.Test.YtkkchkkpnlnbgaaGreatDoorNd
import Derived.Test.YtkkchkkpnlnbgaaGreatDoorNm
namespace Go.Proofs.YtkkchkkpnlnbgaaGreatDoor
namespace Sx
open Lx (Tok)
abbrev L:=List UInt8
structure Arw where
 fd:Nat
 op:L
 word:L
 body:L
structure Node where
 kind:Nat
 text:L:=[]
 flag:Bool:=false
 words:List L:=[]
 sets:Nat:=0
 redirs:List Arw:=[]
 kids:List Nat:=[]
 left:Nat:=0
structure St where
 r:List Tok
 d:Nat
 ns:List Node
abbrev Er:=Nat×Nat
abbrev M (α:Type):=St→Except Er (α×St)
section
variable {α β:Type}
def ret (a:α):M α:=fun s=>.ok (a,s)
def bnd (m:M α) (f:α→M β):M β:=fun s=>match m s with
 | .error e=>.error e
 | .ok (a,s')=>f a s'
theorem bnd_ok {m:M α} {f:α→M β} {s s':St} {a:α} (h:m s=.ok (a,s')):bnd m f s=f a s':=by simp[bnd,h]
theorem bnd_error {m:M α} {f:α→M β} {s:St} {e:Er} (h:m s=.error e):bnd m f s=.error e:=by simp[bnd,h]
theorem bnd_inv {m:M α} {f:α→M β} {s s2:St} {b:β} (h:bnd m f s=.ok (b,s2)):∃ a s',m s=.ok (a,s')∧f a s'=.ok (b,s2):=by
 unfold bnd at h
 cases e:m s with
 | error x=>rw[e] at h;cases h
 | ok x=>obtain⟨a,s'⟩:=x;rw[e] at h;exact⟨a,s',rfl,h⟩
end
def E:Tok:=⟨4,[],[],0⟩
def hd (s:St):Tok:=s.r.headD E
def go (s:St):St:={ s with r:=s.r.tail }
def isT (t:L) (s:St):Bool:=(hd s).text==t
def fail {α:Type} (k:Nat):M α:=fun s=>.error (k,(hd s).left)
def passed (t:L):M Bool:=fun s=>if isT t s=true then .ok (true,go s) else .ok (false,s)
def need (t:L):M Unit:=fun s=>if isT t s=true then .ok ((),go s) else .error (20,(hd s).left)
def dropL:List Tok→List Tok
 | []=>[]
 | t::r=>if t.kind=3 then dropL r else t::r
def dl (s:St):St:={ s with r:=dropL s.r }
def lines:M Unit:=fun s=>.ok ((),dl s)
def parted:M Bool:=fun s=>if isT [59] s=true∨(hd s).kind=3 then .ok (true,dl (go s)) else .ok (false,s)
def word:M Tok:=fun s=>if (hd s).kind=1 then .ok (hd s,go s) else .error (20,(hd s).left)
def wordsL:List Tok→List L×List Tok
 | []=>([],[])
 | t::r=>if t.kind=1 then (t.text::(wordsL r).1,(wordsL r).2) else ([],t::r)
def words:M (List L):=fun s=>.ok ((wordsL s.r).1,{ s with r:=(wordsL s.r).2 })
def add (n:Node):M Nat:=fun s=>.ok (s.ns.length,{ s with ns:=s.ns++[n] })
def kIF:L:=[105,102]
def kTHEN:L:=[116,104,101,110]
def kELIF:L:=[101,108,105,102]
def kELSE:L:=[101,108,115,101]
def kFI:L:=[102,105]
def kFOR:L:=[102,111,114]
def kIN:L:=[105,110]
def kCASE:L:=[99,97,115,101]
def kESAC:L:=[101,115,97,99]
def kDO:L:=[100,111]
def kDONE:L:=[100,111,110,101]
def kUNTIL:L:=[117,110,116,105,108]
def kWHILE:L:=[119,104,105,108,101]
def isRes (t:L):Bool:=t==[33] || t==[123] || t==[125] || t==kCASE || t==kDO || t==kDONE || t==kELIF || t==kELSE || t==kESAC || t==kFI || t==kFOR || t==kIF || t==kTHEN || t==kUNTIL || t==kWHILE
def isComp (t:L):Bool:=t==[123] || t==[40] || t==kIF || t==kWHILE || t==kUNTIL || t==kFOR || t==kCASE
def isArrow (t:L):Bool:=t==[60] || t==[62] || t==[62,62] || t==[60,60]
def atRedir (s:St):Bool:=(hd s).kind==5 || isArrow (hd s).text
def atSimple (s:St):Bool:=((hd s).kind==1 && !isRes (hd s).text) || atRedir s
def atAndOr (s:St):Bool:=isT [33] s || atSimple s || isComp (hd s).text
def atFunc (s:St):Bool:=nameB (hd s).text && !isRes (hd s).text && (hd (go s)).text==[40]
def num (l:L):Nat:=l.foldl (fun n c=>min (n*10+(c-48).toNat) 99) 0
def file (io op:L):Nat:=if io≠[] then num io else if op=[60]∨op=[60,60] then 0 else 1
def redir:M Arw:=fun s=>
 if (hd s).kind=5 then bnd word (fun w=>ret ⟨file (hd s).text (hd (go s)).text,(hd (go s)).text,w.text,w.body⟩) (go (go s))
 else bnd word (fun w=>ret ⟨file [] (hd s).text,(hd s).text,w.text,w.body⟩) (go s)
def sets:List L→Nat
 | []=>0
 | w::l=>if (setsM w).2.2=true then sets l+1 else 0
def simF:Nat→List L→List Arw→M (List L×List Arw)
 | 0,_,_=>fun _=>.error (0,0)
 | m+1,ws,rs=>fun s=>
  if (hd s).kind=1 then simF m (ws++[(hd s).text]) rs (go s)
  else if atRedir s=true then bnd redir (fun x=>simF m ws (rs++[x])) s
  else .ok ((ws,rs),s)
def simple (n:Nat):M Nat:=fun s=>bnd (simF n [] []) (fun p=>add { kind:=1,words:=p.1,sets:=sets p.1,redirs:=p.2,left:=(hd s).left }) s
def redF:Nat→List Arw→M (List Arw)
 | 0,_=>fun _=>.error (0,0)
 | m+1,rs=>fun s=>if atRedir s=true then bnd redir (fun x=>redF m (rs++[x])) s else .ok (rs,s)
def name:M L:=fun s=>if nameB (hd s).text=true then .ok ((hd s).text,go s) else .error (20,(hd s).left)
def altF:Nat→List L→M (List L)
 | 0,_=>fun _=>.error (0,0)
 | m+1,ws=>bnd (passed [124]) fun b=>if b=true then bnd word fun w=>altF m (ws++[w.text]) else ret ws
section
variable (a:M Nat)
def lst:M Nat:=bnd lines fun _=>fun s=>if atAndOr s=true then a s else .error (20,(hd s).left)
def group:M Node:=bnd (need [123]) fun _=>bnd (lst a) fun i=>bnd (need [125]) fun _=>ret { kind:=11,kids:=[i] }
def sub:M Node:=bnd (need [40]) fun _=>bnd (lst a) fun i=>bnd (need [41]) fun _=>ret { kind:=12,kids:=[i] }
def branchF:Nat→M Node
 | 0=>fun _=>.error (0,0)
 | m+1=>fun s=>bnd (lst a) (fun i=>bnd (need kTHEN) fun _=>bnd (lst a) fun j=>fun s2=>
   if isT kELIF s2=true then bnd (branchF m) (fun nd=>bnd (add nd) fun k=>ret { kind:=6,kids:=[i,j,k],left:=(hd s).left }) s2
   else bnd (passed kELSE) (fun b=>if b=true then bnd (lst a) fun k=>ret { kind:=6,kids:=[i,j,k],left:=(hd s).left } else ret { kind:=6,kids:=[i,j],left:=(hd s).left }) s2) (go s)
def choice (n:Nat):M Node:=bnd (branchF a n) fun nd=>bnd (need kFI) fun _=>ret nd
def body:M Nat:=bnd (need kDO) fun _=>bnd (lst a) fun i=>bnd (need kDONE) fun _=>ret i
def loop:M Node:=fun s=>bnd (lst a) (fun i=>bnd (body a) fun j=>ret { kind:=7,flag:=isT kUNTIL s,kids:=[i,j] }) (go s)
def each2 (t:L) (f:Bool) (ws:List L):M Node:=bnd lines fun _=>bnd (body a) fun i=>ret { kind:=8,text:=t,flag:=f,words:=ws,kids:=[i] }
def each:M Node:=bnd (need kFOR) fun _=>bnd name fun t=>bnd (passed [59]) fun b=>
 if b=true then each2 a t true []
 else bnd lines fun _=>bnd (passed kIN) fun c=>
  if c=true then bnd words fun ws=>bnd parted fun p=>if p=true then each2 a t false ws else fail 20
  else each2 a t true []
def item (n:Nat):M Nat:=fun s=>bnd (passed [40]) (fun _=>bnd word fun w=>bnd (altF n [w.text]) fun ws=>bnd (need [41]) fun _=>bnd a fun k=>add { kind:=10,words:=ws,kids:=[k],left:=(hd s).left }) s
def itemsF (n:Nat):Nat→List Nat→M (List Nat)
 | 0,_=>fun _=>.error (0,0)
 | m+1,ks=>fun s=>if isT kESAC s=true then .ok (ks,s) else bnd (item a n) (fun k=>bnd (passed [59,59]) fun b=>if b=true then bnd lines fun _=>itemsF n m (ks++[k]) else ret (ks++[k])) s
def mtch (n:Nat):M Node:=bnd (need kCASE) fun _=>bnd word fun w=>bnd lines fun _=>bnd (need kIN) fun _=>bnd lines fun _=>bnd (itemsF a n n []) fun ks=>bnd (need kESAC) fun _=>ret { kind:=9,text:=w.text,kids:=ks }
def read (n:Nat) (t:L):M Node:=
 if t=[123] then group a else if t=[40] then sub a else if t=kIF then choice a n else if t=kWHILE then loop a else if t=kUNTIL then loop a else if t=kFOR then each a else mtch a n
def compound (n:Nat):M Nat:=fun s=>
 if isComp (hd s).text=true then
  if s.d=40 then .error (21,(hd s).left)
  else bnd (read a n (hd s).text) (fun nd s2=>bnd (redF n []) (fun rs=>add { nd with redirs:=rs,left:=(hd s).left }) { s2 with d:=s2.d-1 }) { s with d:=s.d+1 }
 else .error (20,(hd s).left)
def func (n:Nat):M Nat:=fun s=>
 if s.d=40 then .error (21,(hd s).left)
 else bnd (need [40]) (fun _=>bnd (need [41]) fun _=>bnd lines fun _=>bnd (compound a n) fun k s2=>add { kind:=13,text:=(hd s).text,kids:=[k],left:=(hd s).left } { s2 with d:=s2.d-1 }) (go { s with d:=s.d+1 })
def command (n:Nat):M Nat:=fun s=>if atFunc s=true then func a n s else if atSimple s=true then simple n s else compound a n s
def pipeF (n:Nat):Nat→List Nat→M (List Nat)
 | 0,_=>fun _=>.error (0,0)
 | m+1,ks=>bnd (passed [124]) fun b=>if b=true then bnd lines fun _=>bnd (command a n) fun k=>pipeF n m (ks++[k]) else ret ks
def pipeline (n:Nat):M Nat:=fun s=>bnd (passed [33]) (fun f=>bnd (command a n) fun k=>bnd (pipeF a n n [k]) fun ks=>
 if f=false∧ks.length=1 then ret (ks.headD 0) else add { kind:=2,flag:=f,kids:=ks,left:=(hd s).left }) s
def aoF (n ln:Nat):Nat→Nat→M Nat
 | 0,_=>fun _=>.error (0,0)
 | m+1,i=>fun s=>
  if isT [38,38] s=true∨isT [124,124] s=true then bnd lines (fun _=>bnd (pipeline a n) fun j=>bnd (add { kind:=if isT [124,124] s=true then 4 else 3,kids:=[i,j],left:=ln }) fun k=>aoF n ln m k) (go s)
  else .ok (i,s)
def andOr (n:Nat):M Nat:=fun s=>bnd (pipeline a n) (fun i=>aoF a n (hd s).left n i) s
def listF (n:Nat):Nat→List Nat→M (List Nat)
 | 0,_=>fun _=>.error (0,0)
 | m+1,ks=>fun s=>if atAndOr s=true then bnd (andOr a n) (fun k=>bnd parted fun b=>if b=true then listF n m (ks++[k]) else ret (ks++[k])) s else .ok (ks,s)
def anyL (n:Nat):M Nat:=bnd lines fun _=>fun s=>bnd (listF a n n []) (fun ks=>add { kind:=5,kids:=ks,left:=(hd s).left }) s
end
def anyF:Nat→M Nat
 | 0=>fun _=>.error (0,0)
 | n+1=>anyL (anyF n) (n+1)
def script (n:Nat):M Unit:=bnd (anyF n) fun _=>fun s=>if (hd s).kind=4 then .ok ((),s) else .error (20,(hd s).left)
def parse (ts:List Tok):Except Er (List Node):=match script (ts.length+1) ⟨ts,0,[]⟩ with
 | .error e=>.error e
 | .ok (_,s)=>.ok s.ns
def tree (s:L):Except Er (List Node):=match Lx.all s with
 | .error e=>.error e
 | .ok ts=>parse ts
end Sx
end Go.Proofs.YtkkchkkpnlnbgaaGreatDoor
namespace Go.Proofs.YtkkchkkpnlnbgaaGreatDoor
namespace Sx
open Lx (Tok)
def good:List Tok→Bool
 | []=>false
 | [t]=>t.kind==4 && t.text==[]
 | t::u::r=>t.kind != 4 && (t.kind != 5 || isArrow u.text) && good (u::r)
theorem good_ne {r:List Tok} (h:good r=true):r≠[]:=by rintro rfl;cases h
theorem good_tail {t:Tok} {r:List Tok} (h:good (t::r)=true) (ht:t.text≠[]∨t.kind≠4):good r=true:=by
 cases r with
 | nil=>
  simp only[good,Bool.and_eq_true,beq_iff_eq] at h
  rcases ht with ht | ht
  ·exact absurd h.2 ht
  ·exact absurd h.1 ht
 | cons u r=>simp only[good,Bool.and_eq_true] at h;exact h.2
theorem good_io {t:Tok} {r:List Tok} (h:good (t::r)=true) (ht:t.kind=5):∃ u q,r=u::q∧isArrow u.text=true:=by
 cases r with
 | nil=>simp only[good,Bool.and_eq_true,beq_iff_eq] at h;rw[ht] at h;cases h.1
 | cons u r=>
  simp only[good,Bool.and_eq_true,Bool.or_eq_true,bne_iff_ne,ne_eq] at h
  exact⟨u,r,rfl,(h.1.2).resolve_left (fun e=>e ht)⟩
def shapeB (n:Node):Bool:=
 if n.kind=1 then n.kids.length==0 && decide (0<n.words.length+n.redirs.length) && decide (n.sets≤n.words.length)
 else if n.kind=2 then decide (1<n.kids.length) || (n.kids.length==1 && n.flag)
 else if n.kind=3∨n.kind=4∨n.kind=7 then n.kids.length==2
 else if n.kind=6 then n.kids.length==2 || n.kids.length==3
 else if n.kind=8∨n.kind=11∨n.kind=12∨n.kind=13∨n.kind=10 then n.kids.length==1
 else n.kind==9 || n.kind==5
structure Forest (b:Nat) (ms:List Node) (ks:List Nat):Prop where
 kid:∀ (i:Nat) (h:i<ms.length),∀ j∈ms[i].kids,b≤j∧j<b+i
 one:∀ j,b≤j→j<b+ms.length→(ms.flatMap Node.kids).count j+ks.count j=1
 root:∀ j∈ks,b≤j∧j<b+ms.length
 shape:∀ n∈ms,shapeB n=true
theorem Forest.nil (b:Nat):Forest b [] []:=⟨fun i h=>(by cases h),fun j h1 h2=>(by simp at h2;omega),by simp,by simp⟩
theorem Forest.in_ {b:Nat} {ms:List Node} {ks:List Nat} (h:Forest b ms ks) {j:Nat} (hj:j∈ms.flatMap Node.kids):b≤j∧j<b+ms.length:=by
 obtain⟨n,hn,hj⟩:=List.mem_flatMap.1 hj
 obtain⟨i,hi,rfl⟩:=List.getElem_of_mem hn
 have:=h.kid i hi j hj
 omega
theorem Forest.append {b:Nat} {ms ms':List Node} {ks ks':List Nat} (h:Forest b ms ks) (h':Forest (b+ms.length) ms' ks'):Forest b (ms++ms') (ks++ks'):=by
 have hout:∀ j,¬ (b≤j∧j<b+ms.length)→(ms.flatMap Node.kids).count j=0∧ks.count j=0:=fun j hj=>⟨List.count_eq_zero.2 fun e=>hj (h.in_ e),List.count_eq_zero.2 fun e=>hj (h.root j e)⟩
 have hout':∀ j,¬ (b+ms.length≤j∧j<b+ms.length+ms'.length)→(ms'.flatMap Node.kids).count j=0∧ks'.count j=0:=fun j hj=>⟨List.count_eq_zero.2 fun e=>hj (h'.in_ e),List.count_eq_zero.2 fun e=>hj (h'.root j e)⟩
 refine⟨fun i hi j hj=>?_,fun j h1 h2=>?_,fun j hj=>?_,fun n hn=>?_⟩
 ·by_cases hlt:i<ms.length
  ·rw[List.getElem_append_left hlt] at hj
   exact h.kid i hlt j hj
  ·rw[List.getElem_append_right (by omega)] at hj
   have:=h'.kid (i-ms.length) (by simp at hi;omega) j hj
   omega
 ·rw[List.flatMap_append,List.count_append,List.count_append]
  rw[List.length_append] at h2
  by_cases hlt:j<b+ms.length
  ·have e1:=h.one j h1 hlt
   have e2:=hout' j (by omega)
   omega
  ·have e1:=h'.one j (by omega) (by omega)
   have e2:=hout j (by omega)
   omega
 ·rw[List.length_append]
  rcases List.mem_append.1 hj with hj | hj
  ·have:=h.root j hj;omega
  ·have:=h'.root j hj;omega
 ·rcases List.mem_append.1 hn with hn | hn
  ·exact h.shape n hn
  ·exact h'.shape n hn
theorem Forest.node {b:Nat} {ms:List Node} {n:Node} (h:Forest b ms n.kids) (hs:shapeB n=true):Forest b (ms++[n]) [b+ms.length]:=by
 refine⟨fun i hi j hj=>?_,fun j h1 h2=>?_,fun j hj=>?_,fun m hm=>?_⟩
 ·by_cases hlt:i<ms.length
  ·rw[List.getElem_append_left hlt] at hj
   exact h.kid i hlt j hj
  ·have hie:i=ms.length:=by simp at hi;omega
   subst hie
   simp at hj
   exact h.root j hj
 ·rw[List.flatMap_append,List.count_append]
  simp only[List.length_append,List.length_cons,List.length_nil] at h2
  simp only[List.flatMap_cons,List.flatMap_nil,List.append_nil]
  by_cases hlt:j<b+ms.length
  ·have e1:=h.one j h1 hlt
   have e2:[b+ms.length].count j=0:=List.count_eq_zero.2 (by simp;omega)
   omega
  ·have hje:j=b+ms.length:=by omega
   have e1:(ms.flatMap Node.kids).count j=0:=List.count_eq_zero.2 fun e=>by have:=h.in_ e;omega
   have e2:n.kids.count j=0:=List.count_eq_zero.2 fun e=>by have:=h.root j e;omega
   rw[e1,e2,hje]
   simp
 ·simp at hj⊢;omega
 ·rcases List.mem_append.1 hm with hm | hm
  ·exact h.shape m hm
  ·simp at hm;subst hm;exact hs
structure Wk (k:Nat) (s s':St) (ks:List Nat):Prop where
 suf:s'.r <:+ s.r
 gd:good s'.r=true
 d:s'.d=s.d
 pot:s'.ns.length+8*s'.r.length+k≤s.ns.length+8*s.r.length+1
 fo:∃ ms,s'.ns=s.ns++ms∧Forest s.ns.length ms ks
theorem Wk.trans {k1 k2 k:Nat} {s s1 s2:St} {ks ks':List Nat} (h:Wk k1 s s1 ks) (h':Wk k2 s1 s2 ks') (hk:k+1≤k1+k2):Wk k s s2 (ks++ks'):=by
 obtain⟨ms,e1,f1⟩:=h.fo
 obtain⟨ms',e2,f2⟩:=h'.fo
 refine⟨h'.suf.trans h.suf,h'.gd,h'.d.trans h.d,by have:=h.pot;have:=h'.pot;omega,ms++ms',by rw[e2,e1,List.append_assoc],?_⟩
 rw[e1,List.length_append] at f2
 exact f1.append f2
theorem Wk.weak {k k':Nat} {s s':St} {ks:List Nat} (h:Wk k s s' ks) (hk:k'≤k):Wk k' s s' ks:=⟨h.suf,h.gd,h.d,by have:=h.pot;omega,h.fo⟩
theorem Wk.refl {s:St} (h:good s.r=true):Wk 1 s s []:=⟨List.suffix_refl _,h,rfl,by omega,[],by simp,Forest.nil _⟩
theorem Wk.len {k:Nat} {s s':St} {ks:List Nat} (h:Wk k s s' ks) (hk:2≤k):s'.r.length<s.r.length:=by
 obtain⟨ms,e,_⟩:=h.fo
 have h1:=h.pot
 rw[e,List.length_append] at h1
 omega
theorem Wk.le {k:Nat} {s s':St} {ks:List Nat} (h:Wk k s s' ks):s'.r.length≤s.r.length:=h.suf.length_le
theorem hd_cons {s:St} {t:Tok} {r:List Tok} (h:s.r=t::r):hd s=t:=by unfold hd;rw[h];rfl
theorem Wk.go {s:St} (h:good s.r=true) (ht:(hd s).text≠[]∨(hd s).kind≠4):Wk 9 s (Sx.go s) []:=by
 obtain⟨t,r,hr⟩:∃ t r,s.r=t::r:=by cases e:s.r with
  | nil=>rw[e] at h;cases h
  | cons t r=>exact⟨t,r,rfl⟩
 rw[hd_cons hr] at ht
 rw[hr] at h
 have hg:(Sx.go s).r=r:=by unfold Sx.go;rw[hr];rfl
 exact⟨by rw[hg,hr];exact List.suffix_cons _ _,by rw[hg];exact good_tail h ht,rfl,by rw[hg,hr];simp only[List.length_cons,show (Sx.go s).ns=s.ns from rfl];omega,[],by simp[Sx.go],Forest.nil _⟩
theorem dropL_suf (r:List Tok):dropL r <:+ r:=by
 induction r with
 | nil=>exact List.suffix_refl _
 | cons t r ih=>unfold dropL;split;exact ih.trans (List.suffix_cons _ _);exact List.suffix_refl _
theorem good_dropL {r:List Tok} (h:good r=true):good (dropL r)=true:=by
 induction r with
 | nil=>cases h
 | cons t r ih=>
  unfold dropL
  split
  ·rename_i e;exact ih (good_tail h (.inr (by rw[e];decide)))
  ·exact h
theorem Wk.dl {s:St} (h:good s.r=true):Wk 1 s (Sx.dl s) []:=
 ⟨dropL_suf _,good_dropL h,rfl,by have:=(dropL_suf s.r).length_le;simp only[Sx.dl];omega,[],by simp[Sx.dl],Forest.nil _⟩
theorem Wk.add {k k':Nat} {s s1 s2:St} {n:Node} {i:Nat} (h:Wk k s s1 n.kids) (hs:shapeB n=true) (ha:Sx.add n s1=.ok (i,s2)) (hk:k'+1≤k):Wk k' s s2 [i]:=by
 obtain⟨ms,e1,f1⟩:=h.fo
 unfold Sx.add at ha
 cases ha
 refine⟨h.suf,h.gd,h.d,by have:=h.pot;simp only[List.length_append,List.length_cons,List.length_nil];omega,ms++[n],by simp only[e1,List.append_assoc],?_⟩
 rw[e1,List.length_append]
 exact f1.node hs
theorem isT_text {t:L} {s:St} (h:isT t s=true) (ht:t≠[]):(hd s).text≠[]:=by
 unfold isT at h
 rw[eq_of_beq h]
 exact ht
theorem passed_un {t:L} {s s':St} {b:Bool} (ht:t≠[]) (hg:good s.r=true) (h:passed t s=.ok (b,s')):(b=true∧s'=go s∧isT t s=true∧Wk 9 s s' [])∨(b=false∧s'=s∧isT t s=false∧Wk 1 s s' []):=by
 unfold passed at h
 by_cases e:isT t s=true
 ·rw[if_pos e] at h
  cases h
  exact .inl ⟨rfl,rfl,e,Wk.go hg (.inl (isT_text e ht))⟩
 ·rw[if_neg e] at h
  cases h
  exact .inr ⟨rfl,rfl,by simpa using e,Wk.refl hg⟩
theorem passed_wk {t:L} {s s':St} {b:Bool} (ht:t≠[]) (hg:good s.r=true) (h:passed t s=.ok (b,s')):Wk 1 s s' []:=by
 rcases passed_un ht hg h with⟨_,_,_,h⟩ | ⟨_,_,_,h⟩
 ·exact h.weak (by omega)
 ·exact h
theorem need_un {t:L} {s s':St} {u:Unit} (ht:t≠[]) (hg:good s.r=true) (h:need t s=.ok (u,s')):s'=go s∧isT t s=true∧Wk 9 s s' []:=by
 unfold need at h
 by_cases e:isT t s=true
 ·rw[if_pos e] at h
  cases h
  exact⟨rfl,e,Wk.go hg (.inl (isT_text e ht))⟩
 ·rw[if_neg e] at h
  cases h
theorem lines_un {s s':St} {u:Unit} (hg:good s.r=true) (h:lines s=.ok (u,s')):s'=dl s∧Wk 1 s s' []:=by
 unfold lines at h
 cases h
 exact⟨rfl,Wk.dl hg⟩
theorem word_un {s s':St} {t:Tok} (hg:good s.r=true) (h:word s=.ok (t,s')):s'=go s∧t=hd s∧(hd s).kind=1∧Wk 9 s s' []:=by
 unfold word at h
 by_cases e:(hd s).kind=1
 ·rw[if_pos e] at h
  cases h
  exact⟨rfl,rfl,e,Wk.go hg (.inr (by rw[e];decide))⟩
 ·rw[if_neg e] at h
  cases h
theorem nameB_nil:nameB []=false:=by decide
theorem name_un {s s':St} {t:L} (hg:good s.r=true) (h:name s=.ok (t,s')):s'=go s∧nameB (hd s).text=true∧Wk 9 s s' []:=by
 unfold name at h
 by_cases e:nameB (hd s).text=true
 ·rw[if_pos e] at h
  cases h
  exact⟨rfl,e,Wk.go hg (.inl (fun e1=>by rw[e1,nameB_nil] at e;cases e))⟩
 ·rw[if_neg e] at h
  cases h
theorem parted_un {s s':St} {b:Bool} (hg:good s.r=true) (h:parted s=.ok (b,s')):Wk 1 s s' []∧(b=true→Wk 9 s s' []):=by
 unfold parted at h
 by_cases e:isT [59] s=true∨(hd s).kind=3
 ·rw[if_pos e] at h
  cases h
  have hw:Wk 9 s (go s) []:=Wk.go hg (by
   rcases e with e | e
   ·exact .inl (isT_text e (by decide))
   ·exact .inr (by rw[e];decide))
  have:=hw.trans (Wk.dl hw.gd) (k:=9) (by omega)
  exact⟨this.weak (by omega),fun _=>this⟩
 ·rw[if_neg e] at h
  cases h
  exact⟨Wk.refl hg,nofun⟩
theorem wordsL_suf (r:List Tok):(wordsL r).2 <:+ r:=by
 induction r with
 | nil=>exact List.suffix_refl _
 | cons t r ih=>unfold wordsL;split;exact ih.trans (List.suffix_cons _ _);exact List.suffix_refl _
theorem good_wordsL {r:List Tok} (h:good r=true):good (wordsL r).2=true:=by
 induction r with
 | nil=>cases h
 | cons t r ih=>
  unfold wordsL
  split
  ·rename_i e;exact ih (good_tail h (.inr (by rw[e];decide)))
  ·exact h
theorem words_un {s s':St} {l:List L} (hg:good s.r=true) (h:words s=.ok (l,s')):Wk 1 s s' []:=by
 unfold words at h
 cases h
 exact⟨wordsL_suf _,good_wordsL hg,rfl,by have:=(wordsL_suf s.r).length_le;simp only;omega,[],by simp,Forest.nil _⟩
theorem isArrow_ne {t:L} (h:isArrow t=true):t≠[]:=by rintro rfl;cases h
theorem isComp_ne {t:L} (h:isComp t=true):t≠[]:=by rintro rfl;cases h
theorem atRedir_go {s:St} (hg:good s.r=true) (h:atRedir s=true):Wk 9 s (go s) []∧((hd s).kind=5→Wk 17 s (go (go s)) []):=by
 unfold atRedir at h
 simp only[Bool.or_eq_true,beq_iff_eq] at h
 have h1:Wk 9 s (go s) []:=Wk.go hg (by
  rcases h with h | h
  ·exact .inr (by rw[h];decide)
  ·exact .inl (isArrow_ne h))
 refine⟨h1,fun hk=>?_⟩
 obtain⟨t,r,hr⟩:∃ t r,s.r=t::r:=by cases e:s.r with
  | nil=>rw[e] at hg;cases hg
  | cons t r=>exact⟨t,r,rfl⟩
 rw[hr] at hg
 rw[hd_cons hr] at hk
 obtain⟨u,q,rfl,hu⟩:=good_io hg hk
 have hgo:(go s).r=u::q:=by unfold go;rw[hr];rfl
 exact h1.trans (Wk.go h1.gd (.inl (by rw[hd_cons hgo];exact isArrow_ne hu))) (by omega)
theorem redir_un {s s':St} {x:Arw} (hg:good s.r=true) (hr:atRedir s=true) (h:redir s=.ok (x,s')):Wk 9 s s' []:=by
 obtain⟨h1,h2⟩:=atRedir_go hg hr
 unfold redir at h
 by_cases e:(hd s).kind=5
 ·rw[if_pos e] at h
  obtain⟨w,s1,hw,h⟩:=bnd_inv h
  cases h
  obtain⟨_,_,_,h3⟩:=word_un (h2 e).gd hw
  exact(h2 e).trans h3 (by omega)
 ·rw[if_neg e] at h
  obtain⟨w,s1,hw,h⟩:=bnd_inv h
  cases h
  obtain⟨_,_,_,h3⟩:=word_un h1.gd hw
  exact h1.trans h3 (by omega)
theorem simF_un (m:Nat) {ws ws':List L} {rs rs':List Arw} {s s':St} (hg:good s.r=true) (h:simF m ws rs s=.ok ((ws',rs'),s')):Wk 1 s s' []∧ws.length≤ws'.length∧rs.length≤rs'.length:=by
 induction m generalizing ws rs s with
 | zero=>cases h
 | succ m ih=>
  unfold simF at h
  by_cases e:(hd s).kind=1
  ·rw[if_pos e] at h
   have h1:Wk 9 s (go s) []:=Wk.go hg (.inr (by rw[e];decide))
   obtain⟨h2,h3,h4⟩:=ih h1.gd h
   simp only[List.length_append,List.length_cons,List.length_nil] at h3
   exact⟨h1.trans h2 (by omega),by omega,h4⟩
  ·rw[if_neg e] at h
   by_cases e2:atRedir s=true
   ·rw[if_pos e2] at h
    obtain⟨x,s1,hx,h⟩:=bnd_inv h
    have h1:=redir_un hg e2 hx
    obtain⟨h2,h3,h4⟩:=ih h1.gd h
    simp only[List.length_append,List.length_cons,List.length_nil] at h4
    exact⟨h1.trans h2 (by omega),h3,by omega⟩
   ·rw[if_neg e2] at h
    cases h
    exact⟨Wk.refl hg,Nat.le_refl _,Nat.le_refl _⟩
theorem sets_le (l:List L):sets l≤l.length:=by
 induction l with
 | nil=>simp[sets]
 | cons w l ih=>unfold sets;split <;> simp only[List.length_cons] <;> omega
theorem simple_un (n:Nat) {s s':St} {i:Nat} (hg:good s.r=true) (hs:atSimple s=true) (h:simple n s=.ok (i,s')):Wk 8 s s' [i]:=by
 unfold simple at h
 obtain⟨⟨ws,rs⟩,s1,hx,h⟩:=bnd_inv h
 have key:Wk 9 s s1 []∧0<ws.length+rs.length:=by
  cases n with
  | zero=>cases hx
  | succ m=>
   unfold simF at hx
   by_cases e:(hd s).kind=1
   ·rw[if_pos e] at hx
    have h1:Wk 9 s (go s) []:=Wk.go hg (.inr (by rw[e];decide))
    obtain⟨h2,h3,h4⟩:=simF_un m h1.gd hx
    simp only[List.length_append,List.length_cons,List.length_nil] at h3
    exact⟨h1.trans h2 (by omega),by omega⟩
   ·rw[if_neg e] at hx
    have e2:atRedir s=true:=by
     unfold atSimple at hs
     simp only[Bool.or_eq_true,Bool.and_eq_true,beq_iff_eq] at hs
     exact hs.resolve_left fun e3=>e e3.1
    rw[if_pos e2] at hx
    obtain⟨x,s2,hx2,hx⟩:=bnd_inv hx
    have h1:=redir_un hg e2 hx2
    obtain⟨h2,h3,h4⟩:=simF_un m h1.gd hx
    simp only[List.length_append,List.length_cons,List.length_nil] at h4
    exact⟨h1.trans h2 (by omega),by omega⟩
 refine Wk.add key.1 ?_ h (by omega)
 simp only[shapeB,if_true,List.length_nil,BEq.rfl,Bool.true_and,Bool.and_eq_true,decide_eq_true_eq]
 exact⟨key.2,sets_le _⟩
theorem redF_un (m:Nat) {rs rs':List Arw} {s s':St} (hg:good s.r=true) (h:redF m rs s=.ok (rs',s')):Wk 1 s s' []:=by
 induction m generalizing rs s with
 | zero=>cases h
 | succ m ih=>
  unfold redF at h
  by_cases e2:atRedir s=true
  ·rw[if_pos e2] at h
   obtain⟨x,s1,hx,h⟩:=bnd_inv h
   have h1:=redir_un hg e2 hx
   exact h1.trans (ih h1.gd h) (by omega)
  ·rw[if_neg e2] at h
   cases h
   exact Wk.refl hg
theorem altF_un (m:Nat) {ws ws':List L} {s s':St} (hg:good s.r=true) (h:altF m ws s=.ok (ws',s')):Wk 1 s s' []:=by
 induction m generalizing ws s with
 | zero=>cases h
 | succ m ih=>
  unfold altF at h
  obtain⟨b,s1,hb,h⟩:=bnd_inv h
  have h1:=passed_wk (by decide) hg hb
  cases b with
  | true=>
   rw[if_pos rfl] at h
   obtain⟨w,s2,hw,h⟩:=bnd_inv h
   obtain⟨_,_,_,h2⟩:=word_un h1.gd hw
   exact(h1.trans h2 (k:=9) (by omega)).trans (ih h2.gd h) (by omega)
  | false=>
   rw[if_neg (by decide)] at h
   cases h
   exact h1
def UnA (a:M Nat):Prop:=∀ s i s',good s.r=true→a s=.ok (i,s')→Wk 0 s s' [i]
section
variable {a:M Nat} (ha:UnA a)
include ha
theorem lst_un {s s':St} {i:Nat} (hg:good s.r=true) (h:lst a s=.ok (i,s')):Wk 0 s s' [i]:=by
 unfold lst at h
 obtain⟨_,s1,h1,h⟩:=bnd_inv h
 obtain⟨_,w1⟩:=lines_un hg h1
 by_cases e:atAndOr s1=true
 ·simp only[if_pos e] at h
  exact w1.trans (ha _ _ _ w1.gd h) (by omega)
 ·simp only[if_neg e] at h
  cases h
def NodeUn (k:Nat) (s s':St) (nd:Node):Prop:=Wk k s s' nd.kids∧∀ rs l,shapeB { nd with redirs:=rs,left:=l }=true
omit ha in
theorem NodeUn.mk2 {k:Nat} {s s':St} {nd:Node} (h:Wk k s s' nd.kids) (hk:nd.kind≠1) (hs:shapeB nd=true):NodeUn k s s' nd:=by
 refine⟨h,fun rs l=>?_⟩
 unfold shapeB at hs⊢
 simp only[if_neg hk] at hs⊢
 exact hs
theorem group_un {s s':St} {nd:Node} (hg:good s.r=true) (h:group a s=.ok (nd,s')):NodeUn 10 s s' nd:=by
 unfold group at h
 obtain⟨_,s1,h1,h⟩:=bnd_inv h
 obtain⟨_,_,w1⟩:=need_un (by decide) hg h1
 obtain⟨i,s2,h2,h⟩:=bnd_inv h
 have w2:=lst_un ha w1.gd h2
 obtain⟨_,s3,h3,h⟩:=bnd_inv h
 obtain⟨_,_,w3⟩:=need_un (by decide) w2.gd h3
 cases h
 exact NodeUn.mk2 (((w1.trans w2 (k:=8) (by omega)).trans w3 (k:=10) (by omega))) (by simp) (by simp[shapeB])
theorem sub_un {s s':St} {nd:Node} (hg:good s.r=true) (h:sub a s=.ok (nd,s')):NodeUn 10 s s' nd:=by
 unfold sub at h
 obtain⟨_,s1,h1,h⟩:=bnd_inv h
 obtain⟨_,_,w1⟩:=need_un (by decide) hg h1
 obtain⟨i,s2,h2,h⟩:=bnd_inv h
 have w2:=lst_un ha w1.gd h2
 obtain⟨_,s3,h3,h⟩:=bnd_inv h
 obtain⟨_,_,w3⟩:=need_un (by decide) w2.gd h3
 cases h
 exact NodeUn.mk2 (((w1.trans w2 (k:=8) (by omega)).trans w3 (k:=10) (by omega))) (by simp) (by simp[shapeB])
theorem branchF_un (m:Nat) {s s':St} {nd:Node} (hg:good s.r=true) (ht:(hd s).text≠[]) (h:branchF a m s=.ok (nd,s')):NodeUn 10 s s' nd:=by
 induction m generalizing s s' nd with
 | zero=>cases h
 | succ m ih=>
  unfold branchF at h
  have w0:=Wk.go hg (.inl ht)
  obtain⟨i,s1,h1,h⟩:=bnd_inv h
  have w1:=w0.trans (lst_un ha w0.gd h1) (k:=8) (by omega)
  obtain⟨_,s2,h2,h⟩:=bnd_inv h
  obtain⟨_,_,w2⟩:=need_un (by decide) w1.gd h2
  have w2:=w1.trans w2 (k:=16) (by omega)
  obtain⟨j,s3,h3,h⟩:=bnd_inv h
  have w3:=w2.trans (lst_un ha w2.gd h3) (k:=15) (by omega)
  by_cases e:isT kELIF s3=true
  ·simp only[if_pos e] at h
   obtain⟨nd2,s4,h4,h⟩:=bnd_inv h
   have u4:=ih w3.gd (isT_text e (by decide)) h4
   obtain⟨k,s5,h5,h⟩:=bnd_inv h
   have w5:Wk 9 s3 s5 [k]:=Wk.add u4.1 (u4.2 nd2.redirs nd2.left) h5 (by omega)
   cases h
   exact NodeUn.mk2 (w3.trans w5 (by omega)) (by simp) (by simp[shapeB])
  ·simp only[if_neg e] at h
   obtain⟨b,s4,h4,h⟩:=bnd_inv h
   have w4:=w3.trans (passed_wk (by decide) w3.gd h4) (k:=15) (by omega)
   cases b with
   | true=>
    simp only[if_true] at h
    obtain⟨k,s5,h5,h⟩:=bnd_inv h
    have w5:=w4.trans (lst_un ha w4.gd h5) (k:=14) (by omega)
    cases h
    exact NodeUn.mk2 (w5.weak (by omega)) (by simp) (by simp[shapeB])
   | false=>
    simp only[Bool.false_eq_true,if_false] at h
    cases h
    exact NodeUn.mk2 (w4.weak (by omega)) (by simp) (by simp[shapeB])
theorem choice_un (n:Nat) {s s':St} {nd:Node} (hg:good s.r=true) (ht:(hd s).text≠[]) (h:choice a n s=.ok (nd,s')):NodeUn 10 s s' nd:=by
 unfold choice at h
 obtain⟨nd1,s1,h1,h⟩:=bnd_inv h
 have u1:=branchF_un ha n hg ht h1
 obtain⟨_,s2,h2,h⟩:=bnd_inv h
 obtain⟨_,_,w2⟩:=need_un (by decide) u1.1.gd h2
 cases h
 exact⟨by simpa using u1.1.trans w2 (k:=10) (by omega),u1.2⟩
theorem body_un {s s':St} {i:Nat} (hg:good s.r=true) (h:body a s=.ok (i,s')):Wk 10 s s' [i]:=by
 unfold body at h
 obtain⟨_,s1,h1,h⟩:=bnd_inv h
 obtain⟨_,_,w1⟩:=need_un (by decide) hg h1
 obtain⟨i,s2,h2,h⟩:=bnd_inv h
 have w2:=lst_un ha w1.gd h2
 obtain⟨_,s3,h3,h⟩:=bnd_inv h
 obtain⟨_,_,w3⟩:=need_un (by decide) w2.gd h3
 cases h
 exact(w1.trans w2 (k:=8) (by omega)).trans w3 (k:=10) (by omega)
theorem loop_un {s s':St} {nd:Node} (hg:good s.r=true) (ht:(hd s).text≠[]) (h:loop a s=.ok (nd,s')):NodeUn 10 s s' nd:=by
 unfold loop at h
 have w0:=Wk.go hg (.inl ht)
 obtain⟨i,s1,h1,h⟩:=bnd_inv h
 have w1:=w0.trans (lst_un ha w0.gd h1) (k:=8) (by omega)
 obtain⟨j,s2,h2,h⟩:=bnd_inv h
 have w2:=w1.trans (body_un ha w1.gd h2) (k:=10) (by omega)
 cases h
 exact NodeUn.mk2 w2 (by simp) (by simp[shapeB])
theorem each2_un {t:L} {f:Bool} {ws:List L} {s s':St} {nd:Node} (hg:good s.r=true) (h:each2 a t f ws s=.ok (nd,s')):NodeUn 10 s s' nd:=by
 unfold each2 at h
 obtain⟨_,s1,h1,h⟩:=bnd_inv h
 obtain⟨_,w1⟩:=lines_un hg h1
 obtain⟨i,s2,h2,h⟩:=bnd_inv h
 have w2:=w1.trans (body_un ha w1.gd h2) (k:=10) (by omega)
 cases h
 exact NodeUn.mk2 w2 (by simp) (by simp[shapeB])
omit ha in
theorem NodeUn.after {k:Nat} {s s1 s':St} {nd:Node} (h:NodeUn 10 s1 s' nd) (w:Wk k s s1 []) (hk:1≤k):NodeUn 10 s s' nd:=⟨by simpa using w.trans h.1 (k:=10) (by omega),h.2⟩
theorem each_un {s s':St} {nd:Node} (hg:good s.r=true) (h:each a s=.ok (nd,s')):NodeUn 10 s s' nd:=by
 unfold each at h
 obtain⟨_,s1,h1,h⟩:=bnd_inv h
 obtain⟨_,_,w1⟩:=need_un (by decide) hg h1
 obtain⟨t,s2,h2,h⟩:=bnd_inv h
 obtain⟨_,_,w2⟩:=name_un w1.gd h2
 have w2:=w1.trans w2 (k:=9) (by omega)
 obtain⟨b,s3,h3,h⟩:=bnd_inv h
 have w3:=w2.trans (passed_wk (by decide) w2.gd h3) (k:=9) (by omega)
 cases b with
 | true=>
  rw[if_pos rfl] at h
  exact NodeUn.after (each2_un ha w3.gd h) w3 (by omega)
 | false=>
  rw[if_neg (by decide)] at h
  obtain⟨_,s4,h4,h⟩:=bnd_inv h
  have w4:=w3.trans (lines_un w3.gd h4).2 (k:=9) (by omega)
  obtain⟨c,s5,h5,h⟩:=bnd_inv h
  have w5:=w4.trans (passed_wk (by decide) w4.gd h5) (k:=9) (by omega)
  cases c with
  | true=>
   rw[if_pos rfl] at h
   obtain⟨ws,s6,h6,h⟩:=bnd_inv h
   have w6:=w5.trans (words_un w5.gd h6) (k:=9) (by omega)
   obtain⟨p,s7,h7,h⟩:=bnd_inv h
   have w7:=w6.trans (parted_un w6.gd h7).1 (k:=9) (by omega)
   cases p with
   | true=>rw[if_pos rfl] at h;exact NodeUn.after (each2_un ha w7.gd h) w7 (by omega)
   | false=>rw[if_neg (by decide)] at h;cases h
  | false=>
   rw[if_neg (by decide)] at h
   exact NodeUn.after (each2_un ha w5.gd h) w5 (by omega)
theorem item_un (n:Nat) {s s':St} {i:Nat} (hg:good s.r=true) (h:item a n s=.ok (i,s')):Wk 9 s s' [i]:=by
 unfold item at h
 obtain⟨_,s1,h1,h⟩:=bnd_inv h
 have w1:=passed_wk (by decide) hg h1
 obtain⟨w,s2,h2,h⟩:=bnd_inv h
 obtain⟨_,_,_,w2⟩:=word_un w1.gd h2
 have w2:=w1.trans w2 (k:=9) (by omega)
 obtain⟨ws,s3,h3,h⟩:=bnd_inv h
 have w3:=w2.trans (altF_un n w2.gd h3) (k:=9) (by omega)
 obtain⟨_,s4,h4,h⟩:=bnd_inv h
 obtain⟨_,_,w4⟩:=need_un (by decide) w3.gd h4
 have w4:=w3.trans w4 (k:=17) (by omega)
 obtain⟨k,s5,h5,h⟩:=bnd_inv h
 have w5:=w4.trans (ha _ _ _ w4.gd h5) (k:=16) (by omega)
 exact Wk.add (n:={ kind:=10,words:=ws,kids:=[k],left:=(hd s).left }) w5 (by simp[shapeB]) h (by omega)
theorem itemsF_un (n m:Nat) {ks ks':List Nat} {s s':St} (hg:good s.r=true) (h:itemsF a n m ks s=.ok (ks',s')):∃ l,ks'=ks++l∧Wk 1 s s' l:=by
 induction m generalizing ks s with
 | zero=>cases h
 | succ m ih=>
  unfold itemsF at h
  by_cases e:isT kESAC s=true
  ·rw[if_pos e] at h
   cases h
   exact⟨[],by simp,Wk.refl hg⟩
  ·rw[if_neg e] at h
   obtain⟨k,s1,h1,h⟩:=bnd_inv h
   have w1:=item_un ha n hg h1
   obtain⟨b,s2,h2,h⟩:=bnd_inv h
   have w2:=w1.trans (passed_wk (by decide) w1.gd h2) (k:=9) (by omega)
   cases b with
   | true=>
    rw[if_pos rfl] at h
    obtain⟨_,s3,h3,h⟩:=bnd_inv h
    have w3:=w2.trans (lines_un w2.gd h3).2 (k:=9) (by omega)
    obtain⟨l,e1,w4⟩:=ih w3.gd h
    exact⟨k::l,by rw[e1];simp,w3.trans w4 (by omega)⟩
   | false=>
    rw[if_neg (by decide)] at h
    cases h
    exact⟨[k],rfl,w2.weak (by omega)⟩
theorem mtch_un (n:Nat) {s s':St} {nd:Node} (hg:good s.r=true) (h:mtch a n s=.ok (nd,s')):NodeUn 10 s s' nd:=by
 unfold mtch at h
 obtain⟨_,s1,h1,h⟩:=bnd_inv h
 obtain⟨_,_,w1⟩:=need_un (by decide) hg h1
 obtain⟨w,s2,h2,h⟩:=bnd_inv h
 obtain⟨_,_,_,w2⟩:=word_un w1.gd h2
 have w2:=w1.trans w2 (k:=10) (by omega)
 obtain⟨_,s3,h3,h⟩:=bnd_inv h
 have w3:=w2.trans (lines_un w2.gd h3).2 (k:=10) (by omega)
 obtain⟨_,s4,h4,h⟩:=bnd_inv h
 obtain⟨_,_,w4⟩:=need_un (by decide) w3.gd h4
 have w4:=w3.trans w4 (k:=10) (by omega)
 obtain⟨_,s5,h5,h⟩:=bnd_inv h
 have w5:=w4.trans (lines_un w4.gd h5).2 (k:=10) (by omega)
 obtain⟨ks,s6,h6,h⟩:=bnd_inv h
 obtain⟨l,e1,w6⟩:=itemsF_un ha n n w5.gd h6
 have w6:=w5.trans w6 (k:=10) (by omega)
 obtain⟨_,s7,h7,h⟩:=bnd_inv h
 obtain⟨_,_,w7⟩:=need_un (by decide) w6.gd h7
 have w7:=w6.trans w7 (k:=10) (by omega)
 cases h
 rw[List.nil_append] at e1
 refine NodeUn.mk2 ?_ (by simp) (by simp[shapeB])
 rw[e1]
 simpa using w7
theorem read_un (n:Nat) {s s':St} {nd:Node} (hg:good s.r=true) (ht:(hd s).text≠[]) (h:read a n (hd s).text s=.ok (nd,s')):NodeUn 10 s s' nd:=by
 unfold read at h
 split at h
 ·exact group_un ha hg h
 split at h
 ·exact sub_un ha hg h
 split at h
 ·exact choice_un ha n hg ht h
 split at h
 ·exact loop_un ha hg ht h
 split at h
 ·exact loop_un ha hg ht h
 split at h
 ·exact each_un ha hg h
 ·exact mtch_un ha n hg h
omit ha in
theorem Wk.deep {k:Nat} {s s2:St} {ks:List Nat} {x:Nat} (h:Wk k { s with d:=x } s2 ks) (y:Nat) (hy:y=s.d):Wk k s { s2 with d:=y } ks:=⟨h.suf,h.gd,hy,h.pot,h.fo⟩
theorem compound_un (n:Nat) {s s':St} {i:Nat} (hg:good s.r=true) (h:compound a n s=.ok (i,s')):Wk 9 s s' [i]:=by
 unfold compound at h
 by_cases e:isComp (hd s).text=true
 ·rw[if_pos e] at h
  by_cases e2:s.d=40
  ·rw[if_pos e2] at h;cases h
  ·rw[if_neg e2] at h
   obtain⟨nd,s2,h1,h⟩:=bnd_inv h
   obtain⟨w1,hs⟩:=read_un ha n (s:={ s with d:=s.d+1 }) hg (isComp_ne e) h1
   have hd2:=w1.d
   have w1':=w1.deep (s2.d-1) (by simp only at hd2;omega)
   obtain⟨rs,s3,h3,h⟩:=bnd_inv h
   have w3:=w1'.trans (redF_un n w1'.gd h3) (k:=10) (by omega)
   rw[List.append_nil] at w3
   exact Wk.add (n:={ nd with redirs:=rs,left:=(hd s).left }) w3 (hs _ _) h (by omega)
 ·rw[if_neg e] at h;cases h
theorem func_un (n:Nat) {s s':St} {i:Nat} (hg:good s.r=true) (ht:(hd s).text≠[]) (h:func a n s=.ok (i,s')):Wk 9 s s' [i]:=by
 unfold func at h
 by_cases e2:s.d=40
 ·rw[if_pos e2] at h;cases h
 ·rw[if_neg e2] at h
  have w0:Wk 9 { s with d:=s.d+1 } (go { s with d:=s.d+1 }) []:=Wk.go (s:={ s with d:=s.d+1 }) hg (.inl ht)
  obtain⟨_,s1,h1,h⟩:=bnd_inv h
  obtain⟨_,_,w1⟩:=need_un (by decide) w0.gd h1
  have w1:=w0.trans w1 (k:=10) (by omega)
  obtain⟨_,s2,h2,h⟩:=bnd_inv h
  obtain⟨_,_,w2⟩:=need_un (by decide) w1.gd h2
  have w2:=w1.trans w2 (k:=10) (by omega)
  obtain⟨_,s3,h3,h⟩:=bnd_inv h
  have w3:=w2.trans (lines_un w2.gd h3).2 (k:=10) (by omega)
  obtain⟨k,s4,h4,h⟩:=bnd_inv h
  have w4:=w3.trans (compound_un ha n w3.gd h4) (k:=10) (by omega)
  have hd2:=w4.d
  have w4':=w4.deep (s4.d-1) (by simp only at hd2;omega)
  exact Wk.add (n:={ kind:=13,text:=(hd s).text,kids:=[k],left:=(hd s).left }) w4' (by simp[shapeB]) h (by omega)
theorem command_un (n:Nat) {s s':St} {i:Nat} (hg:good s.r=true) (h:command a n s=.ok (i,s')):Wk 8 s s' [i]:=by
 unfold command at h
 by_cases e:atFunc s=true
 ·rw[if_pos e] at h
  refine(func_un ha n hg ?_ h).weak (by omega)
  intro e1
  unfold atFunc at e
  rw[e1,nameB_nil] at e
  cases e
 ·rw[if_neg e] at h
  by_cases e2:atSimple s=true
  ·rw[if_pos e2] at h
   exact simple_un n hg e2 h
  ·rw[if_neg e2] at h
   exact(compound_un ha n hg h).weak (by omega)
theorem pipeF_un (n m:Nat) {ks ks':List Nat} {s s':St} (hg:good s.r=true) (h:pipeF a n m ks s=.ok (ks',s')):∃ l,ks'=ks++l∧Wk 1 s s' l:=by
 induction m generalizing ks s with
 | zero=>cases h
 | succ m ih=>
  unfold pipeF at h
  obtain⟨b,s1,h1,h⟩:=bnd_inv h
  have w1:=passed_wk (by decide) hg h1
  cases b with
  | true=>
   rw[if_pos rfl] at h
   obtain⟨_,s2,h2,h⟩:=bnd_inv h
   have w2:=w1.trans (lines_un w1.gd h2).2 (k:=1) (by omega)
   obtain⟨k,s3,h3,h⟩:=bnd_inv h
   have w3:=w2.trans (command_un ha n w2.gd h3) (k:=8) (by omega)
   obtain⟨l,e1,w4⟩:=ih w3.gd h
   exact⟨k::l,by rw[e1];simp,w3.trans w4 (by omega)⟩
  | false=>
   rw[if_neg (by decide)] at h
   cases h
   exact⟨[],by simp,w1⟩
theorem pipeline_un (n:Nat) {s s':St} {i:Nat} (hg:good s.r=true) (h:pipeline a n s=.ok (i,s')):Wk 7 s s' [i]:=by
 unfold pipeline at h
 obtain⟨f,s1,h1,h⟩:=bnd_inv h
 have w1:=passed_wk (by decide) hg h1
 obtain⟨k,s2,h2,h⟩:=bnd_inv h
 have w2:=w1.trans (command_un ha n w1.gd h2) (k:=8) (by omega)
 obtain⟨ks,s3,h3,h⟩:=bnd_inv h
 obtain⟨l,e1,w3⟩:=pipeF_un ha n n w2.gd h3
 have w3:=w2.trans w3 (k:=8) (by omega)
 rw[List.nil_append,←e1] at w3
 by_cases e:f=false∧ks.length=1
 ·rw[if_pos e] at h
  cases h
  have hl:l=[]:=by
   have:=e.2
   rw[e1] at this
   simpa using this
  subst hl
  subst e1
  exact w3.weak (by omega)
 ·rw[if_neg e] at h
  refine Wk.add (n:={ kind:=2,flag:=f,kids:=ks,left:=(hd s).left }) w3 ?_ h (by omega)
  have h0:0<ks.length:=by rw[e1];simp
  simp only[shapeB]
  rw[if_neg (by decide)]
  cases f with
  | true=>simp;omega
  | false=>
   have h9:ks.length≠1:=fun e9=>e ⟨rfl,e9⟩
   simp;omega
theorem aoF_un (n ln m:Nat) {k:Nat} {i j:Nat} {s0 s s':St} (hw:Wk k s0 s [i]) (h:aoF a n ln m i s=.ok (j,s')):Wk k s0 s' [j]:=by
 induction m generalizing i s with
 | zero=>cases h
 | succ m ih=>
  unfold aoF at h
  by_cases e:isT [38,38] s=true∨isT [124,124] s=true
  ·rw[if_pos e] at h
   have w0:Wk 9 s (go s) []:=Wk.go hw.gd (.inl (by rcases e with e | e;exact isT_text e (by decide);exact isT_text e (by decide)))
   have w0:=hw.trans w0 (k:=k+8) (by omega)
   obtain⟨_,s1,h1,h⟩:=bnd_inv h
   have w1:=w0.trans (lines_un w0.gd h1).2 (k:=k+8) (by omega)
   obtain⟨q,s2,h2,h⟩:=bnd_inv h
   have w2:=w1.trans (pipeline_un ha n w1.gd h2) (k:=k+8) (by omega)
   obtain⟨x,s3,h3,h⟩:=bnd_inv h
   refine ih (Wk.add (n:={ kind:=if isT [124,124] s=true then 4 else 3,kids:=[i,q],left:=ln }) w2 ?_ h3 (by omega)) h
   unfold shapeB
   split <;> simp
  ·rw[if_neg e] at h
   cases h
   exact hw
theorem andOr_un (n:Nat) {s s':St} {i:Nat} (hg:good s.r=true) (h:andOr a n s=.ok (i,s')):Wk 7 s s' [i]:=by
 unfold andOr at h
 obtain⟨k,s1,h1,h⟩:=bnd_inv h
 exact aoF_un ha n _ n (pipeline_un ha n hg h1) h
theorem listF_un (n m:Nat) {ks ks':List Nat} {s s':St} (hg:good s.r=true) (h:listF a n m ks s=.ok (ks',s')):∃ l,ks'=ks++l∧Wk 1 s s' l:=by
 induction m generalizing ks s with
 | zero=>cases h
 | succ m ih=>
  unfold listF at h
  by_cases e:atAndOr s=true
  ·rw[if_pos e] at h
   obtain⟨k,s1,h1,h⟩:=bnd_inv h
   have w1:=andOr_un ha n hg h1
   obtain⟨b,s2,h2,h⟩:=bnd_inv h
   have w2:=w1.trans (parted_un w1.gd h2).1 (k:=7) (by omega)
   cases b with
   | true=>
    rw[if_pos rfl] at h
    obtain⟨l,e1,w4⟩:=ih w2.gd h
    exact⟨k::l,by rw[e1];simp,w2.trans w4 (by omega)⟩
   | false=>
    rw[if_neg (by decide)] at h
    cases h
    exact⟨[k],rfl,w2.weak (by omega)⟩
  ·rw[if_neg e] at h
   cases h
   exact⟨[],by simp,Wk.refl hg⟩
theorem anyL_un (n:Nat):UnA (anyL a n):=by
 intro s i s' hg h
 unfold anyL at h
 obtain⟨_,s1,h1,h⟩:=bnd_inv h
 have w1:=(lines_un hg h1).2
 obtain⟨ks,s2,h2,h⟩:=bnd_inv h
 obtain⟨l,e1,w2⟩:=listF_un ha n n w1.gd h2
 have w2:=w1.trans w2 (k:=1) (by omega)
 rw[List.nil_append] at e1 w2
 subst e1
 exact Wk.add (n:={ kind:=5,kids:=ks,left:=(hd s1).left }) w2 (by simp[shapeB]) h (by omega)
end
theorem anyF_un (n:Nat):UnA (anyF n):=by
 induction n with
 | zero=>intro s i s' hg h;cases h
 | succ n ih=>exact anyL_un ih (n+1)
end Sx
end Go.Proofs.YtkkchkkpnlnbgaaGreatDoor
