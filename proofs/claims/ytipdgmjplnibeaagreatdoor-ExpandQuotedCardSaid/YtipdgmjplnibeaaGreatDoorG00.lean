import Derived.Lib.Strings
import Derived.Lib.Bytealg
import Derived.Sort.Walk0
import Derived.Lib.Hide
namespace Go.Proofs.YtipdgmjplnibeaaGreatDoor
namespace Wd
abbrev B:=List UInt8
inductive P where
 | mk (k:Nat) (t o:B) (q:Bool) (w:List P)
def P.k:P→Nat | .mk k _ _ _ _=>k
def P.t:P→B | .mk _ t _ _ _=>t
def P.o:P→B | .mk _ _ o _ _=>o
def P.q:P→Bool | .mk _ _ _ q _=>q
def P.w:P→List P | .mk _ _ _ _ w=>w
def P0:P:=.mk 0 [] [] false []
structure R where
 ps:List P
 k:Nat
 t:B
structure S where
 l:B
 e:Nat
def fail (n:Nat) (s:S):S:=⟨[],if s.e=0 then n else s.e⟩
def next (s:S):B×S:=match s.l with
 | []=>([],fail 11 s)
 | c::t=>([c],⟨t,s.e⟩)
def ahead (t:B) (s:S):Bool:=Lib.hasPrefix s.l t
def skip (n:Nat) (s:S):S:=⟨s.l.drop n,s.e⟩
def need (t:B) (s:S):S:=if ahead t s then skip t.length s else fail 11 s
def upTo (c:UInt8) (s:S):B×S:=if Lib.indexByte s.l c<0 then ([],fail 11 s) else (s.l.take (Lib.indexByte s.l c).toNat,skip ((Lib.indexByte s.l c).toNat+1) s)
def close (r:R):R:=if 0<r.k then ⟨r.ps++[.mk r.k r.t [] false []],0,[]⟩ else ⟨r.ps,0,[]⟩
def put (k:Nat) (t:B) (r:R):R:=if k=r.k then ⟨r.ps,r.k,r.t++t⟩ else ⟨(close r).ps,k,t⟩
def add (p:P) (r:R):R:=⟨(close r).ps++[p],0,[]⟩
def all (r:R):List P:=(close r).ps
def letB (c:UInt8):Bool:=(decide (97≤c) && decide (c≤122)) || (decide (65≤c) && decide (c≤90)) || c==95
def dig (c:UInt8):Bool:=decide (48≤c) && decide (c≤57)
def nm (c:UInt8):Bool:=letB c || dig c
def singles:B:=[48,49,50,51,52,53,54,55,56,57,63,35,64,42,45]
def tens:B:=[48,49,50,51,52,53,54,55,56,57]
def param (l:B):B:=match l with
 | []=>[]
 | c::_=>if singles.contains c then [c] else l.takeWhile nm
def digits (l:B):B:=l.takeWhile (tens.contains ·)
def measured (s:S):B×S:=
 if param (Lib.trimPrefix s.l [35])=[] then ([],s)
 else if ahead ([35]++param (Lib.trimPrefix s.l [35])++[125]) s then (param (Lib.trimPrefix s.l [35]),skip ((param (Lib.trimPrefix s.l [35])).length+2) s)
 else ([],s)
def nameOf (l:B):B:=if digits l=[] then param l else digits l
def named (s:S):B×S:=(nameOf s.l,need (nameOf s.l) (if nameOf s.l=[] then fail 11 s else s))
def ops:List B:=[[58,45],[58,61],[58,63],[58,43],[37,37],[35,35],[45],[61],[63],[43],[37],[35]]
def op (s:S):B×S:=match ops.find? (fun o=>ahead o s) with
 | some o=>(o,skip o.length s)
 | none=>([],fail 11 s)
def rk:Nat→Nat→S→S
 | 0,_,s=>s
 | n+1,o,s=>if s.l≠[]∧(0<o∨ahead [41] s=false) then rk n (if (next s).1=[40] then o+1 else if (next s).1=[41] then o-1 else o) (next s).2 else s
def reckoned (s:S):B×S:=(s.l.take (s.l.length-(rk s.l.length 0 s).l.length),need [41,41] (rk s.l.length 0 s))
def paren (s:S):S:=if ahead [40] s then fail 11 s else s
section
variable (br:S→P×S)
def value (s:S):P×S:=
 if ahead [123] s then br (skip 1 s)
 else if ahead [40,40] s then (.mk 4 (reckoned (skip 2 s)).1 [] false [],(reckoned (skip 2 s)).2)
 else if param (paren s).l=[] then (P0,paren s)
 else (.mk 3 (param (paren s).l) [] false [],need (param (paren s).l) (paren s))
def dollar (kind:Nat) (x:R×S):R×S:=
 let v:=value br x.2
 if v.1.k=0 then (put kind [36] x.1,v.2) else (add (.mk v.1.k v.1.t v.1.o (decide (kind=2)) v.1.w) x.1,v.2)
def content (bare:B) (x:R×S):R×S:=
 let c:=next x.2
 if c.1=[92] then
  let b:=next c.2
  if b.1=[]∨∃ u∈bare,b.1=[u] then (put 2 b.1 x.1,b.2) else (put 2 (c.1++b.1) x.1,b.2)
 else if c.1=[36] then dollar br 2 (x.1,c.2)
 else if c.1=[96] then (x.1,fail 11 c.2)
 else (put 2 c.1 x.1,c.2)
def loop (go:S→Bool) (f:R×S→R×S):Nat→R×S→R×S
 | 0,x=>x
 | n+1,x=>if go x.2 then loop go f n (f x) else x
def left (s:S):Bool:=!s.l.isEmpty
def more (t:B) (s:S):Bool:=left s && !ahead t s
def inHere:B:=[36,96,92]
def inQuotes:B:=[36,96,92,34]
def double (x:R×S):R×S:=
 let y:=loop (more [34]) (content br inQuotes) x.2.l.length (if ahead [34] x.2 then put 2 [] x.1 else x.1,x.2)
 (y.1,need [34] y.2)
def part (x:R×S):R×S:=
 let c:=next x.2
 if c.1=[92] then (put 2 (next c.2).1 x.1,(next c.2).2)
 else if c.1=[39] then (put 2 (upTo 39 c.2).1 x.1,(upTo 39 c.2).2)
 else if c.1=[34] then double br (x.1,c.2)
 else if c.1=[36] then dollar br 1 (x.1,c.2)
 else if c.1=[96] then (x.1,fail 11 c.2)
 else (put 1 c.1 x.1,c.2)
def wordIn (s:S):R×S:=loop (more [125]) (part br) s.l.length (⟨[],0,[]⟩,s)
def word (s:S):List P×S:=(all (wordIn br s).1,need [125] (wordIn br s).2)
end
def braceF (wd:S→List P×S) (s:S):P×S:=
 if (measured s).1≠[] then (.mk 3 (measured s).1 [108,101,110] false [],(measured s).2)
 else if ahead [125] (named s).2 then (.mk 3 (named s).1 [] false [],skip 1 (named s).2)
 else (.mk 3 (named s).1 (op (named s).2).1 false (wd (op (named s).2).2).1,(wd (op (named s).2).2).2)
def brace:Nat→S→P×S
 | 0,s=>(P0,fail 21 s)
 | d+1,s=>braceF (word (brace d)) s
def R0:R:=⟨[],0,[]⟩
def start (raw:B):R×S:=if raw=[126]∨Lib.hasPrefix raw [126,47]=true then (add (.mk 5 [] [] false []) R0,need [126] ⟨raw,0⟩) else (R0,⟨raw,0⟩)
def told (x:R×S):List P×Nat:=if x.2.e≠0 then ([],x.2.e) else (all x.1,0)
def parse (raw:B):List P×Nat:=told (loop left (part (brace 8)) raw.length (start raw))
def body (raw:B):List P×Nat:=told (loop left (content (brace 8) inHere) raw.length (R0,⟨raw,0⟩))
def m (x:R×S):Nat:=x.1.ps.length+x.1.t.length+3*x.2.l.length
theorem fail_len (n:Nat) (s:S):(fail n s).l.length=0:=rfl
theorem next_len (s:S):(next s).2.l.length≤s.l.length∧(next s).1.length≤1∧((next s).1.length+(next s).2.l.length=s.l.length):=by
 unfold next
 cases h:s.l with
 | nil=>simp[fail]
 | cons c t=>simp;omega
theorem skip_len (n:Nat) (s:S):(skip n s).l.length=s.l.length-n:=by simp[skip]
theorem need_len (t:B) (s:S):(need t s).l.length≤s.l.length:=by
 unfold need
 split
 ·rw[skip_len];omega
 ·rw[fail_len];omega
theorem upTo_len (c:UInt8) (s:S):(upTo c s).1.length+(upTo c s).2.l.length≤s.l.length:=by
 unfold upTo
 split
 ·simp[fail]
 ·simp only[skip_len,List.length_take];omega
theorem put_m (k:Nat) (t:B) (r:R):(put k t r).ps.length+(put k t r).t.length≤r.ps.length+r.t.length+1+t.length:=by
 unfold put
 split
 ·simp;omega
 ·unfold close
  split <;> simp <;> omega
theorem add_m (p:P) (r:R):(add p r).ps.length+(add p r).t.length≤r.ps.length+2:=by
 unfold add close
 split <;> simp
theorem rk_len:∀ n o s,(rk n o s).l.length≤s.l.length
 | 0,_,s=>Nat.le_refl _
 | n+1,o,s=>by
  rw[rk]
  split
  ·exact Nat.le_trans (rk_len n _ _) (next_len s).1
  ·exact Nat.le_refl _
theorem measured_len (s:S):(measured s).2.l.length≤s.l.length:=by
 unfold measured
 repeat' split
 all_goals first | exact Nat.le_refl _ | (rw[skip_len];omega)
theorem named_len (s:S):(named s).2.l.length≤s.l.length:=by
 unfold named
 refine Nat.le_trans (need_len _ _) ?_
 split
 ·rw[fail_len];omega
 ·exact Nat.le_refl _
theorem op_len (s:S):(op s).2.l.length≤s.l.length:=by
 unfold op
 split
 ·rw[skip_len];omega
 ·rw[fail_len];omega
section
variable {br:S→P×S} (hb:∀ s,(br s).2.l.length≤s.l.length)
include hb
theorem value_len (s:S):(value br s).2.l.length≤s.l.length:=by
 unfold value
 split
 ·exact Nat.le_trans (hb _) (by rw[skip_len];omega)
 ·split
  ·refine Nat.le_trans (need_len _ _) (Nat.le_trans (rk_len _ _ _) (by rw[skip_len];omega))
  ·have h1:(paren s).l.length≤s.l.length:=by unfold paren;split;exact Nat.zero_le _;exact Nat.le_refl _
   split
   ·exact h1
   ·exact Nat.le_trans (need_len _ _) h1
theorem dollar_m (k:Nat) (x:R×S):(dollar br k x).2.l.length≤x.2.l.length∧m (dollar br k x)≤m x+2:=by
 have h1:=value_len hb x.2
 unfold dollar m
 dsimp only
 split
 ·have:=put_m k [36] x.1
  simp at this
  exact⟨h1,by dsimp only;omega⟩
 ·have:=add_m (.mk (value br x.2).1.k (value br x.2).1.t (value br x.2).1.o (decide (k=2)) (value br x.2).1.w) x.1
  exact⟨h1,by dsimp only;omega⟩
theorem content_m (bare:B) (x:R×S) (h0:x.2.l≠[]):(content br bare x).2.l.length<x.2.l.length∧m (content br bare x)≤m x:=by
 have h1:=next_len x.2
 have h2:=next_len (next x.2).2
 have h3:0<x.2.l.length:=List.length_pos_iff.2 h0
 have h4:(next x.2).1.length=1:=by unfold next;cases h:x.2.l with | nil=>exact absurd h h0 | cons c t=>rfl
 unfold content
 dsimp only
 split
 ·split
  ·have:=put_m 2 (next (next x.2).2).1 x.1
   unfold m;dsimp only
   exact⟨by omega,by omega⟩
  ·have:=put_m 2 ((next x.2).1++(next (next x.2).2).1) x.1
   rw[List.length_append] at this
   unfold m;dsimp only
   exact⟨by omega,by omega⟩
 ·split
  ·have:=dollar_m hb 2 (x.1,(next x.2).2)
   unfold m at this⊢;dsimp only at this
   exact⟨by omega,by omega⟩
  ·split
   ·unfold m;dsimp only;rw[fail_len]
    exact⟨by omega,by omega⟩
   ·have:=put_m 2 (next x.2).1 x.1
    unfold m;dsimp only
    exact⟨by omega,by omega⟩
omit hb in
theorem loop_m {go:S→Bool} {f:R×S→R×S} (hg:∀ s,go s=true→s.l≠[]) (hf:∀ x,x.2.l≠[]→(f x).2.l.length<x.2.l.length∧m (f x)≤m x):∀ n x,(loop go f n x).2.l.length≤x.2.l.length∧m (loop go f n x)≤m x
 | 0,x=>⟨Nat.le_refl _,Nat.le_refl _⟩
 | n+1,x=>by
  rw[loop]
  split
  ·rename_i h
   have h1:=hf x (hg _ h)
   have h2:=loop_m hg hf n (f x)
   exact⟨by omega,by omega⟩
  ·exact⟨Nat.le_refl _,Nat.le_refl _⟩
omit hb in
theorem left_ne {s:S} (h:left s=true):s.l≠[]:=by
 unfold left at h
 intro e
 rw[e] at h
 cases h
omit hb in
theorem more_ne {t:B} {s:S} (h:more t s=true):s.l≠[]:=by
 unfold more at h
 rw[Bool.and_eq_true] at h
 exact left_ne h.1
theorem double_m (x:R×S):(double br x).2.l.length≤x.2.l.length∧m (double br x)≤m x+1:=by
 have h1:=loop_m (fun s h=>more_ne (t:=[34]) h) (fun x h=>content_m hb inQuotes x h) x.2.l.length (if ahead [34] x.2 then put 2 [] x.1 else x.1,x.2)
 have h2:m (if ahead [34] x.2 then put 2 [] x.1 else x.1,x.2)≤m x+1:=by
  split
  ·have:=put_m 2 [] x.1
   simp at this
   unfold m;dsimp only;omega
  ·exact Nat.le_succ _
 unfold double
 dsimp only at h1⊢
 have h3:=need_len [34] (loop (more [34]) (content br inQuotes) x.2.l.length (if ahead [34] x.2 then put 2 [] x.1 else x.1,x.2)).2
 refine⟨by omega,Nat.le_trans ?_ (Nat.le_trans h1.2 h2)⟩
 unfold m;dsimp only;omega
theorem part_m (x:R×S) (h0:x.2.l≠[]):(part br x).2.l.length<x.2.l.length∧m (part br x)≤m x:=by
 have h1:=next_len x.2
 have h2:=next_len (next x.2).2
 have h3:0<x.2.l.length:=List.length_pos_iff.2 h0
 have h4:(next x.2).1.length=1:=by unfold next;cases h:x.2.l with | nil=>exact absurd h h0 | cons c t=>rfl
 unfold part
 dsimp only
 split
 ·have:=put_m 2 (next (next x.2).2).1 x.1
  unfold m;dsimp only
  exact⟨by omega,by omega⟩
 ·split
  ·have:=put_m 2 (upTo 39 (next x.2).2).1 x.1
   have h5:=upTo_len 39 (next x.2).2
   unfold m;dsimp only
   exact⟨by omega,by omega⟩
  ·split
   ·have:=double_m hb (x.1,(next x.2).2)
    unfold m at this⊢;dsimp only at this
    exact⟨by omega,by omega⟩
   ·split
    ·have:=dollar_m hb 1 (x.1,(next x.2).2)
     unfold m at this⊢;dsimp only at this
     exact⟨by omega,by omega⟩
    ·split
     ·unfold m;dsimp only;rw[fail_len]
      exact⟨by omega,by omega⟩
     ·have:=put_m 1 (next x.2).1 x.1
      unfold m;dsimp only
      exact⟨by omega,by omega⟩
theorem word_len (s:S):(word br s).2.l.length≤s.l.length:=
 Nat.le_trans (need_len _ _) (loop_m (fun s h=>more_ne (t:=[125]) h) (fun x h=>part_m hb x h) _ _).1
end
theorem brace_len:∀ d s,(brace d s).2.l.length≤s.l.length
 | 0,s=>by show (fail 21 s).l.length≤_;rw[fail_len];omega
 | d+1,s=>by
  show (braceF (word (brace d)) s).2.l.length≤_
  unfold braceF
  split
  ·exact measured_len s
  ·split
   ·dsimp only;rw[skip_len];have:=named_len s;omega
   ·exact Nat.le_trans (word_len (brace_len d) _) (Nat.le_trans (op_len _) (named_len s))
end Wd
end Go.Proofs.YtipdgmjplnibeaaGreatDoor
namespace Go.Proofs.YtipdgmjplnibeaaGreatDoor
namespace En
abbrev B:=List UInt8
abbrev Vs:=List (B×B)
def Rises (l:Vs):Prop:=(l.map Prod.fst).Pairwise (· < ·)
def var:Vs→B→Option B
 | [],_=>none
 | p::l,n=>if p.1=n then some p.2 else var l n
def unset (l:Vs) (n:B):Vs:=l.filter fun p=>!decide (p.1=n)
def put:Vs→B→B→Vs
 | [],n,v=>[(n,v)]
 | p::l,n,v=>if p.1<n then p::put l n v else (n,v)::p::l
def setV (l:Vs) (n v:B):Vs:=put (unset l n) n v
theorem lt_irrefl (a:B):¬ a<a:=List.lt_irrefl a
theorem lt_trans {a b c:B} (h1:a<b) (h2:b<c):a<c:=List.lt_trans h1 h2
theorem lt_ne {a b:B} (h:a<b):a≠b:=fun e=>by subst e;exact lt_irrefl _ h
theorem lt_of {a b:B} (h:¬ a<b) (hn:a≠b):b<a:=by
 by_cases h1:b<a
 ·exact h1
 ·exact absurd (List.le_antisymm (show a≤b from h1) (show b≤a from h)) hn
theorem Rises.tail {p:B×B} {l:Vs} (h:Rises (p::l)):Rises l:=(List.pairwise_cons.1 h).2
theorem Rises.head {p:B×B} {l:Vs} (h:Rises (p::l)):∀ q∈l,p.1<q.1:=fun q hq=>(List.pairwise_cons.1 h).1 q.1 (List.mem_map.2 ⟨q,hq,rfl⟩)
theorem Rises.cons {p:B×B} {l:Vs} (h:Rises l) (h2:∀ q∈l,p.1<q.1):Rises (p::l):=List.pairwise_cons.2 ⟨fun a ha=>by obtain⟨q,hq,rfl⟩:=List.mem_map.1 ha;exact h2 q hq,h⟩
theorem Rises.nil:Rises []:=List.Pairwise.nil
theorem Rises.filter {l:Vs} (h:Rises l) (f:B×B→Bool):Rises (l.filter f):=by
 unfold Rises at *
 exact List.Pairwise.sublist (List.Sublist.map _ (List.filter_sublist)) h
theorem Rises.unset {l:Vs} (h:Rises l) (n:B):Rises (unset l n):=h.filter _
theorem mem_put {l:Vs} {n v:B} {q:B×B}:q∈put l n v↔q=(n,v)∨q∈l:=by
 induction l with
 | nil=>simp[put]
 | cons p l ih=>
  unfold put
  split
  ·rw[List.mem_cons,ih,List.mem_cons]
   constructor
   ·rintro(h | h | h)
    ·exact .inr (.inl h)
    ·exact .inl h
    ·exact .inr (.inr h)
   ·rintro(h | h | h)
    ·exact .inr (.inl h)
    ·exact .inl h
    ·exact .inr (.inr h)
  ·rw[List.mem_cons]
theorem mem_unset {l:Vs} {n:B} {q:B×B}:q∈unset l n↔q∈l∧q.1≠n:=by
 unfold unset
 rw[List.mem_filter]
 simp
theorem Rises.put {l:Vs} {n v:B} (h:Rises l) (hn:∀ q∈l,q.1≠n):Rises (put l n v):=by
 induction l with
 | nil=>exact Rises.cons .nil (by simp)
 | cons p l ih=>
  unfold En.put
  split
  ·rename_i hp
   refine Rises.cons (ih h.tail fun q hq=>hn q (List.mem_cons_of_mem _ hq)) fun q hq=>?_
   rcases mem_put.1 hq with rfl | hq
   ·exact hp
   ·exact h.head q hq
  ·rename_i hp
   have h1:=lt_of hp (hn p (List.mem_cons_self ..))
   refine Rises.cons h fun q hq=>?_
   rcases List.mem_cons.1 hq with rfl | hq
   ·exact h1
   ·exact lt_trans h1 (h.head q hq)
theorem Rises.setV {l:Vs} (h:Rises l) (n v:B):Rises (setV l n v):=(h.unset n).put fun _ hq=>(mem_unset.1 hq).2
theorem var_none {l:Vs} {n:B}:var l n=none↔∀ q∈l,q.1≠n:=by
 induction l with
 | nil=>simp[var]
 | cons p l ih=>
  unfold var
  split
  ·rename_i h;simp[h]
  ·rename_i h;rw[ih];simp[h]
theorem var_unset_self (l:Vs) (n:B):var (unset l n) n=none:=var_none.2 fun _ hq=>(mem_unset.1 hq).2
theorem var_unset (l:Vs) {n m:B} (h:m≠n):var (unset l n) m=var l m:=by
 induction l with
 | nil=>rfl
 | cons p l ih=>
  unfold unset at ih⊢
  rw[List.filter_cons]
  by_cases hp:p.1=n
  ·have hp2:p.1≠m:=fun e=>h (e.symm.trans hp)
   simp only[hp,decide_true,Bool.not_true,Bool.false_eq_true,if_false,ih]
   rw[var,if_neg hp2]
  ·simp only[hp,decide_false,Bool.not_false,if_true,var,ih]
theorem var_put_self (l:Vs) (n v:B) (hn:∀ q∈l,q.1≠n):var (put l n v) n=some v:=by
 induction l with
 | nil=>simp[put,var]
 | cons p l ih=>
  unfold put
  split
  ·rw[var,if_neg (hn p (List.mem_cons_self ..))];exact ih fun q hq=>hn q (List.mem_cons_of_mem _ hq)
  ·rw[var,if_pos rfl]
theorem var_put (l:Vs) {n m:B} (v:B) (h:m≠n):var (put l n v) m=var l m:=by
 induction l with
 | nil=>simp[put,var,Ne.symm h]
 | cons p l ih=>
  unfold put
  split
  ·rw[var,ih,var]
  ·rw[var,if_neg (Ne.symm h)]
theorem var_set_self (l:Vs) (n v:B):var (setV l n v) n=some v:=var_put_self _ _ _ fun _ hq=>(mem_unset.1 hq).2
theorem var_set (l:Vs) {n m:B} (v:B) (h:m≠n):var (setV l n v) m=var l m:=(var_put _ v h).trans (var_unset l h)
theorem put_len (l:Vs) (n v:B):(put l n v).length=l.length+1:=by
 induction l with
 | nil=>rfl
 | cons p l ih=>unfold put;split <;> simp[ih]
theorem unset_of {l:Vs} {n:B} (h:∀ q∈l,q.1≠n):unset l n=l:=by
 unfold unset
 rw[List.filter_eq_self]
 intro q hq
 simp[h q hq]
theorem unset_put {l:Vs} {n v:B} (h:∀ q∈l,q.1≠n):unset (put l n v) n=l:=by
 induction l with
 | nil=>simp[put,unset]
 | cons p l ih=>
  have h1:=h p (List.mem_cons_self ..)
  have h2:∀ q∈l,q.1≠n:=fun q hq=>h q (List.mem_cons_of_mem _ hq)
  unfold put
  split
  ·have:=ih h2
   unfold unset at this⊢
   rw[List.filter_cons,this]
   simp[h1]
  ·have:=unset_of (l:=p::l) h
   unfold unset at this⊢
   rw[List.filter_cons,this]
   simp
theorem unset_set (l:Vs) (n v:B):unset (setV l n v) n=unset l n:=unset_put fun _ hq=>(mem_unset.1 hq).2
theorem set_len (l:Vs) (n v:B):(unset (setV l n v) n).length+1=(setV l n v).length:=by rw[unset_set,setV,put_len]
theorem put_at {a b:Vs} {n v:B} (ha:∀ q∈a,q.1<n) (hb:∀ q∈b,n<q.1):put (a++b) n v=a++(n,v)::b:=by
 induction a with
 | nil=>
  cases b with
  | nil=>rfl
  | cons p b=>
   have h:=hb p (List.mem_cons_self ..)
   have h2:¬ p.1<n:=fun h3=>lt_irrefl _ (lt_trans h h3)
   simp[put,h2]
 | cons p a ih=>
  have h:=ha p (List.mem_cons_self ..)
  have:=ih fun q hq=>ha q (List.mem_cons_of_mem _ hq)
  simp[put,h,this]
theorem rises_split {l:Vs} (h:Rises l) (n:B):∃ a m b,l=a++m++b∧(∀ q∈a,q.1<n)∧(∀ q∈b,n<q.1)∧(m=[]∨∃ v,m=[(n,v)]):=by
 induction l with
 | nil=>exact⟨[],[],[],rfl,by simp,by simp,.inl rfl⟩
 | cons p l ih=>
  obtain⟨a,m,b,e,h1,h2,h3⟩:=ih h.tail
  by_cases hp:p.1<n
  ·exact⟨p::a,m,b,by simp[e],fun q hq=>(List.mem_cons.1 hq).elim (fun e=>e ▸ hp) (h1 q),h2,h3⟩
  ·by_cases he:p.1=n
   ·refine⟨[],[(n,p.2)],l,by simp[←he],by simp,fun q hq=>he ▸ h.head q hq,.inr ⟨_,rfl⟩⟩
   ·have hlt:=lt_of hp he
    exact⟨[],[],p::l,by simp,by simp,fun q hq=>(List.mem_cons.1 hq).elim (fun e=>e ▸ hlt) fun hq=>lt_trans hlt (h.head q hq),.inl rfl⟩
theorem unset_split {a m b:Vs} {n:B} (ha:∀ q∈a,q.1<n) (hb:∀ q∈b,n<q.1) (hm:m=[]∨∃ v,m=[(n,v)]):unset (a++m++b) n=a++b:=by
 have h1:unset a n=a:=unset_of fun q hq=>lt_ne (ha q hq)
 have h2:unset b n=b:=unset_of fun q hq=>(lt_ne (hb q hq)).symm
 have h3:unset m n=[]:=by rcases hm with rfl | ⟨v,rfl⟩ <;> simp[unset]
 unfold unset at *
 rw[List.filter_append,List.filter_append,h1,h2,h3,List.append_nil]
theorem set_split {a m b:Vs} {n:B} (v:B) (ha:∀ q∈a,q.1<n) (hb:∀ q∈b,n<q.1) (hm:m=[]∨∃ v,m=[(n,v)]):setV (a++m++b) n v=a++(n,v)::b:=by
 unfold setV
 rw[unset_split ha hb hm,put_at ha hb]
end En
end Go.Proofs.YtipdgmjplnibeaaGreatDoor
