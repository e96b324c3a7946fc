/- The lexer as plain mathematics: the parts of a word, and words. No premises. -/
import Derived.Tactics
namespace Go.Proofs.YtkkchkkpnlnbgaaGreatDoor
namespace Lx
abbrev L:=List UInt8
abbrev R:=Except Nat (L×L)
def pre (t:L):R→R
 | .ok (u,r)=>.ok (t++u,r)
 | .error e=>.error e
@[simp] theorem pre_ok (t u r:L):pre t (.ok (u,r))=.ok (t++u,r):=rfl
@[simp] theorem pre_error (t:L) (e:Nat):pre t (.error e)=.error e:=rfl
theorem pre_inv {t u r:L} {x:R} (h:pre t x=.ok (u,r)):∃ v,x=.ok (v,r)∧u=t++v:=by
 match x with
 | .ok (v,q)=>simp only[pre_ok,Except.ok.injEq,Prod.mk.injEq] at h;exact⟨v,by rw[h.2],h.1.symm⟩
 | .error e=>cases h
def sq:L→Option (L×L)
 | []=>none
 | c::r=>if c=39 then some ([39],r) else (sq r).map fun p=>(c::p.1,p.2)
def ar (o:Nat):L→Option (L×L)
 | []=>none
 | c::r=>
  if c=41 then
   match o with
   | 0=>match r with
    | []=>none
    | b::q=>if b=41 then some ([41,41],q) else none
   | o+1=>(ar o r).map fun p=>(c::p.1,p.2)
  else (ar (if c=40 then o+1 else o) r).map fun p=>(c::p.1,p.2)
def upF (p:L→R) (z:UInt8) (q:Bool):Nat→L→R
 | 0,_=>.error 20
 | n+1,l=>
  if l.head?=some z then .ok ([z],l.tail)
  else if q=true∧l.head?=some 39 then pre [39] (upF p z q n l.tail)
  else match p l with
   | .error e=>.error e
   | .ok (t,r)=>pre t (upF p z q n r)
def dolF (b:L→R) (deep:Bool) (r:L):R:=
 match r with
 | []=>.ok ([36],[])
 | x::q=>
  if x=123 then (if deep=true then .error 21 else pre [36,123] (b q))
  else if x=40 then
   match q with
   | []=>.error 20
   | y::q'=>if y=40 then (match ar 0 q' with | none=>.error 20 | some (t,u)=>.ok (36::40::40::t,u)) else .error 20
  else if x=92∧q.head?=some 10 then .error 20
  else .ok ([36],x::q)
def oneF (dq br:L→R) (deep:Bool) (l:L):R:=
 match l with
 | []=>.error 20
 | c::r=>
  if c=92 then (match r with | []=>.error 20 | b::q=>.ok (if b=10 then [] else [92,b],q))
  else if c=39 then (match sq r with | none=>.error 20 | some (t,q)=>.ok (39::t,q))
  else if c=34 then pre [34] (dq r)
  else if c=36 then dolF br deep r
  else if c=96 then .error 20
  else .ok ([c],r)
def partF:Nat→Nat→L→R
 | 0,_,_=>.error 20
 | n+1,d,l=>oneF (upF (partF n d) 34 true n) (upF (partF n (d+1)) 125 false n) (d==8) l
def Shr (p:L→R):Prop:=∀ l t r,p l=.ok (t,r)→r.length<l.length
theorem sq_len {l t r:L} (h:sq l=some (t,r)):r.length<l.length:=by
 induction l generalizing t r with
 | nil=>cases h
 | cons c l ih=>
  unfold sq at h
  split at h
  ·cases h;simp
  ·cases e:sq l with
   | none=>rw[e] at h;cases h
   | some p=>rw[e] at h;cases h;have:=ih e;simp only[List.length_cons];omega
theorem ar_len {o:Nat} {l t r:L} (h:ar o l=some (t,r)):r.length<l.length:=by
 induction l generalizing o t r with
 | nil=>cases h
 | cons c l ih=>
  unfold ar at h
  split at h
  ·cases o with
   | zero=>
    cases l with
    | nil=>cases h
    | cons b q=>simp only at h;split at h <;> cases h;simp only[List.length_cons];omega
   | succ o=>
    simp only at h
    cases e:ar o l with
    | none=>rw[e] at h;cases h
    | some p=>rw[e] at h;cases h;have:=ih e;simp only[List.length_cons];omega
  ·cases e:ar (if c=40 then o+1 else o) l with
   | none=>rw[e] at h;cases h
   | some p=>rw[e] at h;cases h;have:=ih e;simp only[List.length_cons];omega
theorem head_cons {l:L} {z:UInt8} (h:l.head?=some z):l=z::l.tail:=by
 cases l with
 | nil=>cases h
 | cons c r=>simp only[List.head?_cons,Option.some.injEq] at h;rw[h];rfl
theorem upF_len {p:L→R} (hp:Shr p) (z:UInt8) (q:Bool) (n:Nat) {l t r:L} (h:upF p z q n l=.ok (t,r)):r.length<l.length:=by
 induction n generalizing l t r with
 | zero=>cases h
 | succ n ih=>
  unfold upF at h
  split at h
  ·rename_i e
   cases h
   have h1:=congrArg List.length (head_cons e)
   simp only[List.length_cons] at h1
   omega
  ·split at h
   ·rename_i e
    obtain⟨v,h1,_⟩:=pre_inv h
    have h2:=ih h1
    have h3:=congrArg List.length (head_cons e.2)
    simp only[List.length_cons] at h3
    omega
   ·cases e:p l with
    | error e'=>rw[e] at h;cases h
    | ok x=>
     obtain⟨t1,r1⟩:=x
     rw[e] at h
     obtain⟨v,h1,_⟩:=pre_inv h
     have h2:=ih h1
     have h3:=hp _ _ _ e
     omega
theorem dolF_len {b:L→R} (hb:Shr b) (deep:Bool) {l t r:L} (h:dolF b deep l=.ok (t,r)):r.length≤l.length:=by
 unfold dolF at h
 cases l with
 | nil=>cases h;simp
 | cons x q=>
  simp only at h
  split at h
  ·split at h
   ·cases h
   ·obtain⟨v,h1,_⟩:=pre_inv h
    have:=hb _ _ _ h1
    simp only[List.length_cons];omega
  ·split at h
   ·cases q with
    | nil=>cases h
    | cons y q'=>
     simp only at h
     split at h
     ·cases e:ar 0 q' with
      | none=>rw[e] at h;cases h
      | some x=>rw[e] at h;cases h;have:=ar_len e;simp only[List.length_cons];omega
     ·cases h
   ·split at h
    ·cases h
    ·cases h;simp
theorem oneF_len {dq br:L→R} (h1:Shr dq) (h2:Shr br) (deep:Bool):Shr (oneF dq br deep):=by
 intro l t r h
 unfold oneF at h
 cases l with
 | nil=>cases h
 | cons c l=>
  simp only at h
  split at h
  ·cases l with
   | nil=>cases h
   | cons b q=>cases h;simp only[List.length_cons];omega
  ·split at h
   ·cases e:sq l with
    | none=>rw[e] at h;cases h
    | some x=>rw[e] at h;cases h;have:=sq_len e;simp only[List.length_cons];omega
   ·split at h
    ·obtain⟨v,h3,_⟩:=pre_inv h
     have:=h1 _ _ _ h3
     simp only[List.length_cons];omega
    ·split at h
     ·have:=dolF_len h2 deep h
      simp only[List.length_cons];omega
     ·split at h
      ·cases h
      ·cases h;simp
theorem partF_len (n d:Nat):Shr (partF n d):=by
 induction n generalizing d with
 | zero=>intro l t r h;cases h
 | succ n ih=>
  exact oneF_len (fun l t r h=>upF_len (ih d) _ _ _ h) (fun l t r h=>upF_len (ih (d+1)) _ _ _ h) _
theorem upF_stable {p p':L→R} (hp:Shr p) (z:UInt8) (q:Bool) (n m:Nat) (l:L) (hag:∀ k:L,k.length≤l.length→p k=p' k) (h1:l.length<n) (h2:l.length<m):upF p z q n l=upF p' z q m l:=by
 induction n generalizing m l with
 | zero=>omega
 | succ n ih=>
  cases m with
  | zero=>omega
  | succ m=>
   unfold upF
   split
   ·rfl
   ·split
    ·rename_i e
     have h3:=congrArg List.length (head_cons e.2)
     simp only[List.length_cons] at h3
     rw[ih m l.tail (fun k hk=>hag k (by omega)) (by omega) (by omega)]
    ·rw[←hag l (Nat.le_refl _)]
     cases e:p l with
     | error e'=>rfl
     | ok x=>
      obtain⟨t1,r1⟩:=x
      have h3:=hp _ _ _ e
      simp only
      rw[ih m r1 (fun k hk=>hag k (by omega)) (by omega) (by omega)]
theorem dolF_congr {b b':L→R} (deep:Bool) (r:L) (h:∀ k:L,k.length<r.length→b k=b' k):dolF b deep r=dolF b' deep r:=by
 unfold dolF
 cases r with
 | nil=>rfl
 | cons x q=>
  simp only
  rw[h q (by simp)]
theorem oneF_congr {dq dq' br br':L→R} (deep:Bool) (l:L) (h1:∀ k:L,k.length<l.length→dq k=dq' k) (h2:∀ k:L,k.length<l.length→br k=br' k):oneF dq br deep l=oneF dq' br' deep l:=by
 unfold oneF
 cases l with
 | nil=>rfl
 | cons c r=>
  simp only
  rw[h1 r (by simp),dolF_congr deep r (fun k hk=>h2 k (by simp only[List.length_cons];omega))]
theorem partF_stable (n m d:Nat) (l:L) (h1:l.length<n) (h2:l.length<m):partF n d l=partF m d l:=by
 induction n generalizing m d l with
 | zero=>omega
 | succ n ih=>
  cases m with
  | zero=>omega
  | succ m=>
   unfold partF
   refine oneF_congr _ l (fun k hk=>?_) (fun k hk=>?_)
   ·exact upF_stable (partF_len n d) _ _ n m k (fun k' hk'=>ih m d k' (by omega) (by omega)) (by omega) (by omega)
   ·exact upF_stable (partF_len n (d+1)) _ _ n m k (fun k' hk'=>ih m (d+1) k' (by omega) (by omega)) (by omega) (by omega)
def part (d:Nat) (l:L):R:=partF (l.length+1) d l
def up (d:Nat) (z:UInt8) (q:Bool) (l:L):R:=upF (part d) z q (l.length+1) l
theorem part_len (d:Nat):Shr (part d):=fun l t r h=>partF_len (l.length+1) d l t r h
theorem part_at (d:Nat) (l:L):part d l=oneF (up d 34 true) (up (d+1) 125 false) (d==8) l:=by
 unfold part
 cases l with
 | nil=>rfl
 | cons c r=>
  show oneF _ _ _ _=_
  refine oneF_congr _ _ (fun k hk=>?_) (fun k hk=>?_)
  ·exact upF_stable (partF_len _ d) _ _ _ _ k (fun k' hk'=>partF_stable _ _ d k' (by omega) (by omega)) hk (by omega)
  ·exact upF_stable (partF_len _ (d+1)) _ _ _ _ k (fun k' hk'=>partF_stable _ _ (d+1) k' (by omega) (by omega)) hk (by omega)
theorem up_at (d:Nat) (z:UInt8) (q:Bool) (l:L):up d z q l =
  if l.head?=some z then .ok ([z],l.tail)
  else if q=true∧l.head?=some 39 then pre [39] (up d z q l.tail)
  else match part d l with
   | .error e=>.error e
   | .ok (t,r)=>pre t (up d z q r):=by
 unfold up
 rw[upF]
 split
 ·rfl
 ·split
  ·rename_i e
   have h3:=congrArg List.length (head_cons e.2)
   simp only[List.length_cons] at h3
   rw[upF_stable (part_len d) z q _ (l.tail.length+1) l.tail (fun k hk=>rfl) (by omega) (by omega)]
  ·cases e:part d l with
   | error e'=>rfl
   | ok x=>
    obtain⟨t1,r1⟩:=x
    have h3:=part_len d _ _ _ e
    simp only
    rw[upF_stable (part_len d) z q _ (r1.length+1) r1 (fun k hk=>rfl) (by omega) (by omega)]
end Lx
end Go.Proofs.YtkkchkkpnlnbgaaGreatDoor
namespace Go.Proofs.YtkkchkkpnlnbgaaGreatDoor
namespace Lx
def Bad (l:L):Prop:=l.head?=some 123∨l.head?=some 40∨(l.head?=some 92∧l.tail.head?=some 10)
theorem sq_again {l t r:L} (h:sq l=some (t,r)) (r':L):sq (t++r')=some (t,r'):=by
 induction l generalizing t r with
 | nil=>cases h
 | cons c l ih=>
  unfold sq at h
  split at h
  ·cases h;simp[sq]
  ·rename_i hc
   cases e:sq l with
   | none=>rw[e] at h;cases h
   | some p=>rw[e] at h;cases h;simp[sq,hc,ih e]
theorem ar_again {o:Nat} {l t r:L} (h:ar o l=some (t,r)) (r':L):ar o (t++r')=some (t,r'):=by
 induction l generalizing o t r with
 | nil=>cases h
 | cons c l ih=>
  unfold ar at h
  split at h
  ·rename_i hc
   subst hc
   cases o with
   | zero=>
    cases l with
    | nil=>cases h
    | cons b q=>simp only at h;split at h <;> cases h;simp[ar]
   | succ o=>
    simp only at h
    cases e:ar o l with
    | none=>rw[e] at h;cases h
    | some p=>rw[e] at h;cases h;simp[ar,ih e]
  ·rename_i hc
   cases e:ar (if c=40 then o+1 else o) l with
   | none=>rw[e] at h;cases h
   | some p=>rw[e] at h;cases h;simp[ar,hc,ih e]
theorem part_head {d:Nat} {l t r:L} (h:part d l=.ok (t,r)):(t=[]∧l=92::10::r)∨(∃ b,b≠10∧l=92::b::r∧t=[92,b])∨(∃ c l' t',c≠92∧l=c::l'∧t=c::t'):=by
 rw[part_at] at h
 unfold oneF at h
 cases l with
 | nil=>cases h
 | cons c l=>
  simp only at h
  split at h
  ·rename_i hc
   subst hc
   cases l with
   | nil=>cases h
   | cons b q=>
    by_cases hb:b=10
    ·subst hb;cases h;exact .inl ⟨rfl,rfl⟩
    ·simp only[if_neg hb] at h;cases h;exact .inr (.inl ⟨b,hb,rfl,rfl⟩)
  ·rename_i hc
   refine .inr (.inr ⟨c,l,?_⟩)
   split at h
   ·cases e:sq l with
    | none=>rw[e] at h;cases h
    | some x=>rw[e] at h;cases h;rename_i h39;subst h39;exact⟨_,hc,rfl,rfl⟩
   ·split at h
    ·rename_i h34;subst h34;obtain⟨v,_,rfl⟩:=pre_inv h;exact⟨v,hc,rfl,rfl⟩
    ·split at h
     ·rename_i h36
      subst h36
      unfold dolF at h
      cases l with
      | nil=>cases h;exact⟨_,hc,rfl,rfl⟩
      | cons x q=>
       simp only at h
       split at h
       ·split at h
        ·cases h
        ·obtain⟨v,_,rfl⟩:=pre_inv h;exact⟨_,hc,rfl,rfl⟩
       ·split at h
        ·cases q with
         | nil=>cases h
         | cons y q'=>
          simp only at h
          split at h
          ·cases e:ar 0 q' with
           | none=>rw[e] at h;cases h
           | some x=>rw[e] at h;cases h;exact⟨_,hc,rfl,rfl⟩
          ·cases h
        ·split at h
         ·cases h
         ·cases h;exact⟨_,hc,rfl,rfl⟩
     ·split at h
      ·cases h
      ·cases h;exact⟨_,hc,rfl,rfl⟩
theorem part_good {d:Nat} {l t r:L} (h:part d l=.ok (t,r)) (hb:¬ Bad l) (r':L):¬ Bad (t++r'):=by
 rcases part_head h with⟨rfl,rfl⟩ | ⟨b,hb',rfl,rfl⟩ | ⟨c,l',t',hc,rfl,rfl⟩
 ·exact absurd (.inr (.inr ⟨rfl,rfl⟩)) hb
 ·simp[Bad,hb']
 ·simp only[Bad,List.head?_cons,Option.some.injEq,not_or,List.cons_append,hc,false_and,not_false_eq_true,and_true] at hb⊢
  exact hb
theorem part_dollar {d:Nat} {l r:L} (h:part d l=.ok ([36],r)):¬ Bad r:=by
 rcases part_head h with⟨h1,_⟩ | ⟨b,_,_,h1⟩ | ⟨c,l',t',hc,rfl,h1⟩
 ·cases h1
 ·cases h1
 ·cases h1
  rw[part_at] at h
  unfold oneF dolF at h
  cases l' with
  | nil=>cases h;simp[Bad]
  | cons x q=>
   simp only[show ¬ ((36:UInt8)=92) by decide,show ¬ ((36:UInt8)=39) by decide,show ¬ ((36:UInt8)=34) by decide,if_false,if_true] at h
   split at h
   ·split at h
    ·cases h
    ·obtain⟨v,_,h1⟩:=pre_inv h;cases h1
   ·split at h
    ·cases q with
     | nil=>cases h
     | cons y q'=>
      simp only at h
      split at h
      ·cases e:ar 0 q' with
       | none=>rw[e] at h;cases h
       | some x=>rw[e] at h;cases h
      ·cases h
    ·split at h
     ·cases h
     ·rename_i h1 h2 h3
      cases h
      simp only[Bad,List.head?_cons,Option.some.injEq,List.tail_cons]
      rintro(h4 | h4 | h4)
      ·exact h1 h4
      ·exact h2 h4
      ·exact h3 h4
theorem up_good (d:Nat) {z:UInt8} (q:Bool) (hz:z=34∨z=125) {l t r:L} (h:up d z q l=.ok (t,r)) (hb:¬ Bad l) (r':L):¬ Bad (t++r'):=by
 rw[up_at] at h
 split at h
 ·cases h
  rcases hz with rfl | rfl <;> simp[Bad]
 ·split at h
  ·obtain⟨v,_,rfl⟩:=pre_inv h
   simp[Bad]
  ·cases e:part d l with
   | error e'=>rw[e] at h;cases h
   | ok x=>
    obtain⟨t1,r1⟩:=x
    rw[e] at h
    obtain⟨v,_,rfl⟩:=pre_inv h
    rw[List.append_assoc]
    exact part_good e hb _
theorem part_again_of {d:Nat} {l t r:L} (h:part d l=.ok (t,r)) (ht:t≠[]) (hup:∀ (d:Nat) (z:UInt8) (q:Bool),(z=34∨z=125)→∀ l':L,l'.length<l.length→∀ t r:L,up d z q l'=.ok (t,r)→∀ r':L,up d z q (t++r')=.ok (t,r')) (r':L) (hr:t=[36]→¬ Bad r'):part d (t++r')=.ok (t,r'):=by
 rw[part_at] at h⊢
 unfold oneF at h
 cases l with
 | nil=>cases h
 | cons c l=>
  simp only at h
  split at h
  ·rename_i hc
   subst hc
   cases l with
   | nil=>cases h
   | cons b q=>
    by_cases hb:b=10
    ·subst hb;cases h;exact absurd rfl ht
    ·simp only[if_neg hb] at h;cases h;simp[oneF,hb]
  ·rename_i hc
   split at h
   ·rename_i h39
    subst h39
    cases e:sq l with
    | none=>rw[e] at h;cases h
    | some x=>rw[e] at h;cases h;simp[oneF,sq_again e]
   ·split at h
    ·rename_i h34
     subst h34
     obtain⟨v,h1,rfl⟩:=pre_inv h
     simp[oneF,hup d 34 true (.inl rfl) l (by simp) _ _ h1 r']
    ·split at h
     ·rename_i h36
      subst h36
      unfold dolF at h
      cases l with
      | nil=>
       cases h
       have h1:=hr rfl
       cases r' with
       | nil=>simp[oneF,dolF]
       | cons x q=>
        simp only[Bad,List.head?_cons,Option.some.injEq,List.tail_cons,not_or] at h1
        simp only[oneF,dolF,List.cons_append,List.nil_append,if_neg h1.1,if_neg h1.2.1,if_neg h1.2.2]
        simp
      | cons x q=>
       simp only at h
       split at h
       ·rename_i hx
        subst hx
        split at h
        ·cases h
        ·rename_i hd
         obtain⟨v,h1,rfl⟩:=pre_inv h
         have h2:=hup (d+1) 125 false (.inr rfl) q (by simp only[List.length_cons];omega) _ _ h1 r'
         simp only[oneF,dolF,List.cons_append,List.nil_append,if_neg hd,h2,pre_ok]
         simp
       ·rename_i hx
        split at h
        ·rename_i hx4
         subst hx4
         cases q with
         | nil=>cases h
         | cons y q'=>
          simp only at h
          split at h
          ·rename_i hy
           subst hy
           cases e:ar 0 q' with
           | none=>rw[e] at h;cases h
           | some x=>rw[e] at h;cases h;simp[oneF,dolF,ar_again e]
          ·cases h
        ·split at h
         ·cases h
         ·cases h
          have h1:=hr rfl
          cases r' with
          | nil=>simp[oneF,dolF]
          | cons x q=>
           simp only[Bad,List.head?_cons,Option.some.injEq,List.tail_cons,not_or] at h1
           simp only[oneF,dolF,List.cons_append,List.nil_append,if_neg h1.1,if_neg h1.2.1,if_neg h1.2.2]
           simp
     ·split at h
      ·cases h
      ·rename_i h39 h34 h36 h96
       cases h
       simp[oneF,hc,h39,h34,h36,h96]
theorem up_again_all (n:Nat):∀ (d:Nat) (z:UInt8) (q:Bool),(z=34∨z=125)→∀ l:L,l.length<n→∀ t r:L,up d z q l=.ok (t,r)→∀ r':L,up d z q (t++r')=.ok (t,r'):=by
 induction n with
 | zero=>intro d z q hz l hl;omega
 | succ n ih=>
  intro d z q hz l hl t r h r'
  rw[up_at] at h
  split at h
  ·cases h
   rw[up_at]
   simp
  ·rename_i hhz
   have hz39:z≠39:=by rcases hz with rfl | rfl <;> decide
   split at h
   ·rename_i e
    obtain⟨v,h1,rfl⟩:=pre_inv h
    have h3:=congrArg List.length (head_cons e.2)
    simp only[List.length_cons] at h3
    rw[up_at]
    simp[hz39.symm,e.1,ih d z true hz l.tail (by omega) _ _ (e.1 ▸ h1) r']
   ·rename_i e39
    cases e:part d l with
    | error e'=>rw[e] at h;cases h
    | ok x=>
     obtain⟨t1,r1⟩:=x
     rw[e] at h
     obtain⟨v,h1,rfl⟩:=pre_inv h
     have h3:=part_len d _ _ _ e
     have h4:=ih d z q hz r1 (by omega) _ _ h1 r'
     by_cases ht:t1=[]
     ·subst ht;exact h4
     ·have h5:=part_again_of e ht (fun d z q hz l' hl'=>ih d z q hz l' (by omega)) (v++r') (fun ht=>by subst ht;exact up_good d q hz h1 (part_dollar e) r')
      have h6:(t1++v++r').head?=l.head?:=by
       rcases part_head e with⟨h7,_⟩ | ⟨b,_,rfl,rfl⟩ | ⟨c,l',t',_,rfl,rfl⟩
       ·exact absurd h7 ht
       ·rfl
       ·rfl
      rw[up_at,h6,if_neg hhz,if_neg e39,List.append_assoc,h5]
      simp only[h4,pre_ok]
theorem up_again (d:Nat) {z:UInt8} (q:Bool) (hz:z=34∨z=125) {l t r:L} (h:up d z q l=.ok (t,r)) (r':L):up d z q (t++r')=.ok (t,r'):=up_again_all (l.length+1) d z q hz l (by omega) t r h r'
theorem part_again {d:Nat} {l t r:L} (h:part d l=.ok (t,r)) (ht:t≠[]) (r':L) (hr:t=[36]→¬ Bad r'):part d (t++r')=.ok (t,r'):=
 part_again_of h ht (fun _ _ q hz _ _ _ _ h r'=>up_again _ q hz h r') r' hr
end Lx
end Go.Proofs.YtkkchkkpnlnbgaaGreatDoor
