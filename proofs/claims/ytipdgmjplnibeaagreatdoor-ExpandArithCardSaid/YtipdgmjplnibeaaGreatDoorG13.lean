import Derived.Sort.Walk0
import Derived.Lib.Hide
import Derived.Lib.ItoaNum
import Derived.Test.YtipdgmjplnibeaaGreatDoorG01
import Derived.Test.YtipdgmjplnibeaaGreatDoorG05
set_option maxRecDepth 100000
set_option maxHeartbeats 1600000
namespace Go.Proofs.YtipdgmjplnibeaaGreatDoor
namespace En
abbrev B:=List UInt8
abbrev Vs:=List (B×B)
def Rises (l:Vs):Prop:=(l.map Prod.fst).Pairwise (· < ·)
def var:Vs→B→Option B
 | [],_=>none
 | p::l,n=>if p.1=n then some p.2 else var l n
def unset (l:Vs) (n:B):Vs:=l.filter fun p=>!decide (p.1=n)
def put:Vs→B→B→Vs
 | [],n,v=>[(n,v)]
 | p::l,n,v=>if p.1<n then p::put l n v else (n,v)::p::l
def setV (l:Vs) (n v:B):Vs:=put (unset l n) n v
theorem lt_irrefl (a:B):¬ a<a:=List.lt_irrefl a
theorem lt_trans {a b c:B} (h1:a<b) (h2:b<c):a<c:=List.lt_trans h1 h2
theorem lt_ne {a b:B} (h:a<b):a≠b:=fun e=>by subst e;exact lt_irrefl _ h
theorem lt_of {a b:B} (h:¬ a<b) (hn:a≠b):b<a:=by
 by_cases h1:b<a
 ·exact h1
 ·exact absurd (List.le_antisymm (show a≤b from h1) (show b≤a from h)) hn
theorem Rises.tail {p:B×B} {l:Vs} (h:Rises (p::l)):Rises l:=(List.pairwise_cons.1 h).2
theorem Rises.head {p:B×B} {l:Vs} (h:Rises (p::l)):∀ q∈l,p.1<q.1:=fun q hq=>(List.pairwise_cons.1 h).1 q.1 (List.mem_map.2 ⟨q,hq,rfl⟩)
theorem Rises.cons {p:B×B} {l:Vs} (h:Rises l) (h2:∀ q∈l,p.1<q.1):Rises (p::l):=List.pairwise_cons.2 ⟨fun a ha=>by obtain⟨q,hq,rfl⟩:=List.mem_map.1 ha;exact h2 q hq,h⟩
theorem Rises.nil:Rises []:=List.Pairwise.nil
theorem Rises.filter {l:Vs} (h:Rises l) (f:B×B→Bool):Rises (l.filter f):=by
 unfold Rises at *
 exact List.Pairwise.sublist (List.Sublist.map _ (List.filter_sublist)) h
theorem Rises.unset {l:Vs} (h:Rises l) (n:B):Rises (unset l n):=h.filter _
theorem mem_put {l:Vs} {n v:B} {q:B×B}:q∈put l n v↔q=(n,v)∨q∈l:=by
 induction l with
 | nil=>simp[put]
 | cons p l ih=>
  unfold put
  split
  ·rw[List.mem_cons,ih,List.mem_cons]
   constructor
   ·rintro(h | h | h)
    ·exact .inr (.inl h)
    ·exact .inl h
    ·exact .inr (.inr h)
   ·rintro(h | h | h)
    ·exact .inr (.inl h)
    ·exact .inl h
    ·exact .inr (.inr h)
  ·rw[List.mem_cons]
theorem mem_unset {l:Vs} {n:B} {q:B×B}:q∈unset l n↔q∈l∧q.1≠n:=by
 unfold unset
 rw[List.mem_filter]
 simp
theorem Rises.put {l:Vs} {n v:B} (h:Rises l) (hn:∀ q∈l,q.1≠n):Rises (put l n v):=by
 induction l with
 | nil=>exact Rises.cons .nil (by simp)
 | cons p l ih=>
  unfold En.put
  split
  ·rename_i hp
   refine Rises.cons (ih h.tail fun q hq=>hn q (List.mem_cons_of_mem _ hq)) fun q hq=>?_
   rcases mem_put.1 hq with rfl | hq
   ·exact hp
   ·exact h.head q hq
  ·rename_i hp
   have h1:=lt_of hp (hn p (List.mem_cons_self ..))
   refine Rises.cons h fun q hq=>?_
   rcases List.mem_cons.1 hq with rfl | hq
   ·exact h1
   ·exact lt_trans h1 (h.head q hq)
theorem Rises.setV {l:Vs} (h:Rises l) (n v:B):Rises (setV l n v):=(h.unset n).put fun _ hq=>(mem_unset.1 hq).2
theorem var_none {l:Vs} {n:B}:var l n=none↔∀ q∈l,q.1≠n:=by
 induction l with
 | nil=>simp[var]
 | cons p l ih=>
  unfold var
  split
  ·rename_i h;simp[h]
  ·rename_i h;rw[ih];simp[h]
theorem var_unset_self (l:Vs) (n:B):var (unset l n) n=none:=var_none.2 fun _ hq=>(mem_unset.1 hq).2
theorem var_unset (l:Vs) {n m:B} (h:m≠n):var (unset l n) m=var l m:=by
 induction l with
 | nil=>rfl
 | cons p l ih=>
  unfold unset at ih⊢
  rw[List.filter_cons]
  by_cases hp:p.1=n
  ·have hp2:p.1≠m:=fun e=>h (e.symm.trans hp)
   simp only[hp,decide_true,Bool.not_true,Bool.false_eq_true,if_false,ih]
   rw[var,if_neg hp2]
  ·simp only[hp,decide_false,Bool.not_false,if_true,var,ih]
theorem var_put_self (l:Vs) (n v:B) (hn:∀ q∈l,q.1≠n):var (put l n v) n=some v:=by
 induction l with
 | nil=>simp[put,var]
 | cons p l ih=>
  unfold put
  split
  ·rw[var,if_neg (hn p (List.mem_cons_self ..))];exact ih fun q hq=>hn q (List.mem_cons_of_mem _ hq)
  ·rw[var,if_pos rfl]
theorem var_put (l:Vs) {n m:B} (v:B) (h:m≠n):var (put l n v) m=var l m:=by
 induction l with
 | nil=>simp[put,var,Ne.symm h]
 | cons p l ih=>
  unfold put
  split
  ·rw[var,ih,var]
  ·rw[var,if_neg (Ne.symm h)]
theorem var_set_self (l:Vs) (n v:B):var (setV l n v) n=some v:=var_put_self _ _ _ fun _ hq=>(mem_unset.1 hq).2
theorem var_set (l:Vs) {n m:B} (v:B) (h:m≠n):var (setV l n v) m=var l m:=(var_put _ v h).trans (var_unset l h)
theorem put_len (l:Vs) (n v:B):(put l n v).length=l.length+1:=by
 induction l with
 | nil=>rfl
 | cons p l ih=>unfold put;split <;> simp[ih]
theorem unset_of {l:Vs} {n:B} (h:∀ q∈l,q.1≠n):unset l n=l:=by
 unfold unset
 rw[List.filter_eq_self]
 intro q hq
 simp[h q hq]
theorem unset_put {l:Vs} {n v:B} (h:∀ q∈l,q.1≠n):unset (put l n v) n=l:=by
 induction l with
 | nil=>simp[put,unset]
 | cons p l ih=>
  have h1:=h p (List.mem_cons_self ..)
  have h2:∀ q∈l,q.1≠n:=fun q hq=>h q (List.mem_cons_of_mem _ hq)
  unfold put
  split
  ·have:=ih h2
   unfold unset at this⊢
   rw[List.filter_cons,this]
   simp[h1]
  ·have:=unset_of (l:=p::l) h
   unfold unset at this⊢
   rw[List.filter_cons,this]
   simp
theorem unset_set (l:Vs) (n v:B):unset (setV l n v) n=unset l n:=unset_put fun _ hq=>(mem_unset.1 hq).2
theorem set_len (l:Vs) (n v:B):(unset (setV l n v) n).length+1=(setV l n v).length:=by rw[unset_set,setV,put_len]
theorem put_at {a b:Vs} {n v:B} (ha:∀ q∈a,q.1<n) (hb:∀ q∈b,n<q.1):put (a++b) n v=a++(n,v)::b:=by
 induction a with
 | nil=>
  cases b with
  | nil=>rfl
  | cons p b=>
   have h:=hb p (List.mem_cons_self ..)
   have h2:¬ p.1<n:=fun h3=>lt_irrefl _ (lt_trans h h3)
   simp[put,h2]
 | cons p a ih=>
  have h:=ha p (List.mem_cons_self ..)
  have:=ih fun q hq=>ha q (List.mem_cons_of_mem _ hq)
  simp[put,h,this]
theorem rises_split {l:Vs} (h:Rises l) (n:B):∃ a m b,l=a++m++b∧(∀ q∈a,q.1<n)∧(∀ q∈b,n<q.1)∧(m=[]∨∃ v,m=[(n,v)]):=by
 induction l with
 | nil=>exact⟨[],[],[],rfl,by simp,by simp,.inl rfl⟩
 | cons p l ih=>
  obtain⟨a,m,b,e,h1,h2,h3⟩:=ih h.tail
  by_cases hp:p.1<n
  ·exact⟨p::a,m,b,by simp[e],fun q hq=>(List.mem_cons.1 hq).elim (fun e=>e ▸ hp) (h1 q),h2,h3⟩
  ·by_cases he:p.1=n
   ·refine⟨[],[(n,p.2)],l,by simp[←he],by simp,fun q hq=>he ▸ h.head q hq,.inr ⟨_,rfl⟩⟩
   ·have hlt:=lt_of hp he
    exact⟨[],[],p::l,by simp,by simp,fun q hq=>(List.mem_cons.1 hq).elim (fun e=>e ▸ hlt) fun hq=>lt_trans hlt (h.head q hq),.inl rfl⟩
theorem unset_split {a m b:Vs} {n:B} (ha:∀ q∈a,q.1<n) (hb:∀ q∈b,n<q.1) (hm:m=[]∨∃ v,m=[(n,v)]):unset (a++m++b) n=a++b:=by
 have h1:unset a n=a:=unset_of fun q hq=>lt_ne (ha q hq)
 have h2:unset b n=b:=unset_of fun q hq=>(lt_ne (hb q hq)).symm
 have h3:unset m n=[]:=by rcases hm with rfl | ⟨v,rfl⟩ <;> simp[unset]
 unfold unset at *
 rw[List.filter_append,List.filter_append,h1,h2,h3,List.append_nil]
theorem set_split {a m b:Vs} {n:B} (v:B) (ha:∀ q∈a,q.1<n) (hb:∀ q∈b,n<q.1) (hm:m=[]∨∃ v,m=[(n,v)]):setV (a++m++b) n v=a++(n,v)::b:=by
 unfold setV
 rw[unset_split ha hb hm,put_at ha hb]
end En
end Go.Proofs.YtipdgmjplnibeaaGreatDoor
namespace Go.Proofs.YtipdgmjplnibeaaGreatDoor
namespace En
def digB (c:UInt8):Bool:=decide (48≤c) && decide (c≤57)
def numB (s:List UInt8):Bool:=match s with
 | []=>false
 | c::_=>!decide (c=48) && s.all digB
def val (s:List UInt8):Nat:=s.foldl (fun v c=>v*10+(c.toNat-48)) 0
theorem val_snoc (s:List UInt8) (c:UInt8):val (s++[c])=val s*10+(c.toNat-48):=by unfold val;rw[List.foldl_append];rfl
theorem digB_nat {c:UInt8}:digB c=true↔48≤c.toNat∧c.toNat≤57:=by
 unfold digB
 rw[Bool.and_eq_true,decide_eq_true_iff,decide_eq_true_iff,UInt8.le_iff_toNat_le,UInt8.le_iff_toNat_le]
 rfl
theorem byte_dig {c:UInt8} (h:digB c=true):UInt8.ofNat (48+(c.toNat-48))=c:=by
 obtain⟨h1,h2⟩:=digB_nat.1 h
 rw[show 48+(c.toNat-48)=c.toNat by omega]
 exact UInt8.ofNat_toNat
theorem dig_byte {d:Nat} (h:d<10):digB (UInt8.ofNat (48+d))=true∧(UInt8.ofNat (48+d)).toNat-48=d:=by
 have e:(UInt8.ofNat (48+d)).toNat=48+d:=by rw[UInt8.toNat_ofNat'];omega
 exact⟨digB_nat.2 (by omega),by omega⟩
theorem numB_snoc {s:List UInt8} {c:UInt8} (hs:s≠[]):numB (s++[c])=(numB s && digB c):=by
 cases s with
 | nil=>exact absurd rfl hs
 | cons a s=>
  show (!decide (a=48) && ((a::s)++[c]).all digB)=((!decide (a=48) && (a::s).all digB) && digB c)
  rw[List.all_append,Bool.and_assoc]
  simp
theorem dec_small' {n:Nat} (h:n<10):Lib.decDigits n=[UInt8.ofNat (48+n)]:=by rw[Lib.decDigits,dif_pos h]
theorem dec_big' {n:Nat} (h:¬ n<10):Lib.decDigits n=Lib.decDigits (n / 10)++[UInt8.ofNat (48+n % 10)]:=by rw[Lib.decDigits,dif_neg h]
theorem val_dec (n:Nat):val (Lib.decDigits n)=n:=by
 induction n using Nat.strongRecOn with
 | ind n ih=>
  by_cases h:n<10
  ·rw[dec_small' h]
   show 0*10+((UInt8.ofNat (48+n)).toNat-48)=n
   have:=(dig_byte h).2
   omega
  ·rw[dec_big' h,val_snoc,ih (n / 10) (by omega),(dig_byte (d:=n % 10) (by omega)).2]
   omega
theorem dec_ne (n:Nat):Lib.decDigits n≠[]:=by
 by_cases h:n<10
 ·rw[dec_small' h];simp
 ·rw[dec_big' h];simp
theorem dec_num (n:Nat) (h0:0<n):numB (Lib.decDigits n)=true:=by
 induction n using Nat.strongRecOn with
 | ind n ih=>
  by_cases h:n<10
  ·rw[dec_small' h]
   obtain⟨h1,h2⟩:=dig_byte h
   have h3:¬ (UInt8.ofNat (48+n)=48):=fun e=>by rw[e] at h2;simp at h2;omega
   show (!decide (UInt8.ofNat (48+n)=48) && [UInt8.ofNat (48+n)].all digB)=true
   rw[decide_eq_false h3,List.all_cons,h1]
   rfl
  ·rw[dec_big' h,numB_snoc (dec_ne _),ih (n / 10) (by omega) (by omega),(dig_byte (d:=n % 10) (by omega)).1]
   rfl
theorem snoc_of {α:Type}:∀ (s:List α),s≠[]→∃ a c,s=a++[c]:=fun s h=>⟨s.dropLast,s.getLast h,(List.dropLast_concat_getLast h).symm⟩
theorem val_pos (n:Nat):∀ s:List UInt8,s.length=n→numB s=true→0<val s∧Lib.decDigits (val s)=s:=by
 induction n with
 | zero=>intro s hs h;rw[List.length_eq_zero_iff.1 hs] at h;cases h
 | succ n ih=>
  intro s hs h
  obtain⟨a,c,rfl⟩:=snoc_of s (by intro e;rw[e] at hs;cases hs)
  have hl:a.length=n:=by rw[List.length_append] at hs;simpa using hs
  by_cases ha:a=[]
  ·subst ha
   simp only[List.nil_append,numB,List.all_cons,List.all_nil,Bool.and_true,Bool.and_eq_true,Bool.not_eq_true',decide_eq_false_iff_not] at h
   obtain⟨h1,h2⟩:=h
   have h3:=digB_nat.1 h2
   have hv:val ([]++[c])=c.toNat-48:=by rw[val_snoc];show 0*10+_=_;omega
   have h4:c.toNat≠48:=fun e=>h1 (UInt8.toNat_inj.1 e)
   rw[hv]
   refine⟨by omega,?_⟩
   rw[dec_small' (by omega),byte_dig h2]
   rfl
  ·rw[numB_snoc ha,Bool.and_eq_true] at h
   obtain⟨h1,h2⟩:=ih a hl h.1
   have h3:=digB_nat.1 h.2
   have hv:=val_snoc a c
   refine⟨by omega,?_⟩
   rw[hv,dec_big' (by omega),show (val a*10+(c.toNat-48)) / 10=val a by omega,show (val a*10+(c.toNat-48)) % 10=c.toNat-48 by omega,h2,byte_dig h.2]
theorem dec_val {s:List UInt8} (h:numB s=true):Lib.decDigits (val s)=s:=(val_pos _ s rfl h).2
theorem dec_iff {n:Nat} (h0:0<n) {s:List UInt8}:Lib.decDigits n=s↔numB s=true∧val s=n:=by
 constructor
 ·rintro rfl
  exact⟨dec_num n h0,val_dec n⟩
 ·rintro⟨h1,h2⟩
  rw[←h2,dec_val h1]
theorem val_ge (n:Nat):∀ s:List UInt8,s.length=n+1→numB s=true→10 ^ n≤val s:=by
 induction n with
 | zero=>intro s hs h;have:=(val_pos _ s rfl h).1;omega
 | succ n ih=>
  intro s hs h
  obtain⟨a,c,rfl⟩:=snoc_of s (by intro e;rw[e] at hs;cases hs)
  have hl:a.length=n+1:=by rw[List.length_append] at hs;simpa using hs
  have ha:a≠[]:=by intro e;rw[e] at hl;cases hl
  rw[numB_snoc ha,Bool.and_eq_true] at h
  have h1:=ih a hl h.1
  rw[val_snoc,Nat.pow_succ]
  omega
theorem val_lt:∀ (s:List UInt8),s.all digB=true→val s<10 ^ s.length:=by
 intro s
 suffices ∀ n,∀ s:List UInt8,s.length=n→s.all digB=true→val s<10 ^ n from this _ s rfl
 intro n
 induction n with
 | zero=>intro s hs _;rw[List.length_eq_zero_iff.1 hs];decide
 | succ n ih=>
  intro s hs h
  obtain⟨a,c,rfl⟩:=snoc_of s (by intro e;rw[e] at hs;cases hs)
  have hl:a.length=n:=by rw[List.length_append] at hs;simpa using hs
  rw[List.all_append,Bool.and_eq_true] at h
  have h1:=ih a hl h.1
  have h2:digB c=true:=by simpa using h.2
  have h3:=digB_nat.1 h2
  rw[val_snoc,Nat.pow_succ]
  omega
def arg (args:List (List UInt8)) (s:List UInt8):Option (List UInt8):=if numB s=true then args[val s-1]? else none
theorem arg_some {args:List (List UInt8)} {s:List UInt8} {i:Nat} (h:i<args.length) (hd:Lib.decDigits (i+1)=s):arg args s=some args[i]:=by
 obtain⟨h1,h2⟩:=(dec_iff (by omega)).1 hd
 unfold arg
 rw[if_pos h1,h2,Nat.add_sub_cancel]
 exact List.getElem?_eq_getElem h
theorem arg_none {args:List (List UInt8)} {s:List UInt8} (h:∀ i,i<args.length→Lib.decDigits (i+1)≠s):arg args s=none:=by
 unfold arg
 split
 ·rename_i h1
  have hp:=(val_pos _ s rfl h1).1
  by_cases hv:val s-1<args.length
  ·have:=h (val s-1) hv
   rw[Nat.sub_add_cancel hp,dec_val h1] at this
   exact absurd rfl this
  ·exact List.getElem?_eq_none (by omega)
 ·rfl
end En
end Go.Proofs.YtipdgmjplnibeaaGreatDoor
namespace Go.Proofs.YtipdgmjplnibeaaGreatDoor
namespace En
structure E where
 vars:Vs
 args:List B
 status:Nat
 flags:B
def IFS:B:=[73,70,83]
def ifs (l:Vs):B:=(var l IFS).getD [32,9,10]
def joined (sep:B):List B→B
 | []=>[]
 | x::l=>x++(l.map (sep++·)).flatten
theorem joined_snoc (sep:B) (l:List B) (x:B):joined sep (l++[x])=joined sep l++((if l=[] then [] else sep)++x):=by
 cases l with
 | nil=>simp[joined]
 | cons y l=>simp[joined]
theorem joined_take (sep:B) {l:List B} {i:Nat} (h:i<l.length):joined sep (l.take (i+1))=joined sep (l.take i)++((if i=0 then [] else sep)++l[i]):=by
 rw[List.take_succ_eq_append_getElem h,joined_snoc]
 by_cases hi:i=0
 ·subst hi;simp
 ·have h1:l.take i≠[]:=by
   intro e
   have:=congrArg List.length e
   rw[List.length_take,List.length_nil] at this
   omega
  rw[if_neg h1,if_neg hi]
theorem joined_len (sep:B) (n:Nat):∀ (l:List B),(∀ x∈l,x.length≤n)→(joined sep l).length≤l.length*(n+sep.length)
 | [],_=>by simp[joined]
 | x::l,h=>by
  have h1:=h x (List.mem_cons_self ..)
  have h2:∀ (l:List B),(∀ x∈l,x.length≤n)→((l.map (sep++·)).flatten).length≤l.length*(n+sep.length):=by
   intro l
   induction l with
   | nil=>intro _;simp
   | cons y l ih=>
    intro h
    have h3:=h y (List.mem_cons_self ..)
    have h4:=ih fun z hz=>h z (List.mem_cons_of_mem _ hz)
    simp only[List.map_cons,List.flatten_cons,List.length_append,List.length_cons,Nat.add_mul,Nat.one_mul] at h4⊢
    omega
  have h5:=h2 l fun z hz=>h z (List.mem_cons_of_mem _ hz)
  simp only[joined,List.length_append,List.length_cons,Nat.add_mul,Nat.one_mul] at h5⊢
  omega
def told (o:Option B):B×Bool:=match o with
 | none=>([],false)
 | some v=>(v,true)
def get (nm:B→Bool) (e:E) (s:B):B×Bool:=
 if nm s=true then told (var e.vars s)
 else if s=[48] then ([115,104],true)
 else if s=[63] then (Lib.decDigits e.status,true)
 else if s=[35] then (Lib.decDigits e.args.length,true)
 else if s=[45] then (e.flags,true)
 else if s=[64]∨s=[42] then (joined ((ifs e.vars).take 1) e.args,!e.args.isEmpty)
 else told (arg e.args s)
def set (nm:B→Bool) (e:E) (n v:B):E:=if nm n=true then { e with vars:=setV e.vars n v } else e
def unsetE (e:E) (n:B):E:={ e with vars:=unset e.vars n }
def efux:B:=[101,102,117,120]
def flag (f:B) (c:UInt8) (on:Bool):B:=efux.filter fun x=>if x=c then on else f.contains x
def FlagsOk (f:B):Prop:=f=efux.filter fun x=>f.contains x
theorem FlagsOk.nil:FlagsOk []:=by unfold FlagsOk efux;decide
theorem has_filter (g:UInt8→Bool) (x:UInt8):(efux.filter g).contains x=(efux.contains x && g x):=by
 rw[Bool.eq_iff_iff,Bool.and_eq_true,List.contains_iff_mem,List.contains_iff_mem,List.mem_filter]
theorem filter_same {g h:UInt8→Bool} (e:∀ x∈efux,g x=h x):efux.filter g=efux.filter h:=List.filter_congr e
theorem FlagsOk.flag (f:B) (c:UInt8) (on:Bool):FlagsOk (flag f c on):=by
 unfold FlagsOk En.flag
 refine filter_same fun x hx=>?_
 rw[has_filter,List.contains_iff_mem.2 hx,Bool.true_and]
theorem flag_other {f:B} (h:FlagsOk f) {c:UInt8} (hc:c∉efux) (on:Bool):flag f c on=f:=by
 conv=>rhs;rw[h]
 unfold flag
 refine filter_same fun x hx=>?_
 rw[if_neg (fun e:x=c=>hc (e ▸ hx))]
theorem has_flag {f:B} {c:UInt8} (hc:c∈efux) (on:Bool) (x:UInt8):(flag f c on).contains x=if x=c then on else efux.contains x && f.contains x:=by
 unfold flag
 rw[has_filter]
 by_cases hx:x=c
 ·subst hx
  rw[if_pos rfl,if_pos rfl,List.contains_iff_mem.2 hc,Bool.true_and]
 ·rw[if_neg hx,if_neg hx]
theorem get_set_self {nm:B→Bool} {e:E} {n:B} (v:B) (h:nm n=true):get nm (set nm e n v) n=(v,true):=by
 unfold get set
 rw[if_pos h,if_pos h]
 show told (var (setV e.vars n v) n)=_
 rw[var_set_self]
 rfl
theorem get_unset_self {nm:B→Bool} {e:E} {n:B} (h:nm n=true):get nm (unsetE e n) n=([],false):=by
 unfold get unsetE
 rw[if_pos h]
 show told (var (unset e.vars n) n)=_
 rw[var_unset_self]
 rfl
theorem ifs_set {l:Vs} {n:B} (v:B) (h:n≠IFS):ifs (setV l n v)=ifs l:=by unfold ifs;rw[var_set _ _ (Ne.symm h)]
theorem get_set {nm:B→Bool} {e:E} {n m:B} (v:B) (h:n≠m) (hi:n≠IFS):get nm (set nm e n v) m=get nm e m:=by
 unfold set
 split
 ·unfold get
  show (if nm m=true then told (var (setV e.vars n v) m) else _)=_
  rw[var_set _ _ (Ne.symm h)]
  show (if nm m=true then _ else if m=[48] then _ else if m=[63] then _ else if m=[35] then _ else if m=[45] then _ else if m=[64]∨m=[42] then (joined ((ifs (setV e.vars n v)).take 1) e.args,!e.args.isEmpty) else _)=_
  rw[ifs_set _ hi]
 ·rfl
theorem put_index {n v:B}:∀ {l:Vs} {k:Nat},k≤l.length→(∀ j (h:j<l.length),j<k→l[j].1<n)→(∀ h:k<l.length,¬ l[k].1<n)→put l n v=l.take k++(n,v)::l.drop k
 | [],k,hk,_,_=>by simp at hk;subst hk;rfl
 | p::l,0,_,_,h2=>by
  have:=h2 (by simp)
  simp only[List.getElem_cons_zero] at this
  rw[put,if_neg this]
  rfl
 | p::l,k+1,hk,h1,h2=>by
  have h3:=h1 0 (by simp) (by omega)
  simp only[List.getElem_cons_zero] at h3
  rw[put,if_pos h3,put_index (l:=l) (k:=k) (by simpa using hk) (fun j h hj=>h1 (j+1) (Nat.succ_lt_succ h) (by omega)) (fun h=>h2 (Nat.succ_lt_succ h))]
  rfl
theorem unset_take {l:Vs} {n:B} {k:Nat} (h:k<l.length):unset (l.take (k+1)) n=unset (l.take k) n++(if l[k].1=n then [] else [l[k]]):=by
 unfold unset
 rw[List.take_succ_eq_append_getElem h,List.filter_append]
 by_cases e:l[k].1=n <;> simp[e]
theorem var_at {l:Vs} {n:B} {k:Nat} (h:k<l.length) (h1:∀ j (h:j<l.length),j<k→l[j].1≠n) (h2:l[k].1=n):var l n=some l[k].2:=by
 induction l generalizing k with
 | nil=>cases h
 | cons p l ih=>
  cases k with
  | zero=>rw[var,if_pos (show p.1=n from h2)];rfl
  | succ k=>
   have h3:=h1 0 (by simp) (by omega)
   simp only[List.getElem_cons_zero] at h3
   rw[var,if_neg h3,ih (k:=k) (by simpa using h) (fun j hj hk=>h1 (j+1) (Nat.succ_lt_succ hj) (by omega)) h2]
   rfl
theorem flag_take (f:B) (c:UInt8) (on:Bool) {k:Nat} (h:k<efux.length):((efux.take (k+1)).filter fun x=>if x=c then on else f.contains x)=((efux.take k).filter fun x=>if x=c then on else f.contains x)++(if (if efux[k]=c then on else f.contains efux[k])=true then [efux[k]] else []):=by
 rw[List.take_succ_eq_append_getElem h,List.filter_append]
 by_cases e:(if efux[k]=c then on else f.contains efux[k])=true
 ·rw[if_pos e,List.filter_cons,if_pos e];rfl
 ·rw[if_neg e,List.filter_cons,if_neg e];rfl
end En
end Go.Proofs.YtipdgmjplnibeaaGreatDoor
namespace Go.Proofs.YtipdgmjplnibeaaGreatDoor
namespace Jo
abbrev Rw:=List (UInt8×UInt8)
structure Q where
 out:List Rw
 now:Rw
 begun:Bool
 blank:Bool
def sepB (ifs:List UInt8) (p:UInt8×UInt8):Bool:=p.2==115 && ifs.contains p.1
def whiteB (c:UInt8):Bool:=c==32 || c==9 || c==10
def step (ifs:List UInt8) (σ:Q) (p:UInt8×UInt8):Q:=
 if sepB ifs p=true then
  if whiteB p.1=true then (if σ.begun=true then ⟨σ.out++[σ.now],[],false,true⟩ else σ)
  else ⟨if (σ.begun || !σ.blank)=true then σ.out++[σ.now] else σ.out,[],false,false⟩
 else if (p.2==98)=true then ⟨if σ.begun=true then σ.out++[σ.now] else σ.out,[],false,false⟩
 else ⟨σ.out,if (p.2==101)=true then σ.now else σ.now++[p],true,false⟩
def fin (σ:Q):List Rw:=if σ.begun=true then σ.out++[σ.now] else σ.out
def init:Q:=⟨[],[],false,false⟩
def run (ifs:List UInt8) (z:Rw):Q:=z.foldl (step ifs) init
def split (ifs:List UInt8) (z:Rw):List Rw:=fin (run ifs z)
theorem run_snoc (ifs:List UInt8) (z:Rw) (p:UInt8×UInt8):run ifs (z++[p])=step ifs (run ifs z) p:=by
 unfold run
 rw[List.foldl_append]
 rfl
def Ok (σ:Q):Prop:=σ.begun=false→σ.now=[]
theorem step_ok {ifs:List UInt8} {σ:Q} (h:Ok σ) (p:UInt8×UInt8):Ok (step ifs σ p):=by
 unfold step
 split
 ·split
  ·split
   ·exact fun _=>rfl
   ·exact h
  ·exact fun _=>rfl
 ·split
  ·exact fun _=>rfl
  ·intro e;cases e
theorem run_ok (ifs:List UInt8) (z:Rw):Ok (run ifs z):=by
 unfold run
 suffices ∀ (z:Rw) (σ:Q),Ok σ→Ok (z.foldl (step ifs) σ) from this z init (fun _=>rfl)
 intro z
 induction z with
 | nil=>exact fun σ h=>h
 | cons p z ih=>exact fun σ h=>ih _ (step_ok h p)
def plainB (ifs:List UInt8) (p:UInt8×UInt8):Bool:=!sepB ifs p && !(p.2==98) && !(p.2==101)
theorem step_keeps {ifs:List UInt8} {σ:Q} (h:Ok σ) (p:UInt8×UInt8):(step ifs σ p).out.flatten++(step ifs σ p).now=(σ.out.flatten++σ.now)++[p].filter (plainB ifs):=by
 unfold step plainB
 cases hs:sepB ifs p with
 | true=>
  simp only[if_true]
  cases hw:whiteB p.1 with
  | true=>
   cases hb:σ.begun with
   | true=>simp[hs]
   | false=>simp[hs]
  | false=>
   cases hb:σ.begun with
   | true=>simp[hs]
   | false=>
    have:=h hb
    cases hk:σ.blank <;> simp[hs,this]
 | false=>
  cases h8:(p.2==98) with
  | true=>
   cases hb:σ.begun with
   | true=>simp[h8]
   | false=>
    have:=h hb
    simp[h8,this]
  | false=>
   cases h1:(p.2==101) with
   | true=>simp[hs,h8,h1]
   | false=>simp[hs,h8,h1]
theorem run_keeps (ifs:List UInt8) (z:Rw):(run ifs z).out.flatten++(run ifs z).now=z.filter (plainB ifs):=by
 suffices ∀ (z:Rw) (σ:Q),Ok σ→(z.foldl (step ifs) σ).out.flatten++(z.foldl (step ifs) σ).now=(σ.out.flatten++σ.now)++z.filter (plainB ifs) from by
  have:=this z init (fun _=>rfl)
  simpa [run,init] using this
 intro z
 induction z with
 | nil=>intro σ _;simp
 | cons p z ih=>
  intro σ h
  rw[List.foldl_cons,ih _ (step_ok h p),step_keeps h p,List.append_assoc,←List.filter_append]
  rfl
theorem split_flat (ifs:List UInt8) (z:Rw):(split ifs z).flatten=z.filter (plainB ifs):=by
 have h:=run_keeps ifs z
 unfold split fin
 split
 ·rw[←h];simp
 ·rename_i hb
  have:=run_ok ifs z (by simpa using hb)
  rw[this,List.append_nil] at h
  exact h
def parts:Rw→Bool→Nat
 | [],_=>0
 | p::z,b=>if (p.2==98)=true then parts z false else (if b=true then 0 else 1)+parts z true
theorem split_parts (z:Rw):(split [] z).length=parts z false:=by
 suffices ∀ (z:Rw) (σ:Q),(fin (z.foldl (step []) σ)).length=σ.out.length+(if σ.begun=true then 1 else 0)+parts z σ.begun from by
  have:=this z init
  simpa [split,run,init] using this
 intro z
 induction z with
 | nil=>
  intro σ
  unfold fin
  cases hb:σ.begun <;> simp[parts,hb]
 | cons p z ih=>
  intro σ
  rw[List.foldl_cons,ih]
  have hs:sepB [] p=false:=by simp[sepB]
  unfold step
  rw[hs]
  simp only[Bool.false_eq_true,if_false,parts]
  cases h8:(p.2==98) with
  | true=>
   cases hb:σ.begun <;> simp
  | false=>
   cases hb:σ.begun <;> simp <;> omega
theorem run_plain {ifs:List UInt8}:∀ (w:Rw) (σ:Q),(∀ p∈w,plainB ifs p=true)→w≠[]→w.foldl (step ifs) σ=⟨σ.out,σ.now++w,true,false⟩
 | [],_,_,h=>absurd rfl h
 | [p],σ,h,_=>by
  have h1:=h p (List.mem_cons_self ..)
  unfold plainB at h1
  simp only[Bool.and_eq_true,Bool.not_eq_true'] at h1
  simp only[List.foldl_cons,List.foldl_nil,step,h1.1.1,h1.1.2,h1.2,Bool.false_eq_true,if_false]
 | p::q::w,σ,h,_=>by
  have h1:=h p (List.mem_cons_self ..)
  unfold plainB at h1
  simp only[Bool.and_eq_true,Bool.not_eq_true'] at h1
  rw[List.foldl_cons,run_plain (q::w) _ (fun x hx=>h x (List.mem_cons_of_mem _ hx)) (by simp)]
  simp only[step,h1.1.1,h1.1.2,h1.2,Bool.false_eq_true,if_false]
  simp
def of (s:List UInt8) (m:UInt8):Rw:=s.map fun c=>(c,m)
theorem of_app (a b:List UInt8) (m:UInt8):of (a++b) m=of a m++of b m:=List.map_append
def blanks:List UInt8:=[32,9,10]
theorem word_plain {w:List UInt8} (h:∀ c∈w,whiteB c=false):∀ p∈of w 115,plainB blanks p=true:=by
 intro p hp
 obtain⟨c,hc,rfl⟩:=List.mem_map.1 hp
 have:=h c hc
 unfold whiteB at this
 simp only[Bool.or_eq_false_iff,beq_eq_false_iff_ne] at this
 simp[plainB,sepB,blanks,this.1.1,this.1.2,this.2]
theorem run_blanks:∀ (b:List UInt8) (σ:Q),(∀ c∈b,whiteB c=true)→σ.begun=false→(of b 115).foldl (step blanks) σ=σ
 | [],_,_,_=>rfl
 | c::b,σ,h,hb=>by
  have h1:=h c (List.mem_cons_self ..)
  have hs:sepB blanks (c,115)=true:=by
   unfold whiteB at h1
   simp only[Bool.or_eq_true,beq_iff_eq] at h1
   rcases h1 with(h1 | h1) | h1 <;> (rw[h1];rfl)
  show (of b 115).foldl (step blanks) (step blanks σ (c,115))=σ
  have e:step blanks σ (c,115)=σ:=by unfold step;rw[if_pos hs,if_pos h1,if_neg (by rw[hb];simp)]
  rw[e]
  exact run_blanks b σ (fun x hx=>h x (List.mem_cons_of_mem _ hx)) hb
theorem run_end {b:List UInt8} (σ:Q) (h:∀ c∈b,whiteB c=true) (hne:b≠[]) (hb:σ.begun=true):(of b 115).foldl (step blanks) σ=⟨σ.out++[σ.now],[],false,true⟩:=by
 cases b with
 | nil=>exact absurd rfl hne
 | cons c b=>
  have h1:=h c (List.mem_cons_self ..)
  have hs:sepB blanks (c,115)=true:=by
   unfold whiteB at h1
   simp only[Bool.or_eq_true,beq_iff_eq] at h1
   rcases h1 with(h1 | h1) | h1 <;> (rw[h1];rfl)
  show (of b 115).foldl (step blanks) (step blanks σ (c,115))=_
  have e:step blanks σ (c,115)=⟨σ.out++[σ.now],[],false,true⟩:=by unfold step;rw[if_pos hs,if_pos h1,if_pos hb]
  rw[e]
  exact run_blanks b _ (fun x hx=>h x (List.mem_cons_of_mem _ hx)) rfl
def glue (lead sep:List UInt8):List (List UInt8)→List UInt8
 | []=>[]
 | w::ws=>lead++w++glue sep sep ws
theorem run_glue (sep:List UInt8) (hs:∀ c∈sep,whiteB c=true) (hne:sep≠[]):∀ (ws:List (List UInt8)),(∀ w∈ws,w≠[]∧∀ c∈w,whiteB c=false)→∀ (out:List Rw) (w0:Rw),∃ σ,(of (glue sep sep ws) 115).foldl (step blanks) ⟨out,w0,true,false⟩=σ∧σ.begun=true∧σ.out++[σ.now]=out++[w0]++ws.map fun w=>of w 115
 | [],_,out,w0=>⟨⟨out,w0,true,false⟩,rfl,rfl,by simp⟩
 | w::ws,h,out,w0=>by
  obtain⟨h1,h2⟩:=h w (List.mem_cons_self ..)
  obtain⟨σ,e1,e2,e3⟩:=run_glue sep hs hne ws (fun x hx=>h x (List.mem_cons_of_mem _ hx)) (out++[w0]) (of w 115)
  refine⟨σ,?_,e2,by rw[e3];simp⟩
  rw[←e1]
  simp only[glue,of_app,List.foldl_append]
  rw[run_end _ hs hne rfl,run_plain (of w 115) _ (word_plain h2) (by simpa [of] using h1)]
  simp
theorem split_glue (lead sep tail:List UInt8) (hl:∀ c∈lead,whiteB c=true) (hs:∀ c∈sep,whiteB c=true) (hne:sep≠[]) (ht:∀ c∈tail,whiteB c=true) (ws:List (List UInt8)) (h:∀ w∈ws,w≠[]∧∀ c∈w,whiteB c=false):split blanks (of (glue lead sep ws++tail) 115)=ws.map fun w=>of w 115:=by
 unfold split run
 cases ws with
 | nil=>
  simp only[glue,List.nil_append]
  rw[run_blanks tail init ht rfl]
  rfl
 | cons w ws=>
  obtain⟨h1,h2⟩:=h w (List.mem_cons_self ..)
  obtain⟨σ,e1,e2,e3⟩:=run_glue sep hs hne ws (fun x hx=>h x (List.mem_cons_of_mem _ hx)) [] (of w 115)
  simp only[glue,of_app,List.foldl_append]
  rw[run_blanks lead init hl rfl,run_plain (of w 115) _ (word_plain h2) (by simpa [of] using h1)]
  show fin ((of tail 115).foldl (step blanks) ((of (glue sep sep ws) 115).foldl (step blanks) ⟨[],[]++of w 115,true,false⟩))=_
  rw[List.nil_append,e1]
  have e4:σ.out++[σ.now]=(w::ws).map fun w=>of w 115:=by rw[e3];simp
  cases tail with
  | nil=>
   show fin σ=_
   unfold fin
   rw[if_pos e2,e4]
  | cons c t=>
   rw[run_end σ ht (by simp) e2]
   show σ.out++[σ.now]=_
   rw[e4]
def colons:List (List UInt8)→List UInt8
 | []=>[]
 | w::ws=>w++58::colons ws
theorem split_colons:∀ (ws:List (List UInt8)),(∀ w∈ws,∀ c∈w,c≠58)→split [58] (of (colons ws) 115)=ws.map fun w=>of w 115:=by
 suffices ∀ (ws:List (List UInt8)),(∀ w∈ws,∀ c∈w,c≠58)→∀ out:List Rw,(of (colons ws) 115).foldl (step [58]) ⟨out,[],false,false⟩=⟨out++ws.map fun w=>of w 115,[],false,false⟩ from fun ws h=>by
  unfold split run init
  rw[this ws h []]
  rfl
 intro ws
 induction ws with
 | nil=>intro _ out;simp[colons,of]
 | cons w ws ih=>
  intro h out
  have hp:∀ p∈of w 115,plainB [58] p=true:=by
   intro p hp
   obtain⟨c,hc,rfl⟩:=List.mem_map.1 hp
   have:=h w (List.mem_cons_self ..) c hc
   simp[plainB,sepB,this]
  have hst:∀ σ:Q,(σ.begun || !σ.blank)=true→step [58] σ (58,115)=⟨σ.out++[σ.now],[],false,false⟩:=fun σ hσ=>by
   unfold step
   rw[if_pos (by rfl),if_neg (by decide),if_pos hσ]
  have e:colons (w::ws)=w++([58]++colons ws):=rfl
  rw[e,of_app,of_app,List.foldl_append,List.foldl_append]
  have e2:of [58] 115=[(58,115)]:=rfl
  rw[e2,List.foldl_cons,List.foldl_nil]
  cases hw:w with
  | nil=>
   rw[show of ([]:List UInt8) 115=[] from rfl,List.foldl_nil,hst _ rfl,ih (fun x hx=>h x (List.mem_cons_of_mem _ hx))]
   simp[of]
  | cons c t=>
   rw[←hw,run_plain (of w 115) _ hp (by simp[of,hw]),hst _ rfl,ih (fun x hx=>h x (List.mem_cons_of_mem _ hx))]
   simp
theorem split_q (s:List UInt8) (ifs:List UInt8):split ifs (of s 113)=if s=[] then [] else [of s 113]:=by
 cases hs:s with
 | nil=>rfl
 | cons c t=>
  rw[if_neg (by simp),←hs]
  unfold split run
  rw[run_plain (of s 113) _ (fun p hp=>by
   obtain⟨c,hc,rfl⟩:=List.mem_map.1 hp
   simp[plainB,sepB]) (by simp[of,hs])]
  rfl
end Jo
end Go.Proofs.YtipdgmjplnibeaaGreatDoor
namespace Go.Proofs.YtipdgmjplnibeaaGreatDoor
open Go.RowKit Go.Maps
namespace Pm
def without (op:L):Int:=if op=[45] then 2 else if op=[61] then 3 else if op=[63] then 4 else 5
def trims (op:L):Bool:=decide (op=[37]∨op=[37,37]∨op=[35]∨op=[35,35])
theorem is (t b:L) (v:Bool) (h:decide (t=b)=v):((mkS t).toList==b)=v:=by
 rw[toList_mkS]
 subst h
 by_cases e:t=b
 ·rw[decide_eq_true e];exact beq_iff_eq.2 e
 ·rw[decide_eq_false e];exact beq_eq_false_iff_ne.2 e
theorem no (t b:L) (h:t≠b):((mkS t).toList==b)=false:=is t b _ (decide_eq_false h)
theorem without_v (op:L) (w:World):Calls Tryz.prog 142 #[.string (mkS op)] w fun e w'=>e=.returned (.int .i64 (without op))∧w'=w:=by
 by_cases h1:op=[45]
 ·subst h1
  have e1:=is [45] [45] true (by decide)
  go_enter Tryz.func142,Tryz.ntmps142
  go_wp2
  go_ret
  exact⟨rfl,rfl⟩
 have e1:=no op [45] h1
 by_cases h2:op=[61]
 ·subst h2
  have e2:=is [61] [61] true (by decide)
  go_enter Tryz.func142,Tryz.ntmps142
  go_wp2
  go_ret
  exact⟨rfl,rfl⟩
 have e2:=no op [61] h2
 by_cases h3:op=[63]
 ·subst h3
  have e3:=is [63] [63] true (by decide)
  go_enter Tryz.func142,Tryz.ntmps142
  go_wp2
  go_ret
  exact⟨rfl,rfl⟩
 have e3:=no op [63] h3
 have hw:without op=5:=by unfold without;rw[if_neg h1,if_neg h2,if_neg h3]
 rw[hw]
 clear hw h1 h2 h3
 go_enter Tryz.func142,Tryz.ntmps142
 go_wp2
 go_ret
 exact⟨rfl,rfl⟩
theorem Trims_v (op:L) (w:World):Calls Tryz.prog 143 #[.string (mkS op)] w fun e w'=>e=.returned (.bool (trims op))∧w'=w:=by
 by_cases h1:op=[37]
 ·subst h1
  have e1:=is [37] [37] true (by decide)
  go_enter Tryz.func143,Tryz.ntmps143
  go_wp2
  go_ret
  exact⟨rfl,rfl⟩
 have e1:=no op [37] h1
 by_cases h2:op=[37,37]
 ·subst h2
  have e2:=is [37,37] [37,37] true (by decide)
  go_enter Tryz.func143,Tryz.ntmps143
  go_wp2
  go_ret
  exact⟨rfl,rfl⟩
 have e2:=no op [37,37] h2
 by_cases h3:op=[35]
 ·subst h3
  have e3:=is [35] [35] true (by decide)
  go_enter Tryz.func143,Tryz.ntmps143
  go_wp2
  go_ret
  exact⟨rfl,rfl⟩
 have e3:=no op [35] h3
 by_cases h4:op=[35,35]
 ·subst h4
  have e4:=is [35,35] [35,35] true (by decide)
  go_enter Tryz.func143,Tryz.ntmps143
  go_wp2
  go_ret
  exact⟨rfl,rfl⟩
 have e4:=no op [35,35] h4
 have hw:trims op=false:=by unfold trims;exact decide_eq_false (by simp[h1,h2,h3,h4])
 rw[hw]
 clear hw h1 h2 h3 h4
 go_enter Tryz.func143,Tryz.ntmps143
 go_wp2
 go_ret
 exact⟨rfl,rfl⟩
end Pm
end Go.Proofs.YtipdgmjplnibeaaGreatDoor
