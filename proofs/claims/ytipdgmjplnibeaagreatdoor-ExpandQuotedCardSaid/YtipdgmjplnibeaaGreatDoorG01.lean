import Derived.Lib.ItoaNum
import Derived.Test.YtipdgmjplnibeaaGreatDoorG00
import Derived.WalkKit
import Derived.WalkLawsBesides
import Derived.Maps.AppendAt
import Derived.Lib.AppendStr
import Derived.Lib.Hide
import Derived.Deep.Draws
import Derived.Outline
import Derived.Laws.IdiomStrings
import Derived.Laws.BytesArg
namespace Go.Proofs.YtipdgmjplnibeaaGreatDoor
namespace En
def digB (c:UInt8):Bool:=decide (48≤c) && decide (c≤57)
def numB (s:List UInt8):Bool:=match s with
 | []=>false
 | c::_=>!decide (c=48) && s.all digB
def val (s:List UInt8):Nat:=s.foldl (fun v c=>v*10+(c.toNat-48)) 0
theorem val_snoc (s:List UInt8) (c:UInt8):val (s++[c])=val s*10+(c.toNat-48):=by unfold val;rw[List.foldl_append];rfl
theorem digB_nat {c:UInt8}:digB c=true↔48≤c.toNat∧c.toNat≤57:=by
 unfold digB
 rw[Bool.and_eq_true,decide_eq_true_iff,decide_eq_true_iff,UInt8.le_iff_toNat_le,UInt8.le_iff_toNat_le]
 rfl
theorem byte_dig {c:UInt8} (h:digB c=true):UInt8.ofNat (48+(c.toNat-48))=c:=by
 obtain⟨h1,h2⟩:=digB_nat.1 h
 rw[show 48+(c.toNat-48)=c.toNat by omega]
 exact UInt8.ofNat_toNat
theorem dig_byte {d:Nat} (h:d<10):digB (UInt8.ofNat (48+d))=true∧(UInt8.ofNat (48+d)).toNat-48=d:=by
 have e:(UInt8.ofNat (48+d)).toNat=48+d:=by rw[UInt8.toNat_ofNat'];omega
 exact⟨digB_nat.2 (by omega),by omega⟩
theorem numB_snoc {s:List UInt8} {c:UInt8} (hs:s≠[]):numB (s++[c])=(numB s && digB c):=by
 cases s with
 | nil=>exact absurd rfl hs
 | cons a s=>
  show (!decide (a=48) && ((a::s)++[c]).all digB)=((!decide (a=48) && (a::s).all digB) && digB c)
  rw[List.all_append,Bool.and_assoc]
  simp
theorem dec_small' {n:Nat} (h:n<10):Lib.decDigits n=[UInt8.ofNat (48+n)]:=by rw[Lib.decDigits,dif_pos h]
theorem dec_big' {n:Nat} (h:¬ n<10):Lib.decDigits n=Lib.decDigits (n / 10)++[UInt8.ofNat (48+n % 10)]:=by rw[Lib.decDigits,dif_neg h]
theorem val_dec (n:Nat):val (Lib.decDigits n)=n:=by
 induction n using Nat.strongRecOn with
 | ind n ih=>
  by_cases h:n<10
  ·rw[dec_small' h]
   show 0*10+((UInt8.ofNat (48+n)).toNat-48)=n
   have:=(dig_byte h).2
   omega
  ·rw[dec_big' h,val_snoc,ih (n / 10) (by omega),(dig_byte (d:=n % 10) (by omega)).2]
   omega
theorem dec_ne (n:Nat):Lib.decDigits n≠[]:=by
 by_cases h:n<10
 ·rw[dec_small' h];simp
 ·rw[dec_big' h];simp
theorem dec_num (n:Nat) (h0:0<n):numB (Lib.decDigits n)=true:=by
 induction n using Nat.strongRecOn with
 | ind n ih=>
  by_cases h:n<10
  ·rw[dec_small' h]
   obtain⟨h1,h2⟩:=dig_byte h
   have h3:¬ (UInt8.ofNat (48+n)=48):=fun e=>by rw[e] at h2;simp at h2;omega
   show (!decide (UInt8.ofNat (48+n)=48) && [UInt8.ofNat (48+n)].all digB)=true
   rw[decide_eq_false h3,List.all_cons,h1]
   rfl
  ·rw[dec_big' h,numB_snoc (dec_ne _),ih (n / 10) (by omega) (by omega),(dig_byte (d:=n % 10) (by omega)).1]
   rfl
theorem snoc_of {α:Type}:∀ (s:List α),s≠[]→∃ a c,s=a++[c]:=fun s h=>⟨s.dropLast,s.getLast h,(List.dropLast_concat_getLast h).symm⟩
theorem val_pos (n:Nat):∀ s:List UInt8,s.length=n→numB s=true→0<val s∧Lib.decDigits (val s)=s:=by
 induction n with
 | zero=>intro s hs h;rw[List.length_eq_zero_iff.1 hs] at h;cases h
 | succ n ih=>
  intro s hs h
  obtain⟨a,c,rfl⟩:=snoc_of s (by intro e;rw[e] at hs;cases hs)
  have hl:a.length=n:=by rw[List.length_append] at hs;simpa using hs
  by_cases ha:a=[]
  ·subst ha
   simp only[List.nil_append,numB,List.all_cons,List.all_nil,Bool.and_true,Bool.and_eq_true,Bool.not_eq_true',decide_eq_false_iff_not] at h
   obtain⟨h1,h2⟩:=h
   have h3:=digB_nat.1 h2
   have hv:val ([]++[c])=c.toNat-48:=by rw[val_snoc];show 0*10+_=_;omega
   have h4:c.toNat≠48:=fun e=>h1 (UInt8.toNat_inj.1 e)
   rw[hv]
   refine⟨by omega,?_⟩
   rw[dec_small' (by omega),byte_dig h2]
   rfl
  ·rw[numB_snoc ha,Bool.and_eq_true] at h
   obtain⟨h1,h2⟩:=ih a hl h.1
   have h3:=digB_nat.1 h.2
   have hv:=val_snoc a c
   refine⟨by omega,?_⟩
   rw[hv,dec_big' (by omega),show (val a*10+(c.toNat-48)) / 10=val a by omega,show (val a*10+(c.toNat-48)) % 10=c.toNat-48 by omega,h2,byte_dig h.2]
theorem dec_val {s:List UInt8} (h:numB s=true):Lib.decDigits (val s)=s:=(val_pos _ s rfl h).2
theorem dec_iff {n:Nat} (h0:0<n) {s:List UInt8}:Lib.decDigits n=s↔numB s=true∧val s=n:=by
 constructor
 ·rintro rfl
  exact⟨dec_num n h0,val_dec n⟩
 ·rintro⟨h1,h2⟩
  rw[←h2,dec_val h1]
theorem val_ge (n:Nat):∀ s:List UInt8,s.length=n+1→numB s=true→10 ^ n≤val s:=by
 induction n with
 | zero=>intro s hs h;have:=(val_pos _ s rfl h).1;omega
 | succ n ih=>
  intro s hs h
  obtain⟨a,c,rfl⟩:=snoc_of s (by intro e;rw[e] at hs;cases hs)
  have hl:a.length=n+1:=by rw[List.length_append] at hs;simpa using hs
  have ha:a≠[]:=by intro e;rw[e] at hl;cases hl
  rw[numB_snoc ha,Bool.and_eq_true] at h
  have h1:=ih a hl h.1
  rw[val_snoc,Nat.pow_succ]
  omega
theorem val_lt:∀ (s:List UInt8),s.all digB=true→val s<10 ^ s.length:=by
 intro s
 suffices ∀ n,∀ s:List UInt8,s.length=n→s.all digB=true→val s<10 ^ n from this _ s rfl
 intro n
 induction n with
 | zero=>intro s hs _;rw[List.length_eq_zero_iff.1 hs];decide
 | succ n ih=>
  intro s hs h
  obtain⟨a,c,rfl⟩:=snoc_of s (by intro e;rw[e] at hs;cases hs)
  have hl:a.length=n:=by rw[List.length_append] at hs;simpa using hs
  rw[List.all_append,Bool.and_eq_true] at h
  have h1:=ih a hl h.1
  have h2:digB c=true:=by simpa using h.2
  have h3:=digB_nat.1 h2
  rw[val_snoc,Nat.pow_succ]
  omega
def arg (args:List (List UInt8)) (s:List UInt8):Option (List UInt8):=if numB s=true then args[val s-1]? else none
theorem arg_some {args:List (List UInt8)} {s:List UInt8} {i:Nat} (h:i<args.length) (hd:Lib.decDigits (i+1)=s):arg args s=some args[i]:=by
 obtain⟨h1,h2⟩:=(dec_iff (by omega)).1 hd
 unfold arg
 rw[if_pos h1,h2,Nat.add_sub_cancel]
 exact List.getElem?_eq_getElem h
theorem arg_none {args:List (List UInt8)} {s:List UInt8} (h:∀ i,i<args.length→Lib.decDigits (i+1)≠s):arg args s=none:=by
 unfold arg
 split
 ·rename_i h1
  have hp:=(val_pos _ s rfl h1).1
  by_cases hv:val s-1<args.length
  ·have:=h (val s-1) hv
   rw[Nat.sub_add_cancel hp,dec_val h1] at this
   exact absurd rfl this
  ·exact List.getElem?_eq_none (by omega)
 ·rfl
end En
end Go.Proofs.YtipdgmjplnibeaaGreatDoor
namespace Go.Proofs.YtipdgmjplnibeaaGreatDoor
namespace En
structure E where
 vars:Vs
 args:List B
 status:Nat
 flags:B
def IFS:B:=[73,70,83]
def ifs (l:Vs):B:=(var l IFS).getD [32,9,10]
def joined (sep:B):List B→B
 | []=>[]
 | x::l=>x++(l.map (sep++·)).flatten
theorem joined_snoc (sep:B) (l:List B) (x:B):joined sep (l++[x])=joined sep l++((if l=[] then [] else sep)++x):=by
 cases l with
 | nil=>simp[joined]
 | cons y l=>simp[joined]
theorem joined_take (sep:B) {l:List B} {i:Nat} (h:i<l.length):joined sep (l.take (i+1))=joined sep (l.take i)++((if i=0 then [] else sep)++l[i]):=by
 rw[List.take_succ_eq_append_getElem h,joined_snoc]
 by_cases hi:i=0
 ·subst hi;simp
 ·have h1:l.take i≠[]:=by
   intro e
   have:=congrArg List.length e
   rw[List.length_take,List.length_nil] at this
   omega
  rw[if_neg h1,if_neg hi]
theorem joined_len (sep:B) (n:Nat):∀ (l:List B),(∀ x∈l,x.length≤n)→(joined sep l).length≤l.length*(n+sep.length)
 | [],_=>by simp[joined]
 | x::l,h=>by
  have h1:=h x (List.mem_cons_self ..)
  have h2:∀ (l:List B),(∀ x∈l,x.length≤n)→((l.map (sep++·)).flatten).length≤l.length*(n+sep.length):=by
   intro l
   induction l with
   | nil=>intro _;simp
   | cons y l ih=>
    intro h
    have h3:=h y (List.mem_cons_self ..)
    have h4:=ih fun z hz=>h z (List.mem_cons_of_mem _ hz)
    simp only[List.map_cons,List.flatten_cons,List.length_append,List.length_cons,Nat.add_mul,Nat.one_mul] at h4⊢
    omega
  have h5:=h2 l fun z hz=>h z (List.mem_cons_of_mem _ hz)
  simp only[joined,List.length_append,List.length_cons,Nat.add_mul,Nat.one_mul] at h5⊢
  omega
def told (o:Option B):B×Bool:=match o with
 | none=>([],false)
 | some v=>(v,true)
def get (nm:B→Bool) (e:E) (s:B):B×Bool:=
 if nm s=true then told (var e.vars s)
 else if s=[48] then ([115,104],true)
 else if s=[63] then (Lib.decDigits e.status,true)
 else if s=[35] then (Lib.decDigits e.args.length,true)
 else if s=[45] then (e.flags,true)
 else if s=[64]∨s=[42] then (joined ((ifs e.vars).take 1) e.args,!e.args.isEmpty)
 else told (arg e.args s)
def set (nm:B→Bool) (e:E) (n v:B):E:=if nm n=true then { e with vars:=setV e.vars n v } else e
def unsetE (e:E) (n:B):E:={ e with vars:=unset e.vars n }
def efux:B:=[101,102,117,120]
def flag (f:B) (c:UInt8) (on:Bool):B:=efux.filter fun x=>if x=c then on else f.contains x
def FlagsOk (f:B):Prop:=f=efux.filter fun x=>f.contains x
theorem FlagsOk.nil:FlagsOk []:=by unfold FlagsOk efux;decide
theorem has_filter (g:UInt8→Bool) (x:UInt8):(efux.filter g).contains x=(efux.contains x && g x):=by
 rw[Bool.eq_iff_iff,Bool.and_eq_true,List.contains_iff_mem,List.contains_iff_mem,List.mem_filter]
theorem filter_same {g h:UInt8→Bool} (e:∀ x∈efux,g x=h x):efux.filter g=efux.filter h:=List.filter_congr e
theorem FlagsOk.flag (f:B) (c:UInt8) (on:Bool):FlagsOk (flag f c on):=by
 unfold FlagsOk En.flag
 refine filter_same fun x hx=>?_
 rw[has_filter,List.contains_iff_mem.2 hx,Bool.true_and]
theorem flag_other {f:B} (h:FlagsOk f) {c:UInt8} (hc:c∉efux) (on:Bool):flag f c on=f:=by
 conv=>rhs;rw[h]
 unfold flag
 refine filter_same fun x hx=>?_
 rw[if_neg (fun e:x=c=>hc (e ▸ hx))]
theorem has_flag {f:B} {c:UInt8} (hc:c∈efux) (on:Bool) (x:UInt8):(flag f c on).contains x=if x=c then on else efux.contains x && f.contains x:=by
 unfold flag
 rw[has_filter]
 by_cases hx:x=c
 ·subst hx
  rw[if_pos rfl,if_pos rfl,List.contains_iff_mem.2 hc,Bool.true_and]
 ·rw[if_neg hx,if_neg hx]
theorem get_set_self {nm:B→Bool} {e:E} {n:B} (v:B) (h:nm n=true):get nm (set nm e n v) n=(v,true):=by
 unfold get set
 rw[if_pos h,if_pos h]
 show told (var (setV e.vars n v) n)=_
 rw[var_set_self]
 rfl
theorem get_unset_self {nm:B→Bool} {e:E} {n:B} (h:nm n=true):get nm (unsetE e n) n=([],false):=by
 unfold get unsetE
 rw[if_pos h]
 show told (var (unset e.vars n) n)=_
 rw[var_unset_self]
 rfl
theorem ifs_set {l:Vs} {n:B} (v:B) (h:n≠IFS):ifs (setV l n v)=ifs l:=by unfold ifs;rw[var_set _ _ (Ne.symm h)]
theorem get_set {nm:B→Bool} {e:E} {n m:B} (v:B) (h:n≠m) (hi:n≠IFS):get nm (set nm e n v) m=get nm e m:=by
 unfold set
 split
 ·unfold get
  show (if nm m=true then told (var (setV e.vars n v) m) else _)=_
  rw[var_set _ _ (Ne.symm h)]
  show (if nm m=true then _ else if m=[48] then _ else if m=[63] then _ else if m=[35] then _ else if m=[45] then _ else if m=[64]∨m=[42] then (joined ((ifs (setV e.vars n v)).take 1) e.args,!e.args.isEmpty) else _)=_
  rw[ifs_set _ hi]
 ·rfl
theorem put_index {n v:B}:∀ {l:Vs} {k:Nat},k≤l.length→(∀ j (h:j<l.length),j<k→l[j].1<n)→(∀ h:k<l.length,¬ l[k].1<n)→put l n v=l.take k++(n,v)::l.drop k
 | [],k,hk,_,_=>by simp at hk;subst hk;rfl
 | p::l,0,_,_,h2=>by
  have:=h2 (by simp)
  simp only[List.getElem_cons_zero] at this
  rw[put,if_neg this]
  rfl
 | p::l,k+1,hk,h1,h2=>by
  have h3:=h1 0 (by simp) (by omega)
  simp only[List.getElem_cons_zero] at h3
  rw[put,if_pos h3,put_index (l:=l) (k:=k) (by simpa using hk) (fun j h hj=>h1 (j+1) (Nat.succ_lt_succ h) (by omega)) (fun h=>h2 (Nat.succ_lt_succ h))]
  rfl
theorem unset_take {l:Vs} {n:B} {k:Nat} (h:k<l.length):unset (l.take (k+1)) n=unset (l.take k) n++(if l[k].1=n then [] else [l[k]]):=by
 unfold unset
 rw[List.take_succ_eq_append_getElem h,List.filter_append]
 by_cases e:l[k].1=n <;> simp[e]
theorem var_at {l:Vs} {n:B} {k:Nat} (h:k<l.length) (h1:∀ j (h:j<l.length),j<k→l[j].1≠n) (h2:l[k].1=n):var l n=some l[k].2:=by
 induction l generalizing k with
 | nil=>cases h
 | cons p l ih=>
  cases k with
  | zero=>rw[var,if_pos (show p.1=n from h2)];rfl
  | succ k=>
   have h3:=h1 0 (by simp) (by omega)
   simp only[List.getElem_cons_zero] at h3
   rw[var,if_neg h3,ih (k:=k) (by simpa using h) (fun j hj hk=>h1 (j+1) (Nat.succ_lt_succ hj) (by omega)) h2]
   rfl
theorem flag_take (f:B) (c:UInt8) (on:Bool) {k:Nat} (h:k<efux.length):((efux.take (k+1)).filter fun x=>if x=c then on else f.contains x)=((efux.take k).filter fun x=>if x=c then on else f.contains x)++(if (if efux[k]=c then on else f.contains efux[k])=true then [efux[k]] else []):=by
 rw[List.take_succ_eq_append_getElem h,List.filter_append]
 by_cases e:(if efux[k]=c then on else f.contains efux[k])=true
 ·rw[if_pos e,List.filter_cons,if_pos e];rfl
 ·rw[if_neg e,List.filter_cons,if_neg e];rfl
end En
end Go.Proofs.YtipdgmjplnibeaaGreatDoor
namespace Go.Proofs.YtipdgmjplnibeaaGreatDoor
open Go.RowKit
theorem ret_int {k:IntKind} {a b:Int} (h:a=b):Ending.returned (.int k a)=.returned (.int k b):=by rw[h]
theorem int_eq {k:IntKind} {a b:Int} (h:a=b):Value.int k a=.int k b:=by rw[h]
theorem bcell {W w1:World} (hb:Below W.heap.size W w1):(∀ b o,b<W.heap.size→w1.cell? ⟨b,o,none⟩=W.cell? ⟨b,o,none⟩)∧(∀ b o,b<W.heap.size→w1.frozen? ⟨b,o,none⟩=W.frozen? ⟨b,o,none⟩):=
 ⟨fun b o h=>hb.cell (p:=⟨b,o,none⟩) h,fun b o h=>hb.frozen (p:=⟨b,o,none⟩) h⟩
def nv (x:Nat):Value:=.int .u64 (x:Int)
def bv (c:UInt8):Value:=.int .u8 (c.toNat:Int)
theorem bv_one (l:List UInt8):∀ u∈l.map bv,u.oneCell'=true:=by
 intro u hu
 obtain⟨c,_,rfl⟩:=List.mem_map.1 hu
 rfl
theorem block_add (a:Addr) (n:Nat):(a.add n).block=a.block:=by unfold Addr.add;split <;> rfl
theorem add_add (a:Addr) (i j:Nat):(a.add i).add j=a.add (i+j):=by
 unfold Addr.add
 by_cases hi:i=0 <;> by_cases hj:j=0 <;> simp[hi,hj,Nat.add_assoc]
theorem add_lit0 (g j:Nat):(⟨g,0,none⟩:Addr).add j=⟨g,j,none⟩:=by unfold Addr.add;split <;> simp_all
def Rd (w:World) (B:Nat) (A:Option Addr) (n:Nat) (xs:List Value):Prop:=
 xs.length=n∧(0<n→∃ ad,A=some ad∧ad.block<B∧∀ (j:Nat) (u:Value),xs[j]?=some u→w.cell? (ad.add j)=some u)
section
variable {w w':World} {B B' n:Nat} {A:Option Addr} {xs:List Value}
theorem Rd.nil_:Rd w B A 0 []:=⟨rfl,fun h=>absurd h (by omega)⟩
theorem Rd.at_ {k:Nat} (h:Rd w B A n xs) (hk:k<n):∃ ad u,A=some ad∧ad.block<B∧xs[k]?=some u∧w.cell? (ad.add k)=some u:=by
 obtain⟨ad,e,hb,hc⟩:=h.2 (by omega)
 have hl:k<xs.length:=by have:=h.1;omega
 exact⟨ad,xs[k],e,hb,List.getElem?_eq_getElem hl,hc k _ (List.getElem?_eq_getElem hl)⟩
theorem Rd.keep (h:Rd w B A n xs) (hk:∀ p:Addr,p.block<B→w'.cell? p=w.cell? p):Rd w' B A n xs:=
 ⟨h.1,fun hn=>by
  obtain⟨ad,e,hb,hc⟩:=h.2 hn
  exact⟨ad,e,hb,fun j u hu=>(hk _ (by rw[block_add];exact hb)).trans (hc j u hu)⟩⟩
theorem Rd.below (h:Rd w B A n xs) (hb:Below B w w'):Rd w' B A n xs:=h.keep fun _ hp=>hb.cell hp
theorem Rd.more (h:Rd w B A n xs) (hB:B≤B'):Rd w B' A n xs:=
 ⟨h.1,fun hn=>by
  obtain⟨ad,e,hb,hc⟩:=h.2 hn
  exact⟨ad,e,by omega,hc⟩⟩
theorem Rd.cut (h:Rd w B A n xs) {k cap:Nat} (hk:k≤n) (hc:n≤cap) :
  Rd w B (if cap=k then A else A.map (·.add k)) (n-k) (xs.drop k):=by
 refine⟨by rw[List.length_drop,h.1],fun hn=>?_⟩
 obtain⟨ad,rfl,hb,hcell⟩:=h.2 (by omega)
 rw[if_neg (by omega)]
 refine⟨ad.add k,rfl,by rw[block_add];exact hb,fun j u hu=>?_⟩
 rw[add_add]
 exact hcell _ u (by rw[←hu,List.getElem?_drop])
theorem Rd.take_ (h:Rd w B A n xs) {k:Nat} (hk:k≤n):Rd w B A k (xs.take k):=by
 refine⟨by rw[List.length_take,h.1];omega,fun hn=>?_⟩
 obtain⟨ad,rfl,hb,hcell⟩:=h.2 (by omega)
 refine⟨ad,rfl,hb,fun j u hu=>hcell j u ?_⟩
 rw[List.getElem?_take] at hu
 split at hu
 ·exact hu
 ·cases hu
theorem Rd.lit (w:World) (e:TypeId) (cs:List Value):Rd (w.alloc (.cells cs.toArray e)) (w.heap.size+1) (some ⟨w.heap.size,0,none⟩) cs.length cs:=
 ⟨rfl,fun _=>⟨_,rfl,Nat.lt_succ_self _,fun j u hu=>by
  rw[add_lit0,cell_of_row _ _ j cs.toArray e (0,0) (heap_alloc_new w _)]
  simpa using hu⟩⟩
theorem Rd.of_own {base:Nat} {e:TypeId} {c:Nat} (h:w.ownsRow base e 1 (.slice A n c) n xs):Rd w w.heap.size A n xs:=by
 refine⟨by simpa using h.1,fun hn=>?_⟩
 rcases h.2 with⟨_,h0⟩ | ⟨g,cap,cur,hv,_,hh,_⟩
 ·omega
 ·injection hv with hA
  subst hA
  refine⟨_,rfl,(Array.getElem?_eq_some_iff.1 hh).1,h.cells (g:=g) rfl⟩
theorem Rd.at_map {α:Type} {f:α→Value} {l:List α} {k:Nat} (h:Rd w B A n (l.map f)) (hk:k<n):∃ (ad:Addr) (hl:k<l.length),A=some ad∧ad.block<B∧w.cell? (ad.add k)=some (f l[k]):=by
 obtain⟨ad,u,e,hb,hx,hc⟩:=h.at_ hk
 have hl:k<l.length:=by have:=h.1;simp at this;omega
 rw[List.getElem?_map,List.getElem?_eq_getElem hl] at hx
 simp at hx
 subst hx
 exact⟨ad,hl,e,hb,hc⟩
theorem Rd.len_map {α:Type} {f:α→Value} {l:List α} (h:Rd w B A n (l.map f)):l.length=n:=by have:=h.1;simpa using this
theorem Rd.byte {bs:List UInt8} {k:Nat} (h:Rd w B A n (bs.map bv)) (hk:k<n):∃ (ad:Addr) (hl:k<bs.length),A=some ad∧ad.block<B∧w.cell? (ad.add k)=some (bv bs[k]):=by
 obtain⟨ad,u,e,hb,hx,hc⟩:=h.at_ hk
 have hl:k<bs.length:=by have:=h.1;simp at this;omega
 rw[List.getElem?_map,List.getElem?_eq_getElem hl] at hx
 simp at hx
 subst hx
 exact⟨ad,hl,e,hb,hc⟩
theorem Rd.len {bs:List UInt8} (h:Rd w B A n (bs.map bv)):bs.length=n:=by have:=h.1;simpa using this
end
def mkS (l:List UInt8):ByteArray:=⟨l.toArray⟩
theorem mkS_size (l:List UInt8):(mkS l).size=l.length:=by simp[mkS,ByteArray.size]
theorem mkS_list (l:List UInt8):(mkS l).data.toList=l:=by simp[mkS]
theorem mkS_of (s:ByteArray):mkS s.data.toList=s:=by simp[mkS]
theorem mkS_add (a b:List UInt8):mkS a++mkS b=mkS (a++b):=ByteArray.mk_append_mk a b
theorem run_str_of {P:Program} {w:World} {B n:Nat} {A:Option Addr} {bs:List UInt8} (h:Rd w B A n (bs.map bv)) (src dst e:TypeId) (hs:P.underlying src=some (.slice e)) (he:P.underlying e=some (.int .u8)) (hd:P.underlying dst=some .string) (cap:Nat) :
  (convert src dst (.slice A n cap)).run P w=.ok (.string (mkS bs)) w:=by
 have hl:=h.len
 subst hl
 rcases A with _ | ad
 ·have h0:bs=[]:=by
   rcases Nat.eq_zero_or_pos bs.length with h0 | h0
   ·exact List.eq_nil_of_length_eq_zero h0
   ·obtain⟨ad,h,_⟩:=h.2 h0
    cases h
  subst h0
  exact run_convert_bytes_nil w src e hs he _ cap dst hd
 ·refine run_convert_bytes_back w src dst e ad cap bs hs he hd fun j hj=>?_
  obtain⟨ad',h1,_,h3⟩:=h.2 (by omega)
  injection h1 with h1
  subst h1
  exact h3 j _ (by rw[List.getElem?_map,List.getElem?_eq_getElem hj];rfl)
def Moved (w:World) (v v':Value):Prop:=v'.ownBlock=v.ownBlock∨∃ k,v'.ownBlock=some k∧w.heap.size≤k
structure Grew (w w':World) (base:Nat) (e:TypeId) (v v':Value) (xs:List Value):Prop where
 own:w'.ownsRow base e 1 v' xs.length xs
 grown:w.grownBy w' v.ownBlock
 moved:Moved w v v'
section
variable {w w1 w2:World} {base:Nat} {e:TypeId} {v v1 v2:Value} {xs ys zs:List Value}
theorem Grew.refl (h:w.ownsRow base e 1 v xs.length xs):Grew w w base e v v xs:=⟨h,World.grownBy.refl w _,.inl rfl⟩
theorem Grew.nil (w:World) (base:Nat) (e:TypeId):Grew w w base e (.slice none 0 0) (.slice none 0 0) []:=Grew.refl (World.ownsRow_nil w base e 1)
theorem Grew.trans (h:Grew w w1 base e v v1 ys) (k:Grew w1 w2 base e v1 v2 zs):Grew w w2 base e v v2 zs:=by
 refine⟨k.own,⟨k.grown.os.trans h.grown.os,k.grown.tape.trans h.grown.tape,k.grown.output.trans h.grown.output,Nat.le_trans h.grown.size k.grown.size,fun i hi hne=>?_⟩,?_⟩
 ·refine(k.grown.block i (Nat.lt_of_lt_of_le hi h.grown.size) ?_).trans (h.grown.block i hi hne)
  rcases h.moved with e1 | ⟨j,e1,hj⟩
  ·rw[e1];exact hne
  ·rw[e1];intro e2;injection e2 with e2;omega
 ·rcases k.moved with e1 | ⟨j,e1,hj⟩
  ·rw[Moved,e1];exact h.moved
  ·exact .inr ⟨j,e1,Nat.le_trans h.grown.size hj⟩
theorem Grew.below (h:Grew w w1 base e v v1 ys) (hown:w.ownsRow base e 1 v xs.length xs) (hb:base≤w.heap.size):Below base w w1:=
 (Below.refl base w).grown h.grown hb fun k hk=>(hown.lt k hk).1
theorem Grew.belowNil {c:Nat} (h:Grew w w1 base e (.slice none 0 c) v1 ys):Below w.heap.size w w1:=
 (Below.refl _ w).grown h.grown (Nat.le_refl _) fun k hk=>by simp[Value.ownBlock] at hk
theorem Grew.alloc (h:Grew w w1 base e v v1 ys) (o:Obj):Grew w (w1.alloc o) base e v v1 ys:=
 h.trans ⟨h.own.alloc o,World.grownBy_alloc _ _ _,.inl rfl⟩
end
theorem cell_keeps {w w':World} {p:Addr} {v:Value} (hb:Below w.heap.size w w') (h:w.cell? p=some v):w'.cell? p=some v:=(hb.cell (World.block_lt_of_cell? w p h)).trans h
theorem own_below {w w':World} {base size n:Nat} {e:TypeId} {v:Value} {xs:List Value} (h:w.ownsRow base e size v n xs) (hb:Below w.heap.size w w'):w'.ownsRow base e size v n xs:=
 h.kept (row:=none) ⟨hb.os,hb.tape,hb.output,hb.size,fun k hk _=>hb.block k hk⟩ (by cases hv:v.ownBlock <;> simp)
theorem Grew.then_ {w w1 w2:World} {base:Nat} {e:TypeId} {v v1:Value} {ys:List Value} (h:Grew w w1 base e v v1 ys) (hb:Below w1.heap.size w1 w2):Grew w w2 base e v v1 ys:=
 h.trans ⟨own_below h.own hb,⟨hb.os,hb.tape,hb.output,hb.size,fun k hk _=>hb.block k hk⟩,.inl rfl⟩
theorem below_of_grown {w w':World} {row:Option Nat} {B:Nat} (hg:w.grownBy w' row) (hB:B≤w.heap.size) (hr:∀ k,row=some k→B≤k):Below B w w':=(Below.refl B w).grown hg hB hr
section
variable {P:Program} {ops:Array Oper} {rest:List Oper} {o:Oper} {a:Act} {Q:Exit→Act→World→Prop}
theorem run_appN (w:World) (base:Nat) (t ty e:TypeId) (i:TypeInfo) (z:Value) (bytes:Nat) (ht:P.underlying t=some (.slice e)) (hi:P.info? e=some i) (hz:i.zero=some z)
  (hsize:i.size=1) (hby:i.bytes=bytes) (hzs:z.cells.size=1) (v:Value) (xs:List Value) (hown:w.ownsRow base e 1 v xs.length xs)
  (B:Nat) (A:Option Addr) (m c:Nat) (news:List Value) (hr:Rd w B A m news) (h1:∀ u∈news,u.oneCell'=true)
  (hbytes:(xs.length+m)*bytes≤140737488355328) (hlen:xs.length+m≤140737488355328) (hbase:base≤w.heap.size) :
  ∃ v' w',(Builtin.append_ #[t,t] ty #[v,.slice A m c]).run P w=.ok v' w'∧Grew w w' base e v v' (xs++news):=by
 have hl:(xs++news).length=xs.length+m:=by rw[List.length_append,hr.1]
 rcases A with _ | ad
 ·have hm:m=0:=by
   rcases Nat.eq_zero_or_pos m with h0 | h0
   ·exact h0
   ·obtain⟨ad,h,_⟩:=hr.2 h0
    cases h
  subst hm
  have hn:news=[]:=List.eq_nil_of_length_eq_zero hr.1
  subst hn
  refine⟨v,w,?_,by simpa using Grew.refl hown⟩
  rcases hown.2 with⟨rfl,_⟩ | ⟨g,cap,cur,rfl,_,_,hnc,_⟩
  ·simp[Builtin.append_,run_underlying ht,sizeOf,typeInfo,hi,Builtin.lenOf,Builtin.firstCells]
  ·simp[Builtin.append_,run_underlying ht,sizeOf,typeInfo,hi,Builtin.lenOf,Builtin.firstCells,hnc,storeCells]
 ·have hcells:∀ j u,news[j]?=some u→w.cell? (ad.add j)=some u:=by
   intro j u hu
   rcases Nat.eq_zero_or_pos m with h0 | h0
   ·subst h0
    have hn:news=[]:=List.eq_nil_of_length_eq_zero hr.1
    subst hn
    simp at hu
   ·obtain⟨ad',h,_,hc⟩:=hr.2 h0
    injection h with h
    subst h
    exact hc j u hu
  obtain⟨v',w',hrun,h2,h3,_,h5⟩:=run_append_own_at (P:=P) w base t ty e i z 1 bytes ht hi hz hsize hby hzs (by omega) v xs.length xs hown ad m c news (by rw[hr.1];omega) hcells h1 (by unfold maxLen;omega) hbytes hbase
  refine⟨v',w',hrun,by rw[hl];exact h2,h3,?_⟩
  rcases h5 with h5 | h5
  ·exact .inl h5
  ·exact .inr ⟨_,h5,Nat.le_refl _⟩
theorem wpList_appN (w:World) (hgd:o.guard=none) (s x:Operand) (t:TypeId)
  (ho:o.op=.call { callee:=.builtin .append,args:=#[s,x],argTypes:=#[t,t] })
  (base:Nat) (e:TypeId) (i:TypeInfo) (z:Value) (bytes:Nat) (ht:P.underlying t=some (.slice e)) (hi:P.info? e=some i) (hz:i.zero=some z)
  (hsize:i.size=1) (hby:i.bytes=bytes) (hzs:z.cells.size=1)
  (v:Value) (xs:List Value) (hs:a.eval s=v) (hown:w.ownsRow base e 1 v xs.length xs)
  (B:Nat) (A:Option Addr) (m c:Nat) (news:List Value) (hx:a.eval x=.slice A m c) (hr:Rd w B A m news) (h1:∀ u∈news,u.oneCell'=true)
  (hbytes:(xs.length+m)*bytes≤140737488355328) (hlen:xs.length+m≤140737488355328) (hbase:base≤w.heap.size)
  (h:∀ v' w',Grew w w' base e v v' (xs++news)→wpList P ops Q rest (a.put o.dst v') w'):wpList P ops Q (o::rest) a w:=by
 refine wpList_plain hgd fun K hK=>?_
 obtain⟨v',w',hrun,hg⟩:=run_appN (P:=P) w base t o.type e i z bytes ht hi hz hsize hby hzs v xs hown B A m c news hr h1 hbytes hlen hbase
 unfold Oper.wp execOp
 simp only[ho,resolve,invoke,builtin,Sem.run_bind,Sem.run_pure,Result.andThen_ok,List.map_toArray,List.map_cons,List.map_nil,hs,hx,hrun]
 exact hK _ _ (h v' w' hg)
theorem wpList_app1 (w:World) (u:Value) (hgd:o.guard=none) (s x:Operand) (t:TypeId)
  (ho:o.op=.call { callee:=.builtin .append,args:=#[s,x],argTypes:=#[t,t] })
  (base:Nat) (e:TypeId) (i:TypeInfo) (z:Value) (bytes:Nat) (ht:P.underlying t=some (.slice e)) (hi:P.info? e=some i) (hz:i.zero=some z)
  (hsize:i.size=1) (hby:i.bytes=bytes) (hzs:z.cells.size=1) (h1:u.oneCell'=true)
  (v:Value) (xs:List Value) (hs:a.eval s=v) (hown:w.ownsRow base e 1 v xs.length xs) (hx:a.eval x=.slice (some ⟨w.heap.size,0,none⟩) 1 1)
  (hbytes:(xs.length+1)*bytes≤140737488355328) (hlen:xs.length+1≤140737488355328) (hbase:base≤w.heap.size)
  (h:∀ v' w',Grew w w' base e v v' (xs++[u])→wpList P ops Q rest (a.put o.dst v') w'):wpList P ops Q (o::rest) a (w.alloc (.cells #[u] e)):=
 wpList_appN (w.alloc (.cells #[u] e)) hgd s x t ho base e i z bytes ht hi hz hsize hby hzs v xs hs (hown.alloc _) (w.heap.size+1) (some ⟨w.heap.size,0,none⟩) 1 1 [u] hx
  ⟨rfl,fun _=>⟨_,rfl,Nat.lt_succ_self _,fun j y hy=>by
   match j,hy with
   | 0,hy=>simp at hy;subst hy;simp[Addr.add]⟩⟩ (by intro y hy;simp at hy;subst hy;exact h1) hbytes hlen (by simp;omega)
  fun v' w' hg=>h v' w' (((Grew.refl hown).alloc _).trans hg)
theorem strCells_eq (s:ByteArray):Lib.strCells s=s.data.toList.map bv:=rfl
theorem run_appS (w:World) (base:Nat) (t u ty e:TypeId) (i:TypeInfo) (ht:P.underlying t=some (.slice e)) (hu:P.underlying u=some .string) (hi:P.info? e=some i) (hz:i.zero=some (.int .u8 0))
  (hsize:i.size=1) (hby:i.bytes=1) (v:Value) (xs:List Value) (hown:w.ownsRow base e 1 v xs.length xs) (s:ByteArray)
  (hlen:xs.length+s.size≤140737488355328) (hbase:base≤w.heap.size) :
  ∃ v' w',(Builtin.append_ #[t,u] ty #[v,.string s]).run P w=.ok v' w'∧Grew w w' base e v v' (xs++s.data.toList.map bv):=by
 have hl:(xs++s.data.toList.map bv).length=xs.length+s.size:=by rw[←strCells_eq,List.length_append,Lib.strCells_length]
 rcases hown.2 with⟨rfl,h0⟩ | ⟨g,cap,cur,rfl,hbg,hg,hnc,hcm,hcs,htake⟩
 ·have hx:xs=[]:=List.eq_nil_of_length_eq_zero h0
  subst hx
  obtain⟨v',w',hr,h2,h3,_⟩:=Lib.run_append_own_string (P:=P) w w.heap.size t u ty e i ht hu hi hz hsize hby (.slice none 0 0) 0 [] (World.ownsRow_nil w _ e 1) s (by unfold maxLen;simp at hlen;omega) (by simpa using hlen) (Nat.le_refl _)
  obtain⟨v2,w2,hr2,h22,_,_⟩:=Lib.run_append_own_string (P:=P) w base t u ty e i ht hu hi hz hsize hby (.slice none 0 0) 0 [] (World.ownsRow_nil w _ e 1) s (by unfold maxLen;simp at hlen;omega) (by simpa using hlen) hbase
  have he:=hr.symm.trans hr2
  injection he with e1 e2
  subst e1 e2
  rw[strCells_eq] at h22
  refine⟨v',w',hr,by rw[hl];simpa using h22,h3,?_⟩
  rcases hv:v'.ownBlock with _ | k
  ·exact .inl hv
  ·exact .inr ⟨k,hv,(h2.lt k hv).1⟩
 ·obtain⟨v',w',hr,h2,h3,_⟩:=Lib.run_append_own_string (P:=P) w base t u ty e i ht hu hi hz hsize hby _ _ xs hown s (by unfold maxLen;omega) hlen hbase
  refine⟨v',w',hr,by rw[hl,←strCells_eq];exact h2,h3,?_⟩
  by_cases hroom:xs.length+s.size≤cap
  ·have hr2:=Lib.run_append_room_string (P:=P) w t u ty e i ht hu hi hsize g xs.length cap cur hg s hroom (by omega)
   have he:=hr.symm.trans hr2
   injection he with e1 _
   exact .inl (by rw[e1];rfl)
  ·have holds:∀ j u,xs[j]?=some u→w.cell? ((⟨g,0,none⟩:Addr).add j)=some u:=hown.cells (g:=g) rfl
   have hr2:=Lib.run_append_grow_string (P:=P) w t u ty e i (.int .u8 0) ht hu hi hz ⟨g,0,none⟩ xs.length cap xs (by rw[hsize];simp) holds s (by omega) (by omega) (by rw[hby];exact growslice_fits (by omega) (by omega))
   have he:=hr.symm.trans hr2
   injection he with e1 _
   exact .inr ⟨w.heap.size,by rw[e1];rfl,Nat.le_refl _⟩
theorem wpList_appS (w:World) (hgd:o.guard=none) (so xo:Operand) (t u:TypeId)
  (ho:o.op=.call { callee:=.builtin .append,args:=#[so,xo],argTypes:=#[t,u] })
  (base:Nat) (e:TypeId) (i:TypeInfo) (ht:P.underlying t=some (.slice e)) (hu:P.underlying u=some .string) (hi:P.info? e=some i) (hz:i.zero=some (.int .u8 0))
  (hsize:i.size=1) (hby:i.bytes=1)
  (v:Value) (xs:List Value) (hs:a.eval so=v) (hown:w.ownsRow base e 1 v xs.length xs) (s:ByteArray) (hx:a.eval xo=.string s)
  (hlen:xs.length+s.size≤140737488355328) (hbase:base≤w.heap.size)
  (h:∀ v' w',Grew w w' base e v v' (xs++s.data.toList.map bv)→wpList P ops Q rest (a.put o.dst v') w'):wpList P ops Q (o::rest) a w:=by
 refine wpList_plain hgd fun K hK=>?_
 obtain⟨v',w',hrun,hg⟩:=run_appS (P:=P) w base t u o.type e i ht hu hi hz hsize hby v xs hown s hlen hbase
 unfold Oper.wp execOp
 simp only[ho,resolve,invoke,builtin,Sem.run_bind,Sem.run_pure,Result.andThen_ok,List.map_toArray,List.map_cons,List.map_nil,hs,hx,hrun]
 exact hK _ _ (h v' w' hg)
end
end Go.Proofs.YtipdgmjplnibeaaGreatDoor
