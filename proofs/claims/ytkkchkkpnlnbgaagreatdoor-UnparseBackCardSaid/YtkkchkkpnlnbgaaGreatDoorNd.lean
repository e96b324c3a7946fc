/- The lexer as plain mathematics: words, and their texts read again. No premises. -/
import Derived.Test.YtkkchkkpnlnbgaaGreatDoorNc
namespace Go.Proofs.YtkkchkkpnlnbgaaGreatDoor
namespace Lx
def stop (c:UInt8):Bool:=c==32 || c==9 || c==10 || c==59 || c==38 || c==124 || c==40 || c==41 || c==60 || c==62
def ends:L→Bool
 | []=>true
 | c::_=>stop c
def wordF:Nat→L→R
 | 0,_=>.error 20
 | n+1,l=>
  if ends l=true then .ok ([],l)
  else match part 0 l with
   | .error e=>.error e
   | .ok (t,r)=>pre t (wordF n r)
def word (l:L):R:=wordF (l.length+1) l
theorem wordF_len (n:Nat) {l t r:L} (h:wordF n l=.ok (t,r)):r.length≤l.length:=by
 induction n generalizing l t r with
 | zero=>cases h
 | succ n ih=>
  unfold wordF at h
  split at h
  ·cases h;omega
  ·cases e:part 0 l with
   | error e'=>rw[e] at h;cases h
   | ok x=>
    obtain⟨t1,r1⟩:=x
    rw[e] at h
    obtain⟨v,h1,_⟩:=pre_inv h
    have h2:=ih h1
    have h3:=part_len 0 _ _ _ e
    omega
theorem wordF_stable (n m:Nat) (l:L) (h1:l.length<n) (h2:l.length<m):wordF n l=wordF m l:=by
 induction n generalizing m l with
 | zero=>omega
 | succ n ih=>
  cases m with
  | zero=>omega
  | succ m=>
   unfold wordF
   split
   ·rfl
   ·cases e:part 0 l with
    | error e'=>rfl
    | ok x=>
     obtain⟨t1,r1⟩:=x
     have h3:=part_len 0 _ _ _ e
     simp only
     rw[ih m r1 (by omega) (by omega)]
theorem word_at (l:L):word l =
  if ends l=true then .ok ([],l)
  else match part 0 l with
   | .error e=>.error e
   | .ok (t,r)=>pre t (word r):=by
 unfold word
 rw[wordF]
 split
 ·rfl
 ·cases e:part 0 l with
  | error e'=>rfl
  | ok x=>
   obtain⟨t1,r1⟩:=x
   have h3:=part_len 0 _ _ _ e
   simp only
   rw[wordF_stable _ (r1.length+1) r1 (by omega) (by omega)]
theorem word_le {l t r:L} (h:word l=.ok (t,r)):r.length≤l.length:=wordF_len _ h
theorem word_lt {l t r:L} (h:word l=.ok (t,r)) (he:ends l=false):r.length<l.length:=by
 rw[word_at,he] at h
 simp only[Bool.false_eq_true,if_false] at h
 cases e:part 0 l with
 | error e'=>rw[e] at h;cases h
 | ok x=>
  obtain⟨t1,r1⟩:=x
  rw[e] at h
  obtain⟨v,h1,_⟩:=pre_inv h
  have h2:=word_le h1
  have h3:=part_len 0 _ _ _ e
  omega
theorem word_head {l t r:L} (h:word l=.ok (t,r)) (he:ends l=false) (hj:¬ (l.head?=some 92∧l.tail.head?=some 10)):t≠[]∧t.head?=l.head?∧(t.head?=some 92→t.tail.head?≠some 10∧t.tail≠[]):=by
 rw[word_at,he] at h
 simp only[Bool.false_eq_true,if_false] at h
 cases e:part 0 l with
 | error e'=>rw[e] at h;cases h
 | ok x=>
  obtain⟨t1,r1⟩:=x
  rw[e] at h
  obtain⟨v,h1,rfl⟩:=pre_inv h
  rcases part_head e with⟨rfl,rfl⟩ | ⟨b,hb,rfl,rfl⟩ | ⟨c,l',t',hc,rfl,rfl⟩
  ·exact absurd ⟨rfl,rfl⟩ hj
  ·simp[hb]
  ·simp[hc]
def plain (c:UInt8):Bool:=!(stop c) && !(c==92 || c==39 || c==34 || c==36 || c==96)
theorem word_plain (x:L) (hx:∀ c∈x,plain c=true) (l:L):word (x++l)=pre x (word l):=by
 induction x with
 | nil=>cases e:word l with
  | error e'=>rw[List.nil_append,e];rfl
  | ok p=>rw[List.nil_append,e];rfl
 | cons c x ih=>
  have h1:=hx c (by simp)
  simp only[plain,Bool.and_eq_true,Bool.not_eq_true',Bool.or_eq_false_iff,beq_eq_false_iff_ne,ne_eq] at h1
  obtain⟨h0,⟨⟨⟨h1,h2⟩,h3⟩,h4⟩,h5⟩:=h1
  rw[word_at]
  have h6:ends (c::x++l)=false:=h0
  rw[h6]
  simp only[Bool.false_eq_true,if_false,List.cons_append]
  rw[part_at]
  simp only[oneF,if_neg h1,if_neg h2,if_neg h3,if_neg h4,if_neg h5,ih (fun c hc=>hx c (by simp[hc]))]
  cases e:word l with
  | error e'=>rfl
  | ok p=>rfl
theorem word_join (l:L):word (92::10::l)=word l:=by
 rw[word_at,part_at]
 have h6:ends (92::10::l)=false:=rfl
 rw[h6]
 simp only[oneF,if_true,Bool.false_eq_true,if_false]
 cases e:word l with
 | error e'=>rfl
 | ok p=>rfl
end Lx
end Go.Proofs.YtkkchkkpnlnbgaaGreatDoor
namespace Go.Proofs.YtkkchkkpnlnbgaaGreatDoor
namespace Lx
structure Tok where
 kind:Nat
 text:L
 body:L
 left:Nat
def nl:L→Nat
 | []=>0
 | c::r=>(if c=10 then 1 else 0)+nl r
def skip:L→L
 | []=>[]
 | c::r=>if c=10 then c::r else skip r
def cut:L→L×L
 | []=>([],[])
 | c::r=>if c=10 then ([],r) else (c::(cut r).1,(cut r).2)
def bare (l:L):L:=l.filter fun c=>!(c==39 || c==34 || c==92)
def docF (last:L):Nat→L→Option (L×L)
 | 0,_=>none
 | n+1,l=>
  if l=[] then none
  else if (cut l).1=last then some ([],(cut l).2)
  else (docF last n (cut l).2).map fun p=>((cut l).1++10::p.1,p.2)
def doc (last:L) (l:L):Option (L×L):=docF last (l.length+1) l
def sign:L→Option (L×L)
 | []=>none
 | c::r=>
  if c=38 then (if r.head?=some 38 then some ([38,38],r.tail) else none)
  else if c=124 then (if r.head?=some 124 then some ([124,124],r.tail) else some ([124],r))
  else if c=59 then (if r.head?=some 59 then some ([59,59],r.tail) else some ([59],r))
  else if c=60 then (if r.head?=some 60 then some ([60,60],r.tail) else some ([60],r))
  else if c=62 then (if r.head?=some 62 then some ([62,62],r.tail) else some ([62],r))
  else if c=40∨c=41 then some ([c],r)
  else none
def lay (k:Nat) (b:L) (out:List Tok):List Tok:=out.modify k fun t=>{ t with body:=b }
def bodies:List Nat→List Tok→L→Option (List Tok×L)
 | [],out,l=>some (out,l)
 | k::ks,out,l=>match doc (bare ((out[k]?.map Tok.text).getD [])) l with
  | none=>none
  | some (b,r)=>bodies ks (lay k b out) r
def digits (l:L):Bool:=l.all fun c=>decide (48≤c) && decide (c≤57)
def hung (out:List Tok):Bool:=match out.getLast? with
 | none=>false
 | some t=>t.kind==2 && t.text==[60,60]
def io (t:L) (n:Nat) (r:L):Bool:=digits t && n==t.length && (r.head?==some 60 || r.head?==some 62)
inductive Step where
 | more (l:L) (out:List Tok) (here:List Nat)
 | fail (e left:Nat)
 | done (out:List Tok)
def step (l:L) (out:List Tok) (here:List Nat):Step:=
 match l with
 | []=>if here=[] then .done (out++[⟨4,[],[],0⟩]) else .fail 20 ((out.getLast?.map Tok.left).getD 0)
 | c::r=>
  if c=32∨c=9 then .more r out here
  else if c=92∧r.head?=some 10 then .more r.tail out here
  else if c=35 then .more (skip r) out here
  else if c=10 then
   match bodies here (out++[⟨3,[],[],nl (c::r)⟩]) r with
   | none=>.fail 20 (nl (c::r))
   | some (o,r')=>.more r' o []
  else match sign (c::r) with
   | some (t,r')=>.more r' (out++[⟨2,t,[],nl (c::r)⟩]) here
   | none=>
    if c=38 then .fail 20 (nl (c::r))
    else match word (c::r) with
     | .error e=>.fail e (nl (c::r))
     | .ok (t,r')=>
      if io t ((c::r).length-r'.length) r'=true then .more r' (out++[⟨5,t,[],nl (c::r)⟩]) here
      else .more r' (out++[⟨1,t,[],nl (c::r)⟩]) (if hung out=true then here++[out.length] else here)
def runF:Nat→L→List Tok→List Nat→Except (Nat×Nat) (List Tok)
 | 0,_,_,_=>.error (20,0)
 | n+1,l,out,here=>match step l out here with
  | .more l' out' here'=>runF n l' out' here'
  | .fail e k=>.error (e,k)
  | .done o=>.ok o
def run (l:L) (out:List Tok) (here:List Nat):Except (Nat×Nat) (List Tok):=runF (l.length+1) l out here
theorem cut_len (l:L):l≠[]→(cut l).2.length<l.length:=by
 induction l with
 | nil=>intro h;exact absurd rfl h
 | cons c r ih=>
  intro _
  unfold cut
  split
  ·simp
  ·cases r with
   | nil=>simp[cut]
   | cons b q=>have:=ih (by simp);simp only[List.length_cons] at this⊢;omega
theorem docF_len (last:L) (n:Nat) {l b r:L} (h:docF last n l=some (b,r)):r.length<l.length:=by
 induction n generalizing l b r with
 | zero=>cases h
 | succ n ih=>
  unfold docF at h
  split at h
  ·cases h
  ·rename_i hl
   have h1:=cut_len l hl
   split at h
   ·cases h;exact h1
   ·cases e:docF last n (cut l).2 with
    | none=>rw[e] at h;cases h
    | some p=>rw[e] at h;cases h;have:=ih e;omega
theorem docF_stable (last:L) (n m:Nat) (l:L) (h1:l.length<n) (h2:l.length<m):docF last n l=docF last m l:=by
 induction n generalizing m l with
 | zero=>omega
 | succ n ih=>
  cases m with
  | zero=>omega
  | succ m=>
   unfold docF
   split
   ·rfl
   ·rename_i hl
    have h3:=cut_len l hl
    split
    ·rfl
    ·rw[ih m (cut l).2 (by omega) (by omega)]
theorem doc_at (last l:L):doc last l =
  if l=[] then none
  else if (cut l).1=last then some ([],(cut l).2)
  else (doc last (cut l).2).map fun p=>((cut l).1++10::p.1,p.2):=by
 unfold doc
 rw[docF]
 split
 ·rfl
 ·rename_i hl
  have h3:=cut_len l hl
  split
  ·rfl
  ·rw[docF_stable last _ ((cut l).2.length+1) (cut l).2 (by omega) (by omega)]
theorem doc_lt {last l b r:L} (h:doc last l=some (b,r)):r.length<l.length:=docF_len last _ h
theorem bodies_le (ks:List Nat) {out o:List Tok} {l r:L} (h:bodies ks out l=some (o,r)):r.length≤l.length:=by
 induction ks generalizing out l with
 | nil=>cases h;omega
 | cons k ks ih=>
  unfold bodies at h
  cases e:doc (bare ((out[k]?.map Tok.text).getD [])) l with
  | none=>rw[e] at h;cases h
  | some x=>rw[e] at h;have:=ih h;have:=doc_lt e;omega
theorem skip_le (l:L):(skip l).length≤l.length:=by
 induction l with
 | nil=>simp[skip]
 | cons c r ih=>unfold skip;split <;> simp only[List.length_cons] <;> omega
theorem some_snd {α β:Type} {x:α×β} {a:α} {b:β} (h:some x=some (a,b)):x.2=b:=by cases h;rfl
theorem sign_lt {l t r:L} (h:sign l=some (t,r)):r.length<l.length:=by
 cases l with
 | nil=>cases h
 | cons c l=>
  have ht:l.tail.length≤l.length:=by rw[List.length_tail];omega
  have hs:r=l∨r=l.tail:=by
   simp only[sign] at h
   repeat' (split at h)
   all_goals first | exact .inl (some_snd h).symm | exact .inr (some_snd h).symm | (cases h;done)
  simp only[List.length_cons]
  rcases hs with rfl | rfl <;> omega
theorem sign_none {c:UInt8} {r:L} (h:sign (c::r)=none) (h1:¬ (c=32∨c=9)) (h2:¬ c=10) (h3:¬ c=38):ends (c::r)=false:=by
 unfold sign at h
 simp only[if_neg h3] at h
 by_cases a1:c=124
 ·rw[if_pos a1] at h;split at h <;> cases h
 rw[if_neg a1] at h
 by_cases a2:c=59
 ·rw[if_pos a2] at h;split at h <;> cases h
 rw[if_neg a2] at h
 by_cases a3:c=60
 ·rw[if_pos a3] at h;split at h <;> cases h
 rw[if_neg a3] at h
 by_cases a4:c=62
 ·rw[if_pos a4] at h;split at h <;> cases h
 rw[if_neg a4] at h
 by_cases a5:c=40∨c=41
 ·rw[if_pos a5] at h;cases h
 simp only[not_or] at h1 a5
 simp[ends,stop,h1,h2,h3,a1,a2,a3,a4,a5]
theorem step_lt {l l':L} {out out':List Tok} {here here':List Nat} (h:step l out here=.more l' out' here'):l'.length<l.length:=by
 unfold step at h
 cases l with
 | nil=>simp only at h;split at h <;> cases h
 | cons c r=>
  simp only at h
  have ht:r.tail.length≤r.length:=by rw[List.length_tail];omega
  split at h
  ·cases h;simp
  ·rename_i h1
   split at h
   ·cases h;simp only[List.length_cons];omega
   ·split at h
    ·cases h;have:=skip_le r;simp only[List.length_cons];omega
    ·split at h
     ·cases e:bodies here (out++[⟨3,[],[],nl (c::r)⟩]) r with
      | none=>rw[e] at h;cases h
      | some x=>rw[e] at h;cases h;have:=bodies_le _ e;simp only[List.length_cons];omega
     ·rename_i h10
      cases e:sign (c::r) with
      | some x=>rw[e] at h;cases h;exact sign_lt e
      | none=>
       rw[e] at h
       simp only at h
       split at h
       ·cases h
       ·rename_i h38
        have he:=sign_none e h1 h10 h38
        cases e2:word (c::r) with
        | error x=>rw[e2] at h;cases h
        | ok x=>
         rw[e2] at h
         have h9:=word_lt (t:=x.1) (r:=x.2) e2 he
         simp only at h
         split at h <;> cases h <;> exact h9
theorem runF_stable (n m:Nat) (l:L) (out:List Tok) (here:List Nat) (h1:l.length<n) (h2:l.length<m):runF n l out here=runF m l out here:=by
 induction n generalizing m l out here with
 | zero=>omega
 | succ n ih=>
  cases m with
  | zero=>omega
  | succ m=>
   unfold runF
   cases e:step l out here with
   | fail a b=>rfl
   | done o=>rfl
   | more l' o' h'=>
    have h3:=step_lt e
    simp only
    rw[ih m l' o' h' (by omega) (by omega)]
theorem run_at (l:L) (out:List Tok) (here:List Nat):run l out here=match step l out here with
  | .more l' out' here'=>run l' out' here'
  | .fail e k=>.error (e,k)
  | .done o=>.ok o:=by
 unfold run
 rw[runF]
 cases e:step l out here with
 | fail a b=>rfl
 | done o=>rfl
 | more l' o' h'=>
  have h3:=step_lt e
  simp only
  rw[runF_stable _ (l'.length+1) l' o' h' (by omega) (by omega)]
theorem run_ind (I:L→List Tok→List Nat→Prop) (hs:∀ l out here l' out' here',I l out here→step l out here=.more l' out' here'→I l' out' here') (l:L) (out:List Tok) (here:List Nat) (h:I l out here) :
  (∀ e k,run l out here=.error (e,k)→∃ l' out' here',I l' out' here'∧step l' out' here'=.fail e k)∧(∀ o,run l out here=.ok o→∃ l' out' here',I l' out' here'∧step l' out' here'=.done o):=by
 generalize hn:l.length=n
 induction n using Nat.strongRecOn generalizing l out here with
 | ind n ih=>
  rw[run_at]
  cases e:step l out here with
  | fail a b=>exact⟨fun _ _ h1=>(by cases h1;exact⟨l,out,here,h,e⟩),fun _ h1=>(by cases h1)⟩
  | done o=>exact⟨fun _ _ h1=>(by cases h1),fun _ h1=>(by cases h1;exact⟨l,out,here,h,e⟩)⟩
  | more l' o' h'=>exact ih l'.length (by rw[←hn];exact step_lt e) l' o' h' (hs _ _ _ _ _ _ h e) rfl
def all (s:L):Except (Nat×Nat) (List Tok):=run s [] []
end Lx
end Go.Proofs.YtkkchkkpnlnbgaaGreatDoor
