/- What items put is read as their tokens. No premises. -/
import Derived.Test.YtkkchkkpnlnbgaaGreatDoorQe
import Derived.Test.YtkkchkkpnlnbgaaGreatDoorNk
import Derived.Test.YtkkchkkpnlnbgaaGreatDoorNz
namespace Go.Proofs.YtkkchkkpnlnbgaaGreatDoor
namespace Vx
open Sx (Arw)
open Lx (Tok)
open Up (S)
def tx:List It→L→L
 | [],_=>[]
 | .sp::c,m=>32::tx c m
 | .tk _ t::c,m=>t++tx c m
 | .ar x::c,m=>Up.num x.fd++(x.op++(x.word++tx c (if x.op=[60,60] then m++(x.body++Lx.bare x.word++[10]) else m)))
 | .nl::c,m=>10::(m++tx c [])
theorem emit_tx:∀ (c:List It) (s:S),(emit c s).text=s.text++tx c s.more
 | [],s=>by simp[tx]
 | .sp::c,s=>by rw[emit_cons,emit_tx c];simp[put1,Up.put,tx]
 | .tk k t::c,s=>by rw[emit_cons,emit_tx c];simp[put1,Up.put,tx]
 | .ar x::c,s=>by
  rw[emit_cons,emit_tx c]
  by_cases h:x.op=[60,60]
  ·simp[put1,Up.redir,tx,h]
  ·simp[put1,Up.redir,Up.put,tx,h]
 | .nl::c,s=>by rw[emit_cons,emit_tx c];simp[put1,Up.line,tx]
def Wt (out:List Tok):List Nat→List (L×L)→Prop
 | [],[]=>True
 | k::ks,p::ps=>out[k]?.map Tok.text=some p.1∧DocOk p.1 p.2∧Wt out ks ps
 | _,_=>False
def lays:List Nat→List (L×L)→List Tok→List Tok
 | k::ks,p::ps,out=>lays ks ps (Lx.lay k p.2 out)
 | _,_,out=>out
def waits (ps:List (L×L)):L:=ps.flatMap fun p=>p.2++Lx.bare p.1++[10]
theorem Wt.same {out o:List Tok} (hk:∀ (k:Nat) (t:L),out[k]?.map Tok.text=some t→o[k]?.map Tok.text=some t):∀ {ks:List Nat} {ps:List (L×L)},Wt out ks ps→Wt o ks ps
 | [],[],_=>trivial
 | _::_,_::_,⟨h1,h2,h3⟩=>⟨hk _ _ h1,h2,h3.same hk⟩
 | [],_::_,h=>h.elim
 | _::_,[],h=>h.elim
theorem Wt.app {out:List Tok} {ks:List Nat} {ps:List (L×L)} (h:Wt out ks ps) (l:List Tok):Wt (out++l) ks ps:=h.same fun k t e=>by
 cases e1:out[k]? with
 | none=>rw[e1] at e;cases e
 | some u=>rw[List.getElem?_append_left (List.getElem?_eq_some_iff.1 e1).1];exact e
theorem lay_text (k:Nat) (b:L) (out:List Tok) (i:Nat):(Lx.lay k b out)[i]?.map Tok.text=out[i]?.map Tok.text:=by
 rw[Lx.lay_at]
 cases out[i]? with
 | none=>rfl
 | some u=>simp only[Option.map_some];split <;> rfl
theorem Wt.lay {out:List Tok} {ks:List Nat} {ps:List (L×L)} (h:Wt out ks ps) (k:Nat) (b:L):Wt (Lx.lay k b out) ks ps:=h.same fun i t e=>by rw[lay_text];exact e
theorem bodies_lays:∀ {ks:List Nat} {ps:List (L×L)} {out:List Tok},Wt out ks ps→∀ r,Lx.bodies ks out (waits ps++r)=some (lays ks ps out,r)
 | [],[],_,_,_=>rfl
 | k::ks,p::ps,out,⟨h1,h2,h3⟩,r=>by
  unfold Lx.bodies
  have e:waits (p::ps)++r=p.2++Lx.bare p.1++10::(waits ps++r):=by simp[waits]
  rw[h1,Option.getD_some,e,h2]
  exact bodies_lays (h3.lay k p.2) r
 | [],_::_,_,h,_=>h.elim
 | _::_,[],_,h,_=>h.elim
theorem lay_app (k:Nat) (b:L) (out l:List Tok) (hk:k<out.length):Lx.lay k b (out++l)=Lx.lay k b out++l:=by
 have hl:(Lx.lay k b out).length=out.length:=by unfold Lx.lay;simp
 apply List.ext_getElem?
 intro i
 rw[Lx.lay_at]
 by_cases h:i<out.length
 ·rw[List.getElem?_append_left h,List.getElem?_append_left (by omega),Lx.lay_at]
 ·rw[List.getElem?_append_right (by omega),List.getElem?_append_right (by omega),hl]
  cases l[i-out.length]? with
  | none=>rfl
  | some u=>simp only[Option.map_some];rw[if_neg (by omega)]
theorem lays_len:∀ (ks:List Nat) (ps:List (L×L)) (out:List Tok),(lays ks ps out).length=out.length
 | [],_,_=>by simp[lays]
 | _::_,[],_=>by simp[lays]
 | k::ks,p::ps,out=>by rw[lays,lays_len ks ps];unfold Lx.lay;simp
theorem lays_app:∀ {ks:List Nat} {ps:List (L×L)} {out:List Tok},Wt out ks ps→∀ l,lays ks ps (out++l)=lays ks ps out++l
 | [],[],_,_,_=>rfl
 | k::ks,p::ps,out,⟨h1,h2,h3⟩,l=>by
  have hk:k<out.length:=by
   cases e:out[k]? with
   | none=>rw[e] at h1;cases h1
   | some u=>exact(List.getElem?_eq_some_iff.1 e).1
  rw[lays,lays,lay_app k p.2 out l hk,lays_app (h3.lay k p.2)]
 | [],_::_,_,h,_=>h.elim
 | _::_,[],_,h,_=>h.elim
theorem lays_snoc:∀ {ks:List Nat} {ps:List (L×L)} (out:List Tok),ks.length=ps.length→∀ k p,lays (ks++[k]) (ps++[p]) out=Lx.lay k p.2 (lays ks ps out)
 | [],[],_,_,_,_=>rfl
 | k::ks,p::ps,out,h,k',p'=>by
  rw[List.cons_append,List.cons_append,lays,lays,lays_snoc _ (by simpa using h)]
 | [],_::_,_,h,_,_=>by cases h
 | _::_,[],_,h,_,_=>by cases h
theorem Wt.len:∀ {ks:List Nat} {ps:List (L×L)} {out:List Tok},Wt out ks ps→ks.length=ps.length
 | [],[],_,_=>rfl
 | _::_,_::_,_,⟨_,_,h⟩=>by simp[h.len]
 | [],_::_,_,h=>h.elim
 | _::_,[],_,h=>h.elim
theorem Wt.snoc:∀ {ks:List Nat} {ps:List (L×L)} {out:List Tok},Wt out ks ps→∀ (k:Nat) (p:L×L),out[k]?.map Tok.text=some p.1→DocOk p.1 p.2→Wt out (ks++[k]) (ps++[p])
 | [],[],_,_,_,_,h1,h2=>⟨h1,h2,trivial⟩
 | _::_,_::_,_,⟨a,b,c⟩,k,p,h1,h2=>⟨a,b,c.snoc k p h1 h2⟩
 | [],_::_,_,h,_,_,_,_=>h.elim
 | _::_,[],_,h,_,_,_,_=>h.elim
theorem hung_last (out:List Tok) (t:Tok):Lx.hung (out++[t])=(t.kind==2 && t.text==[60,60]):=by
 unfold Lx.hung
 rw[List.getLast?_append]
 rfl
theorem run_sign {c:UInt8} {l t r:L} (out:List Tok) (here:List Nat) (h1:c≠32) (h2:c≠9) (h3:c≠92) (h4:c≠35) (h5:c≠10) (hs:Lx.sign (c::l)=some (t,r)):Lx.run (c::l) out here=Lx.run r (out++[⟨2,t,[],Lx.nl (c::l)⟩]) here:=by
 rw[Lx.run_at,Lx.step]
 simp only[if_neg (show ¬ (c=32∨c=9) by rintro(h | h);exact h1 h;exact h2 h),if_neg (show ¬ (c=92∧l.head?=some 10) from fun h=>h3 h.1),if_neg h4,if_neg h5,hs]
theorem run_line {l:L} {out o:List Tok} {here:List Nat} {r:L} (h:Lx.bodies here (out++[⟨3,[],[],Lx.nl (10::l)⟩]) l=some (o,r)):Lx.run (10::l) out here=Lx.run r o []:=by
 rw[Lx.run_at,Lx.step]
 simp[h]
theorem byte_plain (c:UInt8) (h:(letB c || dig c)=true):Lx.plain c=true:=by
 have:=(by decide +kernel:∀ i:_root_.Fin 256,(letB (UInt8.ofNat i.val) || dig (UInt8.ofNat i.val))=true→Lx.plain (UInt8.ofNat i.val)=true) ⟨c.toNat,c.toNat_lt⟩
 simp only[UInt8.ofNat_toNat] at this
 exact this h
theorem run_tok {t rest:L} (out:List Tok) (here:List Nat) (h:WordOk t) (he:Lx.ends rest=true) (hb:¬ Lx.Bad rest∨(nameB t=true)) (hr:rest.head?≠some 60∧rest.head?≠some 62):∃ n,Lx.run (t++rest) out here=Lx.run rest (out++[⟨1,t,[],n⟩]) (if Lx.hung out=true then here++[out.length] else here):=by
 have hw:Lx.word (t++rest)=.ok (t,rest):=by
  rcases hb with hb | hb
  ·exact h.again rest he hb
  ·have hp:∀ c∈t,Lx.plain c=true:=fun c hc=>by
    unfold nameB at hb
    split at hb
    ·cases hc
    ·rw[Bool.and_eq_true,List.all_eq_true] at hb
     have:=hb.2 c hc
     exact byte_plain c this
   rw[Lx.word_plain t hp,Lx.word_at,if_pos he]
   simp[Lx.pre]
 cases t with
 | nil=>exact absurd rfl h.ne
 | cons b t=>
  refine⟨Lx.nl (b::(t++rest)),?_⟩
  rw[List.cons_append] at hw⊢
  rw[Lx.run_word b (t++rest) (b::t) rest out here h.ends ?_ (by simpa using h.sharp) hw ?_]
  ·rintro⟨rfl,h10⟩
   cases t with
   | nil=>
    have:=h.again [10] rfl (by simp[Lx.Bad])
    rw[List.singleton_append,Lx.word_join,Lx.word_at] at this
    simp[Lx.ends] at this
   | cons d t=>exact h.joint rfl (by simpa using h10)
  ·unfold Lx.io
   have e1:(rest.head?==some 60)=false:=by simpa using hr.1
   have e2:(rest.head?==some 62)=false:=by simpa using hr.2
   rw[e1,e2,Bool.or_false,Bool.and_false]
theorem num_all:∀ n,n<100→(Up.num n).all Lx.plain=true∧Lx.digits (Up.num n)=true∧∃ c l,Up.num n=c::l∧c≠32∧c≠9∧c≠92∧c≠35∧c≠10∧c≠38∧Lx.sign [c]=none:=by
 intro n hn
 have h:=(by decide +kernel:∀ i:_root_.Fin 100,(Up.num i.val).all Lx.plain=true∧Lx.digits (Up.num i.val)=true∧(Up.num i.val)≠[]∧(let c:=(Up.num i.val).headD 0;c≠32∧c≠9∧c≠92∧c≠35∧c≠10∧c≠38∧Lx.sign [c]=none)) ⟨n,hn⟩
 obtain⟨h1,h2,h3,h4⟩:=h
 refine⟨h1,h2,?_⟩
 cases e:Up.num n with
 | nil=>exact absurd e h3
 | cons c l=>
  simp only[e] at h4
  exact⟨c,l,rfl,h4⟩
theorem run_num {n:Nat} (hn:n<100) {rest:L} (out:List Tok) (here:List Nat) (hr:rest.head?=some 60∨rest.head?=some 62):∃ k,Lx.run (Up.num n++rest) out here=Lx.run rest (out++[⟨5,Up.num n,[],k⟩]) here:=by
 obtain⟨h1,h2,c,l,h3,a1,a2,a3,a4,a5,a6,a7⟩:=num_all n hn
 have he:Lx.ends rest=true:=by
  cases rest with
  | nil=>rfl
  | cons b r=>
   simp only[List.head?_cons,Option.some.injEq] at hr
   rcases hr with rfl | rfl <;> rfl
 have hw:Lx.word (Up.num n++rest)=.ok (Up.num n,rest):=by
  rw[Lx.word_plain _ (by rw[List.all_eq_true] at h1;exact h1),Lx.word_at,if_pos he]
  simp[Lx.pre]
 have hsg:∀ q,Lx.sign (c::q)=none:=fun q=>by
  obtain⟨s1,s2,s3,s4,s5,s6⟩:=Lx.sign_none2 a7
  simp[Lx.sign,a6,s1,s2,s3,s4,s5,s6]
 have hio:Lx.io (Up.num n) ((Up.num n++rest).length-rest.length) rest=true:=by
  unfold Lx.io
  rw[h2,List.length_append,Nat.add_sub_cancel]
  simpa using hr
 rw[h3] at hw hio⊢
 rw[List.cons_append] at hw hio⊢
 refine⟨Lx.nl (c::(l++rest)),?_⟩
 rw[Lx.run_at,Lx.step]
 simp only[if_neg (show ¬ (c=32∨c=9) by rintro(h | h);exact a1 h;exact a2 h),if_neg (show ¬ (c=92∧(l++rest).head?=some 10) from fun h=>a3 h.1),if_neg a4,if_neg a5,hsg,if_neg a6,hw,hio,if_true]
theorem arrow_sign {t w r:L} (h:Sx.isArrow t=true) (hw:Lx.ends w=false):Lx.sign (t++(w++r))=some (t,w++r)∧∃ c l,t=c::l∧(c=60∨c=62):=by
 have hh:∀ c,(w++r).head?=some c→Lx.stop c=false:=fun c hc=>by
  cases w with
  | nil=>cases hw
  | cons b w=>simp only[List.cons_append,List.head?_cons,Option.some.injEq] at hc;subst hc;exact hw
 have h60:(w++r).head?≠some 60:=fun e=>by have:=hh 60 e;cases this
 have h62:(w++r).head?≠some 62:=fun e=>by have:=hh 62 e;cases this
 unfold Sx.isArrow at h
 simp only[Bool.or_eq_true,beq_iff_eq] at h
 rcases h with((h | h) | h) | h
 ·subst h
  refine⟨?_,60,[],rfl,.inl rfl⟩
  show Lx.sign (60::(w++r))=_
  rw[Lx.sign60,if_neg h60]
 ·subst h
  refine⟨?_,62,[],rfl,.inr rfl⟩
  show Lx.sign (62::(w++r))=_
  rw[Lx.sign62,if_neg h62]
 ·subst h
  refine⟨?_,62,[62],rfl,.inr rfl⟩
  show Lx.sign (62::62::(w++r))=_
  rw[Lx.sign62]
  simp
 ·subst h
  refine⟨?_,60,[60],rfl,.inl rfl⟩
  show Lx.sign (60::60::(w++r))=_
  rw[Lx.sign60]
  simp
theorem lay_last (A:List Tok) (t:Tok) (b:L):Lx.lay A.length b (A++[t])=A++[{ t with body:=b }]:=by
 unfold Lx.lay
 induction A with
 | nil=>rfl
 | cons a A ih=>simpa using ih
theorem waits_snoc (ws:List (L×L)) (p:L×L):waits (ws++[p])=waits ws++(p.2++Lx.bare p.1++[10]):=by simp[waits]
theorem behind_word {t:L} {j:It} {d:List It} {m:L} (h:adj (.tk 1 t) j):Lx.ends (tx (j::d) m)=true∧(¬ Lx.Bad (tx (j::d) m)∨nameB t=true)∧(tx (j::d) m).head?≠some 60∧(tx (j::d) m).head?≠some 62:=by
 cases j with
 | sp=>exact⟨rfl,.inl (by simp[tx,Lx.Bad]),by simp[tx],by simp[tx]⟩
 | nl=>exact⟨rfl,.inl (by simp[tx,Lx.Bad]),by simp[tx],by simp[tx]⟩
 | ar x=>exact h.elim
 | tk k u=>
  rcases h with rfl | rfl | ⟨rfl,hn⟩
  ·exact⟨rfl,.inl (by simp[tx,Lx.Bad]),by simp[tx],by simp[tx]⟩
  ·exact⟨rfl,.inl (by simp[tx,Lx.Bad]),by simp[tx],by simp[tx]⟩
  ·exact⟨rfl,.inr hn,by simp[tx],by simp[tx]⟩
theorem bar_next {t:L} {j:It} {d:List It} {m:L} (ht:t=[124]) (hj:iv j) (h:adj (.tk 2 t) j):(tx (j::d) m).head?≠some 124:=by
 cases j with
 | sp=>simp[tx]
 | nl=>simp[tx]
 | ar x=>
  obtain⟨_,_,c,l,h3,_,_,_,_,_,_,a7⟩:=num_all x.fd (by have:=(show ArOk x from hj).fd;omega)
  have:=(Lx.sign_none2 a7).1
  simp only[tx,h3,List.cons_append,List.head?_cons,ne_eq,Option.some.injEq]
  exact this
 | tk k u=>
  have hu:u.head?≠some 124:=h ht
  have hne:u≠[]:=by
   match k,hj with
   | 1,hj=>exact WordOk.ne hj
   | 2,hj=>rintro rfl;exact absurd (show ([]:L)∈signs from hj) (by decide)
  cases u with
  | nil=>exact absurd rfl hne
  | cons b u=>simpa [tx] using hu
theorem signs_sign {t r:L} (h:t∈signs) (hb:t=[124]→r.head?≠some 124):Lx.sign (t++r)=some (t,r)∧∃ c l,t=c::l∧c≠32∧c≠9∧c≠92∧c≠35∧c≠10:=by
 simp only[signs,List.mem_cons,List.not_mem_nil,or_false] at h
 rcases h with h | h | h | h | h | h
 ·have:=hb h
  subst h
  exact⟨by simp[Lx.sign,this],_,_,rfl,by decide⟩
 all_goals (subst h;exact⟨by simp[Lx.sign],_,_,rfl,by decide⟩)
theorem run_items:∀ (c:List It) (ws:List (L×L)) (out:List Tok) (here:List Nat),(∀ i∈c,iv i)→Ch c→(c=[]∧ws=[]∨c.getLast?=some .nl)→Wt out here ws→Lx.hung out=false→∃ o,Lx.run (tx c (waits ws)) out here=.ok o∧o.map er=(lays here ws out).map er++toks c++[⟨4,[],[],0⟩]
 | [],ws,out,here,_,_,hl,hw,_=>by
  rcases hl with⟨_,rfl⟩ | hl
  ·cases here with
   | nil=>exact⟨_,Lx.run_nil out,by simp[lays,toks,er]⟩
   | cons k ks=>exact hw.elim
  ·cases hl
 | i::c,ws,out,here,hv,hch,hl,hw,hh=>by
  have hl:(i::c).getLast?=some .nl:=by
   rcases hl with⟨h,_⟩ | h
   ·cases h
   ·exact h
  have hv':∀ j∈c,iv j:=fun j h=>hv j (List.mem_cons_of_mem _ h)
  have hi:=hv i (List.mem_cons_self ..)
  have hch':Ch c:=by
   cases c with
   | nil=>trivial
   | cons j d=>exact hch.2
  have hne:i≠.nl→∃ j d,c=j::d∧adj i j∧c.getLast?=some .nl:=fun hn=>by
   cases c with
   | nil=>simp at hl;exact absurd hl hn
   | cons j d=>exact⟨j,d,rfl,hch.1,by rw[List.getLast?_cons_cons] at hl;exact hl⟩
  cases i with
  | sp=>
   obtain⟨j,d,rfl,_,hl'⟩:=hne (by simp)
   obtain⟨o,h1,h2⟩:=run_items (j::d) ws out here hv' hch' (.inr hl') hw hh
   exact⟨o,by rw[tx,Lx.run_blank _ _ _ _ (.inl rfl)];exact h1,h2⟩
  | nl=>
   have hb:=bodies_lays (hw.app [⟨3,[],[],Lx.nl (10::(waits ws++tx c []))⟩]) (tx c [])
   have hr:=run_line hb
   rw[lays_app hw] at hr
   have hl':c=[]∧([]:List (L×L))=[]∨c.getLast?=some .nl:=by
    cases c with
    | nil=>exact .inl ⟨rfl,rfl⟩
    | cons j d=>exact .inr (by rw[List.getLast?_cons_cons] at hl;exact hl)
   obtain⟨o,h1,h2⟩:=run_items c [] (lays here ws out++[⟨3,[],[],Lx.nl (10::(waits ws++tx c []))⟩]) [] hv' hch' hl' trivial (by rw[hung_last];rfl)
   refine⟨o,?_,?_⟩
   ·rw[tx,hr];exact h1
   ·rw[h2];simp[lays,toks,tok1,er]
  | tk k t=>
   obtain⟨j,d,rfl,hadj,hl'⟩:=hne (by simp)
   match k,hi,hadj with
   | 1,hi,hadj=>
    obtain⟨b1,b2,b3,b4⟩:=behind_word (d:=d) (m:=waits ws) hadj
    obtain⟨n,e⟩:=run_tok out here hi b1 b2 ⟨b3,b4⟩
    rw[hh] at e
    obtain⟨o,h1,h2⟩:=run_items (j::d) ws (out++[⟨1,t,[],n⟩]) here hv' hch' (.inr hl') (hw.app _) (by rw[hung_last];rfl)
    exact⟨o,by rw[tx,e];exact h1,by rw[h2,lays_app hw];simp[toks,tok1,er]⟩
   | 2,hi,hadj=>
    obtain⟨s1,b,l,rfl,a1,a2,a3,a4,a5⟩:=signs_sign (r:=tx (j::d) (waits ws)) hi fun ht=>bar_next ht (hv' j (List.mem_cons_self ..)) hadj
    have e:=run_sign out here a1 a2 a3 a4 a5 s1
    have hht:Lx.hung (out++[⟨2,b::l,[],Lx.nl (b::(l++tx (j::d) (waits ws)))⟩])=false:=by
     rw[hung_last]
     have:(b::l)≠[60,60]:=by intro e;rw[e] at hi;exact absurd (show ([60,60]:L)∈signs from hi) (by decide)
     simpa using this
    obtain⟨o,h1,h2⟩:=run_items (j::d) ws _ here hv' hch' (.inr hl') (hw.app _) hht
    exact⟨o,by rw[tx];exact e.trans h1,by rw[h2,lays_app hw];simp[toks,tok1,er]⟩
  | ar x=>
   obtain⟨j,d,rfl,hadj,hl'⟩:=hne (by simp)
   have ha:ArOk x:=hi
   obtain⟨m',hm'⟩:∃ m',m'=if x.op=[60,60] then waits ws++(x.body++Lx.bare x.word++[10]) else waits ws:=⟨_,rfl⟩
   obtain⟨g1,b,l,g2,g3⟩:=arrow_sign (r:=tx (j::d) m') ha.op ha.word.ends
   have hhd:(x.op++(x.word++tx (j::d) m')).head?=some b:=by rw[g2];rfl
   obtain⟨n1,e1⟩:=run_num (n:=x.fd) (by have:=ha.fd;omega) out here (rest:=x.op++(x.word++tx (j::d) m')) (by rw[hhd];rcases g3 with rfl | rfl <;> simp)
   obtain⟨out1,ho1⟩:∃ o,o=out++[⟨5,Up.num x.fd,[],n1⟩]:=⟨_,rfl⟩
   have e2:∃ n2,Lx.run (x.op++(x.word++tx (j::d) m')) out1 here=Lx.run (x.word++tx (j::d) m') (out1++[⟨2,x.op,[],n2⟩]) here:=by
    refine⟨Lx.nl (x.op++(x.word++tx (j::d) m')),?_⟩
    rw[g2] at g1⊢
    exact run_sign out1 here (by rcases g3 with rfl | rfl <;> decide) (by rcases g3 with rfl | rfl <;> decide) (by rcases g3 with rfl | rfl <;> decide) (by rcases g3 with rfl | rfl <;> decide) (by rcases g3 with rfl | rfl <;> decide) g1
   obtain⟨n2,e2⟩:=e2
   obtain⟨out2,ho2⟩:∃ o,o=out1++[⟨2,x.op,[],n2⟩]:=⟨_,rfl⟩
   have hj:Lx.ends (tx (j::d) m')=true∧¬ Lx.Bad (tx (j::d) m')∧(tx (j::d) m').head?≠some 60∧(tx (j::d) m').head?≠some 62:=by
    cases j with
    | sp=>exact⟨rfl,by simp[tx,Lx.Bad],by simp[tx],by simp[tx]⟩
    | nl=>exact⟨rfl,by simp[tx,Lx.Bad],by simp[tx],by simp[tx]⟩
    | ar y=>exact hadj.elim
    | tk k u=>exact hadj.elim
   obtain⟨n3,e3⟩:=run_tok out2 here ha.word hj.1 (.inl hj.2.1) hj.2.2
   have hung2:Lx.hung out2=(x.op==[60,60]):=by rw[ho2,hung_last];simp
   have hrun:Lx.run (tx (.ar x::j::d) (waits ws)) out here=Lx.run (tx (j::d) m') (out2++[⟨1,x.word,[],n3⟩]) (if (x.op==[60,60])=true then here++[out2.length] else here):=by
    rw[←ho1] at e1
    rw[←ho2] at e2
    rw[hung2] at e3
    rw[tx,←hm',e1,e2,e3]
   have happ:out2++[⟨1,x.word,[],n3⟩]=out++[⟨5,Up.num x.fd,[],n1⟩,⟨2,x.op,[],n2⟩,⟨1,x.word,[],n3⟩]:=by rw[ho2,ho1];simp
   have hh3:Lx.hung (out2++[⟨1,x.word,[],n3⟩])=false:=by rw[hung_last];rfl
   rw[hrun]
   by_cases hop:x.op=[60,60]
   ·rw[if_pos (by simpa using hop)]
    rw[if_pos hop] at hm'
    have hws:m'=waits (ws++[(x.word,x.body)]):=by rw[hm',waits_snoc]
    have hwt:Wt (out2++[⟨1,x.word,[],n3⟩]) (here++[out2.length]) (ws++[(x.word,x.body)]):=by
     refine Wt.snoc ?_ _ _ (by simp) (ha.doc hop)
     rw[happ]
     exact hw.app _
    obtain⟨o,h1,h2⟩:=run_items (j::d) (ws++[(x.word,x.body)]) _ _ hv' hch' (.inr hl') hwt hh3
    refine⟨o,by rw[hws];exact h1,?_⟩
    have hlen:out2.length=(lays here ws out++[(⟨5,Up.num x.fd,[],n1⟩:Tok),⟨2,x.op,[],n2⟩]).length:=by rw[ho2,ho1,List.length_append,List.length_append,List.length_append,lays_len];simp
    rw[h2,lays_snoc _ hw.len,happ,lays_app hw,hlen]
    have e9:lays here ws out++[(⟨5,Up.num x.fd,[],n1⟩:Tok),⟨2,x.op,[],n2⟩,⟨1,x.word,[],n3⟩]=(lays here ws out++[(⟨5,Up.num x.fd,[],n1⟩:Tok),⟨2,x.op,[],n2⟩])++[⟨1,x.word,[],n3⟩]:=by simp
    rw[e9,lay_last]
    simp[toks,tok1,er]
   ·rw[if_neg (by simpa using hop)]
    rw[if_neg hop] at hm'
    obtain⟨o,h1,h2⟩:=run_items (j::d) ws _ here hv' hch' (.inr hl') (by rw[happ];exact hw.app _) hh3
    refine⟨o,by rw[hm'];exact h1,?_⟩
    rw[h2,happ,lays_app hw]
    simp[toks,tok1,er,ha.none hop]
end Vx
end Go.Proofs.YtkkchkkpnlnbgaaGreatDoor
namespace Go.Proofs.YtkkchkkpnlnbgaaGreatDoor
namespace Vx
open Lx (Tok)
theorem text_of {ns:List Sx.Node} {c:List It} (hne:ns≠[]) (h:Em 0 ns (ns.length-1) c):Up.text ns=tx c []:=by
 unfold Up.text
 have:=h [] [] ns.length ⟨[],[]⟩ rfl (Nat.le_refl _)
 rw[List.nil_append,List.append_nil] at this
 rw[if_neg hne,this,emit_tx]
 rfl
theorem back {s:L} {ns:List Sx.Node} (h:Sx.tree s=.ok ns):(El ns∧∃ l,Sx.tree (Up.text ns)=.error (21,l))∨∃ ns',Sx.tree (Up.text ns)=.ok ns'∧Up.text ns'=Up.text ns∧(El ns∨ns'.map Sx.strip=ns.map Sx.strip):=by
 unfold Sx.tree at h
 cases e:Lx.all s with
 | error x=>rw[e] at h;cases h
 | ok ts=>
  rw[e] at h
  obtain⟨b,c,pb⟩:=parse_bk (Lx.all_good e) (all_vl e) h
  have ht:=text_of pb.ne pb.em
  have hl:c=[]∧([]:List (L×L))=[]∨c.getLast?=some .nl:=by
   cases e1:c.getLast? with
   | none=>exact .inl ⟨by simpa using e1,rfl⟩
   | some i=>exact .inr (by rw[pb.last i e1])
  obtain⟨o,h1,h2⟩:=run_items c [] [] [] pb.gd.1 pb.gd.2 hl trivial rfl
  have hall:Lx.all (Up.text ns)=.ok o:=by rw[ht];exact h1
  have h3:o.map er=toks c++[⟨4,[],[],0⟩]:=by rw[h2];simp[lays]
  obtain⟨p,q,rfl,h4,h5⟩:=List.map_eq_append_iff.1 h3
  obtain⟨t,rfl,h6⟩:∃ t,q=[t]∧er t=⟨4,[],[],0⟩:=by
   cases q with
   | nil=>cases h5
   | cons t q=>
    rw[List.map_cons] at h5
    injection h5 with h6 h7
    exact⟨t,by rw[List.map_eq_nil_iff.1 h7],h6⟩
  have hk:t.kind=4:=congrArg Tok.kind h6
  have hx:t.text=[]:=congrArg Tok.text h6
  have htr:Sx.tree (Up.text ns)=Sx.parse (p++[t]):=by unfold Sx.tree;rw[hall]
  rw[htr]
  rcases pb.back (p++[t]) [t] ⟨p,rfl,h4⟩ hk (by show aoT t=false;unfold aoT;rw[hk,hx];rfl) with⟨h7,l,h8⟩ | ⟨ns',h7,h8,h9,h10⟩
  ·exact .inl ⟨pb.el h7,l,h8⟩
  ·refine .inr ⟨ns',h7,by rw[ht,text_of h8 h9],?_⟩
   cases b with
   | true=>exact .inl (pb.el rfl)
   | false=>exact .inr (h10 rfl)
end Vx
end Go.Proofs.YtkkchkkpnlnbgaaGreatDoor
