/- The lexer as plain mathematics: texts in single quotes; joins. No premises. -/
import Derived.Test.YtkkchkkpnlnbgaaGreatDoorNd
namespace Go.Proofs.YtkkchkkpnlnbgaaGreatDoor
namespace Lx
theorem run_blank (l:L) (out:List Tok) (here:List Nat) (c:UInt8) (hc:c=32∨c=9):run (c::l) out here=run l out here:=by
 rw[run_at,step]
 simp only[if_pos hc]
theorem run_nil (out:List Tok):run [] out []=.ok (out++[⟨4,[],[],0⟩]):=by
 rw[run_at,step]
 simp
theorem run_word (c:UInt8) (l t r:L) (out:List Tok) (here:List Nat) (hs:stop c=false) (h92:¬ (c=92∧l.head?=some 10)) (h35:c≠35) (hw:word (c::l)=.ok (t,r)) (hio:io t ((c::l).length-r.length) r=false) :
  run (c::l) out here=run r (out++[⟨1,t,[],nl (c::l)⟩]) (if hung out=true then here++[out.length] else here):=by
 simp only[stop,Bool.or_eq_false_iff,beq_eq_false_iff_ne,ne_eq] at hs
 obtain⟨⟨⟨⟨⟨⟨⟨⟨⟨a1,a2⟩,a3⟩,a4⟩,a5⟩,a6⟩,a7⟩,a8⟩,a9⟩,a10⟩:=hs
 have hsg:sign (c::l)=none:=by simp[sign,a4,a5,a6,a7,a8,a9,a10]
 rw[run_at,step]
 simp only[if_neg (show ¬ (c=32∨c=9) by rintro(h | h);exact a1 h;exact a2 h),if_neg h92,if_neg h35,if_neg a3,hsg,if_neg a5,hw,hio,Bool.false_eq_true,if_false]
def good (c:UInt8):Bool:=plain c && c != 35
end Lx
end Go.Proofs.YtkkchkkpnlnbgaaGreatDoor
namespace Go.Proofs.YtkkchkkpnlnbgaaGreatDoor
namespace Lx
def Step.ahead (A:List Tok):Step→Step
 | .more l out here=>.more l (A++out) (here.map (·+A.length))
 | .fail e k=>.fail e k
 | .done o=>.done (A++o)
def Within (out:List Tok) (here:List Nat):Prop:=∀ k∈here,k<out.length
theorem lay_len (k:Nat) (b:L) (out:List Tok):(lay k b out).length=out.length:=by simp[lay]
theorem bodies_len (ks:List Nat) {out o:List Tok} {l r:L} (h:bodies ks out l=some (o,r)):o.length=out.length:=by
 induction ks generalizing out l with
 | nil=>cases h;rfl
 | cons k ks ih=>
  unfold bodies at h
  cases e:doc (bare ((out[k]?.map Tok.text).getD [])) l with
  | none=>rw[e] at h;cases h
  | some x=>rw[e] at h;rw[ih h,lay_len]
end Lx
end Go.Proofs.YtkkchkkpnlnbgaaGreatDoor
namespace Go.Proofs.YtkkchkkpnlnbgaaGreatDoor
namespace Lx
theorem tail_suffix (l:L):l.tail <:+ l:=List.tail_suffix l
theorem sq_suffix {l t r:L} (h:sq l=some (t,r)):r <:+ l:=by
 induction l generalizing t r with
 | nil=>cases h
 | cons c l ih=>
  unfold sq at h
  split at h
  ·cases h;exact List.suffix_cons _ _
  ·cases e:sq l with
   | none=>rw[e] at h;cases h
   | some p=>rw[e] at h;cases h;exact(ih e).trans (List.suffix_cons _ _)
theorem ar_suffix {o:Nat} {l t r:L} (h:ar o l=some (t,r)):r <:+ l:=by
 induction l generalizing o t r with
 | nil=>cases h
 | cons c l ih=>
  unfold ar at h
  split at h
  ·cases o with
   | zero=>
    cases l with
    | nil=>cases h
    | cons b q=>simp only at h;split at h <;> cases h;exact(List.suffix_cons _ _).trans (List.suffix_cons _ _)
   | succ o=>
    simp only at h
    cases e:ar o l with
    | none=>rw[e] at h;cases h
    | some p=>rw[e] at h;cases h;exact(ih e).trans (List.suffix_cons _ _)
  ·cases e:ar (if c=40 then o+1 else o) l with
   | none=>rw[e] at h;cases h
   | some p=>rw[e] at h;cases h;exact(ih e).trans (List.suffix_cons _ _)
def Fine (p:L→R):Prop:=∀ l,(∀ t r,p l=.ok (t,r)→r <:+ l)∧(∀ e,p l=.error e→e=20∨e=21)
theorem pre_error_inv {t:L} {x:R} {e:Nat} (h:pre t x=.error e):x=.error e:=by
 match x with
 | .ok (v,q)=>cases h
 | .error e'=>cases h;rfl
theorem upF_fine {p:L→R} (hp:Fine p) (z:UInt8) (q:Bool) (n:Nat):Fine (upF p z q n):=by
 induction n with
 | zero=>exact fun l=>⟨fun _ _ h=>(by cases h),fun _ h=>(by cases h;exact .inl rfl)⟩
 | succ n ih=>
  intro l
  rw[upF]
  split
  ·exact⟨fun _ _ h=>(by cases h;exact tail_suffix l),fun _ h=>(by cases h)⟩
  ·split
   ·refine⟨fun t r h=>?_,fun e h=>(ih l.tail).2 e (pre_error_inv h)⟩
    obtain⟨v,h1,_⟩:=pre_inv h
    exact((ih l.tail).1 _ _ h1).trans (tail_suffix l)
   ·cases e:p l with
    | error e'=>exact⟨fun _ _ h=>(by cases h),fun _ h=>(by cases h;exact(hp l).2 _ e)⟩
    | ok x=>
     obtain⟨t1,r1⟩:=x
     refine⟨fun t r h=>?_,fun e h=>(ih r1).2 e (pre_error_inv h)⟩
     obtain⟨v,h1,_⟩:=pre_inv h
     exact((ih r1).1 _ _ h1).trans ((hp l).1 _ _ e)
theorem dolF_fine {b:L→R} (hb:Fine b) (deep:Bool):Fine (dolF b deep):=by
 intro l
 unfold dolF
 cases l with
 | nil=>exact⟨fun _ _ h=>(by cases h;exact List.suffix_refl _),fun _ h=>(by cases h)⟩
 | cons x q=>
  simp only
  split
  ·split
   ·exact⟨fun _ _ h=>(by cases h),fun _ h=>(by cases h;exact .inr rfl)⟩
   ·refine⟨fun t r h=>?_,fun e h=>(hb q).2 e (pre_error_inv h)⟩
    obtain⟨v,h1,_⟩:=pre_inv h
    exact((hb q).1 _ _ h1).trans (List.suffix_cons _ _)
  ·split
   ·cases q with
    | nil=>exact⟨fun _ _ h=>(by cases h),fun _ h=>(by cases h;exact .inl rfl)⟩
    | cons y q'=>
     simp only
     split
     ·cases e:ar 0 q' with
      | none=>exact⟨fun _ _ h=>(by cases h),fun _ h=>(by cases h;exact .inl rfl)⟩
      | some x=>exact⟨fun _ _ h=>(by cases h;exact((ar_suffix e).trans (List.suffix_cons _ _)).trans (List.suffix_cons _ _)),fun _ h=>(by cases h)⟩
     ·exact⟨fun _ _ h=>(by cases h),fun _ h=>(by cases h;exact .inl rfl)⟩
   ·split
    ·exact⟨fun _ _ h=>(by cases h),fun _ h=>(by cases h;exact .inl rfl)⟩
    ·exact⟨fun _ _ h=>(by cases h;exact List.suffix_refl _),fun _ h=>(by cases h)⟩
theorem oneF_fine {dq br:L→R} (h1:Fine dq) (h2:Fine br) (deep:Bool):Fine (oneF dq br deep):=by
 intro l
 unfold oneF
 cases l with
 | nil=>exact⟨fun _ _ h=>(by cases h),fun _ h=>(by cases h;exact .inl rfl)⟩
 | cons c l=>
  simp only
  split
  ·cases l with
   | nil=>exact⟨fun _ _ h=>(by cases h),fun _ h=>(by cases h;exact .inl rfl)⟩
   | cons b q=>exact⟨fun _ _ h=>(by cases h;exact(List.suffix_cons _ _).trans (List.suffix_cons _ _)),fun _ h=>(by cases h)⟩
  ·split
   ·cases e:sq l with
    | none=>exact⟨fun _ _ h=>(by cases h),fun _ h=>(by cases h;exact .inl rfl)⟩
    | some x=>exact⟨fun _ _ h=>(by cases h;exact(sq_suffix e).trans (List.suffix_cons _ _)),fun _ h=>(by cases h)⟩
   ·split
    ·refine⟨fun t r h=>?_,fun e h=>(h1 l).2 e (pre_error_inv h)⟩
     obtain⟨v,h3,_⟩:=pre_inv h
     exact((h1 l).1 _ _ h3).trans (List.suffix_cons _ _)
    ·split
     ·exact⟨fun t r h=>((dolF_fine h2 deep l).1 t r h).trans (List.suffix_cons _ _),(dolF_fine h2 deep l).2⟩
     ·split
      ·exact⟨fun _ _ h=>(by cases h),fun _ h=>(by cases h;exact .inl rfl)⟩
      ·exact⟨fun _ _ h=>(by cases h;exact List.suffix_cons _ _),fun _ h=>(by cases h)⟩
theorem partF_fine (n d:Nat):Fine (partF n d):=by
 induction n generalizing d with
 | zero=>exact fun l=>⟨fun _ _ h=>(by cases h),fun _ h=>(by cases h;exact .inl rfl)⟩
 | succ n ih=>exact oneF_fine (upF_fine (ih d) _ _ _) (upF_fine (ih (d+1)) _ _ _) _
theorem part_fine (d:Nat):Fine (part d):=fun l=>partF_fine (l.length+1) d l
theorem wordF_fine (n:Nat):Fine (wordF n):=by
 induction n with
 | zero=>exact fun l=>⟨fun _ _ h=>(by cases h),fun _ h=>(by cases h;exact .inl rfl)⟩
 | succ n ih=>
  intro l
  rw[wordF]
  split
  ·exact⟨fun _ _ h=>(by cases h;exact List.suffix_refl _),fun _ h=>(by cases h)⟩
  ·cases e:part 0 l with
   | error e'=>exact⟨fun _ _ h=>(by cases h),fun _ h=>(by cases h;exact(part_fine 0 l).2 _ e)⟩
   | ok x=>
    obtain⟨t1,r1⟩:=x
    refine⟨fun t r h=>?_,fun e h=>(ih r1).2 e (pre_error_inv h)⟩
    obtain⟨v,h1,_⟩:=pre_inv h
    exact((ih r1).1 _ _ h1).trans ((part_fine 0 l).1 _ _ e)
theorem word_fine:Fine word:=fun l=>wordF_fine (l.length+1) l
theorem nl_append (a b:L):nl (a++b)=nl a+nl b:=by
 induction a with
 | nil=>simp[nl]
 | cons c a ih=>simp only[List.cons_append,nl,ih];omega
theorem nl_suffix {l r:L} (h:r <:+ l):nl r≤nl l:=by
 obtain⟨t,rfl⟩:=h
 rw[nl_append];omega
theorem cut_suffix (l:L):(cut l).2 <:+ l:=by
 induction l with
 | nil=>exact List.suffix_refl _
 | cons c r ih=>
  unfold cut
  split
  ·exact List.suffix_cons _ _
  ·exact ih.trans (List.suffix_cons _ _)
theorem docF_suffix (last:L) (n:Nat) {l b r:L} (h:docF last n l=some (b,r)):r <:+ l:=by
 induction n generalizing l b r with
 | zero=>cases h
 | succ n ih=>
  unfold docF at h
  split at h
  ·cases h
  ·split at h
   ·cases h;exact cut_suffix l
   ·cases e:docF last n (cut l).2 with
    | none=>rw[e] at h;cases h
    | some p=>rw[e] at h;cases h;exact(ih e).trans (cut_suffix l)
theorem skip_suffix (l:L):skip l <:+ l:=by
 induction l with
 | nil=>exact List.suffix_refl _
 | cons c r ih=>
  unfold skip
  split
  ·exact List.suffix_refl _
  ·exact ih.trans (List.suffix_cons _ _)
theorem sign_tail {c:UInt8} {l t r:L} (h:sign (c::l)=some (t,r)):r=l∨r=l.tail:=by
 simp only[sign] at h
 repeat' (split at h)
 all_goals first | exact .inl (some_snd h).symm | exact .inr (some_snd h).symm | (cases h;done)
theorem sign_suffix {c:UInt8} {l t r:L} (h:sign (c::l)=some (t,r)):r <:+ c::l:=by
 rcases sign_tail h with rfl | rfl
 ·exact List.suffix_cons _ _
 ·exact(tail_suffix l).trans (List.suffix_cons _ _)
structure Told (N:Nat) (l:L) (out:List Tok) (here:List Nat):Prop where
 nl:nl l≤N
 fall:out.Pairwise fun a b=>b.left≤a.left
 low:∀ t∈out,Lx.nl l≤t.left
 high:∀ t∈out,t.left≤N
 kind:∀ t∈out,t.kind≠4∧(t.kind≠1→t.body=[])
 here:∀ k∈here,∃ t,out[k]?=some t∧t.kind=1
 few:(out.filter fun t=>t.kind==3).length+Lx.nl l≤N
theorem Told.rest {N:Nat} {l l':L} {out:List Tok} {here:List Nat} (h:Told N l out here) (hl:l' <:+ l):Told N l' out here:=by
 have h1:=nl_suffix hl
 exact⟨Nat.le_trans h1 h.nl,h.fall,fun t ht=>Nat.le_trans h1 (h.low t ht),h.high,h.kind,h.here,by have:=h.few;omega⟩
theorem Told.snoc {N:Nat} {l l':L} {out:List Tok} {here:List Nat} (h:Told N l out here) (hl:l' <:+ l) (t:Tok) (ht:t.left=Lx.nl l) (hk:t.kind≠4) (hb:t.body=[]) (h3:t.kind=3→Lx.nl l'+1≤Lx.nl l):Told N l' (out++[t]) here:=by
 have h1:=nl_suffix hl
 have h2:=h.nl
 refine⟨Nat.le_trans h1 h.nl,?_,?_,?_,?_,?_,?_⟩
 ·rw[List.pairwise_append]
  refine⟨h.fall,List.pairwise_singleton _ _,fun a ha b hb=>?_⟩
  simp only[List.mem_singleton] at hb
  subst hb
  rw[ht];exact h.low a ha
 ·intro a ha
  rcases List.mem_append.1 ha with ha | ha
  ·exact Nat.le_trans h1 (h.low a ha)
  ·simp only[List.mem_singleton] at ha;subst ha;rw[ht];exact h1
 ·intro a ha
  rcases List.mem_append.1 ha with ha | ha
  ·exact h.high a ha
  ·simp only[List.mem_singleton] at ha;subst ha;rw[ht];exact h.nl
 ·intro a ha
  rcases List.mem_append.1 ha with ha | ha
  ·exact h.kind a ha
  ·simp only[List.mem_singleton] at ha;subst ha;exact⟨hk,fun _=>hb⟩
 ·intro k hk
  obtain⟨a,ha,hk1⟩:=h.here k hk
  refine⟨a,?_,hk1⟩
  have hlt:=(List.getElem?_eq_some_iff.1 ha).1
  rw[List.getElem?_append_left hlt];exact ha
 ·have h4:=h.few
  rw[List.filter_append,List.length_append]
  by_cases hk3:t.kind=3
  ·have h5:=h3 hk3
   have h6:([t].filter fun t=>t.kind==3).length=1:=by simp[hk3]
   omega
  ·have h6:([t].filter fun t=>t.kind==3).length=0:=by simp[hk3]
   omega
theorem filter_modify (f:Tok→Tok) (hf:∀ t,(f t).kind=t.kind) (k:Nat) (out:List Tok):((out.modify k f).filter fun t=>t.kind==3).length=(out.filter fun t=>t.kind==3).length:=by
 induction out generalizing k with
 | nil=>cases k <;> rfl
 | cons t out ih=>
  cases k with
  | zero=>simp only[List.modify_zero_cons,List.filter_cons,hf];split <;> simp
  | succ k=>simp only[List.modify_succ_cons,List.filter_cons];split <;> simp[ih]
theorem lay_map {α:Type} (g:Tok→α) (k:Nat) (b:L) (out:List Tok) (hg:∀ t:Tok,g { t with body:=b }=g t):(lay k b out).map g=out.map g:=by
 unfold lay
 induction out generalizing k with
 | nil=>cases k <;> rfl
 | cons t out ih=>
  cases k with
  | zero=>simp only[List.modify_zero_cons,List.map_cons,hg]
  | succ k=>simp only[List.modify_succ_cons,List.map_cons,ih]
theorem lay_at (k:Nat) (b:L) (out:List Tok) (i:Nat):(lay k b out)[i]?=(out[i]?).map fun t=>if k=i then { t with body:=b } else t:=by
 unfold lay
 rw[List.getElem?_modify]
 rfl
theorem Told.lay {N:Nat} {l:L} {out:List Tok} {here:List Nat} (h:Told N l out here) (k:Nat) (b:L) (hk:∃ t,out[k]?=some t∧t.kind=1):Told N l (lay k b out) here:=by
 have hmem:∀ t∈Lx.lay k b out,∃ u∈out,t.left=u.left∧t.kind=u.kind∧(t.body=u.body∨u.kind=1):=by
  intro t ht
  obtain⟨i,hi⟩:=List.getElem?_of_mem ht
  rw[lay_at] at hi
  cases e:out[i]? with
  | none=>rw[e] at hi;cases hi
  | some u=>
   rw[e] at hi
   simp only[Option.map_some,Option.some.injEq] at hi
   refine⟨u,List.mem_of_getElem? e,?_⟩
   split at hi
   ·rename_i hki
    subst hki
    obtain⟨u',h1,h2⟩:=hk
    rw[e] at h1;cases h1
    subst hi
    exact⟨rfl,rfl,.inr h2⟩
   ·subst hi;exact⟨rfl,rfl,.inl rfl⟩
 refine⟨h.nl,?_,?_,?_,?_,?_,?_⟩
 ·have h1:=h.fall
  rw[←List.pairwise_map (f:=Tok.left) (R:=fun a b=>b≤a)] at h1⊢
  rw[lay_map Tok.left k b out (fun _=>rfl)]
  exact h1
 ·intro t ht
  obtain⟨u,hu,h1,_⟩:=hmem t ht
  rw[h1];exact h.low u hu
 ·intro t ht
  obtain⟨u,hu,h1,_⟩:=hmem t ht
  rw[h1];exact h.high u hu
 ·intro t ht
  obtain⟨u,hu,_,h2,h3⟩:=hmem t ht
  refine⟨by rw[h2];exact(h.kind u hu).1,fun hn=>?_⟩
  rw[h2] at hn
  rcases h3 with h3 | h3
  ·rw[h3];exact(h.kind u hu).2 hn
  ·exact absurd h3 hn
 ·intro j hj
  obtain⟨a,ha,h1⟩:=h.here j hj
  rw[lay_at,ha]
  exact⟨_,rfl,by split <;> exact h1⟩
 ·unfold Lx.lay
  rw[filter_modify (fun t=>{ t with body:=b }) (fun _=>rfl)]
  exact h.few
theorem Told.bodies {N:Nat} {l l':L} {out out':List Tok} {here:List Nat} (ks:List Nat) (h:Told N l out here) (hk:∀ k∈ks,k∈here) (e:bodies ks out l=some (out',l')):Told N l' out' here:=by
 induction ks generalizing out l with
 | nil=>cases e;exact h
 | cons k ks ih=>
  unfold Lx.bodies at e
  cases e1:doc (bare ((out[k]?.map Tok.text).getD [])) l with
  | none=>rw[e1] at e;cases e
  | some x=>
   rw[e1] at e
   have h1:=h.rest (docF_suffix _ _ e1)
   exact ih (h1.lay k x.1 (h.here k (hk k (by simp)))) (fun k hk'=>hk k (by simp[hk'])) e
theorem Told.drop {N:Nat} {l:L} {out:List Tok} {here:List Nat} (h:Told N l out here):Told N l out []:=⟨h.nl,h.fall,h.low,h.high,h.kind,nofun,h.few⟩
theorem Told.step {N:Nat} {l l':L} {out out':List Tok} {here here':List Nat} (h:Told N l out here) (e:step l out here=.more l' out' here'):Told N l' out' here':=by
 unfold Lx.step at e
 cases l with
 | nil=>simp only at e;split at e <;> cases e
 | cons c r=>
  simp only at e
  split at e
  ·cases e;exact h.rest (List.suffix_cons _ _)
  ·split at e
   ·cases e;exact h.rest ((tail_suffix r).trans (List.suffix_cons _ _))
   ·split at e
    ·cases e;exact h.rest ((skip_suffix r).trans (List.suffix_cons _ _))
    ·split at e
     ·rename_i hc
      subst hc
      have h1:=h.snoc (List.suffix_cons _ _) ⟨3,[],[],Lx.nl (10::r)⟩ rfl (by simp) rfl (fun _=>by simp only[Lx.nl,if_true];omega)
      cases e1:Lx.bodies here (out++[⟨3,[],[],Lx.nl (10::r)⟩]) r with
      | none=>rw[e1] at e;cases e
      | some x=>rw[e1] at e;cases e;exact(h1.bodies here (fun _ hk=>hk) e1).drop
     ·cases e1:sign (c::r) with
      | some x=>rw[e1] at e;cases e;exact h.snoc (sign_suffix e1) _ rfl (by simp) rfl nofun
      | none=>
       rw[e1] at e
       simp only at e
       split at e
       ·cases e
       ·cases e2:word (c::r) with
        | error x=>rw[e2] at e;cases e
        | ok x=>
         obtain⟨t,r'⟩:=x
         rw[e2] at e
         simp only at e
         have hsuf:=(word_fine (c::r)).1 _ _ e2
         split at e
         ·cases e;exact h.snoc hsuf _ rfl (by simp) rfl nofun
         ·cases e
          have h1:=h.snoc hsuf ⟨1,t,[],Lx.nl (c::r)⟩ rfl (by simp) rfl nofun
          split
          ·refine⟨h1.nl,h1.fall,h1.low,h1.high,h1.kind,?_,h1.few⟩
           intro k hk
           rcases List.mem_append.1 hk with hk | hk
           ·exact h1.here k hk
           ·simp only[List.mem_singleton] at hk;subst hk
            exact⟨_,by rw[List.getElem?_append_right (by omega)];simp;rfl,rfl⟩
          ·exact h1
theorem Told.fail {N:Nat} {l:L} {out:List Tok} {here:List Nat} {e k:Nat} (h:Told N l out here) (hs:Lx.step l out here=.fail e k):(e=20∨e=21)∧k≤N:=by
 have hN:=h.nl
 unfold Lx.step at hs
 cases l with
 | nil=>
  simp only at hs
  split at hs
  ·cases hs
  ·cases hs
   refine⟨.inl rfl,?_⟩
   cases e1:out.getLast? with
   | none=>simp
   | some t=>exact h.high t (List.mem_of_getLast? e1)
 | cons c r=>
  simp only at hs
  split at hs
  ·cases hs
  ·split at hs
   ·cases hs
   ·split at hs
    ·cases hs
    ·split at hs
     ·cases e1:Lx.bodies here (out++[⟨3,[],[],Lx.nl (c::r)⟩]) r with
      | none=>rw[e1] at hs;cases hs;exact⟨.inl rfl,hN⟩
      | some x=>rw[e1] at hs;cases hs
     ·cases e1:sign (c::r) with
      | some x=>rw[e1] at hs;cases hs
      | none=>
       rw[e1] at hs
       simp only at hs
       split at hs
       ·cases hs;exact⟨.inl rfl,hN⟩
       ·cases e2:word (c::r) with
        | error x=>rw[e2] at hs;cases hs;exact⟨(word_fine (c::r)).2 _ e2,hN⟩
        | ok x=>rw[e2] at hs;simp only at hs;split at hs <;> cases hs
theorem all_lines (s:L):(∀ e k,all s=.error (e,k)→(e=20∨e=21)∧k≤nl s)∧(∀ o,all s=.ok o→∃ out,o=out++[⟨4,[],[],0⟩]∧∃ l,Told (nl s) l out []):=by
 have h0:Told (nl s) s [] []:=⟨Nat.le_refl _,List.Pairwise.nil,nofun,nofun,nofun,nofun,by simp⟩
 obtain⟨h1,h2⟩:=run_ind (Told (nl s)) (fun l out here l' out' here' h e=>h.step e) s [] [] h0
 refine⟨fun e k h=>?_,fun o h=>?_⟩
 ·obtain⟨l',o',hh,h3,h4⟩:=h1 e k h
  exact h3.fail h4
 ·obtain⟨l',o',hh,h3,h4⟩:=h2 o h
  unfold Lx.step at h4
  cases l' with
  | nil=>
   simp only at h4
   split at h4
   ·rename_i e;subst e;cases h4;exact⟨o',rfl,[],h3⟩
   ·cases h4
  | cons c r=>
   exfalso
   simp only at h4
   split at h4
   ·cases h4
   ·split at h4
    ·cases h4
    ·split at h4
     ·cases h4
     ·split at h4
      ·cases e1:Lx.bodies hh (o'++[⟨3,[],[],Lx.nl (c::r)⟩]) r with
       | none=>rw[e1] at h4;cases h4
       | some x=>rw[e1] at h4;cases h4
      ·cases e1:sign (c::r) with
       | some x=>rw[e1] at h4;cases h4
       | none=>
        rw[e1] at h4
        simp only at h4
        split at h4
        ·cases h4
        ·cases e2:word (c::r) with
         | error x=>rw[e2] at h4;cases h4
         | ok x=>rw[e2] at h4;simp only at h4;split at h4 <;> cases h4
end Lx
end Go.Proofs.YtkkchkkpnlnbgaaGreatDoor
namespace Go.Proofs.YtkkchkkpnlnbgaaGreatDoor
namespace Lx
def signs:List L:=[[38,38],[124,124],[59,59],[60,60],[62,62],[59],[124],[40],[41],[60],[62]]
theorem sign_in {l t r:L} (h:sign l=some (t,r)):t∈signs:=by
 cases l with
 | nil=>cases h
 | cons c l=>
  simp only[sign] at h
  by_cases h40:c=40
  ·subst h40;cases h;decide
  by_cases h41:c=41
  ·subst h41;cases h;decide
  simp only[h40,h41,or_self,if_false] at h
  have e:∀ (x:L×L),some x=some (t,r)→x.1=t:=fun x hx=>by cases hx;rfl
  repeat' (split at h)
  all_goals first | (cases h;done) | (rw[←e _ h];simp[signs])
end Lx
end Go.Proofs.YtkkchkkpnlnbgaaGreatDoor
