import Derived.Test.YtipdgmjplnibeaaGreatDoorG12
import Derived.Test.YtipdgmjplnibeaaGreatDoorG29
import Derived.Shelf.Strconv.Itoa0
import Derived.Shelf.Strconv.Itoa1
import Derived.Shelf.LaysM
import Derived.Shelf.Strconv.Itoa2
import Derived.Shelf.Strconv.Itoa3
import Derived.Shelf.Strconv.Itoa4
import Derived.Test.YtipdgmjplnibeaaGreatDoorProg
namespace Go.Proofs.YtipdgmjplnibeaaGreatDoor
open Go.RowKit Go.Maps
namespace Ar
def lexF:Nat→L→Option (List L)
 | 0,_=>none
 | n+1,l=>if l.dropWhile blank=[] then some [] else (lexF n ((l.dropWhile blank).drop (size (l.dropWhile blank)))).map (fun ts=>(l.dropWhile blank).take (size (l.dropWhile blank))::ts)
def Lx (l:L) (ts:List L):Prop:=∃ n,lexF n l=some ts
def hd (ts:List L):L:=ts.headD []
def At (s:St) (ts:List L):Prop:=s.tok=hd ts∧Lx s.left ts.tail
theorem pass_at {s:St} {ts:List L} (h:Lx s.left ts):At (pass s) ts:=by
 obtain⟨n,h⟩:=h
 cases n with
 | zero=>cases h
 | succ n=>
  unfold lexF at h
  by_cases h0:s.left.dropWhile blank=[]
  ·rw[if_pos h0] at h
   injection h with h
   subst h
   unfold At pass
   dsimp only
   rw[h0]
   exact⟨rfl,1,rfl⟩
  ·rw[if_neg h0] at h
   obtain⟨us,hu,rfl⟩:=Option.map_eq_some_iff.1 h
   exact⟨rfl,n,hu⟩
theorem At.pass {s:St} {t:L} {ts:List L} (h:At s (t::ts)):At (Ar.pass s) ts:=pass_at h.2
theorem lx_cons {b t r:L} {ts:List L} (hb:b.all blank=true) (ht:t≠[]) (hh:∀ c u,t=c::u→blank c=false) (hs:size (t++r)=t.length) (h:Lx r ts):Lx (b++(t++r)) (t::ts):=by
 obtain⟨n,h⟩:=h
 refine⟨n+1,?_⟩
 have hd:(b++(t++r)).dropWhile blank=t++r:=by
  rw[List.dropWhile_append_of_pos (fun a ha=>List.all_eq_true.1 hb a ha)]
  cases t with
  | nil=>exact absurd rfl ht
  | cons c u=>rw[List.cons_append,List.dropWhile_cons,hh c u rfl];rfl
 unfold lexF
 rw[hd,if_neg (by simp[ht]),hs,List.drop_left,List.take_left,h]
 rfl
inductive E where
 | num (t:L) (n:Nat)
 | var (t:L)
 | dol (t:L)
 | brc (t:L)
 | un (t:L) (a:E)
 | bin (t:L) (a b:E)
 | par (a:E)
 | cond (a b c:E)
def toks:E→List L
 | .num t _=>[t]
 | .var t=>[t]
 | .dol t=>[[36],t]
 | .brc t=>[[36,123],t,[125]]
 | .un t a=>t::toks a
 | .bin t a b=>toks a++t::toks b
 | .par a=>[40]::(toks a++[[41]])
 | .cond a b c=>toks a++[63]::(toks b++[58]::toks c)
def ev (vs:Vars):E→Nat→Nat→Int×Nat
 | .num _ n,_,f=>(n,f)
 | .var t,_,f=>((look vs t).getD 0,f)
 | .dol t,_,f=>((look vs t).getD 0,f)
 | .brc t,_,f=>((look vs t).getD 0,f)
 | .un t a,i,f=>(op1 t (ev vs a i f).1,(ev vs a i f).2)
 | .bin t a b,i,f=>
  let p:=ev vs a i f
  let q:=ev vs b (if needs t p.1 then i else i+1) p.2
  (op2 t p.1 q.1,if ((t=[47]∨t=[37])∧q.1=0)∧i=0∧q.2=0 then 22 else q.2)
 | .par a,i,f=>ev vs a i f
 | .cond a b c,i,f=>
  let p:=ev vs a i f
  let q:=ev vs b (if p.1 != 0 then i else i+1) p.2
  let r:=ev vs c (if p.1==0 then i else i+1) q.2
  (if p.1 != 0 then q.1 else r.1,r.2)
def ok (vs:Vars):E→Nat→Nat→Prop
 | .num t n,_,_=>num t=some n
 | .var t,_,_=>nameB t=true∧(look vs t).isSome=true
 | .dol t,_,_=>nameB t=true∧(look vs t).isSome=true
 | .brc t,_,_=>nameB t=true∧(look vs t).isSome=true
 | .un t a,d,_=>t∈[[33],[126],[43],[45]]∧d<40∧ok vs a (d+1) 11
 | .bin t a b,d,l=>0≤rowOf t∧(l:Int)≤rowOf t+1∧ok vs a d ((rowOf t).toNat+1)∧ok vs b d ((rowOf t).toNat+2)
 | .par a,d,_=>d<40∧ok vs a (d+1) 0
 | .cond a b c,d,l=>l=0∧d<40∧ok vs a d 1∧ok vs b (d+1) 0∧ok vs c (d+1) 0
structure Post (s t:St) (ts:List L) (f:Nat):Prop where
 at_:At t ts
 deep:t.deep=s.deep
 idle:t.idle=s.idle
 ft:t.ft=f
def PA (vs:Vars) (e:E):Prop:=∀ s ts,ok vs e s.deep 11→At s (toks e++ts)→∃ k t,Sg vs k s (ev vs e s.idle s.ft).1 t∧Post s t ts (ev vs e s.idle s.ft).2
def PB (vs:Vars) (e:E):Prop:=∀ s ts (r:Nat),r≤9→ok vs e s.deep (r+1)→At s (toks e++ts)→rowOf (hd ts)≤r→∃ t,Post s t ts (ev vs e s.idle s.ft).2∧∀ least,least≤r→∀ n' t' kk,Lp vs kk least (ev vs e s.idle s.ft).1 t n' t'→∃ k,Bt vs k least s n' t'
def PC (vs:Vars) (e:E):Prop:=∀ s ts,ok vs e s.deep 0→At s (toks e++ts)→rowOf (hd ts)=-1→hd ts≠[63]→∃ k t,Ex vs k s (ev vs e s.idle s.ft).1 t∧Post s t ts (ev vs e s.idle s.ft).2
theorem pb_of_pa {vs:Vars} {e:E} (h:PA vs e) (ho:∀ d l,ok vs e d l→ok vs e d 11):PB vs e:=by
 intro s ts r _ hk ha _
 obtain⟨k,t,h1,h2⟩:=h s ts (ho _ _ hk) ha
 exact⟨t,h2,fun least _ n' t' kk hl=>⟨k+kk+1,.mk (by omega) (by omega) h1 hl⟩⟩
theorem pc_of_pb {vs:Vars} {e:E} (h:PB vs e) (ho:∀ d,ok vs e d 0→ok vs e d 1):PC vs e:=by
 intro s ts hk ha hr hq
 obtain⟨t,h1,h2⟩:=h s ts 0 (by omega) (ho _ hk) ha (by rw[hr];decide)
 have ht:t.tok=hd ts:=h1.at_.1
 obtain⟨k,h3⟩:=h2 0 (by omega) _ _ 0 (.done (by rw[ht,hr];decide))
 exact⟨k+1,t,.plain (by omega) h3 (by rw[ht];exact hq),h1⟩
theorem all_of {vs:Vars} {e:E} (h:PA vs e) (ho:∀ d l l',ok vs e d l→ok vs e d l'):PA vs e∧PB vs e∧PC vs e:=
 ⟨h,pb_of_pa h fun d l=>ho d l 11,pc_of_pb (pb_of_pa h fun d l=>ho d l 11) fun d=>ho d 0 1⟩
theorem look_some {vs:Vars} {t:L} (h:(look vs t).isSome=true):look vs t=some ((look vs t).getD 0):=by
 obtain⟨x,hx⟩:=Option.isSome_iff_exists.1 h
 rw[hx]
 rfl
theorem read_all (vs:Vars):∀ e,PA vs e∧PB vs e∧PC vs e:=by
 intro e
 induction e with
 | num t n=>
  refine all_of (fun s ts hk ha=>⟨0,pass s,?_,ha.pass,rfl,rfl,rfl⟩) fun _ _ _ h=>h
  have ht:s.tok=t:=ha.1
  exact .num (by rw[ht];exact hk)
 | var t=>
  refine all_of (fun s ts hk ha=>⟨0,pass s,?_,ha.pass,rfl,rfl,rfl⟩) fun _ _ _ h=>h
  have ht:s.tok=t:=ha.1
  exact .name (by rw[ht];exact hk.1) (by rw[ht];exact look_some hk.2)
 | dol t=>
  refine all_of (fun s ts hk ha=>⟨0,pass (pass s),?_,ha.pass.pass,rfl,rfl,rfl⟩) fun _ _ _ h=>h
  have ht:s.tok=[36]:=ha.1
  have ht2:(pass s).tok=t:=ha.pass.1
  exact .dol ht (by rw[ht2];exact hk.1) (by rw[ht2];exact look_some hk.2)
 | brc t=>
  refine all_of (fun s ts hk ha=>⟨0,pass (pass (pass s)),?_,ha.pass.pass.pass,rfl,rfl,rfl⟩) fun _ _ _ h=>h
  have ht:s.tok=[36,123]:=ha.1
  have ht2:(pass s).tok=t:=ha.pass.1
  have ht3:(pass (pass s)).tok=[125]:=ha.pass.pass.1
  exact .brace ht (by rw[ht2];exact hk.1) (by rw[ht2];exact look_some hk.2) ht3
 | un t a ih=>
  refine all_of (fun s ts hk ha=>?_) fun _ _ _ h=>h
  have ht:s.tok=t:=ha.1
  have ha2:At (enter s) (toks a++ts):=pass_at (s:={ s with deep:=s.deep+1 }) ha.2
  obtain⟨k,u,h1,h2⟩:=ih.1 (enter s) ts hk.2.2 ha2
  refine⟨k+1,leave u,?_,h2.at_,by show u.deep-1=_;have:=h2.deep;have e:(enter s).deep=s.deep+1:=rfl;omega,h2.idle,h2.ft⟩
  have h3:=Sg.un (vs:=vs) (k:=k+1) (by omega) (by rw[ht];exact hk.1) hk.2.1 h1
  rw[ht] at h3
  exact h3
 | par a ih=>
  refine all_of (fun s ts hk ha=>?_) fun _ _ _ h=>h
  have ht:s.tok=[40]:=ha.1
  have ha2:At (enter s) (toks a++([41]::ts)):=by
   have h0:Lx s.left ((toks a++[[41]])++ts):=ha.2
   rw[List.append_assoc] at h0
   exact pass_at (s:={ s with deep:=s.deep+1 }) h0
  obtain⟨k,u,h1,h2⟩:=ih.2.2 (enter s) ([41]::ts) hk.2 ha2 (show rowOf [41]=-1 by decide) (show ([41]:L)≠[63] by decide)
  have hu:u.tok=[41]:=h2.at_.1
  exact⟨k+1,leave (pass u),.par (by omega) ht hk.1 h1 hu,h2.at_.pass,by show u.deep-1=_;have:=h2.deep;have e:(enter s).deep=s.deep+1:=rfl;omega,h2.idle,h2.ft⟩
 | bin t a b iha ihb=>
  have hB:PB vs (.bin t a b):=by
   intro s ts r hr hk ha hrow
   obtain⟨k0,k1,ka,kb⟩:=hk
   obtain⟨ro,hro⟩:∃ ro:Nat,rowOf t=ro:=⟨(rowOf t).toNat,by omega⟩
   have hro9:ro≤9:=by have:=row_le t;omega
   rw[hro,Int.toNat_natCast] at ka kb
   have ha2:At s (toks a++(t::toks b++ts)):=by rw[←List.append_assoc];exact ha
   obtain⟨ta,p1,p2⟩:=iha.2.1 s (t::toks b++ts) ro hro9 ka ha2 (show rowOf t≤ro by omega)
   have hta:ta.tok=t:=p1.at_.1
   have hpa:At (pass ta) (toks b++ts):=p1.at_.pass
   obtain⟨x,hx⟩:∃ x,x=(ev vs a s.idle s.ft).1:=⟨_,rfl⟩
   obtain⟨nd,hnd⟩:∃ nd,nd=needs t x:=⟨_,rfl⟩
   obtain⟨sb,hsb⟩:∃ sb,sb=rest (pass ta) nd:=⟨_,rfl⟩
   have hsba:At sb (toks b++ts):=by rw[hsb];unfold rest;split <;> exact hpa
   have hsbd:sb.deep=s.deep:=by rw[hsb,deep_rest];exact p1.deep
   have hsbf:sb.ft=(ev vs a s.idle s.ft).2:=by rw[hsb];unfold rest;split <;> exact p1.ft
   have hsbi:sb.idle=if nd then s.idle else s.idle+1:=by
    rw[hsb];unfold rest;split
    ·exact p1.idle
    ·show ta.idle+1=_;rw[p1.idle]
   have key:∃ kb tb,Bt vs kb (ro+1) sb (ev vs b sb.idle sb.ft).1 tb∧Post sb tb ts (ev vs b sb.idle sb.ft).2:=by
    by_cases h9:ro=9
    ·subst h9
     obtain⟨kb',tb,q1,q2⟩:=ihb.1 sb ts (by rw[hsbd];exact kb) hsba
     have htb:tb.tok=hd ts:=q2.at_.1
     exact⟨kb'+1,tb,.mk (j:=kb') (i:=0) (by omega) (by omega) q1 (.done (by rw[htb];omega)),q2⟩
    ·obtain⟨tb,q1,q2⟩:=ihb.2.1 sb ts (ro+1) (by omega) (by rw[hsbd];exact kb) hsba (by omega)
     have htb:tb.tok=hd ts:=q1.at_.1
     obtain⟨kb',q3⟩:=q2 (ro+1) (by omega) _ _ 0 (.done (by rw[htb];omega))
     exact⟨kb',tb,q3,q1⟩
   obtain⟨kb',tb,q1,q2⟩:=key
   obtain⟨y,hy⟩:∃ y,y=(ev vs b sb.idle sb.ft).1:=⟨_,rfl⟩
   obtain⟨tf,htf⟩:∃ tf,tf=div0 t y (back tb nd):=⟨_,rfl⟩
   have hbk:At (back tb nd) ts∧(back tb nd).deep=s.deep∧(back tb nd).idle=s.idle∧(back tb nd).ft=(ev vs b sb.idle sb.ft).2:=by
    have hi:=q2.idle
    rw[hsbi] at hi
    unfold back
    split
    ·next h=>rw[h] at hi;exact⟨q2.at_,q2.deep.trans hsbd,hi,q2.ft⟩
    ·next h=>
     rw[if_neg h] at hi
     exact⟨q2.at_,q2.deep.trans hsbd,by show tb.idle-1=_;omega,q2.ft⟩
   have hev:ev vs (.bin t a b) s.idle s.ft=(op2 t x y,if ((t=[47]∨t=[37])∧y=0)∧s.idle=0∧(ev vs b sb.idle sb.ft).2=0 then 22 else (ev vs b sb.idle sb.ft).2):=by
    rw[hy,hsbi,hsbf,hnd,hx]
    rfl
   rw[hev]
   refine⟨tf,⟨?_,?_,?_,?_⟩,fun least hl n' t' kk hlp=>?_⟩
   ·rw[htf];unfold div0 blame;split;split <;> exact hbk.1;exact hbk.1
   ·rw[htf,(div0_idle t y _).2];exact hbk.2.1
   ·rw[htf,(div0_idle t y _).1];exact hbk.2.2.1
   ·rw[htf]
    unfold div0
    by_cases hz:(t=[47]∨t=[37])∧y=0
    ·rw[if_pos hz]
     unfold blame
     rw[hbk.2.2.1]
     by_cases hi0:s.idle=0
     ·rw[if_pos hi0]
      dsimp only
      rw[hbk.2.2.2]
      by_cases hf0:(ev vs b sb.idle sb.ft).2=0
      ·rw[if_pos hf0,if_pos ⟨hz,hi0,hf0⟩]
      ·rw[if_neg hf0,if_neg (fun e=>hf0 e.2.2)]
     ·rw[if_neg hi0,if_neg (fun e=>hi0 e.2.1)]
      exact hbk.2.2.2
    ·rw[if_neg hz,if_neg (fun e=>hz e.1)]
     exact hbk.2.2.2
   ·rw[hx,hy] at hlp
    refine p2 least (by omega) n' t' (kb'+kk+1) ?_
    have hm:Bt vs kb' (ro+1) (rest (pass ta) (needs ta.tok (ev vs a s.idle s.ft).1)) (ev vs b sb.idle sb.ft).1 tb:=by rw[hta,←hx,←hnd,←hsb];exact q1
    refine .more (j:=kb') (i:=kk) (row:=ro) (by omega) (by omega) (by rw[hta];exact hro) (by omega) hm ?_
    rw[hta,←hx,←hnd,←hy,←htf,hx,hy]
    exact hlp
  have hne:∀ d l l':Nat,l'≤l→ok vs (.bin t a b) d l→ok vs (.bin t a b) d l':=fun d l l' hl h=>⟨h.1,by have:=h.2.1;omega,h.2.2⟩
  refine⟨fun s ts hk ha=>?_,hB,?_⟩
  ·exfalso
   have:=row_le t
   have:=hk.2.1
   omega
  ·exact pc_of_pb hB fun d h=>⟨h.1,by have:=h.1;omega,h.2.2⟩
 | cond a b c iha ihb ihc=>
  refine⟨fun s ts hk ha=>absurd hk.1 (by decide),fun s ts r hr hk ha=>absurd hk.1 (by omega),fun s ts hk ha hrow hq=>?_⟩
  obtain⟨_,hd40,ka,kb,kc⟩:=hk
  have ha2:At s (toks a++([63]::(toks b++[58]::toks c)++ts)):=by rw[←List.append_assoc];exact ha
  obtain⟨ta,p1,p2⟩:=iha.2.1 s _ 0 (by omega) ka ha2 (show rowOf [63]≤0 by decide)
  have hta:ta.tok=[63]:=p1.at_.1
  obtain⟨k1,p3⟩:=p2 0 (by omega) _ _ 0 (.done (by rw[hta];decide))
  obtain⟨x,hx⟩:∃ x,x=(ev vs a s.idle s.ft).1:=⟨_,rfl⟩
  rw[←hx] at p3
  obtain⟨sb,hsb⟩:∃ sb,sb=rest (enter ta) (x != 0):=⟨_,rfl⟩
  have h0:Lx ta.left (toks b++([58]::(toks c++ts))):=by
   have h1:Lx ta.left ((toks b++[58]::toks c)++ts):=p1.at_.2
   rw[List.append_assoc] at h1
   exact h1
  have hea:At (enter ta) (toks b++([58]::(toks c++ts))):=pass_at (s:={ ta with deep:=ta.deep+1 }) h0
  have hsba:At sb (toks b++([58]::(toks c++ts))):=by rw[hsb];unfold rest;split <;> exact hea
  have hsbd:sb.deep=s.deep+1:=by rw[hsb,deep_rest];show ta.deep+1=_;rw[p1.deep]
  have hsbf:sb.ft=(ev vs a s.idle s.ft).2:=by rw[hsb];unfold rest;split <;> exact p1.ft
  have hsbi:sb.idle=if x != 0 then s.idle else s.idle+1:=by
   rw[hsb];unfold rest;split
   ·exact p1.idle
   ·show ta.idle+1=_;rw[p1.idle]
  obtain⟨k2,u,q1,q2⟩:=ihb.2.2 sb _ (by rw[hsbd];exact kb) hsba (show rowOf [58]=-1 by decide) (show ([58]:L)≠[63] by decide)
  have hu:u.tok=[58]:=q2.at_.1
  obtain⟨ub,hub⟩:∃ ub,ub=back u (x != 0):=⟨_,rfl⟩
  have hubp:At ub ([58]::(toks c++ts))∧ub.deep=s.deep+1∧ub.idle=s.idle∧ub.ft=(ev vs b sb.idle sb.ft).2:=by
   have hi:=q2.idle
   rw[hsbi] at hi
   rw[hub]
   unfold back
   split
   ·next h=>rw[if_pos h] at hi;exact⟨q2.at_,q2.deep.trans hsbd,hi,q2.ft⟩
   ·next h=>
    rw[if_neg h] at hi
    exact⟨q2.at_,q2.deep.trans hsbd,by show u.idle-1=_;omega,q2.ft⟩
  obtain⟨sc,hsc⟩:∃ sc,sc=rest (pass ub) (x==0):=⟨_,rfl⟩
  have hsca:At sc (toks c++ts):=by rw[hsc];unfold rest;split <;> exact hubp.1.pass
  have hscd:sc.deep=s.deep+1:=by rw[hsc,deep_rest];exact hubp.2.1
  have hscf:sc.ft=(ev vs b sb.idle sb.ft).2:=by rw[hsc];unfold rest;split <;> exact hubp.2.2.2
  have hsci:sc.idle=if x==0 then s.idle else s.idle+1:=by
   rw[hsc];unfold rest;split
   ·exact hubp.2.2.1
   ·show ub.idle+1=_;rw[hubp.2.2.1]
  obtain⟨k3,v,r1,r2⟩:=ihc.2.2 sc ts (by rw[hscd];exact kc) hsca hrow hq
  have hbv:At (back v (x==0)) ts∧(back v (x==0)).deep=s.deep+1∧(back v (x==0)).idle=s.idle∧(back v (x==0)).ft=(ev vs c sc.idle sc.ft).2:=by
   have hi:=r2.idle
   rw[hsci] at hi
   unfold back
   split
   ·next h=>rw[if_pos h] at hi;exact⟨r2.at_,r2.deep.trans hscd,hi,r2.ft⟩
   ·next h=>
    rw[if_neg h] at hi
    exact⟨r2.at_,r2.deep.trans hscd,by show v.idle-1=_;omega,r2.ft⟩
  have hev:ev vs (.cond a b c) s.idle s.ft=(if x != 0 then (ev vs b sb.idle sb.ft).1 else (ev vs c sc.idle sc.ft).1,(ev vs c sc.idle sc.ft).2):=by
   rw[hsci,hscf,hsbi,hsbf,hx]
   rfl
  rw[hev]
  refine⟨k1+k2+k3+1,leave (back v (x==0)),.cond (j:=k1) (i:=k2) (l:=k3) (by omega) (by omega) (by omega) p3 hta (by rw[p1.deep];exact hd40) (by rw[←hsb];exact q1) hu (by rw[←hub,←hsc];exact r1),hbv.1,by show (back v (x==0)).deep-1=_;omega,hbv.2.2.1,hbv.2.2.2⟩
theorem eval_of {W:World} (hT:Tb0 W) {v:Value} {vs:Vars} (hV:Vars0 W v vs) {l:L} (hl:l.length≤4000) (e:E) (hx:Lx l (toks e)) (ho:ok vs e 0 0):Calls Tryz.prog 103 #[.string (mkS l),v] W fun r W'=>r=.returned (.tuple #[.int .i64 (if (ev vs e 0 0).2=0 then (ev vs e 0 0).1 else 0),.int .i64 ((ev vs e 0 0).2:Int)])∧Later W W':=by
 have ha:At (pass (st0 l)) (toks e++[]):=by rw[List.append_nil];exact pass_at hx
 obtain⟨k,t,h1,h2⟩:=(read_all vs e).2.2 (pass (st0 l)) [] ho ha (show rowOf []=-1 by decide) (show ([]:L)≠[63] by decide)
 have hf:t.ft=(ev vs e 0 0).2:=h2.ft
 have:=eval_v W hT v vs hV l hl h1 h2.at_.1
 rw[hf] at this
 exact this
end Ar
end Go.Proofs.YtipdgmjplnibeaaGreatDoor
namespace Go.Proofs.YtipdgmjplnibeaaGreatDoor
open Go.RowKit Go.Maps
namespace Ey
open En (E RdE RdP)
theorem tb0_of {W:World} {g:Nat} (h:Ar.Tb W g):Ar.Tb0 W:=by
 obtain⟨_,_,h1,ad,cp,h2⟩:=h
 exact⟨h1,ad,cp,fun i hi=>(h2 i hi).2⟩
theorem vars0_of {W:World} {v:Value} {l:En.Vs} (h:RdP W W.heap.size v l) (hs:∀ p∈l,p.1.length≤4000∧p.2.length≤100000) (hb:∀ p∈l,p.2.length≤4000) (hl:l.length≤4000):Ar.Vars0 W v l:=by
 refine⟨?_,fun p hp=>⟨(hs p hp).1,hb p hp⟩,hl⟩
 rcases Nat.eq_zero_or_pos l.length with h0 | h0
 ·obtain⟨A,c,e,_⟩:=h.le
  exact .inl ⟨List.eq_nil_of_length_eq_zero h0,A,c,by rw[e,h0]⟩
 ·obtain⟨g,o,c,e,hg,hc⟩:=h.at_ h0
  exact .inr ⟨g,o,c,e,hg,hc⟩
def treeS:Ar.E:=.bin [43] (.var [120]) (.dol [121])
def treeG:Ar.E:=.bin [62] (.var [120]) (.var [121])
theorem lx_S:Ar.Lx sumT (Ar.toks treeS):=⟨20,by decide +kernel⟩
theorem lx_G:Ar.Lx gtT (Ar.toks treeG):=⟨20,by decide +kernel⟩
theorem has_at {e:E} (h:has2 e=true):(Ar.look e.vars [120]).isSome=true∧(Ar.look e.vars [121]).isSome=true∧∀ p∈e.vars,p.1.length≤4000∧p.2.length≤4000:=by
 unfold has2 at h
 simp only[Bool.and_eq_true,List.all_eq_true,decide_eq_true_eq] at h
 exact⟨h.1.1,h.1.2,h.2⟩
theorem eval_two {W:World} (hT:Ar.Tb0 W) {v:Value} {e:E} (hV:Ar.Vars0 W v e.vars) {t:B} (ht:t=sumT∨t=gtT) (h2:has2 e=true):Calls Tryz.prog 103 #[.string (mkS t),v] W fun r W'=>r=.returned (.tuple #[.int .i64 (arithN e t),.int .i64 0])∧Later W W':=by
 obtain⟨hx,hy,_⟩:=has_at h2
 rcases ht with rfl | rfl
 ·have h:=Ar.eval_of hT hV (l:=sumT) (by decide) treeS lx_S ⟨by decide,by decide,⟨by decide,hx⟩,⟨by decide,hy⟩⟩
  exact h
 ·have h:=Ar.eval_of hT hV (l:=gtT) (by decide) treeG lx_G ⟨by decide,by decide,⟨by decide,hx⟩,⟨by decide,hy⟩⟩
  have e2:(Ar.ev e.vars treeG 0 0).2=0:=rfl
  have e1:(Ar.ev e.vars treeG 0 0).1=arithN e gtT:=by
   have e3:arithN e gtT=if lk e [121]<lk e [120] then 1 else 0:=rfl
   rw[e3]
   by_cases hh:lk e [121]<lk e [120]
   ·rw[if_pos hh]
    show Ar.op2 [62] (lk e [120]) (lk e [121])=1
    simp[Ar.op2,Ar.bit,hh]
   ·rw[if_neg hh]
    show Ar.op2 [62] (lk e [120]) (lk e [121])=0
    simp[Ar.op2,Ar.bit,hh]
  rw[e1,e2] at h
  exact h
end Ey
end Go.Proofs.YtipdgmjplnibeaaGreatDoor
namespace Go.Proofs
open Go.Shelf
def Tryz.laysM173_ren:Go.Shelf.Ren:=⟨fun | 173=>104 | 246=>96 | 283=>123 | 284=>124 | 285=>125 | 286=>126 | 129=>153 | 317=>152 | 318=>154 | 319=>155 | 320=>156 | 337=>179 | 338=>180 | n=>n,fun | 2=>2 | 3=>3 | 9=>9 | 4=>4 | 171=>170 | 0=>0 | 53=>124 | 37=>81 | 5=>5 | 173=>173 | 212=>199 | 51=>200 | 20=>20 | 213=>201 | 46=>110 | 232=>243 | 233=>244 | n=>n,fun | 17=>1 | 18=>5 | 19=>6 | n=>n⟩
theorem Tryz.laysM173:Go.Proofs.LaysM.n173 Tryz.prog Tryz.laysM173_ren:={
 mixed:=by kernel_rfl
 f129:=Tryz.func153.trans (congrArg some (by kernel_rfl))
 f173:=Tryz.func104.trans (congrArg some (by kernel_rfl))
 f246:=Tryz.func96.trans (congrArg some (by kernel_rfl))
 f283:=Tryz.func123.trans (congrArg some (by kernel_rfl))
 f284:=Tryz.func124.trans (congrArg some (by kernel_rfl))
 f285:=Tryz.func125.trans (congrArg some (by kernel_rfl))
 f286:=Tryz.func126.trans (congrArg some (by kernel_rfl))
 f317:=Tryz.func152.trans (congrArg some (by kernel_rfl))
 f318:=Tryz.func154.trans (congrArg some (by kernel_rfl))
 f319:=Tryz.func155.trans (congrArg some (by kernel_rfl))
 f320:=Tryz.func156.trans (congrArg some (by kernel_rfl))
 f337:=Tryz.func179.trans (congrArg some (by kernel_rfl))
 f338:=Tryz.func180.trans (congrArg some (by kernel_rfl))
 t0:=Tryz.underlying0
 a0:=Tryz.isAgg0
 z0:=Tryz.sizeOf0
 v0:=Tryz.zeroValue0
 t2:=Tryz.underlying2
 a2:=Tryz.isAgg2
 z2:=Tryz.sizeOf2
 v2:=Tryz.zeroValue2
 t3:=Tryz.underlying3
 a3:=Tryz.isAgg3
 z3:=Tryz.sizeOf3
 v3:=Tryz.zeroValue3
 t4:=Tryz.underlying4
 a4:=Tryz.isAgg4
 z4:=Tryz.sizeOf4
 v4:=Tryz.zeroValue4
 t5:=Tryz.underlying5
 a5:=Tryz.isAgg5
 z5:=Tryz.sizeOf5
 v5:=Tryz.zeroValue5
 t9:=Tryz.underlying9
 a9:=Tryz.isAgg9
 z9:=Tryz.sizeOf9
 v9:=Tryz.zeroValue9
 t20:=Tryz.underlying20
 a20:=Tryz.isAgg20
 z20:=Tryz.sizeOf20
 v20:=Tryz.zeroValue20
 t37:=Tryz.underlying81
 a37:=Tryz.isAgg81
 z37:=Tryz.sizeOf81
 v37:=Tryz.zeroValue81
 t46:=Tryz.underlying110
 a46:=Tryz.isAgg110
 z46:=Tryz.sizeOf110
 v46:=Tryz.zeroValue110
 t51:=Tryz.underlying200
 a51:=Tryz.isAgg200
 z51:=Tryz.sizeOf200
 v51:=Tryz.zeroValue200
 t53:=Tryz.underlying124
 a53:=Tryz.isAgg124
 z53:=Tryz.sizeOf124
 v53:=Tryz.zeroValue124
 t171:=Tryz.underlying170
 a171:=Tryz.isAgg170
 z171:=Tryz.sizeOf170
 v171:=Tryz.zeroValue170
 t173:=Tryz.underlying173
 a173:=Tryz.isAgg173
 z173:=Tryz.sizeOf173
 v173:=Tryz.zeroValue173
 t212:=Tryz.underlying199
 a212:=Tryz.isAgg199
 z212:=Tryz.sizeOf199
 v212:=Tryz.zeroValue199
 t213:=Tryz.underlying201
 a213:=Tryz.isAgg201
 z213:=Tryz.sizeOf201
 t232:=Tryz.underlying243
 a232:=Tryz.isAgg243
 z232:=Tryz.sizeOf243
 v232:=Tryz.zeroValue243
 t233:=Tryz.underlying244
 a233:=Tryz.isAgg244
 z233:=Tryz.sizeOf244
 v233:=Tryz.zeroValue244
 g17:=by kernel_rfl
 g18:=by kernel_rfl
 g19:=by kernel_rfl
 i0:=by kernel_rfl
 i2:=by kernel_rfl
 i3:=by kernel_rfl
 i4:=by kernel_rfl
 i5:=by kernel_rfl
 i9:=by kernel_rfl
 i20:=by kernel_rfl
 i37:=by kernel_rfl
 i46:=by kernel_rfl
 i51:=by kernel_rfl
 i53:=by kernel_rfl
 i171:=by kernel_rfl
 i173:=by kernel_rfl
 i212:=by kernel_rfl
 i232:=by kernel_rfl
 i233:=by kernel_rfl
 m17:=by kernel_rfl
 m18:=by kernel_rfl
 m19:=by kernel_rfl }
open Go.RowKit Go.Sort Go.Lib in
theorem Tryz.strconv_FormatInt_10 (n:Int) (h0:-9223372036854775808≤n) (h1:n≤9223372036854775807) (w:World) (htab:Lib.TabIs Tryz.prog w "internal/strconv.uint64pow10" .u64 Lib.pow10Tab) :
  Calls Tryz.prog 104 #[.int .i64 n,.int .i64 10] w fun e w'=>e=.returned (.string ⟨(Lib.itoa n).toArray⟩)∧∃ k os,w'=grow (w.drewN k) os:=Any.strconv_FormatInt_10 Tryz.laysM173 n h0 h1 w htab
end Go.Proofs
