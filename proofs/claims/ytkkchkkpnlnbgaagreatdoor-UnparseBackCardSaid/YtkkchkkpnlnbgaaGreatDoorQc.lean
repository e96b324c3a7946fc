/- Scripts read again: functions; commands. No premises. -/
import Derived.Test.YtkkchkkpnlnbgaaGreatDoorQb
namespace Go.Proofs.YtkkchkkpnlnbgaaGreatDoor
namespace Vx
open Sx (Arw M Er good Wk)
open Lx (Tok)
open Up (S nodeF)
section
variable {a:M Nat} (ha:Sx.UnA a) (hr:RdS a)
include ha hr
theorem func_bk {N k:Nat} {s s1:Sx.St} (h:Gs s) (hf:Sx.atFunc s=true) (e:Sx.func a N s=.ok (k,s1)):∃ ms b c v,Bk s s1 k Fo1 BegC cmdR (fun c=>c) ms b c v:=by
 unfold Sx.atFunc at hf
 simp only[Bool.and_eq_true,Bool.not_eq_true',beq_iff_eq] at hf
 obtain⟨⟨hname,hres⟩,hopen⟩:=hf
 have hne:(Sx.hd s).text≠[]:=by intro h0;rw[h0] at hname;exact absurd hname (by decide)
 have hk1:(Sx.hd s).kind=1:=by
  by_cases hk:(Sx.hd s).kind=1
  ·exact hk
  ·rw[h.vl.hd.name hk] at hname;cases hname
 have hwd:=h.vl.hd.word hk1
 unfold Sx.func at e
 by_cases hd40:s.d=40
 ·rw[if_pos hd40] at e;cases e
 rw[if_neg hd40] at e
 have h1:Gs { s with d:=s.d+1 }:=⟨h.good,h.vl,by have:=h.dp;simp only;omega⟩
 have w0:=Wk.go h1.good (.inl hne)
 have g0:=h1.of w0
 obtain⟨_,s2,e2,e⟩:=Sx.bnd_inv e
 obtain⟨rfl,_,w2⟩:=Sx.need_un (by decide) g0.good e2
 have g2:=g0.of w2
 obtain⟨_,s3,e3,e⟩:=Sx.bnd_inv e
 obtain⟨rfl,_,w3⟩:=Sx.need_un (by decide) g2.good e3
 have g3:=g2.of w3
 obtain⟨_,s4,e4,e⟩:=Sx.bnd_inv e
 obtain⟨rfl,w4⟩:=Sx.lines_un g3.good e4
 have g4:=g3.of w4
 obtain⟨j,s5,e5,e⟩:=Sx.bnd_inv e
 obtain⟨rfl,rfl⟩:=add_ok e
 obtain⟨ms,b,c,v,r,_⟩:=compound_bk ha hr g4 e5
 have hns:s5.ns=s.ns++ms:=r.ns
 have hd5:s5.d=s.d+1:=r.d
 have hem:∀ (bb lf:Nat) (l:List Sx.Node) (j:Nat),Em bb l j c→Em bb (l++[{ kind:=13,text:=(Sx.hd s).text,kids:=[j],left:=lf }]) (bb+l.length) (.tk 1 (Sx.hd s).text::.tk 2 [40]::.tk 2 [41]::.sp::c):=fun bb lf l j hj=>
  Em.node (n:={ kind:=13,text:=(Sx.hd s).text,kids:=[j],left:=lf }) (cs:=[c]) (v:=0) ⟨hj,trivial⟩ (fun h=>by cases h) rfl ⟨by simp,by simp⟩
 refine⟨ms++[{ kind:=13,text:=(Sx.hd s).text,kids:=[j],left:=(Sx.hd s).left }],b,.tk 1 (Sx.hd s).text::.tk 2 [40]::.tk 2 [41]::.sp::c,13,⟨by simp only[hns,List.append_assoc],by simp only;omega,by simp only[hns,List.length_append];rfl,by simp,?_,?_,fun hb=>?_,?_,⟨_,_,rfl,bgc_word hres⟩,fun n q s' hat hq hn=>?_⟩⟩
 ·simp only[hns,List.length_append];exact hem _ _ _ _ r.em
 ·simp only[hns,List.length_append];exact Kd.node (ms:=ms) _
 ·simp only;exact(r.el hb).app _
 ·have x1:Gd [It.tk 1 (Sx.hd s).text,.tk 2 [40],.tk 2 [41]]:=⟨fun i hi=>by
   simp only[List.mem_cons,List.not_mem_nil,or_false] at hi
   rcases hi with rfl | rfl | rfl
   ·exact hwd
   ·show [40]∈signs;decide
   ·show [41]∈signs;decide,⟨.inr (.inr ⟨rfl,hname⟩),⟨fun h=>(by cases h),trivial⟩⟩⟩
  exact x1.blank (.inl rfl) (Gd.cons_fr (.inl rfl) r.gd)
 ·obtain⟨z1,z2,_,z4,z5⟩:=hat.tk
  obtain⟨y1,y2,y3⟩:=need_at z5
  obtain⟨x1,x2,x3⟩:=need_at y2
  have x4:At c q (Sx.go (Sx.go (Sx.go s'))):=x2.sp
  have z6:=go_len z4
  have hcf:cmdR n s'=Sx.func (Sx.anyF n) (n+1) s':=by
   unfold cmdR Sx.command
   refine if_pos ?_
   unfold Sx.atFunc
   rw[z2,hname,hres,z5.tk.2.1]
   rfl
  rw[hcf]
  by_cases hd':s'.d=40
  ·exact .inl ⟨(Sx.hd s').left,by unfold Sx.func;rw[if_pos hd'],.inr (by have:=h.dp;omega)⟩
  have hfl:Sx.dl (Sx.go (Sx.go (Sx.go { s' with d:=s'.d+1 })))=Sx.go (Sx.go (Sx.go { s' with d:=s'.d+1 })):=dl_of (r.be.beg.at x4).2.1
  have hun:Sx.func (Sx.anyF n) (n+1) s'=Sx.bnd (Sx.compound (Sx.anyF n) (n+1)) (fun k s2=>Sx.add { kind:=13,text:=(Sx.hd s).text,kids:=[k],left:=(Sx.hd s').left } { s2 with d:=s2.d-1 }) (Sx.go (Sx.go (Sx.go { s' with d:=s'.d+1 }))):=by
   unfold Sx.func
   rw[if_neg hd',Sx.bnd_ok (a:=()) (s':=Sx.go (Sx.go { s' with d:=s'.d+1 })) (by
    obtain⟨_,u2,_⟩:=z5.tk
    unfold Sx.need
    exact if_pos (by unfold Sx.isT;exact beq_iff_eq.2 u2)),Sx.bnd_ok (a:=()) (s':=Sx.go (Sx.go (Sx.go { s' with d:=s'.d+1 }))) (by
    obtain⟨_,u2,_⟩:=y2.tk
    unfold Sx.need
    exact if_pos (by unfold Sx.isT;exact beq_iff_eq.2 u2)),Sx.bnd_ok (a:=()) (s':=Sx.go (Sx.go (Sx.go { s' with d:=s'.d+1 }))) (by unfold Sx.lines;rw[hfl]),z2]
  rw[hun]
  rcases r.back n q (Sx.go (Sx.go (Sx.go { s' with d:=s'.d+1 }))) x4 hq (by show (Sx.go (Sx.go (Sx.go s'))).r.length≤n;omega) with⟨l,hx,hdd⟩ | ⟨ms',s1',k',hx,r',hk,hne',hem',hkd'⟩
  ·exact .inl ⟨l,by rw[Sx.bnd_error hx],hdd.imp id fun x=>by
    have x:s.d+1<s'.d+1:=x
    omega⟩
  ·have hns':s1'.ns=s'.ns++ms':=r'.ns
   refine .inr ⟨ms'++[{ kind:=13,text:=(Sx.hd s).text,kids:=[k'],left:=(Sx.hd s').left }],{ s1' with d:=s1'.d-1,ns:=s1'.ns++[{ kind:=13,text:=(Sx.hd s).text,kids:=[k'],left:=(Sx.hd s').left }] },s1'.ns.length,?_,⟨r'.r,?_,by simp only[hns',List.append_assoc],fun u w=>?_⟩,?_,by simp,?_,?_⟩
   ·rw[Sx.bnd_ok hx];rfl
   ·have:s1'.d=s'.d+1:=r'.d
    simp only;omega
   ·rw[List.map_append,List.map_append,r'.eq u w,(Out.kk r' r.kk hk u w).1]
    rfl
   ·rw[hns',List.length_append,List.length_append];rfl
   ·rw[hns',List.length_append];exact hem _ _ _ _ hem'
   ·rw[hns',List.length_append];exact Kd.node (ms:=ms') _
theorem command_bk {N k:Nat} {s s1:Sx.St} (h:Gs s) (e:Sx.command a N s=.ok (k,s1)):∃ ms b c v,Bk s s1 k Fo1 BegC cmdR (fun c=>c) ms b c v:=by
 unfold Sx.command at e
 by_cases hf:Sx.atFunc s=true
 ·rw[if_pos hf] at e
  exact func_bk ha hr h hf e
 rw[if_neg hf] at e
 by_cases hs:Sx.atSimple s=true
 ·rw[if_pos hs] at e
  exact simple_bk h hs e
 rw[if_neg hs] at e
 obtain⟨ms,b,c,v,r,hc⟩:=compound_bk ha hr h e
 refine⟨ms,b,c,v,r.ns,r.d,r.kk,r.ne,r.em,r.kd,r.el,r.gd,r.be,fun n q s' hat hq hn=>?_⟩
 obtain⟨h1,h2⟩:=hc q s' hat
 unfold cmdR Sx.command
 rw[if_neg (by rw[h1];decide),if_neg (by rw[h2];decide)]
 exact r.back n q s' hat hq hn
end
end Vx
end Go.Proofs.YtkkchkkpnlnbgaaGreatDoor
namespace Go.Proofs.YtkkchkkpnlnbgaaGreatDoor
namespace Vx
open Sx (Arw M Er good Wk)
open Lx (Tok)
open Up (S nodeF)
def Fo2 (t:Tok):Prop:=(t.kind=3∧t.text=[])∨(t.kind=2∧(t.text=[38,38]∨t.text=[124,124]))
theorem Fo2.one {t:Tok} (h:Fo2 t):Fo1 t∧t.text≠[124]:=by
 rcases h with⟨h1,h2⟩ | ⟨h1,h2 | h2⟩
 ·exact⟨.inl ⟨h1,h2⟩,by rw[h2];decide⟩
 ·exact⟨.inr ⟨h1,.inr (.inl h2)⟩,by rw[h2];decide⟩
 ·exact⟨.inr ⟨h1,.inr (.inr h2)⟩,by rw[h2];decide⟩
def pt (cs:List (List It)):List It:=cs.flatMap fun c=>.sp::.tk 2 [124]::.sp::c
theorem join_pt (c:List It):∀ (cs:List (List It)),join [.sp,.tk 2 [124],.sp] (c::cs)=c++pt cs
 | []=>by simp[join,pt]
 | d::cs=>by
  unfold join
  rw[join_pt d cs]
  simp[pt]
theorem Gd.sign {t:L} {c:List It} (ht:t∈signs) (h:Gd c):Gd (.sp::.tk 2 t::.sp::c):=
 Gd.cons_fr (.inl rfl) (Gd.blank (c:=[.tk 2 t]) (Gd.one (i:=.tk 2 t) ht) (.inl rfl) (Gd.cons_fr (.inl rfl) h))
def fh (c:List It):Prop:=c=[]∨∃ d,c=.sp::d
theorem Gd.tail {c d:List It} (h:Gd c) (h':Gd d) (hd:fh d):Gd (c++d):=by
 rcases hd with rfl | ⟨d,rfl⟩
 ·simpa using h
 ·exact h.blank (.inl rfl) h'
def OutL (s:Sx.St) (ms:List Sx.Node) (e:Bool) (cs:List (List It)) (l:List Nat) (q:List Tok) (s':Sx.St) (ks0:List Nat) (x:Except Er (List Nat×Sx.St)):Prop:=
 (∃ lf,x=.error (21,lf)∧(e=true∨s.d<s'.d))∨∃ ms' s1' l',x=.ok (ks0++l',s1')∧Re s ms e q s' ms' s1'∧Ems s'.ns.length ms' l' cs∧l'.length=l.length∧(cs=[]→ms'=[])∧(e=false→s'.ns.length=s.ns.length→l'=l)
structure Lk (s s1:Sx.St) (l:List Nat) (Fo:Tok→Prop) (R:Nat→Nat→List Nat→M (List Nat)) (P:List (List It)→List It) (ms:List Sx.Node) (e:Bool) (cs:List (List It)):Prop where
 ns:s1.ns=s.ns++ms
 d:s1.d=s.d
 em:Ems s.ns.length ms l cs
 none:cs=[]→ms=[]
 el:e=true→El s1.ns
 gd:Gd (P cs)
 back:∀ (n m:Nat) (ks0:List Nat) (q:List Tok) (s':Sx.St),At (P cs) q s'→Fo (q.headD Sx.E)→s'.r.length≤n→s'.r.length<m→OutL s ms e cs l q s' ks0 (R n m ks0 s')
theorem At.len {c:List It} {q:List Tok} {s:Sx.St} (h:At c q s):q.length≤s.r.length:=by
 obtain⟨p,h1,_⟩:=h
 rw[h1,List.length_append]
 omega
theorem passed_not {t:L} {s:Sx.St} (h:(Sx.hd s).text≠t):Sx.passed t s=.ok (false,s):=by
 unfold Sx.passed Sx.isT
 rw[if_neg (by rw[beq_iff_eq];exact h)]
theorem passed_at {k:Nat} {t:L} {c:List It} {q:List Tok} {s:Sx.St} (h:At (.tk k t::c) q s):Sx.passed t s=.ok (true,Sx.go s)∧At c q (Sx.go s)∧(Sx.go s).r.length+1=s.r.length:=by
 obtain⟨_,h2,_,h4,h5⟩:=h.tk
 exact⟨by unfold Sx.passed Sx.isT;rw[h2,if_pos (by simp)],h5,go_len h4⟩
section
variable {a:M Nat} (ha:Sx.UnA a) (hr:RdS a)
include ha hr
theorem pipeF_bk {N:Nat} (m:Nat) {ks ks':List Nat} {s s1:Sx.St} (h:Gs s) (e:Sx.pipeF a N m ks s=.ok (ks',s1)):∃ l ms b cs,ks'=ks++l∧Lk s s1 l Fo2 (fun n m=>Sx.pipeF (Sx.anyF n) (n+1) m) pt ms b cs∧cs.length=l.length∧fh (pt cs):=by
 induction m generalizing ks s with
 | zero=>cases e
 | succ m ih=>
  unfold Sx.pipeF at e
  obtain⟨f,s2,e2,ee⟩:=Sx.bnd_inv e
  clear e
  rcases Sx.passed_un (by decide) h.good e2 with⟨rfl,rfl,_,w2⟩ | ⟨rfl,rfl,hno,_⟩
  ·rw[if_pos rfl] at ee
   have g2:=h.of w2
   obtain⟨_,s3,e3,e⟩:=Sx.bnd_inv ee
   obtain⟨rfl,w3⟩:=Sx.lines_un g2.good e3
   have g3:=g2.of w3
   obtain⟨k,s4,e4,e⟩:=Sx.bnd_inv e
   obtain⟨ms,b,c,v,r⟩:=command_bk ha hr g3 e4
   have w4:=Sx.command_un ha N g3.good e4
   obtain⟨l,ms2,b2,cs,hl,r2,hcl,hfh⟩:=ih (g3.of w4) e
   have hns:s4.ns=s.ns++ms:=r.ns
   have hd4:s4.d=s.d:=r.d
   have hkk:k+1=s.ns.length+ms.length:=r.kk
   have hem:Em s.ns.length ms k c:=r.em
   have hlen:s4.ns.length=s.ns.length+ms.length:=by rw[hns,List.length_append]
   have hpt:pt (c::cs)=.sp::.tk 2 [124]::.sp::(c++pt cs):=by simp[pt]
   refine⟨k::l,ms++ms2,b || b2,c::cs,by rw[hl,List.append_assoc];rfl,⟨by rw[r2.ns,hns,List.append_assoc],r2.d.trans hd4,⟨hem.right _,Ems.left (by rw[←hlen];exact r2.em)⟩,fun h=>(by cases h),fun hor=>?_,?_,fun n m' ks0 q s' hat hq hn hm'=>?_⟩,by simp[hcl],.inr ⟨_,hpt⟩⟩
   ·rcases Bool.or_eq_true_iff.1 hor with hor | hor
    ·rw[r2.ns];exact(r.el hor).app _
    ·exact r2.el hor
   ·rw[hpt]
    exact Gd.sign (by decide) (r.gd.tail r2.gd hfh)
   ·rw[hpt] at hat
    obtain⟨p1,p2,p3⟩:=passed_at hat.sp
    obtain⟨q1,y1,y2⟩:=At.app (c:=c) (d:=pt cs) p2.sp
    obtain⟨m',rfl⟩:∃ x,m'=x+1:=⟨m'-1,by omega⟩
    have hdl:Sx.dl (Sx.go s')=Sx.go s':=dl_of (r.be.beg.at y1).2.1
    have hun:Sx.pipeF (Sx.anyF n) (n+1) (m'+1) ks0 s'=Sx.bnd (cmdR n) (fun k=>Sx.pipeF (Sx.anyF n) (n+1) m' (ks0++[k])) (Sx.go s'):=by
     rw[Sx.pipeF,Sx.bnd_ok p1,if_pos rfl,Sx.bnd_ok (a:=()) (s':=Sx.go s') (by unfold Sx.lines;rw[hdl])]
     rfl
    have hq1:Fo1 (q1.headD Sx.E):=by
     cases cs with
     | nil=>
      have:q1=q:=At.nil (y2 ⟨q1,0,[]⟩ rfl)
      rw[this];exact hq.one.1
     | cons d cs=>
      obtain⟨u1,u2⟩:=tk_head (c:=.sp::(d++pt cs)) (k:=2) (t:=[124]) (q2:=q) (q:=q1) fun s2 hs2=>by
       have:=y2 s2 hs2
       rw[show pt (d::cs)=.sp::.tk 2 [124]::.sp::(d++pt cs) by simp[pt]] at this
       exact this.sp
      exact .inr ⟨u1,.inl u2⟩
    have hql:=y1.len
    show OutL s (ms++ms2) (b || b2) (c::cs) (k::l) q s' ks0 (Sx.pipeF (Sx.anyF n) (n+1) (m'+1) ks0 s')
    rw[hun]
    rcases r.back n q1 (Sx.go s') y1 hq1 (by omega) with⟨lf,hx,hdd⟩ | ⟨ms',s1',k',hx,r',hk,hne',hem',hkd'⟩
    ·exact .inl ⟨lf,by rw[Sx.bnd_error hx],hdd.imp (fun x=>by rw[x];rfl) id⟩
    ·have hlen':s1'.ns.length=s'.ns.length+ms'.length:=by rw[r'.ns,List.length_append];rfl
     rcases r2.back n m' (ks0++[k']) q s1' (y2 s1' r'.r) hq (by rw[r'.r];omega) (by rw[r'.r];omega) with⟨lf,hx2,hdd⟩ | ⟨ms2',s2',l',hx2,r2',hem2,hll,hnn,heq⟩
     ·refine .inl ⟨lf,by rw[Sx.bnd_ok hx];exact hx2,?_⟩
      rw[hd4,r'.d] at hdd
      exact hdd.imp (fun x=>by rw[x,Bool.or_true]) id
     ·refine .inr ⟨ms'++ms2',s2',k'::l',by rw[Sx.bnd_ok hx];refine Eq.trans hx2 ?_;rw[List.append_assoc];rfl,Re.trans (s1:=s4) ⟨r'.r,r'.d,r'.ns,r'.eq⟩ hns r2',⟨hem'.right _,Ems.left (by rw[←hlen'];exact hem2)⟩,by simp[hll],fun h=>(by cases h),fun x y=>?_⟩
      rw[Bool.or_eq_false_iff] at x
      obtain⟨z1,z2⟩:=Out.kk r' r.kk hk x.1 y
      rw[z1,heq x.2 (by rw[hlen];exact z2)]
  ·rw[if_neg (by decide)] at ee
   cases ee
   refine⟨[],[],false,[],by simp,⟨by simp,rfl,trivial,fun _=>rfl,fun h=>(by cases h),Gd.nil,fun n m' ks0 q s' hat hq hn hm'=>.inr ⟨[],s',[],?_,⟨At.nil hat,rfl,by simp,fun _ _=>rfl⟩,trivial,rfl,fun _=>rfl,fun _ _=>rfl⟩⟩,rfl,.inl rfl⟩
   obtain⟨m',rfl⟩:∃ x,m'=x+1:=⟨m'-1,by omega⟩
   have hr:=At.nil hat
   rw[←hd_q hr] at hq
   show Sx.pipeF (Sx.anyF n) (n+1) (m'+1) ks0 s'=_
   rw[Sx.pipeF,Sx.bnd_ok (passed_not hq.one.2),if_neg (by decide),List.append_nil]
   rfl
def pipeR (n:Nat):M Nat:=Sx.pipeline (Sx.anyF n) (n+1)
theorem pipeline_bk {N k:Nat} {s s1:Sx.St} (h:Gs s) (e:Sx.pipeline a N s=.ok (k,s1)):∃ ms b c v,Bk s s1 k Fo2 Beg pipeR (fun c=>c) ms b c v:=by
 have hw:=Sx.pipeline_un ha N h.good e
 unfold Sx.pipeline at e
 obtain⟨f,s2,e2,ee⟩:=Sx.bnd_inv e
 clear e
 have hg2:Gs s2∧s2.ns=s.ns∧s2.d=s.d:=by
  rcases Sx.passed_un (by decide) h.good e2 with⟨_,rfl,_,w2⟩ | ⟨_,rfl,_,w2⟩
  ·exact⟨h.of w2,rfl,rfl⟩
  ·exact⟨h,rfl,rfl⟩
 obtain⟨g2,hn2,hd2⟩:=hg2
 obtain⟨k1,s3,e3,ee⟩:=Sx.bnd_inv ee
 obtain⟨ms,b,c,v,r⟩:=command_bk ha hr g2 e3
 have w3:=Sx.command_un ha N g2.good e3
 obtain⟨ks,s4,e4,ee⟩:=Sx.bnd_inv ee
 obtain⟨l,ms2,b2,cs,hl,r2,hcl,hfh⟩:=pipeF_bk ha hr N (g2.of w3) e4
 have hns:s3.ns=s.ns++ms:=by rw[r.ns,hn2]
 have hd3:s3.d=s.d:=r.d.trans hd2
 have hkk:k1+1=s.ns.length+ms.length:=by rw[r.kk,hn2]
 have hem:Em s.ns.length ms k1 c:=by have:=r.em;rw[hn2] at this;exact this
 have hlen:s3.ns.length=s.ns.length+ms.length:=by rw[hns,List.length_append]
 have hems:Ems s.ns.length (ms++ms2) (k1::l) (c::cs):=⟨hem.right _,Ems.left (by rw[←hlen];exact r2.em)⟩
 have hns4:s4.ns=s.ns++(ms++ms2):=by rw[r2.ns,hns,List.append_assoc]
 have hd4:s4.d=s.d:=r2.d.trans hd3
 have hel:(b || b2)=true→El s4.ns:=fun hor=>by
  rcases Bool.or_eq_true_iff.1 hor with hor | hor
  ·rw[r2.ns];exact(r.el hor).app _
  ·exact r2.el hor
 have hgd:Gd (c++pt cs):=r.gd.tail r2.gd hfh
 have key:∀ (n:Nat) (q:List Tok) (s':Sx.St),At (c++pt cs) q s'→Fo2 (q.headD Sx.E)→s'.r.length≤n →
   (∃ lf,Sx.bnd (cmdR n) (fun k=>Sx.bnd (Sx.pipeF (Sx.anyF n) (n+1) (n+1) [k]) fun ks s2=>.ok (ks,s2)) s'=.error (21,lf)∧((b || b2)=true∨s.d<s'.d)) ∨
   ∃ ms' s1' k' l',Sx.bnd (cmdR n) (fun k=>Sx.bnd (Sx.pipeF (Sx.anyF n) (n+1) (n+1) [k]) fun ks s2=>.ok (ks,s2)) s'=.ok (k'::l',s1')∧Re s (ms++ms2) (b || b2) q s' ms' s1'∧Ems s'.ns.length ms' (k'::l') (c::cs)∧l'.length=l.length∧((b || b2)=false→s'.ns.length=s.ns.length→k'::l'=k1::l)∧(l=[]→k'+1=s'.ns.length+ms'.length∧ms'≠[]∧Kd s'.ns.length ms' k' v):=by
  intro n q s' hat hq hn
  obtain⟨q1,y1,y2⟩:=At.app (c:=c) (d:=pt cs) hat
  have hq1:Fo1 (q1.headD Sx.E):=by
   cases cs with
   | nil=>
    have:q1=q:=At.nil (y2 ⟨q1,0,[]⟩ rfl)
    rw[this];exact hq.one.1
   | cons d cs=>
    obtain⟨u1,u2⟩:=tk_head (c:=.sp::(d++pt cs)) (k:=2) (t:=[124]) (q2:=q) (q:=q1) fun s2 hs2=>by
     have:=y2 s2 hs2
     rw[show pt (d::cs)=.sp::.tk 2 [124]::.sp::(d++pt cs) by simp[pt]] at this
     exact this.sp
    exact .inr ⟨u1,.inl u2⟩
  have hql:=y1.len
  rcases r.back n q1 s' y1 hq1 hn with⟨lf,hx,hdd⟩ | ⟨ms',s1',k',hx,r',hk,hne',hem',hkd'⟩
  ·exact .inl ⟨lf,by rw[Sx.bnd_error hx],by rw[hd2] at hdd;exact hdd.imp (fun x=>by rw[x];rfl) id⟩
  ·have hlen':s1'.ns.length=s'.ns.length+ms'.length:=by rw[r'.ns,List.length_append]
   rcases r2.back n (n+1) [k'] q s1' (y2 s1' r'.r) hq (by rw[r'.r];omega) (by rw[r'.r];omega) with⟨lf,hx2,hdd⟩ | ⟨ms2',s2',l',hx2,r2',hem2,hll,hnn,heq⟩
   ·refine .inl ⟨lf,by rw[Sx.bnd_ok hx,Sx.bnd_error hx2],?_⟩
    rw[hd3,r'.d] at hdd
    exact hdd.imp (fun x=>by rw[x,Bool.or_true]) id
   ·have rr:Re s ms b q1 s' ms' s1':=⟨r'.r,r'.d,r'.ns,fun x y=>r'.eq x (by rw[hn2];exact y)⟩
    refine .inr ⟨ms'++ms2',s2',k',l',by rw[Sx.bnd_ok hx,Sx.bnd_ok hx2];rfl,Re.trans (s1:=s3) rr hns r2',⟨hem'.right _,Ems.left (by rw[←hlen'];exact hem2)⟩,hll,fun x y=>?_,fun hl0=>?_⟩
    ·rw[Bool.or_eq_false_iff] at x
     obtain⟨z1,z2⟩:=Out.kk rr hkk hk x.1 y
     rw[z1,heq x.2 (by rw[hlen];exact z2)]
    ·subst hl0
     have hc0:cs=[]:=List.eq_nil_of_length_eq_zero (by rw[hcl];rfl)
     rw[hnn hc0,List.append_nil]
     exact⟨hk,hne',hkd'⟩
 have hbd:∀ (n:Nat) (s':Sx.St) (G:List Nat→M Nat),Sx.bnd (cmdR n) (fun k=>Sx.bnd (Sx.pipeF (Sx.anyF n) (n+1) (n+1) [k]) G) s'=match Sx.bnd (cmdR n) (fun k=>Sx.bnd (Sx.pipeF (Sx.anyF n) (n+1) (n+1) [k]) fun ks s2=>.ok (ks,s2)) s' with
   | .error e=>.error e
   | .ok (ks,s2)=>G ks s2:=fun n s' G=>by
  unfold Sx.bnd
  cases cmdR n s' with
  | error e=>rfl
  | ok x=>
   simp only
   cases Sx.pipeF (Sx.anyF n) (n+1) (n+1) [x.1] x.2 <;> rfl
 have hpas:∀ (n:Nat) (q:List Tok) (s':Sx.St),At ((if f then [.tk 1 [33],.sp] else [])++(c++pt cs)) q s'→s'.r.length≤n→∃ s2',Sx.passed [33] s'=.ok (f,s2')∧At (c++pt cs) q s2'∧s2'.ns=s'.ns∧s2'.d=s'.d∧s2'.r.length≤n:=fun n q s' hat hn=>by
  cases f with
  | true=>
   obtain⟨p1,p2,p3⟩:=passed_at (c:=.sp::(c++pt cs)) hat
   exact⟨Sx.go s',p1,p2.sp,rfl,rfl,by omega⟩
  | false=>
   have hat:At (c++pt cs) q s':=hat
   refine⟨s',?_,hat,rfl,rfl,hn⟩
   unfold Sx.passed
   rw[if_neg (by rw[(r.be.app _).not hat];decide)]
 by_cases hone:f=false∧ks.length=1
 ·rw[if_pos hone] at ee
  cases ee
  have hl0:l=[]:=by
   have:=hone.2
   rw[hl] at this
   exact List.eq_nil_of_length_eq_zero (by simpa using this)
  subst hl0
  have hc0:cs=[]:=List.eq_nil_of_length_eq_zero (by rw[hcl];rfl)
  subst hc0
  have hm0:ms2=[]:=r2.none rfl
  subst hm0
  obtain⟨rfl,_⟩:=hone
  have hpt:c++pt []=c:=by simp[pt]
  rw[hpt] at hgd key hpas
  rw[List.append_nil] at hns4 key
  rw[hl]
  refine⟨ms,b || b2,c,v,hns4,hd4,hkk,r.ne,hem,by have:=r.kd;rw[hn2] at this;exact this,hel,hgd,r.be.beg,fun n q s' hat hq hn=>?_⟩
  obtain⟨s2',f1,f2,f3,f4,f5⟩:=hpas n q s' hat hn
  have hun:pipeR n s'=_:=(Sx.bnd_ok f1).trans (hbd n s2' _)
  rw[hun]
  rcases key n q s2' f2 hq f5 with⟨lf,hx,hdd⟩ | ⟨ms',s1',k',l',hx,r',hem',hll,heq,hlast⟩
  ·rw[f4] at hdd
   exact .inl ⟨lf,by rw[hx],hdd⟩
  ·have hl'0:l'=[]:=List.eq_nil_of_length_eq_zero (by rw[hll];rfl)
   subst hl'0
   obtain⟨z1,z2,z3⟩:=hlast rfl
   rw[f3] at z1 z3 hem'
   refine .inr ⟨ms',s1',k',by rw[hx];rfl,⟨r'.r,r'.d.trans f4,by rw[←f3];exact r'.ns,fun x y=>r'.eq x (by rw[f3];exact y)⟩,z1,z2,hem'.1,z3⟩
 ·rw[if_neg hone] at ee
  obtain⟨rfl,rfl⟩:=add_ok ee
  have hks:ks=k1::l:=hl
  subst hks
  have hsh:∀ (lf:Nat) (k':Nat) (l':List Nat),l'.length=l.length→Sx.shapeB ({ kind:=2,flag:=f,kids:=k'::l',left:=lf }:Sx.Node)=true:=fun lf k' l' hll=>by
   have h1:Sx.shapeB ({ kind:=2,flag:=f,kids:=k1::l,left:=(Sx.hd s).left }:Sx.Node)=true:=shape_of hw (ms:=ms++ms2++[_]) (by simp only[hns4,List.append_assoc];rfl) _ (by simp)
   simpa [Sx.shapeB,hll] using h1
  have hemn:∀ (bb lf:Nat) (M:List Sx.Node) (k':Nat) (l':List Nat),l'.length=l.length→Ems bb M (k'::l') (c::cs)→Em bb (M++[{ kind:=2,flag:=f,kids:=k'::l',left:=lf }]) (bb+M.length) ((if f then [.tk 1 [33],.sp] else [])++(c++pt cs)):=fun bb lf M k' l' hll hE=>by
   have:=Em.node (n:={ kind:=2,flag:=f,kids:=k'::l',left:=lf }) (v:=0) hE (fun h=>by cases h) (hsh lf k' l' hll) ⟨by simp,by simp⟩
   rw[←join_pt]
   exact this
  refine⟨ms++ms2++[{ kind:=2,flag:=f,kids:=k1::l,left:=(Sx.hd s).left }],b || b2,(if f then [.tk 1 [33],.sp] else [])++(c++pt cs),2,by simp only[hns4,List.append_assoc],hd4,by rw[hns4];simp only[List.length_append];rfl,by simp,?_,?_,fun hb=>(hel hb).app _,?_,?_,fun n q s' hat hq hn=>?_⟩
  ·rw[hns4,List.length_append];exact hemn _ _ _ _ _ rfl hems
  ·rw[hns4,List.length_append];exact Kd.node (ms:=ms++ms2) _
  ·cases f with
   | true=>exact Gd.blank (c:=[.tk 1 [33]]) (Gd.one (iv_key (by decide) (by decide) (by decide))) (.inl rfl) (Gd.cons_fr (.inl rfl) hgd)
   | false=>exact hgd
  ·cases f with
   | true=>exact⟨_,_,rfl,rfl⟩
   | false=>exact r.be.beg.app _
  ·obtain⟨s2',f1,f2,f3,f4,f5⟩:=hpas n q s' hat hn
   have hun:pipeR n s'=_:=(Sx.bnd_ok f1).trans (hbd n s2' _)
   rw[hun]
   rcases key n q s2' f2 hq f5 with⟨lf,hx,hdd⟩ | ⟨ms',s1',k',l',hx,r',hem',hll,heq,_⟩
   ·rw[f4] at hdd
    exact .inl ⟨lf,by rw[hx],hdd⟩
   ·have hns':s1'.ns=s'.ns++ms':=by rw[←f3];exact r'.ns
    rw[f3] at hem'
    refine .inr ⟨ms'++[{ kind:=2,flag:=f,kids:=k'::l',left:=(Sx.hd s').left }],{ s1' with ns:=s1'.ns++[{ kind:=2,flag:=f,kids:=k'::l',left:=(Sx.hd s').left }] },s1'.ns.length,?_,⟨r'.r,r'.d.trans f4,by simp only[hns',List.append_assoc],fun x y=>?_⟩,?_,by simp,?_,?_⟩
    ·rw[hx]
     simp only
     rw[if_neg (by rw[List.length_cons,hll];exact hone)]
     rfl
    ·have y2:s2'.ns.length=s.ns.length:=by rw[f3];exact y
     rw[List.map_append,List.map_append,r'.eq x y2,heq x y2]
     rfl
    ·rw[hns',List.length_append,List.length_append];rfl
    ·rw[hns',List.length_append];exact hemn _ _ _ _ _ hll hem'
    ·rw[hns',List.length_append];exact Kd.node (ms:=ms') _
end
end Vx
end Go.Proofs.YtkkchkkpnlnbgaaGreatDoor
namespace Go.Proofs.YtkkchkkpnlnbgaaGreatDoor
namespace Vx
open Sx (Arw M Er good Wk)
open Lx (Tok)
open Up (S nodeF)
def Fo3 (t:Tok):Prop:=t.kind=3∧t.text=[]
theorem Fo3.two {t:Tok} (h:Fo3 t):Fo2 t:=.inl h
def oh (c:List It):Prop:=c=[]∨∃ op d,c=.sp::.tk 2 op::d∧(op=[38,38]∨op=[124,124])
theorem oh.fh {c:List It} (h:oh c):fh c:=by
 rcases h with rfl | ⟨op,d,rfl,_⟩
 ·exact .inl rfl
 ·exact .inr ⟨_,rfl⟩
structure Ak (s s1:Sx.St) (i j:Nat) (R:Nat→Nat→Nat→Nat→M Nat) (ms:List Sx.Node) (b:Bool) (ct:List It) (w:Option Nat):Prop where
 ns:s1.ns=s.ns++ms
 d:s1.d=s.d
 el:b=true→El s1.ns
 gd:Gd ct
 oh:oh ct
 kk:j+1=s1.ns.length
 em:∀ (bb:Nat) (ms0:List Sx.Node) (ci:List It) (vi:Nat),s.ns.length=bb+ms0.length→Em bb ms0 i ci→Kd bb ms0 i vi→Em bb (ms0++ms) j (ci++ct)∧Kd bb (ms0++ms) j (w.getD vi)
 back:∀ (n m ln i':Nat) (q:List Tok) (s':Sx.St) (bb:Nat) (ms0:List Sx.Node) (ci:List It) (vi:Nat),s'.ns.length=bb+ms0.length→i'+1=s'.ns.length→Em bb ms0 i' ci→Kd bb ms0 i' vi→At ct q s'→Fo3 (q.headD Sx.E)→s'.r.length≤n→s'.r.length<m →
  (∃ lf,R n ln m i' s'=.error (21,lf)∧(b=true∨s.d<s'.d))∨∃ ms' s1' j',R n ln m i' s'=.ok (j',s1')∧Re s ms b q s' ms' s1'∧Em bb (ms0++ms') j' (ci++ct)∧Kd bb (ms0++ms') j' (w.getD vi)∧j'+1=s1'.ns.length
def aoN (o:Bool) (ks:List Nat) (lf:Nat):Sx.Node:={ kind:=if o then 4 else 3,kids:=ks,left:=lf }
def aoW (o:Bool):L:=if o then [124,124] else [38,38]
theorem ao_em {bb:Nat} {M:List Sx.Node} {i j:Nat} {ci cj:List It} (o:Bool) (lf:Nat) (h:Em bb M i ci) (h':Em bb M j cj):Em bb (M++[aoN o [i,j] lf]) (bb+M.length) (ci++.sp::.tk 2 (aoW o)::.sp::cj):=by
 have:=Em.node (n:=aoN o [i,j] lf) (cs:=[ci,cj]) (v:=0) ⟨h,h',trivial⟩ (fun h=>by cases o <;> cases h) (by cases o <;> rfl) (by cases o <;> exact⟨by simp[aoN],by simp[aoN]⟩)
 have hb:bodyI (aoN o [i,j] lf) [ci,cj] (0==6)=ci++.sp::.tk 2 (aoW o)::.sp::cj:=by cases o <;> simp[bodyI,aoN,aoW,join]
 rw[hb] at this
 exact this
theorem aoF_at (a:M Nat) (n ln m i:Nat) (s:Sx.St):Sx.aoF a n ln (m+1) i s =
  if Sx.isT [38,38] s=true∨Sx.isT [124,124] s=true then Sx.bnd Sx.lines (fun _=>Sx.bnd (Sx.pipeline a n) fun j=>Sx.bnd (Sx.add { kind:=if Sx.isT [124,124] s=true then 4 else 3,kids:=[i,j],left:=ln }) fun k=>Sx.aoF a n ln m k) (Sx.go s)
  else .ok (i,s):=rfl
section
variable {a:M Nat} (ha:Sx.UnA a) (hr:RdS a)
include ha hr
theorem aoF_bk {N ln:Nat} (m:Nat) {i j:Nat} {s s1:Sx.St} (h:Gs s) (hi:i+1=s.ns.length) (e:Sx.aoF a N ln m i s=.ok (j,s1)):∃ ms b ct w,Ak s s1 i j (fun n ln m=>Sx.aoF (Sx.anyF n) (n+1) ln m) ms b ct w:=by
 induction m generalizing i s with
 | zero=>cases e
 | succ m ih=>
  unfold Sx.aoF at e
  by_cases hop:Sx.isT [38,38] s=true∨Sx.isT [124,124] s=true
  ·rw[if_pos hop] at e
   obtain⟨o,ho⟩:∃ o,o=Sx.isT [124,124] s:=⟨_,rfl⟩
   have htx:(Sx.hd s).text=aoW o:=by
    unfold Sx.isT at hop ho
    simp only[beq_iff_eq] at hop
    rcases hop with hop | hop
    ·rw[hop] at ho⊢;rw[ho];rfl
    ·rw[hop] at ho⊢;rw[ho];rfl
   have w1:=Wk.go h.good (.inl (by rw[htx];cases o <;> decide))
   have g1:=h.of w1
   obtain⟨_,s2,e2,ee⟩:=Sx.bnd_inv e
   clear e
   obtain⟨rfl,w2⟩:=Sx.lines_un g1.good e2
   have g2:=g1.of w2
   obtain⟨k,s3,e3,ee⟩:=Sx.bnd_inv ee
   obtain⟨ms,b,c,v,r⟩:=pipeline_bk ha hr g2 e3
   have w3:=Sx.pipeline_un ha N g2.good e3
   have g3:=g2.of w3
   obtain⟨k2,s4,e4,ee⟩:=Sx.bnd_inv ee
   obtain⟨rfl,rfl⟩:=add_ok e4
   have hns:s3.ns=s.ns++ms:=r.ns
   have hd3:s3.d=s.d:=r.d
   have hkk:k+1=s.ns.length+ms.length:=r.kk
   have hem:Em s.ns.length ms k c:=r.em
   have hnode:({ kind:=if Sx.isT [124,124] s=true then 4 else 3,kids:=[i,k],left:=ln }:Sx.Node)=aoN o [i,k] ln:=by rw[ho];rfl
   rw[hnode] at ee
   obtain⟨ms2,b2,ct,w,r2⟩:=ih (s:={ s3 with ns:=s3.ns++[aoN o [i,k] ln] }) ⟨g3.good,g3.vl,g3.dp⟩ (by simp) ee
   have hlen:s3.ns.length=s.ns.length+ms.length:=by rw[hns,List.length_append]
   have hct:oh (.sp::.tk 2 (aoW o)::.sp::(c++ct)):=.inr ⟨_,_,rfl,by cases o <;> simp[aoW]⟩
   refine⟨ms++[aoN o [i,k] ln]++ms2,b || b2,.sp::.tk 2 (aoW o)::.sp::(c++ct),some (w.getD (aoN o [i,k] ln).kind),⟨by rw[r2.ns];simp only[hns,List.append_assoc],r2.d.trans hd3,fun hor=>?_,Gd.sign (by cases o <;> decide) (r.gd.tail r2.gd r2.oh.fh),hct,r2.kk,fun bb ms0 ci vi hl he hk=>?_,fun n m' ln' i' q s' bb ms0 ci vi hl hi' he hk hat hq hn hm'=>?_⟩⟩
   ·rcases Bool.or_eq_true_iff.1 hor with hor | hor
    ·rw[r2.ns];exact((r.el hor).app _).app _
    ·exact r2.el hor
   ·have h1:=ao_em (bb:=bb) (M:=ms0++ms) o ln (he.right ms) (Em.left (by rw[←hl];exact hem))
    have hpos:bb+(ms0++ms).length=s3.ns.length:=by rw[List.length_append,hlen,hl];omega
    rw[hpos] at h1
    have h2:=Kd.node (b:=bb) (ms:=ms0++ms) (aoN o [i,k] ln)
    rw[hpos] at h2
    obtain⟨x1,x2⟩:=r2.em bb (ms0++ms++[aoN o [i,k] ln]) _ _ (by simp only[List.length_append,List.length_cons,List.length_nil] at hpos⊢;omega) h1 h2
    refine⟨?_,?_⟩
    ·simpa only[List.append_assoc,List.cons_append,List.nil_append] using x1
    ·simpa only[List.append_assoc,List.cons_append,List.nil_append,Option.getD_some] using x2
   ·obtain⟨m',rfl⟩:∃ x,m'=x+1:=⟨m'-1,by omega⟩
    have hat0:=hat.sp
    obtain⟨u1,u2,_,u4,u5⟩:=hat0.tk
    have u6:=go_len u4
    obtain⟨q1,y1,y2⟩:=At.app (c:=c) (d:=ct) u5.sp
    have hdl:Sx.dl (Sx.go s')=Sx.go s':=dl_of (r.be.at y1).2.1
    have ho':Sx.isT [124,124] s'=o:=by unfold Sx.isT;rw[u2];cases o <;> rfl
    have hop':Sx.isT [38,38] s'=true∨Sx.isT [124,124] s'=true:=by unfold Sx.isT;rw[u2];cases o <;> simp[aoW]
    have hun:Sx.aoF (Sx.anyF n) (n+1) ln' (m'+1) i' s'=Sx.bnd (pipeR n) (fun j=>Sx.bnd (Sx.add (aoN o [i',j] ln')) fun k=>Sx.aoF (Sx.anyF n) (n+1) ln' m' k) (Sx.go s'):=by
     rw[aoF_at,if_pos hop',Sx.bnd_ok (a:=()) (s':=Sx.go s') (by unfold Sx.lines;rw[hdl]),ho']
     rfl
    have hq1:Fo2 (q1.headD Sx.E):=by
     rcases r2.oh with hc0 | ⟨op,d,hc0,hop2⟩
     ·have:q1=q:=At.nil (by rw[hc0] at y2;exact y2 ⟨q1,0,[]⟩ rfl)
      rw[this];exact hq.two
     ·obtain⟨v1,v2⟩:=tk_head (c:=d) (k:=2) (t:=op) (q2:=q) (q:=q1) fun s2 hs2=>by
       have:=y2 s2 hs2
       rw[hc0] at this
       exact this.sp
      exact .inr ⟨v1,by rw[v2];exact hop2⟩
    have hql:=y1.len
    show (∃ lf,Sx.aoF (Sx.anyF n) (n+1) ln' (m'+1) i' s'=_∧_)∨∃ ms' s1' j',Sx.aoF (Sx.anyF n) (n+1) ln' (m'+1) i' s'=_∧_
    rw[hun]
    rcases r.back n q1 (Sx.go s') y1 hq1 (by omega) with⟨lf,hx,hdd⟩ | ⟨ms',s1',k',hx,r',hk',hne',hem',hkd'⟩
    ·exact .inl ⟨lf,by rw[Sx.bnd_error hx],hdd.imp (fun x=>by rw[x];rfl) id⟩
    ·have hns':s1'.ns=s'.ns++ms':=r'.ns
     have hlen':s1'.ns.length=s'.ns.length+ms'.length:=by rw[hns',List.length_append]
     have hpos:bb+(ms0++ms').length=s1'.ns.length:=by rw[List.length_append,hlen',hl];omega
     have h1:=ao_em (bb:=bb) (M:=ms0++ms') o ln' (he.right ms') (Em.left (by rw[←hl];exact hem'))
     rw[hpos] at h1
     have h2:=Kd.node (b:=bb) (ms:=ms0++ms') (aoN o [i',k'] ln')
     rw[hpos] at h2
     have hadd:Sx.add (aoN o [i',k'] ln') s1'=.ok (s1'.ns.length,{ s1' with ns:=s1'.ns++[aoN o [i',k'] ln'] }):=rfl
     rcases r2.back n m' ln' s1'.ns.length q { s1' with ns:=s1'.ns++[aoN o [i',k'] ln'] } bb (ms0++ms'++[aoN o [i',k'] ln']) _ _ (by simp only[List.length_append,List.length_cons,List.length_nil] at hpos⊢;omega) (by simp) h1 h2 (y2 _ r'.r) hq (by show s1'.r.length≤n;rw[r'.r];omega) (by show s1'.r.length<m';rw[r'.r];omega) with⟨lf,hx2,hdd⟩ | ⟨ms2',s2',j',hx2,r2',x1,x2,x3⟩
     ·refine .inl ⟨lf,by rw[Sx.bnd_ok hx,Sx.bnd_ok hadd];exact hx2,?_⟩
      have hdd:b2=true∨s3.d<s1'.d:=hdd
      rw[hd3,r'.d] at hdd
      exact hdd.imp (fun x=>by rw[x,Bool.or_true]) id
     ·have rr:Re s (ms++[aoN o [i,k] ln]) b q1 s' (ms'++[aoN o [i',k'] ln']) { s1' with ns:=s1'.ns++[aoN o [i',k'] ln'] }:=⟨r'.r,r'.d,by simp only[hns',List.append_assoc],fun x y=>by
       have y2:i'=i:=by omega
       rw[List.map_append,List.map_append,r'.eq x y,(Out.kk r' r.kk hk' x y).1,y2]
       rfl⟩
      refine .inr ⟨ms'++[aoN o [i',k'] ln']++ms2',s2',j',by rw[Sx.bnd_ok hx,Sx.bnd_ok hadd];exact hx2,Re.trans (s1:={ s3 with ns:=s3.ns++[aoN o [i,k] ln] }) rr (by simp only[hns,List.append_assoc]) r2',?_,?_,x3⟩
      ·simpa only[List.append_assoc,List.cons_append,List.nil_append] using x1
      ·rw[show ms0++ms'++[aoN o [i',k'] ln']++ms2'=ms0++(ms'++[aoN o [i',k'] ln']++ms2') by simp] at x2
       exact x2
  ·rw[if_neg hop] at e
   cases e
   refine⟨[],false,[],none,⟨by simp,rfl,fun h=>(by cases h),Gd.nil,.inl rfl,hi,fun bb ms0 ci vi hl he hk=>⟨by simpa using he,by simpa using hk⟩,fun n m' ln' i' q s' bb ms0 ci vi hl hi' he hk hat hq hn hm'=>.inr ⟨[],s',i',?_,⟨At.nil hat,rfl,by simp,fun _ _=>rfl⟩,by simpa using he,by simpa using hk,hi'⟩⟩⟩
   obtain⟨m',rfl⟩:∃ x,m'=x+1:=⟨m'-1,by omega⟩
   have hr:=At.nil hat
   rw[←hd_q hr] at hq
   show Sx.aoF (Sx.anyF n) (n+1) ln' (m'+1) i' s'=_
   rw[aoF_at,if_neg (by unfold Sx.isT;rw[hq.2];decide)]
def aoR (n:Nat):M Nat:=Sx.andOr (Sx.anyF n) (n+1)
theorem andOr_bk {N k:Nat} {s s1:Sx.St} (h:Gs s) (e:Sx.andOr a N s=.ok (k,s1)):∃ ms b c v,Bk s s1 k Fo3 Beg aoR (fun c=>c) ms b c v:=by
 unfold Sx.andOr at e
 obtain⟨i,s2,e2,e⟩:=Sx.bnd_inv e
 obtain⟨ms,b,c,v,r⟩:=pipeline_bk ha hr h e2
 have w2:=Sx.pipeline_un ha N h.good e2
 have hlen:s2.ns.length=s.ns.length+ms.length:=by rw[r.ns,List.length_append]
 obtain⟨ms2,b2,ct,w,r2⟩:=aoF_bk ha hr N (h.of w2) (by rw[hlen];exact r.kk) e
 obtain⟨x1,x2⟩:=r2.em s.ns.length ms c v hlen r.em r.kd
 refine⟨ms++ms2,b || b2,c++ct,w.getD v,by rw[r2.ns,r.ns,List.append_assoc],r2.d.trans r.d,by rw[r2.kk,r2.ns,List.length_append,List.length_append,hlen];omega,by have:=r.ne;simp[this],x1,x2,fun hor=>?_,r.gd.tail r2.gd r2.oh.fh,r.be.app _,fun n q s' hat hq hn=>?_⟩
 ·rcases Bool.or_eq_true_iff.1 hor with hor | hor
  ·rw[r2.ns];exact(r.el hor).app _
  ·exact r2.el hor
 ·obtain⟨q1,y1,y2⟩:=At.app (c:=c) (d:=ct) hat
  have hq1:Fo2 (q1.headD Sx.E):=by
   rcases r2.oh with hc0 | ⟨op,d,hc0,hop2⟩
   ·have:q1=q:=At.nil (by rw[hc0] at y2;exact y2 ⟨q1,0,[]⟩ rfl)
    rw[this];exact hq.two
   ·obtain⟨v1,v2⟩:=tk_head (c:=d) (k:=2) (t:=op) (q2:=q) (q:=q1) fun s2 hs2=>by
     have:=y2 s2 hs2
     rw[hc0] at this
     exact this.sp
    exact .inr ⟨v1,by rw[v2];exact hop2⟩
  have hql:=y1.len
  have hun:aoR n s'=Sx.bnd (pipeR n) (fun i=>Sx.aoF (Sx.anyF n) (n+1) (Sx.hd s').left (n+1) i) s':=rfl
  rw[hun]
  rcases r.back n q1 s' y1 hq1 hn with⟨lf,hx,hdd⟩ | ⟨ms',s1',k',hx,r',hk',hne',hem',hkd'⟩
  ·exact .inl ⟨lf,by rw[Sx.bnd_error hx],hdd.imp (fun x=>by rw[x];rfl) id⟩
  ·have hlen':s1'.ns.length=s'.ns.length+ms'.length:=by rw[r'.ns,List.length_append]
   rcases r2.back n (n+1) (Sx.hd s').left k' q s1' s'.ns.length ms' c v hlen' (by rw[hlen'];exact hk') hem' hkd' (y2 _ r'.r) hq (by rw[r'.r];omega) (by rw[r'.r];omega) with⟨lf,hx2,hdd⟩ | ⟨ms2',s2',j',hx2,r2',z1,z2,z3⟩
   ·refine .inl ⟨lf,by rw[Sx.bnd_ok hx];exact hx2,?_⟩
    rw[r.d,r'.d] at hdd
    exact hdd.imp (fun x=>by rw[x,Bool.or_true]) id
   ·refine .inr ⟨ms'++ms2',s2',j',by rw[Sx.bnd_ok hx];exact hx2,Re.trans r' r.ns r2',by rw[z3,r2'.ns,List.length_append,List.length_append,hlen'];omega,by simp[hne'],z1,z2⟩
end
end Vx
end Go.Proofs.YtkkchkkpnlnbgaaGreatDoor
namespace Go.Proofs.YtkkchkkpnlnbgaaGreatDoor
namespace Vx
open Sx (Arw M Er good Wk)
open Lx (Tok)
open Up (S nodeF)
def lnI (cs:List (List It)):List It:=cs.flatMap fun c=>c++[.nl]
theorem lnI_cons (c:List It) (cs:List (List It)):lnI (c::cs)=c++.nl::lnI cs:=by simp[lnI]
theorem lnI_last (cs:List (List It)):∀ i,(lnI cs).getLast?=some i→i=.nl:=by
 induction cs with
 | nil=>intro i h;cases h
 | cons c cs ih=>
  intro i h
  rw[lnI_cons] at h
  cases cs with
  | nil=>
   rw[show c++.nl::lnI []=c++[.nl] by simp[lnI],List.getLast?_concat] at h
   cases h;rfl
  | cons d cs=>
   refine ih i ?_
   rw[List.getLast?_append,List.getLast?_cons] at h
   simp only[Option.some_or,Option.some.injEq] at h
   have:(lnI (d::cs)).getLast?≠none:=by rw[lnI_cons];simp
   cases e:(lnI (d::cs)).getLast? with
   | none=>exact absurd e this
   | some x=>rw[e] at h;simpa using h
def bgs (cs:List (List It)):Prop:=cs=[]∨Beg (lnI cs)
def listR (n m:Nat) (ks:List Nat):M (List Nat):=Sx.listF (Sx.anyF n) (n+1) m ks
theorem listF_at (a:M Nat) (n m:Nat) (ks:List Nat) (s:Sx.St):Sx.listF a n (m+1) ks s=if Sx.atAndOr s=true then Sx.bnd (Sx.andOr a n) (fun k=>Sx.bnd Sx.parted fun b=>if b=true then Sx.listF a n m (ks++[k]) else Sx.ret (ks++[k])) s else .ok (ks,s):=rfl
theorem bgs.dl {cs:List (List It)} {q:List Tok} {s:Sx.St} (h:bgs cs) (ha:At (lnI cs) q s) (hq:Fc (q.headD Sx.E)):Sx.dl s=s:=by
 rcases h with rfl | h
 ·refine dl_of ?_
  rw[hd_q (At.nil ha)]
  exact hq.1
 ·exact dl_of (h.at ha).2.1
theorem Lk.nil (s:Sx.St):Lk s s [] Fc listR lnI [] false []:=
 ⟨by simp,rfl,trivial,fun _=>rfl,fun h=>(by cases h),Gd.nil,fun n m ks0 q s' hat hq hn hm=>.inr ⟨[],s',[],by
  obtain⟨m,rfl⟩:∃ x,m=x+1:=⟨m-1,by omega⟩
  have hr:=At.nil hat
  rw[←hd_q hr] at hq
  unfold listR
  rw[listF_at,if_neg (by rw[aoT_hd,hq.2];decide),List.append_nil],⟨At.nil hat,rfl,by simp,fun _ _=>rfl⟩,trivial,rfl,fun _=>rfl,fun _ _=>rfl⟩⟩
theorem Lk.cons {s s2 s3 s1:Sx.St} {k v:Nat} {l:List Nat} {ms ms2:List Sx.Node} {b b2:Bool} {c:List It} {cs:List (List It)} (r:Bk s s2 k Fo3 Beg aoR (fun c=>c) ms b c v) (hn3:s3.ns=s2.ns) (hd3:s3.d=s2.d) (r2:Lk s3 s1 l Fc listR lnI ms2 b2 cs) (hb:bgs cs):Lk s s1 (k::l) Fc listR lnI (ms++ms2) (b || b2) (c::cs):=by
 have hns:s3.ns=s.ns++ms:=hn3.trans r.ns
 have hlen:s3.ns.length=s.ns.length+ms.length:=by rw[hns,List.length_append]
 refine⟨by rw[r2.ns,hns,List.append_assoc],r2.d.trans (hd3.trans r.d),⟨r.em.right _,Ems.left (by rw[←hlen];exact r2.em)⟩,fun h=>(by cases h),fun hor=>?_,?_,fun n m' ks0 q s' hat hq hn hm'=>?_⟩
 ·rcases Bool.or_eq_true_iff.1 hor with hor | hor
  ·rw[r2.ns,hn3];exact(r.el hor).app _
  ·exact r2.el hor
 ·rw[lnI_cons]
  exact r.gd.blank (.inr rfl) (Gd.cons_fr (.inr rfl) r2.gd)
 ·rw[lnI_cons] at hat
  obtain⟨q1,y1,y2⟩:=At.app (c:=c) (d:=.nl::lnI cs) hat
  obtain⟨m',rfl⟩:∃ x,m'=x+1:=⟨m'-1,by omega⟩
  have hq1:Fo3 (q1.headD Sx.E):=by
   obtain⟨u1,u2,_⟩:=(y2 ⟨q1,0,[]⟩ rfl).nl
   exact⟨u1,u2⟩
  have hql:=y1.len
  have hao:=(r.be.at y1).1
  have hun:listR n (m'+1) ks0 s'=Sx.bnd (aoR n) (fun k=>Sx.bnd Sx.parted fun b=>if b=true then listR n m' (ks0++[k]) else Sx.ret (ks0++[k])) s':=by
   unfold listR
   rw[listF_at,if_pos hao]
   rfl
  rw[hun]
  rcases r.back n q1 s' y1 hq1 hn with⟨lf,hx,hdd⟩ | ⟨ms',s1',k',hx,r',hk,hne',hem',hkd'⟩
  ·exact .inl ⟨lf,by rw[Sx.bnd_error hx],hdd.imp (fun x=>by rw[x];rfl) id⟩
  ·obtain⟨u1,u2,u3,u4⟩:=(y2 s1' r'.r).nl
   have hg:=go_len u3
   have hpa:Sx.parted s1'=.ok (true,Sx.go s1'):=by
    unfold Sx.parted
    rw[if_pos (.inr u1),hb.dl u4 hq]
   have hlen':s1'.ns.length=s'.ns.length+ms'.length:=by rw[r'.ns,List.length_append]
   rcases r2.back n m' (ks0++[k']) q (Sx.go s1') u4 hq (by rw[r'.r] at hg;omega) (by rw[r'.r] at hg;omega) with⟨lf,hx2,hdd⟩ | ⟨ms2',s2',l',hx2,r2',hem2,hll,hnn,heq⟩
   ·refine .inl ⟨lf,by rw[Sx.bnd_ok hx,Sx.bnd_ok hpa,if_pos rfl];exact hx2,?_⟩
    have hdd:b2=true∨s3.d<s1'.d:=hdd
    rw[hd3,r.d,r'.d] at hdd
    exact hdd.imp (fun x=>by rw[x,Bool.or_true]) id
   ·have hem2:Ems s1'.ns.length ms2' l' cs:=hem2
    have r3:Re s3 ms2 b2 q s1' ms2' s2':=⟨r2'.r,r2'.d,r2'.ns,r2'.eq⟩
    refine .inr ⟨ms'++ms2',s2',k'::l',by rw[Sx.bnd_ok hx,Sx.bnd_ok hpa,if_pos rfl];refine Eq.trans hx2 ?_;rw[List.append_assoc];rfl,Re.trans (s1:=s3) r' hns r3,⟨hem'.right _,Ems.left (by rw[←hlen'];exact hem2)⟩,by simp[hll],fun h=>(by cases h),fun x y=>?_⟩
    rw[Bool.or_eq_false_iff] at x
    obtain⟨z1,z2⟩:=Out.kk r' r.kk hk x.1 y
    rw[z1,heq x.2 (by show s1'.ns.length=_;rw[hlen];exact z2)]
theorem parted_ok {s s1:Sx.St} {b:Bool} (e:Sx.parted s=.ok (b,s1)):s1.ns=s.ns∧s1.d=s.d:=by
 unfold Sx.parted at e
 split at e <;> (cases e;exact⟨rfl,rfl⟩)
section
variable {a:M Nat} (ha:Sx.UnA a) (hr:RdS a)
include ha hr
theorem listF_bk {N:Nat} (m:Nat) {ks ks':List Nat} {s s1:Sx.St} (h:Gs s) (e:Sx.listF a N m ks s=.ok (ks',s1)):∃ l ms b cs,ks'=ks++l∧Lk s s1 l Fc listR lnI ms b cs∧bgs cs∧(Sx.atAndOr s=true→Beg (lnI cs)):=by
 induction m generalizing ks s with
 | zero=>cases e
 | succ m ih=>
  rw[listF_at] at e
  by_cases hao:Sx.atAndOr s=true
  ·rw[if_pos hao] at e
   obtain⟨k,s2,e2,e⟩:=Sx.bnd_inv e
   obtain⟨ms,b,c,v,r⟩:=andOr_bk ha hr h e2
   have w2:=Sx.andOr_un ha N h.good e2
   have g2:=h.of w2
   obtain⟨p,s3,e3,e⟩:=Sx.bnd_inv e
   have w3:=(Sx.parted_un g2.good e3).1
   obtain⟨x1,x2⟩:=parted_ok e3
   cases p with
   | true=>
    rw[if_pos rfl] at e
    obtain⟨l,ms2,b2,cs,hl,r2,hb,_⟩:=ih (g2.of w3) e
    have hbg:Beg (lnI (c::cs)):=by rw[lnI_cons];exact r.be.app _
    exact⟨k::l,_,_,c::cs,by rw[hl,List.append_assoc];rfl,Lk.cons r x1 x2 r2 hb,.inr hbg,fun _=>hbg⟩
   | false=>
    rw[if_neg (by decide)] at e
    cases e
    have hbg:Beg (lnI [c]):=by rw[lnI_cons];exact r.be.app _
    exact⟨[k],_,_,[c],rfl,Lk.cons r x1 x2 (Lk.nil _) (.inl rfl),.inr hbg,fun _=>hbg⟩
  ·rw[if_neg hao] at e
   cases e
   exact⟨[],[],false,[],by simp,Lk.nil s1,.inl rfl,fun h=>absurd h hao⟩
theorem anyL_bk (N:Nat):AS (Sx.anyL a N):=by
 intro s k s1 h e
 have hw:=Sx.anyL_un ha N s k s1 h.good e
 unfold Sx.anyL at e
 obtain⟨_,s2,e2,e⟩:=Sx.bnd_inv e
 obtain⟨rfl,w2⟩:=Sx.lines_un h.good e2
 obtain⟨ks,s3,e3,e⟩:=Sx.bnd_inv e
 obtain⟨rfl,rfl⟩:=add_ok e
 obtain⟨l,ms,b,cs,hl,r,hb,hbe⟩:=listF_bk ha hr N (h.of w2) e3
 rw[List.nil_append] at hl
 subst hl
 have hns:s3.ns=s.ns++ms:=r.ns
 have hemn:∀ (bb lf:Nat) (M:List Sx.Node) (l':List Nat),Ems bb M l' cs→Em bb (M++[{ kind:=5,kids:=l',left:=lf }]) (bb+M.length) (lnI cs):=fun bb lf M l' hE=>
  Em.node (n:={ kind:=5,kids:=l',left:=lf }) (v:=0) hE (fun h=>by cases h) rfl ⟨by simp,by simp⟩
 refine⟨ms++[{ kind:=5,kids:=ks,left:=(Sx.hd (Sx.dl s)).left }],b,lnI cs,by simp only[hns,List.append_assoc],r.d,by rw[hns];simp only[List.length_append];rfl,by simp,?_,?_,fun x=>(r.el x).app _,r.gd,⟨hbe,hb.imp (fun x=>by rw[x];rfl) id,lnI_last cs⟩,fun n q s' hat hq hn=>?_⟩
 ·rw[hns,List.length_append];exact hemn _ _ _ _ r.em
 ·rw[hns,List.length_append];exact Kd.node (ms:=ms) _
 ·have hun:lsR n s'=Sx.bnd (listR n (n+1) []) (fun ks=>Sx.add { kind:=5,kids:=ks,left:=(Sx.hd s').left }) s':=by
   show Sx.anyL (Sx.anyF n) (n+1) s'=_
   unfold Sx.anyL
   rw[Sx.bnd_ok (a:=()) (s':=s') (by unfold Sx.lines;rw[hb.dl hat hq])]
   rfl
  rw[hun]
  rcases r.back n (n+1) [] q s' hat hq hn (by omega) with⟨lf,hx,hdd⟩ | ⟨ms',s1',l',hx,r',hem',hll,hnn,heq⟩
  ·exact .inl ⟨lf,by rw[Sx.bnd_error hx],hdd⟩
  ·rw[List.nil_append] at hx
   have hns':s1'.ns=s'.ns++ms':=r'.ns
   refine .inr ⟨ms'++[{ kind:=5,kids:=l',left:=(Sx.hd s').left }],{ s1' with ns:=s1'.ns++[{ kind:=5,kids:=l',left:=(Sx.hd s').left }] },s1'.ns.length,by rw[Sx.bnd_ok hx];rfl,⟨r'.r,r'.d,by simp only[hns',List.append_assoc],fun x y=>?_⟩,?_,by simp,?_,?_⟩
   ·rw[List.map_append,List.map_append,r'.eq x y,heq x y]
    rfl
   ·rw[hns',List.length_append,List.length_append];rfl
   ·rw[hns',List.length_append];exact hemn _ _ _ _ hem'
   ·rw[hns',List.length_append];exact Kd.node (ms:=ms') _
end
end Vx
end Go.Proofs.YtkkchkkpnlnbgaaGreatDoor
