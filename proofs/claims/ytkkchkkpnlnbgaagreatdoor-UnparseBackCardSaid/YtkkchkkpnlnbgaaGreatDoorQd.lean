/- Scripts read again: ifs. No premises. -/
import Derived.Test.YtkkchkkpnlnbgaaGreatDoorQc
namespace Go.Proofs.YtkkchkkpnlnbgaaGreatDoor
namespace Vx
open Sx (Arw M Er good Wk)
open Lx (Tok)
open Up (S nodeF)
theorem cmd_up {n:Nat} {c:List It} {q:List Tok} {s:Sx.St} (hb:BegC c) (hat:At c q s) (hq:Fo3 (q.headD Sx.E)):(∀ e,cmdR n s=.error e→aoR n s=.error e)∧∀ k s1,cmdR n s=.ok (k,s1)→s1.r=q→aoR n s=.ok (k,s1):=by
 have hp:Sx.passed [33] s=.ok (false,s):=by
  unfold Sx.passed
  rw[if_neg (by rw[hb.not hat];decide)]
 have hun:aoR n s=Sx.bnd (pipeR n) (fun i=>Sx.aoF (Sx.anyF n) (n+1) (Sx.hd s).left (n+1) i) s:=rfl
 have hpi:pipeR n s=Sx.bnd (cmdR n) (fun k=>Sx.bnd (Sx.pipeF (Sx.anyF n) (n+1) (n+1) [k]) fun ks=>
   if false=false∧ks.length=1 then Sx.ret (ks.headD 0) else Sx.add { kind:=2,flag:=false,kids:=ks,left:=(Sx.hd s).left }) s:=Sx.bnd_ok hp
 refine⟨fun e he=>?_,fun k s1 hk hr=>?_⟩
 ·rw[hun,Sx.bnd_error (e:=e)]
  rw[hpi,Sx.bnd_error he]
 ·rw[←hd_q hr] at hq
  have h1:Sx.pipeF (Sx.anyF n) (n+1) (n+1) [k] s1=.ok ([k],s1):=by
   rw[Sx.pipeF,Sx.bnd_ok (passed_not hq.two.one.2),if_neg (by decide)]
   rfl
  rw[hun,Sx.bnd_ok (a:=k) (s':=s1),aoF_at,if_neg (by unfold Sx.isT;rw[hq.2];decide)]
  rw[hpi,Sx.bnd_ok hk,Sx.bnd_ok h1,if_pos ⟨rfl,rfl⟩]
  rfl
theorem lst_one {n:Nat} {c:List It} {q:List Tok} {s:Sx.St} (hb:BegC c) (hat:At (.nl::(c++[.nl])) q s) (hq:Fc (q.headD Sx.E)) (hn:s.r.length≤n):∃ q1 m,n=m+1∧At c q1 (Sx.go s)∧(Sx.go s).r.length≤m∧Fo1 (q1.headD Sx.E) ∧
  (∀ e,cmdR m (Sx.go s)=.error e→Sx.lst (Sx.anyF n) s=.error e) ∧
  ∀ k s1,cmdR m (Sx.go s)=.ok (k,s1)→s1.r=q1→∃ s3,Sx.lst (Sx.anyF n) s=.ok (s1.ns.length,s3)∧s3.r=q∧s3.d=s1.d∧∃ lf,s3.ns=s1.ns++[{ kind:=5,kids:=[k],left:=lf }]:=by
 obtain⟨h1,h2,h3,h4⟩:=hat.nl
 have hl:=go_len h3
 obtain⟨m,rfl⟩:∃ m,n=m+1:=⟨n-1,by omega⟩
 obtain⟨q1,y1,y2⟩:=At.app (c:=c) (d:=[.nl]) h4
 have hq1:Fo3 (q1.headD Sx.E):=by
  obtain⟨u1,u2,_⟩:=(y2 ⟨q1,0,[]⟩ rfl).nl
  exact⟨u1,u2⟩
 obtain⟨b1,b2,b3⟩:=hb.beg.at y1
 have hdg:Sx.dl (Sx.go s)=Sx.go s:=dl_of b2
 have hd:Sx.dl s=Sx.go s:=by
  have h5:=hdg
  unfold Sx.dl Sx.go at *
  cases e5:s.r with
  | nil=>exact absurd e5 h3
  | cons t r=>
   rw[Sx.hd_cons e5] at h1
   rw[e5] at h5
   rw[show Sx.dropL (t::r)=Sx.dropL r by rw[Sx.dropL,if_pos h1]]
   simp only[List.tail_cons,Sx.St.mk.injEq,and_true] at h5⊢
   exact h5
 have hun:Sx.lst (Sx.anyF (m+1)) s=Sx.bnd (listR m (m+1) []) (fun ks=>Sx.add { kind:=5,kids:=ks,left:=(Sx.hd (Sx.go s)).left }) (Sx.go s):=by
  have hx:Sx.lst (Sx.anyF (m+1)) s=Sx.anyL (Sx.anyF m) (m+1) (Sx.go s):=by
   unfold Sx.lst
   rw[Sx.bnd_ok (a:=()) (s':=Sx.go s) (by unfold Sx.lines;rw[hd])]
   exact if_pos b1
  rw[hx]
  unfold Sx.anyL
  rw[Sx.bnd_ok (a:=()) (s':=Sx.go s) (by unfold Sx.lines;rw[hdg])]
  rfl
 have hli:listR m (m+1) [] (Sx.go s)=Sx.bnd (aoR m) (fun k=>Sx.bnd Sx.parted fun b=>if b=true then listR m m ([]++[k]) else Sx.ret ([]++[k])) (Sx.go s):=by
  unfold listR
  rw[listF_at,if_pos b1]
  rfl
 obtain⟨c1,c2⟩:=cmd_up (n:=m) hb y1 hq1
 refine⟨q1,m,rfl,y1,by omega,hq1.two.one.1,fun e he=>?_,fun k s1 hk hr=>?_⟩
 ·rw[hun,Sx.bnd_error (e:=e)]
  rw[hli,Sx.bnd_error (c1 e he)]
 ·obtain⟨u1,u2,u3,u4⟩:=(y2 s1 hr).nl
  have hr2:(Sx.go s1).r=q:=At.nil u4
  rw[←hd_q hr2] at hq
  have hpa:Sx.parted s1=.ok (true,Sx.go s1):=by
   unfold Sx.parted
   rw[if_pos (.inr u1),dl_of hq.1]
  have hq1l:=y1.len
  have hpos:0<m:=by
   have:s1.r≠[]:=u3
   have h9:0<q1.length:=by rw[←hr];exact List.length_pos_iff.2 u3
   obtain⟨p,hp,hpm⟩:=y1
   have h10:p≠[]:=by
    rintro rfl
    obtain⟨i,l,rfl,hi⟩:=hb
    cases i with
    | sp=>cases hi
    | nl=>cases hi
    | ar x=>cases hpm
    | tk k t=>cases hpm
   have h11:=List.length_pos_iff.2 h10
   rw[hp,List.length_append] at hl
   omega
  obtain⟨m,rfl⟩:∃ x,m=x+1:=⟨m-1,by omega⟩
  have hlast:listR (m+1) (m+1) ([]++[k]) (Sx.go s1)=.ok ([k],Sx.go s1):=by
   unfold listR
   rw[listF_at,if_neg (by rw[aoT_hd,hq.2];decide)]
   rfl
  refine⟨{ Sx.go s1 with ns:=s1.ns++[{ kind:=5,kids:=[k],left:=(Sx.hd (Sx.go s)).left }] },?_,hr2,rfl,_,rfl⟩
  rw[hun,Sx.bnd_ok (a:=[k]) (s':=Sx.go s1)]
  ·rfl
  ·rw[hli,Sx.bnd_ok (c2 k s1 hk hr),Sx.bnd_ok hpa,if_pos rfl]
   exact hlast
end Vx
end Go.Proofs.YtkkchkkpnlnbgaaGreatDoor
namespace Go.Proofs.YtkkchkkpnlnbgaaGreatDoor
namespace Vx
open Sx (Arw M Er good Wk)
open Lx (Tok)
open Up (S nodeF)
def ifC (n:Nat) (G:Nat→Nat→M Sx.Node):M Sx.Node:=fun s=>Sx.bnd (Sx.lst (Sx.anyF n)) (fun i=>Sx.bnd (Sx.need Sx.kTHEN) fun _=>Sx.bnd (Sx.lst (Sx.anyF n)) fun j=>G i j) (Sx.go s)
abbrev lstR (n:Nat):M Nat:=Sx.lst (Sx.anyF n)
theorem if_pre {s s2 s4:Sx.St} {i j:Nat} {ms0 ms1:List Sx.Node} {b0 b1:Bool} {c0 c1:List It} (r0:Bk (Sx.go s) s2 i Fc (LsB true) lstR (fun c=>.nl::c) ms0 b0 c0 5) (r1:Bk (Sx.go s2) s4 j Fc (LsB true) lstR (fun c=>.nl::c) ms1 b1 c1 5) {n:Nat} {q:List Tok} {s':Sx.St} {D:List It} (hat:At (.tk 1 Sx.kIF::.nl::(c0++.tk 1 Sx.kTHEN::.nl::(c1++D))) q s') (hD:∃ t D',D=.tk 1 t::D'∧aoT ⟨1,t,[],0⟩=false) (hn:s'.r.length≤n) :
  (∃ lf,(∀ G,ifC n G s'=.error (21,lf))∧((b0 || b1)=true∨s.d<s'.d)) ∨
  ∃ ms' s2' i' j' q2,(∀ G,ifC n G s'=G i' j' s2')∧Re s (ms0++ms1) (b0 || b1) q2 s' ms' s2'∧Ems s'.ns.length ms' [i',j'] [c0,c1]∧((b0 || b1)=false→s'.ns.length=s.ns.length→i'=i∧j'=j)∧At D q s2'∧s2'.r.length≤n:=by
 obtain⟨_,_,_,z4,z5⟩:=hat.tk
 have z6:=go_len z4
 obtain⟨q1,y1,y2⟩:=At.app (c:=.nl::c0) (d:=.tk 1 Sx.kTHEN::.nl::(c1++D)) z5
 have hl1:=y1.len
 have hns:s2.ns=s.ns++ms0:=r0.ns
 have hd2:s2.d=s.d:=r0.d
 have hlen:s2.ns.length=s.ns.length+ms0.length:=by rw[hns,List.length_append]
 rcases r0.back n q1 (Sx.go s') y1 (Fc.tk y2 (by decide) (by decide)) (by omega) with⟨lf,hx,hdd⟩ | ⟨ms',s1',i',hx,r',hk,hne,hem,hkd⟩
 ·exact .inl ⟨lf,fun G=>by unfold ifC;exact Sx.bnd_error hx,hdd.imp (fun x=>by rw[x];rfl) id⟩
 have hx:Sx.lst (Sx.anyF n) (Sx.go s')=.ok (i',s1'):=hx
 obtain⟨n1,n2,n3⟩:=need_at (y2 s1' r'.r)
 rw[r'.r] at n3
 obtain⟨q2,x1,x2⟩:=At.app (c:=.nl::c1) (d:=D) n2
 have hl2:=x1.len
 obtain⟨t,D',hD1,hD2⟩:=hD
 have hfc:Fc (q2.headD Sx.E):=by
  subst hD1
  exact Fc.tk x2 (by decide) hD2
 have hns':s1'.ns=s'.ns++ms':=r'.ns
 have hlen':s1'.ns.length=s'.ns.length+ms'.length:=by rw[hns',List.length_append]
 rcases r1.back n q2 (Sx.go s1') x1 hfc (by omega) with⟨lf,hx2,hdd⟩ | ⟨ms2',s2',j',hx2,r2',hk2,hne2,hem2,hkd2⟩
 ·refine .inl ⟨lf,fun G=>by unfold ifC;rw[Sx.bnd_ok hx,Sx.bnd_ok n1];exact Sx.bnd_error hx2,?_⟩
  have hdd:b1=true∨s2.d<s1'.d:=hdd
  rw[hd2,r'.d] at hdd
  exact hdd.imp (fun x=>by rw[x,Bool.or_true]) id
 ·have rr:Re s ms0 b0 q1 s' ms' s1':=⟨r'.r,r'.d,r'.ns,r'.eq⟩
  have r3:Re s2 ms1 b1 q2 s1' ms2' s2':=⟨r2'.r,r2'.d,r2'.ns,r2'.eq⟩
  have hem2:Em s1'.ns.length ms2' j' c1:=hem2
  refine .inr ⟨ms'++ms2',s2',i',j',q2,fun G=>by unfold ifC;rw[Sx.bnd_ok hx,Sx.bnd_ok n1];exact Sx.bnd_ok hx2,Re.trans (s1:=s2) rr hns r3,⟨Em.right hem _,Em.left (by rw[←hlen'];exact hem2),trivial⟩,fun x y=>?_,x2 s2' r2'.r,by rw[r2'.r];omega⟩
  rw[Bool.or_eq_false_iff] at x
  obtain⟨w1,w2⟩:=Out.kk rr r0.kk hk x.1 y
  obtain⟨w3,_⟩:=Out.kk r3 (k:=j) (k':=j') r1.kk hk2 x.2 (by rw[hlen];exact w2)
  exact⟨w1,w3⟩
def choR (n:Nat):M Sx.Node:=Sx.choice (Sx.anyF n) (n+1)
theorem if_cmd {s s1:Sx.St} {nd:Sx.Node} {ms:List Sx.Node} {b:Bool} {c:List It} (r:Nk s s1 nd choR ms b c) (hc:∃ l,c=.tk 1 Sx.kIF::l) {m:Nat} {q:List Tok} {s':Sx.St} (hat:At c q s') (hq:Fo1 (q.headD Sx.E)) (hn:s'.r.length≤m) :
  (∃ lf,cmdR m s'=.error (21,lf))∨∃ ms' s1',cmdR m s'=.ok (s'.ns.length+ms'.length,s1')∧s1'.r=q∧s1'.d=s'.d∧∃ nd',s1'.ns=s'.ns++(ms'++[nd'])∧Em s'.ns.length (ms'++[nd']) (s'.ns.length+ms'.length) c:=by
 obtain⟨l,rfl⟩:=hc
 obtain⟨z1,z2,_,z4,_⟩:=hat.tk
 have hcm:cmdR m s'=Sx.compound (Sx.anyF m) (m+1) s':=by
  unfold cmdR Sx.command
  rw[if_neg (by unfold Sx.atFunc;rw[z2,show Sx.isRes Sx.kIF=true from rfl];simp),if_neg (by unfold Sx.atSimple Sx.atRedir;rw[z1,z2];decide)]
 rw[hcm]
 by_cases hd':s'.d=40
 ·exact .inl ⟨(Sx.hd s').left,by unfold Sx.compound;rw[z2,if_pos (by decide),if_pos hd']⟩
 have hun:Sx.compound (Sx.anyF m) (m+1) s'=Sx.bnd (choR m) (fun nd s2=>Sx.bnd (Sx.redF (m+1) []) (fun rs=>Sx.add { nd with redirs:=rs,left:=(Sx.hd s').left }) { s2 with d:=s2.d-1 }) { s' with d:=s'.d+1 }:=by
  unfold Sx.compound
  rw[z2,if_pos (by decide),if_neg hd']
  rfl
 rw[hun]
 rcases r.back m q { s' with d:=s'.d+1 } hat hn with⟨lf,hx,hdd⟩ | ⟨ms',s1',nd',hx,r',hnc,hkd,hst⟩
 ·exact .inl ⟨lf,Sx.bnd_error hx⟩
 ·have hr:s1'.r=q:=r'.r
  have hns':s1'.ns=s'.ns++ms':=r'.ns
  have hd1:s1'.d=s'.d+1:=r'.d
  have hred:Sx.redF (m+1) [] { s1' with d:=s1'.d-1 }=.ok ([],{ s1' with d:=s1'.d-1 }):=by
   rw[redF_at,if_neg]
   have:Sx.hd { s1' with d:=s1'.d-1 }=q.headD Sx.E:=hd_q (by exact hr)
   rw[←this] at hq
   rw[hq.not.2.1]
   decide
  have:=hnc.em [] (Sx.hd s').left
  rw[show ∀ c:List It,c++behindI []=c from fun c=>by simp[behindI]] at this
  refine .inr ⟨ms',{ s1' with d:=s1'.d-1,ns:=s1'.ns++[{ nd' with redirs:=[],left:=(Sx.hd s').left }] },?_,hr,by simp only;omega,{ nd' with redirs:=[],left:=(Sx.hd s').left },by simp only[hns',List.append_assoc],this⟩
  rw[Sx.bnd_ok hx,Sx.bnd_ok hred]
  unfold Sx.add
  simp only[hns',List.length_append]
end Vx
end Go.Proofs.YtkkchkkpnlnbgaaGreatDoor
namespace Go.Proofs.YtkkchkkpnlnbgaaGreatDoor
namespace Vx
open Sx (Arw M Er good Wk)
open Lx (Tok)
open Up (S nodeF)
def ifI (c0 c1 D:List It):List It:=.tk 1 Sx.kIF::.nl::(c0++.tk 1 Sx.kTHEN::.nl::(c1++D))
def ifG (n lf i j:Nat):M Sx.Node:=fun s2=>
 if Sx.isT Sx.kELIF s2=true then Sx.bnd (Sx.branchF (Sx.anyF n) n) (fun nd=>Sx.bnd (Sx.add nd) fun k=>Sx.ret { kind:=6,kids:=[i,j,k],left:=lf }) s2
 else Sx.bnd (Sx.passed Sx.kELSE) (fun b=>if b=true then Sx.bnd (Sx.lst (Sx.anyF n)) fun k=>Sx.ret { kind:=6,kids:=[i,j,k],left:=lf } else Sx.ret { kind:=6,kids:=[i,j],left:=lf }) s2
theorem choR_at (n:Nat) (s:Sx.St):choR n s=Sx.bnd (ifC n (ifG n (Sx.hd s).left)) (fun nd=>Sx.bnd (Sx.need Sx.kFI) fun _=>Sx.ret nd) s:=rfl
theorem branchF_at (a:M Nat) (m:Nat) (s:Sx.St):Sx.branchF a (m+1) s=Sx.bnd (Sx.lst a) (fun i=>Sx.bnd (Sx.need Sx.kTHEN) fun _=>Sx.bnd (Sx.lst a) fun j=>fun s2=>
   if Sx.isT Sx.kELIF s2=true then Sx.bnd (Sx.branchF a m) (fun nd=>Sx.bnd (Sx.add nd) fun k=>Sx.ret { kind:=6,kids:=[i,j,k],left:=(Sx.hd s).left }) s2
   else Sx.bnd (Sx.passed Sx.kELSE) (fun b=>if b=true then Sx.bnd (Sx.lst a) fun k=>Sx.ret { kind:=6,kids:=[i,j,k],left:=(Sx.hd s).left } else Sx.ret { kind:=6,kids:=[i,j],left:=(Sx.hd s).left }) s2) (Sx.go s):=rfl
theorem isT_not {t u:L} {s:Sx.St} (h:(Sx.hd s).text=u) (hne:u≠t):Sx.isT t s=false:=by
 unfold Sx.isT
 rw[h]
 exact beq_eq_false_iff_ne.2 hne
theorem iv_fi:iv (.tk 1 Sx.kFI):=iv_key (by decide) (by decide) (by decide)
theorem iv_else:iv (.tk 1 Sx.kELSE):=iv_key (by decide) (by decide) (by decide)
section
variable {a:M Nat} (ha:Sx.UnA a) (hb:AS a)
include ha hb
theorem branch_bk (m:Nat) {nd:Sx.Node} {s s1:Sx.St} (h:Gs s) (ht:(Sx.hd s).text≠[]) (e:Sx.branchF a m s=.ok (nd,s1)):∃ ms b c,Nk s s1 nd choR ms b c∧(∃ l,c=.tk 1 Sx.kIF::l)∧nd.redirs=[]∧nd.kind=6:=by
 induction m generalizing s s1 nd with
 | zero=>cases e
 | succ m ih=>
  have hsh:=(Sx.branchF_un ha (m+1) h.good ht e).2
  rw[branchF_at] at e
  have w1:=Wk.go h.good (.inl ht)
  have g1:=h.of w1
  obtain⟨i,s2,e2,e⟩:=Sx.bnd_inv e
  obtain⟨ms0,b0,c0,r0⟩:=lst_bk hb g1 e2
  have g2:=g1.of (Sx.lst_un ha g1.good e2)
  obtain⟨_,s3,e3,e⟩:=Sx.bnd_inv e
  obtain⟨rfl,_,w3⟩:=Sx.need_un (by decide) g2.good e3
  have g3:=g2.of w3
  obtain⟨j,s4,e4,e⟩:=Sx.bnd_inv e
  obtain⟨ms1,b1,c1,r1⟩:=lst_bk hb g3 e4
  have g4:=g3.of (Sx.lst_un ha g3.good e4)
  have hn2:s2.ns=s.ns++ms0:=r0.ns
  have hl2:s2.ns.length=s.ns.length+ms0.length:=by rw[hn2,List.length_append]
  have hn4:s4.ns=s.ns++(ms0++ms1):=by rw[r1.ns];show s2.ns++ms1=_;rw[hn2,List.append_assoc]
  have hd4:s4.d=s.d:=r1.d.trans r0.d
  have hl4:s4.ns.length=s.ns.length+(ms0++ms1).length:=by rw[hn4,List.length_append]
  have hems:Ems s.ns.length (ms0++ms1) [i,j] [c0,c1]:=⟨Em.right r0.em _,Em.left (by rw[←hl2];exact r1.em),trivial⟩
  have hel:(b0 || b1)=true→El s4.ns:=fun hor=>by
   rcases Bool.or_eq_true_iff.1 hor with hor | hor
   ·rw[r1.ns];exact(r0.el hor).app _
   ·exact r1.el hor
  have hgd:∀ {D:List It},Gd D→Gd (ifI c0 c1 D):=fun hD=>Gd.part (iv_key (by decide) (by decide) (by decide)) r0.gd r0.be.2.2 (Gd.part (iv_key (by decide) (by decide) (by decide)) r1.gd r1.be.2.2 hD)
  by_cases hei:Sx.isT Sx.kELIF s4=true
  ·
   rw[if_pos hei] at e
   obtain⟨nd2,s5,e5,e⟩:=Sx.bnd_inv e
   have ht4:=Sx.isT_text hei (by decide)
   obtain⟨ms2,b2,c2,r2,hc2,hrd,hk6⟩:=ih g4 ht4 e5
   obtain⟨k,s6,e6,e⟩:=Sx.bnd_inv e
   obtain⟨rfl,rfl⟩:=add_ok e6
   cases e
   have hnd2:({ nd2 with redirs:=[],left:=nd2.left }:Sx.Node)=nd2:=by cases nd2;cases hrd;rfl
   have hem2:Em s4.ns.length (ms2++[nd2]) (s4.ns.length+ms2.length) c2:=by
    have:=r2.nc.em [] nd2.left
    rw[hnd2,show ∀ c:List It,c++behindI []=c from fun c=>by simp[behindI]] at this
    exact this
   have hn5:s5.ns=s.ns++(ms0++ms1++ms2):=by rw[r2.ns,hn4];simp only[List.append_assoc]
   have hl5:s5.ns.length=s4.ns.length+ms2.length:=by rw[r2.ns,List.length_append]
   rw[hl4] at hem2
   have hkd2:Kd (s.ns.length+(ms0++ms1).length) (ms2++[nd2]) s5.ns.length 6:=by
    have:=Kd.node (b:=s.ns.length+(ms0++ms1).length) (ms:=ms2) nd2
    rw[hk6,←hl4,←hl5,hl4] at this
    exact this
   rw[←hl4,←hl5,hl4] at hem2
   refine⟨ms0++ms1++(ms2++[nd2]),true,ifI c0 c1 (.tk 1 Sx.kELSE::.nl::(c2++.nl::[.tk 1 Sx.kFI])),⟨by simp only[hn5,List.append_assoc],r2.d.trans hd4,⟨[c0,c1,c2],6,⟨Em.right hems.1 _,Em.right hems.2.1 _,Em.left hem2,trivial⟩,fun _ _=>Kd.left hkd2,by simp[compI,ifI],hsh,by simp⟩,fun _ rs lf=>?_,hgd (Gd.blank (c:=[.tk 1 Sx.kELSE]) (Gd.one iv_else) (.inr rfl) (Gd.cons_fr (.inr rfl) (r2.gd.blank (.inr rfl) (Gd.cons_fr (.inr rfl) (Gd.one iv_fi))))),fun n q s' hat hn=>?_⟩,⟨_,rfl⟩,rfl,rfl⟩
   ·refine⟨(s5.ns++[nd2]).length,_,by rw[List.getElem?_append_right (Nat.le_refl _),Nat.sub_self];rfl,rfl,rfl,?_⟩
    show (((s5.ns++[nd2])++[_])[s5.ns.length]?).map Sx.Node.kind=some 6
    rw[List.append_assoc,List.getElem?_append_right (Nat.le_refl _),Nat.sub_self]
    show some nd2.kind=some 6
    rw[hk6]
   ·rcases if_pre r0 r1 hat ⟨_,_,rfl,by decide⟩ hn with⟨lf,hx,_⟩ | ⟨ms',s2',i',j',q2,hx,r',hem',_,hD,hl'⟩
    ·exact .inl ⟨lf,by show choR n s'=_;rw[choR_at,Sx.bnd_error (hx _)],.inl rfl⟩
    ·obtain⟨p1,p2,p3⟩:=passed_at hD
     obtain⟨_,t2,_⟩:=hD.tk
     have hG:ifC n (ifG n (Sx.hd s').left) s'=Sx.bnd (Sx.lst (Sx.anyF n)) (fun k=>Sx.ret { kind:=6,kids:=[i',j',k],left:=(Sx.hd s').left }) (Sx.go s2'):=by
      rw[hx]
      unfold ifG
      rw[if_neg (by rw[isT_not t2 (by decide)];decide),Sx.bnd_ok p1,if_pos rfl]
     have hat2:At ((.nl::(c2++[.nl]))++[.tk 1 Sx.kFI]) q (Sx.go s2'):=by
      have:=p2
      rw[show (It.nl::(c2++.nl::[.tk 1 Sx.kFI]))=(.nl::(c2++[.nl]))++[.tk 1 Sx.kFI] by simp] at this
      exact this
     obtain⟨q3,y1,y2⟩:=At.app hat2
     have hbc:BegC c2:=by obtain⟨l,rfl⟩:=hc2;exact⟨_,_,rfl,rfl⟩
     obtain⟨q4,m',rfl,f1,f2,f3,f4,f5⟩:=lst_one hbc y1 (Fc.tk y2 (by decide) (by decide)) (show (Sx.go s2').r.length≤n by omega)
     rcases if_cmd r2 hc2 f1 f3 f2 with⟨lf,hcx⟩ | ⟨ms2',s3',hcx,u1,u2,nd',u3,u4⟩
     ·exact .inl ⟨lf,by show choR _ s'=_;rw[choR_at,Sx.bnd_error];rw[hG,Sx.bnd_error (f4 _ hcx)],.inl rfl⟩
     ·obtain⟨s4',g5,g6,g7,lf,g8⟩:=f5 _ _ hcx u1
      obtain⟨n1,n2,_⟩:=need_at (y2 s4' g6)
      have hl3:s3'.ns.length=(Sx.go (Sx.go s2')).ns.length+ms2'.length+1:=by rw[u3];simp only[List.length_append,List.length_cons,List.length_nil];omega
      have hs2n:(Sx.go (Sx.go s2')).ns=s'.ns++ms':=r'.ns
      have hs2l:(Sx.go (Sx.go s2')).ns.length=s'.ns.length+ms'.length:=by rw[hs2n,List.length_append]
      rw[hs2l] at u4 hl3
      rw[hs2n] at u3
      have hseq:=Em.node (b:=s'.ns.length+ms'.length) (ms:=ms2'++[nd']) (n:={ kind:=5,kids:=[s'.ns.length+ms'.length+ms2'.length],left:=lf }) (cs:=[c2]) (v:=0) ⟨u4,trivial⟩ (fun h=>by cases h) rfl ⟨by simp,by simp⟩
      have hsk:Kd (s'.ns.length+ms'.length) ((ms2'++[nd'])++[{ kind:=5,kids:=[s'.ns.length+ms'.length+ms2'.length],left:=lf }]) (s'.ns.length+ms'.length+(ms2'++[nd']).length) 5:=Kd.node _
      have hpl:s'.ns.length+ms'.length+(ms2'++[nd']).length=s3'.ns.length:=by rw[hl3];simp only[List.length_append,List.length_cons,List.length_nil];omega
      rw[hpl] at hseq hsk
      refine .inr ⟨ms'++((ms2'++[nd'])++[{ kind:=5,kids:=[s'.ns.length+ms'.length+ms2'.length],left:=lf }]),Sx.go s4',{ kind:=6,kids:=[i',j',s3'.ns.length],left:=(Sx.hd s').left },?_,⟨At.nil n2,?_,?_,fun h=>by cases h⟩,⟨[c0,c1,c2++[.nl]],5,⟨Em.right hem'.1 _,Em.right hem'.2.1 _,Em.left ?_,trivial⟩,fun _ _=>Kd.left hsk,by simp[compI,ifI],fun _ _=>rfl,by simp⟩,rfl,fun h=>by cases h⟩
      ·show choR _ s'=_
       rw[choR_at,Sx.bnd_ok (a:={ kind:=6,kids:=[i',j',s3'.ns.length],left:=(Sx.hd s').left }) (s':=s4'),Sx.bnd_ok n1]
       ·rfl
       ·rw[hG,Sx.bnd_ok g5];rfl
      ·exact g7.trans (u2.trans r'.d)
      ·show s4'.ns=_
       rw[g8,u3,hs2l]
       simp only[List.append_assoc]
      ·have:bodyI { kind:=5,kids:=[s'.ns.length+ms'.length+ms2'.length],left:=lf } [c2] (0==6)=c2++[.nl]:=by simp[bodyI]
       rw[←this]
       exact hseq
  ·rw[if_neg hei] at e
   obtain⟨p,s5,e5,ee⟩:=Sx.bnd_inv e
   clear e
   rcases Sx.passed_un (by decide) g4.good e5 with⟨rfl,rfl,_,w5⟩ | ⟨rfl,rfl,_,_⟩
   ·
    rw[if_pos rfl] at ee
    have g5:=g4.of w5
    obtain⟨k,s6,e6,ee⟩:=Sx.bnd_inv ee
    obtain⟨ms2,b2,c2,r2⟩:=lst_bk hb g5 e6
    cases ee
    have hem2:Em s4.ns.length ms2 k c2:=r2.em
    have hkd2:Kd s4.ns.length ms2 k 5:=r2.kd
    rw[hl4] at hem2 hkd2
    have hn6:s1.ns=s.ns++(ms0++ms1++ms2):=by rw[r2.ns];show s4.ns++ms2=_;rw[hn4];simp only[List.append_assoc]
    have hd6:s1.d=s.d:=r2.d.trans hd4
    have hel2:(b0 || b1 || b2)=true→El s1.ns:=fun hor=>by
     rcases Bool.or_eq_true_iff.1 hor with hor | hor
     ·rw[r2.ns];exact(hel hor).app _
     ·exact r2.el hor
    refine⟨ms0++ms1++ms2,b0 || b1 || b2,ifI c0 c1 (.tk 1 Sx.kELSE::.nl::(c2++[.tk 1 Sx.kFI])),⟨hn6,hd6,⟨[c0,c1,c2],5,⟨Em.right hems.1 _,Em.right hems.2.1 _,Em.left hem2,trivial⟩,fun _ _=>Kd.left hkd2,by simp[compI,ifI],hsh,by simp⟩,fun x _ _=>(hel2 x).app _,hgd (Gd.part iv_else r2.gd r2.be.2.2 (Gd.one iv_fi)),fun n q s' hat hn=>?_⟩,⟨_,rfl⟩,rfl,rfl⟩
    rcases if_pre r0 r1 hat ⟨_,_,rfl,by decide⟩ hn with⟨lf,hx,hdd⟩ | ⟨ms',s2',i',j',q2,hx,r',hem',heq,hD,hl'⟩
    ·exact .inl ⟨lf,by show choR n s'=_;rw[choR_at,Sx.bnd_error (hx _)],hdd.imp (fun x=>by rw[x];rfl) id⟩
    ·obtain⟨p1,p2,p3⟩:=passed_at hD
     obtain⟨_,t2,_⟩:=hD.tk
     have hG:ifC n (ifG n (Sx.hd s').left) s'=Sx.bnd (Sx.lst (Sx.anyF n)) (fun k=>Sx.ret { kind:=6,kids:=[i',j',k],left:=(Sx.hd s').left }) (Sx.go s2'):=by
      rw[hx]
      unfold ifG
      rw[if_neg (by rw[isT_not t2 (by decide)];decide),Sx.bnd_ok p1,if_pos rfl]
     obtain⟨q3,y1,y2⟩:=At.app (c:=.nl::c2) (d:=[.tk 1 Sx.kFI]) p2
     have hs2l:s2'.ns.length=s'.ns.length+ms'.length:=by rw[r'.ns,List.length_append]
     rcases r2.back n q3 (Sx.go s2') y1 (Fc.tk y2 (by decide) (by decide)) (by omega) with⟨lf,hx2,hdd⟩ | ⟨ms2',s3',k',hx2,r2',hk,hne,hem3,hkd3⟩
     ·refine .inl ⟨lf,by show choR n s'=_;rw[choR_at,Sx.bnd_error];rw[hG,Sx.bnd_error hx2],?_⟩
      have hdd:b2=true∨s4.d<s2'.d:=hdd
      rw[hd4,r'.d] at hdd
      exact hdd.imp (fun x=>by rw[x,Bool.or_true]) id
     ·obtain⟨n1,n2,_⟩:=need_at (y2 s3' r2'.r)
      have r3:Re s4 ms2 b2 q3 s2' ms2' s3':=⟨r2'.r,r2'.d,r2'.ns,r2'.eq⟩
      have hem3:Em s2'.ns.length ms2' k' c2:=hem3
      have hkd3:Kd s2'.ns.length ms2' k' 5:=hkd3
      rw[hs2l] at hem3 hkd3
      have rr:=Re.trans r' hn4 r3
      refine .inr ⟨ms'++ms2',Sx.go s3',{ kind:=6,kids:=[i',j',k'],left:=(Sx.hd s').left },?_,⟨At.nil n2,rr.d,rr.ns,rr.eq⟩,⟨[c0,c1,c2],5,⟨Em.right hem'.1 _,Em.right hem'.2.1 _,Em.left hem3,trivial⟩,fun _ _=>Kd.left hkd3,by simp[compI,ifI],fun _ _=>rfl,by simp⟩,rfl,fun x y=>?_⟩
      ·show choR n s'=_
       rw[choR_at,Sx.bnd_ok (a:={ kind:=6,kids:=[i',j',k'],left:=(Sx.hd s').left }) (s':=s3'),Sx.bnd_ok n1]
       ·rfl
       ·rw[hG,Sx.bnd_ok hx2];rfl
      ·rw[Bool.or_eq_false_iff] at x
       obtain⟨rfl,rfl⟩:=heq x.1 y
       have h8:=congrArg List.length (r'.eq x.1 y)
       rw[List.length_map,List.length_map] at h8
       obtain⟨rfl,_⟩:=Out.kk r3 (k:=k) (k':=k') r2.kk hk x.2 (by rw[hs2l,hl4];omega)
       rfl
   ·
    rw[if_neg (by decide)] at ee
    cases ee
    refine⟨ms0++ms1,b0 || b1,ifI c0 c1 [.tk 1 Sx.kFI],⟨hn4,hd4,⟨[c0,c1],0,hems,fun _ h=>(by cases h),by simp[compI,ifI],hsh,by simp⟩,fun x _ _=>(hel x).app _,hgd (Gd.one iv_fi),fun n q s' hat hn=>?_⟩,⟨_,rfl⟩,rfl,rfl⟩
    rcases if_pre r0 r1 hat ⟨_,_,rfl,by decide⟩ hn with⟨lf,hx,hdd⟩ | ⟨ms',s2',i',j',q2,hx,r',hem',heq,hD,hl'⟩
    ·exact .inl ⟨lf,by show choR n s'=_;rw[choR_at,Sx.bnd_error (hx _)],hdd⟩
    ·obtain⟨n1,n2,_⟩:=need_at hD
     obtain⟨_,t2,_⟩:=hD.tk
     refine .inr ⟨ms',Sx.go s2',{ kind:=6,kids:=[i',j'],left:=(Sx.hd s').left },?_,⟨At.nil n2,r'.d,r'.ns,r'.eq⟩,⟨[c0,c1],0,hem',fun _ h=>(by cases h),by simp[compI,ifI],fun _ _=>rfl,by simp⟩,rfl,fun x y=>by obtain⟨rfl,rfl⟩:=heq x y;rfl⟩
     show choR n s'=_
     rw[choR_at,Sx.bnd_ok (a:={ kind:=6,kids:=[i',j'],left:=(Sx.hd s').left }) (s':=s2'),Sx.bnd_ok n1]
     ·rfl
     ·rw[hx]
      unfold ifG
      rw[if_neg (by rw[isT_not t2 (by decide)];decide),Sx.bnd_ok (passed_not (by rw[t2];decide)),if_neg (by decide)]
      rfl
end
end Vx
end Go.Proofs.YtkkchkkpnlnbgaaGreatDoor
namespace Go.Proofs.YtkkchkkpnlnbgaaGreatDoor
namespace Vx
open Sx (Arw M Er good Wk)
open Lx (Tok)
open Up (S nodeF)
theorem nl_dl {c:List It} {q:List Tok} {s:Sx.St} (h:At (.nl::c) q s) (hk:(Sx.hd (Sx.go s)).kind≠3):Sx.dl s=Sx.go s:=by
 obtain⟨h1,_,h3,_⟩:=h.nl
 have h5:=dl_of hk
 unfold Sx.dl Sx.go at *
 cases e5:s.r with
 | nil=>exact absurd e5 h3
 | cons t r=>
  rw[Sx.hd_cons e5] at h1
  rw[e5] at h5
  rw[show Sx.dropL (t::r)=Sx.dropL r by rw[Sx.dropL,if_pos h1]]
  simp only[List.tail_cons,Sx.St.mk.injEq,and_true] at h5⊢
  exact h5
theorem words_back:∀ (ws:List L) {d:List It} {q:List Tok} {s:Sx.St},At ((ws.flatMap fun w=>[.sp,.tk 1 w])++.nl::d) q s→∃ s2,Sx.words s=.ok (ws,s2)∧At (.nl::d) q s2∧s2.d=s.d∧s2.ns=s.ns∧s2.r.length≤s.r.length
 | [],d,q,s,h=>by
  have h:At (.nl::d) q s:=h
  obtain⟨h1,_,h3,_⟩:=h.nl
  refine⟨s,?_,h,rfl,rfl,Nat.le_refl _⟩
  unfold Sx.words
  cases e:s.r with
  | nil=>exact absurd e h3
  | cons t r=>
   rw[Sx.hd_cons e] at h1
   rw[show Sx.wordsL (t::r)=([],t::r) by rw[Sx.wordsL,if_neg (by rw[h1];decide)]]
   simp only[←e]
 | w::ws,d,q,s,h=>by
  have h:At (.tk 1 w::((ws.flatMap fun w=>[.sp,.tk 1 w])++.nl::d)) q s:=h
  obtain⟨h1,h2,_,h4,h5⟩:=h.tk
  obtain⟨s2,e1,e2,e3,e4,e5⟩:=words_back ws h5
  have hl:=go_len h4
  refine⟨s2,?_,e2,e3,e4,by omega⟩
  unfold Sx.words at e1⊢
  cases e:s.r with
  | nil=>exact absurd e h4
  | cons t r=>
   rw[Sx.hd_cons e] at h1 h2
   have hg:(Sx.go s).r=r:=by unfold Sx.go;rw[e];rfl
   rw[hg] at e1
   rw[show Sx.wordsL (t::r)=(t.text::(Sx.wordsL r).1,(Sx.wordsL r).2) by rw[Sx.wordsL,if_pos h1]]
   simp only[Except.ok.injEq,Prod.mk.injEq] at e1⊢
   exact⟨by rw[h2,e1.1],e1.2⟩
theorem words_ok {s s1:Sx.St} {ws:List L} (h:Vl s.r) (e:Sx.words s=.ok (ws,s1)):∀ w∈ws,WordOk w:=by
 unfold Sx.words at e
 cases e
 generalize s.r=r at *
 induction r with
 | nil=>intro w hw;cases hw
 | cons t r ih=>
  intro w hw
  by_cases hk:t.kind=1
  ·rw[show Sx.wordsL (t::r)=(t.text::(Sx.wordsL r).1,(Sx.wordsL r).2) by rw[Sx.wordsL,if_pos hk]] at hw
   rcases List.mem_cons.1 hw with rfl | hw
   ·exact h.1.word hk
   ·exact ih h.2.2 w hw
  ·rw[show Sx.wordsL (t::r)=([],t::r) by rw[Sx.wordsL,if_neg hk]] at hw
   cases hw
theorem doAt {c:List It} {q:List Tok} {s:Sx.St} (h:At (doP c) q s):(Sx.hd s).kind=1∧(Sx.hd s).text=Sx.kDO∧True:=by
 have h:At (.tk 1 Sx.kDO::.nl::(c++[.tk 1 Sx.kDONE])) q s:=h
 exact⟨h.tk.1,h.tk.2.1,trivial⟩
section
variable {a:M Nat} (ha:Sx.UnA a) (hb:AS a)
include ha hb
theorem choice_bk {N:Nat} {nd:Sx.Node} {s s1:Sx.St} (h:Gs s) (ht:(Sx.hd s).text=Sx.kIF) (e:Sx.choice a N s=.ok (nd,s1)):∃ ms b c,Nk s s1 nd choR ms b c∧∃ l,c=.tk 1 Sx.kIF::l:=by
 unfold Sx.choice at e
 obtain⟨nd2,s2,e2,e⟩:=Sx.bnd_inv e
 have hne:(Sx.hd s).text≠[]:=by rw[ht];decide
 obtain⟨ms,b,c,r,hc,_,_⟩:=branch_bk ha hb N h hne e2
 have g2:=h.of (Sx.branchF_un ha N h.good hne e2).1
 obtain⟨_,s3,e3,e⟩:=Sx.bnd_inv e
 obtain⟨rfl,_,_⟩:=Sx.need_un (by decide) g2.good e3
 cases e
 exact⟨ms,b,c,⟨r.ns,r.d,r.nc,r.el,r.gd,r.back⟩,hc⟩
theorem each2_bk {t:L} {f:Bool} {ws:List L} {nd:Sx.Node} {s s1:Sx.St} (h:Gs s) (e:Sx.each2 a t f ws s=.ok (nd,s1)):∃ ms b c k,nd={ kind:=8,text:=t,flag:=f,words:=ws,kids:=[k] }∧Bk s s1 k (fun _=>True) (LsB true) (fun n=>Sx.body (Sx.anyF n)) doP ms b c 5:=by
 unfold Sx.each2 at e
 obtain⟨_,s2,e2,e⟩:=Sx.bnd_inv e
 obtain⟨rfl,w2⟩:=Sx.lines_un h.good e2
 obtain⟨k,s3,e3,e⟩:=Sx.bnd_inv e
 obtain⟨ms,b,c,r⟩:=body_bk ha hb (h.of w2) e3
 cases e
 exact⟨ms,b,c,k,rfl,r.ns,r.d,r.kk,r.ne,r.em,r.kd,r.el,r.gd,r.be,fun n q s' x y z=>(r.back n q s' x y z).cast rfl rfl rfl rfl⟩
def forI (t:L) (f:Bool) (ws:List L) (c:List It):List It:=.tk 1 Sx.kFOR::.sp::.tk 1 t::((if f then [] else [.sp,.tk 1 Sx.kIN]++ws.flatMap fun w=>[.sp,.tk 1 w])++.nl::doP c)
omit ha hb in
theorem gd_in:∀ (ws:List L) {d:List It},(∀ w∈ws,WordOk w)→Gd (.nl::d)→Gd ((ws.flatMap fun w=>[.sp,.tk 1 w])++.nl::d)
 | [],_,_,h=>h
 | w::ws,d,hw,h=>by
  have h2:=gd_in ws (fun v hv=>hw v (by simp[hv])) h
  have h1:Gd [It.sp,.tk 1 w]:=Gd.cons_fr (.inl rfl) (Gd.one (show iv (.tk 1 w) from hw w (by simp)))
  have:Gd ([It.sp,.tk 1 w]++((ws.flatMap fun w=>[.sp,.tk 1 w])++.nl::d)):=by
   cases ws with
   | nil=>exact h1.blank (.inr rfl) h2
   | cons v ws=>exact h1.blank (.inl rfl) h2
  exact this
omit ha hb in
theorem for_nk {t:L} {f:Bool} {ws:List L} {k:Nat} {s s0 s1:Sx.St} {ms:List Sx.Node} {b:Bool} {c:List It} (r:Bk s0 s1 k (fun _=>True) (LsB true) (fun n=>Sx.body (Sx.anyF n)) doP ms b c 5) (hn0:s0.ns=s.ns) (hd0:s0.d=s.d) (ht:nameB t=true) (htw:WordOk t) (hw:∀ w∈ws,WordOk w) (hf:f=true→ws=[]):Nk s s1 { kind:=8,text:=t,flag:=f,words:=ws,kids:=[k] } (fun n=>Sx.each (Sx.anyF n)) ms b (forI t f ws c):=by
 have hdo:Gd (doP c):=Gd.part (iv_key (by decide) (by decide) (by decide)) r.gd r.be.2.2 (Gd.one (iv_key (by decide) (by decide) (by decide)))
 have hcI:∀ k:Nat,compI { kind:=8,text:=t,flag:=f,words:=ws,kids:=[k] } [c] (0==6)=forI t f ws c:=fun k=>by cases f <;> simp[compI,forI,doP]
 refine⟨by rw[r.ns,hn0],r.d.trans hd0,⟨[c],0,⟨by have:=r.em;rw[hn0] at this;exact this,trivial⟩,fun h=>(by cases h),hcI k,fun _ _=>rfl,by simp⟩,fun h _ _=>(r.el h).app _,?_,fun n q s' hat hn=>?_⟩
 ·refine Gd.blank (c:=[.tk 1 Sx.kFOR]) (Gd.one (iv_key (by decide) (by decide) (by decide))) (.inl rfl) (Gd.cons_fr (.inl rfl) ?_)
  cases f with
  | true=>exact Gd.blank (c:=[.tk 1 t]) (Gd.one (show iv (.tk 1 t) from htw)) (.inr rfl) (Gd.cons_fr (.inr rfl) hdo)
  | false=>
   refine Gd.blank (c:=[.tk 1 t]) (Gd.one (show iv (.tk 1 t) from htw)) (.inl rfl) (Gd.cons_fr (.inl rfl) ?_)
   have h2:=gd_in ws hw (Gd.cons_fr (.inr rfl) hdo)
   cases ws with
   | nil=>exact Gd.blank (c:=[.tk 1 Sx.kIN]) (Gd.one (iv_key (by decide) (by decide) (by decide))) (.inr rfl) h2
   | cons w ws=>exact Gd.blank (c:=[.tk 1 Sx.kIN]) (Gd.one (iv_key (by decide) (by decide) (by decide))) (.inl rfl) h2
 ·obtain⟨n1,n2,n3⟩:=need_at hat
  obtain⟨m1,m2,_,m4,m5⟩:=n2.sp.tk
  have m6:=go_len m4
  have hname:Sx.name (Sx.go s')=.ok (t,Sx.go (Sx.go s')):=by unfold Sx.name;rw[m2,if_pos ht]
  have tail:∀ (s2:Sx.St),At (doP c) q s2→s2.ns=s'.ns→s2.d=s'.d→s2.r.length≤n→Sx.each (Sx.anyF n) s'=Sx.each2 (Sx.anyF n) t f ws s2→OutN s ms b (forI t f ws c) q s' { kind:=8,text:=t,flag:=f,words:=ws,kids:=[k] } (Sx.each (Sx.anyF n) s'):=fun s2 x1 x2 x3 x4 x5=>by
   have hk:(Sx.hd s2).kind≠3:=by rw[(doAt x1).1];decide
   have hun:Sx.each2 (Sx.anyF n) t f ws s2=Sx.bnd (Sx.body (Sx.anyF n)) (fun i=>Sx.ret { kind:=8,text:=t,flag:=f,words:=ws,kids:=[i] }) s2:=by
    unfold Sx.each2
    rw[Sx.bnd_ok (a:=()) (s':=s2) (by unfold Sx.lines;rw[dl_of hk])]
   rw[x5,hun]
   rcases r.back n q s2 x1 trivial x4 with⟨lf,hx,hdd⟩ | ⟨ms',s1',k',hx,r',hkk,hne,hem,hkd⟩
   ·rw[hd0,x3] at hdd
    exact .inl ⟨lf,Sx.bnd_error hx,hdd⟩
   ·rw[x2] at hem
    refine .inr ⟨ms',s1',{ kind:=8,text:=t,flag:=f,words:=ws,kids:=[k'] },by rw[Sx.bnd_ok hx];rfl,⟨r'.r,r'.d.trans x3,by rw[←x2];exact r'.ns,fun u v=>r'.eq u (by rw[x2,hn0];exact v)⟩,⟨[c],0,⟨hem,trivial⟩,fun h=>(by cases h),hcI k',fun _ _=>rfl,by simp⟩,rfl,fun u v=>?_⟩
    rw[(Out.kk r' r.kk hkk u (by rw[x2,hn0];exact v)).1]
  cases f with
  | true=>
   have x0:At (.nl::doP c) q (Sx.go (Sx.go s')):=m5
   obtain⟨y1,y2,y3,y4⟩:=x0.nl
   have y5:=go_len y3
   obtain⟨z1,z2,_⟩:=doAt y4
   have hw0:=hf rfl
   subst hw0
   refine tail (Sx.go (Sx.go (Sx.go s'))) y4 rfl rfl (by omega) ?_
   unfold Sx.each
   rw[Sx.bnd_ok n1,Sx.bnd_ok hname,Sx.bnd_ok (passed_not (by rw[y2];decide)),if_neg (by decide),Sx.bnd_ok (a:=()) (s':=Sx.go (Sx.go (Sx.go s'))) (by unfold Sx.lines;rw[nl_dl x0 (by rw[z1];decide)]),Sx.bnd_ok (passed_not (by rw[z2];decide)),if_neg (by decide)]
  | false=>
   have x0:At (.tk 1 Sx.kIN::((ws.flatMap fun w=>[.sp,.tk 1 w])++.nl::doP c)) q (Sx.go (Sx.go s')):=At.sp m5
   obtain⟨z1,z2,_⟩:=x0.tk
   obtain⟨p1,p2,p3⟩:=passed_at x0
   obtain⟨s2,e1,e2,e3,e4,e5⟩:=words_back ws p2
   obtain⟨y1,y2,y3,y4⟩:=e2.nl
   have y5:=go_len y3
   obtain⟨u1,u2,_⟩:=doAt y4
   have hpa:Sx.parted s2=.ok (true,Sx.go s2):=by
    unfold Sx.parted
    rw[if_pos (.inr y1),dl_of (by rw[u1];decide)]
   refine tail (Sx.go s2) y4 e4 e3 (by omega) ?_
   unfold Sx.each
   rw[Sx.bnd_ok n1,Sx.bnd_ok hname,Sx.bnd_ok (passed_not (by rw[z2];decide)),if_neg (by decide),Sx.bnd_ok (a:=()) (s':=Sx.go (Sx.go s')) (by unfold Sx.lines;rw[dl_of (by rw[z1];decide)]),Sx.bnd_ok p1,if_pos rfl,Sx.bnd_ok e1,Sx.bnd_ok hpa,if_pos rfl]
theorem each_bk {nd:Sx.Node} {s s1:Sx.St} (h:Gs s) (e:Sx.each a s=.ok (nd,s1)):∃ ms b c,Nk s s1 nd (fun n=>Sx.each (Sx.anyF n)) ms b c∧∃ l,c=.tk 1 Sx.kFOR::l:=by
 unfold Sx.each at e
 obtain⟨_,s2,e2,e⟩:=Sx.bnd_inv e
 obtain⟨rfl,_,w2⟩:=Sx.need_un (by decide) h.good e2
 have g2:=h.of w2
 obtain⟨t,s3,e3,e⟩:=Sx.bnd_inv e
 obtain⟨rfl,htn,w3⟩:=Sx.name_un g2.good e3
 have htt:t=(Sx.hd (Sx.go s)).text:=by
  unfold Sx.name at e3
  rw[if_pos htn] at e3
  cases e3;rfl
 have hk1:(Sx.hd (Sx.go s)).kind=1:=by
  by_cases hk:(Sx.hd (Sx.go s)).kind=1
  ·exact hk
  ·rw[g2.vl.hd.name hk] at htn;cases htn
 have htw:=g2.vl.hd.word hk1
 rw[←htt] at htn htw
 have g3:=g2.of w3
 obtain⟨p,s4,e4,ee⟩:=Sx.bnd_inv e
 clear e
 rcases Sx.passed_un (by decide) g3.good e4 with⟨rfl,rfl,_,w4⟩ | ⟨rfl,rfl,_,_⟩
 ·rw[if_pos rfl] at ee
  obtain⟨ms,b,c,k,rfl,r⟩:=each2_bk ha hb (g3.of w4) ee
  exact⟨ms,b,_,for_nk (s:=s) r rfl rfl htn htw (by simp) (fun _=>rfl),_,rfl⟩
 ·rw[if_neg (by decide)] at ee
  obtain⟨_,s5,e5,ee⟩:=Sx.bnd_inv ee
  obtain⟨rfl,w5⟩:=Sx.lines_un g3.good e5
  have g5:=g3.of w5
  obtain⟨p,s6,e6,ee⟩:=Sx.bnd_inv ee
  have g6:Gs s6∧s6.ns=s.ns∧s6.d=s.d:=by
   rcases Sx.passed_un (by decide) g5.good e6 with⟨_,rfl,_,w6⟩ | ⟨_,rfl,_,w6⟩
   ·exact⟨g5.of w6,rfl,rfl⟩
   ·exact⟨g5,rfl,rfl⟩
  cases p with
  | true=>
   rw[if_pos rfl] at ee
   obtain⟨ws,s7,e7,ee⟩:=Sx.bnd_inv ee
   have hws:=words_ok g6.1.vl e7
   have w7:=Sx.words_un g6.1.good e7
   have g7:=g6.1.of w7
   have hn7:s7.ns=s6.ns∧s7.d=s6.d:=by unfold Sx.words at e7;cases e7;exact⟨rfl,rfl⟩
   obtain⟨p,s8,e8,ee⟩:=Sx.bnd_inv ee
   have hn8:=parted_ok e8
   have g8:=g7.of (Sx.parted_un g7.good e8).1
   cases p with
   | true=>
    rw[if_pos rfl] at ee
    obtain⟨ms,b,c,k,rfl,r⟩:=each2_bk ha hb g8 ee
    exact⟨ms,b,_,for_nk (s:=s) r (hn8.1.trans (hn7.1.trans g6.2.1)) (hn8.2.trans (hn7.2.trans g6.2.2)) htn htw hws (fun h=>by cases h),_,rfl⟩
   | false=>rw[if_neg (by decide)] at ee;cases ee
  | false=>
   rw[if_neg (by decide)] at ee
   obtain⟨ms,b,c,k,rfl,r⟩:=each2_bk ha hb g6.1 ee
   exact⟨ms,b,_,for_nk (s:=s) r g6.2.1 g6.2.2 htn htw (by simp) (fun _=>rfl),_,rfl⟩
end
end Vx
end Go.Proofs.YtkkchkkpnlnbgaaGreatDoor
