/- Scripts read again: case. No premises. -/
import Derived.Test.YtkkchkkpnlnbgaaGreatDoorQd
import Derived.Test.YtkkchkkpnlnbgaaGreatDoorNk
namespace Go.Proofs.YtkkchkkpnlnbgaaGreatDoor
namespace Vx
open Sx (Arw M Er good Wk)
open Lx (Tok)
open Up (S nodeF)
def barI (l:List L):List It:=l.flatMap fun w=>[.tk 2 [124],.tk 1 w]
theorem join_bar (w:L):∀ (l:List L),join [.tk 2 [124]] ((w::l).map wd)=.tk 1 w::barI l
 | []=>rfl
 | v::l=>by
  rw[List.map_cons,List.map_cons]
  unfold join
  rw[←List.map_cons,join_bar v l]
  rfl
theorem altF_at (m:Nat) (ws:List L) (s:Sx.St):Sx.altF (m+1) ws s=Sx.bnd (Sx.passed [124]) (fun b=>if b=true then Sx.bnd Sx.word fun w=>Sx.altF m (ws++[w.text]) else Sx.ret ws) s:=rfl
theorem altF_ok (m:Nat) {ws ws':List L} {s s1:Sx.St} (h:Gs s) (e:Sx.altF m ws s=.ok (ws',s1)):∃ l,ws'=ws++l∧(∀ w∈l,WordOk w)∧s1.ns=s.ns∧s1.d=s.d:=by
 induction m generalizing ws s with
 | zero=>cases e
 | succ m ih=>
  rw[altF_at] at e
  obtain⟨b,s2,e2,ee⟩:=Sx.bnd_inv e
  clear e
  rcases Sx.passed_un (by decide) h.good e2 with⟨rfl,rfl,_,w2⟩ | ⟨rfl,rfl,_,_⟩
  ·rw[if_pos rfl] at ee
   have g2:=h.of w2
   obtain⟨w,s3,e3,ee⟩:=Sx.bnd_inv ee
   obtain⟨rfl,rfl,hk,w3⟩:=Sx.word_un g2.good e3
   obtain⟨l,a1,a2,a3,a4⟩:=ih (g2.of w3) ee
   refine⟨(Sx.hd (Sx.go s)).text::l,by rw[a1,List.append_assoc];rfl,?_,a3,a4⟩
   intro v hv
   rcases List.mem_cons.1 hv with rfl | hv
   ·exact g2.vl.hd.word hk
   ·exact a2 v hv
  ·rw[if_neg (by decide)] at ee
   cases ee
   exact⟨[],by simp,by simp,rfl,rfl⟩
theorem altF_back:∀ (l:List L) {d:List It} {q:List Tok} {s:Sx.St} (ws:List L) (m:Nat),At (barI l++.tk 2 [41]::d) q s→s.r.length<m→∃ s2,Sx.altF m ws s=.ok (ws++l,s2)∧At (.tk 2 [41]::d) q s2∧s2.d=s.d∧s2.ns=s.ns∧s2.r.length≤s.r.length
 | [],d,q,s,ws,m,h,hm=>by
  have h:At (.tk 2 [41]::d) q s:=h
  obtain⟨m,rfl⟩:∃ x,m=x+1:=⟨m-1,by omega⟩
  refine⟨s,?_,h,rfl,rfl,Nat.le_refl _⟩
  rw[altF_at,Sx.bnd_ok (passed_not (by rw[h.tk.2.1];decide)),if_neg (by decide),List.append_nil]
  rfl
 | w::l,d,q,s,ws,m,h,hm=>by
  have h:At (.tk 2 [124]::.tk 1 w::(barI l++.tk 2 [41]::d)) q s:=h
  obtain⟨m,rfl⟩:∃ x,m=x+1:=⟨m-1,by omega⟩
  obtain⟨p1,p2,p3⟩:=passed_at h
  obtain⟨u1,u2,_,u4,u5⟩:=p2.tk
  have u6:=go_len u4
  obtain⟨s2,f1,f2,f3,f4,f5⟩:=altF_back l (ws++[w]) m u5 (by omega)
  refine⟨s2,?_,f2,f3,f4,by omega⟩
  have hw:Sx.word (Sx.go s)=.ok (Sx.hd (Sx.go s),Sx.go (Sx.go s)):=by unfold Sx.word;rw[if_pos u1]
  rw[altF_at,Sx.bnd_ok p1,if_pos rfl,Sx.bnd_ok hw,u2,f1,List.append_assoc]
  rfl
def itI (ws:List L) (c:List It):List It:=.tk 2 [40]::(join [.tk 2 [124]] (ws.map wd)++.tk 2 [41]::.nl::(c++[.tk 2 [59,59],.nl]))
theorem itI_body (ws:List L) (k lf:Nat) (c:List It):bodyI { kind:=10,words:=ws,kids:=[k],left:=lf } [c] (0==6)=itI ws c:=by simp[bodyI,itI]
theorem gd_bar (w:L) (hw:WordOk w):∀ (l:List L) {d:List It},(∀ v∈l,WordOk v)→Gd (.tk 2 [41]::d)→Gd (.tk 1 w::(barI l++.tk 2 [41]::d)):=by
 intro l
 induction l generalizing w with
 | nil=>
  intro d _ hd
  exact Gd.app (c:=[.tk 1 w]) (Gd.one (show iv (.tk 1 w) from hw)) hd fun i j hi hj=>by cases hi;cases hj;exact .inr (.inl rfl)
 | cons v l ih=>
  intro d hl hd
  have h2:=ih v (hl v (by simp)) (fun x hx=>hl x (by simp[hx])) hd
  have h3:Gd (.tk 2 [124]::.tk 1 v::(barI l++.tk 2 [41]::d)):=Gd.app (c:=[.tk 2 [124]]) (Gd.one (i:=.tk 2 [124]) (show [124]∈signs by decide)) h2 fun i j hi hj=>by
   cases hi;cases hj
   intro _ h9
   have h8:=(hl v (by simp)).ends
   cases v with
   | nil=>cases h9
   | cons x v=>
    simp only[List.head?_cons,Option.some.injEq] at h9
    subst h9
    exact absurd h8 (by simp[Lx.ends,Lx.stop])
  exact Gd.app (c:=[.tk 1 w]) (Gd.one (show iv (.tk 1 w) from hw)) h3 fun i j hi hj=>by cases hi;cases hj;exact .inl rfl
theorem gd_item {w:L} {l:List L} {c:List It} (hw:∀ v∈w::l,WordOk v) (h:Gd c) (hl:∀ i,c.getLast?=some i→i=.nl):Gd (itI (w::l) c):=by
 unfold itI
 rw[join_bar]
 have h1:Gd (.tk 2 [41]::.nl::(c++[It.tk 2 [59,59],.nl])):=Gd.part (w:=.tk 2 [41]) (show [41]∈signs by decide) h hl (Gd.blank (c:=[.tk 2 [59,59]]) (Gd.one (i:=.tk 2 [59,59]) (show [59,59]∈signs by decide)) (.inr rfl) (Gd.one trivial))
 have h2:=gd_bar w (hw w (by simp)) l (fun v hv=>hw v (by simp[hv])) h1
 refine Gd.app (c:=[.tk 2 [40]]) (Gd.one (i:=.tk 2 [40]) (show [40]∈signs by decide)) h2 fun i j hi hj=>?_
 cases hi;cases hj
 intro h9;cases h9
def Fe (t:Tok):Prop:=t.kind=1∧t.text=Sx.kESAC
def itemsR (n m:Nat) (ks:List Nat):M (List Nat):=Sx.itemsF (Sx.anyF n) (n+1) m ks
theorem itemsF_at (a:M Nat) (n m:Nat) (ks:List Nat) (s:Sx.St):Sx.itemsF a n (m+1) ks s=if Sx.isT Sx.kESAC s=true then .ok (ks,s) else Sx.bnd (Sx.item a n) (fun k=>Sx.bnd (Sx.passed [59,59]) fun b=>if b=true then Sx.bnd Sx.lines fun _=>Sx.itemsF a n m (ks++[k]) else Sx.ret (ks++[k])) s:=rfl
theorem lsR_dl (n:Nat) (s:Sx.St):lsR n s=lsR n (Sx.dl s):=by
 show Sx.anyL (Sx.anyF n) (n+1) s=Sx.anyL (Sx.anyF n) (n+1) (Sx.dl s)
 unfold Sx.anyL
 rw[Sx.bnd_ok (m:=Sx.lines) (s:=s) (a:=()) (s':=Sx.dl s) rfl,Sx.bnd_ok (m:=Sx.lines) (s:=Sx.dl s) (a:=()) (s':=Sx.dl s) (by unfold Sx.lines Sx.dl;simp only[drop_drop])]
theorem Lk.nilI (s:Sx.St):Lk s s [] Fe itemsR List.flatten [] false []:=
 ⟨by simp,rfl,trivial,fun _=>rfl,fun h=>(by cases h),Gd.nil,fun n m ks0 q s' hat hq hn hm=>.inr ⟨[],s',[],by
  obtain⟨m,rfl⟩:∃ x,m=x+1:=⟨m-1,by omega⟩
  have hr:=At.nil hat
  rw[←hd_q hr] at hq
  unfold itemsR
  rw[itemsF_at,if_pos (by unfold Sx.isT;rw[hq.2];exact beq_self_eq_true _),List.append_nil],⟨At.nil hat,rfl,by simp,fun _ _=>rfl⟩,trivial,rfl,fun _=>rfl,fun _ _=>rfl⟩⟩
def itN (ws:List L) (k lf:Nat):Sx.Node:={ kind:=10,words:=ws,kids:=[k],left:=lf }
theorem Lk.consI {s sA sB s3 s1:Sx.St} {k lf:Nat} {bb:Bool} {l':List Nat} {ms ms2:List Sx.Node} {b b2:Bool} {c:List It} {cs:List (List It)} {w:L} {l:List L} (hw:∀ v∈w::l,WordOk v) (hnA:sA.ns=s.ns) (hdA:sA.d=s.d) (r:Bk sA sB k Fc (LsB bb) lsR (fun c=>c) ms b c 5) (hn3:s3.ns=sB.ns++[itN (w::l) k lf]) (hd3:s3.d=sB.d) (r2:Lk s3 s1 l' Fe itemsR List.flatten ms2 b2 cs) (hcs:cs=[]∨∃ d,cs.flatten=.tk 2 [40]::d):Lk s s1 (sB.ns.length::l') Fe itemsR List.flatten (ms++[itN (w::l) k lf]++ms2) (b || b2) (itI (w::l) c::cs):=by
 have hnsB:sB.ns=s.ns++ms:=by rw[r.ns,hnA]
 have hlB:sB.ns.length=s.ns.length+ms.length:=by rw[hnsB,List.length_append]
 have hns3:s3.ns=s.ns++(ms++[itN (w::l) k lf]):=by rw[hn3,hnsB,List.append_assoc]
 have hl3:s3.ns.length=s.ns.length+(ms++[itN (w::l) k lf]).length:=by rw[hns3,List.length_append]
 have hdB:sB.d=s.d:=r.d.trans hdA
 have hem:Em s.ns.length ms k c:=by have:=r.em;rw[hnA] at this;exact this
 have hnode:∀ (b0 lf k:Nat) (M:List Sx.Node),Em b0 M k c→Em b0 (M++[itN (w::l) k lf]) (b0+M.length) (itI (w::l) c):=fun b0 lf k M hE=>by
  have:=Em.node (n:=itN (w::l) k lf) (cs:=[c]) (v:=0) ⟨hE,trivial⟩ (fun h=>by cases h) rfl ⟨by simp[itN],by simp[itN]⟩
  rw[show bodyI (itN (w::l) k lf) [c] (0==6)=itI (w::l) c from itI_body _ _ _ _] at this
  exact this
 refine⟨by rw[r2.ns,hns3,List.append_assoc],r2.d.trans (hd3.trans hdB),⟨Em.right (by rw[hlB];exact hnode _ _ _ _ hem) _,Ems.left (by rw[←hl3];exact r2.em)⟩,fun h=>(by cases h),fun hor=>?_,?_,fun n m' ks0 q s' hat hq hn hm'=>?_⟩
 ·rcases Bool.or_eq_true_iff.1 hor with hor | hor
  ·rw[r2.ns,hn3];exact((r.el hor).app _).app _
  ·exact r2.el hor
 ·have hg:=gd_item (c:=c) hw r.gd r.be.2.2
  refine hg.app r2.gd fun i j hi hj=>?_
  have:i=.nl:=by
   unfold itI at hi
   rw[show It.tk 2 [40]::(join [.tk 2 [124]] ((w::l).map wd)++.tk 2 [41]::.nl::(c++[.tk 2 [59,59],.nl]))=(It.tk 2 [40]::(join [.tk 2 [124]] ((w::l).map wd)++.tk 2 [41]::.nl::(c++[.tk 2 [59,59]])))++[.nl] by simp,List.getLast?_concat] at hi
   cases hi;rfl
  rw[this]
  exact fr_adj (.inr rfl) j
 ·have hat:At (.tk 2 [40]::.tk 1 w::(barI l++.tk 2 [41]::.nl::(c++.tk 2 [59,59]::.nl::cs.flatten))) q s':=by
   have h9:=hat
   rw[List.flatten_cons,itI,join_bar] at h9
   simpa only[List.cons_append,List.append_assoc,List.nil_append] using h9
  obtain⟨m',rfl⟩:∃ x,m'=x+1:=⟨m'-1,by omega⟩
  obtain⟨p1,p2,p3⟩:=passed_at hat
  obtain⟨_,t0,_⟩:=hat.tk
  obtain⟨u1,u2,_,u4,u5⟩:=p2.tk
  have u6:=go_len u4
  have hwd:Sx.word (Sx.go s')=.ok (Sx.hd (Sx.go s'),Sx.go (Sx.go s')):=by unfold Sx.word;rw[if_pos u1]
  obtain⟨s2',f1,f2,f3,f4,f5⟩:=altF_back l [w] (n+1) u5 (by omega)
  obtain⟨n1,n2,n3⟩:=need_at f2
  obtain⟨y1,y2,y3,y4⟩:=n2.nl
  have y5:=go_len y3
  obtain⟨q1,x1,x2⟩:=At.app (c:=c) (d:=.tk 2 [59,59]::.nl::cs.flatten) y4
  have hql:=x1.len
  have hFc:Fc (q1.headD Sx.E):=Fc.tk x2 (by decide) (by decide)
  have hk3:(Sx.hd (Sx.go (Sx.go s2'))).kind≠3:=by
   rcases r.be.2.1 with hc0 | hbeg
   ·subst hc0
    rw[hd_q (At.nil x1)]
    exact hFc.1
   ·exact(hbeg.at x1).2.1
  obtain⟨m0,rfl⟩:∃ x,n=x+1:=⟨n-1,by omega⟩
  have hls:Sx.anyF (m0+1) (Sx.go s2')=lsR m0 (Sx.go (Sx.go s2')):=by
   show lsR m0 (Sx.go s2')=_
   rw[lsR_dl,nl_dl n2 hk3]
  have hit:Sx.item (Sx.anyF (m0+1)) (m0+1+1) s'=Sx.bnd (lsR m0) (fun k=>Sx.add (itN (w::l) k (Sx.hd s').left)) (Sx.go (Sx.go s2')):=by
   unfold Sx.item
   rw[Sx.bnd_ok p1,Sx.bnd_ok hwd,u2,Sx.bnd_ok f1,Sx.bnd_ok n1]
   unfold Sx.bnd
   rw[hls]
   rfl
  have hun:itemsR (m0+1) (m'+1) ks0 s'=Sx.bnd (Sx.item (Sx.anyF (m0+1)) (m0+1+1)) (fun k=>Sx.bnd (Sx.passed [59,59]) fun b=>if b=true then Sx.bnd Sx.lines fun _=>itemsR (m0+1) m' (ks0++[k]) else Sx.ret (ks0++[k])) s':=by
   unfold itemsR
   rw[itemsF_at,if_neg (by rw[isT_not t0 (by decide)];decide)]
  rw[hun]
  have hgn:(Sx.go (Sx.go s2')).ns=s'.ns:=f4
  have hgd:(Sx.go (Sx.go s2')).d=s'.d:=f3
  rcases r.back m0 q1 (Sx.go (Sx.go s2')) x1 hFc (by omega) with⟨le,hx,hdd⟩ | ⟨ms',s1',k',hx,r',hk,hne,hem',hkd⟩
  ·refine .inl ⟨le,by rw[Sx.bnd_error];rw[hit,Sx.bnd_error hx],?_⟩
   rw[hdA,hgd] at hdd
   exact hdd.imp (fun x=>by rw[x];rfl) id
  ·have hn1:s1'.ns=s'.ns++ms':=by rw[r'.ns,hgn]
   have hl1:s1'.ns.length=s'.ns.length+ms'.length:=by rw[hn1,List.length_append]
   rw[hgn] at hem' hk
   obtain⟨sC,hsC⟩:∃ sC:Sx.St,sC={ s1' with ns:=s1'.ns++[itN (w::l) k' (Sx.hd s').left] }:=⟨_,rfl⟩
   have hCr:sC.r=q1:=by rw[hsC];exact r'.r
   have hCn:sC.ns=s'.ns++(ms'++[itN (w::l) k' (Sx.hd s').left]):=by rw[hsC];simp only[hn1,List.append_assoc]
   have hCd:sC.d=s'.d:=by rw[hsC];exact r'.d.trans hgd
   have hitem:Sx.item (Sx.anyF (m0+1)) (m0+1+1) s'=.ok (s1'.ns.length,sC):=by rw[hit,Sx.bnd_ok hx,hsC];rfl
   obtain⟨v1,v2,v3⟩:=passed_at (x2 sC hCr)
   obtain⟨_,_,v6,v7⟩:=v2.nl
   have v8:=go_len v6
   rw[hCr] at v3
   have hk4:(Sx.hd (Sx.go (Sx.go sC))).kind≠3:=by
    rcases hcs with hc0 | ⟨d,hc0⟩
    ·rw[hc0] at v7
     rw[hd_q (At.nil v7),hq.1]
     decide
    ·rw[hc0] at v7
     rw[v7.tk.1]
     decide
   have hli:Sx.lines (Sx.go sC)=.ok ((),Sx.go (Sx.go sC)):=by unfold Sx.lines;rw[nl_dl v2 hk4]
   have hgo:Sx.bnd (Sx.item (Sx.anyF (m0+1)) (m0+1+1)) (fun k=>Sx.bnd (Sx.passed [59,59]) fun b=>if b=true then Sx.bnd Sx.lines fun _=>itemsR (m0+1) m' (ks0++[k]) else Sx.ret (ks0++[k])) s'=itemsR (m0+1) m' (ks0++[s1'.ns.length]) (Sx.go (Sx.go sC)):=by
    rw[Sx.bnd_ok hitem,Sx.bnd_ok v1,if_pos rfl,Sx.bnd_ok hli]
   rw[hgo]
   have hr1:Re s (ms++[itN (w::l) k lf]) b q1 s' (ms'++[itN (w::l) k' (Sx.hd s').left]) sC:=⟨hCr,hCd,hCn,fun u z=>by
    have z2:(Sx.go (Sx.go s2')).ns.length=sA.ns.length:=by rw[hgn,hnA];exact z
    have z5:k'=k:=(Out.kk (k:=k) (k':=k') r' r.kk (by rw[hgn];exact hk) u z2).1
    rw[List.map_append,List.map_append,r'.eq u z2,z5]
    rfl⟩
   have hlC:sC.ns.length=s'.ns.length+(ms'++[itN (w::l) k' (Sx.hd s').left]).length:=by rw[hCn,List.length_append]
   rcases r2.back (m0+1) m' (ks0++[s1'.ns.length]) q (Sx.go (Sx.go sC)) v7 hq (by omega) (by omega) with⟨le,hx2,hdd⟩ | ⟨ms2',s2f,l2,hx2,r2',hem2,hll,hnn,heq⟩
   ·refine .inl ⟨le,hx2,?_⟩
    have hdd:b2=true∨s3.d<sC.d:=hdd
    rw[hd3,hdB,hCd] at hdd
    exact hdd.imp (fun x=>by rw[x,Bool.or_true]) id
   ·have hem2:Ems sC.ns.length ms2' l2 cs:=hem2
    have r3:Re s3 ms2 b2 q sC ms2' s2f:=⟨r2'.r,r2'.d,r2'.ns,r2'.eq⟩
    refine .inr ⟨ms'++[itN (w::l) k' (Sx.hd s').left]++ms2',s2f,s1'.ns.length::l2,by rw[hx2,List.append_assoc];rfl,Re.trans (s1:=s3) hr1 hns3 r3,⟨Em.right (by rw[hl1];exact hnode _ _ _ _ hem') _,Ems.left (by rw[←hlC];exact hem2)⟩,by simp[hll],fun h=>(by cases h),fun u z=>?_⟩
    rw[Bool.or_eq_false_iff] at u
    have z2:(Sx.go (Sx.go s2')).ns.length=sA.ns.length:=by rw[hgn,hnA];exact z
    have z3:=(Out.kk (k:=k) (k':=k') r' r.kk (by rw[hgn];exact hk) u.1 z2).2
    have z4:s1'.ns.length=sB.ns.length:=by rw[z3,hlB,hnA]
    rw[z4,heq u.2 (by show sC.ns.length=_;rw[hsC,hn3];simp only[List.length_append,List.length_cons,List.length_nil,z4])]
end Vx
end Go.Proofs.YtkkchkkpnlnbgaaGreatDoor
namespace Go.Proofs.YtkkchkkpnlnbgaaGreatDoor
namespace Vx
open Sx (Arw M Er good Wk)
open Lx (Tok)
open Up (S nodeF)
theorem last_app {c d:List It} (hc:∀ i,c.getLast?=some i→i=.nl) (hd:∀ i,d.getLast?=some i→i=.nl):∀ i,(c++d).getLast?=some i→i=.nl:=by
 intro i h
 rw[List.getLast?_append] at h
 cases e:d.getLast? with
 | none=>rw[e] at h;exact hc i (by simpa using h)
 | some x=>rw[e] at h;exact hd i (by rw[e];simpa using h)
theorem itI_last (ws:List L) (c:List It):∀ i,(itI ws c).getLast?=some i→i=.nl:=by
 intro i hi
 unfold itI at hi
 rw[show It.tk 2 [40]::(join [.tk 2 [124]] (ws.map wd)++.tk 2 [41]::.nl::(c++[.tk 2 [59,59],.nl]))=(It.tk 2 [40]::(join [.tk 2 [124]] (ws.map wd)++.tk 2 [41]::.nl::(c++[.tk 2 [59,59]])))++[.nl] by simp,List.getLast?_concat] at hi
 cases hi;rfl
section
variable {a:M Nat} (ha:Sx.UnA a) (hb:AS a)
include ha hb
theorem itemsF_bk {N:Nat} (m:Nat) {ks ks':List Nat} {s s1:Sx.St} (h:Gs s) (e:Sx.itemsF a N m ks s=.ok (ks',s1)):∃ l ms b cs,ks'=ks++l∧Lk s s1 l Fe itemsR List.flatten ms b cs∧(cs=[]∨∃ d,cs.flatten=.tk 2 [40]::d)∧∀ i,cs.flatten.getLast?=some i→i=.nl:=by
 induction m generalizing ks s with
 | zero=>cases e
 | succ m ih=>
  rw[itemsF_at] at e
  by_cases hes:Sx.isT Sx.kESAC s=true
  ·rw[if_pos hes] at e
   cases e
   exact⟨[],[],false,[],by simp,Lk.nilI _,.inl rfl,fun i hi=>by cases hi⟩
  rw[if_neg hes] at e
  obtain⟨k,s2,e2,ee⟩:=Sx.bnd_inv e
  clear e
  have gI:=h.of (Sx.item_un ha N h.good e2)
  unfold Sx.item at e2
  obtain⟨p,t1,i1,e2⟩:=Sx.bnd_inv e2
  have g1:Gs t1∧t1.ns=s.ns∧t1.d=s.d:=by
   rcases Sx.passed_un (by decide) h.good i1 with⟨_,rfl,_,w⟩ | ⟨_,rfl,_,w⟩
   ·exact⟨h.of w,rfl,rfl⟩
   ·exact⟨h,rfl,rfl⟩
  obtain⟨w,t2,i2,e2⟩:=Sx.bnd_inv e2
  obtain⟨rfl,rfl,hk1,w2⟩:=Sx.word_un g1.1.good i2
  have g2:=g1.1.of w2
  have hwd:=g1.1.vl.hd.word hk1
  obtain⟨ws,t3,i3,e2⟩:=Sx.bnd_inv e2
  obtain⟨l,rfl,hl,hn3,hd3⟩:=altF_ok N g2 i3
  have g3:=g2.of (Sx.altF_un N g2.good i3)
  obtain⟨_,t4,i4,e2⟩:=Sx.bnd_inv e2
  obtain⟨rfl,_,w4⟩:=Sx.need_un (by decide) g3.good i4
  have g4:=g3.of w4
  obtain⟨k0,t5,i5,e2⟩:=Sx.bnd_inv e2
  obtain⟨ms,b,c,r⟩:=hb _ _ _ g4 i5
  obtain⟨rfl,rfl⟩:=add_ok e2
  have hws:∀ v∈(Sx.hd t1).text::l,WordOk v:=fun v hv=>by
   rcases List.mem_cons.1 hv with rfl | hv
   ·exact hwd
   ·exact hl v hv
  have hA:(Sx.go t3).ns=s.ns:=hn3.trans g1.2.1
  have hAd:(Sx.go t3).d=s.d:=hd3.trans g1.2.2
  obtain⟨p2,s3,e3,ee⟩:=Sx.bnd_inv ee
  have g5:Gs s3∧s3.ns=t5.ns++[itN ((Sx.hd t1).text::l) k0 (Sx.hd s).left]∧s3.d=t5.d:=by
   rcases Sx.passed_un (by decide) gI.good e3 with⟨_,rfl,_,w⟩ | ⟨_,rfl,_,w⟩
   ·exact⟨gI.of w,rfl,rfl⟩
   ·exact⟨gI,rfl,rfl⟩
  have hit:∀ cs:List (List It),∃ d,(itI ((Sx.hd t1).text::l) c::cs).flatten=.tk 2 [40]::d:=fun cs=>⟨_,rfl⟩
  cases p2 with
  | true=>
   rw[if_pos rfl] at ee
   obtain⟨_,s4,e4,ee⟩:=Sx.bnd_inv ee
   obtain⟨rfl,w6⟩:=Sx.lines_un g5.1.good e4
   obtain⟨l',ms2,b2,cs,hl',r2,hcs,hla⟩:=ih (g5.1.of w6) ee
   exact⟨t5.ns.length::l',_,_,_,by rw[hl',List.append_assoc];rfl,Lk.consI (s3:=Sx.dl s3) hws hA hAd r g5.2.1 g5.2.2 r2 hcs,.inr (hit cs),last_app (itI_last _ _) hla⟩
  | false=>
   rw[if_neg (by decide)] at ee
   cases ee
   exact⟨[t5.ns.length],_,_,_,rfl,Lk.consI hws hA hAd r g5.2.1 g5.2.2 (Lk.nilI _) (.inl rfl),.inr (hit []),last_app (itI_last _ _) (fun i hi=>by cases hi)⟩
theorem mtch_bk {N:Nat} {nd:Sx.Node} {s s1:Sx.St} (h:Gs s) (e:Sx.mtch a N s=.ok (nd,s1)):∃ ms b c,Nk s s1 nd (fun n=>Sx.mtch (Sx.anyF n) (n+1)) ms b c∧∃ l,c=.tk 1 Sx.kCASE::l:=by
 unfold Sx.mtch at e
 obtain⟨_,s2,e2,e⟩:=Sx.bnd_inv e
 obtain⟨rfl,_,w2⟩:=Sx.need_un (by decide) h.good e2
 have g2:=h.of w2
 obtain⟨w,s3,e3,e⟩:=Sx.bnd_inv e
 obtain⟨rfl,rfl,hk1,w3⟩:=Sx.word_un g2.good e3
 have hwd:=g2.vl.hd.word hk1
 have g3:=g2.of w3
 obtain⟨_,s4,e4,e⟩:=Sx.bnd_inv e
 obtain⟨rfl,w4⟩:=Sx.lines_un g3.good e4
 have g4:=g3.of w4
 obtain⟨_,s5,e5,e⟩:=Sx.bnd_inv e
 obtain⟨rfl,_,w5⟩:=Sx.need_un (by decide) g4.good e5
 have g5:=g4.of w5
 obtain⟨_,s6,e6,e⟩:=Sx.bnd_inv e
 obtain⟨rfl,w6⟩:=Sx.lines_un g5.good e6
 have g6:=g5.of w6
 obtain⟨ks,s7,e7,e⟩:=Sx.bnd_inv e
 obtain⟨l,ms,b,cs,hl,r,hcs,hla⟩:=itemsF_bk ha hb N g6 e7
 obtain⟨_,_,w7⟩:=Sx.itemsF_un ha N N g6.good e7
 rw[List.nil_append] at hl
 subst hl
 obtain⟨_,s8,e8,e⟩:=Sx.bnd_inv e
 obtain⟨rfl,_,_⟩:=Sx.need_un (by decide) w7.gd e8
 cases e
 generalize (Sx.hd (Sx.go s)).text=t at *
 have hem:Ems s.ns.length ms ks cs:=r.em
 have hcI:∀ ks:List Nat,compI { kind:=9,text:=t,kids:=ks } cs (0==6)=.tk 1 Sx.kCASE::.sp::.tk 1 t::.sp::.tk 1 Sx.kIN::.nl::(cs.flatten++[.tk 1 Sx.kESAC]):=fun ks=>by simp[compI]
 have hg:Gd (cs.flatten++[It.tk 1 Sx.kESAC]):=r.gd.app (Gd.one (iv_key (by decide) (by decide) (by decide))) fun i j hi _=>by rw[hla i hi];exact fr_adj (.inr rfl) j
 refine⟨ms,b,.tk 1 Sx.kCASE::.sp::.tk 1 t::.sp::.tk 1 Sx.kIN::.nl::(cs.flatten++[.tk 1 Sx.kESAC]),⟨r.ns,r.d,⟨cs,0,hem,fun h=>(by cases h),hcI ks,fun _ _=>rfl,by simp⟩,fun x _ _=>(r.el x).app _,Gd.blank (c:=[.tk 1 Sx.kCASE]) (Gd.one (iv_key (by decide) (by decide) (by decide))) (.inl rfl) (Gd.cons_fr (.inl rfl) (Gd.blank (c:=[.tk 1 t]) (Gd.one (show iv (.tk 1 t) from hwd)) (.inl rfl) (Gd.cons_fr (.inl rfl) (Gd.blank (c:=[.tk 1 Sx.kIN]) (Gd.one (iv_key (by decide) (by decide) (by decide))) (.inr rfl) (Gd.cons_fr (.inr rfl) hg))))),fun n q s' hat hn=>?_⟩,_,rfl⟩
 obtain⟨n1,n2,n3⟩:=need_at hat
 obtain⟨u1,u2,_,u4,u5⟩:=n2.sp.tk
 have u6:=go_len u4
 have hwo:Sx.word (Sx.go s')=.ok (Sx.hd (Sx.go s'),Sx.go (Sx.go s')):=by unfold Sx.word;rw[if_pos u1]
 have v0:At (.tk 1 Sx.kIN::.nl::(cs.flatten++[.tk 1 Sx.kESAC])) q (Sx.go (Sx.go s')):=u5.sp
 obtain⟨v1,v2,v3⟩:=need_at v0
 have hd1:Sx.dl (Sx.go (Sx.go s'))=Sx.go (Sx.go s'):=dl_of (by rw[v0.tk.1];decide)
 obtain⟨_,_,v6,v7⟩:=v2.nl
 have v8:=go_len v6
 obtain⟨q1,x1,x2⟩:=At.app (c:=cs.flatten) (d:=[.tk 1 Sx.kESAC]) v7
 have hq1:Fe (q1.headD Sx.E):=by
  obtain⟨a1,a2⟩:=tk_head x2
  exact⟨a1,a2⟩
 have hk4:(Sx.hd (Sx.go (Sx.go (Sx.go (Sx.go s'))))).kind≠3:=by
  rcases hcs with hc0 | ⟨d,hc0⟩
  ·rw[hc0] at x1
   rw[hd_q (At.nil x1),hq1.1]
   decide
  ·rw[hc0] at x1
   rw[x1.tk.1]
   decide
 have hun:Sx.mtch (Sx.anyF n) (n+1) s'=Sx.bnd (itemsR n (n+1) []) (fun ks=>Sx.bnd (Sx.need Sx.kESAC) fun _=>Sx.ret { kind:=9,text:=t,kids:=ks }) (Sx.go (Sx.go (Sx.go (Sx.go s')))):=by
  unfold Sx.mtch
  rw[Sx.bnd_ok n1,Sx.bnd_ok hwo,Sx.bnd_ok (a:=()) (s':=Sx.go (Sx.go s')) (by unfold Sx.lines;rw[hd1]),Sx.bnd_ok v1,Sx.bnd_ok (a:=()) (s':=Sx.go (Sx.go (Sx.go (Sx.go s')))) (by unfold Sx.lines;rw[nl_dl v2 hk4]),u2]
  rfl
 rw[hun]
 rcases r.back n (n+1) [] q1 (Sx.go (Sx.go (Sx.go (Sx.go s')))) x1 hq1 (by omega) (by omega) with⟨lf,hx,hdd⟩ | ⟨ms',s1',l',hx,r',hem',hll,hnn,heq⟩
 ·exact .inl ⟨lf,Sx.bnd_error hx,hdd⟩
 ·obtain⟨m1,m2,_⟩:=need_at (x2 s1' r'.r)
  exact .inr ⟨ms',Sx.go s1',{ kind:=9,text:=t,kids:=l' },by rw[Sx.bnd_ok hx,Sx.bnd_ok m1];rfl,⟨At.nil m2,r'.d,r'.ns,r'.eq⟩,⟨cs,0,hem',fun h=>(by cases h),hcI l',fun _ _=>rfl,by simp⟩,rfl,fun x y=>by rw[heq x y]⟩
theorem read_bk:RdS a:=by
 intro N s s1 nd h hc e
 have hc2:=hc
 unfold Sx.isComp at hc2
 simp only[Bool.or_eq_true,beq_iff_eq] at hc2
 have key:∀ (t:L) (R:Nat→M Sx.Node) (k:Nat),(Sx.hd s).text=t→(∀ n,Sx.read (Sx.anyF n) (n+1) t=R n)→(k=1∨k=2)→(t=[40]→k=2)→(∃ ms b c,Nk s s1 nd R ms b c∧∃ l,c=.tk k t::l)→∃ ms b c,Nk s s1 nd (fun n=>Sx.read (Sx.anyF n) (n+1) (Sx.hd s).text) ms b c∧∃ k l,c=.tk k (Sx.hd s).text::l∧(k=1∨k=2)∧((Sx.hd s).text=[40]→k=2):=by
  rintro t R k rfl hR h1 h2 ⟨ms,b,c,r,l,hl⟩
  refine⟨ms,b,c,?_,k,l,hl,h1,h2⟩
  rw[show (fun n=>Sx.read (Sx.anyF n) (n+1) (Sx.hd s).text)=R from funext hR]
  exact r
 rcases hc2 with(((((ht | ht) | ht) | ht) | ht) | ht) | ht
 ·rw[ht] at e
  exact key [123] _ 1 ht (fun n=>rfl) (.inl rfl) (by decide) (group_bk ha hb h e)
 ·rw[ht] at e
  exact key [40] _ 2 ht (fun n=>rfl) (.inr rfl) (by decide) (sub_bk ha hb h e)
 ·rw[ht] at e
  exact key Sx.kIF _ 1 ht (fun n=>rfl) (.inl rfl) (by decide) (choice_bk ha hb h ht e)
 ·rw[ht] at e
  have:=loop_bk ha hb h (.inl ht) e
  rw[ht] at this
  exact key Sx.kWHILE _ 1 ht (fun n=>rfl) (.inl rfl) (by decide) this
 ·rw[ht] at e
  have:=loop_bk ha hb h (.inr ht) e
  rw[ht] at this
  exact key Sx.kUNTIL _ 1 ht (fun n=>rfl) (.inl rfl) (by decide) this
 ·rw[ht] at e
  exact key Sx.kFOR _ 1 ht (fun n=>rfl) (.inl rfl) (by decide) (each_bk ha hb h e)
 ·rw[ht] at e
  exact key Sx.kCASE _ 1 ht (fun n=>rfl) (.inl rfl) (by decide) (mtch_bk ha hb h e)
end
theorem anyF_bk:∀ n,AS (Sx.anyF n)
 | 0=>fun _ _ _ _ e=>by cases e
 | n+1=>anyL_bk (Sx.anyF_un n) (read_bk (Sx.anyF_un n) (anyF_bk n)) (n+1)
end Vx
end Go.Proofs.YtkkchkkpnlnbgaaGreatDoor
namespace Go.Proofs.YtkkchkkpnlnbgaaGreatDoor
namespace Vx
open Sx (M Er)
open Lx (Tok)
structure PB (ns:List Sx.Node) (e:Bool) (c:List It):Prop where
 ne:ns≠[]
 em:Em 0 ns (ns.length-1) c
 el:e=true→El ns
 gd:Gd c
 last:∀ i,c.getLast?=some i→i=.nl
 back:∀ (ts q:List Tok),At c q ⟨ts,0,[]⟩→(q.headD Sx.E).kind=4→aoT (q.headD Sx.E)=false→(e=true∧∃ l,Sx.parse ts=.error (21,l))∨∃ ns',Sx.parse ts=.ok ns'∧ns'≠[]∧Em 0 ns' (ns'.length-1) c∧(e=false→ns'.map Sx.strip=ns.map Sx.strip)
theorem parse_bk {ts:List Tok} {ns:List Sx.Node} (hg:Sx.good ts=true) (hv:Vl ts) (hp:Sx.parse ts=.ok ns):∃ e c,PB ns e c:=by
 have hs:∃ u s,Sx.script (ts.length+1) ⟨ts,0,[]⟩=.ok (u,s)∧s.ns=ns:=by
  unfold Sx.parse at hp
  split at hp
  ·cases hp
  ·rename_i u s h
   cases hp
   exact⟨_,_,h,rfl⟩
 obtain⟨u,s,h,hns⟩:=hs
 unfold Sx.script at h
 obtain⟨k,s1,h1,h2⟩:=Sx.bnd_inv h
 have hs1:s1.ns=ns:=by
  split at h2
  ·cases h2;exact hns
  ·cases h2
 obtain⟨ms,e,c,b⟩:=anyF_bk (ts.length+1) ⟨ts,0,[]⟩ k s1 ⟨hg,hv,Nat.zero_le _⟩ h1
 have hms:ns=ms:=by rw[←hs1,b.ns];rfl
 have hk:k=ns.length-1:=by have:=b.kk;rw[hms];simp at this;omega
 refine⟨e,c,⟨by rw[hms];exact b.ne,by rw[←hk,hms];exact b.em,fun he=>by rw[←hs1];exact b.el he,b.gd,b.be.2.2,fun ts' q ha h4 hao=>?_⟩⟩
 have ho:=b.back ts'.length q ⟨ts',0,[]⟩ ha ⟨by rw[h4];decide,hao⟩ (Nat.le_refl _)
 have hlr:lsR ts'.length=Sx.anyF (ts'.length+1):=rfl
 rw[hlr] at ho
 rcases ho with⟨l,hx,he⟩ | ⟨ms',s1',k',hx,r,hk',hne,hem,hkd⟩
 ·refine .inl ⟨?_,l,?_⟩
  ·rcases he with he | he
   ·exact he
   ·exact absurd he (Nat.lt_irrefl _)
  ·unfold Sx.parse Sx.script
   rw[Sx.bnd_error hx]
 ·have hkd4:(Sx.hd s1').kind=4:=by rw[hd_q r.r];exact h4
  have hns':s1'.ns=ms':=by rw[r.ns];rfl
  refine .inr ⟨ms',?_,hne,?_,fun he=>by rw[hms];exact r.eq he rfl⟩
  ·unfold Sx.parse Sx.script
   rw[Sx.bnd_ok hx,if_pos hkd4]
   simp only[hns']
  ·have:k'=ms'.length-1:=by simp at hk';omega
   rw[←this]
   exact hem
end Vx
end Go.Proofs.YtkkchkkpnlnbgaaGreatDoor
namespace Go.Proofs.YtkkchkkpnlnbgaaGreatDoor
namespace Lx
theorem word_again2 {l t r:L} (h:word l=.ok (t,r)) (r':L) (hr:ends r'=true) (hg:¬ Bad r'):word (t++r')=.ok (t,r')∧(¬ Bad l→¬ Bad (t++r')):=by
 generalize hn:l.length+1=n
 unfold word at h
 rw[hn] at h
 clear hn
 induction n generalizing l t r with
 | zero=>cases h
 | succ n ih=>
  unfold wordF at h
  split at h
  ·cases h
   refine⟨?_,fun _=>hg⟩
   rw[List.nil_append,word_at,hr,if_pos rfl]
  ·rename_i he
   cases e:part 0 l with
   | error e'=>rw[e] at h;cases h
   | ok x=>
    obtain⟨t1,r1⟩:=x
    rw[e] at h
    obtain⟨v,h1,rfl⟩:=pre_inv h
    obtain⟨h2,h3⟩:=ih h1
    rw[List.append_assoc]
    by_cases ht:t1=[]
    ·subst ht
     refine⟨h2,fun hb=>?_⟩
     rcases part_head e with⟨_,rfl⟩ | ⟨b,_,_,h7⟩ | ⟨c,l',t',_,_,h7⟩
     ·exact absurd (.inr (.inr ⟨rfl,rfl⟩)) hb
     ·cases h7
     ·cases h7
    ·have h5:=part_again e ht (v++r') (fun ht=>by subst ht;exact h3 (part_dollar e))
     refine⟨?_,fun hb=>part_good e hb _⟩
     have h6:ends (t1++(v++r'))=ends l:=by
      rcases part_head e with⟨h7,_⟩ | ⟨b,_,rfl,rfl⟩ | ⟨c,l',t',_,rfl,rfl⟩
      ·exact absurd h7 ht
      ·rfl
      ·rfl
     rw[word_at,h6,if_neg he,h5]
     simp only[h2,pre_ok]
theorem cut_no:∀ l:L,(10:UInt8)∉(cut l).1
 | []=>by simp[cut]
 | c::r=>by
  unfold cut
  by_cases h:c=10
  ·rw[if_pos h];simp
  ·rw[if_neg h]
   intro hm
   rcases List.mem_cons.1 hm with e | e
   ·exact h e.symm
   ·exact cut_no r e
theorem cut_line2:∀ (a r:L),(10:UInt8)∉a→cut (a++10::r)=(a,r)
 | [],r,_=>by simp[cut]
 | c::a,r,h=>by
  have hc:c≠10:=fun e=>h (by rw[e];exact List.mem_cons_self ..)
  rw[List.cons_append,cut,if_neg hc,cut_line2 a r (fun hm=>h (List.mem_cons_of_mem _ hm))]
theorem doc_again {last:L}:∀ (n:Nat) (l b r:L),l.length<n→doc last l=some (b,r)→∀ r',doc last (b++last++10::r')=some (b,r')
 | 0,_,_,_,hn,_,_=>by omega
 | n+1,l,b,r,hn,h,r'=>by
  rw[doc_at] at h
  split at h
  ·cases h
  ·rename_i hl
   have hlt:=cut_len l hl
   split at h
   ·rename_i hc
    cases h
    rw[List.nil_append,doc_at,if_neg (by simp),cut_line2 last r' (by rw[←hc];exact cut_no l),if_pos rfl]
   ·rename_i hc
    cases e:doc last (cut l).2 with
    | none=>rw[e] at h;cases h
    | some p=>
     rw[e] at h
     cases h
     have ih:=doc_again n (cut l).2 p.1 p.2 (by omega) e r'
     rw[List.append_assoc,List.append_assoc,List.cons_append,←List.append_assoc,doc_at,if_neg (by simp),cut_line2 _ _ (cut_no l)]
     simp only
     rw[if_neg hc,ih]
     rfl
theorem sign_none2 {c:UInt8} {r:L} (h:sign (c::r)=none):c≠124∧c≠59∧c≠60∧c≠62∧c≠40∧c≠41:=by
 refine⟨?_,?_,?_,?_,?_,?_⟩ <;>
 ·intro e
  subst e
  simp only[sign] at h
  revert h
  simp
  try (split <;> simp)
theorem sign_name {l t r:L} (h:sign l=some (t,r)):nameB t=false:=by
 cases l with
 | nil=>cases h
 | cons c l=>
  unfold sign at h
  repeat' (split at h)
  all_goals first
   |(cases h;done)
   |(cases h;rfl)
   |(rename_i hc;cases h;rcases hc with rfl | rfl <;> rfl)
theorem digits_name {t:L} (h:digits t=true):nameB t=false∧t≠[60,60]:=by
 cases t with
 | nil=>exact⟨rfl,by simp⟩
 | cons c l=>
  have hc:dig c=true:=by
   unfold digits at h
   rw[List.all_cons,Bool.and_eq_true] at h
   exact h.1
  refine⟨?_,?_⟩
  ·unfold nameB
   simp[hc]
  ·intro e
   injection e with e1 e2
   rw[e1] at hc
   exact absurd hc (by decide)
theorem word_ok {c:UInt8} {r t r':L} (h1:¬ (c=32∨c=9)) (h2:¬ (c=92∧r.head?=some 10)) (h3:c≠35) (h4:c≠10) (h5:sign (c::r)=none) (h6:c≠38) (h:word (c::r)=.ok (t,r')):Vx.WordOk t:=by
 obtain⟨s1,s2,s3,s4,s5,s6⟩:=sign_none2 h5
 have he:ends (c::r)=false:=by
  show stop c=false
  unfold stop
  simp only[not_or] at h1
  simp[h1.1,h1.2,h4,s2,h6,s1,s5,s6,s3,s4]
 obtain⟨w1,w2,w3⟩:=word_head h he (by simpa using h2)
 refine⟨?_,?_,fun hh=>(w3 hh).1,fun q hq hb=>(word_again2 h q hq hb).1⟩
 ·cases t with
  | nil=>exact absurd rfl w1
  | cons b t=>
   have e:b=c:=by simpa using w2
   rw[e]
   exact he
 ·rw[w2]
  simpa using h3
end Lx
namespace Vx
open Lx (Tok)
structure Pv (out:List Tok) (here:List Nat):Prop where
 tv:∀ t∈out,Tv t∧(t.text=[60,60]→t.kind=2)
 two:∀ (i:Nat) (t u:Tok),out[i]?=some t→out[i+1]?=some u→u.kind=1→(t.text=[60,60]→i+1∈here∨DocOk u.text u.body)∧(t.text≠[60,60]→u.body=[])
 here:∀ k∈here,∃ (i:Nat) (t:Tok),k=i+1∧out[i]?=some t∧t.text=[60,60]
theorem hung_at {out:List Tok}:Lx.hung out=true↔∃ (i:Nat) (t:Tok),out.length=i+1∧out[i]?=some t∧t.kind=2∧t.text=[60,60]:=by
 unfold Lx.hung
 rw[List.getLast?_eq_getElem?]
 constructor
 ·intro h
  cases e:out[out.length-1]? with
  | none=>rw[e] at h;cases h
  | some t=>
   rw[e] at h
   simp only[Bool.and_eq_true,beq_iff_eq] at h
   have:=(List.getElem?_eq_some_iff.1 e).1
   exact⟨out.length-1,t,by omega,e,h.1,h.2⟩
 ·rintro⟨i,t,hl,ht,h1,h2⟩
  rw[hl,Nat.add_sub_cancel,ht]
  simp[h1,h2]
theorem Pv.snoc {out:List Tok} {here here':List Nat} (h:Pv out here) (u:Tok) (hu:Tv u) (h6:u.text=[60,60]→u.kind=2) (hb:u.body=[]) (hsub:∀ k∈here,k∈here') (hnew:u.kind=1→Lx.hung out=true→out.length∈here') (hback:∀ k∈here',k∈here∨(k=out.length∧Lx.hung out=true)):Pv (out++[u]) here':=by
 refine⟨fun t ht=>?_,fun i t v ht hv hk=>?_,fun k hk=>?_⟩
 ·rcases List.mem_append.1 ht with ht | ht
  ·exact h.tv t ht
  ·rw[List.mem_singleton.1 ht];exact⟨hu,h6⟩
 ·by_cases hi:i+1<out.length
  ·rw[List.getElem?_append_left (by omega)] at ht
   rw[List.getElem?_append_left hi] at hv
   obtain⟨a1,a2⟩:=h.two i t v ht hv hk
   exact⟨fun e=>(a1 e).imp (hsub _) id,a2⟩
  ·have hl:=(List.getElem?_eq_some_iff.1 hv).1
   rw[List.length_append,List.length_singleton] at hl
   have hie:i+1=out.length:=by omega
   rw[List.getElem?_append_left (by omega)] at ht
   rw[List.getElem?_append_right (by omega),show i+1-out.length=0 by omega] at hv
   simp only[List.getElem?_cons_zero,Option.some.injEq] at hv
   subst hv
   refine⟨fun e=>.inl ?_,fun _=>hb⟩
   rw[hie]
   exact hnew hk (hung_at.2 ⟨i,t,hie.symm,ht,(h.tv t (List.mem_of_getElem? ht)).2 e,e⟩)
 ·rcases hback k hk with h1 | ⟨h1,h2⟩
  ·obtain⟨i,t,e1,e2,e3⟩:=h.here k h1
   exact⟨i,t,e1,by rw[List.getElem?_append_left (List.getElem?_eq_some_iff.1 e2).1];exact e2,e3⟩
  ·obtain⟨i,t,e1,e2,_,e3⟩:=hung_at.1 h2
   exact⟨i,t,by rw[h1,e1],by rw[List.getElem?_append_left (List.getElem?_eq_some_iff.1 e2).1];exact e2,e3⟩
theorem Pv.lay {out:List Tok} {k:Nat} {ks:List Nat} {b l r:L} (h:Pv out (k::ks)) (e:Lx.doc (Lx.bare ((out[k]?.map Tok.text).getD [])) l=some (b,r)):Pv (Lx.lay k b out) ks:=by
 have key:∀ (i:Nat) (t:Tok),(Lx.lay k b out)[i]?=some t→∃ u,out[i]?=some u∧t.kind=u.kind∧t.text=u.text∧t.body=if k=i then b else u.body:=fun i t ht=>by
  rw[Lx.lay_at] at ht
  cases e:out[i]? with
  | none=>rw[e] at ht;cases ht
  | some u=>
   rw[e] at ht
   simp only[Option.map_some,Option.some.injEq] at ht
   subst ht
   by_cases hk:k=i
   ·simp[hk]
   ·simp[hk]
 refine⟨fun t ht=>?_,fun i t v ht hv hk=>?_,fun q hq=>?_⟩
 ·obtain⟨i,hi⟩:=List.mem_iff_getElem?.1 ht
  obtain⟨u,h1,h2,h3,_⟩:=key i t hi
  obtain⟨⟨a,b',c⟩,d⟩:=h.tv u (List.mem_of_getElem? h1)
  exact⟨⟨by rw[h2,h3];exact a,by rw[h2,h3];exact b',by rw[h2,h3];exact c⟩,by rw[h2,h3];exact d⟩
 ·obtain⟨t0,a1,a2,a3,a4⟩:=key i t ht
  obtain⟨v0,b1,b2,b3,b4⟩:=key (i+1) v hv
  rw[b2] at hk
  obtain⟨c1,c2⟩:=h.two i t0 v0 a1 b1 hk
  rw[a3,b3,b4]
  by_cases hki:k=i+1
  ·rw[if_pos hki]
   refine⟨fun _=>.inr ?_,fun hne=>?_⟩
   ·rw[hki,b1] at e
    exact fun r'=>Lx.doc_again _ l b r (Nat.lt_succ_self _) e r'
   ·obtain⟨i',t',e1,e2,e3⟩:=h.here k (List.mem_cons_self ..)
    obtain rfl:i'=i:=by omega
    rw[a1] at e2
    cases e2
    exact absurd e3 hne
  ·rw[if_neg hki]
   refine⟨fun ht=>?_,c2⟩
   rcases c1 ht with h1 | h1
   ·rcases List.mem_cons.1 h1 with e | e
    ·exact absurd e.symm hki
    ·exact .inl e
   ·exact .inr h1
 ·obtain⟨i,t,e1,e2,e3⟩:=h.here q (List.mem_cons_of_mem _ hq)
  refine⟨i,if k=i then { t with body:=b } else t,e1,by rw[Lx.lay_at,e2];rfl,?_⟩
  split <;> exact e3
theorem Pv.bodies {ks:List Nat} {out o:List Tok} {l r:L} (h:Pv out ks) (e:Lx.bodies ks out l=some (o,r)):Pv o []:=by
 induction ks generalizing out l with
 | nil=>cases e;exact h
 | cons k ks ih=>
  unfold Lx.bodies at e
  cases e1:Lx.doc (Lx.bare ((out[k]?.map Tok.text).getD [])) l with
  | none=>rw[e1] at e;cases e
  | some x=>obtain⟨b,r1⟩:=x;rw[e1] at e;exact ih (h.lay e1) e
theorem pv_step {l l':L} {out out':List Tok} {here here':List Nat} (h:Pv out here) (e:Lx.step l out here=.more l' out' here'):Pv out' here':=by
 unfold Lx.step at e
 cases l with
 | nil=>simp only at e;split at e <;> cases e
 | cons c r=>
  simp only at e
  split at e
  ·cases e;exact h
  ·rename_i hbl
   split at e
   ·cases e;exact h
   ·rename_i hjn
    split at e
    ·cases e;exact h
    ·rename_i h35
     split at e
     ·cases e1:Lx.bodies here (out++[⟨3,[],[],Lx.nl (c::r)⟩]) r with
      | none=>rw[e1] at e;cases e
      | some x=>
       rw[e1] at e
       cases e
       obtain⟨o,r'⟩:=x
       exact(h.snoc (here':=here) ⟨3,[],[],Lx.nl (c::r)⟩ ⟨fun h=>(by cases h),fun _=>rfl,fun _=>rfl⟩ (by simp) rfl (fun _ h=>h) (fun h=>by cases h) (fun _ h=>.inl h)).bodies e1
     ·rename_i h10
      cases e1:Lx.sign (c::r) with
      | some x=>
       obtain⟨t,r'⟩:=x
       rw[e1] at e
       cases e
       exact h.snoc _ ⟨fun h=>(by cases h),fun _=>Lx.sign_name e1,fun h=>by cases h⟩ (fun _=>rfl) rfl (fun _ h=>h) (fun h=>by cases h) (fun _ h=>.inl h)
      | none=>
       rw[e1] at e
       simp only at e
       split at e
       ·cases e
       ·rename_i h38
        cases e2:Lx.word (c::r) with
        | error x=>rw[e2] at e;cases e
        | ok x=>
         obtain⟨t,r'⟩:=x
         rw[e2] at e
         simp only at e
         split at e
         ·rename_i hio
          cases e
          have hd:Lx.digits t=true:=by unfold Lx.io at hio;simp only[Bool.and_eq_true] at hio;exact hio.1.1
          exact h.snoc _ ⟨fun h=>(by cases h),fun _=>(Lx.digits_name hd).1,fun h=>by cases h⟩ (fun h=>absurd h (Lx.digits_name hd).2) rfl (fun _ h=>h) (fun h=>by cases h) (fun _ h=>.inl h)
         ·cases e
          have hw:=Lx.word_ok hbl hjn h35 h10 e1 h38 e2
          refine h.snoc _ ⟨fun _=>hw,fun h=>absurd rfl h,fun h=>by cases h⟩ (fun h=>?_) rfl (fun k hk=>?_) (fun _ hh=>?_) (fun k hk=>?_)
          ·have:=hw.ends
           rw[show t=[60,60] from h] at this
           exact absurd this (by decide)
          ·split
           ·exact List.mem_append_left _ hk
           ·exact hk
          ·rw[if_pos hh];exact List.mem_append_right _ (List.mem_singleton.2 rfl)
          ·split at hk
           ·rename_i hh
            rcases List.mem_append.1 hk with hk | hk
            ·exact .inl hk
            ·exact .inr ⟨List.mem_singleton.1 hk,hh⟩
           ·exact .inl hk
theorem vl_of:∀ {ts:List Tok},(∀ t∈ts,Tv t)→(∀ (i:Nat) (t u:Tok),ts[i]?=some t→ts[i+1]?=some u→u.kind=1→(t.text=[60,60]→DocOk u.text u.body)∧(t.text≠[60,60]→u.body=[]))→Vl ts
 | [],_,_=>trivial
 | t::r,h1,h2=>⟨h1 t (List.mem_cons_self ..),fun u hu hk=>h2 0 t u rfl (by cases r with | nil=>cases hu | cons v r=>exact hu) hk,vl_of (fun t ht=>h1 t (List.mem_cons_of_mem _ ht)) fun i t u ht hu=>h2 (i+1) t u ht hu⟩
theorem all_vl {s:L} {o:List Tok} (h:Lx.all s=.ok o):Vl o:=by
 obtain⟨_,h2⟩:=Lx.run_ind (fun _ out here=>Pv out here) (fun l out here l' out' here' h e=>pv_step h e) s [] [] ⟨by simp,by simp,by simp⟩
 obtain⟨l',o',hh,h3,h4⟩:=h2 o h
 have hfin:Pv o []:=by
  unfold Lx.step at h4
  cases l' with
  | nil=>
   simp only at h4
   split at h4
   ·rename_i h0
    have:=Lx.Step.done.inj h4
    subst this
    subst h0
    exact h3.snoc _ ⟨fun h=>(by cases h),fun _=>rfl,fun _=>rfl⟩ (by simp) rfl (fun _ h=>h) (fun h=>by cases h) (fun _ h=>.inl h)
   ·cases h4
  | cons c r=>
   simp only at h4
   repeat' (split at h4)
   all_goals first | cases h4
 refine vl_of (fun t ht=>(hfin.tv t ht).1) fun i t u ht hu hk=>?_
 obtain⟨a,b⟩:=hfin.two i t u ht hu hk
 exact⟨fun e=>(a e).elim (fun h=>by cases h) id,b⟩
end Vx
end Go.Proofs.YtkkchkkpnlnbgaaGreatDoor
