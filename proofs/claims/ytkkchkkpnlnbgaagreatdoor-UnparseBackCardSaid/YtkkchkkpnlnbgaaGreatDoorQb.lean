/- Scripts read again: what a command is read as, once and again; simple commands. No premises. -/
import Derived.Test.YtkkchkkpnlnbgaaGreatDoorQa
namespace Go.Proofs.YtkkchkkpnlnbgaaGreatDoor
namespace Vx
open Sx (Arw M Er good Wk)
open Lx (Tok)
open Up (S nodeF)
def El (ns:List Sx.Node):Prop:=∃ (i:Nat) (n:Sx.Node),ns[i]?=some n∧n.kind=6∧n.kids.length=3∧(ns[n.kids.getD 2 0]?).map Sx.Node.kind=some 6
theorem El.app {ns:List Sx.Node} (h:El ns) (l:List Sx.Node):El (ns++l):=by
 have key:∀ (i:Nat) (n:Sx.Node),ns[i]?=some n→(ns++l)[i]?=some n:=fun i n hi=>by
  rw[List.getElem?_append_left (by
   rcases Nat.lt_or_ge i ns.length with h1 | h1
   ·exact h1
   ·rw[List.getElem?_eq_none h1] at hi;cases hi)]
  exact hi
 obtain⟨i,n,h1,h2,h3,h4⟩:=h
 refine⟨i,n,key i n h1,h2,h3,?_⟩
 cases e:ns[n.kids.getD 2 0]? with
 | none=>rw[e] at h4;cases h4
 | some m=>rw[e] at h4;rw[key _ m e];exact h4
structure Re (s:Sx.St) (ms:List Sx.Node) (e:Bool) (q:List Tok) (s':Sx.St) (ms':List Sx.Node) (s1':Sx.St):Prop where
 r:s1'.r=q
 d:s1'.d=s'.d
 ns:s1'.ns=s'.ns++ms'
 eq:e=false→s'.ns.length=s.ns.length→ms'.map Sx.strip=ms.map Sx.strip
def Out (s:Sx.St) (ms:List Sx.Node) (e:Bool) (c:List It) (v:Nat) (q:List Tok) (s':Sx.St) (x:Except Er (Nat×Sx.St)):Prop:=
 (∃ l,x=.error (21,l)∧(e=true∨s.d<s'.d))∨∃ ms' s1' k',x=.ok (k',s1')∧Re s ms e q s' ms' s1'∧k'+1=s'.ns.length+ms'.length∧ms'≠[]∧Em s'.ns.length ms' k' c∧Kd s'.ns.length ms' k' v
def bg:It→Bool
 | .ar _=>true
 | .tk k t=>(k==1 || k==2) && (t==[33] || (k==1 && !Sx.isRes t) || Sx.isComp t)
 | _=>false
def Beg (c:List It):Prop:=∃ i l,c=i::l∧bg i=true
theorem Beg.app {c:List It} (h:Beg c) (d:List It):Beg (c++d):=by
 obtain⟨i,l,rfl,h⟩:=h
 exact⟨i,l++d,rfl,h⟩
theorem Beg.at {c:List It} {q:List Tok} {s:Sx.St} (h:Beg c) (ha:At c q s):Sx.atAndOr s=true∧(Sx.hd s).kind≠3∧s.r≠[]:=by
 obtain⟨i,l,rfl,h⟩:=h
 cases i with
 | sp=>cases h
 | nl=>cases h
 | ar x=>
  obtain⟨h1,_,_,_,_,_,h7,_⟩:=ha.ar
  exact⟨by unfold Sx.atAndOr Sx.atSimple Sx.atRedir;rw[h1];simp,by rw[h1];decide,h7⟩
 | tk k t=>
  obtain⟨h1,h2,_,h4,_⟩:=ha.tk
  unfold bg at h
  simp only[Bool.and_eq_true,Bool.or_eq_true,beq_iff_eq,Bool.not_eq_true'] at h
  refine⟨?_,by rw[h1];rcases h.1 with h | h <;> rw[h] <;> decide,h4⟩
  unfold Sx.atAndOr Sx.atSimple Sx.isT
  rw[h1,h2]
  rcases h.2 with(h | h) | h
  ·rw[h];simp
  ·rw[h.1,h.2];simp
  ·rw[h];simp
theorem dl_of {s:Sx.St} (h:(Sx.hd s).kind≠3):Sx.dl s=s:=by
 unfold Sx.dl
 cases s with
 | mk r d ns=>
  cases r with
  | nil=>rfl
  | cons t r=>rw[show Sx.dropL (t::r)=t::r by unfold Sx.dropL;exact if_neg h]
structure Bk (s s1:Sx.St) (k:Nat) (Fo:Tok→Prop) (Be:List It→Prop) (R:Nat→M Nat) (P:List It→List It) (ms:List Sx.Node) (e:Bool) (c:List It) (v:Nat):Prop where
 ns:s1.ns=s.ns++ms
 d:s1.d=s.d
 kk:k+1=s.ns.length+ms.length
 ne:ms≠[]
 em:Em s.ns.length ms k c
 kd:Kd s.ns.length ms k v
 el:e=true→El s1.ns
 gd:Gd c
 be:Be c
 back:∀ (n:Nat) (q:List Tok) (s':Sx.St),At (P c) q s'→Fo (q.headD Sx.E)→s'.r.length≤n→Out s ms e c v q s' (R n s')
theorem shape_of {k:Nat} {s s1:Sx.St} {ks:List Nat} {ms:List Sx.Node} (w:Wk k s s1 ks) (h:s1.ns=s.ns++ms):∀ n∈ms,Sx.shapeB n=true:=by
 obtain⟨l,h1,h2⟩:=w.fo
 rw[h1] at h
 rw[←List.append_cancel_left h]
 exact h2.shape
theorem WordOk.arrow {t:L} (h:WordOk t):Sx.isArrow t=false:=by
 cases e:Sx.isArrow t with
 | false=>rfl
 | true=>
  unfold Sx.isArrow at e
  simp only[Bool.or_eq_true,beq_iff_eq] at e
  have:=h.ends
  rcases e with((e | e) | e) | e <;> (rw[e] at this;exact absurd this (by decide))
theorem add_ok {s s1:Sx.St} {n:Sx.Node} {k:Nat} (h:Sx.add n s=.ok (k,s1)):k=s.ns.length∧s1={ s with ns:=s.ns++[n] }:=by
 unfold Sx.add at h
 cases h
 exact⟨rfl,rfl⟩
def bgc:It→Bool
 | .ar _=>true
 | .tk k t=>(k==1 || k==2) && ((k==1 && !Sx.isRes t) || Sx.isComp t)
 | _=>false
def BegC (c:List It):Prop:=∃ i l,c=i::l∧bgc i=true
theorem BegC.app {c:List It} (h:BegC c) (d:List It):BegC (c++d):=by
 obtain⟨i,l,rfl,h⟩:=h
 exact⟨i,l++d,rfl,h⟩
theorem BegC.beg {c:List It} (h:BegC c):Beg c:=by
 obtain⟨i,l,rfl,h⟩:=h
 refine⟨i,l,rfl,?_⟩
 cases i with
 | sp=>cases h
 | nl=>cases h
 | ar x=>rfl
 | tk k t=>
  unfold bgc at h
  unfold bg
  simp only[Bool.and_eq_true,Bool.or_eq_true] at h⊢
  exact⟨h.1,h.2.elim (fun h=>.inl (.inr h)) .inr⟩
theorem num_not (n:Nat):Up.num n≠[33]:=by
 unfold Up.num
 split
 ·rename_i h
  have:∀ n,n<10→[UInt8.ofNat (48+n)]≠[33]:=by decide
  exact this n h
 ·simp
theorem BegC.not {c:List It} {q:List Tok} {s:Sx.St} (h:BegC c) (ha:At c q s):Sx.isT [33] s=false:=by
 obtain⟨i,l,rfl,h⟩:=h
 unfold Sx.isT
 cases i with
 | sp=>cases h
 | nl=>cases h
 | ar x=>rw[ha.ar.2.1];exact beq_eq_false_iff_ne.2 (num_not _)
 | tk k t=>
  rw[ha.tk.2.1]
  refine beq_eq_false_iff_ne.2 fun e=>?_
  subst e
  have h:((k==1 || k==2) && ((k==1 && !Sx.isRes [33]) || Sx.isComp [33]))=true:=h
  rw[show Sx.isRes [33]=true from rfl,show Sx.isComp [33]=false from rfl] at h
  simp at h
theorem bgc_word {t:L} (h:Sx.isRes t=false):bgc (.tk 1 t)=true:=by simp[bgc,h]
def cmdR (n:Nat):M Nat:=Sx.command (Sx.anyF n) (n+1)
theorem simple_bk {N k:Nat} {s s1:Sx.St} (h:Gs s) (ha:Sx.atSimple s=true) (e:Sx.simple N s=.ok (k,s1)):∃ ms e c v,Bk s s1 k Fo1 BegC cmdR (fun c=>c) ms e c v:=by
 have hw:=Sx.simple_un N h.good ha e
 unfold Sx.simple at e
 obtain⟨⟨ws,rs⟩,s2,hx,e⟩:=Sx.bnd_inv e
 obtain⟨rfl,rfl⟩:=add_ok e
 obtain⟨l1,l2,a1,a2,a3,a4,a5,a6,a7⟩:=simF_ok N h hx
 rw[List.nil_append] at a1 a2
 subst ws
 subst rs
 rw[a5] at hw⊢
 have hd2:s2.d=s.d:=hw.d
 have hn:=shape_of hw rfl _ (List.mem_singleton.2 rfl)
 have hb:bodyI ({ kind:=1,words:=l1,sets:=Sx.sets l1,redirs:=l2,left:=(Sx.hd s).left }:Sx.Node) [] false=redirsI (decide (l1≠[])) l2++join [.sp] (l1.map wd):=rfl
 have hem:∀ (b lf:Nat),Em b [{ kind:=1,words:=l1,sets:=Sx.sets l1,redirs:=l2,left:=lf }] (b+0) (redirsI (decide (l1≠[])) l2++join [.sp] (l1.map wd)):=fun b lf=>
  Em.node (ms:=[]) (cs:=[]) (v:=0) (b:=b) (show Ems b [] [] [] from trivial) (fun h=>by cases h) hn ⟨by simp,by simp⟩
 have hfst:(l2≠[])∨(l2=[]∧∃ l,l1=(Sx.hd s).text::l∧Sx.isRes (Sx.hd s).text=false):=by
  by_cases hk:(Sx.hd s).kind=1
  ·obtain⟨l,hl⟩:=a6 hk
   have hr:Sx.isRes (Sx.hd s).text=false:=by
    unfold Sx.atSimple Sx.atRedir at ha
    rw[(h.vl.hd.word hk).arrow,hk] at ha
    simpa using ha
   by_cases hl2:l2=[]
   ·exact .inr ⟨hl2,l,hl,hr⟩
   ·exact .inl hl2
  ·refine .inl (a7 hk ?_)
   unfold Sx.atSimple at ha
   simpa [hk] using ha
 have hbeg:BegC (redirsI (decide (l1≠[])) l2++join [.sp] (l1.map wd)):=by
  rcases hfst with hl2 | ⟨rfl,l,rfl,hr⟩
  ·cases l2 with
   | nil=>exact absurd rfl hl2
   | cons x l2=>
    refine BegC.app ?_ _
    cases l2 with
    | nil=>unfold redirsI;split <;> exact⟨_,_,rfl,rfl⟩
    | cons y l2=>exact⟨_,_,rfl,rfl⟩
  ·cases l with
   | nil=>exact⟨_,_,rfl,bgc_word hr⟩
   | cons y l=>exact⟨_,_,rfl,bgc_word hr⟩
 refine⟨[_],false,_,1,⟨rfl,hd2,rfl,by simp,hem _ _,Kd.node (ms:=[]) _,fun h=>(by cases h),Gd.simple a3 a4,hbeg,fun n q s' hat hq hn'=>.inr ?_⟩⟩
 obtain⟨s3,f1,f2,f3,f4⟩:=simF_back hat (fun x hx=>(a4 x hx).fd) hq (show s'.r.length<n+1 by omega)
 have hdis:Sx.atFunc s'=false∧Sx.atSimple s'=true:=by
  rcases hfst with hl2 | ⟨rfl,l,rfl,hr⟩
  ·cases l2 with
   | nil=>exact absurd rfl hl2
   | cons x l2=>
    have h0:At (.ar x::(redirsI (decide (l1≠[])) l2++join [.sp] (l1.map wd))) q s':=by
     cases l2 with
     | nil=>unfold redirsI at hat;cases l1 <;> exact hat
     | cons y l2=>exact hat
    obtain⟨h1,h2,_⟩:=h0.ar
    refine⟨?_,by unfold Sx.atSimple Sx.atRedir;rw[h1];simp⟩
    unfold Sx.atFunc
    rw[h2,(num_num x.fd (by have:=(a4 x (by simp)).fd;omega)).2.2]
    rfl
  ·have h0:At (.tk 1 (Sx.hd s).text::join [.sp] (l.map wd)) q s':=by
    cases l with
    | nil=>exact hat
    | cons y l=>exact hat
   obtain⟨h1,h2,_,_,h5⟩:=h0.tk
   refine⟨?_,by unfold Sx.atSimple;rw[h1,h2,hr];rfl⟩
   have h6:(Sx.hd (Sx.go s')).text≠[40]:=by
    cases l with
    | nil=>
     have h7:=At.nil h5
     rw[←hd_q h7] at hq
     exact hq.not.2.2
    | cons y l=>
     have h8:At (.tk 1 y::join [.sp] (l.map wd)) q (Sx.go s'):=by
      cases l with
      | nil=>exact h5
      | cons z l=>exact h5
     obtain⟨_,h9,_⟩:=h8.tk
     rw[h9]
     exact(a3 y (by simp)).open_
   unfold Sx.atFunc
   rw[show ((Sx.hd (Sx.go s')).text==[40])=false by simpa using h6]
   simp
 refine⟨[{ kind:=1,words:=l1,sets:=Sx.sets l1,redirs:=l2,left:=(Sx.hd s').left }],{ s3 with ns:=s3.ns++[{ kind:=1,words:=l1,sets:=Sx.sets l1,redirs:=l2,left:=(Sx.hd s').left }] },s3.ns.length,?_,⟨f2,f3,by simp only[f4],fun _ _=>rfl⟩,by rw[f4];rfl,by simp,by rw[f4];exact hem _ _,by rw[f4];exact Kd.node (ms:=[]) _⟩
 unfold cmdR Sx.command
 rw[if_neg (by rw[hdis.1];decide),if_pos hdis.2]
 unfold Sx.simple
 rw[Sx.bnd_ok f1]
 rfl
end Vx
end Go.Proofs.YtkkchkkpnlnbgaaGreatDoor
namespace Go.Proofs.YtkkchkkpnlnbgaaGreatDoor
namespace Vx
open Sx (Arw M Er good Wk)
open Lx (Tok)
open Up (S nodeF)
def aoT (t:Tok):Bool:=t.text==[33] || (t.kind==1 && !Sx.isRes t.text || (t.kind==5 || Sx.isArrow t.text)) || Sx.isComp t.text
theorem aoT_hd (s:Sx.St):Sx.atAndOr s=aoT (Sx.hd s):=rfl
def Fc (t:Tok):Prop:=t.kind≠3∧aoT t=false
def LsB (b:Bool) (c:List It):Prop:=(b=true→Beg c)∧(c=[]∨Beg c)∧∀ i,c.getLast?=some i→i=.nl
def lsR (n:Nat):M Nat:=Sx.anyF (n+1)
def AS (a:M Nat):Prop:=∀ s k s1,Gs s→a s=.ok (k,s1)→∃ ms e c,Bk s s1 k Fc (LsB (Sx.atAndOr (Sx.dl s))) lsR (fun c=>c) ms e c 5
section
variable {c d:List It} {q:List Tok} {s:Sx.St}
theorem need_at {k:Nat} {t:L} (h:At (.tk k t::c) q s):Sx.need t s=.ok ((),Sx.go s)∧At c q (Sx.go s)∧(Sx.go s).r.length+1=s.r.length:=by
 obtain⟨_,h2,_,h4,h5⟩:=h.tk
 exact⟨by unfold Sx.need Sx.isT;rw[h2,if_pos (by simp)],h5,go_len h4⟩
theorem tk_head {k:Nat} {t:L} {q2:List Tok} (h:∀ s2:Sx.St,s2.r=q→At (.tk k t::c) q2 s2):(q.headD Sx.E).kind=k∧(q.headD Sx.E).text=t:=by
 obtain⟨h1,h2,_⟩:=(h ⟨q,0,[]⟩ rfl).tk
 exact⟨h1,h2⟩
end
theorem Fc.tk {c:List It} {q q2:List Tok} {k:Nat} {t:L} (h:∀ s2:Sx.St,s2.r=q→At (.tk k t::c) q2 s2) (hk:k≠3) (hb:aoT ⟨k,t,[],0⟩=false):Fc (q.headD Sx.E):=by
 obtain⟨h1,h2⟩:=tk_head h
 exact⟨by rw[h1];exact hk,by unfold aoT at hb⊢;rw[h1,h2];exact hb⟩
theorem Out.cast {s t s' t':Sx.St} {ms:List Sx.Node} {e:Bool} {c:List It} {v:Nat} {q:List Tok} {x:Except Er (Nat×Sx.St)} (h:Out t ms e c v q t' x) (h1:t.ns=s.ns) (h2:t.d=s.d) (h3:t'.ns=s'.ns) (h4:t'.d=s'.d):Out s ms e c v q s' x:=by
 rcases h with⟨l,hx,h⟩ | ⟨ms',s1',k',hx,r,hk,hne,hem,hkd⟩
 ·exact .inl ⟨l,hx,by rw[←h2,←h4];exact h⟩
 ·exact .inr ⟨ms',s1',k',hx,⟨r.r,r.d.trans h4,by rw[←h3];exact r.ns,fun a b=>r.eq a (by rw[h3,h1];exact b)⟩,by rw[←h3];exact hk,hne,by rw[←h3];exact hem,by rw[←h3];exact hkd⟩
theorem drop_drop (r:List Tok):Sx.dropL (Sx.dropL r)=Sx.dropL r:=by
 induction r with
 | nil=>rfl
 | cons t r ih=>
  by_cases hk:t.kind=3
  ·rw[show Sx.dropL (t::r)=Sx.dropL r by rw[Sx.dropL,if_pos hk]];exact ih
  ·have:Sx.dropL (t::r)=t::r:=by rw[Sx.dropL,if_neg hk]
   rw[this,this]
theorem Re.trans {s s1 s' s1' s2':Sx.St} {ms1 ms2 ms1' ms2':List Sx.Node} {e1 e2:Bool} {q1 q2:List Tok} (r1:Re s ms1 e1 q1 s' ms1' s1') (h:s1.ns=s.ns++ms1) (r2:Re s1 ms2 e2 q2 s1' ms2' s2'):Re s (ms1++ms2) (e1 || e2) q2 s' (ms1'++ms2') s2':=by
 refine⟨r2.r,r2.d.trans r1.d,by rw[r2.ns,r1.ns,List.append_assoc],fun he hl=>?_⟩
 rw[Bool.or_eq_false_iff] at he
 have h1:=r1.eq he.1 hl
 have h2:=congrArg List.length h1
 rw[List.length_map,List.length_map] at h2
 rw[List.map_append,List.map_append,h1,r2.eq he.2 (by rw[r1.ns,h,List.length_append,List.length_append];omega)]
theorem Out.kk {s s':Sx.St} {ms ms':List Sx.Node} {e:Bool} {k k':Nat} {q:List Tok} {s1':Sx.St} (r:Re s ms e q s' ms' s1') (h:k+1=s.ns.length+ms.length) (h':k'+1=s'.ns.length+ms'.length):e=false→s'.ns.length=s.ns.length→k'=k∧s1'.ns.length=s.ns.length+ms.length:=fun he hl=>by
 have:=congrArg List.length (r.eq he hl)
 rw[List.length_map,List.length_map] at this
 refine⟨by omega,?_⟩
 rw[r.ns,List.length_append]
 omega
section
variable {a:M Nat} (ha:Sx.UnA a) (hb:AS a)
include ha hb
omit ha in
theorem lst_bk {k:Nat} {s s1:Sx.St} (h:Gs s) (e:Sx.lst a s=.ok (k,s1)):∃ ms e c,Bk s s1 k Fc (fun c=>LsB true c) (fun n=>Sx.lst (Sx.anyF n)) (fun c=>.nl::c) ms e c 5:=by
 unfold Sx.lst at e
 obtain⟨_,s2,h2,e⟩:=Sx.bnd_inv e
 obtain⟨rfl,hw⟩:=Sx.lines_un h.good h2
 by_cases hao:Sx.atAndOr (Sx.dl s)=true
 ·rw[if_pos hao] at e
  obtain⟨ms,b,c,r⟩:=hb _ k s1 (h.of hw) e
  have hdl:Sx.dl (Sx.dl s)=Sx.dl s:=by unfold Sx.dl;simp only[drop_drop]
  have hbe:=r.be
  rw[hdl,hao] at hbe
  refine⟨ms,b,c,r.ns,r.d,r.kk,r.ne,r.em,r.kd,r.el,r.gd,hbe,fun n q s' hat hq hn=>?_⟩
  obtain⟨h1,h2,h3,h4⟩:=At.nl (c:=c) hat
  have hl:=go_len h3
  obtain⟨m,rfl⟩:∃ m,n=m+1:=⟨n-1,by omega⟩
  obtain⟨b1,b2,_⟩:=(hbe.1 rfl).at h4
  have hd:Sx.dl s'=Sx.go s':=by
   have h5:=dl_of b2
   unfold Sx.dl Sx.go at *
   cases e5:s'.r with
   | nil=>exact absurd e5 h3
   | cons t r=>
    rw[Sx.hd_cons e5] at h1
    rw[e5] at h5
    rw[show Sx.dropL (t::r)=Sx.dropL r by rw[Sx.dropL,if_pos h1]]
    simp only[List.tail_cons,Sx.St.mk.injEq,and_true] at h5⊢
    exact h5
  have:=r.back m q (Sx.go s') h4 hq (by omega)
  rw[show Sx.lst (Sx.anyF (m+1)) s'=lsR m (Sx.go s') by
   unfold Sx.lst
   rw[Sx.bnd_ok (a:=()) (s':=Sx.go s') (by unfold Sx.lines;rw[hd])]
   exact if_pos b1]
  exact this.cast rfl rfl rfl rfl
 ·rw[if_neg hao] at e
  cases e
end
end Vx
end Go.Proofs.YtkkchkkpnlnbgaaGreatDoor
namespace Go.Proofs.YtkkchkkpnlnbgaaGreatDoor
namespace Vx
open Sx (Arw M Er good Wk)
open Lx (Tok)
open Up (S nodeF)
theorem WordOk.plain {x:L} (h0:x≠[]) (h1:x.head?≠some 35) (h2:x.all Lx.plain=true):WordOk x:=by
 have hp:∀ c∈x,Lx.plain c=true:=List.all_eq_true.1 h2
 refine⟨?_,h1,?_,fun r hr _=>?_⟩
 ·cases x with
  | nil=>exact absurd rfl h0
  | cons c x=>
   have:=hp c (by simp)
   simp only[Lx.plain,Bool.and_eq_true,Bool.not_eq_true'] at this
   exact this.1
 ·cases x with
  | nil=>intro h;cases h
  | cons c x=>
   intro h
   cases h
   exact absurd (hp 92 (by simp)) (by decide)
 ·rw[Lx.word_plain x hp,Lx.word_at,hr,if_pos rfl,Lx.pre_ok,List.append_nil]
def Nc (b:Nat) (ms:List Sx.Node) (nd:Sx.Node) (c:List It):Prop:=∃ cs v,Ems b ms nd.kids cs∧(nd.kind=6→nd.kids.length=3→Kd b ms (nd.kids.getD 2 0) v)∧compI nd cs (v==6)=c∧(∀ rs l,Sx.shapeB { nd with redirs:=rs,left:=l }=true)∧(nd.kind=6∨nd.kind=7∨nd.kind=8∨nd.kind=9∨nd.kind=11∨nd.kind=12)
def OutN (s:Sx.St) (ms:List Sx.Node) (e:Bool) (c:List It) (q:List Tok) (s':Sx.St) (nd:Sx.Node) (x:Except Er (Sx.Node×Sx.St)):Prop:=
 (∃ l,x=.error (21,l)∧(e=true∨s.d<s'.d))∨∃ ms' s1' nd',x=.ok (nd',s1')∧Re s ms e q s' ms' s1'∧Nc s'.ns.length ms' nd' c∧nd'.kind=nd.kind∧(e=false→s'.ns.length=s.ns.length→Sx.strip nd'=Sx.strip nd)
structure Nk (s s1:Sx.St) (nd:Sx.Node) (R:Nat→M Sx.Node) (ms:List Sx.Node) (e:Bool) (c:List It):Prop where
 ns:s1.ns=s.ns++ms
 d:s1.d=s.d
 nc:Nc s.ns.length ms nd c
 el:e=true→∀ rs l,El (s1.ns++[{ nd with redirs:=rs,left:=l }])
 gd:Gd c
 back:∀ (n:Nat) (q:List Tok) (s':Sx.St),At c q s'→s'.r.length≤n→OutN s ms e c q s' nd (R n s')
theorem Gd.part {w:It} {c d:List It} (hw:iv w) (h0:Gd c) (hl:∀ i,c.getLast?=some i→i=.nl) (hr:Gd d):Gd (w::.nl::(c++d)):=
 Gd.blank (c:=[w]) (Gd.one hw) (.inr rfl) (Gd.cons_fr (.inr rfl) (h0.app hr fun i j hi _=>by rw[hl i hi];exact fr_adj (.inr rfl) j))
theorem iv_key {t:L} (h0:t≠[]) (h1:t.head?≠some 35) (h2:t.all Lx.plain=true):iv (.tk 1 t):=WordOk.plain h0 h1 h2
section
variable {a:M Nat} (ha:Sx.UnA a) (hb:AS a)
include ha hb
theorem group_bk {nd:Sx.Node} {s s1:Sx.St} (h:Gs s) (e:Sx.group a s=.ok (nd,s1)):∃ ms b c,Nk s s1 nd (fun n=>Sx.group (Sx.anyF n)) ms b c∧∃ l,c=.tk 1 [123]::l:=by
 have hsh:=(Sx.group_un ha h.good e).2
 unfold Sx.group at e
 obtain⟨_,s2,e2,e⟩:=Sx.bnd_inv e
 obtain⟨rfl,_,hw2⟩:=Sx.need_un (by decide) h.good e2
 obtain⟨i,s3,e3,e⟩:=Sx.bnd_inv e
 obtain⟨ms,b,c,r⟩:=lst_bk hb (h.of hw2) e3
 have hw3:=Sx.lst_un ha (h.of hw2).good e3
 obtain⟨_,s4,e4,e⟩:=Sx.bnd_inv e
 obtain⟨rfl,_,hw4⟩:=Sx.need_un (by decide) hw3.gd e4
 cases e
 refine⟨ms,b,.tk 1 [123]::.nl::(c++[.tk 1 [125]]),⟨r.ns,r.d,⟨[c],0,⟨r.em,trivial⟩,fun h=>(by cases h),by simp[compI],hsh,by simp⟩,fun h _ _=>(r.el h).app _,Gd.part (iv_key (by decide) (by decide) (by decide)) r.gd r.be.2.2 (Gd.one (iv_key (by decide) (by decide) (by decide))),fun n q s' hat hn=>?_⟩,_,rfl⟩
 obtain⟨n1,n2,n3⟩:=need_at hat
 obtain⟨q1,h1,h2⟩:=At.app (c:=.nl::c) (d:=[.tk 1 [125]]) n2
 rcases r.back n q1 (Sx.go s') h1 (Fc.tk h2 (by decide) (by decide)) (by omega) with⟨l,hx,hd⟩ | ⟨ms',s1',k',hx,r',hk,hne,hem,hkd⟩
 ·exact .inl ⟨l,by unfold Sx.group;rw[Sx.bnd_ok n1,Sx.bnd_error hx],hd⟩
 ·obtain⟨m1,m2,_⟩:=need_at (h2 s1' r'.r)
  exact .inr ⟨ms',Sx.go s1',({ kind:=11,kids:=[k'] }:Sx.Node),by unfold Sx.group;rw[Sx.bnd_ok n1,Sx.bnd_ok hx,Sx.bnd_ok m1];rfl,⟨m2.nil,r'.d,r'.ns,r'.eq⟩,⟨[c],0,⟨hem,trivial⟩,fun h=>(by cases h),by simp[compI],fun _ _=>rfl,by simp⟩,rfl,fun x y=>by rw[(Out.kk r' r.kk hk x y).1]⟩
theorem sub_bk {nd:Sx.Node} {s s1:Sx.St} (h:Gs s) (e:Sx.sub a s=.ok (nd,s1)):∃ ms b c,Nk s s1 nd (fun n=>Sx.sub (Sx.anyF n)) ms b c∧∃ l,c=.tk 2 [40]::l:=by
 have hsh:=(Sx.sub_un ha h.good e).2
 unfold Sx.sub at e
 obtain⟨_,s2,e2,e⟩:=Sx.bnd_inv e
 obtain⟨rfl,_,hw2⟩:=Sx.need_un (by decide) h.good e2
 obtain⟨i,s3,e3,e⟩:=Sx.bnd_inv e
 obtain⟨ms,b,c,r⟩:=lst_bk hb (h.of hw2) e3
 have hw3:=Sx.lst_un ha (h.of hw2).good e3
 obtain⟨_,s4,e4,e⟩:=Sx.bnd_inv e
 obtain⟨rfl,_,hw4⟩:=Sx.need_un (by decide) hw3.gd e4
 cases e
 refine⟨ms,b,.tk 2 [40]::.nl::(c++[.tk 2 [41]]),⟨r.ns,r.d,⟨[c],0,⟨r.em,trivial⟩,fun h=>(by cases h),by simp[compI],hsh,by simp⟩,fun h _ _=>(r.el h).app _,Gd.part (w:=.tk 2 [40]) (show [40]∈signs by decide) r.gd r.be.2.2 (Gd.one (i:=.tk 2 [41]) (show [41]∈signs by decide)),fun n q s' hat hn=>?_⟩,_,rfl⟩
 obtain⟨n1,n2,n3⟩:=need_at hat
 obtain⟨q1,h1,h2⟩:=At.app (c:=.nl::c) (d:=[.tk 2 [41]]) n2
 rcases r.back n q1 (Sx.go s') h1 (Fc.tk h2 (by decide) (by decide)) (by omega) with⟨l,hx,hd⟩ | ⟨ms',s1',k',hx,r',hk,hne,hem,hkd⟩
 ·exact .inl ⟨l,by unfold Sx.sub;rw[Sx.bnd_ok n1,Sx.bnd_error hx],hd⟩
 ·obtain⟨m1,m2,_⟩:=need_at (h2 s1' r'.r)
  exact .inr ⟨ms',Sx.go s1',({ kind:=12,kids:=[k'] }:Sx.Node),by unfold Sx.sub;rw[Sx.bnd_ok n1,Sx.bnd_ok hx,Sx.bnd_ok m1];rfl,⟨m2.nil,r'.d,r'.ns,r'.eq⟩,⟨[c],0,⟨hem,trivial⟩,fun h=>(by cases h),by simp[compI],fun _ _=>rfl,by simp⟩,rfl,fun x y=>by rw[(Out.kk r' r.kk hk x y).1]⟩
def doP (c:List It):List It:=.tk 1 Sx.kDO::.nl::(c++[.tk 1 Sx.kDONE])
theorem body_bk {k:Nat} {s s1:Sx.St} (h:Gs s) (e:Sx.body a s=.ok (k,s1)):∃ ms b c,Bk s s1 k (fun _=>True) (LsB true) (fun n=>Sx.body (Sx.anyF n)) doP ms b c 5:=by
 unfold Sx.body at e
 obtain⟨_,s2,e2,e⟩:=Sx.bnd_inv e
 obtain⟨rfl,_,hw2⟩:=Sx.need_un (by decide) h.good e2
 obtain⟨i,s3,e3,e⟩:=Sx.bnd_inv e
 obtain⟨ms,b,c,r⟩:=lst_bk hb (h.of hw2) e3
 have hw3:=Sx.lst_un ha (h.of hw2).good e3
 obtain⟨_,s4,e4,e⟩:=Sx.bnd_inv e
 obtain⟨rfl,_,hw4⟩:=Sx.need_un (by decide) hw3.gd e4
 cases e
 refine⟨ms,b,c,r.ns,r.d,r.kk,r.ne,r.em,r.kd,r.el,r.gd,r.be,fun n q s' hat _ hn=>?_⟩
 obtain⟨n1,n2,n3⟩:=need_at hat
 obtain⟨q1,h1,h2⟩:=At.app (c:=.nl::c) (d:=[.tk 1 Sx.kDONE]) n2
 rcases r.back n q1 (Sx.go s') h1 (Fc.tk h2 (by decide) (by decide)) (by omega) with⟨l,hx,hd⟩ | ⟨ms',s1',k',hx,r',hk,hne,hem,hkd⟩
 ·exact .inl ⟨l,by unfold Sx.body;rw[Sx.bnd_ok n1,Sx.bnd_error hx],hd⟩
 ·obtain⟨m1,m2,_⟩:=need_at (h2 s1' r'.r)
  exact .inr ⟨ms',Sx.go s1',k',by unfold Sx.body;rw[Sx.bnd_ok n1,Sx.bnd_ok hx,Sx.bnd_ok m1];rfl,⟨m2.nil,r'.d,r'.ns,r'.eq⟩,hk,hne,hem,hkd⟩
omit ha hb in
theorem iv_loop (f:Bool):iv (.tk 1 (if f then Sx.kUNTIL else Sx.kWHILE)):=by cases f <;> exact iv_key (by decide) (by decide) (by decide)
theorem loop_bk {nd:Sx.Node} {s s1:Sx.St} (h:Gs s) (ht:(Sx.hd s).text=Sx.kWHILE∨(Sx.hd s).text=Sx.kUNTIL) (e:Sx.loop a s=.ok (nd,s1)):∃ ms b c,Nk s s1 nd (fun n=>Sx.loop (Sx.anyF n)) ms b c∧∃ l,c=.tk 1 (Sx.hd s).text::l:=by
 have hne:(Sx.hd s).text≠[]:=by rcases ht with ht | ht <;> (rw[ht];decide)
 have hsh:=(Sx.loop_un ha h.good hne e).2
 have hw1:=Sx.Wk.go h.good (.inl hne)
 have htx:(Sx.hd s).text=(if Sx.isT Sx.kUNTIL s then Sx.kUNTIL else Sx.kWHILE):=by
  unfold Sx.isT
  rcases ht with ht | ht <;> (rw[ht];rfl)
 unfold Sx.loop at e
 obtain⟨i,s2,e2,e⟩:=Sx.bnd_inv e
 obtain⟨ms,b,c,r⟩:=lst_bk hb (h.of hw1) e2
 have hw2:=Sx.lst_un ha (h.of hw1).good e2
 obtain⟨j,s3,e3,e⟩:=Sx.bnd_inv e
 obtain⟨ms2,b2,c2,r2⟩:=body_bk ha hb ((h.of hw1).of hw2) e3
 cases e
 have hlen:s2.ns.length=s.ns.length+ms.length:=by rw[r.ns,List.length_append];rfl
 refine⟨ms++ms2,b || b2,.tk 1 (Sx.hd s).text::.nl::(c++doP c2),⟨by rw[r2.ns,r.ns,List.append_assoc];rfl,r2.d.trans r.d,⟨[c,c2],0,⟨r.em.right ms2,Em.left (by have:=r2.em;rw[hlen] at this;exact this),trivial⟩,fun h=>(by cases h),by simp[compI,doP,htx],hsh,by simp⟩,fun hor _ _=>El.app ?_ _,?_,fun n q s' hat hn=>?_⟩,_,rfl⟩
 ·rcases Bool.or_eq_true_iff.1 hor with hor | hor
  ·rw[r2.ns];exact(r.el hor).app _
  ·exact r2.el hor
 ·rw[htx]
  exact Gd.part (iv_loop _) r.gd r.be.2.2 (Gd.part (iv_key (by decide) (by decide) (by decide)) r2.gd r2.be.2.2 (Gd.one (iv_key (by decide) (by decide) (by decide))))
 ·obtain⟨n0,n1,_,n2,n3⟩:=hat.tk
  have n4:=go_len n2
  obtain⟨q1,h1,h2⟩:=At.app (c:=.nl::c) (d:=doP c2) n3
  have hu:Sx.isT Sx.kUNTIL s'=Sx.isT Sx.kUNTIL s:=by unfold Sx.isT;rw[n1]
  rcases r.back n q1 (Sx.go s') h1 (Fc.tk h2 (by decide) (by decide)) (by omega) with⟨l,hx,hd⟩ | ⟨ms',s1',k',hx,r',hk,hne,hem,hkd⟩
  ·exact .inl ⟨l,by show Sx.bnd _ _ _=_;rw[Sx.bnd_error hx],hd.imp (fun x=>by rw[x];rfl) id⟩
  ·have hq:s1'.r.length≤n:=by
    rw[r'.r]
    obtain⟨p,hp,_⟩:=h1
    have:(Sx.go s').r.length=p.length+q1.length:=by rw[hp,List.length_append]
    omega
   rcases r2.back n q s1' (h2 s1' r'.r) trivial hq with⟨l,hx2,hd⟩ | ⟨ms2',s2',k2',hx2,r2',hk2,hne2,hem2,hkd2⟩
   ·exact .inl ⟨l,by show Sx.bnd _ _ _=_;rw[Sx.bnd_ok hx,Sx.bnd_error hx2],by rw[r.d,r'.d] at hd;exact hd.imp (fun x=>by rw[x,Bool.or_true]) id⟩
   ·have hlen':s1'.ns.length=s'.ns.length+ms'.length:=by rw[r'.ns,List.length_append];rfl
    refine .inr ⟨ms'++ms2',s2',{ kind:=7,flag:=Sx.isT Sx.kUNTIL s',kids:=[k',k2'] },by show Sx.bnd _ _ _=_;rw[Sx.bnd_ok hx,Sx.bnd_ok hx2];rfl,Re.trans (s1:=s2) ⟨r'.r,r'.d,r'.ns,r'.eq⟩ r.ns r2',⟨[c,c2],0,⟨hem.right ms2',Em.left (by rw[hlen'] at hem2;exact hem2),trivial⟩,fun h=>(by cases h),by simp[compI,doP,htx,hu],fun _ _=>rfl,by simp⟩,rfl,fun x y=>?_⟩
    rw[Bool.or_eq_false_iff] at x
    obtain⟨z1,z2⟩:=Out.kk r' r.kk hk x.1 y
    obtain⟨z3,_⟩:=Out.kk r2' r2.kk hk2 x.2 (by rw[hlen];exact z2)
    rw[z1,z3,hu]
end
end Vx
end Go.Proofs.YtkkchkkpnlnbgaaGreatDoor
namespace Go.Proofs.YtkkchkkpnlnbgaaGreatDoor
namespace Vx
open Sx (Arw M Er good Wk)
open Lx (Tok)
open Up (S nodeF)
theorem redF_at (m:Nat) (rs:List Arw) (s:Sx.St):Sx.redF (m+1) rs s=if Sx.atRedir s=true then Sx.bnd Sx.redir (fun x=>Sx.redF m (rs++[x])) s else .ok (rs,s):=rfl
theorem redF_ok (m:Nat) {rs rs':List Arw} {s s1:Sx.St} (h:Gs s) (e:Sx.redF m rs s=.ok (rs',s1)):∃ l,rs'=rs++l∧(∀ x∈l,ArOk x)∧s1.ns=s.ns:=by
 induction m generalizing rs s with
 | zero=>cases e
 | succ m ih=>
  rw[redF_at] at e
  by_cases hr:Sx.atRedir s=true
  ·rw[if_pos hr] at e
   obtain⟨x,s2,hx,e⟩:=Sx.bnd_inv e
   have h1:=Sx.redir_un h.good hr hx
   obtain⟨b1,b2⟩:=redir_ok h hr hx
   obtain⟨l,a1,a2,a3⟩:=ih (h.of h1) e
   refine⟨x::l,by rw[a1,List.append_assoc];rfl,?_,a3.trans b2⟩
   intro y hy
   rcases List.mem_cons.1 hy with rfl | hy
   ·exact b1
   ·exact a2 y hy
  ·rw[if_neg hr] at e
   cases e
   exact⟨[],by simp,by simp,rfl⟩
theorem redF_back:∀ (l:List Arw) {q:List Tok} {s:Sx.St} (rs:List Arw) (m:Nat),At (behindI l) q s→(∀ x∈l,x.fd≤99)→Fo1 (q.headD Sx.E)→s.r.length<m→∃ s2,Sx.redF m rs s=.ok (rs++l,s2)∧s2.r=q∧s2.d=s.d∧s2.ns=s.ns
 | [],q,s,rs,m,h,_,hq,hm=>by
  have hr:=At.nil h
  rw[←hd_q hr] at hq
  obtain⟨m,rfl⟩:∃ k,m=k+1:=⟨m-1,by omega⟩
  exact⟨s,by rw[redF_at,if_neg (by rw[hq.not.2.1];decide),List.append_nil],hr,rfl,rfl⟩
 | x::l,q,s,rs,m,h,hx,hq,hm=>by
  have h0:At (.ar x::behindI l) q s:=h
  obtain⟨h1,_,s2,h3,h4,h5,h6,h7⟩:=redir_back h0 (hx x (by simp))
  obtain⟨m,rfl⟩:∃ k,m=k+1:=⟨m-1,by omega⟩
  obtain⟨s3,e1,e2,e3,e4⟩:=redF_back l (rs++[x]) m h4 (fun y hy=>hx y (by simp[hy])) hq (by omega)
  exact⟨s3,by rw[redF_at,if_pos h1,Sx.bnd_ok h3,e1,List.append_assoc];rfl,e2,e3.trans h5,e4.trans h6⟩
theorem Gd.behind {c:List It} (h:Gd c):∀ (l:List Arw),(∀ x∈l,ArOk x)→Gd (c++behindI l):=by
 intro l hl
 induction l generalizing c with
 | nil=>simpa [behindI] using h
 | cons x l ih=>
  have h1:Gd (c++It.sp::[.ar x]):=h.blank (.inl rfl) (Gd.cons_fr (.inl rfl) (Gd.one (show iv (.ar x) from hl x (by simp))))
  have:=ih h1 fun y hy=>hl y (by simp[hy])
  rw[List.append_assoc] at this
  exact this
theorem comp_text {t:L} (h:Sx.isComp t=true):(nameB t && !Sx.isRes t)=false∧Sx.isArrow t=false∧(t=[40]∨Sx.isRes t=true)∧t≠[33]:=by
 unfold Sx.isComp at h
 simp only[Bool.or_eq_true,beq_iff_eq] at h
 rcases h with(((((h | h) | h) | h) | h) | h) | h <;> (subst h;decide)
theorem bgc_comp {t:L} {k:Nat} (h:Sx.isComp t=true) (hk:k=1∨k=2):bgc (.tk k t)=true:=by rcases hk with rfl | rfl <;> simp[bgc,h]
theorem bodyI_comp {nd:Sx.Node} (cs:List (List It)) (el:Bool) (rs:List Arw) (lf:Nat) (hk:nd.kind=6∨nd.kind=7∨nd.kind=8∨nd.kind=9∨nd.kind=11∨nd.kind=12):bodyI { nd with redirs:=rs,left:=lf } cs el=compI nd cs el++behindI rs:=by
 unfold bodyI
 simp only
 rw[if_neg (by omega),if_neg (by omega),if_neg (by omega),if_neg (by omega),if_neg (by omega),if_neg (by omega),if_neg (by omega)]
 rfl
theorem Nc.em {b:Nat} {ms:List Sx.Node} {nd:Sx.Node} {c:List It} (h:Nc b ms nd c) (rs:List Arw) (lf:Nat):Em b (ms++[{ nd with redirs:=rs,left:=lf }]) (b+ms.length) (c++behindI rs):=by
 obtain⟨cs,v,h1,h2,h3,h4,h5⟩:=h
 rw[←h3,←bodyI_comp cs _ rs lf h5]
 exact Em.node (n:={ nd with redirs:=rs,left:=lf }) h1 h2 (h4 rs lf) ⟨by simp only;omega,by simp only;omega⟩
def RdS (a:M Nat):Prop:=∀ (N:Nat) (s s1:Sx.St) (nd:Sx.Node),Gs s→Sx.isComp (Sx.hd s).text=true→Sx.read a N (Sx.hd s).text s=.ok (nd,s1)→∃ ms b c,Nk s s1 nd (fun n=>Sx.read (Sx.anyF n) (n+1) (Sx.hd s).text) ms b c∧∃ k l,c=.tk k (Sx.hd s).text::l∧(k=1∨k=2)∧((Sx.hd s).text=[40]→k=2)
section
variable {a:M Nat} (ha:Sx.UnA a) (hr:RdS a)
include ha hr
theorem compound_bk {N k:Nat} {s s1:Sx.St} (h:Gs s) (e:Sx.compound a N s=.ok (k,s1)):∃ ms b c v,Bk s s1 k Fo1 BegC (fun n=>Sx.compound (Sx.anyF n) (n+1)) (fun c=>c) ms b c v∧∀ (q:List Tok) (s':Sx.St),At c q s'→Sx.atFunc s'=false∧Sx.atSimple s'=false:=by
 unfold Sx.compound at e
 by_cases hc:Sx.isComp (Sx.hd s).text=true
 ·rw[if_pos hc] at e
  by_cases hd40:s.d=40
  ·rw[if_pos hd40] at e;cases e
  rw[if_neg hd40] at e
  obtain⟨nd,s2,e2,e⟩:=Sx.bnd_inv e
  have h1:Gs { s with d:=s.d+1 }:=⟨h.good,h.vl,by have:=h.dp;simp only;omega⟩
  have hw2:=(Sx.read_un ha N (s:={ s with d:=s.d+1 }) h1.good (Sx.isComp_ne hc) e2).1
  obtain⟨ms,b,c,r,kt,l,hcl,hkt,hkt2⟩:∃ ms b c,Nk { s with d:=s.d+1 } s2 nd (fun n=>Sx.read (Sx.anyF n) (n+1) (Sx.hd s).text) ms b c∧∃ k l,c=.tk k (Sx.hd s).text::l∧(k=1∨k=2)∧((Sx.hd s).text=[40]→k=2):=hr N { s with d:=s.d+1 } s2 nd h1 hc e2
  obtain⟨rs,s3,e3,e⟩:=Sx.bnd_inv e
  obtain⟨rfl,rfl⟩:=add_ok e
  have hs2d:s2.d=s.d+1:=r.d
  have h2:Gs { s2 with d:=s2.d-1 }:=⟨hw2.gd,(h.vl.suf hw2.suf),by have:=h.dp;simp only;omega⟩
  have hw3:=Sx.redF_un N h2.good e3
  obtain⟨l2,a1,a2,a3⟩:=redF_ok N h2 e3
  rw[List.nil_append] at a1
  subst a1
  have hs3:s3.ns=s.ns++ms:=a3.trans r.ns
  have hs3d:s3.d=s.d:=by rw[hw3.d];simp only;omega
  obtain⟨cs,v,g1,g2,g3,g4,g5⟩:=r.nc
  have hfst:∀ {q:List Tok} {s':Sx.St},At (c++behindI rs) q s'→(Sx.hd s').kind=kt∧(Sx.hd s').text=(Sx.hd s).text∧s'.r≠[]:=fun hat=>by
   rw[hcl] at hat
   obtain⟨x1,x2,_,x4,_⟩:=hat.tk
   exact⟨x1,x2,x4⟩
  obtain⟨t1,t2,t3,t4⟩:=comp_text hc
  refine⟨ms++[{ nd with redirs:=rs,left:=(Sx.hd s).left }],b,c++behindI rs,nd.kind,⟨by simp only[hs3,List.append_assoc],hs3d,by rw[hs3,List.length_append,List.length_append];rfl,by simp,?_,?_,fun hb=>?_,r.gd.behind rs a2,?_,fun n q s' hat hq hn=>?_⟩,fun q s' hat=>?_⟩
  ·rw[hs3,List.length_append];exact r.nc.em rs _
  ·rw[hs3,List.length_append];exact Kd.node (ms:=ms) { nd with redirs:=rs,left:=(Sx.hd s).left }
  ·simp only[hs3,←r.ns];exact r.el hb _ _
  ·rw[hcl]
   exact⟨_,_,rfl,bgc_comp hc hkt⟩
  ·obtain⟨x1,x2,x3⟩:=hfst hat
   by_cases hd':s'.d=40
   ·exact .inl ⟨(Sx.hd s').left,by unfold Sx.compound;rw[x2,if_pos hc,if_pos hd'],.inr (by have:=h.dp;omega)⟩
   obtain⟨q1,y1,y2⟩:=At.app (c:=c) (d:=behindI rs) hat
   have hun:Sx.compound (Sx.anyF n) (n+1) s'=Sx.bnd (Sx.read (Sx.anyF n) (n+1) (Sx.hd s).text) (fun nd s2=>Sx.bnd (Sx.redF (n+1) []) (fun rs=>Sx.add { nd with redirs:=rs,left:=(Sx.hd s').left }) { s2 with d:=s2.d-1 }) { s' with d:=s'.d+1 }:=by
    unfold Sx.compound
    rw[x2,if_pos hc,if_neg hd']
   rw[hun]
   rcases r.back n q1 { s' with d:=s'.d+1 } y1 hn with⟨lf,hx,hdd⟩ | ⟨ms',s1',nd',hx,r',hnc,hkd,hst⟩
   ·exact .inl ⟨lf,by rw[Sx.bnd_error hx],hdd.imp id (fun x=>by simp only at x;omega)⟩
   ·have hlen:s1'.r.length<n+1:=by
     rw[r'.r]
     obtain⟨p,hp,_⟩:=y1
     have:s'.r.length=p.length+q1.length:=by rw[show s'.r=p++q1 from hp,List.length_append]
     omega
    obtain⟨s3',f1,f2,f3,f4⟩:=redF_back rs (s:={ s1' with d:=s1'.d-1 }) [] (n+1) (y2 _ r'.r) (fun x hx=>(a2 x hx).fd) hq hlen
    have hns:s3'.ns=s'.ns++ms':=f4.trans r'.ns
    refine .inr ⟨ms'++[{ nd' with redirs:=rs,left:=(Sx.hd s').left }],{ s3' with ns:=s3'.ns++[{ nd' with redirs:=rs,left:=(Sx.hd s').left }] },s3'.ns.length,?_,⟨f2,?_,by simp only[hns,List.append_assoc],fun u w=>?_⟩,?_,by simp,?_,?_⟩
    ·rw[Sx.bnd_ok hx,Sx.bnd_ok f1];rfl
    ·rw[f3];have:=r'.d;simp only at this⊢;omega
    ·have h8:=hst u w
     rw[List.map_append,List.map_append,r'.eq u w]
     congr 1
     simp only[List.map_cons,List.map_nil,List.cons.injEq,and_true]
     unfold Sx.strip at h8⊢
     simp only[Sx.Node.mk.injEq] at h8⊢
     simp[h8]
    ·rw[hns,List.length_append,List.length_append];rfl
    ·rw[hns,List.length_append];exact hnc.em rs _
    ·rw[hns,List.length_append,←hkd];exact Kd.node (ms:=ms') { nd' with redirs:=rs,left:=(Sx.hd s').left }
  ·obtain⟨x1,x2,x3⟩:=hfst hat
   unfold Sx.atFunc Sx.atSimple Sx.atRedir
   rw[x1,x2,t1,t2]
   refine⟨rfl,?_⟩
   rcases hkt with rfl | rfl
   ·rcases t3 with t3 | t3
    ·exact absurd (hkt2 t3) (by decide)
    ·rw[t3];rfl
   ·rfl
 ·rw[if_neg hc] at e;cases e
end
end Vx
end Go.Proofs.YtkkchkkpnlnbgaaGreatDoor
