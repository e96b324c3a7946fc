/- Scripts read again: items, as text and as tokens; a node's items out of its kids'. No premises. -/
import Derived.Test.YtkkchkkpnlnbgaaGreatDoorPa
import Derived.Test.YtkkchkkpnlnbgaaGreatDoorPd
namespace Go.Proofs.YtkkchkkpnlnbgaaGreatDoor
namespace Vx
open Sx (Arw)
open Lx (Tok)
open Up (S nodeF)
abbrev L:=List UInt8
inductive It where
 | sp
 | tk (kind:Nat) (t:L)
 | ar (x:Arw)
 | nl
def put1 (s:S):It→S
 | .sp=>Up.put s [32]
 | .tk _ t=>Up.put s t
 | .ar x=>Up.redir s x
 | .nl=>Up.line s
def emit (c:List It) (s:S):S:=c.foldl put1 s
theorem emit_app (c d:List It) (s:S):emit (c++d) s=emit d (emit c s):=List.foldl_append
@[simp] theorem emit_nil (s:S):emit [] s=s:=rfl
@[simp] theorem emit_cons (i:It) (c:List It) (s:S):emit (i::c) s=emit c (put1 s i):=rfl
def tok1:It→List Tok
 | .sp=>[]
 | .tk k t=>[⟨k,t,[],0⟩]
 | .ar x=>[⟨5,Up.num x.fd,[],0⟩,⟨2,x.op,[],0⟩,⟨1,x.word,x.body,0⟩]
 | .nl=>[⟨3,[],[],0⟩]
def toks (c:List It):List Tok:=c.flatMap tok1
def er (t:Tok):Tok:={ t with left:=0 }
def At (c:List It) (q:List Tok) (s:Sx.St):Prop:=∃ p,s.r=p++q∧p.map er=toks c
def join (b:List It):List (List It)→List It
 | []=>[]
 | [c]=>c
 | c::l=>c++b++join b l
def wd (w:L):List It:=[.tk 1 w]
def redirsI (more:Bool):List Arw→List It
 | []=>[]
 | [x]=>if more then [.ar x,.sp] else [.ar x]
 | x::l=>.ar x::.sp::redirsI more l
def behindI (l:List Arw):List It:=l.flatMap fun x=>[.sp,.ar x]
def compI (n:Sx.Node) (cs:List (List It)) (el:Bool):List It:=
 let c0:=cs.getD 0 []
 let c1:=cs.getD 1 []
 let c2:=cs.getD 2 []
 if n.kind=6 then [.tk 1 Sx.kIF,.nl]++c0++[.tk 1 Sx.kTHEN,.nl]++c1++(if n.kids.length=3 then [.tk 1 Sx.kELSE,.nl]++c2++(if el then [.nl] else []) else [])++[.tk 1 Sx.kFI]
 else if n.kind=7 then [.tk 1 (if n.flag then Sx.kUNTIL else Sx.kWHILE),.nl]++c0++[.tk 1 Sx.kDO,.nl]++c1++[.tk 1 Sx.kDONE]
 else if n.kind=8 then [.tk 1 Sx.kFOR,.sp,.tk 1 n.text]++(if n.flag then [] else [.sp,.tk 1 Sx.kIN]++n.words.flatMap fun w=>[.sp,.tk 1 w])++[.nl,.tk 1 Sx.kDO,.nl]++c0++[.tk 1 Sx.kDONE]
 else if n.kind=9 then [.tk 1 Sx.kCASE,.sp,.tk 1 n.text,.sp,.tk 1 Sx.kIN,.nl]++cs.flatten++[.tk 1 Sx.kESAC]
 else if n.kind=11 then [.tk 1 [123],.nl]++c0++[.tk 1 [125]]
 else [.tk 2 [40],.nl]++c0++[.tk 2 [41]]
def bodyI (n:Sx.Node) (cs:List (List It)) (el:Bool):List It:=
 if n.kind=1 then redirsI (decide (n.words≠[])) n.redirs++join [.sp] (n.words.map wd)
 else if n.kind=2 then (if n.flag then [.tk 1 [33],.sp] else [])++join [.sp,.tk 2 [124],.sp] cs
 else if n.kind=3 then join [.sp,.tk 2 [38,38],.sp] cs
 else if n.kind=4 then join [.sp,.tk 2 [124,124],.sp] cs
 else if n.kind=5 then cs.flatMap fun c=>c++[.nl]
 else if n.kind=13 then [.tk 1 n.text,.tk 2 [40],.tk 2 [41],.sp]++cs.getD 0 []
 else if n.kind=10 then [.tk 2 [40]]++join [.tk 2 [124]] (n.words.map wd)++[.tk 2 [41],.nl]++cs.getD 0 []++[.tk 2 [59,59],.nl]
 else compI n cs el++behindI n.redirs
theorem put_put (s:S) (a b:L):Up.put (Up.put s a) b=Up.put s (a++b):=by simp[Up.put,List.append_assoc]
theorem emit_redirs (m:Bool):∀ (l:List Arw) (s:S),Up.redirs m s l=emit (redirsI m l) s
 | [],_=>rfl
 | [x],s=>by unfold Up.redirs redirsI;cases m <;> rfl
 | x::y::l,s=>by unfold Up.redirs redirsI;rw[emit_redirs m (y::l)];rfl
theorem emit_behind:∀ (l:List Arw) (s:S),Up.behind s l=emit (behindI l) s
 | [],_=>rfl
 | x::l,s=>by unfold Up.behind;rw[emit_behind l];rfl
theorem emit_words (b:List It) (t:L) (hb:∀ s,emit b s=Up.put s t):∀ (l:List L) (s:S),Up.put s (Up.words t l)=emit (join b (l.map wd)) s
 | [],s=>by simp[Up.words,join,Up.put]
 | [w],s=>rfl
 | w::v::l,s=>by
  unfold Up.words
  rw[List.map_cons,List.map_cons]
  unfold join
  rw[emit_app,emit_app,hb,←List.map_cons,←emit_words b t hb (v::l),←put_put,←put_put]
  rfl
section
variable {nd:S→Nat→S}
def Ks (nd:S→Nat→S):List Nat→List (List It)→Prop
 | [],[]=>True
 | k::ks,c::cs=>(∀ s,nd s k=emit c s)∧Ks nd ks cs
 | _,_=>False
theorem emit_kids (b:List It) (t:L) (hb:∀ s,emit b s=Up.put s t):∀ (ks:List Nat) (cs:List (List It)) (s:S),Ks nd ks cs→Up.kids nd t s ks=emit (join b cs) s
 | [],[],_,_=>rfl
 | [k],[c],s,h=>h.1 s
 | k::j::ks,c::d::cs,s,h=>by
  unfold Up.kids join
  rw[emit_kids b t hb (j::ks) (d::cs) _ h.2,emit_app,emit_app,hb,h.1]
 | [],_::_,_,h=>h.elim
 | _::_,[],_,h=>h.elim
 | [_],_::_::_,_,h=>h.2.elim
 | _::_::_,[_],_,h=>h.2.elim
theorem emit_lines:∀ (ks:List Nat) (cs:List (List It)) (s:S),Ks nd ks cs→Up.lines nd s ks=emit (cs.flatMap fun c=>c++[.nl]) s
 | [],[],_,_=>rfl
 | k::ks,c::cs,s,h=>by
  unfold Up.lines
  rw[emit_lines ks cs _ h.2,List.flatMap_cons,emit_app,emit_app,h.1]
  rfl
 | [],_::_,_,h=>h.elim
 | _::_,[],_,h=>h.elim
theorem emit_flat:∀ (ks:List Nat) (cs:List (List It)) (s:S),Ks nd ks cs→Up.kids nd [] s ks=emit cs.flatten s
 | [],[],_,_=>rfl
 | [k],[c],s,h=>by rw[show [c].flatten=c by simp];exact h.1 s
 | k::j::ks,c::d::cs,s,h=>by
  unfold Up.kids
  rw[emit_flat (j::ks) (d::cs) _ h.2,show (c::d::cs).flatten=c++(d::cs).flatten from rfl,emit_app,h.1,show ∀ s:S,Up.put s []=s from fun s=>by simp[Up.put]]
 | [],_::_,_,h=>h.elim
 | _::_,[],_,h=>h.elim
 | [_],_::_::_,_,h=>h.2.elim
 | _::_::_,[_],_,h=>h.2.elim
theorem emit_in:∀ (l:List L) (s:S),Up.put s (l.flatMap fun w=>32::w)=emit (l.flatMap fun w=>[.sp,.tk 1 w]) s
 | [],s=>by simp[Up.put]
 | w::l,s=>by
  rw[List.flatMap_cons,List.flatMap_cons,emit_app,←emit_in l,←put_put]
  simp only[emit_cons,emit_nil,put1,put_put]
  rfl
theorem Ks.get {ks:List Nat} {cs:List (List It)} (h:Ks nd ks cs):∀ (i:Nat),i<ks.length→∀ s,nd s (ks.getD i 0)=emit (cs.getD i []) s:=by
 induction ks generalizing cs with
 | nil=>intro i hi;cases hi
 | cons k ks ih=>
  cases cs with
  | nil=>exact h.elim
  | cons c cs=>
   intro i hi s
   cases i with
   | zero=>exact h.1 s
   | succ i=>exact ih h.2 i (by simpa using hi) s
theorem comp_emit {isIf:Nat→Bool} {n:Sx.Node} {cs:List (List It)} {el:Bool} (h:Ks nd n.kids cs) (hi:n.kind=6→n.kids.length=3→isIf (n.kids.getD 2 0)=el) (hs:Sx.shapeB n=true) (hk:n.kind=6∨n.kind=7∨n.kind=8∨n.kind=9∨n.kind=11∨n.kind=12) (s:S):Up.compound nd isIf s n=emit (compI n cs el) s:=by
 unfold Up.compound compI
 rcases hk with hk | hk | hk | hk | hk | hk
 ·simp only[hk,if_pos]
  have hl:n.kids.length=2∨n.kids.length=3:=by simpa [Sx.shapeB,hk] using hs
  have h0:=h.get 0 (by omega)
  have h1:=h.get 1 (by omega)
  rcases hl with hl | hl
  ·rw[if_neg (by omega),if_neg (by omega)]
   simp only[Up.part,h0,h1,emit_app,emit_cons,emit_nil,put1]
   rfl
  ·have h2:=h.get 2 (by omega)
   rw[if_pos hl,if_pos hl]
   have hi:=hi hk hl
   cases el with
   | true=>
    rw[if_pos hi,if_pos rfl]
    simp only[Up.part,h0,h1,h2,emit_app,emit_cons,emit_nil,put1]
    rfl
   | false=>
    rw[if_neg (by rw[hi];decide),if_neg (by decide)]
    simp only[Up.part,h0,h1,h2,emit_app,emit_cons,emit_nil,put1]
    rfl
 ·simp only[hk,if_pos,if_neg (show ¬ (7:Nat)=6 by decide)]
  have hl:n.kids.length=2:=by simpa [Sx.shapeB,hk] using hs
  have h0:=h.get 0 (by omega)
  have h1:=h.get 1 (by omega)
  cases n.flag <;> (simp only[Up.part,h0,h1,emit_app,emit_cons,emit_nil,put1];rfl)
 ·simp only[hk,if_pos,if_neg (show ¬ (8:Nat)=6 by decide),if_neg (show ¬ (8:Nat)=7 by decide)]
  have hl:n.kids.length=1:=by simpa [Sx.shapeB,hk] using hs
  have h0:=h.get 0 (by omega)
  have ha:∀ (s:S) (t u:L),Up.put s ([102,111,114,32]++t)=Up.put (Up.put (Up.put s Sx.kFOR) [32]) t:=fun s t u=>by simp[put_put,Sx.kFOR]
  have hb:∀ (s:S) (l:List L),Up.put s ([32,105,110]++l.flatMap fun w=>32::w)=emit (l.flatMap fun w=>[.sp,.tk 1 w]) (Up.put (Up.put s [32]) Sx.kIN):=fun s l=>by rw[←emit_in,put_put,put_put];simp[Sx.kIN]
  cases n.flag with
  | true=>
   simp only[Up.part,h0,ha s n.text [],emit_app,emit_cons,emit_nil,put1,if_true]
   rfl
  | false=>
   simp only[Up.part,h0,ha s n.text [],hb,emit_app,emit_cons,emit_nil,put1,Bool.false_eq_true,if_false]
   rfl
 ·simp only[hk,if_pos,if_neg (show ¬ (9:Nat)=6 by decide),if_neg (show ¬ (9:Nat)=7 by decide),if_neg (show ¬ (9:Nat)=8 by decide)]
  rw[emit_flat n.kids cs _ h]
  have ha:Up.put s ([99,97,115,101,32]++n.text++[32,105,110])=Up.put (Up.put (Up.put (Up.put (Up.put s Sx.kCASE) [32]) n.text) [32]) Sx.kIN:=by simp[put_put,Sx.kCASE,Sx.kIN]
  simp only[ha,emit_app,emit_cons,emit_nil,put1]
  rfl
 ·simp only[hk,if_pos,if_neg (show ¬ (11:Nat)=6 by decide),if_neg (show ¬ (11:Nat)=7 by decide),if_neg (show ¬ (11:Nat)=8 by decide),if_neg (show ¬ (11:Nat)=9 by decide)]
  have hl:n.kids.length=1:=by simpa [Sx.shapeB,hk] using hs
  have h0:=h.get 0 (by omega)
  simp only[Up.part,h0,emit_app,emit_cons,emit_nil,put1]
 ·simp only[hk,if_neg (show ¬ (12:Nat)=6 by decide),if_neg (show ¬ (12:Nat)=7 by decide),if_neg (show ¬ (12:Nat)=8 by decide),if_neg (show ¬ (12:Nat)=9 by decide),if_neg (show ¬ (12:Nat)=11 by decide)]
  have hl:n.kids.length=1:=by simpa [Sx.shapeB,hk] using hs
  have h0:=h.get 0 (by omega)
  simp only[Up.part,h0,emit_app,emit_cons,emit_nil,put1]
theorem body_emit {isIf:Nat→Bool} {n:Sx.Node} {cs:List (List It)} {el:Bool} (h:Ks nd n.kids cs) (hi:n.kind=6→n.kids.length=3→isIf (n.kids.getD 2 0)=el) (hs:Sx.shapeB n=true) (hk:n.kind≠0∧n.kind<14) (s:S):Up.body nd isIf s n=emit (bodyI n cs el) s:=by
 unfold Up.body bodyI
 by_cases k1:n.kind=1
 ·rw[if_pos k1,if_pos k1,emit_app,←emit_redirs]
  exact emit_words [.sp] [32] (fun _=>rfl) _ _
 rw[if_neg k1,if_neg k1]
 by_cases k2:n.kind=2
 ·rw[if_pos k2,if_pos k2,emit_app]
  rw[emit_kids [.sp,.tk 2 [124],.sp] [32,124,32] (fun s=>by simp[put1,put_put]) n.kids cs _ h]
  cases n.flag with
  | true=>simp only[if_true,emit_cons,emit_nil,put1,put_put];rfl
  | false=>rfl
 rw[if_neg k2,if_neg k2]
 by_cases k3:n.kind=3
 ·rw[if_pos k3,if_pos k3]
  exact emit_kids [.sp,.tk 2 [38,38],.sp] [32,38,38,32] (fun s=>by simp[put1,put_put]) n.kids cs _ h
 rw[if_neg k3,if_neg k3]
 by_cases k4:n.kind=4
 ·rw[if_pos k4,if_pos k4]
  exact emit_kids [.sp,.tk 2 [124,124],.sp] [32,124,124,32] (fun s=>by simp[put1,put_put]) n.kids cs _ h
 rw[if_neg k4,if_neg k4]
 by_cases k5:n.kind=5
 ·rw[if_pos k5,if_pos k5]
  exact emit_lines n.kids cs s h
 rw[if_neg k5,if_neg k5]
 by_cases k13:n.kind=13
 ·rw[if_pos k13,if_pos k13,emit_app]
  have hl:n.kids.length=1:=by simpa [Sx.shapeB,k13] using hs
  rw[h.get 0 (by omega)]
  simp[put1,put_put]
 rw[if_neg k13,if_neg k13]
 by_cases k10:n.kind=10
 ·rw[if_pos k10,if_pos k10]
  have hl:n.kids.length=1:=by simpa [Sx.shapeB,k10] using hs
  have h0:=h.get 0 (by omega)
  have hw:=emit_words [.tk 2 [124]] [124] (fun _=>rfl) n.words (Up.put s [40])
  simp only[Up.part,emit_app,emit_cons,emit_nil,put1,←hw,h0,put_put]
 rw[if_neg k10,if_neg k10,emit_app,←emit_behind]
 rw[comp_emit h hi hs (by obtain⟨a,b⟩:=hk;by_cases k12:n.kind=12 <;> omega) s]
end
end Vx
end Go.Proofs.YtkkchkkpnlnbgaaGreatDoor
namespace Go.Proofs.YtkkchkkpnlnbgaaGreatDoor
namespace Vx
open Sx (Arw M Er)
open Lx (Tok)
open Up (S nodeF)
def Em (b:Nat) (ms:List Sx.Node) (k:Nat) (c:List It):Prop:=∀ (pre post:List Sx.Node) (f:Nat) (s:S),pre.length=b→ms.length≤f→nodeF (pre++ms++post) f s k=emit c s
def Kd (b:Nat) (ms:List Sx.Node) (k v:Nat):Prop:=∀ (pre post:List Sx.Node),pre.length=b→((pre++ms++post)[k]?).map Sx.Node.kind=some v
def Ems (b:Nat) (ms:List Sx.Node):List Nat→List (List It)→Prop
 | [],[]=>True
 | k::ks,c::cs=>Em b ms k c∧Ems b ms ks cs
 | _,_=>False
section
variable {b:Nat} {ms:List Sx.Node} {k v:Nat} {c:List It} {ks ks':List Nat} {cs cs':List (List It)}
theorem Em.right (h:Em b ms k c) (l:List Sx.Node):Em b (ms++l) k c:=fun pre post f s hp hf=>by
 rw[show pre++(ms++l)++post=pre++ms++(l++post) by simp]
 exact h _ _ _ _ hp (by rw[List.length_append] at hf;omega)
theorem Em.left {l:List Sx.Node} (h:Em (b+l.length) ms k c):Em b (l++ms) k c:=fun pre post f s hp hf=>by
 rw[show pre++(l++ms)++post=(pre++l)++ms++post by simp]
 exact h _ _ _ _ (by rw[List.length_append,hp]) (by rw[List.length_append] at hf;omega)
theorem Kd.left {l:List Sx.Node} (h:Kd (b+l.length) ms k v):Kd b (l++ms) k v:=fun pre post hp=>by
 rw[show pre++(l++ms)++post=(pre++l)++ms++post by simp]
 exact h _ _ (by rw[List.length_append,hp])
theorem Ems.left {l:List Sx.Node} (h:Ems (b+l.length) ms ks cs):Ems b (l++ms) ks cs:=by
 induction ks generalizing cs with
 | nil=>cases cs with
  | nil=>exact h
  | cons _ _=>exact h.elim
 | cons k ks ih=>cases cs with
  | nil=>exact h.elim
  | cons _ _=>exact⟨h.1.left,ih h.2⟩
theorem Ems.toKs (h:Ems b ms ks cs) {pre post:List Sx.Node} {f:Nat} (hp:pre.length=b) (hf:ms.length≤f):Ks (nodeF (pre++ms++post) f) ks cs:=by
 induction ks generalizing cs with
 | nil=>cases cs with
  | nil=>trivial
  | cons _ _=>exact h.elim
 | cons k ks ih=>cases cs with
  | nil=>exact h.elim
  | cons _ _=>exact⟨fun s=>h.1 pre post f s hp hf,ih h.2⟩
theorem Em.node {n:Sx.Node} (h:Ems b ms n.kids cs) (hi:n.kind=6→n.kids.length=3→Kd b ms (n.kids.getD 2 0) v) (hs:Sx.shapeB n=true) (hk:n.kind≠0∧n.kind<14):Em b (ms++[n]) (b+ms.length) (bodyI n cs (v==6)):=fun pre post f s hp hf=>by
 rw[List.length_append,List.length_singleton] at hf
 obtain⟨f,rfl⟩:∃ g,f=g+1:=⟨f-1,by omega⟩
 have hg:(pre++(ms++[n])++post)[b+ms.length]?=some n:=by
  rw[List.append_assoc,List.getElem?_append_right (by omega),hp,Nat.add_sub_cancel_left,List.append_assoc,List.getElem?_append_right (by omega),Nat.sub_self]
  rfl
 rw[Up.nodeF,hg]
 simp only
 rw[show pre++(ms++[n])++post=pre++ms++([n]++post) by simp]
 exact body_emit (h.toKs hp (by omega)) (fun a a2=>by unfold Up.isIf;rw[hi a a2 pre _ hp];rfl) hs hk s
theorem Kd.node (n:Sx.Node):Kd b (ms++[n]) (b+ms.length) n.kind:=fun pre post hp=>by
 rw[List.append_assoc,List.getElem?_append_right (by omega),hp,Nat.add_sub_cancel_left,List.append_assoc,List.getElem?_append_right (by omega),Nat.sub_self]
 rfl
end
section
variable {c d:List It} {q:List Tok} {s:Sx.St}
theorem At.nil (h:At [] q s):s.r=q:=by
 obtain⟨p,h1,h2⟩:=h
 cases p with
 | nil=>exact h1
 | cons _ _=>cases h2
theorem At.sp (h:At (.sp::c) q s):At c q s:=h
theorem At.app (h:At (c++d) q s):∃ q',At c q' s∧∀ s':Sx.St,s'.r=q'→At d q s':=by
 obtain⟨p,h1,h2⟩:=h
 rw[toks,List.flatMap_append] at h2
 obtain⟨p1,p2,rfl,h3,h4⟩:=List.map_eq_append_iff.1 h2
 exact⟨p2++q,⟨p1,by rw[h1,List.append_assoc],h3⟩,fun s' hs=>⟨p2,hs,h4⟩⟩
theorem At.cons {t:Tok} {l:List Tok} (h:∃ p,s.r=p++q∧p.map er=t::l):(Sx.hd s).kind=t.kind∧(Sx.hd s).text=t.text∧(Sx.hd s).body=t.body∧s.r≠[]∧∃ p,(Sx.go s).r=p++q∧p.map er=l:=by
 obtain⟨p,h1,h2⟩:=h
 cases p with
 | nil=>cases h2
 | cons u p=>
  simp only[List.map_cons,List.cons.injEq] at h2
  obtain⟨h2,h3⟩:=h2
  have hh:Sx.hd s=u:=Sx.hd_cons h1
  rw[hh,←h2]
  exact⟨rfl,rfl,rfl,by rw[h1];simp,p,by unfold Sx.go;rw[h1];rfl,h3⟩
theorem At.tk {k:Nat} {t:L} (h:At (.tk k t::c) q s):(Sx.hd s).kind=k∧(Sx.hd s).text=t∧(Sx.hd s).body=[]∧s.r≠[]∧At c q (Sx.go s):=At.cons h
theorem At.nl (h:At (.nl::c) q s):(Sx.hd s).kind=3∧(Sx.hd s).text=[]∧s.r≠[]∧At c q (Sx.go s):=by
 obtain⟨h1,h2,_,h4,h5⟩:=At.cons h
 exact⟨h1,h2,h4,h5⟩
theorem At.ar {x:Arw} (h:At (.ar x::c) q s):(Sx.hd s).kind=5∧(Sx.hd s).text=Up.num x.fd∧(Sx.hd (Sx.go s)).text=x.op∧(Sx.hd (Sx.go (Sx.go s))).kind=1∧(Sx.hd (Sx.go (Sx.go s))).text=x.word∧(Sx.hd (Sx.go (Sx.go s))).body=x.body∧s.r≠[]∧At c q (Sx.go (Sx.go (Sx.go s))):=by
 obtain⟨h1,h2,_,h4,h5⟩:=At.cons h
 obtain⟨_,h6,_,_,h7⟩:=At.cons h5
 obtain⟨h8,h9,h10,_,h11⟩:=At.cons h7
 exact⟨h1,h2,h6,h8,h9,h10,h4,h11⟩
end
end Vx
end Go.Proofs.YtkkchkkpnlnbgaaGreatDoor
namespace Go.Proofs.YtkkchkkpnlnbgaaGreatDoor
namespace Vx
open Sx (Arw M Er)
open Lx (Tok)
open Up (S nodeF)
structure WordOk (t:L):Prop where
 ends:Lx.ends t=false
 sharp:t.head?≠some 35
 joint:t.head?=some 92→t.tail.head?≠some 10
 again:∀ r,Lx.ends r=true→¬ Lx.Bad r→Lx.word (t++r)=.ok (t,r)
def DocOk (w b:L):Prop:=∀ r,Lx.doc (Lx.bare w) (b++Lx.bare w++10::r)=some (b,r)
structure ArOk (x:Arw):Prop where
 fd:x.fd≤99
 op:Sx.isArrow x.op=true
 word:WordOk x.word
 doc:x.op=[60,60]→DocOk x.word x.body
 none:x.op≠[60,60]→x.body=[]
theorem WordOk.ne {t:L} (h:WordOk t):t≠[]:=by rintro rfl;exact absurd h.ends (by decide)
theorem WordOk.open_ {t:L} (h:WordOk t):t≠[40]:=by rintro rfl;exact absurd h.ends (by decide)
def Fo1 (t:Tok):Prop:=(t.kind=3∧t.text=[])∨(t.kind=2∧(t.text=[124]∨t.text=[38,38]∨t.text=[124,124]))
theorem Fo1.not {s:Sx.St} (h:Fo1 (Sx.hd s)):(Sx.hd s).kind≠1∧Sx.atRedir s=false∧(Sx.hd s).text≠[40]:=by
 unfold Sx.atRedir
 rcases h with⟨h1,h2⟩ | ⟨h1,h2 | h2 | h2⟩ <;> (rw[h1,h2];decide)
theorem num_num:∀ n,n<100→Sx.num (Up.num n)=n∧Up.num n≠[]∧nameB (Up.num n)=false:=by decide +kernel
theorem hd_q {s:Sx.St} {q:List Tok} (h:s.r=q):Sx.hd s=q.headD Sx.E:=by unfold Sx.hd;rw[h]
theorem go_len {s:Sx.St} (h:s.r≠[]):(Sx.go s).r.length+1=s.r.length:=by
 unfold Sx.go
 cases e:s.r with
 | nil=>exact absurd e h
 | cons t r=>simp
section
variable {c:List It} {q:List Tok} {s:Sx.St}
theorem redir_back {x:Arw} (h:At (.ar x::c) q s) (hx:x.fd≤99):Sx.atRedir s=true∧(Sx.hd s).kind=5∧∃ s2,Sx.redir s=.ok (x,s2)∧At c q s2∧s2.d=s.d∧s2.ns=s.ns∧s2.r.length<s.r.length:=by
 obtain⟨h1,h2,h3,h4,h5,h6,h7,h8⟩:=h.ar
 refine⟨by unfold Sx.atRedir;rw[h1];rfl,h1,Sx.go (Sx.go (Sx.go s)),?_,h8,rfl,rfl,?_⟩
 ·unfold Sx.redir
  rw[if_pos h1,Sx.bnd_ok (a:=Sx.hd (Sx.go (Sx.go s))) (s':=Sx.go (Sx.go (Sx.go s))) (by unfold Sx.word;rw[if_pos h4]),h2,h3,h5,h6]
  unfold Sx.ret Sx.file
  obtain⟨e1,e2,_⟩:=num_num x.fd (by omega)
  rw[if_pos e2,e1]
 ·have:=go_len h7
  have h9:(Sx.go (Sx.go (Sx.go s))).r.length≤(Sx.go s).r.length:=by unfold Sx.go;simp only[List.length_tail];omega
  omega
theorem simF_at (m:Nat) (ws:List L) (rs:List Arw) (s:Sx.St):Sx.simF (m+1) ws rs s =
  if (Sx.hd s).kind=1 then Sx.simF m (ws++[(Sx.hd s).text]) rs (Sx.go s)
  else if Sx.atRedir s=true then Sx.bnd Sx.redir (fun x=>Sx.simF m ws (rs++[x])) s
  else .ok ((ws,rs),s):=rfl
theorem simF_ar:∀ (l:List Arw) (more:Bool) {s:Sx.St} (rs:List Arw) (ws:List L) (m:Nat),At (redirsI more l++c) q s→(∀ x∈l,x.fd≤99)→s.r.length<m→∃ s2 m',Sx.simF m ws rs s=Sx.simF m' ws (rs++l) s2∧At c q s2∧s2.d=s.d∧s2.ns=s.ns∧s2.r.length<m'
 | [],_,s,rs,ws,m,h,_,hm=>⟨s,m,by rw[List.append_nil],h,rfl,rfl,hm⟩
 | x::l,more,s,rs,ws,m,h,hx,hm=>by
  have h0:At (.ar x::(redirsI more l++c)) q s:=by
   cases l with
   | nil=>unfold redirsI at h;cases more <;> exact h
   | cons y l=>exact h
  obtain⟨h1,h2,s2,h3,h4,h5,h6,h7⟩:=redir_back h0 (hx x (by simp))
  obtain⟨m,rfl⟩:∃ k,m=k+1:=⟨m-1,by omega⟩
  obtain⟨s3,m',e1,e2,e3,e4,e5⟩:=simF_ar l more (rs++[x]) ws m h4 (fun y hy=>hx y (by simp[hy])) (by omega)
  refine⟨s3,m',?_,e2,e3.trans h5,e4.trans h6,e5⟩
  rw[simF_at,if_neg (by rw[h2];decide),if_pos h1,Sx.bnd_ok h3,e1,List.append_assoc]
  rfl
theorem simF_wd:∀ (l:List L) {s:Sx.St} (rs:List Arw) (ws:List L) (m:Nat),At (join [.sp] (l.map wd)++c) q s→s.r.length<m→∃ s2 m',Sx.simF m ws rs s=Sx.simF m' (ws++l) rs s2∧At c q s2∧s2.d=s.d∧s2.ns=s.ns∧s2.r.length<m'
 | [],s,rs,ws,m,h,hm=>⟨s,m,by rw[List.append_nil],h,rfl,rfl,hm⟩
 | w::l,s,rs,ws,m,h,hm=>by
  have h0:At (.tk 1 w::(join [.sp] (l.map wd)++c)) q s:=by
   cases l with
   | nil=>exact h
   | cons y l=>exact h
  obtain⟨h1,h2,_,h4,h5⟩:=h0.tk
  obtain⟨m,rfl⟩:∃ k,m=k+1:=⟨m-1,by omega⟩
  have h7:=go_len h4
  obtain⟨s3,m',e1,e2,e3,e4,e5⟩:=simF_wd l rs (ws++[w]) m h5 (by omega)
  refine⟨s3,m',?_,e2,e3,e4,e5⟩
  rw[simF_at,if_pos h1,h2,e1,List.append_assoc]
  rfl
theorem simF_back {ws:List L} {rs:List Arw} {m:Nat} (h:At (redirsI (decide (ws≠[])) rs++join [.sp] (ws.map wd)) q s) (hx:∀ x∈rs,x.fd≤99) (hq:Fo1 (q.headD Sx.E)) (hm:s.r.length<m):∃ s2,Sx.simF m [] [] s=.ok ((ws,rs),s2)∧s2.r=q∧s2.d=s.d∧s2.ns=s.ns:=by
 obtain⟨s2,m2,e1,e2,e3,e4,e5⟩:=simF_ar rs _ [] [] m h hx hm
 obtain⟨s3,m3,f1,f2,f3,f4,f5⟩:=simF_wd (c:=[]) ws ([]++rs) [] m2 (by rw[List.append_nil];exact e2) e5
 have hr:=f2.nil
 rw[←hd_q hr] at hq
 obtain⟨g1,g2,_⟩:=hq.not
 refine⟨s3,?_,hr,f3.trans e3,f4.trans e4⟩
 obtain⟨k,rfl⟩:∃ k,m3=k+1:=⟨m3-1,by omega⟩
 rw[e1,f1,simF_at,if_neg g1,if_neg (by rw[g2];decide),List.nil_append,List.nil_append]
end
end Vx
end Go.Proofs.YtkkchkkpnlnbgaaGreatDoor
namespace Go.Proofs.YtkkchkkpnlnbgaaGreatDoor
namespace Vx
open Sx (Arw M Er good Wk)
open Lx (Tok)
open Up (S nodeF)
structure Tv (t:Tok):Prop where
 word:t.kind=1→WordOk t.text
 name:t.kind≠1→nameB t.text=false
 line:t.kind=3→t.text=[]
def Vl:List Tok→Prop
 | []=>True
 | t::r=>Tv t∧(∀ u∈r.head?,u.kind=1→(t.text=[60,60]→DocOk u.text u.body)∧(t.text≠[60,60]→u.body=[]))∧Vl r
theorem Vl.suf {r q:List Tok} (h:Vl r) (hs:q <:+ r):Vl q:=by
 obtain⟨p,rfl⟩:=hs
 induction p with
 | nil=>exact h
 | cons t p ih=>exact ih h.2.2
theorem Tv.E:Tv Sx.E:=⟨fun h=>(by cases h),fun _=>rfl,fun _=>rfl⟩
theorem Vl.hd {s:Sx.St} (h:Vl s.r):Tv (Sx.hd s):=by
 unfold Sx.hd
 cases e:s.r with
 | nil=>exact Tv.E
 | cons t r=>rw[e] at h;exact h.1
theorem Vl.pair {s:Sx.St} (h:Vl s.r) (hn:s.r≠[]) (hk:(Sx.hd (Sx.go s)).kind=1):((Sx.hd s).text=[60,60]→DocOk (Sx.hd (Sx.go s)).text (Sx.hd (Sx.go s)).body)∧((Sx.hd s).text≠[60,60]→(Sx.hd (Sx.go s)).body=[]):=by
 unfold Sx.hd Sx.go at *
 cases e:s.r with
 | nil=>exact absurd e hn
 | cons t r=>
  rw[e] at h
  simp only[e,List.tail_cons,List.headD_cons] at hk⊢
  cases r with
  | nil=>cases hk
  | cons u r=>exact h.2.1 u rfl hk
structure Gs (s:Sx.St):Prop where
 good:good s.r=true
 vl:Vl s.r
 dp:s.d≤40
theorem Gs.of {k:Nat} {s s1:Sx.St} {ks:List Nat} (h:Gs s) (w:Wk k s s1 ks):Gs s1:=⟨w.gd,h.vl.suf w.suf,by rw[w.d];exact h.dp⟩
theorem Gs.ne {s:Sx.St} (h:Gs s):s.r≠[]:=Sx.good_ne h.good
theorem num_le (l:L):Sx.num l≤99:=by
 unfold Sx.num
 suffices h:∀ (l:L) (n:Nat),n≤99→l.foldl (fun n c=>min (n*10+(c-48).toNat) 99) n≤99 from h l 0 (by omega)
 intro l
 induction l with
 | nil=>intro n hn;exact hn
 | cons c l ih=>intro n _;exact ih _ (Nat.min_le_right _ _)
theorem file_le (io op:L):Sx.file io op≤99:=by unfold Sx.file;split;exact num_le _;split <;> omega
theorem redir_ok {s s1:Sx.St} {x:Arw} (h:Gs s) (hr:Sx.atRedir s=true) (e:Sx.redir s=.ok (x,s1)):ArOk x∧s1.ns=s.ns:=by
 obtain⟨h1,h2⟩:=Sx.atRedir_go h.good hr
 unfold Sx.redir at e
 by_cases hk:(Sx.hd s).kind=5
 ·rw[if_pos hk] at e
  obtain⟨w,s2,hw,e⟩:=Sx.bnd_inv e
  cases e
  have g2:=h.of (h2 hk)
  have g1:=h.of h1
  obtain⟨rfl,rfl,h4,_⟩:=Sx.word_un g2.good hw
  have hop:Sx.isArrow (Sx.hd (Sx.go s)).text=true:=by
   cases e:s.r with
   | nil=>exact absurd e h.ne
   | cons t r=>
    have hg:=h.good
    rw[e] at hg
    rw[Sx.hd_cons e] at hk
    obtain⟨u,q,rfl,hu⟩:=Sx.good_io hg hk
    rw[show Sx.hd (Sx.go s)=u from Sx.hd_cons (by unfold Sx.go;rw[e];rfl)]
    exact hu
  obtain⟨p1,p2⟩:=g1.vl.pair g1.ne h4
  exact⟨⟨file_le _ _,hop,g2.vl.hd.word h4,p1,p2⟩,rfl⟩
 ·rw[if_neg hk] at e
  obtain⟨w,s2,hw,e⟩:=Sx.bnd_inv e
  cases e
  have g1:=h.of h1
  obtain⟨rfl,rfl,h4,_⟩:=Sx.word_un g1.good hw
  have hop:Sx.isArrow (Sx.hd s).text=true:=by
   unfold Sx.atRedir at hr
   simpa [hk] using hr
  obtain⟨p1,p2⟩:=h.vl.pair h.ne h4
  exact⟨⟨file_le [] (Sx.hd s).text,hop,g1.vl.hd.word h4,p1,p2⟩,rfl⟩
theorem simF_ok (m:Nat) {ws ws':List L} {rs rs':List Arw} {s s1:Sx.St} (h:Gs s) (e:Sx.simF m ws rs s=.ok ((ws',rs'),s1)):∃ l1 l2,ws'=ws++l1∧rs'=rs++l2∧(∀ w∈l1,WordOk w)∧(∀ x∈l2,ArOk x)∧s1.ns=s.ns∧((Sx.hd s).kind=1→∃ l,l1=(Sx.hd s).text::l)∧((Sx.hd s).kind≠1→Sx.atRedir s=true→l2≠[]):=by
 induction m generalizing ws rs s with
 | zero=>cases e
 | succ m ih=>
  rw[simF_at] at e
  by_cases hk:(Sx.hd s).kind=1
  ·rw[if_pos hk] at e
   have h1:Wk 9 s (Sx.go s) []:=Wk.go h.good (.inr (by rw[hk];decide))
   obtain⟨l1,l2,a1,a2,a3,a4,a5,_⟩:=ih (h.of h1) e
   refine⟨(Sx.hd s).text::l1,l2,by rw[a1,List.append_assoc];rfl,a2,?_,a4,a5,fun _=>⟨l1,rfl⟩,fun hn=>absurd hk hn⟩
   intro w hw
   rcases List.mem_cons.1 hw with rfl | hw
   ·exact h.vl.hd.word hk
   ·exact a3 w hw
  ·rw[if_neg hk] at e
   by_cases hr:Sx.atRedir s=true
   ·rw[if_pos hr] at e
    obtain⟨x,s2,hx,e⟩:=Sx.bnd_inv e
    have h1:=Sx.redir_un h.good hr hx
    obtain⟨b1,b2⟩:=redir_ok h hr hx
    obtain⟨l1,l2,a1,a2,a3,a4,a5,_⟩:=ih (h.of h1) e
    refine⟨l1,x::l2,a1,by rw[a2,List.append_assoc];rfl,a3,?_,a5.trans b2,fun hn=>absurd hn hk,fun _ _=>by simp⟩
    intro y hy
    rcases List.mem_cons.1 hy with rfl | hy
    ·exact b1
    ·exact a4 y hy
   ·rw[if_neg hr] at e
    cases e
    exact⟨[],[],by simp,by simp,by simp,by simp,rfl,fun hn=>absurd hn hk,fun _ hn=>absurd hn hr⟩
def adj:It→It→Prop
 | .tk 1 t,.tk _ u=>u=[124]∨u=[41]∨(u=[40]∧nameB t=true)
 | .tk 1 _,.ar _=>False
 | .ar _,.tk _ _=>False
 | .ar _,.ar _=>False
 | .tk _ t,.tk _ u=>t=[124]→u.head?≠some 124
 | _,_=>True
def Ch:List It→Prop
 | []=>True
 | [_]=>True
 | i::j::l=>adj i j∧Ch (j::l)
def signs:List L:=[[124],[40],[41],[38,38],[124,124],[59,59]]
def iv:It→Prop
 | .tk 1 t=>WordOk t
 | .tk 2 t=>t∈signs
 | .tk _ _=>False
 | .ar x=>ArOk x
 | _=>True
def Gd (c:List It):Prop:=(∀ i∈c,iv i)∧Ch c
def fr (i:It):Prop:=i=.sp∨i=.nl
theorem adj_fr (i:It) {j:It} (h:fr j):adj i j:=by rcases h with rfl | rfl <;> (cases i <;> first | trivial | (rename_i k t;unfold adj;trivial) | (rename_i k t;unfold adj;split <;> simp_all))
theorem fr_adj {i:It} (h:fr i) (j:It):adj i j:=by rcases h with rfl | rfl <;> cases j <;> trivial
theorem Ch.app {c d:List It} (h:Ch c) (h':Ch d) (hj:∀ i j,c.getLast?=some i→d.head?=some j→adj i j):Ch (c++d):=by
 induction c with
 | nil=>exact h'
 | cons i c ih=>
  cases c with
  | nil=>
   cases d with
   | nil=>trivial
   | cons j d=>exact⟨hj i j rfl rfl,h'⟩
  | cons k c=>
   exact⟨h.1,ih h.2 fun a b ha hb=>hj a b (by rw[List.getLast?_cons_cons];exact ha) hb⟩
theorem Gd.app {c d:List It} (h:Gd c) (h':Gd d) (hj:∀ i j,c.getLast?=some i→d.head?=some j→adj i j):Gd (c++d):=⟨fun i hi=>(List.mem_append.1 hi).elim (h.1 i) (h'.1 i),h.2.app h'.2 hj⟩
theorem Gd.blank {c d:List It} {j:It} (h:Gd c) (hj:fr j) (h':Gd (j::d)):Gd (c++j::d):=h.app h' fun i k _ hk=>by cases hk;exact adj_fr i hj
theorem Gd.cons_fr {d:List It} {j:It} (hj:fr j) (h':Gd d):Gd (j::d):=by
 refine⟨fun i hi=>?_,?_⟩
 ·rcases List.mem_cons.1 hi with rfl | hi
  ·rcases hj with rfl | rfl <;> trivial
  ·exact h'.1 i hi
 ·cases d with
  | nil=>trivial
  | cons k d=>exact⟨fr_adj hj k,h'.2⟩
theorem Gd.nil:Gd []:=⟨by simp,trivial⟩
theorem Gd.one {i:It} (h:iv i):Gd [i]:=⟨by simpa using h,trivial⟩
theorem Gd.redirs (more:Bool):∀ (l:List Arw),(∀ x∈l,ArOk x)→Gd (redirsI more l)∧(more=true→∀ i,(redirsI more l).getLast?=some i→i=.sp)
 | [],_=>⟨Gd.nil,fun _ i hi=>by cases hi⟩
 | [x],h=>by
  have h1:Gd [It.ar x]:=Gd.one (show iv (.ar x) from h x (by simp))
  cases more with
  | true=>exact⟨h1.blank (.inl rfl) (Gd.one trivial),fun _ i hi=>by cases hi;rfl⟩
  | false=>exact⟨h1,fun h=>by cases h⟩
 | x::y::l,h=>by
  obtain⟨h2,h3⟩:=Gd.redirs more (y::l) fun z hz=>h z (by simp[hz])
  have h1:Gd [It.ar x]:=Gd.one (show iv (.ar x) from h x (by simp))
  refine⟨h1.blank (.inl rfl) (Gd.cons_fr (.inl rfl) h2),fun hm i hi=>h3 hm i ?_⟩
  have:redirsI more (y::l)≠[]:=by cases l <;> (unfold redirsI;try cases more) <;> simp
  unfold redirsI at hi
  cases e:redirsI more (y::l) with
  | nil=>exact absurd e this
  | cons a b=>rw[e] at hi;exact hi
theorem Gd.words:∀ (l:List L),(∀ w∈l,WordOk w)→Gd (join [.sp] (l.map wd))
 | [],_=>Gd.nil
 | [w],h=>Gd.one (show iv (.tk 1 w) from h w (by simp))
 | w::v::l,h=>by
  have h2:=Gd.words (v::l) fun z hz=>h z (by simp[hz])
  have h1:Gd [It.tk 1 w]:=Gd.one (show iv (.tk 1 w) from h w (by simp))
  exact h1.blank (.inl rfl) (Gd.cons_fr (.inl rfl) h2)
theorem Gd.simple {ws:List L} {rs:List Arw} (h1:∀ w∈ws,WordOk w) (h2:∀ x∈rs,ArOk x):Gd (redirsI (decide (ws≠[])) rs++join [.sp] (ws.map wd)):=by
 obtain⟨a,b⟩:=Gd.redirs (decide (ws≠[])) rs h2
 refine a.app (Gd.words ws h1) fun i j hi hj=>?_
 cases ws with
 | nil=>cases hj
 | cons w ws=>rw[b (by simp) i hi];cases j <;> trivial
end Vx
end Go.Proofs.YtkkchkkpnlnbgaaGreatDoor
