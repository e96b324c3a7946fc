/- Trees as scripts, as plain mathematics: a node's text, and the bodies that stand behind its next newline. No premises. -/
import Derived.Test.YtkkchkkpnlnbgaaGreatDoorNn
import Derived.Test.YtkkchkkpnlnbgaaGreatDoorNz
namespace Go.Proofs.YtkkchkkpnlnbgaaGreatDoor
namespace Up
open Sx (Arw)
open Lx (nl)
abbrev L:=List UInt8
structure S where
 text:L
 more:L
def put (s:S) (t:L):S:=⟨s.text++t,s.more⟩
def line (s:S):S:=⟨s.text++10::s.more,[]⟩
def num (n:Nat):L:=if n<10 then [UInt8.ofNat (48+n)] else [UInt8.ofNat (48+n / 10),UInt8.ofNat (48+n % 10)]
def redir (s:S) (x:Arw):S:=
 if x.op=[60,60] then ⟨s.text++(num x.fd++x.op++x.word),s.more++(x.body++Lx.bare x.word++[10])⟩ else put s (num x.fd++x.op++x.word)
def words (b:L):List L→L
 | []=>[]
 | [w]=>w
 | w::l=>w++b++words b l
def redirs (more:Bool):S→List Arw→S
 | s,[]=>s
 | s,[x]=>if more then put (redir s x) [32] else redir s x
 | s,x::l=>redirs more (put (redir s x) [32]) l
def behind:S→List Arw→S
 | s,[]=>s
 | s,x::l=>behind (redir (put s [32]) x) l
section
variable (nd:S→Nat→S)
def kids (b:L):S→List Nat→S
 | s,[]=>s
 | s,[k]=>nd s k
 | s,k::l=>kids b (put (nd s k) b) l
def lines:S→List Nat→S
 | s,[]=>s
 | s,k::l=>lines (line (nd s k)) l
def part (s:S) (w:L) (k:Nat):S:=nd (line (put s w)) k
def kIF:L:=[105,102]
def kTHEN:L:=[116,104,101,110]
def kELSE:L:=[101,108,115,101]
def kFI:L:=[102,105]
def kDO:L:=[100,111]
def kDONE:L:=[100,111,110,101]
def compound (isIf:Nat→Bool) (s:S) (n:Sx.Node):S:=
 let k0:=n.kids.getD 0 0
 let k1:=n.kids.getD 1 0
 if n.kind=6 then
  let s:=part nd (part nd s kIF k0) kTHEN k1
  let s:=if n.kids.length=3 then (if isIf (n.kids.getD 2 0)=true then line (part nd s kELSE (n.kids.getD 2 0)) else part nd s kELSE (n.kids.getD 2 0)) else s
  put s kFI
 else if n.kind=7 then put (part nd (part nd s (if n.flag then [117,110,116,105,108] else [119,104,105,108,101]) k0) kDO k1) kDONE
 else if n.kind=8 then
  let s:=put s ([102,111,114,32]++n.text)
  let s:=if n.flag then s else put s ([32,105,110]++(n.words.flatMap fun w=>32::w))
  put (part nd (line s) kDO k0) kDONE
 else if n.kind=9 then put (kids nd [] (line (put s ([99,97,115,101,32]++n.text++[32,105,110]))) n.kids) [101,115,97,99]
 else if n.kind=11 then put (part nd s [123] k0) [125]
 else put (part nd s [40] k0) [41]
def body (isIf:Nat→Bool) (s:S) (n:Sx.Node):S:=
 if n.kind=1 then put (redirs (decide (n.words≠[])) s n.redirs) (words [32] n.words)
 else if n.kind=2 then kids nd [32,124,32] (if n.flag then put s [33,32] else s) n.kids
 else if n.kind=3 then kids nd [32,38,38,32] s n.kids
 else if n.kind=4 then kids nd [32,124,124,32] s n.kids
 else if n.kind=5 then lines nd s n.kids
 else if n.kind=13 then nd (put s (n.text++[40,41,32])) (n.kids.getD 0 0)
 else if n.kind=10 then line (put (part nd s ([40]++words [124] n.words++[41]) (n.kids.getD 0 0)) [59,59])
 else behind (compound nd isIf s n) n.redirs
end
def isIf (ns:List Sx.Node) (k:Nat):Bool:=(ns[k]?.map Sx.Node.kind)==some 6
def nodeF (ns:List Sx.Node):Nat→S→Nat→S
 | 0,s,_=>s
 | f+1,s,k=>match ns[k]? with
  | none=>s
  | some n=>body (nodeF ns f) (isIf ns) s n
def text (ns:List Sx.Node):L:=if ns=[] then [] else (nodeF ns ns.length ⟨[],[]⟩ (ns.length-1)).text
def sum (W:Nat→Nat):List Nat→Nat
 | []=>0
 | k::l=>W k+sum W l
def own (n:Sx.Node):Nat:=if n.kind=5 then n.kids.length else 0
def wF (c:Sx.Node→Nat) (ns:List Sx.Node):Nat→Nat→Nat
 | 0,_=>0
 | f+1,k=>match ns[k]? with
  | none=>0
  | some n=>c n+sum (wF c ns f) n.kids
theorem wF_fuel (c:Sx.Node→Nat) (ns:List Sx.Node) (hk:∀ (i:Nat) (h:i<ns.length),∀ j∈ns[i].kids,j<i):∀ (f g k:Nat),k<f→k<g→wF c ns f k=wF c ns g k
 | 0,_,_,h,_=>absurd h (by omega)
 | _+1,0,_,_,h=>absurd h (by omega)
 | f+1,g+1,k,h1,h2=>by
  unfold wF
  cases e:ns[k]? with
  | none=>rfl
  | some n=>
   obtain⟨hlt,rfl⟩:=List.getElem?_eq_some_iff.1 e
   have key:∀ l:List Nat,(∀ j∈l,j<k)→sum (wF c ns f) l=sum (wF c ns g) l:=by
    intro l
    induction l with
    | nil=>intro _;rfl
    | cons j l ih=>
     intro hl
     have hj:=hl j (by simp)
     simp only[sum]
     rw[wF_fuel c ns hk f g j (by omega) (by omega),ih fun x hx=>hl x (by simp[hx])]
   simp only
   rw[key _ (hk k hlt)]
def upTo (f:Nat→Nat):Nat→Nat
 | 0=>0
 | n+1=>upTo f n+f n
theorem upTo_add (f g:Nat→Nat) (n:Nat):upTo (fun i=>f i+g i) n=upTo f n+upTo g n:=by
 induction n with
 | zero=>rfl
 | succ n ih=>simp only[upTo,ih];omega
theorem upTo_congr {f g:Nat→Nat} {n:Nat} (h:∀ i,i<n→f i=g i):upTo f n=upTo g n:=by
 induction n with
 | zero=>rfl
 | succ n ih=>simp only[upTo];rw[ih fun i hi=>h i (by omega),h n (by omega)]
theorem upTo_zero (n:Nat):upTo (fun _=>0) n=0:=by
 induction n with
 | zero=>rfl
 | succ n ih=>simp only[upTo,ih]
theorem upTo_one (W:Nat→Nat) (k:Nat):∀ n,k<n→upTo (fun j=>if j=k then W j else 0) n=W k
 | 0,h=>absurd h (by omega)
 | n+1,h=>by
  simp only[upTo]
  by_cases e:n=k
  ·subst e
   rw[if_pos rfl,upTo_congr (g:=fun _=>0) fun i hi=>if_neg (by omega),upTo_zero]
   omega
  ·rw[if_neg e,upTo_one W k n (by omega)]
   rfl
theorem sum_count (W:Nat→Nat) (n:Nat):∀ (l:List Nat),(∀ j∈l,j<n)→sum W l=upTo (fun j=>l.count j*W j) n
 | [],_=>by simp only[sum,List.count_nil,Nat.zero_mul,upTo_zero]
 | k::l,h=>by
  rw[sum,sum_count W n l fun j hj=>h j (by simp[hj]),←upTo_one W k n (h k (by simp)),←upTo_add]
  refine upTo_congr fun j _=>?_
  simp only[List.count_cons]
  by_cases e:j=k
  ·subst e
   simp[Nat.succ_mul,Nat.add_comm]
  ·have e2:(k==j)=false:=by simpa using fun h=>e h.symm
   simp[e,e2]
theorem sum_app (W:Nat→Nat) (a b:List Nat):sum W (a++b)=sum W a+sum W b:=by
 induction a with
 | nil=>simp[sum]
 | cons x a ih=>simp only[List.cons_append,sum,ih];omega
def total (c:Sx.Node→Nat) (ns:List Sx.Node):Nat:=upTo (fun i=>(ns[i]?.map c).getD 0) ns.length
def least (ns:List Sx.Node):Nat:=total own ns
theorem total_eq (c:Sx.Node→Nat) {ns:List Sx.Node} (hf:Sx.Forest 0 ns [ns.length-1]) (h0:0<ns.length):wF c ns ns.length (ns.length-1)=total c ns:=by
 have hk:∀ (i:Nat) (h:i<ns.length),∀ j∈ns[i].kids,j<i:=fun i h j hj=>by have:=hf.kid i h j hj;omega
 obtain⟨W,hW⟩:∃ W,W=wF c ns ns.length:=⟨_,rfl⟩
 have hstep:∀ i,i<ns.length→W i=(ns[i]?.map c).getD 0+sum W ((ns[i]?.map Sx.Node.kids).getD []):=fun i hi=>by
  rw[hW,wF_fuel c ns hk ns.length (ns.length+1) i hi (by omega)]
  show wF c ns (ns.length+1) i=_
  rw[wF,List.getElem?_eq_getElem hi]
  rfl
 have h1:upTo W ns.length=total c ns+upTo (fun i=>sum W ((ns[i]?.map Sx.Node.kids).getD [])) ns.length:=by
  unfold total
  rw[←upTo_add]
  exact upTo_congr hstep
 have h2:∀ m,m≤ns.length→upTo (fun i=>sum W ((ns[i]?.map Sx.Node.kids).getD [])) m=sum W ((ns.take m).flatMap Sx.Node.kids):=by
  intro m
  induction m with
  | zero=>intro _;simp[upTo,sum]
  | succ m ih=>
   intro hm
   rw[upTo,ih (by omega),List.take_succ_eq_append_getElem (by omega),List.flatMap_append,sum_app,List.getElem?_eq_getElem (by omega)]
   simp
 have h3:=h2 ns.length (Nat.le_refl _)
 rw[List.take_length] at h3
 have hin:∀ j∈ns.flatMap Sx.Node.kids,j<ns.length:=fun j hj=>by have:=hf.in_ hj;omega
 rw[sum_count W ns.length _ hin] at h3
 obtain⟨m,hm⟩:∃ m,ns.length=m+1:=⟨ns.length-1,by omega⟩
 have hcnt:∀ j,j<m→(ns.flatMap Sx.Node.kids).count j=1:=fun j hj=>by
  have:=hf.one j (Nat.zero_le _) (by omega)
  have h0:[ns.length-1].count j=0:=List.count_eq_zero.2 (by simp;omega)
  omega
 have hlast:(ns.flatMap Sx.Node.kids).count m=0:=by
  have:=hf.one m (Nat.zero_le _) (by omega)
  rw[hm,Nat.add_sub_cancel] at this
  simp at this
  omega
 rw[h3,hm] at h1
 simp only[upTo,hlast,Nat.zero_mul,Nat.add_zero] at h1
 rw[upTo_congr (f:=fun j=>(ns.flatMap Sx.Node.kids).count j*W j) (g:=W) fun j hj=>by simp only[hcnt j hj,Nat.one_mul]] at h1
 rw[←hW,hm,Nat.add_sub_cancel]
 rw[hm] at hstep
 unfold total at h1⊢
 rw[hm] at h1⊢
 omega
def Whole (l:L):Prop:=l=[]∨l.getLast?=some 10
def size (s:S):Nat:=s.text.length+s.more.length
theorem size_put (s:S) (t:L):size (put s t)=size s+t.length:=by unfold size put;simp;omega
theorem size_line (s:S):size (line s)=size s+1:=by unfold size line;simp;omega
theorem num_len (n:Nat):(num n).length≤2:=by unfold num;split <;> simp
theorem bare_len (l:L):(Lx.bare l).length≤l.length:=List.length_filter_le _ _
def costR (x:Arw):Nat:=8+x.op.length+2*x.word.length+x.body.length
def costRs:List Arw→Nat
 | []=>0
 | x::l=>costR x+costRs l
def costW:List L→Nat
 | []=>0
 | w::l=>w.length+4+costW l
theorem size_redir (s:S) (x:Arw):size s≤size (redir s x)∧size (redir s x)+3≤size s+costR x:=by
 have h1:=num_len x.fd
 have h2:=bare_len x.word
 unfold redir costR
 split
 ·unfold size;simp;omega
 ·rw[size_put];simp;omega
theorem size_redirs (m:Bool):∀ (l:List Arw) (s:S),size s≤size (redirs m s l)∧size (redirs m s l)≤size s+costRs l
 | [],s=>⟨Nat.le_refl _,Nat.le_refl _⟩
 | [x],s=>by
  have:=size_redir s x
  have h2:=size_put (redir s x) [32]
  unfold redirs costRs costRs
  simp only[List.length_cons,List.length_nil] at h2
  split <;> omega
 | x::y::l,s=>by
  have h1:=size_redir s x
  have h2:=size_put (redir s x) [32]
  have h3:=size_redirs m (y::l) (put (redir s x) [32])
  unfold redirs
  rw[costRs]
  simp only[List.length_cons,List.length_nil] at h2
  omega
theorem size_behind:∀ (l:List Arw) (s:S),size s≤size (behind s l)∧size (behind s l)≤size s+costRs l
 | [],s=>⟨Nat.le_refl _,Nat.le_refl _⟩
 | x::l,s=>by
  have h1:=size_redir (put s [32]) x
  have h2:=size_put s [32]
  have h3:=size_behind l (redir (put s [32]) x)
  unfold behind
  rw[costRs]
  simp only[List.length_cons,List.length_nil] at h2
  omega
theorem words_len (b:L) (hb:b.length≤4):∀ l:List L,(words b l).length≤costW l
 | []=>Nat.le_refl _
 | [w]=>by unfold words costW costW;omega
 | w::v::l=>by
  have:=words_len b hb (v::l)
  unfold words
  rw[costW]
  simp only[List.length_append]
  omega
theorem flat_len:∀ l:List L,(l.flatMap fun w=>32::w).length≤costW l
 | []=>Nat.le_refl _
 | w::l=>by
  have:=flat_len l
  rw[costW,List.flatMap_cons]
  simp only[List.length_append,List.length_cons]
  omega
def cost (n:Sx.Node):Nat:=100+n.text.length+costW n.words+costRs n.redirs+8*n.kids.length
section
variable {nd:S→Nat→S} (h:∀ s k,size s≤size (nd s k))
include h
theorem mono_kids (b:L):∀ (l:List Nat) (s:S),size s≤size (kids nd b s l)
 | [],_=>Nat.le_refl _
 | [k],s=>h s k
 | k::j::l,s=>by
  have h1:=h s k
  have h2:=size_put (nd s k) b
  have h3:=mono_kids b (j::l) (put (nd s k) b)
  simp only[kids]
  omega
theorem mono_lines:∀ (l:List Nat) (s:S),size s≤size (lines nd s l)
 | [],_=>Nat.le_refl _
 | k::l,s=>by
  have h1:=h s k
  have h2:=size_line (nd s k)
  have h3:=mono_lines l (line (nd s k))
  simp only[lines]
  omega
theorem mono_part (s:S) (w:L) (k:Nat):size s≤size (part nd s w k):=by
 unfold part
 have h1:=size_put s w
 have h2:=size_line (put s w)
 have h3:=h (line (put s w)) k
 omega
theorem mono_compound (f:Nat→Bool) (s:S) (n:Sx.Node):size s≤size (compound nd f s n):=by
 unfold compound
 simp only
 have hp:=fun s w k=>mono_part h s w k
 have hk:=fun b l s=>mono_kids h b l s
 split
 ·rw[size_put]
  refine Nat.le_trans ?_ (Nat.le_add_right _ _)
  refine Nat.le_trans (Nat.le_trans (hp s kIF (n.kids.getD 0 0)) (hp (part nd s kIF (n.kids.getD 0 0)) kTHEN (n.kids.getD 1 0))) ?_
  split
  ·split
   ·rw[size_line];exact Nat.le_trans (hp _ _ _) (Nat.le_add_right _ _)
   ·exact hp _ _ _
  ·exact Nat.le_refl _
 split
 ·rw[size_put];exact Nat.le_trans (Nat.le_trans (hp _ _ _) (hp _ _ _)) (Nat.le_add_right _ _)
 split
 ·rw[size_put]
  refine Nat.le_trans ?_ (Nat.le_add_right _ _)
  refine Nat.le_trans ?_ (hp _ _ _)
  rw[size_line]
  refine Nat.le_trans ?_ (Nat.le_add_right _ _)
  split
  ·rw[size_put];omega
  ·rw[size_put,size_put];omega
 split
 ·rw[size_put]
  refine Nat.le_trans ?_ (Nat.le_add_right _ _)
  refine Nat.le_trans ?_ (hk _ _ _)
  rw[size_line,size_put];omega
 split
 ·rw[size_put];exact Nat.le_trans (hp _ _ _) (Nat.le_add_right _ _)
 ·rw[size_put];exact Nat.le_trans (hp _ _ _) (Nat.le_add_right _ _)
theorem mono_body (f:Nat→Bool) (s:S) (n:Sx.Node):size s≤size (body nd f s n):=by
 have hp:=fun s w k=>mono_part h s w k
 have hk:=fun b l s=>mono_kids h b l s
 unfold body
 split
 ·rw[size_put];exact Nat.le_trans (size_redirs _ _ _).1 (Nat.le_add_right _ _)
 split
 ·refine Nat.le_trans ?_ (hk _ _ _)
  split
  ·rw[size_put];omega
  ·exact Nat.le_refl _
 split
 ·exact hk _ _ _
 split
 ·exact hk _ _ _
 split
 ·exact mono_lines h _ _
 split
 ·refine Nat.le_trans ?_ (h _ _);rw[size_put];omega
 split
 ·rw[size_line,size_put];have:=hp s ([40]++words [124] n.words++[41]) (n.kids.getD 0 0);omega
 ·exact Nat.le_trans (mono_compound h f s n) (size_behind _ _).1
end
section
variable {nd:S→Nat→S} {W:Nat→Nat} (h:∀ s k,size (nd s k)≤size s+W k)
include h
theorem most_kids (b:L) (hb:b.length≤4):∀ (l:List Nat) (s:S),size (kids nd b s l)≤size s+sum W l+4*l.length
 | [],_=>Nat.le_add_right _ _
 | [k],s=>by have:=h s k;simp only[sum,kids,List.length_cons,List.length_nil];omega
 | k::j::l,s=>by
  have h1:=h s k
  have h2:=size_put (nd s k) b
  have h3:=most_kids b hb (j::l) (put (nd s k) b)
  simp only[sum,kids,List.length_cons] at h3⊢
  omega
theorem most_lines:∀ (l:List Nat) (s:S),size (lines nd s l)≤size s+sum W l+4*l.length
 | [],_=>Nat.le_add_right _ _
 | k::l,s=>by
  have h1:=h s k
  have h2:=size_line (nd s k)
  have h3:=most_lines l (line (nd s k))
  simp only[sum,lines,List.length_cons] at h3⊢
  omega
theorem most_part (s:S) (w:L) (k:Nat):size (part nd s w k)≤size s+w.length+1+W k:=by
 unfold part
 have h1:=size_put s w
 have h2:=size_line (put s w)
 have h3:=h (line (put s w)) k
 omega
theorem most_compound (f:Nat→Bool) (s:S) (n:Sx.Node) (hn:n.kind≠5) (h1:n.kind≠1) (h2:n.kind≠2) (h34:¬ (n.kind=3∨n.kind=4)) (hs:Sx.shapeB n=true):size (compound nd f s n)+costRs n.redirs≤size s+cost n+sum W n.kids:=by
 unfold Sx.shapeB at hs
 rw[if_neg h1,if_neg h2] at hs
 unfold compound cost
 simp only
 by_cases k6:n.kind=6
 ·rw[if_neg (by rw[k6];decide),if_pos k6] at hs
  rw[if_pos k6]
  simp only[Bool.or_eq_true,beq_iff_eq] at hs
  have p1:=most_part h s kIF (n.kids.getD 0 0)
  have p2:=most_part h (part nd s kIF (n.kids.getD 0 0)) kTHEN (n.kids.getD 1 0)
  rw[show kIF.length=2 from rfl] at p1
  rw[show kTHEN.length=4 from rfl] at p2
  rcases hs with hs | hs
  ·rw[if_neg (by rw[hs];decide)]
   have p3:=size_put (part nd (part nd s kIF (n.kids.getD 0 0)) kTHEN (n.kids.getD 1 0)) kFI
   rw[show kFI.length=2 from rfl] at p3
   match hk:n.kids,hs with
   | [a,b],_=>
    rw[hk] at p1 p2 p3
    simp only[List.getD_cons_zero,List.getD_cons_succ,sum] at p1 p2 p3⊢
    omega
  ·rw[if_pos hs]
   match hk:n.kids,hs with
   | [a,b,c],_=>
    rw[hk] at p1 p2
    simp only[List.getD_cons_zero,List.getD_cons_succ,sum] at p1 p2⊢
    have p3:=most_part h (part nd (part nd s kIF a) kTHEN b) kELSE c
    rw[show kELSE.length=4 from rfl] at p3
    have p4:=size_line (part nd (part nd (part nd s kIF a) kTHEN b) kELSE c)
    split
    ·have p5:=size_put (line (part nd (part nd (part nd s kIF a) kTHEN b) kELSE c)) kFI
     rw[show kFI.length=2 from rfl] at p5
     omega
    ·have p5:=size_put (part nd (part nd (part nd s kIF a) kTHEN b) kELSE c) kFI
     rw[show kFI.length=2 from rfl] at p5
     omega
 rw[if_neg k6]
 by_cases k7:n.kind=7
 ·rw[if_pos (.inr (.inr k7))] at hs
  rw[if_pos k7]
  simp only[beq_iff_eq] at hs
  match hk:n.kids,hs with
  | [a,b],_=>
   simp only[List.getD_cons_zero,List.getD_cons_succ,sum]
   have p0:(if n.flag then [117,110,116,105,108] else [119,104,105,108,101]:L).length=5:=by split <;> rfl
   have p1:=most_part h s (if n.flag then [117,110,116,105,108] else [119,104,105,108,101]) a
   have p2:=most_part h (part nd s (if n.flag then [117,110,116,105,108] else [119,104,105,108,101]) a) kDO b
   have p3:=size_put (part nd (part nd s (if n.flag then [117,110,116,105,108] else [119,104,105,108,101]) a) kDO b) kDONE
   rw[show kDO.length=2 from rfl] at p2
   rw[show kDONE.length=4 from rfl] at p3
   omega
 rw[if_neg k7]
 rw[if_neg (by rintro(e | e | e);exact h34 (.inl e);exact h34 (.inr e);exact k7 e),if_neg k6] at hs
 by_cases k9:n.kind=9
 ·rw[if_neg (by rw[k9];decide),if_pos k9]
  have p1:=size_put s ([99,97,115,101,32]++n.text++[32,105,110])
  simp only[List.length_append,List.length_cons,List.length_nil] at p1
  have p2:=size_line (put s ([99,97,115,101,32]++n.text++[32,105,110]))
  have p3:=most_kids h [] (by decide) n.kids (line (put s ([99,97,115,101,32]++n.text++[32,105,110])))
  have p4:=size_put (kids nd [] (line (put s ([99,97,115,101,32]++n.text++[32,105,110]))) n.kids) [101,115,97,99]
  simp only[List.length_cons,List.length_nil] at p4
  omega
 by_cases hg:n.kind=8∨n.kind=11∨n.kind=12∨n.kind=13∨n.kind=10
 ·rw[if_pos hg] at hs
  simp only[beq_iff_eq] at hs
  match hk:n.kids,hs with
  | [a],_=>
   simp only[List.getD_cons_zero,sum]
   by_cases k8:n.kind=8
   ·rw[if_pos k8]
    have p0:=flat_len n.words
    have p1:=size_put s ([102,111,114,32]++n.text)
    have p2:=size_put (put s ([102,111,114,32]++n.text)) ([32,105,110]++(n.words.flatMap fun w=>32::w))
    simp only[List.length_append,List.length_cons,List.length_nil] at p1 p2
    split
    ·have p3:=size_line (put s ([102,111,114,32]++n.text))
     have p4:=most_part h (line (put s ([102,111,114,32]++n.text))) kDO a
     have p5:=size_put (part nd (line (put s ([102,111,114,32]++n.text))) kDO a) kDONE
     rw[show kDO.length=2 from rfl] at p4
     rw[show kDONE.length=4 from rfl] at p5
     omega
    ·have p3:=size_line (put (put s ([102,111,114,32]++n.text)) ([32,105,110]++(n.words.flatMap fun w=>32::w)))
     have p4:=most_part h (line (put (put s ([102,111,114,32]++n.text)) ([32,105,110]++(n.words.flatMap fun w=>32::w)))) kDO a
     have p5:=size_put (part nd (line (put (put s ([102,111,114,32]++n.text)) ([32,105,110]++(n.words.flatMap fun w=>32::w)))) kDO a) kDONE
     rw[show kDO.length=2 from rfl] at p4
     rw[show kDONE.length=4 from rfl] at p5
     omega
   ·rw[if_neg k8,if_neg k9]
    by_cases k11:n.kind=11
    ·rw[if_pos k11]
     have p1:=most_part h s [123] a
     have p2:=size_put (part nd s [123] a) [125]
     simp only[List.length_cons,List.length_nil] at p1 p2
     omega
    ·rw[if_neg k11]
     have p1:=most_part h s [40] a
     have p2:=size_put (part nd s [40] a) [41]
     simp only[List.length_cons,List.length_nil] at p1 p2
     omega
 ·rw[if_neg hg] at hs
  simp only[Bool.or_eq_true,beq_iff_eq] at hs
  exact absurd hs (by rintro(e | e);exact k9 e;exact hn e)
theorem most_body (f:Nat→Bool) (s:S) (n:Sx.Node) (hs:Sx.shapeB n=true):size (body nd f s n)≤size s+cost n+sum W n.kids:=by
 have hs0:=hs
 unfold Sx.shapeB at hs0
 unfold body
 by_cases k1:n.kind=1
 ·rw[if_pos k1] at hs0
  rw[if_pos k1]
  unfold cost
  have p1:=(size_redirs (decide (n.words≠[])) n.redirs s).2
  have p2:=size_put (redirs (decide (n.words≠[])) s n.redirs) (words [32] n.words)
  have p3:=words_len [32] (by decide) n.words
  omega
 rw[if_neg k1] at hs0⊢
 by_cases k2:n.kind=2
 ·rw[if_pos k2]
  unfold cost
  have p2:=size_put s [33,32]
  simp only[List.length_cons,List.length_nil] at p2
  by_cases hfl:n.flag=true
  ·rw[if_pos hfl]
   have p1:=most_kids h [32,124,32] (by decide) n.kids (put s [33,32])
   omega
  ·rw[if_neg hfl]
   have p1:=most_kids h [32,124,32] (by decide) n.kids s
   omega
 rw[if_neg k2] at hs0⊢
 by_cases k3:n.kind=3
 ·rw[if_pos k3]
  unfold cost
  have:=most_kids h [32,38,38,32] (by decide) n.kids s
  omega
 rw[if_neg k3]
 by_cases k4:n.kind=4
 ·rw[if_pos k4]
  unfold cost
  have:=most_kids h [32,124,124,32] (by decide) n.kids s
  omega
 rw[if_neg k4]
 by_cases k5:n.kind=5
 ·rw[if_pos k5]
  unfold cost
  have:=most_lines h n.kids s
  omega
 rw[if_neg k5]
 by_cases k13:n.kind=13
 ·rw[if_pos k13]
  rw[if_neg (by rw[k13];decide),if_neg (by rw[k13];decide),if_pos (.inr (.inr (.inr (.inl k13))))] at hs0
  simp only[beq_iff_eq] at hs0
  unfold cost
  match hk:n.kids,hs0 with
  | [a],_=>
   have p1:=size_put s (n.text++[40,41,32])
   have p2:=h (put s (n.text++[40,41,32])) a
   simp only[List.length_append,List.length_cons,List.length_nil] at p1
   simp only[List.getD_cons_zero,sum]
   omega
 rw[if_neg k13]
 by_cases k10:n.kind=10
 ·rw[if_pos k10]
  rw[if_neg (by rw[k10];decide),if_neg (by rw[k10];decide),if_pos (.inr (.inr (.inr (.inr k10))))] at hs0
  simp only[beq_iff_eq] at hs0
  unfold cost
  match hk:n.kids,hs0 with
  | [a],_=>
   have p0:=words_len [124] (by decide) n.words
   have p1:=most_part h s ([40]++words [124] n.words++[41]) a
   have p2:=size_put (part nd s ([40]++words [124] n.words++[41]) a) [59,59]
   have p3:=size_line (put (part nd s ([40]++words [124] n.words++[41]) a) [59,59])
   simp only[List.length_append,List.length_cons,List.length_nil] at p1 p2
   simp only[List.getD_cons_zero,sum]
   omega
 rw[if_neg k10]
 have p1:=most_compound h f s n k5 k1 k2 (by rintro(e | e);exact k3 e;exact k4 e) hs
 have p2:=(size_behind n.redirs (compound nd f s n)).2
 omega
end
theorem most_node (ns:List Sx.Node) (hs:∀ n∈ns,Sx.shapeB n=true):∀ (f:Nat) (s:S) (k:Nat),size (nodeF ns f s k)≤size s+wF cost ns f k
 | 0,_,_=>Nat.le_refl _
 | f+1,s,k=>by
  unfold wF nodeF
  cases e:ns[k]? with
  | none=>exact Nat.le_add_right _ _
  | some n=>
   have:=most_body (most_node ns hs f) (isIf ns) s n (hs n (List.mem_of_getElem? e))
   simp only
   omega
theorem upTo_most (g:Nat→Nat) (K:Nat):∀ n,(∀ i,i<n→g i≤K)→upTo g n≤n*K
 | 0,_=>by simp[upTo]
 | n+1,h=>by
  have h1:=upTo_most g K n fun i hi=>h i (by omega)
  have h2:=h n (by omega)
  simp only[upTo,Nat.succ_mul]
  omega
theorem most_text {ns:List Sx.Node} (hf:Sx.Forest 0 ns [ns.length-1]) (h0:0<ns.length) (K:Nat) (hc:∀ n∈ns,cost n≤K):size (nodeF ns ns.length ⟨[],[]⟩ (ns.length-1))≤ns.length*K:=by
 have h1:=most_node ns hf.shape ns.length ⟨[],[]⟩ (ns.length-1)
 rw[total_eq cost hf h0] at h1
 have h2:total cost ns≤ns.length*K:=upTo_most _ K _ fun i hi=>by
  rw[List.getElem?_eq_getElem hi]
  exact hc _ (List.getElem_mem hi)
 have h3:size ⟨[],[]⟩=0:=rfl
 omega
theorem mono_node (ns:List Sx.Node):∀ (f:Nat) (s:S) (k:Nat),size s≤size (nodeF ns f s k)
 | 0,_,_=>Nat.le_refl _
 | f+1,s,k=>by
  unfold nodeF
  cases ns[k]? with
  | none=>exact Nat.le_refl _
  | some n=>exact mono_body (fun s k=>mono_node ns f s k) _ _ _
end Up
end Go.Proofs.YtkkchkkpnlnbgaaGreatDoor
namespace Go.Proofs.YtkkchkkpnlnbgaaGreatDoor
open Lx (nl Tok)
namespace Sx
theorem few_of_count:∀ (n:Nat) (ks:List Nat),(∀ x∈ks,x<n)→(∀ j,ks.count j≤1)→ks.length≤n
 | 0,ks,h,_=>by
  cases ks with
  | nil=>exact Nat.le_refl _
  | cons x _=>exact absurd (h x (by simp)) (by omega)
 | n+1,ks,h,hc=>by
  have h1:(ks.filter fun x=>!(x==n)).length≤n:=few_of_count n _ (fun x hx=>by
   obtain⟨h2,h3⟩:=List.mem_filter.1 hx
   have:=h x h2
   simp at h3
   omega) (fun j=>Nat.le_trans (List.Sublist.count_le j List.filter_sublist) (hc j))
  have h2:ks.length=(ks.filter fun x=>x==n).length+(ks.filter fun x=>!(x==n)).length:=by
   rw[←List.countP_eq_length_filter,←List.countP_eq_length_filter]
   have:=List.length_eq_countP_add_countP (l:=ks) (fun x=>x==n)
   rw[this]
   congr 2
   funext x
   cases x==n <;> simp
  have h3:(ks.filter fun x=>x==n).length≤1:=by
   rw[←List.countP_eq_length_filter]
   exact hc n
  omega
theorem tree_small {S:L} {ns:List Node} (h:tree S=.ok ns):ns.length≤8*S.length+9∧∀ n∈ns,n.kids.length≤ns.length∧∀ j∈n.kids,j<ns.length:=by
 unfold tree at h
 cases hx:Lx.all S with
 | error e=>rw[hx] at h;cases h
 | ok ts=>
  rw[hx] at h
  have h:parse ts=.ok ns:=h
  unfold parse at h
  cases hs:script (ts.length+1) ⟨ts,0,[]⟩ with
  | error e=>rw[hs] at h;cases h
  | ok x=>
   obtain⟨u,s'⟩:=x
   rw[hs] at h
   have h:(Except.ok s'.ns:Except Er (List Node))=.ok ns:=h
   injection h with h
   subst h
   unfold script at hs
   obtain⟨i,s1,h1,h2⟩:=bnd_inv hs
   have hw:=anyF_un (ts.length+1) ⟨ts,0,[]⟩ i s1 (Lx.all_good hx) h1
   have e1:s1=s':=by
    by_cases e:(hd s1).kind=4
    ·rw[if_pos e] at h2;cases h2;rfl
    ·rw[if_neg e] at h2;cases h2
   subst e1
   obtain⟨ms,e2,f⟩:=hw.fo
   simp only[List.nil_append] at e2
   have hp:=hw.pot
   have hsm:=(Lx.all_small hx).1
   rw[←e2] at f
   refine⟨by simp only[List.length_nil] at hp;omega,fun n hn=>?_⟩
   obtain⟨k,hk,rfl⟩:=List.getElem_of_mem hn
   have hkid:∀ j∈s1.ns[k].kids,j<s1.ns.length:=fun j hj=>by have:=f.kid k hk j hj;simp only[List.length_nil] at this;omega
   refine⟨few_of_count _ _ hkid fun j=>?_,hkid⟩
   by_cases hj:j<s1.ns.length
   ·have h3:=f.one j (by simp) (by simp only[List.length_nil];omega)
    have h4:s1.ns[k].kids.count j≤(s1.ns.flatMap Node.kids).count j:=by
     have e:s1.ns=s1.ns.take k++(s1.ns[k]::s1.ns.drop (k+1)):=by rw[←List.drop_eq_getElem_cons hk,List.take_append_drop]
     conv=>rhs;rw[e]
     rw[List.flatMap_append,List.flatMap_cons,List.count_append,List.count_append]
     omega
    omega
   ·have:s1.ns[k].kids.count j=0:=List.count_eq_zero.2 fun e=>hj (hkid j e)
    omega
end Sx
end Go.Proofs.YtkkchkkpnlnbgaaGreatDoor
namespace Go.Proofs.YtkkchkkpnlnbgaaGreatDoor
namespace Lx
theorem cut_sum:∀ l:L,(cut l).2≠[]→(cut l).1.length+1+(cut l).2.length=l.length
 | [],h=>absurd rfl h
 | c::r,h=>by
  unfold cut at h⊢
  split
  ·rw[if_pos (by assumption)] at h;simp
   try omega
  ·rw[if_neg (by assumption)] at h
   have:=cut_sum r h
   simp only[List.length_cons]
   omega
theorem docF_sum (last:L):∀ (n:Nat) (l b r:L),docF last n l=some (b,r)→b.length+r.length≤l.length
 | 0,_,_,_,h=>by cases h
 | n+1,l,b,r,h=>by
  unfold docF at h
  split at h
  ·cases h
  ·rename_i hl
   split at h
   ·cases h
    have:=cut_len l hl
    simp only[List.length_nil]
    omega
   ·cases e:docF last n (cut l).2 with
    | none=>rw[e] at h;cases h
    | some p=>
     obtain⟨b1,r1⟩:=p
     rw[e] at h
     cases h
     have h1:=docF_sum last n _ _ _ e
     have h2:=cut_sum l (fun e2=>by rw[e2] at e;cases n with
      | zero=>cases e
      | succ n=>unfold docF at e;rw[if_pos rfl] at e;cases e)
     simp only[List.length_append,List.length_cons]
     omega
def Bods (n:Nat) (out:List Tok):Prop:=∀ t∈out,t.body.length≤n
theorem lay_bods {n:Nat} {out:List Tok} (h:Bods n out) (k:Nat) (b:L) (hb:b.length≤n):Bods n (lay k b out):=by
 intro t ht
 obtain⟨i,hi⟩:=List.getElem?_of_mem ht
 rw[lay_at] at hi
 cases e:out[i]? with
 | none=>rw[e] at hi;cases hi
 | some u=>
  rw[e] at hi
  simp only[Option.map_some,Option.some.injEq] at hi
  have h1:=h u (List.mem_of_getElem? e)
  split at hi
  ·subst hi;exact hb
  ·subst hi;exact h1
theorem bodies_bods {n:Nat} {ks:List Nat} {out o:List Tok} {l r:L} (h:Bods n out) (hl:l.length≤n) (e:bodies ks out l=some (o,r)):Bods n o:=by
 induction ks generalizing out l with
 | nil=>cases e;exact h
 | cons k ks ih=>
  unfold bodies at e
  cases e1:doc (bare ((out[k]?.map Tok.text).getD [])) l with
  | none=>rw[e1] at e;cases e
  | some x=>
   rw[e1] at e
   have:=docF_sum _ _ _ _ _ e1
   exact ih (lay_bods h k x.1 (by omega)) (by omega) e
theorem bods_snoc {n:Nat} {out:List Tok} (h:Bods n out) {u:Tok} (hu:u.body=[]):Bods n (out++[u]):=fun t hm=>by
 rcases List.mem_append.1 hm with hm | hm
 ·exact h t hm
 ·rw[List.mem_singleton.1 hm,hu];exact Nat.zero_le _
theorem bods_step {S l l':L} {out out':List Tok} {here here':List Nat} (hl:l.length≤S.length) (h:Bods S.length out) (e:step l out here=.more l' out' here'):Bods S.length out':=by
 unfold step at e
 cases l with
 | nil=>simp only at e;split at e <;> cases e
 | cons c r=>
  simp only at e
  split at e
  ·cases e;exact h
  split at e
  ·cases e;exact h
  split at e
  ·cases e;exact h
  split at e
  ·cases e1:bodies here (out++[⟨3,[],[],nl (c::r)⟩]) r with
   | none=>rw[e1] at e;cases e
   | some x=>
    rw[e1] at e
    cases e
    exact bodies_bods (bods_snoc h rfl) (by rw[List.length_cons] at hl;omega) e1
  ·cases e1:sign (c::r) with
   | some x=>
    obtain⟨t,r'⟩:=x
    rw[e1] at e
    cases e
    exact bods_snoc h rfl
   | none=>
    rw[e1] at e
    simp only at e
    split at e
    ·cases e
    ·cases e2:word (c::r) with
     | error x=>rw[e2] at e;cases e
     | ok x=>
      obtain⟨t,r'⟩:=x
      rw[e2] at e
      simp only at e
      split at e
      ·cases e;exact bods_snoc h rfl
      ·cases e;exact bods_snoc h rfl
theorem all_bods {s:L} {o:List Tok} (h:all s=.ok o):Bods s.length o:=by
 obtain⟨h1,h2⟩:=run_ind (fun l out _=>Small s l out∧Bods s.length out) (fun l out here l' out' here' h e=>⟨small_step h.1 e,bods_step (by have:=h.1.1;omega) h.2 e⟩) s [] [] ⟨⟨by simp,nofun⟩,nofun⟩
 obtain⟨l',o',hh,⟨_,h5⟩,h4⟩:=h2 o h
 unfold step at h4
 cases l' with
 | nil=>
  simp only at h4
  split at h4
  ·have:=Step.done.inj h4
   subst this
   exact bods_snoc h5 rfl
  ·cases h4
 | cons c r=>
  exfalso
  simp only at h4
  split at h4
  ·cases h4
  ·split at h4
   ·cases h4
   ·split at h4
    ·cases h4
    ·split at h4
     ·split at h4 <;> cases h4
     ·split at h4
      ·cases h4
      ·split at h4
       ·cases h4
       ·split at h4
        ·cases h4
        ·split at h4 <;> cases h4
end Lx
namespace Sx
open Lx (Tok)
structure Sm (n:Node):Prop where
 t:n.text.length≤4100
 w:n.words.length≤4100
 r:n.redirs.length≤4100
 ws:∀ x∈n.words,x.length≤4100
 rs:∀ x∈n.redirs,x.fd≤99∧x.op.length≤2∧x.word.length≤4100∧x.body.length≤4100
def arrL:List Tok→Prop
 | t::u::r=>(t.kind=5→u.text.length≤2)∧arrL (u::r)
 | _=>True
theorem arrL_suf:∀ (p:List Tok) {q:List Tok},arrL (p++q)→arrL q
 | [],_,h=>h
 | [t],q,h=>by
  cases q with
  | nil=>trivial
  | cons u q=>exact h.2
 | t::u::p,q,h=>arrL_suf (u::p) h.2
structure Ss (s:St):Prop where
 a:arrL s.r
 r:s.r.length≤4100
 t:∀ t∈s.r,t.text.length≤4100∧t.body.length≤4100
 n:∀ n∈s.ns,Sm n
def Pz {α:Type} (Q:α→Prop) (m:M α):Prop:=∀ s x s',m s=.ok (x,s')→Ss s→(Ss s'∧s'.r.length≤s.r.length)∧Q x
def any {α:Type} (_:α):Prop:=True
theorem Pz.bnd {α β:Type} {Q:α→Prop} {R:β→Prop} {m:M α} {f:α→M β} (h:Pz Q m) (hf:∀ a,Q a→Pz R (f a)):Pz R (Sx.bnd m f):=by
 intro s x s2 h1 hs
 obtain⟨a,s',h2,h3⟩:=bnd_inv h1
 obtain⟨⟨h4,h5⟩,h6⟩:=h s a s' h2 hs
 obtain⟨⟨h7,h8⟩,h9⟩:=hf a h6 s' x s2 h3 h4
 exact⟨⟨h7,Nat.le_trans h8 h5⟩,h9⟩
theorem Pz.ret {α:Type} {Q:α→Prop} {a:α} (h:Q a):Pz Q (Sx.ret a):=by
 intro s x s' e hs
 cases e
 exact⟨⟨hs,Nat.le_refl _⟩,h⟩
theorem Pz.err {α:Type} {Q:α→Prop} (e:Er):Pz Q (fun _=>.error e:M α):=by
 intro s x s' h
 cases h
theorem Pz.at_ {α:Type} {Q:α→Prop} {m:M α} {F:St→M α} (hm:∀ s,m s=F s s) (h:∀ s,Ss s→Pz Q (F s)):Pz Q m:=by
 intro s x s' e hs
 rw[hm s] at e
 exact h s hs s x s' e hs
theorem Ss.suf {s s':St} (h:Ss s) (hs:s'.r <:+ s.r) (hn:s'.ns=s.ns):Ss s'∧s'.r.length≤s.r.length:=
 ⟨⟨by obtain⟨p,e⟩:=hs;have ha:=h.a;rw[←e] at ha;exact arrL_suf p ha,Nat.le_trans hs.length_le h.r,fun t ht=>h.t t (hs.subset ht),by rw[hn];exact h.n⟩,hs.length_le⟩
theorem Ss.go {s:St} (h:Ss s):Ss (Sx.go s)∧(Sx.go s).r.length≤s.r.length:=h.suf (List.tail_suffix _) rfl
theorem Ss.hd {s:St} (h:Ss s):(Sx.hd s).text.length≤4100∧(Sx.hd s).body.length≤4100:=by
 unfold Sx.hd
 cases e:s.r with
 | nil=>simp[E]
 | cons t r=>exact h.t t (by rw[e];simp)
theorem Ss.arr2 {s:St} (h:Ss s) (e:(Sx.hd s).kind=5):(Sx.hd (Sx.go s)).text.length≤2:=by
 have ha:=h.a
 unfold Sx.hd Sx.go
 unfold Sx.hd at e
 match hr:s.r,ha with
 | [],_=>simp[E]
 | [t],_=>simp[E]
 | t::u::r,ha=>
  rw[hr] at e
  exact ha.1 e
theorem Pz.step {α:Type} {Q:α→Prop} {m:M α} (h:Pz Q m):Pz Q (fun s=>m (Sx.go s)):=fun s x s' e hs=>by
 obtain⟨⟨a,b⟩,c⟩:=h _ x s' e hs.go.1
 exact⟨⟨a,Nat.le_trans b hs.go.2⟩,c⟩
theorem passed_z (t:L):Pz any (passed t):=by
 intro s x s' h hs
 unfold passed at h
 split at h
 ·cases h;exact⟨hs.go,trivial⟩
 ·cases h;exact⟨⟨hs,Nat.le_refl _⟩,trivial⟩
theorem need_z (t:L):Pz any (need t):=by
 intro s x s' h hs
 unfold need at h
 split at h
 ·cases h;exact⟨hs.go,trivial⟩
 ·cases h
theorem lines_z:Pz any lines:=by
 intro s x s' h hs
 cases h
 exact⟨hs.suf (dropL_suf _) rfl,trivial⟩
theorem parted_z:Pz any parted:=by
 intro s x s' h hs
 unfold parted at h
 split at h
 ·cases h
  exact⟨hs.suf (s':=dl (go s)) ((dropL_suf _).trans (List.tail_suffix _)) rfl,trivial⟩
 ·cases h;exact⟨⟨hs,Nat.le_refl _⟩,trivial⟩
def smT (t:Tok):Prop:=t.text.length≤4100∧t.body.length≤4100
theorem word_z:Pz smT word:=by
 intro s x s' h hs
 unfold word at h
 split at h
 ·cases h;exact⟨hs.go,hs.hd⟩
 ·cases h
theorem name_z:Pz (fun t:L=>t.length≤4100) name:=by
 intro s x s' h hs
 unfold name at h
 split at h
 ·cases h;exact⟨hs.go,hs.hd.1⟩
 ·cases h
theorem wordsL_z:∀ r:List Tok,(wordsL r).1.length+(wordsL r).2.length=r.length∧∀ x∈(wordsL r).1,∃ t∈r,x=t.text
 | []=>⟨rfl,by simp[wordsL]⟩
 | t::r=>by
  unfold wordsL
  split
  ·obtain⟨h1,h2⟩:=wordsL_z r
   refine⟨by simp only[List.length_cons];omega,fun x hx=>?_⟩
   rcases List.mem_cons.1 hx with rfl | hx
   ·exact⟨t,by simp,rfl⟩
   ·obtain⟨u,hu,e⟩:=h2 x hx
    exact⟨u,by simp[hu],e⟩
  ·exact⟨by simp,by simp⟩
def smW (l:List L):Prop:=l.length≤4100∧∀ x∈l,x.length≤4100
theorem words_z:Pz smW words:=by
 intro s x s' h hs
 cases h
 obtain⟨h1,h2⟩:=wordsL_z s.r
 refine⟨hs.suf (s':={ s with r:=(wordsL s.r).2 }) (wordsL_suf _) rfl,by have:=hs.r;show (wordsL s.r).1.length≤4100;omega,fun x hx=>?_⟩
 obtain⟨t,ht,rfl⟩:=h2 x hx
 exact(hs.t t ht).1
def smA (x:Arw):Prop:=x.fd≤99∧x.op.length≤2∧x.word.length≤4100∧x.body.length≤4100
theorem word_less {s s':St} {t:Tok} (h:word s=.ok (t,s')):s'.r.length+1≤s.r.length:=by
 unfold word at h
 split at h
 ·rename_i e
  cases h
  unfold hd at e
  unfold go
  cases e2:s.r with
  | nil=>rw[e2] at e;cases e
  | cons t r=>simp
 ·cases h
theorem num_99 (l:L):∀ n,n≤99→l.foldl (fun n c=>min (n*10+(c-48).toNat) 99) n≤99:=by
 induction l with
 | nil=>intro n h;exact h
 | cons c l ih=>intro n _;exact ih _ (Nat.min_le_right _ _)
theorem file_99 (io op:L):file io op≤99:=by
 unfold file
 split
 ·exact num_99 _ _ (by omega)
 ·split <;> omega
theorem arrow_two {t:L} (h:isArrow t=true):t.length≤2:=by
 unfold isArrow at h
 simp only[Bool.or_eq_true,beq_iff_eq] at h
 rcases h with((h | h) | h) | h <;> (rw[h];decide)
theorem redir_z {s s':St} {x:Arw} (hr:atRedir s=true) (h:redir s=.ok (x,s')) (hs:Ss s):(Ss s'∧s'.r.length≤s.r.length)∧smA x:=by
 unfold redir at h
 by_cases e:(hd s).kind=5
 ·rw[if_pos e] at h
  obtain⟨w,s1,hw,h⟩:=bnd_inv h
  obtain⟨⟨h1,h2⟩,h3⟩:=word_z _ _ _ hw hs.go.1.go.1
  cases h
  have h4:=hs.go.2
  have h5:=hs.go.1.go.2
  exact⟨⟨h1,by omega⟩,file_99 _ _,hs.arr2 e,h3.1,h3.2⟩
 ·rw[if_neg e] at h
  obtain⟨w,s1,hw,h⟩:=bnd_inv h
  obtain⟨⟨h1,h2⟩,h3⟩:=word_z _ _ _ hw hs.go.1
  cases h
  have h4:=hs.go.2
  refine⟨⟨h1,by omega⟩,file_99 [] (hd s).text,?_,h3.1,h3.2⟩
  unfold atRedir at hr
  simp only[Bool.or_eq_true,beq_iff_eq] at hr
  exact arrow_two (hr.resolve_left e)
theorem go_less {s:St} (h:(hd s).kind≠4):(go s).r.length+1≤s.r.length:=by
 unfold hd at h
 unfold go
 cases e:s.r with
 | nil=>rw[e] at h;exact absurd rfl h
 | cons t r=>simp
theorem redir_less {s s':St} {x:Arw} (hr:atRedir s=true) (h:redir s=.ok (x,s')):s'.r.length+1≤s.r.length:=by
 unfold redir at h
 have hgo:(go s).r.length≤s.r.length:=by unfold go;simp
 by_cases e:(hd s).kind=5
 ·rw[if_pos e] at h
  obtain⟨w,s1,hw,h⟩:=bnd_inv h
  cases h
  unfold word at hw
  split at hw
  ·cases hw
   have h1:=go_less (s:=s) (by rw[e];decide)
   have h2:(go (go (go s))).r.length≤(go s).r.length:=by unfold go;simp;omega
   omega
  ·cases hw
 ·rw[if_neg e] at h
  obtain⟨w,s1,hw,h⟩:=bnd_inv h
  cases h
  unfold word at hw
  split at hw
  ·rename_i e2
   cases hw
   have h1:=go_less (s:=go s) (by rw[e2];decide)
   omega
  ·cases hw
theorem simF_z (m:Nat):∀ {ws ws':List L} {rs rs':List Arw} {s s':St},simF m ws rs s=.ok ((ws',rs'),s')→Ss s→ws.length+rs.length+s.r.length≤4100→(∀ x∈ws,x.length≤4100)→(∀ x∈rs,smA x)→(Ss s'∧s'.r.length≤s.r.length)∧ws'.length+rs'.length≤4100∧(∀ x∈ws',x.length≤4100)∧∀ x∈rs',smA x:=by
 induction m with
 | zero=>intro ws ws' rs rs' s s' h;cases h
 | succ m ih=>
  intro ws ws' rs rs' s s' h hs hl hw hr
  unfold simF at h
  by_cases e:(hd s).kind=1
  ·rw[if_pos e] at h
   have h1:=go_less (s:=s) (by rw[e];decide)
   obtain⟨⟨h2,h3⟩,h4⟩:=ih h hs.go.1 (by simp only[List.length_append,List.length_cons,List.length_nil];omega) (fun x hx=>by
    rcases List.mem_append.1 hx with hx | hx
    ·exact hw x hx
    ·rw[List.mem_singleton.1 hx];exact hs.hd.1) hr
   exact⟨⟨h2,by omega⟩,h4⟩
  ·rw[if_neg e] at h
   by_cases e2:atRedir s=true
   ·rw[if_pos e2] at h
    obtain⟨x,s1,hx,h⟩:=bnd_inv h
    have h0:=redir_less e2 hx
    obtain⟨⟨h1,_⟩,hxa⟩:=redir_z e2 hx hs
    obtain⟨⟨h2,h3⟩,h4⟩:=ih h h1 (by simp only[List.length_append,List.length_cons,List.length_nil];omega) hw (fun y hy=>by
     rcases List.mem_append.1 hy with hy | hy
     ·exact hr y hy
     ·rw[List.mem_singleton.1 hy];exact hxa)
    exact⟨⟨h2,by omega⟩,h4⟩
   ·rw[if_neg e2] at h
    cases h
    exact⟨⟨hs,Nat.le_refl _⟩,by omega,hw,hr⟩
theorem redF_z (m:Nat):∀ {rs rs':List Arw} {s s':St},redF m rs s=.ok (rs',s')→Ss s→rs.length+s.r.length≤4100→(∀ x∈rs,smA x)→(Ss s'∧s'.r.length≤s.r.length)∧rs'.length≤4100∧∀ x∈rs',smA x:=by
 induction m with
 | zero=>intro rs rs' s s' h;cases h
 | succ m ih=>
  intro rs rs' s s' h hs hl hr
  unfold redF at h
  by_cases e2:atRedir s=true
  ·rw[if_pos e2] at h
   obtain⟨x,s1,hx,h⟩:=bnd_inv h
   have h0:=redir_less e2 hx
   obtain⟨⟨h1,_⟩,hxa⟩:=redir_z e2 hx hs
   obtain⟨⟨h2,h3⟩,h4⟩:=ih h h1 (by simp only[List.length_append,List.length_cons,List.length_nil];omega) (fun y hy=>by
    rcases List.mem_append.1 hy with hy | hy
    ·exact hr y hy
    ·rw[List.mem_singleton.1 hy];exact hxa)
   exact⟨⟨h2,by omega⟩,h4⟩
  ·rw[if_neg e2] at h
   cases h
   exact⟨⟨hs,Nat.le_refl _⟩,by omega,hr⟩
theorem add_z {n:Node} (hn:Sm n):Pz any (add n):=by
 intro s x s' h hs
 cases h
 refine⟨⟨⟨hs.a,hs.r,hs.t,fun y hy=>?_⟩,Nat.le_refl _⟩,trivial⟩
 rcases List.mem_append.1 hy with hy | hy
 ·exact hs.n y hy
 ·rw[List.mem_singleton.1 hy];exact hn
theorem Sm.mk0 {n:Node} (ht:n.text.length≤4100) (hw:n.words=[]) (hr:n.redirs=[]):Sm n:=⟨ht,by simp[hw],by simp[hr],by simp[hw],by simp[hr]⟩
theorem Sm.mkW {n:Node} (ht:n.text.length≤4100) (hw:smW n.words) (hr:n.redirs=[]):Sm n:=⟨ht,hw.1,by simp[hr],hw.2,by simp[hr]⟩
theorem simple_z (n:Nat):Pz any (simple n):=by
 intro s i s' h hs
 unfold simple at h
 obtain⟨⟨ws,rs⟩,s1,h1,h⟩:=bnd_inv h
 obtain⟨⟨h2,h3⟩,h4,h5,h6⟩:=simF_z n h1 hs (by simpa using hs.r) (by simp) (by simp)
 obtain⟨⟨h7,h8⟩,h9⟩:=add_z (n:={ kind:=1,words:=ws,sets:=sets ws,redirs:=rs,left:=(hd s).left }) ⟨by simp,by simp only;omega,by simp only;omega,h5,h6⟩ s1 i s' h h2
 exact⟨⟨h7,by omega⟩,h9⟩
theorem altF_z (m:Nat):∀ {ws ws':List L} {s s':St},altF m ws s=.ok (ws',s')→Ss s→ws.length+s.r.length≤4100→(∀ x∈ws,x.length≤4100)→(Ss s'∧s'.r.length≤s.r.length)∧ws'.length≤4100∧∀ x∈ws',x.length≤4100:=by
 induction m with
 | zero=>intro ws ws' s s' h;cases h
 | succ m ih=>
  intro ws ws' s s' h hs hl hw
  unfold altF at h
  obtain⟨b,s1,h1,h⟩:=bnd_inv h
  obtain⟨⟨p1,p2⟩,_⟩:=passed_z _ _ _ _ h1 hs
  cases b with
  | true=>
   rw[if_pos rfl] at h
   obtain⟨w,s2,h2,h⟩:=bnd_inv h
   obtain⟨⟨q1,q2⟩,q3⟩:=word_z _ _ _ h2 p1
   have hlt:=word_less h2
   obtain⟨⟨r1,r2⟩,r3⟩:=ih h q1 (by simp only[List.length_append,List.length_cons,List.length_nil];omega) (fun x hx=>by
    rcases List.mem_append.1 hx with hx | hx
    ·exact hw x hx
    ·rw[List.mem_singleton.1 hx];exact q3.1)
   exact⟨⟨r1,by omega⟩,r3⟩
  | false=>
   rw[if_neg (by decide)] at h
   cases h
   exact⟨⟨p1,p2⟩,by omega,hw⟩
section
variable {a:M Nat} (ha:Pz any a)
include ha
theorem lst_z:Pz any (lst a):=lines_z.bnd fun _ _=>Pz.at_ (F:=fun s0=>if atAndOr s0=true then a else fun _=>.error (20,(hd s0).left)) (fun s=>by split <;> rfl) fun s _=>by
 split
 ·exact ha
 ·exact Pz.err _
theorem group_z:Pz Sm (group a):=(need_z _).bnd fun _ _=>(lst_z ha).bnd fun _ _=>(need_z _).bnd fun _ _=>Pz.ret (Sm.mk0 (by simp) rfl rfl)
theorem sub_z:Pz Sm (sub a):=(need_z _).bnd fun _ _=>(lst_z ha).bnd fun _ _=>(need_z _).bnd fun _ _=>Pz.ret (Sm.mk0 (by simp) rfl rfl)
theorem branchF_z (m:Nat):Pz Sm (branchF a m):=by
 induction m with
 | zero=>exact Pz.err _
 | succ m ih=>
  refine Pz.at_ (F:=fun s0 s=>Sx.bnd (lst a) (fun i=>Sx.bnd (need kTHEN) fun _=>Sx.bnd (lst a) fun j=>fun s2=>
   if isT kELIF s2=true then Sx.bnd (branchF a m) (fun nd=>Sx.bnd (add nd) fun k=>Sx.ret { kind:=6,kids:=[i,j,k],left:=(hd s0).left }) s2
   else Sx.bnd (passed kELSE) (fun b=>if b=true then Sx.bnd (lst a) fun k=>Sx.ret { kind:=6,kids:=[i,j,k],left:=(hd s0).left } else Sx.ret { kind:=6,kids:=[i,j],left:=(hd s0).left }) s2) (go s)) (fun s=>rfl) fun s0 _=>Pz.step ?_
  refine(lst_z ha).bnd fun i _=>(need_z _).bnd fun _ _=>(lst_z ha).bnd fun j _=>Pz.at_ (F:=fun s2=>if isT kELIF s2=true then Sx.bnd (branchF a m) (fun nd=>Sx.bnd (add nd) fun k=>Sx.ret { kind:=6,kids:=[i,j,k],left:=(hd s0).left }) else Sx.bnd (passed kELSE) (fun b=>if b=true then Sx.bnd (lst a) fun k=>Sx.ret { kind:=6,kids:=[i,j,k],left:=(hd s0).left } else Sx.ret { kind:=6,kids:=[i,j],left:=(hd s0).left })) (fun s2=>by split <;> rfl) fun s2 _=>?_
  split
  ·exact ih.bnd fun nd hn=>(add_z hn).bnd fun k _=>Pz.ret (Sm.mk0 (by simp) rfl rfl)
  ·refine(passed_z _).bnd fun b _=>?_
   split
   ·exact(lst_z ha).bnd fun k _=>Pz.ret (Sm.mk0 (by simp) rfl rfl)
   ·exact Pz.ret (Sm.mk0 (by simp) rfl rfl)
theorem choice_z (n:Nat):Pz Sm (choice a n):=(branchF_z ha n).bnd fun _ h=>(need_z _).bnd fun _ _=>Pz.ret h
theorem body_z:Pz any (body a):=(need_z _).bnd fun _ _=>(lst_z ha).bnd fun _ _=>(need_z _).bnd fun _ _=>Pz.ret trivial
theorem loop_z:Pz Sm (loop a):=Pz.at_ (F:=fun s0 s=>Sx.bnd (lst a) (fun i=>Sx.bnd (body a) fun j=>Sx.ret { kind:=7,flag:=isT kUNTIL s0,kids:=[i,j] }) (go s)) (fun s=>rfl) fun s0 _=>Pz.step ((lst_z ha).bnd fun _ _=>(body_z ha).bnd fun _ _=>Pz.ret (Sm.mk0 (by simp) rfl rfl))
theorem each2_z {t:L} {f:Bool} {ws:List L} (ht:t.length≤4100) (hw:smW ws):Pz Sm (each2 a t f ws):=lines_z.bnd fun _ _=>(body_z ha).bnd fun _ _=>Pz.ret (Sm.mkW ht hw rfl)
theorem each_z:Pz Sm (each a):=by
 have h0:smW []:=⟨by simp,by simp⟩
 refine(need_z _).bnd fun _ _=>name_z.bnd fun t ht=>(passed_z _).bnd fun b _=>?_
 split
 ·exact each2_z ha ht h0
 ·refine lines_z.bnd fun _ _=>(passed_z _).bnd fun c _=>?_
  split
  ·refine words_z.bnd fun ws hw=>parted_z.bnd fun p _=>?_
   split
   ·exact each2_z ha ht hw
   ·intro s x s' h;cases h
  ·exact each2_z ha ht h0
theorem item_z (n:Nat):Pz any (item a n):=by
 refine Pz.at_ (F:=fun s0=>Sx.bnd (passed [40]) (fun _=>Sx.bnd word fun w=>Sx.bnd (altF n [w.text]) fun ws=>Sx.bnd (need [41]) fun _=>Sx.bnd a fun k=>add { kind:=10,words:=ws,kids:=[k],left:=(hd s0).left })) (fun s=>rfl) fun s0 _=>(passed_z _).bnd fun _ _=>?_
 intro s x s' h hs
 obtain⟨w,s1,h1,h⟩:=bnd_inv h
 obtain⟨⟨p1,p2⟩,p3⟩:=word_z _ _ _ h1 hs
 have hlt:=word_less h1
 obtain⟨ws,s2,h2,h⟩:=bnd_inv h
 have hr:=hs.r
 obtain⟨⟨q1,q2⟩,q3⟩:=altF_z n h2 p1 (by simp only[List.length_cons,List.length_nil];omega) (by simpa using p3.1)
 obtain⟨⟨r1,r2⟩,r3⟩:=((need_z [41]).bnd fun _ _=>ha.bnd fun k _=>add_z (n:={ kind:=10,words:=ws,kids:=[k],left:=(hd s0).left }) (Sm.mkW (by simp) q3 rfl)) s2 x s' h q1
 exact⟨⟨r1,by omega⟩,r3⟩
theorem itemsF_z (n m:Nat):∀ ks,Pz any (itemsF a n m ks):=by
 induction m with
 | zero=>intro ks;exact Pz.err _
 | succ m ih=>
  intro ks
  refine Pz.at_ (F:=fun s0=>if isT kESAC s0=true then Sx.ret ks else Sx.bnd (item a n) (fun k=>Sx.bnd (passed [59,59]) fun b=>if b=true then Sx.bnd lines fun _=>itemsF a n m (ks++[k]) else Sx.ret (ks++[k]))) (fun s=>by
   by_cases e:isT kESAC s=true
   ·simp only[itemsF,if_pos e];rfl
   ·simp only[itemsF,if_neg e]) fun s0 _=>?_
  split
  ·exact Pz.ret trivial
  ·refine(item_z ha n).bnd fun k _=>(passed_z _).bnd fun b _=>?_
   split
   ·exact lines_z.bnd fun _ _=>ih _
   ·exact Pz.ret trivial
theorem mtch_z (n:Nat):Pz Sm (mtch a n):=(need_z _).bnd fun _ _=>word_z.bnd fun w hw=>lines_z.bnd fun _ _=>(need_z _).bnd fun _ _=>lines_z.bnd fun _ _=>(itemsF_z ha n n []).bnd fun ks _=>(need_z _).bnd fun _ _=>Pz.ret (Sm.mk0 hw.1 rfl rfl)
theorem read_z (n:Nat) (t:L):Pz Sm (read a n t):=by
 unfold read
 split
 ·exact group_z ha
 split
 ·exact sub_z ha
 split
 ·exact choice_z ha n
 split
 ·exact loop_z ha
 split
 ·exact loop_z ha
 split
 ·exact each_z ha
 ·exact mtch_z ha n
theorem compound_z (n:Nat):Pz any (compound a n):=by
 intro s i s' h hs
 unfold compound at h
 split at h
 ·split at h
  ·cases h
  ·obtain⟨nd,s2,h1,h⟩:=bnd_inv h
   obtain⟨⟨p1,p2⟩,p3⟩:=read_z ha n _ _ _ _ h1 (show Ss { s with d:=s.d+1 } from⟨hs.a,hs.r,hs.t,hs.n⟩)
   obtain⟨rs,s3,h3,h⟩:=bnd_inv h
   obtain⟨⟨q1,q2⟩,q3,q4⟩:=redF_z n h3 (show Ss { s2 with d:=s2.d-1 } from⟨p1.a,p1.r,p1.t,p1.n⟩) (by simpa using p1.r) (by simp)
   obtain⟨⟨r1,r2⟩,r3⟩:=add_z (n:={ nd with redirs:=rs,left:=(hd s).left }) ⟨p3.t,p3.w,q3,p3.ws,q4⟩ _ _ _ h q1
   simp only at p2 q2
   exact⟨⟨r1,by omega⟩,trivial⟩
 ·cases h
theorem func_z (n:Nat):Pz any (func a n):=by
 intro s i s' h hs
 unfold func at h
 split at h
 ·cases h
 ·have hs1:Ss (go { s with d:=s.d+1 })∧_:=(show Ss { s with d:=s.d+1 } from⟨hs.a,hs.r,hs.t,hs.n⟩).go
  have hz:Pz any (Sx.bnd (need [40]) (fun _=>Sx.bnd (need [41]) fun _=>Sx.bnd lines fun _=>Sx.bnd (compound a n) fun k s2=>add { kind:=13,text:=(hd s).text,kids:=[k],left:=(hd s).left } { s2 with d:=s2.d-1 })):=(need_z _).bnd fun _ _=>(need_z _).bnd fun _ _=>lines_z.bnd fun _ _=>(compound_z ha n).bnd fun k _=>by
   intro s2 x s3 h2 hs2
   exact add_z (n:={ kind:=13,text:=(hd s).text,kids:=[k],left:=(hd s).left }) (Sm.mk0 hs.hd.1 rfl rfl) { s2 with d:=s2.d-1 } x s3 h2 ⟨hs2.a,hs2.r,hs2.t,hs2.n⟩
  obtain⟨⟨p1,p2⟩,p3⟩:=hz _ _ _ h hs1.1
  have:=hs1.2
  simp only at this
  exact⟨⟨p1,by omega⟩,p3⟩
theorem command_z (n:Nat):Pz any (command a n):=by
 refine Pz.at_ (F:=fun s0=>if atFunc s0=true then func a n else if atSimple s0=true then simple n else compound a n) (fun s=>by
  unfold command
  split
  ·rfl
  ·split <;> rfl) fun s0 _=>?_
 split
 ·exact func_z ha n
 split
 ·exact simple_z n
 ·exact compound_z ha n
theorem pipeF_z (n m:Nat):∀ ks,Pz any (pipeF a n m ks):=by
 induction m with
 | zero=>intro ks;exact Pz.err _
 | succ m ih=>
  intro ks
  refine(passed_z _).bnd fun b _=>?_
  split
  ·exact lines_z.bnd fun _ _=>(command_z ha n).bnd fun _ _=>ih _
  ·exact Pz.ret trivial
theorem pipeline_z (n:Nat):Pz any (pipeline a n):=by
 refine Pz.at_ (F:=fun s0=>Sx.bnd (passed [33]) (fun f=>Sx.bnd (command a n) fun k=>Sx.bnd (pipeF a n n [k]) fun ks=>
  if f=false∧ks.length=1 then Sx.ret (ks.headD 0) else add { kind:=2,flag:=f,kids:=ks,left:=(hd s0).left })) (fun s=>rfl) fun s0 _=>(passed_z _).bnd fun f _=>(command_z ha n).bnd fun k _=>(pipeF_z ha n n _).bnd fun ks _=>?_
 split
 ·exact Pz.ret trivial
 ·exact add_z (Sm.mk0 (by simp) rfl rfl)
theorem aoF_z (n ln m:Nat):∀ i,Pz any (aoF a n ln m i):=by
 induction m with
 | zero=>intro i;exact Pz.err _
 | succ m ih=>
  intro i
  refine Pz.at_ (F:=fun s0=>if isT [38,38] s0=true∨isT [124,124] s0=true then fun s=>Sx.bnd lines (fun _=>Sx.bnd (pipeline a n) fun j=>Sx.bnd (add { kind:=if isT [124,124] s0=true then 4 else 3,kids:=[i,j],left:=ln }) fun k=>aoF a n ln m k) (go s) else Sx.ret i) (fun s=>by
   by_cases e:isT [38,38] s=true∨isT [124,124] s=true
   ·simp only[aoF,if_pos e]
   ·simp only[aoF,if_neg e];rfl) fun s0 _=>?_
  split
  ·exact Pz.step (lines_z.bnd fun _ _=>(pipeline_z ha n).bnd fun _ _=>(add_z (Sm.mk0 (by simp) rfl rfl)).bnd fun _ _=>ih _)
  ·exact Pz.ret trivial
theorem andOr_z (n:Nat):Pz any (andOr a n):=Pz.at_ (F:=fun s0=>Sx.bnd (pipeline a n) (fun i=>aoF a n (hd s0).left n i)) (fun s=>rfl) fun s0 _=>(pipeline_z ha n).bnd fun i _=>aoF_z ha n _ n i
theorem listF_z (n m:Nat):∀ ks,Pz any (listF a n m ks):=by
 induction m with
 | zero=>intro ks;exact Pz.err _
 | succ m ih=>
  intro ks
  refine Pz.at_ (F:=fun s0=>if atAndOr s0=true then Sx.bnd (andOr a n) (fun k=>Sx.bnd parted fun b=>if b=true then listF a n m (ks++[k]) else Sx.ret (ks++[k])) else Sx.ret ks) (fun s=>by
   by_cases e:atAndOr s=true
   ·simp only[listF,if_pos e]
   ·simp only[listF,if_neg e];rfl) fun s0 _=>?_
  split
  ·refine(andOr_z ha n).bnd fun k _=>parted_z.bnd fun b _=>?_
   split
   ·exact ih _
   ·exact Pz.ret trivial
  ·exact Pz.ret trivial
theorem anyL_z (n:Nat):Pz any (anyL a n):=lines_z.bnd fun _ _=>Pz.at_ (F:=fun s0=>Sx.bnd (listF a n n []) (fun ks=>add { kind:=5,kids:=ks,left:=(hd s0).left })) (fun s=>rfl) fun s0 _=>(listF_z ha n n _).bnd fun ks _=>add_z (Sm.mk0 (by simp) rfl rfl)
end
theorem good_arr:∀ r:List Tok,good r=true→arrL r
 | [],_=>trivial
 | [_],_=>trivial
 | t::u::r,h=>by
  have h0:=h
  simp only[good,Bool.and_eq_true] at h
  refine⟨fun e=>?_,good_arr (u::r) h.2⟩
  obtain⟨v,q,e1,h1⟩:=good_io h0 e
  injection e1 with e1 _
  subst e1
  exact arrow_two h1
theorem anyF_z (n:Nat):Pz any (anyF n):=by
 induction n with
 | zero=>exact Pz.err _
 | succ n ih=>exact anyL_z ih (n+1)
theorem tree_sm {S:L} {ns:List Node} (hS:S.length≤4096) (h:tree S=.ok ns):∀ n∈ns,Sm n:=by
 unfold tree at h
 cases hx:Lx.all S with
 | error e=>rw[hx] at h;cases h
 | ok ts=>
  rw[hx] at h
  have h:parse ts=.ok ns:=h
  have hsm:=Lx.all_small hx
  unfold parse at h
  cases hs:script (ts.length+1) ⟨ts,0,[]⟩ with
  | error e=>rw[hs] at h;cases h
  | ok x=>
   obtain⟨u,s'⟩:=x
   rw[hs] at h
   cases h
   unfold script at hs
   obtain⟨i,s1,h1,h2⟩:=bnd_inv hs
   obtain⟨⟨h3,_⟩,_⟩:=anyF_z _ _ _ _ h1 ⟨good_arr _ (Lx.all_good hx),by simp only;omega,fun t ht=>by have:=hsm.2 t ht;have:=Lx.all_bods hx t ht;omega,by simp⟩
   split at h2
   ·cases h2;exact h3.n
   ·cases h2
theorem costW_most:∀ l:List L,(∀ x∈l,x.length≤4100)→Up.costW l≤l.length*4104
 | [],_=>by simp[Up.costW]
 | w::l,h=>by
  have h1:=h w (by simp)
  have h2:=costW_most l fun x hx=>h x (by simp[hx])
  simp only[Up.costW,List.length_cons]
  omega
theorem costRs_most:∀ l:List Arw,(∀ x∈l,x.fd≤99∧x.op.length≤2∧x.word.length≤4100∧x.body.length≤4100)→Up.costRs l≤l.length*12310
 | [],_=>by simp[Up.costRs]
 | x::l,h=>by
  have h1:=h x (by simp)
  have h2:=costRs_most l fun x hx=>h x (by simp[hx])
  simp only[Up.costRs,Up.costR,List.length_cons]
  omega
theorem text_small {S:L} {ns:List Node} (hS:S.length≤4096) (h:tree S=.ok ns) (hf:Forest 0 ns [ns.length-1]) (h0:0<ns.length):Up.size (Up.nodeF ns ns.length ⟨[],[]⟩ (ns.length-1))≤2300000000000:=by
 have hsm:=tree_sm hS h
 have hts:=tree_small h
 have hl:=hts.1
 have h1:=Up.most_text hf h0 67700000 fun n hn=>by
  have hs:=hsm n hn
  have h1:=costW_most _ hs.ws
  have h2:=costRs_most _ hs.rs
  have h3:=(hts.2 n hn).1
  have h4:=hs.t
  have h5:=hs.w
  have h6:=hs.r
  unfold Up.cost
  omega
 have h5:ns.length*67700000≤32777*67700000:=Nat.mul_le_mul_right _ (by omega)
 omega
end Sx
end Go.Proofs.YtkkchkkpnlnbgaaGreatDoor
