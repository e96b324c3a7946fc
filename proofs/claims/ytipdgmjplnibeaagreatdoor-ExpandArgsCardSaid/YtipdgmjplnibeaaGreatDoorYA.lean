import Derived.Test.YtipdgmjplnibeaaGreatDoorG19
import Derived.BigQuiet
import Derived.Test.YtipdgmjplnibeaaGreatDoorG09
import Derived.Test.YtipdgmjplnibeaaGreatDoorXda
import Derived.Test.YtipdgmjplnibeaaGreatDoorG49
import Derived.Test.YtipdgmjplnibeaaGreatDoorG25
import Derived.Test.YtipdgmjplnibeaaGreatDoorG23
import Derived.Test.YtipdgmjplnibeaaGreatDoorAL
import Derived.Deep.Slices
import Derived.Deep.Fields
import Derived.ChangeArms
set_option maxRecDepth 100000
set_option maxHeartbeats 25600000
namespace Go.Proofs.YtipdgmjplnibeaaGreatDoor
open Go.RowKit Go.Maps
set_option maxRecDepth 100000
namespace Ex
open En (RdP Vs)
abbrev B':=List UInt8
def fewOne (p:B'×B'):Bool:=decide (p.1.length≤20) && decide (p.2.length≤30)
def fewB (l:Vs) (xs:List B'):Bool:=l.all fewOne && xs.all (fun x=>decide (x.length≤30)) && decide (l.length≤12) && decide (xs.length≤8)
theorem few_at {l:Vs} {xs:List B'} (h:fewB l xs=true):(∀ p∈l,p.1.length≤20∧p.2.length≤30)∧(∀ x∈xs,x.length≤30)∧l.length≤12∧xs.length≤8:=by
 unfold fewB fewOne at h
 simp only[Bool.and_eq_true,List.all_eq_true,decide_eq_true_eq] at h
 exact⟨h.1.1.1,h.1.1.2,h.1.2,h.2⟩
theorem few_v (v:Value) (l:Vs) (A:Option Addr) (n c:Nat) (xs:List B') (W:World) (h:RdP W W.heap.size v l) (ha:Rd W W.heap.size A n (xs.map fun x=>.string (mkS x))) (hn:n≤9223372036854775807):Calls Tryz.prog 10 #[v,.slice A n c,.string ⟨#[]⟩] W fun x W'=>x=.returned (.bool (fewB l xs))∧Later W W':=by
 obtain⟨A0,c0,rfl,hc1,hc2,_⟩:=h.le
 have HR:=Lib.hid h
 have HA:=Lib.hid ha
 have hla:xs.length=n:=by have:=ha.1;rw[List.length_map] at this;exact this
 have HLA:=Lib.hid hla
 obtain⟨n0,hn0⟩:∃ n0,n0=l.length:=⟨_,rfl⟩
 rw[←hn0]
 have hb0:n0≤9223372036854775807:=by omega
 have HN:=Lib.hid hn0
 clear h ha hla hc1 hc2 hn0
 go_enter Tryz.func10,Tryz.ntmps10
 go_wp2_with fail
 go_loopw [7] (fun s3 wr=>∃ i:Nat,s3=.int .i64 (i:Int)∧i≤n0∧(∀ x∈l.take i,fewOne x=true)∧wr=W) (fun i _=>n0-(intOf i).toNat)
 case atStart=>exact⟨0,rfl,Nat.zero_le _,by simp,rfl⟩
 case round=>
  obtain⟨i,rfl,hi,hno,hw⟩:=hrel
  have hw:=hw.symm
  subst hw
  have HNO:=Lib.hid hno
  clear hno
  have hi0:(0:Int)≤(i:Int):=by omega
  by_cases hlt:i<n0
  ·have hi1:(i:Int)<(n0:Int):=by omega
   have hil:i<l.length:=by rw[←HN.out];exact hlt
   obtain⟨g,o,c1,e1,hgb,hcs⟩:=HR.out.at_ (by omega)
   injection e1 with e1 e2 e3
   subst e1
   obtain⟨x,hx⟩:∃ x,x=l[i]:=⟨_,rfl⟩
   have hcx:=hcs i hil
   rw[←hx] at hcx
   obtain⟨p1,p2⟩:=hcx
   have z1:((mkS x.1).size:Int)=(x.1.length:Int):=by rw[mkS_size]
   have z2:((mkS x.2).size:Int)=(x.2.length:Int):=by rw[mkS_size]
   have HTK:=Lib.hid (show l.take (i+1)=l.take i++[x] by rw[hx];exact List.take_succ_eq_append_getElem hil)
   have HX:=Lib.hid (show x∈l by rw[hx];exact List.getElem_mem hil)
   clear hcs hgb hx hil e2 e3
   by_cases g1:x.1.length≤20
   ·have k1:¬ (20:Int)<(x.1.length:Int):=by omega
    by_cases g2:x.2.length≤30
    ·have k2:¬ (30:Int)<(x.2.length:Int):=by omega
     have HF:=Lib.hid (show fewOne x=true by unfold fewOne;rw[decide_eq_true g1,decide_eq_true g2];rfl)
     go_wp2
     go_roundw
     case rel=>
      refine⟨i+1,by go_num,by omega,?_,trivial⟩
      intro y hy
      rw[HTK.out] at hy
      rcases List.mem_append.1 hy with hy | hy
      ·exact HNO.out y hy
      ·rw[List.mem_singleton.1 hy];exact HF.out
     case measure=>simp[intOf];omega
    ·have k2:(30:Int)<(x.2.length:Int):=by omega
     have HF:=Lib.hid (show fewB l xs=false by
      rw[←Bool.not_eq_true]
      intro h
      exact g2 ((few_at h).1 x HX.out).2)
     go_wp2
     go_ret
     exact⟨by rw[HF.out];rfl,Later.refl _⟩
   ·have k1:(20:Int)<(x.1.length:Int):=by omega
    have HF:=Lib.hid (show fewB l xs=false by
     rw[←Bool.not_eq_true]
     intro h
     exact g1 ((few_at h).1 x HX.out).1)
    go_wp2
    go_ret
    exact⟨by rw[HF.out];rfl,Later.refl _⟩
  ·have hie:¬ (i:Int)<(n0:Int):=by omega
   have HALL:=Lib.hid (show l.all fewOne=true by
    have h:=HNO.out
    rw[List.take_of_length_le (by rw[←HN.out];omega)] at h
    rw[List.all_eq_true]
    exact h)
   clear hlt
   go_wp2_with fail
   go_loopw [8] (fun s3 wr=>∃ j:Nat,s3=.int .i64 (j:Int)∧j≤n∧(∀ x∈xs.take j,x.length≤30)∧wr=W) (fun i _=>n-(intOf i).toNat)
   case atStart=>exact⟨0,rfl,Nat.zero_le _,by simp,rfl⟩
   case round=>
    obtain⟨j,rfl,hj,hno,hw⟩:=hrel
    have hw:=hw.symm
    subst hw
    have HNJ:=Lib.hid hno
    clear hno
    have hj0:(0:Int)≤(j:Int):=by omega
    by_cases hlt:j<n
    ·have hj1:(j:Int)<(n:Int):=by omega
     obtain⟨ad,hjl,rfl,_,hc⟩:=HA.out.at_map hlt
     obtain⟨x,hx⟩:∃ x,x=xs[j]:=⟨_,rfl⟩
     rw[←hx] at hc
     have z1:((mkS x).size:Int)=(x.length:Int):=by rw[mkS_size]
     have HTK:=Lib.hid (show xs.take (j+1)=xs.take j++[x] by rw[hx];exact List.take_succ_eq_append_getElem hjl)
     have HX:=Lib.hid (show x∈xs by rw[hx];exact List.getElem_mem hjl)
     clear hx hjl
     by_cases g1:x.length≤30
     ·have k1:¬ (30:Int)<(x.length:Int):=by omega
      go_wp2
      go_roundw
      case rel=>
       refine⟨j+1,by go_num,by omega,?_,trivial⟩
       intro y hy
       rw[HTK.out] at hy
       rcases List.mem_append.1 hy with hy | hy
       ·exact HNJ.out y hy
       ·rw[List.mem_singleton.1 hy];exact g1
      case measure=>simp[intOf];omega
     ·have k1:(30:Int)<(x.length:Int):=by omega
      have HF:=Lib.hid (show fewB l xs=false by
       rw[←Bool.not_eq_true]
       intro h
       exact g1 ((few_at h).2.1 x HX.out))
      go_wp2
      go_ret
      exact⟨by rw[HF.out];rfl,Later.refl _⟩
    ·have hje:¬ (j:Int)<(n:Int):=by omega
     have HALA:=Lib.hid (show xs.all (fun x=>decide (x.length≤30))=true by
      have h:=HNJ.out
      rw[List.take_of_length_le (by rw[HLA.out];omega)] at h
      rw[List.all_eq_true]
      intro x hx
      exact decide_eq_true (h x hx))
     have HF:=Lib.hid (show fewB l xs=(decide (n0≤12) && decide (n≤8)) by
      unfold fewB
      rw[HALL.out,HALA.out,HN.out,HLA.out]
      rfl)
     clear hlt
     go_wp2_with fail
     go_loopw [9,10] (fun a b wr=>a=.int .i64 0∧b=.int .i64 0∧wr=W) (fun _ _ _=>0)
     case atStart=>exact⟨rfl,rfl,rfl⟩
     case round=>
      obtain⟨rfl,rfl,hw⟩:=hrel
      have hw:=hw.symm
      subst hw
      by_cases q1:n0≤12
      ·have r1:(n0:Int)≤12:=by omega
       by_cases q2:n≤8
       ·have r2:(n:Int)≤8:=by omega
        go_wp2
        go_ret
        exact⟨by rw[HF.out,decide_eq_true q1,decide_eq_true q2];rfl,Later.refl _⟩
       ·have r2:¬ (n:Int)≤8:=by omega
        go_wp2
        go_ret
        exact⟨by rw[HF.out,decide_eq_true q1,decide_eq_false q2];rfl,Later.refl _⟩
      ·have r1:¬ (n0:Int)≤12:=by omega
       go_wp2
       go_ret
       exact⟨by rw[HF.out,decide_eq_false q1];rfl,Later.refl _⟩
end Ex
end Go.Proofs.YtipdgmjplnibeaaGreatDoor
namespace Go.Proofs.YtipdgmjplnibeaaGreatDoor
set_option maxRecDepth 100000
namespace Ex
open Jo (Q sepB)
theorem fold_plain {ifs:B}:∀ (r:Rw) (σ:Q),(∀ p∈r,sepB ifs p=false∧(p.2==98)=false)→r≠[]→r.foldl (Jo.step ifs) σ=⟨σ.out,σ.now++solid r,true,false⟩
 | [],_,_,h=>absurd rfl h
 | p::l,σ,h,_=>by
  have hp:=h p (by simp)
  have h1:Jo.step ifs σ p=⟨σ.out,σ.now++solid [p],true,false⟩:=by
   unfold Jo.step solid
   rw[hp.1,hp.2,if_neg Bool.false_ne_true,if_neg Bool.false_ne_true]
   cases h101:(p.2==101) with
   | true=>simp[h101]
   | false=>simp[h101]
  rw[List.foldl_cons,h1]
  by_cases hl:l=[]
  ·subst hl;rfl
  ·rw[fold_plain l _ (fun q hq=>h q (by simp[hq])) hl]
   have:solid (p::l)=solid [p]++solid l:=by unfold solid;rw[←List.filter_append];rfl
   rw[this,List.append_assoc]
def Kp (ifs:B) (c:UInt8):Prop:=c=113∨(c=115∧ifs=[])
theorem Kp.pt {ifs:B} {c:UInt8} (h:Kp ifs c) (x:B):∀ p∈pt x c,sepB ifs p=false∧(p.2==98)=false:=by
 intro p hp
 have h2:p.2=c∨p.2=101:=by
  unfold Ex.pt at hp
  split at hp
  ·rw[List.mem_singleton.1 hp];exact .inr rfl
  ·obtain⟨y,_,rfl⟩:=List.mem_map.1 hp;exact .inl rfl
 unfold Jo.sepB
 rcases h with rfl | ⟨rfl,rfl⟩
 ·rcases h2 with e | e <;> rw[e] <;> exact⟨rfl,rfl⟩
 ·rcases h2 with e | e <;> rw[e] <;> exact⟨by simp,rfl⟩
theorem Kp.ne {ifs:B} {c:UInt8} (h:Kp ifs c):c≠101:=by rcases h with rfl | ⟨rfl,_⟩ <;> decide
theorem pt_solid (t:B) {c:UInt8} (hc:c≠101):solid (pt t c)=t.map fun x=>(x,c):=by
 unfold solid pt
 split
 ·rename_i h;rw[h.1];rfl
 ·rw[List.filter_eq_self]
  intro a ha
  obtain⟨x,_,rfl⟩:=List.mem_map.1 ha
  simp[hc]
def fieldsOf (c:UInt8) (l:List B):List Rw:=(l.filter fun x=>!(pt x c).isEmpty).map fun x=>x.map fun y=>(y,c)
theorem fin_pt {ifs:B} {c:UInt8} (h:Kp ifs c) (x:B) (out:List Rw) (k:Bool):Jo.fin ((pt x c).foldl (Jo.step ifs) ⟨out,[],false,k⟩)=out++fieldsOf c [x]:=by
 unfold fieldsOf
 by_cases he:pt x c=[]
 ·rw[he];simp[he,Jo.fin]
 ·rw[fold_plain _ _ (h.pt x) he]
  have:(pt x c).isEmpty=false:=by rw[List.isEmpty_eq_false_iff];exact he
  simp[Jo.fin,this,pt_solid x h.ne]
theorem fields_cons (c:UInt8) (x:B) (l:List B):fieldsOf c (x::l)=fieldsOf c [x]++fieldsOf c l:=by
 unfold fieldsOf
 rw[←List.map_append,←List.filter_append]
 rfl
theorem fold_args {ifs:B} {c:UInt8} (h:Kp ifs c):∀ (l:List B) (σ:Q),Jo.fin ((l.flatMap fun y=>(32,98)::pt y c).foldl (Jo.step ifs) σ)=Jo.fin σ++fieldsOf c l
 | [],σ=>by simp[fieldsOf]
 | y::l,σ=>by
  have hb:Jo.step ifs σ (32,98)=⟨Jo.fin σ,[],false,false⟩:=by
   have:sepB ifs (32,98)=false:=by unfold Jo.sepB;rfl
   unfold Jo.step
   rw[this,if_neg Bool.false_ne_true,if_pos (by decide)]
   rfl
  rw[List.flatMap_cons,List.cons_append,List.foldl_cons,hb,List.foldl_append,fold_args h l,fin_pt h,fields_cons c y l,List.append_assoc]
theorem split_args {ifs:B} {c:UInt8} (h:Kp ifs c) (l:List B):Jo.split ifs (args c l)=fieldsOf c l:=by
 unfold Jo.split Jo.run
 cases l with
 | nil=>rfl
 | cons x l=>
  show Jo.fin ((pt x c++l.flatMap fun y=>(32,98)::pt y c).foldl (Jo.step ifs) Jo.init)=_
  rw[List.foldl_append,fold_args h l]
  unfold Jo.init
  rw[fin_pt h,fields_cons c x l]
  rfl
theorem split_pt {ifs:B} {c:UInt8} (h:Kp ifs c) (x:B):Jo.split ifs (pt x c)=fieldsOf c [x]:=by
 unfold Jo.split Jo.run Jo.init
 rw[fin_pt h]
 rfl
theorem fields_quo (l:List B):fieldsOf 113 l=l.map fun x=>x.map fun y=>(y,113):=by
 unfold fieldsOf
 rw[List.filter_eq_self.2 ?_]
 intro x _
 unfold pt
 split
 ·rfl
 ·rename_i hx
  cases x with
  | nil=>exact absurd ⟨rfl,rfl⟩ hx
  | cons a t=>rfl
theorem fields_bare (l:List B):fieldsOf 115 l=(l.filter fun x=>!x.isEmpty).map fun x=>x.map fun y=>(y,115):=by
 unfold fieldsOf
 congr 1
 refine List.filter_congr fun x _=>?_
 unfold pt
 rw[if_neg (by rintro⟨_,h⟩;exact absurd h (by decide))]
 cases x <;> rfl
end Ex
end Go.Proofs.YtipdgmjplnibeaaGreatDoor
namespace Go.Proofs.YtipdgmjplnibeaaGreatDoor
set_option maxRecDepth 100000
namespace Ex
open En (E)
open Jo (Q sepB)
def lowc (w:B):Prop:=∀ c∈w,97≤c.toNat∧c.toNat≤122
def lets (w:B):Rw:=w.map fun y=>(y,115)
def gap (n:Nat):B:=if n=0 then [32] else if n=1 then [32,32] else if n=2 then [9] else [10,32]
def jn (g:B):List B→B
 | []=>[]
 | x::l=>x++l.flatMap fun y=>g++y
theorem jn_snoc (g:B) (l:List B) (x:B):jn g (l++[x])=(if l=[] then [] else jn g l++g)++x:=by
 cases l with
 | nil=>simp[jn]
 | cons y l=>simp[jn,List.flatMap_append]
theorem jn_len (g:B) (hg:g.length≤2):∀ l:List B,(∀ x∈l,x.length≤20)→(jn g l).length≤22*l.length
 | [],_=>by simp[jn]
 | x::l,h=>by
  have h1:∀ l:List B,(∀ x∈l,x.length≤20)→(l.flatMap fun y=>g++y).length≤22*l.length:=by
   intro l
   induction l with
   | nil=>simp
   | cons y l ih=>
    intro h
    have h2:=ih fun z hz=>h z (by simp[hz])
    have h3:=h y (by simp)
    rw[List.flatMap_cons,List.length_append,List.length_append,List.length_cons]
    omega
  have h2:=h1 l fun z hz=>h z (by simp[hz])
  have h3:=h x (by simp)
  rw[jn,List.length_append,List.length_cons]
  omega
theorem gap_len (n:Nat):(gap n).length≤2:=by unfold gap;split <;> (try split) <;> (try split) <;> simp
theorem low_sep {w:B} (h:lowc w):∀ p∈lets w,sepB [32,9,10] p=false∧(p.2==98)=false:=by
 intro p hp
 obtain⟨y,hy,rfl⟩:=List.mem_map.1 hp
 have h1:=h y hy
 refine⟨?_,rfl⟩
 unfold Jo.sepB
 have h2:([32,9,10]:B).contains y=false:=by
  rw[←Bool.not_eq_true,List.contains_iff_mem]
  intro h3
  simp at h3
  rcases h3 with rfl | rfl | rfl <;> simp at h1
 rw[h2,Bool.and_false]
theorem solid_lets (w:B):solid (lets w)=lets w:=by
 unfold solid lets
 rw[List.filter_eq_self]
 intro a ha
 obtain⟨y,_,rfl⟩:=List.mem_map.1 ha
 rfl
theorem lets_ne {w:B} (h:w≠[]):lets w≠[]:=by unfold lets;simpa using h
theorem fold_lets {w:B} (h:lowc w) (hn:w≠[]) (σ:Q):(lets w).foldl (Jo.step [32,9,10]) σ=⟨σ.out,σ.now++lets w,true,false⟩:=by
 rw[fold_plain _ _ (low_sep h) (lets_ne hn),solid_lets]
theorem fold_gap (n:Nat) (out:List Rw) (now:Rw):(lets (gap n)).foldl (Jo.step [32,9,10]) ⟨out,now,true,false⟩=⟨out++[now],[],false,true⟩:=by
 unfold gap
 split
 ·rfl
 ·split
  ·rfl
  ·split <;> rfl
theorem lets_app (a b:B):lets (a++b)=lets a++lets b:=by unfold lets;rw[List.map_append]
def flds (now:Rw):List B→List Rw
 | []=>[now++[(66,113)]]
 | x::l=>now::flds (lets x) l
theorem fold_tail (n:Nat):∀ (l:List B),(∀ x∈l,lowc x∧x≠[])→∀ (out:List Rw) (now:Rw),Jo.fin ((lets (l.flatMap fun y=>gap n++y)++[(66,113)]).foldl (Jo.step [32,9,10]) ⟨out,now,true,false⟩)=out++flds now l
 | [],_,out,now=>rfl
 | x::l,h,out,now=>by
  have hx:=h x (by simp)
  rw[List.flatMap_cons,lets_app,lets_app,List.append_assoc,List.append_assoc,List.foldl_append,fold_gap,List.foldl_append,fold_lets hx.1 hx.2]
  show Jo.fin ((lets (l.flatMap fun y=>gap n++y)++[(66,113)]).foldl (Jo.step [32,9,10]) ⟨out++[now],[]++lets x,true,false⟩)=_
  rw[fold_tail n l (fun z hz=>h z (by simp[hz])),List.nil_append,List.append_assoc]
  rfl
def rowS (v:B):Rw:=(65,108)::(lets v++[(66,113)])
theorem split_s (n:Nat) (x:B) (l:List B) (h:∀ y∈x::l,lowc y∧y≠[]):Jo.split [32,9,10] (rowS (jn (gap n) (x::l)))=flds ((65,108)::lets x) l:=by
 have hx:=h x (by simp)
 unfold Jo.split Jo.run rowS
 rw[List.foldl_cons]
 have h1:Jo.step [32,9,10] Jo.init (65,108)=⟨[],[(65,108)],true,false⟩:=rfl
 rw[h1,jn,lets_app,List.append_assoc,List.foldl_append,fold_lets hx.1 hx.2]
 show Jo.fin ((lets (l.flatMap fun y=>gap n++y)++[(66,113)]).foldl (Jo.step [32,9,10]) ⟨[],[(65,108)]++lets x,true,false⟩)=_
 rw[fold_tail n l fun z hz=>h z (by simp[hz])]
 rfl
theorem flds_len:∀ (l:List B) (now:Rw),(flds now l).length=l.length+1
 | [],_=>rfl
 | x::l,now=>by rw[flds,List.length_cons,flds_len l,List.length_cons]
theorem ft_app (a b:Rw):Jo.ft (a++b)=Jo.ft a++Jo.ft b:=by unfold Jo.ft;rw[List.map_append]
theorem ft_lets (w:B):Jo.ft (lets w)=w:=by unfold Jo.ft lets;rw[List.map_map];simp[Function.comp_def]
def wantS (L:Nat) (i:Nat) (w:B):B:=(if i=0 then 65::w else w)++(if i+1=L then [66] else [])
theorem flds_at:∀ (l:List B) (now:Rw) (i:Nat) (h:i<(flds now l).length),Jo.ft (flds now l)[i]=(if h:i=0 then Jo.ft now else l[i-1]'(by rw[flds_len] at *;omega))++(if i=l.length then [66] else [])
 | [],now,0,_=>by show Jo.ft (now++[(66,113)])=_;rw[ft_app];rfl
 | [],now,i+1,h=>by simp[flds] at h
 | x::l,now,0,_=>by simp[flds]
 | x::l,now,i+1,h=>by
  have h1:i<(flds (lets x) l).length:=by simpa [flds] using h
  have e:=flds_at l (lets x) i h1
  show Jo.ft (flds (lets x) l)[i]=_
  rw[e,ft_lets]
  cases i with
  | zero=>cases l <;> simp
  | succ i=>simp
theorem split_colon {v:B} (hv:∀ c∈v,c≠58):Jo.split [58] (rowS v)=[rowS v]:=by
 unfold Jo.split Jo.run
 have hs:solid (rowS v)=rowS v:=by
  show (rowS v).filter _=_
  rw[List.filter_eq_self]
  intro a ha
  rcases List.mem_cons.1 ha with rfl | ha
  ·rfl
  ·rcases List.mem_append.1 ha with ha | ha
   ·obtain⟨y,_,rfl⟩:=List.mem_map.1 ha;rfl
   ·rw[List.mem_singleton.1 ha];rfl
 rw[fold_plain (ifs:=[58]) (rowS v) _ (fun p hp=>?_) (by simp[rowS]),hs]
 ·rfl
 ·rcases List.mem_cons.1 hp with rfl | hp
  ·exact⟨rfl,rfl⟩
  ·rcases List.mem_append.1 hp with hp | hp
   ·obtain⟨y,hy,rfl⟩:=List.mem_map.1 hp
    refine⟨?_,rfl⟩
    unfold Jo.sepB
    have:=hv y hy
    simp[this]
   ·rw[List.mem_singleton.1 hp];exact⟨rfl,rfl⟩
theorem ft_rowS (v:B):Jo.ft (rowS v)=65::(v++[66]):=by
 show 65::Jo.ft (lets v++[(66,113)])=_
 rw[ft_app,ft_lets]
 rfl
def rawS:B:=[65,36,120,34,66,34]
theorem parse_s:Wd.parse rawS=([.mk 1 [65] [] false [],PX [120] false,.mk 2 [66] [] false []],0):=by kernel_rfl
def XI (v:B):E:=⟨[([73,70,83],[58]),([120],v)],[],0,[]⟩
theorem set_ifs (v:B):En.set Ar.nameB (X1 v) [73,70,83] [58]=XI v:=rfl
theorem get_xi (v:B):En.get Ar.nameB (XI v) [120]=(v,true):=rfl
theorem row_three {d:Nat} {e:E} {p q s:P} {a b c:Rw} (h1:partF (rowD d) e p=.ok a e) (h2:partF (rowD d) e q=.ok b e) (h3:partF (rowD d) e s=.ok c e) (hr:(a++b++c).length≤100000):rowD (d+1) e [p,q,s]=.ok (a++b++c) e:=by
 rw[List.length_append,List.length_append] at hr
 show (if [p,q,s].length≤1000 then rowF (partF (rowD d)) e [p,q,s] [] else .big)=_
 rw[if_pos (by simp)]
 unfold rowF
 rw[h1]
 show (if ([]++a).length≤100000 then rowF _ e [q,s] ([]++a) else .big)=_
 rw[List.nil_append,if_pos (by omega)]
 unfold rowF
 rw[h2]
 show (if (a++b).length≤100000 then rowF _ e [s] (a++b) else .big)=_
 rw[if_pos (by rw[List.length_append];omega)]
 unfold rowF
 rw[h3]
 show (if (a++b++c).length≤100000 then rowF _ e [] (a++b++c) else .big)=_
 rw[if_pos (by rw[List.length_append,List.length_append];omega)]
 rfl
theorem pt_115 (v:B):pt v 115=lets v:=by unfold pt lets;rw[if_neg (by rintro⟨_,h⟩;cases h)]
theorem part_x {row:E→List P→Res} {e:E} {v:B} (hg:En.get Ar.nameB e [120]=(v,true)) (hv:v.length≤1000):partF row e (PX [120] false)=.ok (lets v) e:=by
 show (if ([120]:B).length≤100000∧([]:B).length≤100000∧(([]:B).all fun x=>decide (x.toNat<128))=true then parF row e (PX [120] false) else .big)=_
 rw[if_pos ⟨by simp,by simp,rfl⟩]
 rw[par_go (p:=PX [120] false) (n:=1) rfl hg (by simp) (by intro h;cases h) (show Pm.does [] v true=1 by unfold Pm.does Pm.col;rw[if_pos rfl];by_cases h:v=[] <;> simp[h] <;> rfl),if_pos rfl,if_neg (by intro h;rcases h with h | h <;> cases h)]
 unfold ptR
 rw[if_pos (by omega)]
 show Res.ok (pt v 115) e=_
 rw[pt_115]
theorem word_s {e:E} {v:B} (hg:En.get Ar.nameB e [120]=(v,true)) (hv:v.length≤1000):word e rawS=.ok (rowS v) e:=by
 unfold word
 rw[parse_s]
 show (if (0:Nat)≠0 then _ else rowD 10 e [.mk 1 [65] [] false [],PX [120] false,.mk 2 [66] [] false []])=_
 rw[if_neg (by decide)]
 exact row_three (a:=[(65,108)]) (b:=lets v) (c:=[(66,113)]) rfl (part_x hg hv) rfl (by simp[lets];omega)
theorem sm_xs {v:B} (h:v.length≤1000):Sm (X1 v)=true:=by unfold Sm X1;simp;omega
theorem sm_xi {v:B} (h:v.length≤1000):Sm (XI v)=true:=by unfold Sm XI;simp;omega
end Ex
end Go.Proofs.YtipdgmjplnibeaaGreatDoor
namespace Go.Proofs.YtipdgmjplnibeaaGreatDoor
open Go.RowKit Go.Maps
set_option maxRecDepth 100000
namespace Ex
open Jo (ft fm rows)
open En (E RdE RdP Vd Rises FrE)
abbrev FieldsTo (W:World) (e e2:E) (raw:ByteArray) (n:Nat) (tx:Nat→B):Prop:=∀ w va,Later W w→RdE w va e→Calls Tryz.prog 12 #[va,.string raw] w fun x W'=>(∃ Bu cu Av nv cv A na c st fl,x=.returned (.tuple #[.slice Bu n cu,.agg #[.slice Av nv cv,.slice A na c,.int .i64 st,.string fl],.agg #[.int .i64 0,.string ⟨#[]⟩]])∧(0<n→∃ bu,Bu=some ⟨bu,0,none⟩∧∀ k,k<n→W'.cell? ⟨bu,k*2,none⟩=some (.string (mkS (tx k))))∧RdE W' (.agg #[.slice Av nv cv,.slice A na c,.int .i64 st,.string fl]) e2)∧Later w W'
theorem FieldsTo.of {W:World} {e e2:E} {raw:B} {r:Rw} {F:List Rw} {tx:Nat→B} (hw:word e raw=.ok r e2) (hF:Jo.split (En.ifs e2.vars) r=F) (ht:∀ k (h:k<F.length),ft F[k]=tx k) (hg:Gw W) (hs:Sm e=true) (hu:Rises e.vars) (hr:raw.length≤100000):FieldsTo W e e2 (mkS raw) F.length tx:=by
 intro w va hl h
 refine(fields_ok hw h (hg.later hl) hs hu hr).mono ?_
 rintro x w' ⟨⟨u,v,rfl,ho,hf⟩,hl'⟩
 rw[hF] at ho
 have hr:=hf.rd
 obtain⟨Av,nv,cv,A,na,c,st,fl,rfl⟩:=rd_shape hr
 obtain⟨Bu,cu,rfl,_⟩:=own_any ho
 refine⟨⟨Bu,cu,Av,nv,cv,A,na,c,st,fl,rfl,fun h0=>?_,hr⟩,hl'⟩
 obtain⟨g,c',e',_,hc⟩:=(Jo.RdR.of_own ho).at_ (by simpa using h0)
 injection e' with e1
 refine⟨g,e1,fun k hk=>?_⟩
 have h1:=(hc k (by simpa using hk)).1
 rw[List.getElem_map] at h1
 rw[←ht k hk]
 exact h1
theorem set_ifs_to {W:World} {va:Value} {v:B} (h:RdE W va (X1 v)):Calls Tryz.prog 14 #[va,.string ⟨#[73,70,83]⟩,.string ⟨#[58]⟩] W fun x W'=>(∃ Av nv cv A na c st fl,x=.returned (.agg #[.slice Av nv cv,.slice A na c,.int .i64 st,.string fl])∧RdE W' (.agg #[.slice Av nv cv,.slice A na c,.int .i64 st,.string fl]) (XI v))∧Later W W':=by
 have h1:=En.set_v va (X1 v) [73,70,83] [58] W h (up_x1 v) (by show 1≤_;omega) (by show 0≤_;omega) (by decide)
 rw[show En.set En.nm (X1 v) [73,70,83] [58]=XI v from set_ifs v] at h1
 refine h1.mono ?_
 rintro x w' ⟨⟨u,rfl,hf⟩,hl⟩
 obtain⟨Av,nv,cv,A,na,c,st,fl,rfl⟩:=rd_shape hf.rd
 exact⟨⟨Av,nv,cv,A,na,c,st,fl,rfl,hf.rd⟩,hl⟩
theorem up_xi (v:B):Rises (XI v).vars:=by unfold Rises XI;simp;decide
theorem gap_ne (n:Nat):∀ c∈gap n,c≠58:=by
 unfold gap
 split
 ·decide
 ·split
  ·decide
  ·split <;> decide
theorem jn_ne {n:Nat}:∀ {l:List B},(∀ x∈l,lowc x)→∀ c∈jn (gap n) l,c≠58:=by
 have hx:∀ x:B,lowc x→∀ c∈x,c≠58:=fun x h c hc e=>by have:=h c hc;rw[e] at this;simp at this
 intro l
 cases l with
 | nil=>intro _ c hc;cases hc
 | cons x l=>
  intro h c hc
  rcases List.mem_append.1 hc with hc | hc
  ·exact hx x (h x (by simp)) c hc
  ·obtain⟨y,hy,hc⟩:=List.mem_flatMap.1 hc
   rcases List.mem_append.1 hc with hc | hc
   ·exact gap_ne n c hc
   ·exact hx y (h y (by simp[hy])) c hc
def Good (l:List B):Prop:=∀ x∈l,lowc x∧x≠[]∧x.length≤20
theorem Good.len {l:List B} (h:Good l) (hn:l.length≤9) (q:Nat):(jn (gap q) l).length≤200:=by
 have:=jn_len (gap q) (gap_len q) l fun x hx=>(h x hx).2.2
 omega
theorem fields_s {W:World} {l:List B} (h:Good l) (hn:l.length≤9) (h0:0<l.length) (q:Nat) (hg:Gw W):FieldsTo W (X1 (jn (gap q) l)) (X1 (jn (gap q) l)) (mkS rawS) l.length fun k=>wantS l.length k (l.getD k []):=by
 obtain⟨x,l',rfl⟩:∃ x l',l=x::l':=by cases l with | nil=>cases h0 | cons x l'=>exact⟨x,l',rfl⟩
 have hl:=h.len hn q
 have hF:Jo.split (En.ifs (X1 (jn (gap q) (x::l'))).vars) (rowS (jn (gap q) (x::l')))=flds ((65,108)::lets x) l':=split_s q x l' fun y hy=>⟨(h y hy).1,(h y hy).2.1⟩
 have h1:=FieldsTo.of (W:=W) (tx:=fun k=>wantS (x::l').length k ((x::l').getD k [])) (word_s (get_x1 _) (by omega)) hF (fun k hk=>?_) hg (sm_xs (by omega)) (up_x1 _) (by decide)
 ·rw[flds_len] at h1
  exact h1
 ·rw[flds_at]
  unfold wantS
  have e1:(k=l'.length)=(k+1=(x::l').length):=by rw[List.length_cons];exact propext ⟨fun h=>by omega,fun h=>by omega⟩
  simp only[e1]
  congr 1
  rw[flds_len] at hk
  cases k with
  | zero=>
   show 65::ft (lets x)=_
   rw[ft_lets]
   rfl
  | succ k=>
   have hk':k<l'.length:=by omega
   simp[List.getElem?_eq_getElem hk']
theorem fields_i {W:World} {l:List B} (h:Good l) (hn:l.length≤9) (q:Nat) (hg:Gw W):FieldsTo W (XI (jn (gap q) l)) (XI (jn (gap q) l)) (mkS rawS) 1 fun _=>65::(jn (gap q) l++[66]):=by
 have hl:=h.len hn q
 have hF:Jo.split (En.ifs (XI (jn (gap q) l)).vars) (rowS (jn (gap q) l))=[rowS (jn (gap q) l)]:=split_colon (jn_ne fun x hx=>(h x hx).1)
 exact FieldsTo.of (W:=W) (F:=[rowS (jn (gap q) l)]) (tx:=fun _=>65::(jn (gap q) l++[66])) (word_s (get_xi _) (by omega)) hF (fun k hk=>by
  have:k=0:=by simpa using hk
  subst this
  exact ft_rowS _) hg (sm_xi (by omega)) (up_xi _) (by decide)
end Ex
end Go.Proofs.YtipdgmjplnibeaaGreatDoor
namespace Go.Proofs.YtipdgmjplnibeaaGreatDoor
open Go.RowKit Go.Maps
set_option maxRecDepth 100000
theorem ValWp.storeR {P:Program} {o:Oper} {ρ:Operand→Value} {w w':World} {K:Value→World→Prop} {ty:TypeId} {x y:Operand} {p v:Value} (ho:o.op=.store ty x y) (hx:ρ x=p) (hy:ρ y=v) (hr:(Instr.storeAt ty p v).run P w=.ok () w') (hk:K undef w'):ValWp P o ρ w K:=by
 unfold ValWp execOp
 simp only[ho,hx,hy,Sem.run_bind,hr,Result.andThen_ok,Sem.run_pure]
 exact hk
namespace Ex
open En (E Vs RdE RdP Vd Rises FrE efux)
def madeV (l:Vs) (e:E):E:=l.foldl (fun e p=>En.set Ar.nameB e p.1 p.2) e
def bitB (f k:Nat):Bool:=decide (f / 2 ^ k % 2=1)
def madeF (f:Nat) (e:E):Nat→E
 | 0=>e
 | k+1=>{ madeF f e k with flags:=En.flag (madeF f e k).flags (efux.getD k 0) (bitB f k) }
def madeE (l:Vs) (xs:List B) (f st:Nat):E:=madeF f (madeV l ⟨[],xs,st,[]⟩) 4
theorem madeV_step {l:Vs} {i:Nat} (h:i<l.length) (e:E):madeV (l.take (i+1)) e=En.set Ar.nameB (madeV (l.take i) e) l[i].1 l[i].2:=by
 unfold madeV
 rw[List.take_succ_eq_append_getElem h,List.foldl_append]
 rfl
theorem set_len' (e:E) (s y:B):(En.set Ar.nameB e s y).vars.length≤e.vars.length+1:=by
 unfold En.set
 split
 ·show (En.setV e.vars s y).length≤_
  unfold En.setV
  rw[En.put_len]
  exact Nat.succ_le_succ (List.length_filter_le _ _)
 ·omega
theorem set_keep (e:E) (s y:B):(En.set Ar.nameB e s y).args=e.args∧(En.set Ar.nameB e s y).status=e.status∧(En.set Ar.nameB e s y).flags=e.flags:=by unfold En.set;split <;> exact⟨rfl,rfl,rfl⟩
theorem set_up {e:E} (h:Rises e.vars) (s y:B):Rises (En.set Ar.nameB e s y).vars:=by
 unfold En.set
 split
 ·exact h.setV s y
 ·exact h
structure Md (xs:List B) (st m:Nat) (e:E):Prop where
 up:Rises e.vars
 len:e.vars.length≤m
 args:e.args=xs
 status:e.status=st
 vals:∀ p∈e.vars,p.2.length≤1000
theorem set_vals {e:E} {s y:B} {m:Nat} (h:∀ p∈e.vars,p.2.length≤m) (hy:y.length≤m):∀ p∈(En.set Ar.nameB e s y).vars,p.2.length≤m:=by
 unfold En.set
 split
 ·intro p hp
  have hp:p∈En.put (En.unset e.vars s) s y:=hp
  rcases En.mem_put.1 hp with rfl | hp
  ·exact hy
  ·exact h p (En.mem_unset.1 hp).1
 ·exact h
theorem Md.zero (xs:List B) (st:Nat):Md xs st 0 ⟨[],xs,st,[]⟩:=⟨Rises.nil,Nat.le_refl _,rfl,rfl,nofun⟩
theorem Md.set {xs:List B} {st m:Nat} {e:E} (h:Md xs st m e) {s y:B} (hy:y.length≤1000):Md xs st (m+1) (En.set Ar.nameB e s y):=
 ⟨set_up h.up s y,Nat.le_trans (set_len' e s y) (Nat.succ_le_succ h.len),(set_keep e s y).1.trans h.args,(set_keep e s y).2.1.trans h.status,set_vals h.vals hy⟩
theorem Md.flag {xs:List B} {st m:Nat} {e:E} (h:Md xs st m e) (fl:B):Md xs st m { e with flags:=fl }:=⟨h.up,h.len,h.args,h.status,h.vals⟩
theorem Md.more {xs:List B} {st m n:Nat} {e:E} (h:Md xs st m e) (hmn:m≤n):Md xs st n e:=⟨h.up,Nat.le_trans h.len hmn,h.args,h.status,h.vals⟩
theorem md_V {l:Vs} (hk:∀ p∈l,p.1.length≤20∧p.2.length≤30) (xs:List B) (st:Nat):∀ i,i≤l.length→Md xs st i (madeV (l.take i) ⟨[],xs,st,[]⟩)
 | 0,_=>Md.zero xs st
 | i+1,h=>by
  rw[madeV_step (by omega)]
  have hd:=hk _ (List.getElem_mem (show i<l.length by omega))
  exact(md_V hk xs st i (by omega)).set (by omega)
theorem md_F {xs:List B} {st m:Nat} {e:E} (h:Md xs st m e) (f:Nat):∀ k,Md xs st m (madeF f e k)
 | 0=>h
 | k+1=>(md_F h f k).flag _
structure Mk (W wr:World) (e:E):Prop where
 bx:∃ va nv cv A n c,wr.heap[W.heap.size+1]?=some (.cells #[.slice va nv cv,.slice A n c,.int .i64 (e.status:Int),.string (mkS e.flags)] 28 (0,0))∧RdE wr (.agg #[.slice va nv cv,.slice A n c,.int .i64 (e.status:Int),.string (mkS e.flags)]) e∧∀ w':World,wr.heap.size≤w'.heap.size→(∀ k,k≠W.heap.size→k≠W.heap.size+1→k<wr.heap.size→w'.heap[k]?=wr.heap[k]?)→RdE w' (.agg #[.slice va nv cv,.slice A n c,.int .i64 (e.status:Int),.string (mkS e.flags)]) e
 rs:wr.heap[W.heap.size]?=some (.cells #[.slice none 0 0,.slice none 0 0,.int .i64 0,.string ⟨#[]⟩] 28 (0,0))
 low:Later W wr
theorem rd_shape' {W:World} {va:Value} {e:E} (h:RdE W va e):∃ Av nv cv A na c,va=.agg #[.slice Av nv cv,.slice A na c,.int .i64 (e.status:Int),.string (mkS e.flags)]:=by
 obtain⟨v0,A,n,c,rfl,hv,_⟩:=h
 obtain⟨Av,cv,rfl,_⟩:=hv.le
 exact⟨_,_,_,_,_,_,rfl⟩
theorem Mk.store {W wr w:World} {e e':E} {u:Value} {base:Nat} (h:Mk W wr e) (hl:Later wr w) (hb:W.heap.size+1<base) (hf:FrE base w u e'):∃ w9,(Instr.storeAt 28 (.pointer (some ⟨W.heap.size+1,0,none⟩)) u).run Tryz.prog w=.ok () w9∧Mk W w9 e':=by
 obtain⟨va,nv,cv,A,n,c,h1,_,_⟩:=h.bx
 obtain⟨Av,nv',cv',A',na,c',rfl⟩:=rd_shape' hf.rd
 have h2:=later_cells hl h1
 have hr:(Instr.storeAt 28 (.pointer (some ⟨W.heap.size+1,0,none⟩)) (.agg #[.slice Av nv' cv',.slice A' na c',.int .i64 (e'.status:Int),.string (mkS e'.flags)])).run Tryz.prog w=.ok () (w.setRow (W.heap.size+1) #[.slice Av nv' cv',.slice A' na c',.int .i64 (e'.status:Int),.string (mkS e'.flags)]):=by
  simp only[Instr.storeAt,Instr.sureAddr,Sem.run_bind,Sem.run_pure,Result.andThen]
  exact run_storeVar_row _ _ 28 28 _ _ h2 (show (Tryz.prog.info? 28).map (·.size)=some 4 by kernel_rfl) rfl (by simp[Value.oneCell'])
 have hg:w.grownBy (w.setRow (W.heap.size+1) #[.slice Av nv' cv',.slice A' na c',.int .i64 (e'.status:Int),.string (mkS e'.flags)]) (some (W.heap.size+1)):=⟨rfl,rfl,rfl,by simp,fun k _ hk=>setRow_other w _ k _ (fun e=>hk (by rw[e]))⟩
 refine⟨_,hr,⟨_,_,_,_,_,_,setRow_heap w _ _ _ _ (0,0) h2,(hf.set hg hb).rd,fun w' h1 h2=>(hf.set hg hb) w' h1 fun k hk hk2=>h2 k (by omega) (by omega) hk2⟩,grown_cells hg (later_cells hl h.rs) (by omega),later_of_new (h.low.trans hl) hg (by omega)⟩
theorem load_envE {w:World} {b:Nat} {cs:Array Value} (h:w.heap[b]?=some (.cells cs 28 (0,0))) (hs:cs.size=4):(Instr.loadAt 28 (.pointer (some ⟨b,0,none⟩))).run Tryz.prog w=.ok (.agg cs) w:=
 loadO_run _ _ _ _ h Tryz.underlying28 rfl (by rw[hs];kernel_rfl)
theorem made_v (lv:Value) (l:Vs) (A:Option Addr) (n c:Nat) (xs:List B) (f st:Nat) (W:World) (hf:f<256) (hst:st<256) (h:RdP W W.heap.size lv l) (ha:Rd W W.heap.size A n (xs.map fun x=>.string (mkS x))) (hnc:n≤c) (hcm:c≤9223372036854775807) (hk:∀ p∈l,p.1.length≤20∧p.2.length≤30) (hl12:l.length≤12) (hx8:xs.length≤8):Calls Tryz.prog 11 #[lv,.slice A n c,.int .u8 (f:Int),.int .u8 (st:Int)] W fun x W'=>(∃ Av nv cv A na c st' fl,x=.returned (.agg #[.slice Av nv cv,.slice A na c,.int .i64 st',.string fl])∧RdE W' (.agg #[.slice Av nv cv,.slice A na c,.int .i64 st',.string fl]) (madeE l xs f st))∧Later W W':=by
 have hws:wrap64 (st:Int)=(st:Int):=by unfold wrap64;omega
 have HFB:=Lib.hid hf
 have HF:=Lib.hid (show IntKind.i64.wrap (f:Int)=(f:Int) by rw[IntKind.wrap_i64];omega)
 obtain⟨W2,hW2⟩:∃ W2,W2=(W.alloc (.cells #[.slice none 0 0,.slice none 0 0,.int .i64 0,.string ⟨#[]⟩] 28)).alloc (.cells #[.slice none 0 0,.slice A n c,.int .i64 (st:Int),.string ⟨#[]⟩] 28):=⟨_,rfl⟩
 have hmk:Mk W W2 ⟨[],xs,st,[]⟩:=by
  have l1:=Later.alloc W (.cells #[.slice none 0 0,.slice none 0 0,.int .i64 0,.string ⟨#[]⟩] 28)
  have l2:=Later.alloc (W.alloc (.cells #[.slice none 0 0,.slice none 0 0,.int .i64 0,.string ⟨#[]⟩] 28)) (.cells #[.slice none 0 0,.slice A n c,.int .i64 (st:Int),.string ⟨#[]⟩] 28)
  have h2:=heap_alloc_new (W.alloc (.cells #[.slice none 0 0,.slice none 0 0,.int .i64 0,.string ⟨#[]⟩] 28)) (.cells #[.slice none 0 0,.slice A n c,.int .i64 (st:Int),.string ⟨#[]⟩] 28)
  rw[World.size_alloc] at h2
  rw[hW2]
  refine⟨⟨none,0,0,A,n,c,h2,?_,fun w' h3 h4=>⟨.slice none 0 0,A,n,c,rfl,RdP.nil _ _,(ha.keep fun p hp=>World.cell?_of_block ((h4 p.block (by omega) (by omega) (Nat.lt_of_lt_of_le hp (l1.trans l2).size)).trans ((l1.trans l2).block p.block hp))).more (Nat.le_trans (l1.trans l2).size h3),hnc,hcm⟩⟩,later_cells l2 (heap_alloc_new W _),l1.trans l2⟩
  exact RdE.later (w:=W) ⟨.slice none 0 0,A,n,c,rfl,RdP.nil _ _,ha,hnc,hcm⟩ (l1.trans l2)
 obtain⟨Av0,cv0,rfl,hc1,hc2,_⟩:=h.le
 have HRD:=Lib.hid h
 have HK:=Lib.hid hk
 have HMD:=Lib.hid (fun i (hi:i≤l.length)=>md_V hk xs st i hi)
 have HMK:=Lib.hid hmk
 have HX8:=Lib.hid hx8
 obtain⟨n0,hn0⟩:∃ n0,n0=l.length:=⟨_,rfl⟩
 rw[←hn0] at hc1 hl12⊢
 have HN0:=Lib.hid hn0
 clear h ha hk hn0 hmk hst hf hx8
 go_enter Tryz.func11,Tryz.ntmps11
 go_wp2_with fail
 rw[←hW2]
 clear hW2 hws
 go_loopw [10] (fun s10 wr=>∃ i:Nat,s10=.int .i64 (i:Int)∧i≤n0∧Hid (Mk W wr (madeV (l.take i) ⟨[],xs,st,[]⟩))) (fun i _=>n0-(intOf i).toNat)
 case atStart=>exact⟨0,rfl,Nat.zero_le _,HMK⟩
 case round=>
  obtain⟨i,rfl,hi,HM⟩:=hrel
  have hi0:(0:Int)≤(i:Int):=by omega
  obtain⟨e,he⟩:∃ e,e=madeV (l.take i) ⟨[],xs,st,[]⟩:=⟨_,rfl⟩
  have hmd:=HMD.out i (by rw[←HN0.out];exact hi)
  rw[←he] at HM hmd
  have HMI:=Lib.hid hmd
  obtain⟨va,nv,cv,aA,an,ac,hbx,hre,_⟩:=HM.out.bx
  obtain⟨sI,hsI⟩:∃ sI:Int,sI=(e.status:Int):=⟨_,rfl⟩
  obtain⟨fS,hfS⟩:∃ fS,fS=mkS e.flags:=⟨_,rfl⟩
  rw[←hsI,←hfS] at hbx hre
  have HBX:=Lib.hid hbx
  have HRE:=Lib.hid hre
  have HSZ:=Lib.hid (lt_of_block hbx)
  by_cases hlt:i<n0
  ·have hlt1:(i:Int)<(n0:Int):=by omega
   have hil:i<l.length:=by rw[←HN0.out];exact hlt
   obtain⟨g,o,c0,e1,hg,hcc⟩:=HRD.out.at_ (by omega)
   injection e1 with e1 _ e2
   subst e1 e2
   obtain⟨x,hx⟩:∃ x,x=l[i]:=⟨_,rfl⟩
   have hkx:=HK.out _ (List.getElem_mem hil)
   have hci:=hcc i hil
   rw[←hx] at hkx hci
   obtain⟨e',he'⟩:∃ e',e'=En.set Ar.nameB e x.1 x.2:=⟨_,rfl⟩
   have HE':=Lib.hid (show madeV (l.take (i+1)) ⟨[],xs,st,[]⟩=e' by rw[madeV_step hil,←he,←hx,he'])
   obtain⟨C0,hC0⟩:∃ C0:Nat→Value→World→Prop,C0=fun j u w=>(j=0∧Later wr w)∨(j=1∧(∃ base,W.heap.size+1<base∧FrE base w u e')∧Later wr w)∨(j=2∧Mk W w e'):=⟨_,rfl⟩
   have H0:=Lib.hid (show C0 0 undef wr.drew by rw[hC0];exact .inl ⟨rfl,Later.drew wr⟩)
   have HA:=Lib.hid (show ∀ u w,C0 0 u w→Later wr w from fun u w hc=>by
    rw[hC0] at hc
    rcases hc with⟨_,h⟩ | ⟨h,_⟩ | ⟨h,_⟩
    ·exact h
    ·cases h
    ·cases h)
   have HA':=Lib.hid (show ∀ j u w,C0 j u w→j≤0→Later wr w from fun j u w hc hj=>by
    have:j=0:=by omega
    subst this
    exact HA.out u w hc)
   have HLDE:=Lib.hid (show ∀ j u w,C0 j u w→j≤0→(Instr.loadAt 28 (.pointer (some ⟨W.heap.size+1,0,none⟩))).run Tryz.prog w=.ok (.agg #[.slice va nv cv,.slice aA an ac,.int .i64 sI,.string fS]) w from fun j u w hc hj=>load_envE (later_cells (HA'.out j u w hc hj) HBX.out) rfl)
   have HN:=Lib.hid (show ∀ j u w,C0 j u w→j≤0→w.cell? ⟨g,o+i*2,none⟩=some (.string (mkS x.1))∧w.cell? ⟨g,o+i*2+1,none⟩=some (.string (mkS x.2)) from fun j u w hc hj=>by
    have hl:=HM.out.low.trans (HA'.out j u w hc hj)
    exact⟨(hl.cell (p:=⟨g,o+i*2,none⟩) hg).trans hci.1,(hl.cell (p:=⟨g,o+i*2+1,none⟩) hg).trans hci.2⟩)
   have HSET:=Lib.hid (show ∀ w,Later wr w→Calls Tryz.prog 14 #[.agg #[.slice va nv cv,.slice aA an ac,.int .i64 sI,.string fS],.string (mkS x.1),.string (mkS x.2)] w fun y w'=>En.Told w w' y e' from fun w hl=>by
    rw[he']
    exact En.set_v _ e x.1 x.2 w (RdE.later HRE.out hl) HMI.out.up (by have:=HMI.out.len;omega) (by rw[HMI.out.args];have:=HX8.out;omega) (by omega))
   have H1:=Lib.hid (show ∀ w w' v,Later wr w→Later w w'→FrE w.heap.size w' v e'→C0 1 v w' from fun w w' v h1 h2 h3=>by
    rw[hC0]
    exact .inr (.inl ⟨rfl,⟨w.heap.size,Nat.lt_of_lt_of_le HSZ.out h1.size,h3⟩,h1.trans h2⟩))
   have HST:=Lib.hid (show ∀ u w,C0 1 u w→∃ w9,(Instr.storeAt 28 (.pointer (some ⟨W.heap.size+1,0,none⟩)) u).run Tryz.prog w=.ok () w9∧C0 2 undef w9 from fun u w hc=>by
    rw[hC0] at hc⊢
    rcases hc with⟨h,_⟩ | ⟨_,⟨base,hb,h3⟩,h4⟩ | ⟨h,_⟩
    ·cases h
    ·obtain⟨w9,h5,h6⟩:=HM.out.store h4 hb h3
     exact⟨w9,h5,.inr (.inr ⟨rfl,h6⟩)⟩
    ·cases h)
   have HZ:=Lib.hid (show ∀ u w,C0 2 u w→Mk W w e' from fun u w hc=>by
    rw[hC0] at hc
    rcases hc with⟨h,_⟩ | ⟨h,_⟩ | ⟨_,h⟩
    ·cases h
    ·cases h
    ·exact h)
   clear hC0 he' hcc hci hkx hx hil hg hbx hre he hmd hsI hfS
   go_wp2_with fail
   refine wp_region_seq (by kernel_rfl) [11,12] (C0) [some (.agg #[.slice va nv cv,.slice aA an ac,.int .i64 sI,.string fS]),some (.slice (some ⟨g,o,none⟩) n0 cv0),some (.int .i64 (i:Int)),some (.pointer (some ⟨g,o+i*2,none⟩)),some (.pointer (some ⟨g,o+i*2,none⟩)),some (.string (mkS x.1)),some (.slice (some ⟨g,o,none⟩) n0 cv0),some (.int .i64 (i:Int)),some (.pointer (some ⟨g,o+i*2,none⟩)),some (.pointer (some ⟨g,o+i*2+1,none⟩)),some (.string (mkS x.2)),none,none] (by decide) (by decide) (by kernel_rfl) (by kernel_rfl) (H0.out) ?_ ?_
   ·refine⟨?_,?_,?_,?_,?_,?_,?_,?_,?_,?_,?_,?_,?_,trivial⟩
    ·
     refine OwesS.q rfl fun a w j u hC hb hs=>⟨rfl,?_⟩
     have e9:a.tmps.getD 9 undef=.pointer (some ⟨W.heap.size+1,0,none⟩):=hs.free 9 rfl
     have hj:=hb 0 11 rfl rfl
     exact ValWp.loadR rfl e9 (HLDE.out j u w hC hj) ⟨rfl,rfl⟩
    ·
     refine OwesS.q rfl fun a w j u hC hb hs=>⟨rfl,?_⟩
     have e0:a.tmps.getD 0 undef=.slice (some ⟨g,o,none⟩) n0 cv0:=hs.free 0 rfl
     refine ValWp.pure (v:=.slice (some ⟨g,o,none⟩) n0 cv0) (fun K' hK'=>?_) ⟨rfl,rfl⟩
     simp only[ValWp,execOp,Act.eval,e0]
     go_simp
     all_goals exact hK'
    ·
     refine OwesS.q rfl fun a w j u hC hb hs=>⟨rfl,?_⟩
     have e10:a.tmps.getD 10 undef=.int .i64 (i:Int):=hs.free 10 rfl
     refine ValWp.pure (v:=.int .i64 (i:Int)) (fun K' hK'=>?_) ⟨rfl,rfl⟩
     simp only[ValWp,execOp,Act.eval,e10]
     go_simp
     all_goals exact hK'
    ·
     refine OwesS.q rfl fun a w j u hC hb hs=>⟨rfl,?_⟩
     have e23:a.tmps.getD 23 undef=.slice (some ⟨g,o,none⟩) n0 cv0:=hs.dep 1 _ rfl rfl
     have e24:a.tmps.getD 24 undef=.int .i64 (i:Int):=hs.dep 2 _ rfl rfl
     refine ValWp.pure (v:=.pointer (some ⟨g,o+i*2,none⟩)) (fun K' hK'=>?_) ⟨rfl,rfl⟩
     simp only[ValWp,execOp,Act.eval,e23,e24]
     go_simp
     all_goals exact hK'
    ·
     refine OwesS.q rfl fun a w j u hC hb hs=>⟨rfl,?_⟩
     have e25:a.tmps.getD 25 undef=.pointer (some ⟨g,o+i*2,none⟩):=hs.dep 3 _ rfl rfl
     refine ValWp.pure (v:=.pointer (some ⟨g,o+i*2,none⟩)) (fun K' hK'=>?_) ⟨rfl,rfl⟩
     simp only[ValWp,execOp,Act.eval,e25]
     go_simp
     all_goals exact hK'
    ·
     refine OwesS.q rfl fun a w j u hC hb hs=>⟨rfl,?_⟩
     have e26:a.tmps.getD 26 undef=.pointer (some ⟨g,o+i*2,none⟩):=hs.dep 4 _ rfl rfl
     have hj:=hb 0 11 rfl rfl
     have q0:=(HN.out j u w hC hj).1
     refine ValWp.pure (v:=.string (mkS x.1)) (fun K' hK'=>?_) ⟨rfl,rfl⟩
     simp only[ValWp,execOp,Act.eval,e26]
     go_simp
     all_goals exact hK'
    ·
     refine OwesS.q rfl fun a w j u hC hb hs=>⟨rfl,?_⟩
     have e0:a.tmps.getD 0 undef=.slice (some ⟨g,o,none⟩) n0 cv0:=hs.free 0 rfl
     refine ValWp.pure (v:=.slice (some ⟨g,o,none⟩) n0 cv0) (fun K' hK'=>?_) ⟨rfl,rfl⟩
     simp only[ValWp,execOp,Act.eval,e0]
     go_simp
     all_goals exact hK'
    ·
     refine OwesS.q rfl fun a w j u hC hb hs=>⟨rfl,?_⟩
     have e10:a.tmps.getD 10 undef=.int .i64 (i:Int):=hs.free 10 rfl
     refine ValWp.pure (v:=.int .i64 (i:Int)) (fun K' hK'=>?_) ⟨rfl,rfl⟩
     simp only[ValWp,execOp,Act.eval,e10]
     go_simp
     all_goals exact hK'
    ·
     refine OwesS.q rfl fun a w j u hC hb hs=>⟨rfl,?_⟩
     have e28:a.tmps.getD 28 undef=.slice (some ⟨g,o,none⟩) n0 cv0:=hs.dep 6 _ rfl rfl
     have e29:a.tmps.getD 29 undef=.int .i64 (i:Int):=hs.dep 7 _ rfl rfl
     refine ValWp.pure (v:=.pointer (some ⟨g,o+i*2,none⟩)) (fun K' hK'=>?_) ⟨rfl,rfl⟩
     simp only[ValWp,execOp,Act.eval,e28,e29]
     go_simp
     all_goals exact hK'
    ·
     refine OwesS.q rfl fun a w j u hC hb hs=>⟨rfl,?_⟩
     have e30:a.tmps.getD 30 undef=.pointer (some ⟨g,o+i*2,none⟩):=hs.dep 8 _ rfl rfl
     refine ValWp.pure (v:=.pointer (some ⟨g,o+i*2+1,none⟩)) (fun K' hK'=>?_) ⟨rfl,rfl⟩
     simp only[ValWp,execOp,Act.eval,e30]
     go_simp
     all_goals exact hK'
    ·
     refine OwesS.q rfl fun a w j u hC hb hs=>⟨rfl,?_⟩
     have e31:a.tmps.getD 31 undef=.pointer (some ⟨g,o+i*2+1,none⟩):=hs.dep 9 _ rfl rfl
     have hj:=hb 0 11 rfl rfl
     have q0:=(HN.out j u w hC hj).2
     refine ValWp.pure (v:=.string (mkS x.2)) (fun K' hK'=>?_) ⟨rfl,rfl⟩
     simp only[ValWp,execOp,Act.eval,e31]
     go_simp
     all_goals exact hK'
    ·
     refine OwesS.w rfl fun a w u hC hl hs=>⟨rfl,fun K hK=>?_⟩
     have e22:a.tmps.getD 22 undef=.agg #[.slice va nv cv,.slice aA an ac,.int .i64 sI,.string fS]:=hs.dep 0 _ rfl rfl
     have e27:a.tmps.getD 27 undef=.string (mkS x.1):=hs.dep 5 _ rfl rfl
     have e32:a.tmps.getD 32 undef=.string (mkS x.2):=hs.dep 10 _ rfl rfl
     have hl0:=HA.out u w hC
     refine wp_of_val ?_
     refine ValWp.call #[.agg #[.slice va nv cv,.slice aA an ac,.int .i64 sI,.string fS],.string (mkS x.1),.string (mkS x.2)] rfl rfl Tryz.func14 rfl rfl (by simp only[List.map_toArray,List.map_cons,List.map_nil,Act.eval,e22,e27,e32]) ?_
     refine(HSET.out w hl0).mono ?_
     rintro e w' ⟨⟨v,rfl,hf⟩,hl⟩
     exact⟨v,rfl,hK v w' trivial (H1.out w w' v hl0 hl hf)⟩
    ·
     refine OwesS.w rfl fun a w u hC hl hs=>⟨rfl,fun K hK=>?_⟩
     have e9:a.tmps.getD 9 undef=.pointer (some ⟨W.heap.size+1,0,none⟩):=hs.free 9 rfl
     have e33:a.tmps.getD 33 undef=u:=hl
     obtain⟨w9,hrun,h9⟩:=HST.out u w hC
     exact wp_of_val (ValWp.storeR rfl e9 e33 hrun (hK _ _ trivial h9))
   ·intro a w u hC hl hd hsz hfree hs
    obtain⟨u22,hu22⟩:∃ u,u=a.tmps.getD 22 undef:=⟨_,rfl⟩
    obtain⟨u23,hu23⟩:∃ u,u=a.tmps.getD 23 undef:=⟨_,rfl⟩
    obtain⟨u24,hu24⟩:∃ u,u=a.tmps.getD 24 undef:=⟨_,rfl⟩
    obtain⟨u25,hu25⟩:∃ u,u=a.tmps.getD 25 undef:=⟨_,rfl⟩
    obtain⟨u26,hu26⟩:∃ u,u=a.tmps.getD 26 undef:=⟨_,rfl⟩
    obtain⟨u27,hu27⟩:∃ u,u=a.tmps.getD 27 undef:=⟨_,rfl⟩
    obtain⟨u28,hu28⟩:∃ u,u=a.tmps.getD 28 undef:=⟨_,rfl⟩
    obtain⟨u29,hu29⟩:∃ u,u=a.tmps.getD 29 undef:=⟨_,rfl⟩
    obtain⟨u30,hu30⟩:∃ u,u=a.tmps.getD 30 undef:=⟨_,rfl⟩
    obtain⟨u31,hu31⟩:∃ u,u=a.tmps.getD 31 undef:=⟨_,rfl⟩
    obtain⟨u32,hu32⟩:∃ u,u=a.tmps.getD 32 undef:=⟨_,rfl⟩
    obtain⟨u33,hu33⟩:∃ u,u=a.tmps.getD 33 undef:=⟨_,rfl⟩
    have hal:AllAt a 0 [_,_,_,_,_,_,_,_,_,_,_,_,_,_,_,_,_,_,_,_,_,_,u22,u23,u24,u25,u26,u27,u28,u29,u30,u31,u32,u33,_,_,_,_,_,_,_,_,_,_,_,_,_,_,_,_,_,_]:=⟨hfree 0 rfl,hfree 1 rfl,hfree 2 rfl,hfree 3 rfl,hfree 4 rfl,hfree 5 rfl,hfree 6 rfl,hfree 7 rfl,hfree 8 rfl,hfree 9 rfl,hfree 10 rfl,hfree 11 rfl,hfree 12 rfl,hfree 13 rfl,hfree 14 rfl,hfree 15 rfl,hfree 16 rfl,hfree 17 rfl,hfree 18 rfl,hfree 19 rfl,hfree 20 rfl,hfree 21 rfl,hu22.symm,hu23.symm,hu24.symm,hu25.symm,hu26.symm,hu27.symm,hu28.symm,hu29.symm,hu30.symm,hu31.symm,hu32.symm,hu33.symm,hfree 34 rfl,hfree 35 rfl,hfree 36 rfl,hfree 37 rfl,hfree 38 rfl,hfree 39 rfl,hfree 40 rfl,hfree 41 rfl,hfree 42 rfl,hfree 43 rfl,hfree 44 rfl,hfree 45 rfl,hfree 46 rfl,hfree 47 rfl,hfree 48 rfl,hfree 49 rfl,hfree 50 rfl,hfree 51 rfl,trivial⟩
    have hlit:=fun h=>act_lit hd h hal
    rw[hlit hsz]
    simp only[Array.getD_eq_getD_getElem?,List.getElem?_toArray,List.getElem?_cons_zero,List.getElem?_cons_succ,Option.getD_some]
    clear hlit hal hd hsz hfree hs hu22 hu23 hu24 hu25 hu26 hu27 hu28 hu29 hu30 hu31 hu32 hu33
    go_wp2
    go_roundw
    case rel=>exact⟨i+1,by go_num,by omega,Lib.hid (by rw[HE'.out];exact HZ.out _ _ hC)⟩
    case measure=>simp[intOf];omega
  ·have hlt1:¬ (i:Int)<(n0:Int):=by omega
   have hall:l.take i=l:=List.take_of_length_le (by rw[←HN0.out];omega)
   rw[hall] at he
   obtain⟨eV,heV⟩:∃ eV,eV=madeV l ⟨[],xs,st,[]⟩:=⟨_,rfl⟩
   rw[←heV] at he
   subst he
   have HEV:=Lib.hid heV
   clear hall heV hbx hre hmd hsI hfS HBX HRE
   go_wp2_with fail
   go_loopw [11] (fun s11 wr=>∃ (k:Nat) (z:Int),s11=.int .i64 z∧z=(k:Int)∧k≤4∧Hid (Mk W wr (madeF f e k))) (fun k _=>4-(intOf k).toNat)
   case atStart=>exact⟨0,0,rfl,rfl,by omega,HM⟩
   case round=>
    obtain⟨k,z,rfl,hz,hk4,HM⟩:=hrel
    have hmd:=md_F HMI.out f k
    obtain⟨ek,hek⟩:∃ ek,ek=madeF f e k:=⟨_,rfl⟩
    rw[←hek] at HM hmd
    have HMI:=Lib.hid hmd
    obtain⟨va,nv,cv,aA,an,ac,hbx,hre,hsb⟩:=HM.out.bx
    obtain⟨sI,hsI⟩:∃ sI:Int,sI=(ek.status:Int):=⟨_,rfl⟩
    obtain⟨fS,hfS⟩:∃ fS,fS=mkS ek.flags:=⟨_,rfl⟩
    rw[←hsI,←hfS] at hbx hre hsb
    have HSB:=Lib.hid hsb
    have HBX:=Lib.hid hbx
    have HRE:=Lib.hid hre
    have HSZ:=Lib.hid (lt_of_block hbx)
    by_cases hlk:k<4
    ·obtain⟨d,hd⟩:∃ d,d=f / 2 ^ k:=⟨_,rfl⟩
     obtain⟨r,hr⟩:∃ r,r=d % 2:=⟨_,rfl⟩
     obtain⟨on,hon⟩:∃ on,on=bitB f k:=⟨_,rfl⟩
     obtain⟨cq,hcq⟩:∃ cq,cq=efux.getD k 0:=⟨_,rfl⟩
     obtain⟨e',he'⟩:∃ e':E,e'={ ek with flags:=En.flag ek.flags cq on }:=⟨_,rfl⟩
     have HE':=Lib.hid (show madeF f e (k+1)=e' by rw[he',hcq,hon,hek];rfl)
     have H48:=Lib.hid (show ((d:Int)).tmod 2=(r:Int) by rw[hr];rfl)
     have H49:=Lib.hid (show ((r:Int)==1)=on by
      rw[hon,hr,hd]
      unfold bitB
      by_cases h:f / 2 ^ k % 2=1
      ·rw[h,decide_eq_true rfl];rfl
      ·rw[decide_eq_false h,beq_eq_false_iff_ne];omega)
     have hd256:d<256:=by rw[hd];exact Nat.lt_of_le_of_lt (Nat.div_le_self _ _) HFB.out
     obtain⟨C0,hC0⟩:∃ C0:Nat→Value→World→Prop,C0=fun j u w=>(j=0∧w=wr.drew)∨((1≤j∧j≤6)∧w=wr.drew.alloc (.cells #[.int .i64 1,.int .i64 2,.int .i64 4,.int .i64 8] 3))∨(j=7∧(∃ base,W.heap.size+1<base∧FrE base w u e')∧Later wr w)∨(j=8∧Mk W w e'):=⟨_,rfl⟩
     have H0:=Lib.hid (show C0 0 undef wr.drew by rw[hC0];exact .inl ⟨rfl,rfl⟩)
     have HA0:=Lib.hid (show ∀ u w,C0 0 u w→w=wr.drew from fun u w hc=>by
      rw[hC0] at hc
      rcases hc with⟨_,h⟩ | ⟨h,_⟩ | ⟨h,_⟩ | ⟨h,_⟩
      ·exact h
      all_goals omega)
     have H1:=Lib.hid (show ∀ j u w,1≤j→j≤6→w=wr.drew.alloc (.cells #[.int .i64 1,.int .i64 2,.int .i64 4,.int .i64 8] 3)→C0 j u w from fun j u w h1 h2 h3=>by rw[hC0];exact .inr (.inl ⟨⟨h1,h2⟩,h3⟩))
     have HLL:=Lib.hid ((Later.drew wr).trans (Later.alloc wr.drew (.cells #[.int .i64 1,.int .i64 2,.int .i64 4,.int .i64 8] 3)))
     have HA1:=Lib.hid (show ∀ j u w,C0 j u w→1≤j→j≤6→w=wr.drew.alloc (.cells #[.int .i64 1,.int .i64 2,.int .i64 4,.int .i64 8] 3) from fun j u w hc h1 h2=>by
      rw[hC0] at hc
      rcases hc with⟨h,_⟩ | ⟨_,h⟩ | ⟨h,_⟩ | ⟨h,_⟩
      ·omega
      ·exact h
      all_goals omega)
     have HAL:=Lib.hid (show ∀ j u w,C0 j u w→j≤6→Later wr w from fun j u w hc hj=>by
      rcases Nat.eq_zero_or_pos j with h | h
      ·subst h;rw[HA0.out u w hc];exact Later.drew wr
      ·rw[HA1.out j u w hc h hj];exact HLL.out)
     have HLDE:=Lib.hid (show ∀ j u w,C0 j u w→j≤6→(Instr.loadAt 28 (.pointer (some ⟨W.heap.size+1,0,none⟩))).run Tryz.prog w=.ok (.agg #[.slice va nv cv,.slice aA an ac,.int .i64 sI,.string fS]) w from fun j u w hc hj=>load_envE (later_cells (HAL.out j u w hc hj) HBX.out) rfl)
     have HCL:=Lib.hid (show ∀ w,w=wr.drew.alloc (.cells #[.int .i64 1,.int .i64 2,.int .i64 4,.int .i64 8] 3)→∀ q,w.cell? ⟨wr.heap.size,q,none⟩=(#[.int .i64 1,.int .i64 2,.int .i64 4,.int .i64 8]:Array Value)[q]? from fun w hw q=>by
      rw[hw]
      exact(cell_row (heap_alloc_new wr.drew _) q).1)
     have HFLG:=Lib.hid (show ∀ w,w=wr.drew.alloc (.cells #[.int .i64 1,.int .i64 2,.int .i64 4,.int .i64 8] 3)→Calls Tryz.prog 20 #[.agg #[.slice va nv cv,.slice aA an ac,.int .i64 sI,.string fS],.int .u8 (cq.toNat:Int),.bool on] w fun y w'=>En.Told w w' y e' from fun w hw=>by
      rw[he']
      exact En.flag_v _ ek cq on w (RdE.later HRE.out (by rw[hw];exact HLL.out)) (by have:=HMI.out.len;omega) (by rw[HMI.out.args];have:=HX8.out;omega))
     have H2:=Lib.hid (show ∀ w w' v,w=wr.drew.alloc (.cells #[.int .i64 1,.int .i64 2,.int .i64 4,.int .i64 8] 3)→Later w w'→FrE w.heap.size w' v e'→C0 7 v w' from fun w w' v h1 h2 h3=>by
      rw[hC0]
      exact .inr (.inr (.inl ⟨rfl,⟨w.heap.size,by rw[h1];exact Nat.lt_of_lt_of_le HSZ.out HLL.out.size,h3⟩,Later.trans (by rw[h1];exact HLL.out) h2⟩)))
     have HST:=Lib.hid (show ∀ u w,C0 7 u w→∃ w9,(Instr.storeAt 28 (.pointer (some ⟨W.heap.size+1,0,none⟩)) u).run Tryz.prog w=.ok () w9∧C0 8 undef w9 from fun u w hc=>by
      rw[hC0] at hc⊢
      rcases hc with⟨h,_⟩ | ⟨h,_⟩ | ⟨_,⟨base,hb,h3⟩,h4⟩ | ⟨h,_⟩
      ·cases h
      ·omega
      ·obtain⟨w9,h5,h6⟩:=HM.out.store h4 hb h3
       exact⟨w9,h5,.inr (.inr (.inr ⟨rfl,h6⟩))⟩
      ·cases h)
     have HZ:=Lib.hid (show ∀ u w,C0 8 u w→Mk W w e' from fun u w hc=>by
      rw[hC0] at hc
      rcases hc with⟨h,_⟩ | ⟨h,_⟩ | ⟨h,_⟩ | ⟨_,h⟩
      ·cases h
      ·omega
      ·cases h
      ·exact h)
     clear hC0 he' hbx hre hek hmd hsI hfS hsb HSB
     rcases(by omega:k=0∨k=1∨k=2∨k=3) with hkk | hkk | hkk | hkk
     all_goals subst hkk
     all_goals subst hz
     ·have hkn:(0:Int)≤(0:Int):=by omega
      have H47:=Lib.hid (show IntKind.i64.wrap ((f:Int))=(d:Int) by
       have h:((f:Int))=(d:Int):=by rw[hd];omega
       rw[h,IntKind.wrap_i64];omega)
      have HLT:=Lib.hid (fun w hw=>(HCL.out w hw 0).trans (show (#[.int .i64 1,.int .i64 2,.int .i64 4,.int .i64 8]:Array Value)[0]?=some (.int .i64 1) from rfl))
      have hcqn:(cq.toNat:Int)=101:=by rw[hcq];rfl
      rw[hcqn] at HFLG
      clear hcq hcqn hon hr hd hd256
      go_wp2_with fail
      refine wp_region_seq (by kernel_rfl) [5,7,8,9,10,11,12,13] (C0) [some (.agg #[.slice va nv cv,.slice aA an ac,.int .i64 sI,.string fS]),some (.int .i64 0),some (.int .u8 101),some (.int .u8 (f:Int)),some (.int .i64 (f:Int)),some (.slice (some ⟨wr.heap.size,0,none⟩) 4 4),some (.int .i64 0),some (.pointer (some ⟨wr.heap.size,0,none⟩)),some (.int .i64 1),some (.int .i64 (d:Int)),some (.int .i64 (r:Int)),some (.bool on),none,none] (by decide) (by decide) (by kernel_rfl) (by kernel_rfl) (H0.out) ?_ ?_
      ·refine⟨?_,?_,?_,?_,?_,?_,?_,?_,?_,?_,?_,?_,?_,?_,trivial⟩
       ·
        refine OwesS.q rfl fun a w j u hC hb hs=>⟨rfl,?_⟩
        have e9:a.tmps.getD 9 undef=.pointer (some ⟨W.heap.size+1,0,none⟩):=hs.free 9 rfl
        have hj:=hb 6 12 rfl rfl
        exact ValWp.loadR rfl e9 (HLDE.out j u w hC hj) ⟨rfl,rfl⟩
       ·
        refine OwesS.q rfl fun a w j u hC hb hs=>⟨rfl,?_⟩
        have e11:a.tmps.getD 11 undef=.int .i64 0:=hs.free 11 rfl
        refine ValWp.pure (v:=.int .i64 0) (fun K' hK'=>?_) ⟨rfl,rfl⟩
        simp only[ValWp,execOp,Act.eval,e11]
        go_simp
        all_goals exact hK'
       ·
        refine OwesS.q rfl fun a w j u hC hb hs=>⟨rfl,?_⟩
        have e39:a.tmps.getD 39 undef=.int .i64 0:=hs.dep 1 _ rfl rfl
        refine ValWp.pure (v:=.int .u8 101) (fun K' hK'=>?_) ⟨rfl,rfl⟩
        simp only[ValWp,execOp,Act.eval,e39]
        go_simp
        all_goals exact hK'
       ·
        refine OwesS.q rfl fun a w j u hC hb hs=>⟨rfl,?_⟩
        have e2:a.tmps.getD 2 undef=.int .u8 (f:Int):=hs.free 2 rfl
        refine ValWp.pure (v:=.int .u8 (f:Int)) (fun K' hK'=>?_) ⟨rfl,rfl⟩
        simp only[ValWp,execOp,Act.eval,e2]
        go_simp
        all_goals exact hK'
       ·
        refine OwesS.q rfl fun a w j u hC hb hs=>⟨rfl,?_⟩
        have e41:a.tmps.getD 41 undef=.int .u8 (f:Int):=hs.dep 3 _ rfl rfl
        have q0:=HF.out
        refine ValWp.pure (v:=.int .i64 (f:Int)) (fun K' hK'=>?_) ⟨rfl,rfl⟩
        simp only[ValWp,execOp,Act.eval,e41]
        go_simp
        all_goals exact hK'
       ·
        refine OwesS.w rfl fun a w u hC hl hs=>⟨rfl,fun K hK=>?_⟩
        have hw:=HA0.out u w hC
        subst hw
        refine wp_of_val ?_
        refine ValWp.pure (v:=.slice (some ⟨wr.heap.size,0,none⟩) 4 4) (w':=wr.drew.alloc (.cells #[.int .i64 1,.int .i64 2,.int .i64 4,.int .i64 8] 3)) (fun K' hK'=>?_) (hK _ _ rfl (H1.out _ _ _ (by decide) (by decide) rfl))
        simp only[ValWp,execOp,Act.eval,List.map_toArray,List.map_cons,List.map_nil]
        go_simp
        all_goals exact hK'
       ·
        refine OwesS.q rfl fun a w j u hC hb hs=>⟨rfl,?_⟩
        have e11:a.tmps.getD 11 undef=.int .i64 0:=hs.free 11 rfl
        refine ValWp.pure (v:=.int .i64 0) (fun K' hK'=>?_) ⟨rfl,rfl⟩
        simp only[ValWp,execOp,Act.eval,e11]
        go_simp
        all_goals exact hK'
       ·
        refine OwesS.w rfl fun a w u hC hl hs=>⟨rfl,fun K hK=>?_⟩
        have e43:a.tmps.getD 43 undef=.slice (some ⟨wr.heap.size,0,none⟩) 4 4:=hs.dep 5 _ rfl rfl
        have e44:a.tmps.getD 44 undef=.int .i64 0:=hs.dep 6 _ rfl rfl
        have hw:=Lib.hid (HA1.out _ u w hC (by decide) (by decide))
        refine wp_of_val ?_
        refine ValWp.pure (v:=.pointer (some ⟨wr.heap.size,0,none⟩)) (w':=w) (fun K' hK'=>?_) (hK _ _ rfl (H1.out _ _ w (by decide) (by decide) hw.out))
        simp only[ValWp,execOp,Act.eval,e43,e44]
        go_simp
        all_goals exact hK'
       ·
        refine OwesS.w rfl fun a w u hC hl hs=>⟨rfl,fun K hK=>?_⟩
        have e45:a.tmps.getD 45 undef=.pointer (some ⟨wr.heap.size,0,none⟩):=hs.dep 7 _ rfl rfl
        have hw:=Lib.hid (HA1.out _ u w hC (by decide) (by decide))
        have q0:=HLT.out w hw.out
        refine wp_of_val ?_
        refine ValWp.pure (v:=.int .i64 1) (w':=w) (fun K' hK'=>?_) (hK _ _ rfl (H1.out _ _ w (by decide) (by decide) hw.out))
        simp only[ValWp,execOp,Act.eval,e45]
        go_simp
        all_goals exact hK'
       ·
        refine OwesS.w rfl fun a w u hC hl hs=>⟨rfl,fun K hK=>?_⟩
        have e42:a.tmps.getD 42 undef=.int .i64 (f:Int):=hs.dep 4 _ rfl rfl
        have e46:a.tmps.getD 46 undef=.int .i64 1:=hs.dep 8 _ rfl rfl
        have hw:=Lib.hid (HA1.out _ u w hC (by decide) (by decide))
        have q0:=H47.out
        refine wp_of_val ?_
        refine ValWp.pure (v:=.int .i64 (d:Int)) (w':=w) (fun K' hK'=>?_) (hK _ _ rfl (H1.out _ _ w (by decide) (by decide) hw.out))
        simp only[ValWp,execOp,Act.eval,e42,e46]
        go_simp
        all_goals exact hK'
       ·
        refine OwesS.w rfl fun a w u hC hl hs=>⟨rfl,fun K hK=>?_⟩
        have e47:a.tmps.getD 47 undef=.int .i64 (d:Int):=hs.dep 9 _ rfl rfl
        have hw:=Lib.hid (HA1.out _ u w hC (by decide) (by decide))
        have q0:=H48.out
        refine wp_of_val ?_
        refine ValWp.pure (v:=.int .i64 (r:Int)) (w':=w) (fun K' hK'=>?_) (hK _ _ rfl (H1.out _ _ w (by decide) (by decide) hw.out))
        simp only[ValWp,execOp,Act.eval,e47]
        go_simp
        all_goals exact hK'
       ·
        refine OwesS.w rfl fun a w u hC hl hs=>⟨rfl,fun K hK=>?_⟩
        have e48:a.tmps.getD 48 undef=.int .i64 (r:Int):=hs.dep 10 _ rfl rfl
        have hw:=Lib.hid (HA1.out _ u w hC (by decide) (by decide))
        have q0:=H49.out
        refine wp_of_val ?_
        refine ValWp.pure (v:=.bool on) (w':=w) (fun K' hK'=>?_) (hK _ _ rfl (H1.out _ _ w (by decide) (by decide) hw.out))
        simp only[ValWp,execOp,Act.eval,e48]
        go_simp
        all_goals exact hK'
       ·
        refine OwesS.w rfl fun a w u hC hl hs=>⟨rfl,fun K hK=>?_⟩
        have e38:a.tmps.getD 38 undef=.agg #[.slice va nv cv,.slice aA an ac,.int .i64 sI,.string fS]:=hs.dep 0 _ rfl rfl
        have e40:a.tmps.getD 40 undef=.int .u8 101:=hs.dep 2 _ rfl rfl
        have e49:a.tmps.getD 49 undef=.bool on:=hs.dep 11 _ rfl rfl
        have hw:=HA1.out _ u w hC (by decide) (by decide)
        refine wp_of_val ?_
        refine ValWp.call #[.agg #[.slice va nv cv,.slice aA an ac,.int .i64 sI,.string fS],.int .u8 101,.bool on] rfl rfl Tryz.func20 rfl rfl (by simp only[List.map_toArray,List.map_cons,List.map_nil,Act.eval,e38,e40,e49]) ?_
        refine(HFLG.out w hw).mono ?_
        rintro e w' ⟨⟨v,rfl,hf⟩,hl⟩
        exact⟨v,rfl,hK v w' trivial (H2.out w w' v hw hl hf)⟩
       ·
        refine OwesS.w rfl fun a w u hC hl hs=>⟨rfl,fun K hK=>?_⟩
        have e9:a.tmps.getD 9 undef=.pointer (some ⟨W.heap.size+1,0,none⟩):=hs.free 9 rfl
        have e50:a.tmps.getD 50 undef=u:=hl
        obtain⟨w9,hrun,h9⟩:=HST.out u w hC
        exact wp_of_val (ValWp.storeR rfl e9 e50 hrun (hK _ _ trivial h9))
      ·intro a w u hC hl hd hsz hfree hs
       obtain⟨u38,hu38⟩:∃ u,u=a.tmps.getD 38 undef:=⟨_,rfl⟩
       obtain⟨u39,hu39⟩:∃ u,u=a.tmps.getD 39 undef:=⟨_,rfl⟩
       obtain⟨u40,hu40⟩:∃ u,u=a.tmps.getD 40 undef:=⟨_,rfl⟩
       obtain⟨u41,hu41⟩:∃ u,u=a.tmps.getD 41 undef:=⟨_,rfl⟩
       obtain⟨u42,hu42⟩:∃ u,u=a.tmps.getD 42 undef:=⟨_,rfl⟩
       obtain⟨u43,hu43⟩:∃ u,u=a.tmps.getD 43 undef:=⟨_,rfl⟩
       obtain⟨u44,hu44⟩:∃ u,u=a.tmps.getD 44 undef:=⟨_,rfl⟩
       obtain⟨u45,hu45⟩:∃ u,u=a.tmps.getD 45 undef:=⟨_,rfl⟩
       obtain⟨u46,hu46⟩:∃ u,u=a.tmps.getD 46 undef:=⟨_,rfl⟩
       obtain⟨u47,hu47⟩:∃ u,u=a.tmps.getD 47 undef:=⟨_,rfl⟩
       obtain⟨u48,hu48⟩:∃ u,u=a.tmps.getD 48 undef:=⟨_,rfl⟩
       obtain⟨u49,hu49⟩:∃ u,u=a.tmps.getD 49 undef:=⟨_,rfl⟩
       obtain⟨u50,hu50⟩:∃ u,u=a.tmps.getD 50 undef:=⟨_,rfl⟩
       have hal:AllAt a 0 [_,_,_,_,_,_,_,_,_,_,_,_,_,_,_,_,_,_,_,_,_,_,_,_,_,_,_,_,_,_,_,_,_,_,_,_,_,_,u38,u39,u40,u41,u42,u43,u44,u45,u46,u47,u48,u49,u50,_]:=⟨hfree 0 rfl,hfree 1 rfl,hfree 2 rfl,hfree 3 rfl,hfree 4 rfl,hfree 5 rfl,hfree 6 rfl,hfree 7 rfl,hfree 8 rfl,hfree 9 rfl,hfree 10 rfl,hfree 11 rfl,hfree 12 rfl,hfree 13 rfl,hfree 14 rfl,hfree 15 rfl,hfree 16 rfl,hfree 17 rfl,hfree 18 rfl,hfree 19 rfl,hfree 20 rfl,hfree 21 rfl,hfree 22 rfl,hfree 23 rfl,hfree 24 rfl,hfree 25 rfl,hfree 26 rfl,hfree 27 rfl,hfree 28 rfl,hfree 29 rfl,hfree 30 rfl,hfree 31 rfl,hfree 32 rfl,hfree 33 rfl,hfree 34 rfl,hfree 35 rfl,hfree 36 rfl,hfree 37 rfl,hu38.symm,hu39.symm,hu40.symm,hu41.symm,hu42.symm,hu43.symm,hu44.symm,hu45.symm,hu46.symm,hu47.symm,hu48.symm,hu49.symm,hu50.symm,hfree 51 rfl,trivial⟩
       have hlit:=fun h=>act_lit hd h hal
       rw[hlit hsz]
       simp only[Array.getD_eq_getD_getElem?,List.getElem?_toArray,List.getElem?_cons_zero,List.getElem?_cons_succ,Option.getD_some]
       clear hlit hal hd hsz hfree hs hu38 hu39 hu40 hu41 hu42 hu43 hu44 hu45 hu46 hu47 hu48 hu49 hu50
       go_wp2
       go_roundw
       case rel=>exact⟨1,1,by first | rfl | go_num,rfl,by omega,Lib.hid (by rw[HE'.out];exact HZ.out _ _ hC)⟩
       case measure=>simp[intOf]
     ·have hkn:(0:Int)≤(1:Int):=by omega
      have H47:=Lib.hid (show IntKind.i64.wrap ((f:Int) / 2)=(d:Int) by
       have h:((f:Int) / 2)=(d:Int):=by rw[hd];omega
       rw[h,IntKind.wrap_i64];omega)
      have HLT:=Lib.hid (fun w hw=>(HCL.out w hw 1).trans (show (#[.int .i64 1,.int .i64 2,.int .i64 4,.int .i64 8]:Array Value)[1]?=some (.int .i64 2) from rfl))
      have hcqn:(cq.toNat:Int)=102:=by rw[hcq];rfl
      rw[hcqn] at HFLG
      clear hcq hcqn hon hr hd hd256
      go_wp2_with fail
      refine wp_region_seq (by kernel_rfl) [5,7,8,9,10,11,12,13] (C0) [some (.agg #[.slice va nv cv,.slice aA an ac,.int .i64 sI,.string fS]),some (.int .i64 1),some (.int .u8 102),some (.int .u8 (f:Int)),some (.int .i64 (f:Int)),some (.slice (some ⟨wr.heap.size,0,none⟩) 4 4),some (.int .i64 1),some (.pointer (some ⟨wr.heap.size,1,none⟩)),some (.int .i64 2),some (.int .i64 (d:Int)),some (.int .i64 (r:Int)),some (.bool on),none,none] (by decide) (by decide) (by kernel_rfl) (by kernel_rfl) (H0.out) ?_ ?_
      ·refine⟨?_,?_,?_,?_,?_,?_,?_,?_,?_,?_,?_,?_,?_,?_,trivial⟩
       ·
        refine OwesS.q rfl fun a w j u hC hb hs=>⟨rfl,?_⟩
        have e9:a.tmps.getD 9 undef=.pointer (some ⟨W.heap.size+1,0,none⟩):=hs.free 9 rfl
        have hj:=hb 6 12 rfl rfl
        exact ValWp.loadR rfl e9 (HLDE.out j u w hC hj) ⟨rfl,rfl⟩
       ·
        refine OwesS.q rfl fun a w j u hC hb hs=>⟨rfl,?_⟩
        have e11:a.tmps.getD 11 undef=.int .i64 1:=hs.free 11 rfl
        refine ValWp.pure (v:=.int .i64 1) (fun K' hK'=>?_) ⟨rfl,rfl⟩
        simp only[ValWp,execOp,Act.eval,e11]
        go_simp
        all_goals exact hK'
       ·
        refine OwesS.q rfl fun a w j u hC hb hs=>⟨rfl,?_⟩
        have e39:a.tmps.getD 39 undef=.int .i64 1:=hs.dep 1 _ rfl rfl
        refine ValWp.pure (v:=.int .u8 102) (fun K' hK'=>?_) ⟨rfl,rfl⟩
        simp only[ValWp,execOp,Act.eval,e39]
        go_simp
        all_goals exact hK'
       ·
        refine OwesS.q rfl fun a w j u hC hb hs=>⟨rfl,?_⟩
        have e2:a.tmps.getD 2 undef=.int .u8 (f:Int):=hs.free 2 rfl
        refine ValWp.pure (v:=.int .u8 (f:Int)) (fun K' hK'=>?_) ⟨rfl,rfl⟩
        simp only[ValWp,execOp,Act.eval,e2]
        go_simp
        all_goals exact hK'
       ·
        refine OwesS.q rfl fun a w j u hC hb hs=>⟨rfl,?_⟩
        have e41:a.tmps.getD 41 undef=.int .u8 (f:Int):=hs.dep 3 _ rfl rfl
        have q0:=HF.out
        refine ValWp.pure (v:=.int .i64 (f:Int)) (fun K' hK'=>?_) ⟨rfl,rfl⟩
        simp only[ValWp,execOp,Act.eval,e41]
        go_simp
        all_goals exact hK'
       ·
        refine OwesS.w rfl fun a w u hC hl hs=>⟨rfl,fun K hK=>?_⟩
        have hw:=HA0.out u w hC
        subst hw
        refine wp_of_val ?_
        refine ValWp.pure (v:=.slice (some ⟨wr.heap.size,0,none⟩) 4 4) (w':=wr.drew.alloc (.cells #[.int .i64 1,.int .i64 2,.int .i64 4,.int .i64 8] 3)) (fun K' hK'=>?_) (hK _ _ rfl (H1.out _ _ _ (by decide) (by decide) rfl))
        simp only[ValWp,execOp,Act.eval,List.map_toArray,List.map_cons,List.map_nil]
        go_simp
        all_goals exact hK'
       ·
        refine OwesS.q rfl fun a w j u hC hb hs=>⟨rfl,?_⟩
        have e11:a.tmps.getD 11 undef=.int .i64 1:=hs.free 11 rfl
        refine ValWp.pure (v:=.int .i64 1) (fun K' hK'=>?_) ⟨rfl,rfl⟩
        simp only[ValWp,execOp,Act.eval,e11]
        go_simp
        all_goals exact hK'
       ·
        refine OwesS.w rfl fun a w u hC hl hs=>⟨rfl,fun K hK=>?_⟩
        have e43:a.tmps.getD 43 undef=.slice (some ⟨wr.heap.size,0,none⟩) 4 4:=hs.dep 5 _ rfl rfl
        have e44:a.tmps.getD 44 undef=.int .i64 1:=hs.dep 6 _ rfl rfl
        have hw:=Lib.hid (HA1.out _ u w hC (by decide) (by decide))
        refine wp_of_val ?_
        refine ValWp.pure (v:=.pointer (some ⟨wr.heap.size,1,none⟩)) (w':=w) (fun K' hK'=>?_) (hK _ _ rfl (H1.out _ _ w (by decide) (by decide) hw.out))
        simp only[ValWp,execOp,Act.eval,e43,e44]
        go_simp
        all_goals exact hK'
       ·
        refine OwesS.w rfl fun a w u hC hl hs=>⟨rfl,fun K hK=>?_⟩
        have e45:a.tmps.getD 45 undef=.pointer (some ⟨wr.heap.size,1,none⟩):=hs.dep 7 _ rfl rfl
        have hw:=Lib.hid (HA1.out _ u w hC (by decide) (by decide))
        have q0:=HLT.out w hw.out
        refine wp_of_val ?_
        refine ValWp.pure (v:=.int .i64 2) (w':=w) (fun K' hK'=>?_) (hK _ _ rfl (H1.out _ _ w (by decide) (by decide) hw.out))
        simp only[ValWp,execOp,Act.eval,e45]
        go_simp
        all_goals exact hK'
       ·
        refine OwesS.w rfl fun a w u hC hl hs=>⟨rfl,fun K hK=>?_⟩
        have e42:a.tmps.getD 42 undef=.int .i64 (f:Int):=hs.dep 4 _ rfl rfl
        have e46:a.tmps.getD 46 undef=.int .i64 2:=hs.dep 8 _ rfl rfl
        have hw:=Lib.hid (HA1.out _ u w hC (by decide) (by decide))
        have q0:=H47.out
        refine wp_of_val ?_
        refine ValWp.pure (v:=.int .i64 (d:Int)) (w':=w) (fun K' hK'=>?_) (hK _ _ rfl (H1.out _ _ w (by decide) (by decide) hw.out))
        simp only[ValWp,execOp,Act.eval,e42,e46]
        go_simp
        all_goals exact hK'
       ·
        refine OwesS.w rfl fun a w u hC hl hs=>⟨rfl,fun K hK=>?_⟩
        have e47:a.tmps.getD 47 undef=.int .i64 (d:Int):=hs.dep 9 _ rfl rfl
        have hw:=Lib.hid (HA1.out _ u w hC (by decide) (by decide))
        have q0:=H48.out
        refine wp_of_val ?_
        refine ValWp.pure (v:=.int .i64 (r:Int)) (w':=w) (fun K' hK'=>?_) (hK _ _ rfl (H1.out _ _ w (by decide) (by decide) hw.out))
        simp only[ValWp,execOp,Act.eval,e47]
        go_simp
        all_goals exact hK'
       ·
        refine OwesS.w rfl fun a w u hC hl hs=>⟨rfl,fun K hK=>?_⟩
        have e48:a.tmps.getD 48 undef=.int .i64 (r:Int):=hs.dep 10 _ rfl rfl
        have hw:=Lib.hid (HA1.out _ u w hC (by decide) (by decide))
        have q0:=H49.out
        refine wp_of_val ?_
        refine ValWp.pure (v:=.bool on) (w':=w) (fun K' hK'=>?_) (hK _ _ rfl (H1.out _ _ w (by decide) (by decide) hw.out))
        simp only[ValWp,execOp,Act.eval,e48]
        go_simp
        all_goals exact hK'
       ·
        refine OwesS.w rfl fun a w u hC hl hs=>⟨rfl,fun K hK=>?_⟩
        have e38:a.tmps.getD 38 undef=.agg #[.slice va nv cv,.slice aA an ac,.int .i64 sI,.string fS]:=hs.dep 0 _ rfl rfl
        have e40:a.tmps.getD 40 undef=.int .u8 102:=hs.dep 2 _ rfl rfl
        have e49:a.tmps.getD 49 undef=.bool on:=hs.dep 11 _ rfl rfl
        have hw:=HA1.out _ u w hC (by decide) (by decide)
        refine wp_of_val ?_
        refine ValWp.call #[.agg #[.slice va nv cv,.slice aA an ac,.int .i64 sI,.string fS],.int .u8 102,.bool on] rfl rfl Tryz.func20 rfl rfl (by simp only[List.map_toArray,List.map_cons,List.map_nil,Act.eval,e38,e40,e49]) ?_
        refine(HFLG.out w hw).mono ?_
        rintro e w' ⟨⟨v,rfl,hf⟩,hl⟩
        exact⟨v,rfl,hK v w' trivial (H2.out w w' v hw hl hf)⟩
       ·
        refine OwesS.w rfl fun a w u hC hl hs=>⟨rfl,fun K hK=>?_⟩
        have e9:a.tmps.getD 9 undef=.pointer (some ⟨W.heap.size+1,0,none⟩):=hs.free 9 rfl
        have e50:a.tmps.getD 50 undef=u:=hl
        obtain⟨w9,hrun,h9⟩:=HST.out u w hC
        exact wp_of_val (ValWp.storeR rfl e9 e50 hrun (hK _ _ trivial h9))
      ·intro a w u hC hl hd hsz hfree hs
       obtain⟨u38,hu38⟩:∃ u,u=a.tmps.getD 38 undef:=⟨_,rfl⟩
       obtain⟨u39,hu39⟩:∃ u,u=a.tmps.getD 39 undef:=⟨_,rfl⟩
       obtain⟨u40,hu40⟩:∃ u,u=a.tmps.getD 40 undef:=⟨_,rfl⟩
       obtain⟨u41,hu41⟩:∃ u,u=a.tmps.getD 41 undef:=⟨_,rfl⟩
       obtain⟨u42,hu42⟩:∃ u,u=a.tmps.getD 42 undef:=⟨_,rfl⟩
       obtain⟨u43,hu43⟩:∃ u,u=a.tmps.getD 43 undef:=⟨_,rfl⟩
       obtain⟨u44,hu44⟩:∃ u,u=a.tmps.getD 44 undef:=⟨_,rfl⟩
       obtain⟨u45,hu45⟩:∃ u,u=a.tmps.getD 45 undef:=⟨_,rfl⟩
       obtain⟨u46,hu46⟩:∃ u,u=a.tmps.getD 46 undef:=⟨_,rfl⟩
       obtain⟨u47,hu47⟩:∃ u,u=a.tmps.getD 47 undef:=⟨_,rfl⟩
       obtain⟨u48,hu48⟩:∃ u,u=a.tmps.getD 48 undef:=⟨_,rfl⟩
       obtain⟨u49,hu49⟩:∃ u,u=a.tmps.getD 49 undef:=⟨_,rfl⟩
       obtain⟨u50,hu50⟩:∃ u,u=a.tmps.getD 50 undef:=⟨_,rfl⟩
       have hal:AllAt a 0 [_,_,_,_,_,_,_,_,_,_,_,_,_,_,_,_,_,_,_,_,_,_,_,_,_,_,_,_,_,_,_,_,_,_,_,_,_,_,u38,u39,u40,u41,u42,u43,u44,u45,u46,u47,u48,u49,u50,_]:=⟨hfree 0 rfl,hfree 1 rfl,hfree 2 rfl,hfree 3 rfl,hfree 4 rfl,hfree 5 rfl,hfree 6 rfl,hfree 7 rfl,hfree 8 rfl,hfree 9 rfl,hfree 10 rfl,hfree 11 rfl,hfree 12 rfl,hfree 13 rfl,hfree 14 rfl,hfree 15 rfl,hfree 16 rfl,hfree 17 rfl,hfree 18 rfl,hfree 19 rfl,hfree 20 rfl,hfree 21 rfl,hfree 22 rfl,hfree 23 rfl,hfree 24 rfl,hfree 25 rfl,hfree 26 rfl,hfree 27 rfl,hfree 28 rfl,hfree 29 rfl,hfree 30 rfl,hfree 31 rfl,hfree 32 rfl,hfree 33 rfl,hfree 34 rfl,hfree 35 rfl,hfree 36 rfl,hfree 37 rfl,hu38.symm,hu39.symm,hu40.symm,hu41.symm,hu42.symm,hu43.symm,hu44.symm,hu45.symm,hu46.symm,hu47.symm,hu48.symm,hu49.symm,hu50.symm,hfree 51 rfl,trivial⟩
       have hlit:=fun h=>act_lit hd h hal
       rw[hlit hsz]
       simp only[Array.getD_eq_getD_getElem?,List.getElem?_toArray,List.getElem?_cons_zero,List.getElem?_cons_succ,Option.getD_some]
       clear hlit hal hd hsz hfree hs hu38 hu39 hu40 hu41 hu42 hu43 hu44 hu45 hu46 hu47 hu48 hu49 hu50
       go_wp2
       go_roundw
       case rel=>exact⟨2,2,by first | rfl | go_num,rfl,by omega,Lib.hid (by rw[HE'.out];exact HZ.out _ _ hC)⟩
       case measure=>simp[intOf]
     ·have hkn:(0:Int)≤(2:Int):=by omega
      have H47:=Lib.hid (show IntKind.i64.wrap ((f:Int) / 4)=(d:Int) by
       have h:((f:Int) / 4)=(d:Int):=by rw[hd];omega
       rw[h,IntKind.wrap_i64];omega)
      have HLT:=Lib.hid (fun w hw=>(HCL.out w hw 2).trans (show (#[.int .i64 1,.int .i64 2,.int .i64 4,.int .i64 8]:Array Value)[2]?=some (.int .i64 4) from rfl))
      have hcqn:(cq.toNat:Int)=117:=by rw[hcq];rfl
      rw[hcqn] at HFLG
      clear hcq hcqn hon hr hd hd256
      go_wp2_with fail
      refine wp_region_seq (by kernel_rfl) [5,7,8,9,10,11,12,13] (C0) [some (.agg #[.slice va nv cv,.slice aA an ac,.int .i64 sI,.string fS]),some (.int .i64 2),some (.int .u8 117),some (.int .u8 (f:Int)),some (.int .i64 (f:Int)),some (.slice (some ⟨wr.heap.size,0,none⟩) 4 4),some (.int .i64 2),some (.pointer (some ⟨wr.heap.size,2,none⟩)),some (.int .i64 4),some (.int .i64 (d:Int)),some (.int .i64 (r:Int)),some (.bool on),none,none] (by decide) (by decide) (by kernel_rfl) (by kernel_rfl) (H0.out) ?_ ?_
      ·refine⟨?_,?_,?_,?_,?_,?_,?_,?_,?_,?_,?_,?_,?_,?_,trivial⟩
       ·
        refine OwesS.q rfl fun a w j u hC hb hs=>⟨rfl,?_⟩
        have e9:a.tmps.getD 9 undef=.pointer (some ⟨W.heap.size+1,0,none⟩):=hs.free 9 rfl
        have hj:=hb 6 12 rfl rfl
        exact ValWp.loadR rfl e9 (HLDE.out j u w hC hj) ⟨rfl,rfl⟩
       ·
        refine OwesS.q rfl fun a w j u hC hb hs=>⟨rfl,?_⟩
        have e11:a.tmps.getD 11 undef=.int .i64 2:=hs.free 11 rfl
        refine ValWp.pure (v:=.int .i64 2) (fun K' hK'=>?_) ⟨rfl,rfl⟩
        simp only[ValWp,execOp,Act.eval,e11]
        go_simp
        all_goals exact hK'
       ·
        refine OwesS.q rfl fun a w j u hC hb hs=>⟨rfl,?_⟩
        have e39:a.tmps.getD 39 undef=.int .i64 2:=hs.dep 1 _ rfl rfl
        refine ValWp.pure (v:=.int .u8 117) (fun K' hK'=>?_) ⟨rfl,rfl⟩
        simp only[ValWp,execOp,Act.eval,e39]
        go_simp
        all_goals exact hK'
       ·
        refine OwesS.q rfl fun a w j u hC hb hs=>⟨rfl,?_⟩
        have e2:a.tmps.getD 2 undef=.int .u8 (f:Int):=hs.free 2 rfl
        refine ValWp.pure (v:=.int .u8 (f:Int)) (fun K' hK'=>?_) ⟨rfl,rfl⟩
        simp only[ValWp,execOp,Act.eval,e2]
        go_simp
        all_goals exact hK'
       ·
        refine OwesS.q rfl fun a w j u hC hb hs=>⟨rfl,?_⟩
        have e41:a.tmps.getD 41 undef=.int .u8 (f:Int):=hs.dep 3 _ rfl rfl
        have q0:=HF.out
        refine ValWp.pure (v:=.int .i64 (f:Int)) (fun K' hK'=>?_) ⟨rfl,rfl⟩
        simp only[ValWp,execOp,Act.eval,e41]
        go_simp
        all_goals exact hK'
       ·
        refine OwesS.w rfl fun a w u hC hl hs=>⟨rfl,fun K hK=>?_⟩
        have hw:=HA0.out u w hC
        subst hw
        refine wp_of_val ?_
        refine ValWp.pure (v:=.slice (some ⟨wr.heap.size,0,none⟩) 4 4) (w':=wr.drew.alloc (.cells #[.int .i64 1,.int .i64 2,.int .i64 4,.int .i64 8] 3)) (fun K' hK'=>?_) (hK _ _ rfl (H1.out _ _ _ (by decide) (by decide) rfl))
        simp only[ValWp,execOp,Act.eval,List.map_toArray,List.map_cons,List.map_nil]
        go_simp
        all_goals exact hK'
       ·
        refine OwesS.q rfl fun a w j u hC hb hs=>⟨rfl,?_⟩
        have e11:a.tmps.getD 11 undef=.int .i64 2:=hs.free 11 rfl
        refine ValWp.pure (v:=.int .i64 2) (fun K' hK'=>?_) ⟨rfl,rfl⟩
        simp only[ValWp,execOp,Act.eval,e11]
        go_simp
        all_goals exact hK'
       ·
        refine OwesS.w rfl fun a w u hC hl hs=>⟨rfl,fun K hK=>?_⟩
        have e43:a.tmps.getD 43 undef=.slice (some ⟨wr.heap.size,0,none⟩) 4 4:=hs.dep 5 _ rfl rfl
        have e44:a.tmps.getD 44 undef=.int .i64 2:=hs.dep 6 _ rfl rfl
        have hw:=Lib.hid (HA1.out _ u w hC (by decide) (by decide))
        refine wp_of_val ?_
        refine ValWp.pure (v:=.pointer (some ⟨wr.heap.size,2,none⟩)) (w':=w) (fun K' hK'=>?_) (hK _ _ rfl (H1.out _ _ w (by decide) (by decide) hw.out))
        simp only[ValWp,execOp,Act.eval,e43,e44]
        go_simp
        all_goals exact hK'
       ·
        refine OwesS.w rfl fun a w u hC hl hs=>⟨rfl,fun K hK=>?_⟩
        have e45:a.tmps.getD 45 undef=.pointer (some ⟨wr.heap.size,2,none⟩):=hs.dep 7 _ rfl rfl
        have hw:=Lib.hid (HA1.out _ u w hC (by decide) (by decide))
        have q0:=HLT.out w hw.out
        refine wp_of_val ?_
        refine ValWp.pure (v:=.int .i64 4) (w':=w) (fun K' hK'=>?_) (hK _ _ rfl (H1.out _ _ w (by decide) (by decide) hw.out))
        simp only[ValWp,execOp,Act.eval,e45]
        go_simp
        all_goals exact hK'
       ·
        refine OwesS.w rfl fun a w u hC hl hs=>⟨rfl,fun K hK=>?_⟩
        have e42:a.tmps.getD 42 undef=.int .i64 (f:Int):=hs.dep 4 _ rfl rfl
        have e46:a.tmps.getD 46 undef=.int .i64 4:=hs.dep 8 _ rfl rfl
        have hw:=Lib.hid (HA1.out _ u w hC (by decide) (by decide))
        have q0:=H47.out
        refine wp_of_val ?_
        refine ValWp.pure (v:=.int .i64 (d:Int)) (w':=w) (fun K' hK'=>?_) (hK _ _ rfl (H1.out _ _ w (by decide) (by decide) hw.out))
        simp only[ValWp,execOp,Act.eval,e42,e46]
        go_simp
        all_goals exact hK'
       ·
        refine OwesS.w rfl fun a w u hC hl hs=>⟨rfl,fun K hK=>?_⟩
        have e47:a.tmps.getD 47 undef=.int .i64 (d:Int):=hs.dep 9 _ rfl rfl
        have hw:=Lib.hid (HA1.out _ u w hC (by decide) (by decide))
        have q0:=H48.out
        refine wp_of_val ?_
        refine ValWp.pure (v:=.int .i64 (r:Int)) (w':=w) (fun K' hK'=>?_) (hK _ _ rfl (H1.out _ _ w (by decide) (by decide) hw.out))
        simp only[ValWp,execOp,Act.eval,e47]
        go_simp
        all_goals exact hK'
       ·
        refine OwesS.w rfl fun a w u hC hl hs=>⟨rfl,fun K hK=>?_⟩
        have e48:a.tmps.getD 48 undef=.int .i64 (r:Int):=hs.dep 10 _ rfl rfl
        have hw:=Lib.hid (HA1.out _ u w hC (by decide) (by decide))
        have q0:=H49.out
        refine wp_of_val ?_
        refine ValWp.pure (v:=.bool on) (w':=w) (fun K' hK'=>?_) (hK _ _ rfl (H1.out _ _ w (by decide) (by decide) hw.out))
        simp only[ValWp,execOp,Act.eval,e48]
        go_simp
        all_goals exact hK'
       ·
        refine OwesS.w rfl fun a w u hC hl hs=>⟨rfl,fun K hK=>?_⟩
        have e38:a.tmps.getD 38 undef=.agg #[.slice va nv cv,.slice aA an ac,.int .i64 sI,.string fS]:=hs.dep 0 _ rfl rfl
        have e40:a.tmps.getD 40 undef=.int .u8 117:=hs.dep 2 _ rfl rfl
        have e49:a.tmps.getD 49 undef=.bool on:=hs.dep 11 _ rfl rfl
        have hw:=HA1.out _ u w hC (by decide) (by decide)
        refine wp_of_val ?_
        refine ValWp.call #[.agg #[.slice va nv cv,.slice aA an ac,.int .i64 sI,.string fS],.int .u8 117,.bool on] rfl rfl Tryz.func20 rfl rfl (by simp only[List.map_toArray,List.map_cons,List.map_nil,Act.eval,e38,e40,e49]) ?_
        refine(HFLG.out w hw).mono ?_
        rintro e w' ⟨⟨v,rfl,hf⟩,hl⟩
        exact⟨v,rfl,hK v w' trivial (H2.out w w' v hw hl hf)⟩
       ·
        refine OwesS.w rfl fun a w u hC hl hs=>⟨rfl,fun K hK=>?_⟩
        have e9:a.tmps.getD 9 undef=.pointer (some ⟨W.heap.size+1,0,none⟩):=hs.free 9 rfl
        have e50:a.tmps.getD 50 undef=u:=hl
        obtain⟨w9,hrun,h9⟩:=HST.out u w hC
        exact wp_of_val (ValWp.storeR rfl e9 e50 hrun (hK _ _ trivial h9))
      ·intro a w u hC hl hd hsz hfree hs
       obtain⟨u38,hu38⟩:∃ u,u=a.tmps.getD 38 undef:=⟨_,rfl⟩
       obtain⟨u39,hu39⟩:∃ u,u=a.tmps.getD 39 undef:=⟨_,rfl⟩
       obtain⟨u40,hu40⟩:∃ u,u=a.tmps.getD 40 undef:=⟨_,rfl⟩
       obtain⟨u41,hu41⟩:∃ u,u=a.tmps.getD 41 undef:=⟨_,rfl⟩
       obtain⟨u42,hu42⟩:∃ u,u=a.tmps.getD 42 undef:=⟨_,rfl⟩
       obtain⟨u43,hu43⟩:∃ u,u=a.tmps.getD 43 undef:=⟨_,rfl⟩
       obtain⟨u44,hu44⟩:∃ u,u=a.tmps.getD 44 undef:=⟨_,rfl⟩
       obtain⟨u45,hu45⟩:∃ u,u=a.tmps.getD 45 undef:=⟨_,rfl⟩
       obtain⟨u46,hu46⟩:∃ u,u=a.tmps.getD 46 undef:=⟨_,rfl⟩
       obtain⟨u47,hu47⟩:∃ u,u=a.tmps.getD 47 undef:=⟨_,rfl⟩
       obtain⟨u48,hu48⟩:∃ u,u=a.tmps.getD 48 undef:=⟨_,rfl⟩
       obtain⟨u49,hu49⟩:∃ u,u=a.tmps.getD 49 undef:=⟨_,rfl⟩
       obtain⟨u50,hu50⟩:∃ u,u=a.tmps.getD 50 undef:=⟨_,rfl⟩
       have hal:AllAt a 0 [_,_,_,_,_,_,_,_,_,_,_,_,_,_,_,_,_,_,_,_,_,_,_,_,_,_,_,_,_,_,_,_,_,_,_,_,_,_,u38,u39,u40,u41,u42,u43,u44,u45,u46,u47,u48,u49,u50,_]:=⟨hfree 0 rfl,hfree 1 rfl,hfree 2 rfl,hfree 3 rfl,hfree 4 rfl,hfree 5 rfl,hfree 6 rfl,hfree 7 rfl,hfree 8 rfl,hfree 9 rfl,hfree 10 rfl,hfree 11 rfl,hfree 12 rfl,hfree 13 rfl,hfree 14 rfl,hfree 15 rfl,hfree 16 rfl,hfree 17 rfl,hfree 18 rfl,hfree 19 rfl,hfree 20 rfl,hfree 21 rfl,hfree 22 rfl,hfree 23 rfl,hfree 24 rfl,hfree 25 rfl,hfree 26 rfl,hfree 27 rfl,hfree 28 rfl,hfree 29 rfl,hfree 30 rfl,hfree 31 rfl,hfree 32 rfl,hfree 33 rfl,hfree 34 rfl,hfree 35 rfl,hfree 36 rfl,hfree 37 rfl,hu38.symm,hu39.symm,hu40.symm,hu41.symm,hu42.symm,hu43.symm,hu44.symm,hu45.symm,hu46.symm,hu47.symm,hu48.symm,hu49.symm,hu50.symm,hfree 51 rfl,trivial⟩
       have hlit:=fun h=>act_lit hd h hal
       rw[hlit hsz]
       simp only[Array.getD_eq_getD_getElem?,List.getElem?_toArray,List.getElem?_cons_zero,List.getElem?_cons_succ,Option.getD_some]
       clear hlit hal hd hsz hfree hs hu38 hu39 hu40 hu41 hu42 hu43 hu44 hu45 hu46 hu47 hu48 hu49 hu50
       go_wp2
       go_roundw
       case rel=>exact⟨3,3,by first | rfl | go_num,rfl,by omega,Lib.hid (by rw[HE'.out];exact HZ.out _ _ hC)⟩
       case measure=>simp[intOf]
     ·have hkn:(0:Int)≤(3:Int):=by omega
      have H47:=Lib.hid (show IntKind.i64.wrap ((f:Int) / 8)=(d:Int) by
       have h:((f:Int) / 8)=(d:Int):=by rw[hd];omega
       rw[h,IntKind.wrap_i64];omega)
      have HLT:=Lib.hid (fun w hw=>(HCL.out w hw 3).trans (show (#[.int .i64 1,.int .i64 2,.int .i64 4,.int .i64 8]:Array Value)[3]?=some (.int .i64 8) from rfl))
      have hcqn:(cq.toNat:Int)=120:=by rw[hcq];rfl
      rw[hcqn] at HFLG
      clear hcq hcqn hon hr hd hd256
      go_wp2_with fail
      refine wp_region_seq (by kernel_rfl) [5,7,8,9,10,11,12,13] (C0) [some (.agg #[.slice va nv cv,.slice aA an ac,.int .i64 sI,.string fS]),some (.int .i64 3),some (.int .u8 120),some (.int .u8 (f:Int)),some (.int .i64 (f:Int)),some (.slice (some ⟨wr.heap.size,0,none⟩) 4 4),some (.int .i64 3),some (.pointer (some ⟨wr.heap.size,3,none⟩)),some (.int .i64 8),some (.int .i64 (d:Int)),some (.int .i64 (r:Int)),some (.bool on),none,none] (by decide) (by decide) (by kernel_rfl) (by kernel_rfl) (H0.out) ?_ ?_
      ·refine⟨?_,?_,?_,?_,?_,?_,?_,?_,?_,?_,?_,?_,?_,?_,trivial⟩
       ·
        refine OwesS.q rfl fun a w j u hC hb hs=>⟨rfl,?_⟩
        have e9:a.tmps.getD 9 undef=.pointer (some ⟨W.heap.size+1,0,none⟩):=hs.free 9 rfl
        have hj:=hb 6 12 rfl rfl
        exact ValWp.loadR rfl e9 (HLDE.out j u w hC hj) ⟨rfl,rfl⟩
       ·
        refine OwesS.q rfl fun a w j u hC hb hs=>⟨rfl,?_⟩
        have e11:a.tmps.getD 11 undef=.int .i64 3:=hs.free 11 rfl
        refine ValWp.pure (v:=.int .i64 3) (fun K' hK'=>?_) ⟨rfl,rfl⟩
        simp only[ValWp,execOp,Act.eval,e11]
        go_simp
        all_goals exact hK'
       ·
        refine OwesS.q rfl fun a w j u hC hb hs=>⟨rfl,?_⟩
        have e39:a.tmps.getD 39 undef=.int .i64 3:=hs.dep 1 _ rfl rfl
        refine ValWp.pure (v:=.int .u8 120) (fun K' hK'=>?_) ⟨rfl,rfl⟩
        simp only[ValWp,execOp,Act.eval,e39]
        go_simp
        all_goals exact hK'
       ·
        refine OwesS.q rfl fun a w j u hC hb hs=>⟨rfl,?_⟩
        have e2:a.tmps.getD 2 undef=.int .u8 (f:Int):=hs.free 2 rfl
        refine ValWp.pure (v:=.int .u8 (f:Int)) (fun K' hK'=>?_) ⟨rfl,rfl⟩
        simp only[ValWp,execOp,Act.eval,e2]
        go_simp
        all_goals exact hK'
       ·
        refine OwesS.q rfl fun a w j u hC hb hs=>⟨rfl,?_⟩
        have e41:a.tmps.getD 41 undef=.int .u8 (f:Int):=hs.dep 3 _ rfl rfl
        have q0:=HF.out
        refine ValWp.pure (v:=.int .i64 (f:Int)) (fun K' hK'=>?_) ⟨rfl,rfl⟩
        simp only[ValWp,execOp,Act.eval,e41]
        go_simp
        all_goals exact hK'
       ·
        refine OwesS.w rfl fun a w u hC hl hs=>⟨rfl,fun K hK=>?_⟩
        have hw:=HA0.out u w hC
        subst hw
        refine wp_of_val ?_
        refine ValWp.pure (v:=.slice (some ⟨wr.heap.size,0,none⟩) 4 4) (w':=wr.drew.alloc (.cells #[.int .i64 1,.int .i64 2,.int .i64 4,.int .i64 8] 3)) (fun K' hK'=>?_) (hK _ _ rfl (H1.out _ _ _ (by decide) (by decide) rfl))
        simp only[ValWp,execOp,Act.eval,List.map_toArray,List.map_cons,List.map_nil]
        go_simp
        all_goals exact hK'
       ·
        refine OwesS.q rfl fun a w j u hC hb hs=>⟨rfl,?_⟩
        have e11:a.tmps.getD 11 undef=.int .i64 3:=hs.free 11 rfl
        refine ValWp.pure (v:=.int .i64 3) (fun K' hK'=>?_) ⟨rfl,rfl⟩
        simp only[ValWp,execOp,Act.eval,e11]
        go_simp
        all_goals exact hK'
       ·
        refine OwesS.w rfl fun a w u hC hl hs=>⟨rfl,fun K hK=>?_⟩
        have e43:a.tmps.getD 43 undef=.slice (some ⟨wr.heap.size,0,none⟩) 4 4:=hs.dep 5 _ rfl rfl
        have e44:a.tmps.getD 44 undef=.int .i64 3:=hs.dep 6 _ rfl rfl
        have hw:=Lib.hid (HA1.out _ u w hC (by decide) (by decide))
        refine wp_of_val ?_
        refine ValWp.pure (v:=.pointer (some ⟨wr.heap.size,3,none⟩)) (w':=w) (fun K' hK'=>?_) (hK _ _ rfl (H1.out _ _ w (by decide) (by decide) hw.out))
        simp only[ValWp,execOp,Act.eval,e43,e44]
        go_simp
        all_goals exact hK'
       ·
        refine OwesS.w rfl fun a w u hC hl hs=>⟨rfl,fun K hK=>?_⟩
        have e45:a.tmps.getD 45 undef=.pointer (some ⟨wr.heap.size,3,none⟩):=hs.dep 7 _ rfl rfl
        have hw:=Lib.hid (HA1.out _ u w hC (by decide) (by decide))
        have q0:=HLT.out w hw.out
        refine wp_of_val ?_
        refine ValWp.pure (v:=.int .i64 8) (w':=w) (fun K' hK'=>?_) (hK _ _ rfl (H1.out _ _ w (by decide) (by decide) hw.out))
        simp only[ValWp,execOp,Act.eval,e45]
        go_simp
        all_goals exact hK'
       ·
        refine OwesS.w rfl fun a w u hC hl hs=>⟨rfl,fun K hK=>?_⟩
        have e42:a.tmps.getD 42 undef=.int .i64 (f:Int):=hs.dep 4 _ rfl rfl
        have e46:a.tmps.getD 46 undef=.int .i64 8:=hs.dep 8 _ rfl rfl
        have hw:=Lib.hid (HA1.out _ u w hC (by decide) (by decide))
        have q0:=H47.out
        refine wp_of_val ?_
        refine ValWp.pure (v:=.int .i64 (d:Int)) (w':=w) (fun K' hK'=>?_) (hK _ _ rfl (H1.out _ _ w (by decide) (by decide) hw.out))
        simp only[ValWp,execOp,Act.eval,e42,e46]
        go_simp
        all_goals exact hK'
       ·
        refine OwesS.w rfl fun a w u hC hl hs=>⟨rfl,fun K hK=>?_⟩
        have e47:a.tmps.getD 47 undef=.int .i64 (d:Int):=hs.dep 9 _ rfl rfl
        have hw:=Lib.hid (HA1.out _ u w hC (by decide) (by decide))
        have q0:=H48.out
        refine wp_of_val ?_
        refine ValWp.pure (v:=.int .i64 (r:Int)) (w':=w) (fun K' hK'=>?_) (hK _ _ rfl (H1.out _ _ w (by decide) (by decide) hw.out))
        simp only[ValWp,execOp,Act.eval,e47]
        go_simp
        all_goals exact hK'
       ·
        refine OwesS.w rfl fun a w u hC hl hs=>⟨rfl,fun K hK=>?_⟩
        have e48:a.tmps.getD 48 undef=.int .i64 (r:Int):=hs.dep 10 _ rfl rfl
        have hw:=Lib.hid (HA1.out _ u w hC (by decide) (by decide))
        have q0:=H49.out
        refine wp_of_val ?_
        refine ValWp.pure (v:=.bool on) (w':=w) (fun K' hK'=>?_) (hK _ _ rfl (H1.out _ _ w (by decide) (by decide) hw.out))
        simp only[ValWp,execOp,Act.eval,e48]
        go_simp
        all_goals exact hK'
       ·
        refine OwesS.w rfl fun a w u hC hl hs=>⟨rfl,fun K hK=>?_⟩
        have e38:a.tmps.getD 38 undef=.agg #[.slice va nv cv,.slice aA an ac,.int .i64 sI,.string fS]:=hs.dep 0 _ rfl rfl
        have e40:a.tmps.getD 40 undef=.int .u8 120:=hs.dep 2 _ rfl rfl
        have e49:a.tmps.getD 49 undef=.bool on:=hs.dep 11 _ rfl rfl
        have hw:=HA1.out _ u w hC (by decide) (by decide)
        refine wp_of_val ?_
        refine ValWp.call #[.agg #[.slice va nv cv,.slice aA an ac,.int .i64 sI,.string fS],.int .u8 120,.bool on] rfl rfl Tryz.func20 rfl rfl (by simp only[List.map_toArray,List.map_cons,List.map_nil,Act.eval,e38,e40,e49]) ?_
        refine(HFLG.out w hw).mono ?_
        rintro e w' ⟨⟨v,rfl,hf⟩,hl⟩
        exact⟨v,rfl,hK v w' trivial (H2.out w w' v hw hl hf)⟩
       ·
        refine OwesS.w rfl fun a w u hC hl hs=>⟨rfl,fun K hK=>?_⟩
        have e9:a.tmps.getD 9 undef=.pointer (some ⟨W.heap.size+1,0,none⟩):=hs.free 9 rfl
        have e50:a.tmps.getD 50 undef=u:=hl
        obtain⟨w9,hrun,h9⟩:=HST.out u w hC
        exact wp_of_val (ValWp.storeR rfl e9 e50 hrun (hK _ _ trivial h9))
      ·intro a w u hC hl hd hsz hfree hs
       obtain⟨u38,hu38⟩:∃ u,u=a.tmps.getD 38 undef:=⟨_,rfl⟩
       obtain⟨u39,hu39⟩:∃ u,u=a.tmps.getD 39 undef:=⟨_,rfl⟩
       obtain⟨u40,hu40⟩:∃ u,u=a.tmps.getD 40 undef:=⟨_,rfl⟩
       obtain⟨u41,hu41⟩:∃ u,u=a.tmps.getD 41 undef:=⟨_,rfl⟩
       obtain⟨u42,hu42⟩:∃ u,u=a.tmps.getD 42 undef:=⟨_,rfl⟩
       obtain⟨u43,hu43⟩:∃ u,u=a.tmps.getD 43 undef:=⟨_,rfl⟩
       obtain⟨u44,hu44⟩:∃ u,u=a.tmps.getD 44 undef:=⟨_,rfl⟩
       obtain⟨u45,hu45⟩:∃ u,u=a.tmps.getD 45 undef:=⟨_,rfl⟩
       obtain⟨u46,hu46⟩:∃ u,u=a.tmps.getD 46 undef:=⟨_,rfl⟩
       obtain⟨u47,hu47⟩:∃ u,u=a.tmps.getD 47 undef:=⟨_,rfl⟩
       obtain⟨u48,hu48⟩:∃ u,u=a.tmps.getD 48 undef:=⟨_,rfl⟩
       obtain⟨u49,hu49⟩:∃ u,u=a.tmps.getD 49 undef:=⟨_,rfl⟩
       obtain⟨u50,hu50⟩:∃ u,u=a.tmps.getD 50 undef:=⟨_,rfl⟩
       have hal:AllAt a 0 [_,_,_,_,_,_,_,_,_,_,_,_,_,_,_,_,_,_,_,_,_,_,_,_,_,_,_,_,_,_,_,_,_,_,_,_,_,_,u38,u39,u40,u41,u42,u43,u44,u45,u46,u47,u48,u49,u50,_]:=⟨hfree 0 rfl,hfree 1 rfl,hfree 2 rfl,hfree 3 rfl,hfree 4 rfl,hfree 5 rfl,hfree 6 rfl,hfree 7 rfl,hfree 8 rfl,hfree 9 rfl,hfree 10 rfl,hfree 11 rfl,hfree 12 rfl,hfree 13 rfl,hfree 14 rfl,hfree 15 rfl,hfree 16 rfl,hfree 17 rfl,hfree 18 rfl,hfree 19 rfl,hfree 20 rfl,hfree 21 rfl,hfree 22 rfl,hfree 23 rfl,hfree 24 rfl,hfree 25 rfl,hfree 26 rfl,hfree 27 rfl,hfree 28 rfl,hfree 29 rfl,hfree 30 rfl,hfree 31 rfl,hfree 32 rfl,hfree 33 rfl,hfree 34 rfl,hfree 35 rfl,hfree 36 rfl,hfree 37 rfl,hu38.symm,hu39.symm,hu40.symm,hu41.symm,hu42.symm,hu43.symm,hu44.symm,hu45.symm,hu46.symm,hu47.symm,hu48.symm,hu49.symm,hu50.symm,hfree 51 rfl,trivial⟩
       have hlit:=fun h=>act_lit hd h hal
       rw[hlit hsz]
       simp only[Array.getD_eq_getD_getElem?,List.getElem?_toArray,List.getElem?_cons_zero,List.getElem?_cons_succ,Option.getD_some]
       clear hlit hal hd hsz hfree hs hu38 hu39 hu40 hu41 hu42 hu43 hu44 hu45 hu46 hu47 hu48 hu49 hu50
       go_wp2
       go_roundw
       case rel=>exact⟨4,4,by first | rfl | go_num,rfl,by omega,Lib.hid (by rw[HE'.out];exact HZ.out _ _ hC)⟩
       case measure=>simp[intOf]
    ·have hk:k=4:=by omega
     subst hk
     subst hz
     have HEK:=Lib.hid (show ek=madeE l xs f st by rw[hek];unfold madeE;rw[HEV.out])
     have HO1:=Lib.hid (show (#[.slice va nv cv,.slice aA an ac,.int .i64 sI,.string fS]:Array Value).all (·.oneCell')=true by simp[Value.oneCell'])
     have HI2:=Lib.hid (show (Tryz.prog.info? 28).map (·.size)=some (#[.slice va nv cv,.slice aA an ac,.int .i64 sI,.string fS]:Array Value).size from(show (Tryz.prog.info? 28).map (·.size)=some 4 by kernel_rfl))
     clear hek hmd hbx hre hsI hfS hsb
     go_wp2_with (first
      |(refine wpList_loadO rfl 28 (.tmp 9) rfl (W.heap.size+1) #[.slice va nv cv,.slice aA an ac,.int .i64 sI,.string fS] _ rfl HBX.out Tryz.underlying28 rfl HI2.out ?_)
      |(refine wpList_storeO rfl 28 (.tmp 8) (.tmp 51) rfl W.heap.size _ #[.slice va nv cv,.slice aA an ac,.int .i64 sI,.string fS] rfl rfl HM.out.rs HI2.out rfl HO1.out ?_;intro w7 hb7 hg7 hz7;(have HB7:=Lib.hid hb7);(have HG7:=Lib.hid hg7);clear hb7 hg7 hz7))
     refine bodyPost_ret (En.results_Env rfl _ _ W.heap.size _ (0,0) rfl HB7.out rfl) rfl ?_
     have q9:=HSB.out w7 HG7.out.size (fun k h1 h2 h3=>HG7.out.block k h3 (fun e=>h1 (by injection e)))
     rw[HEK.out] at q9
     exact⟨⟨_,_,_,_,_,_,_,_,rfl,q9⟩,later_of_new HM.out.low HG7.out (Nat.le_refl _)⟩
end Ex
end Go.Proofs.YtipdgmjplnibeaaGreatDoor
namespace Go.Proofs.YtipdgmjplnibeaaGreatDoor
open Go.RowKit Go.Maps
set_option maxRecDepth 100000
namespace Ex
open Jo (ft fm rows)
open En (E Vs RdE RdP Vd Rises FrE efux)
theorem madeE_md {l:Vs} (hk:∀ p∈l,p.1.length≤20∧p.2.length≤30) (xs:List B) (f st:Nat):Md xs st l.length (madeE l xs f st):=by
 have h:=md_F (md_V hk xs st l.length (Nat.le_refl _)) f 4
 rw[List.take_of_length_le (Nat.le_refl _)] at h
 exact h
theorem madeE_fl (l:Vs) (xs:List B) (f st:Nat):(madeE l xs f st).flags.length≤4:=List.length_filter_le _ _
theorem sm_of {xs:List B} {st m:Nat} {e:E} (h:Md xs st m e) (hf:e.flags.length≤4) (hm:m≤1000) (hx:xs.length≤8) (hxs:∀ x∈xs,x.length≤30) (hst:st≤255):Sm e=true:=by
 unfold Sm
 rw[h.args,h.status]
 simp only[Bool.and_eq_true,decide_eq_true_eq,List.all_eq_true]
 have:=h.len
 exact⟨⟨⟨⟨⟨by omega,fun p hp=>by have:=h.vals p hp;omega⟩,by omega⟩,fun x hx'=>by have:=hxs x hx';omega⟩,by omega⟩,by omega⟩
theorem tail_len (c:UInt8):∀ l:List B,(∀ x∈l,x.length≤30)→(l.flatMap fun y=>(32,98)::pt y c).length≤32*l.length
 | [],_=>by simp
 | x::l,h=>by
  have h1:=tail_len c l (fun y hy=>h y (by simp[hy]))
  have h2:=pt_len x c
  have h3:=h x (by simp)
  rw[List.flatMap_cons,List.length_append,List.length_cons,List.length_cons]
  omega
theorem args_len (c:UInt8) (l:List B) (h:∀ x∈l,x.length≤30) (h8:l.length≤8):(args c l).length≤1000:=by
 cases l with
 | nil=>simp[args]
 | cons x l=>
  have h1:=tail_len c l (fun y hy=>h y (by simp[hy]))
  have h2:=pt_len x c
  have h3:=h x (by simp)
  simp only[List.length_cons] at h8
  show (pt x c++l.flatMap fun y=>(32,98)::pt y c).length≤_
  rw[List.length_append]
  omega
theorem parse_aq:Wd.parse [34,36,64,34]=([PX [64] true],0):=by kernel_rfl
theorem parse_ab:Wd.parse [36,64]=([PX [64] false],0):=by kernel_rfl
theorem parse_vq:Wd.parse [34,36,118,34]=([PX [118] true],0):=by kernel_rfl
theorem parse_vb:Wd.parse [36,118]=([PX [118] false],0):=by kernel_rfl
theorem word_args {e:E} {raw:B} {q:Bool} (hp:Wd.parse raw=([PX [64] q],0)) (hl:(args (lt q) e.args).length≤100000):word e raw=.ok (args (lt q) e.args) e:=by
 unfold word
 rw[hp]
 show (if (0:Nat)≠0 then _ else rowD 10 e [PX [64] q])=_
 rw[if_neg (by decide)]
 refine row_one ?_ hl
 show (if ([64]:B).length≤100000∧([]:B).length≤100000∧(([]:B).all fun x=>decide (x.toNat<128))=true then parF (rowD 9) e (PX [64] q) else .big)=_
 rw[if_pos ⟨by simp,by simp,rfl⟩]
 unfold parF
 rw[if_pos (show parted (PX [64] q)=true from rfl)]
 exact if_pos hl
theorem word_v {e:E} {raw v:B} {q:Bool} (hp:Wd.parse raw=([PX [118] q],0)) (hg:En.get Ar.nameB e [118]=(v,true)) (hv:v.length≤1000):word e raw=.ok (pt v (lt q)) e:=by
 unfold word
 rw[hp]
 show (if (0:Nat)≠0 then _ else rowD 10 e [PX [118] q])=_
 rw[if_neg (by decide)]
 refine row_one ?_ (by have:=pt_len v (lt q);omega)
 show (if ([118]:B).length≤100000∧([]:B).length≤100000∧(([]:B).all fun x=>decide (x.toNat<128))=true then parF (rowD 9) e (PX [118] q) else .big)=_
 rw[if_pos ⟨by simp,by simp,rfl⟩]
 rw[par_go (p:=PX [118] q) (n:=1) rfl hg (by simp) (by intro h;cases h) (show Pm.does [] v true=1 by unfold Pm.does Pm.col;rw[if_pos rfl];by_cases h:v=[] <;> simp[h] <;> rfl),if_pos rfl,if_neg (by intro h;rcases h with h | h <;> cases h)]
 unfold ptR
 rw[if_pos (by omega)]
 rfl
theorem word_single {e:E} {s:B} (h:(39:UInt8)∉s) (hs:s.length≤1000):word e ([39]++s++[39])=.ok (pt s 113) e:=by
 unfold word
 rw[Wd.parse_single h]
 show (if (0:Nat)≠0 then _ else rowD 10 e [.mk 2 s [] false []])=_
 rw[if_neg (by decide)]
 refine row_one ?_ (by have:=pt_len s 113;omega)
 show (if s.length≤100000∧([]:B).length≤100000∧(([]:B).all fun x=>decide (x.toNat<128))=true then _ else Res.big)=_
 rw[if_pos ⟨by omega,by simp,rfl⟩]
 rfl
theorem ft_all (x:B) (c:UInt8):ft (x.map fun y=>(y,c))=x:=by
 unfold ft
 rw[List.map_map]
 simp[Function.comp_def]
theorem ft_at {l:List B} {c:UInt8} (k:Nat) (h:k<(l.map fun x=>x.map fun y=>(y,c)).length):ft (l.map fun x=>x.map fun y=>(y,c))[k]=l.getD k []:=by
 have hk:k<l.length:=by simpa using h
 rw[List.getElem_map,ft_all,List.getD_eq_getElem?_getD,List.getElem?_eq_getElem hk]
 rfl
theorem split_pq (ifs s:B):Jo.split ifs (pt s 113)=[s].map fun x=>x.map fun y=>(y,113):=by rw[split_pt (.inl rfl),fields_quo]
theorem fields_aq {W:World} {e:E} (hg:Gw W) (hs:Sm e=true) (hu:Rises e.vars) (hx:∀ x∈e.args,x.length≤30) (h8:e.args.length≤8):FieldsTo W e e (mkS [34,36,64,34]) e.args.length fun k=>e.args.getD k []:=by
 have h:=FieldsTo.of (W:=W) (tx:=fun k=>e.args.getD k []) (word_args parse_aq (by have:=args_len (lt true) e.args hx h8;omega)) ((split_args (.inl rfl) e.args).trans (fields_quo e.args)) ft_at hg hs hu (by simp)
 rw[List.length_map] at h
 exact h
theorem fields_ab {W:World} {e:E} (hi:En.ifs e.vars=[]) (hg:Gw W) (hs:Sm e=true) (hu:Rises e.vars) (hx:∀ x∈e.args,x.length≤30) (h8:e.args.length≤8):FieldsTo W e e (mkS [36,64]) (e.args.filter fun x=>!x.isEmpty).length fun k=>(e.args.filter fun x=>!x.isEmpty).getD k []:=by
 have h:=FieldsTo.of (W:=W) (tx:=fun k=>(e.args.filter fun x=>!x.isEmpty).getD k []) (word_args parse_ab (by have:=args_len (lt false) e.args hx h8;omega)) ((split_args (.inr ⟨rfl,hi⟩) e.args).trans (fields_bare e.args)) ft_at hg hs hu (by simp)
 rw[List.length_map] at h
 exact h
theorem fields_single {W:World} {e:E} {s:B} (h39:(39:UInt8)∉s) (hl:s.length≤1000) (hg:Gw W) (hs:Sm e=true) (hu:Rises e.vars):FieldsTo W e e (mkS ([39]++s++[39])) 1 fun k=>[s].getD k []:=
 FieldsTo.of (W:=W) (tx:=fun k=>[s].getD k []) (word_single h39 hl) (split_pq (En.ifs e.vars) s) ft_at hg hs hu (by simp;omega)
theorem fields_vq {W:World} {e:E} {s:B} (hv:En.get Ar.nameB e [118]=(s,true)) (hl:s.length≤1000) (hg:Gw W) (hs:Sm e=true) (hu:Rises e.vars):FieldsTo W e e (mkS [34,36,118,34]) 1 fun k=>[s].getD k []:=
 FieldsTo.of (W:=W) (tx:=fun k=>[s].getD k []) (word_v parse_vq hv hl) (split_pq (En.ifs e.vars) s) ft_at hg hs hu (by simp)
theorem told_v {e:E} {s:B} (hv:En.get Ar.nameB e [118]=(s,true)) (hl:s.length≤1000):∃ r,word e [36,118]=.ok r e∧flat r=s:=⟨_,word_v parse_vb hv hl,flat_pt s (lt false) (by decide)⟩
theorem ifs_none (e:E):En.ifs (En.set Ar.nameB e En.IFS []).vars=[]:=by
 unfold En.ifs En.set
 rw[if_pos (show Ar.nameB En.IFS=true from rfl),En.var_set_self]
 rfl
theorem set_any {W:World} {va:Value} {e:E} (s v:B) (h:RdE W va e) (hu:Rises e.vars) (hl:e.vars.length≤1000) (ha:e.args.length≤1000) (hs:s.length≤1000):Calls Tryz.prog 14 #[va,.string (mkS s),.string (mkS v)] W fun x W'=>(∃ Av nv cv A na c st fl,x=.returned (.agg #[.slice Av nv cv,.slice A na c,.int .i64 st,.string fl])∧RdE W' (.agg #[.slice Av nv cv,.slice A na c,.int .i64 st,.string fl]) (En.set Ar.nameB e s v))∧Later W W':=by
 refine(En.set_v va e s v W h hu (by omega) (by omega) (by omega)).mono ?_
 rintro x w' ⟨⟨u,rfl,hf⟩,hl⟩
 obtain⟨Av,nv,cv,A,na,c,st,fl,rfl⟩:=rd_shape hf.rd
 exact⟨⟨Av,nv,cv,A,na,c,st,fl,rfl,hf.rd⟩,hl⟩
end Ex
end Go.Proofs.YtipdgmjplnibeaaGreatDoor
namespace Go.Proofs.YtipdgmjplnibeaaGreatDoor
open Go.RowKit Go.ChangeShapes Go.WideShapes Go.ChangeAt Go.Deep
namespace En
section
variable {H:Type} {enc:TypeId×Value→H} {P:Program} {w:World} {base:Nat} {spare:Nat→Bool} {held:Bool}
theorem bd_string {t:TypeId} {u:Value} {fuel:Nat} {y:DataW H×List MemPlace} (ht:P.underlying t=some .string) (h:DataW.trod enc P w base spare held fuel t [u]=some y):∃ s:ByteArray,u=.string s∧s.size≤maxLen:=by
 obtain⟨s,h1,_,h3⟩:=DataW.trod_string ht h
 exact⟨s,by simpa using h1,h3⟩
theorem bd_fields {t:TypeId} {fs:Array Field} {cs:List Value} {fuel:Nat} {y:DataW H×List MemPlace} (hs:P.underlying t=some (.struct fs)) (hone:oneCellFields P fs=true)
  (h:DataW.trod enc P w base spare held fuel t cs=some y) :
  ∃ fuel,∀ (i:Nat) (f:Field) (u:Value),fs[i]?=some f→cs[i]?=some u→∃ y,DataW.trod enc P w base spare held fuel f.type [u]=some y:=by
 obtain⟨xs,n,_,_,_,hxl,hat⟩:=DataW.trod_struct hs h
 refine⟨n,fun i f u hi hu=>?_⟩
 obtain⟨ho,hk⟩:=hone_of hone i f hi
 have h1:=hat i f hi
 rw[ho,hk] at h1
 have hil:i<cs.length:=(List.getElem?_eq_some_iff.1 hu).1
 have hu':cs[i]'hil=u:=(List.getElem?_eq_some_iff.1 hu).2
 have e:(cs.drop i).take 1=[u]:=by rw[List.drop_eq_getElem_cons hil,List.take_succ_cons,List.take_zero,hu']
 have hix:i<xs.length:=by rw[hxl];exact(Array.getElem?_eq_some_iff.1 hi).1
 exact⟨_,(by rw[←e];exact h1.trans (List.getElem?_eq_getElem hix))⟩
theorem bd_0 (a:Addr):a.add 0=a:=by unfold Addr.add;rw[if_pos rfl]
theorem bd_add (b o k:Nat):(⟨b,o,none⟩:Addr).add k=⟨b,o+k,none⟩:=by unfold Addr.add;split <;> simp_all
theorem bd_mk (s:ByteArray):∃ l,s=mkS l∧l.length=s.size:=⟨s.data.toList,(mkS_of s).symm,rfl⟩
theorem rd_binds {t e ts:TypeId} {fs:Array Field} {a:Option Addr} {len cap:Nat} {d:DataW H} {p:List MemPlace} (ht:P.underlying t=some (.slice e)) (he:P.underlying e=some (.struct fs)) (hone:oneCellFields P fs=true) (hC:P.cellsOf e=2)
  (hty:fs.toList.map (·.type)=[ts,ts]) (h2:P.underlying ts=some .string)
  (h:DataW.Trod enc P w base spare held t (.slice a len cap) d p):∃ xs:Vs,RdP w w.heap.size (.slice a len cap) xs∧xs.length=len∧len≤cap∧cap≤maxLen:=by
 obtain⟨fuel,hf⟩:=h
 rcases open_slice ht hf with⟨hcs,_⟩ | ⟨ad,l,c,m,n,D,Pl,hcs,_,hl,hm,hmm,_,hx⟩
 ·simp[Value.cells] at hcs
  obtain⟨rfl,rfl,rfl⟩:=hcs
  exact⟨[],RdP.nil _ _,rfl,Nat.le_refl _,by simp[maxLen]⟩
 simp[Value.cells] at hcs
 obtain⟨rfl,rfl,rfl⟩:=hcs
 have hlm:len≤m:=by rw[hmm];split <;> omega
 have hfs:∀ i,i<2→∃ f,fs[i]?=some f∧some f.type=[ts,ts][i]?:=by
  intro i hi
  have hlen:fs.toList.length=2:=by have:=congrArg List.length hty;simpa using this
  have hi':i<fs.size:=by simpa using (show i<fs.toList.length by omega)
  refine⟨fs[i],Array.getElem?_eq_getElem hi',?_⟩
  rw[←hty,List.getElem?_map]
  simp[Array.getElem?_toList,Array.getElem?_eq_getElem hi']
 have each:∀ i,i<len→∃ z:B×B,(ad.block<w.heap.size∧ad.spot=none∧w.cell? ⟨ad.block,ad.off+i*2,none⟩=some (.string (mkS z.1))∧w.cell? ⟨ad.block,ad.off+i*2+1,none⟩=some (.string (mkS z.2)))∧True:=by
  intro i hi
  obtain⟨cs,hc1,hc2⟩:=hx i (by omega)
  rw[hC] at hc1
  obtain⟨_,hlen,hcell⟩:=World.cells?_some hc1
  obtain⟨fu,hfu⟩:=bd_fields he hone hc2
  have hsp:ad.spot=none:=by
   obtain⟨cs0,hc0,_⟩:=hx 0 (by omega)
   rw[hC] at hc0
   obtain⟨_,hlen0,hcell0⟩:=World.cells?_some hc0
   match cs0,hlen0 with
   | [u0,u1],_=>
    have c0:=hcell0 0 (by omega)
    rw[Nat.zero_mul,bd_0,bd_0] at c0
    exact World.cell?_spot c0
  obtain⟨bk,o,sp⟩:=ad
  simp only at hsp
  subst hsp
  have e0:((⟨bk,o,none⟩:Addr).add (i*2)).add 0=⟨bk,o+i*2,none⟩:=by rw[bd_add,bd_add];rfl
  have e1:((⟨bk,o,none⟩:Addr).add (i*2)).add 1=⟨bk,o+i*2+1,none⟩:=by rw[bd_add,bd_add]
  match cs,hlen with
  | [u0,u1],_=>
   obtain⟨f0,g0,k0⟩:=hfs 0 (by omega)
   obtain⟨f1,g1,k1⟩:=hfs 1 (by omega)
   obtain⟨y0,z0⟩:=hfu 0 f0 u0 g0 rfl
   obtain⟨y1,z1⟩:=hfu 1 f1 u1 g1 rfl
   have c0:=hcell 0 (by omega)
   have c1:=hcell 1 (by omega)
   rw[e0] at c0
   rw[e1] at c1
   rw[Option.some.inj k0] at z0
   rw[Option.some.inj k1] at z1
   obtain⟨s1,rfl,_⟩:=bd_string h2 z0
   obtain⟨s2,rfl,_⟩:=bd_string h2 z1
   obtain⟨t1,rfl,l1⟩:=bd_mk s1
   obtain⟨t2,rfl,l2⟩:=bd_mk s2
   have hlow:=World.block_lt_of_cell? w _ c0
   exact⟨⟨t1,t2⟩,⟨hlow,rfl,c0,c1⟩,trivial⟩
 obtain⟨F,hF⟩:=choose_lt each
 have hlen:((List.range len).map F).length=len:=by simp
 refine⟨(List.range len).map F,⟨⟨some ad,cap,by rw[hlen],by rw[hlen];exact hl,by simpa [maxLen] using hm,by intro h;cases h⟩,fun h0=>?_⟩,hlen,hl,hm⟩
 rw[hlen] at h0
 have hs:=(hF 0 h0).1.2.1
 obtain⟨bk,o,sp⟩:=ad
 simp only at hs
 subst hs
 refine⟨bk,o,cap,by rw[hlen],(hF 0 h0).1.1,fun k hk=>?_⟩
 rw[hlen] at hk
 simp only[List.getElem_map,List.getElem_range]
 exact(hF k hk).1.2.2
end
end En
end Go.Proofs.YtipdgmjplnibeaaGreatDoor
