import Derived.Test.YtipdgmjplnibeaaGreatDoorG19
import Derived.BigQuiet
import Derived.Test.YtipdgmjplnibeaaGreatDoorG09
import Derived.Test.YtipdgmjplnibeaaGreatDoorXda
import Derived.Test.YtipdgmjplnibeaaGreatDoorG49
import Derived.Test.YtipdgmjplnibeaaGreatDoorG25
import Derived.Test.YtipdgmjplnibeaaGreatDoorG23
import Derived.Test.YtipdgmjplnibeaaGreatDoorAL
import Derived.Deep.Slices
import Derived.Deep.Fields
import Derived.ChangeArms
set_option maxRecDepth 100000
set_option maxHeartbeats 25600000
namespace Go.Proofs.YtipdgmjplnibeaaGreatDoor
open Go.RowKit Go.Maps
set_option maxRecDepth 100000
namespace Ex
open En (RdP Vs)
abbrev B':=List UInt8
def fewOne (p:B'×B'):Bool:=decide (p.1.length≤20) && decide (p.2.length≤30)
def fewB (l:Vs) (xs:List B'):Bool:=l.all fewOne && xs.all (fun x=>decide (x.length≤30)) && decide (l.length≤12) && decide (xs.length≤8)
theorem few_at {l:Vs} {xs:List B'} (h:fewB l xs=true):(∀ p∈l,p.1.length≤20∧p.2.length≤30)∧(∀ x∈xs,x.length≤30)∧l.length≤12∧xs.length≤8:=by
 unfold fewB fewOne at h
 simp only[Bool.and_eq_true,List.all_eq_true,decide_eq_true_eq] at h
 exact⟨h.1.1.1,h.1.1.2,h.1.2,h.2⟩
theorem few_v (v:Value) (l:Vs) (A:Option Addr) (n c:Nat) (xs:List B') (W:World) (h:RdP W W.heap.size v l) (ha:Rd W W.heap.size A n (xs.map fun x=>.string (mkS x))) (hn:n≤9223372036854775807):Calls Tryz.prog 10 #[v,.slice A n c,.string ⟨#[]⟩] W fun x W'=>x=.returned (.bool (fewB l xs))∧Later W W':=by
 obtain⟨A0,c0,rfl,hc1,hc2,_⟩:=h.le
 have HR:=Lib.hid h
 have HA:=Lib.hid ha
 have hla:xs.length=n:=by have:=ha.1;rw[List.length_map] at this;exact this
 have HLA:=Lib.hid hla
 obtain⟨n0,hn0⟩:∃ n0,n0=l.length:=⟨_,rfl⟩
 rw[←hn0]
 have hb0:n0≤9223372036854775807:=by omega
 have HN:=Lib.hid hn0
 clear h ha hla hc1 hc2 hn0
 go_enter Tryz.func10,Tryz.ntmps10
 go_wp2_with fail
 go_loopw [7] (fun s3 wr=>∃ i:Nat,s3=.int .i64 (i:Int)∧i≤n0∧(∀ x∈l.take i,fewOne x=true)∧wr=W) (fun i _=>n0-(intOf i).toNat)
 case atStart=>exact⟨0,rfl,Nat.zero_le _,by simp,rfl⟩
 case round=>
  obtain⟨i,rfl,hi,hno,hw⟩:=hrel
  have hw:=hw.symm
  subst hw
  have HNO:=Lib.hid hno
  clear hno
  have hi0:(0:Int)≤(i:Int):=by omega
  by_cases hlt:i<n0
  ·have hi1:(i:Int)<(n0:Int):=by omega
   have hil:i<l.length:=by rw[←HN.out];exact hlt
   obtain⟨g,o,c1,e1,hgb,hcs⟩:=HR.out.at_ (by omega)
   injection e1 with e1 e2 e3
   subst e1
   obtain⟨x,hx⟩:∃ x,x=l[i]:=⟨_,rfl⟩
   have hcx:=hcs i hil
   rw[←hx] at hcx
   obtain⟨p1,p2⟩:=hcx
   have z1:((mkS x.1).size:Int)=(x.1.length:Int):=by rw[mkS_size]
   have z2:((mkS x.2).size:Int)=(x.2.length:Int):=by rw[mkS_size]
   have HTK:=Lib.hid (show l.take (i+1)=l.take i++[x] by rw[hx];exact List.take_succ_eq_append_getElem hil)
   have HX:=Lib.hid (show x∈l by rw[hx];exact List.getElem_mem hil)
   clear hcs hgb hx hil e2 e3
   by_cases g1:x.1.length≤20
   ·have k1:¬ (20:Int)<(x.1.length:Int):=by omega
    by_cases g2:x.2.length≤30
    ·have k2:¬ (30:Int)<(x.2.length:Int):=by omega
     have HF:=Lib.hid (show fewOne x=true by unfold fewOne;rw[decide_eq_true g1,decide_eq_true g2];rfl)
     go_wp2
     go_roundw
     case rel=>
      refine⟨i+1,by go_num,by omega,?_,trivial⟩
      intro y hy
      rw[HTK.out] at hy
      rcases List.mem_append.1 hy with hy | hy
      ·exact HNO.out y hy
      ·rw[List.mem_singleton.1 hy];exact HF.out
     case measure=>simp[intOf];omega
    ·have k2:(30:Int)<(x.2.length:Int):=by omega
     have HF:=Lib.hid (show fewB l xs=false by
      rw[←Bool.not_eq_true]
      intro h
      exact g2 ((few_at h).1 x HX.out).2)
     go_wp2
     go_ret
     exact⟨by rw[HF.out];rfl,Later.refl _⟩
   ·have k1:(20:Int)<(x.1.length:Int):=by omega
    have HF:=Lib.hid (show fewB l xs=false by
     rw[←Bool.not_eq_true]
     intro h
     exact g1 ((few_at h).1 x HX.out).1)
    go_wp2
    go_ret
    exact⟨by rw[HF.out];rfl,Later.refl _⟩
  ·have hie:¬ (i:Int)<(n0:Int):=by omega
   have HALL:=Lib.hid (show l.all fewOne=true by
    have h:=HNO.out
    rw[List.take_of_length_le (by rw[←HN.out];omega)] at h
    rw[List.all_eq_true]
    exact h)
   clear hlt
   go_wp2_with fail
   go_loopw [8] (fun s3 wr=>∃ j:Nat,s3=.int .i64 (j:Int)∧j≤n∧(∀ x∈xs.take j,x.length≤30)∧wr=W) (fun i _=>n-(intOf i).toNat)
   case atStart=>exact⟨0,rfl,Nat.zero_le _,by simp,rfl⟩
   case round=>
    obtain⟨j,rfl,hj,hno,hw⟩:=hrel
    have hw:=hw.symm
    subst hw
    have HNJ:=Lib.hid hno
    clear hno
    have hj0:(0:Int)≤(j:Int):=by omega
    by_cases hlt:j<n
    ·have hj1:(j:Int)<(n:Int):=by omega
     obtain⟨ad,hjl,rfl,_,hc⟩:=HA.out.at_map hlt
     obtain⟨x,hx⟩:∃ x,x=xs[j]:=⟨_,rfl⟩
     rw[←hx] at hc
     have z1:((mkS x).size:Int)=(x.length:Int):=by rw[mkS_size]
     have HTK:=Lib.hid (show xs.take (j+1)=xs.take j++[x] by rw[hx];exact List.take_succ_eq_append_getElem hjl)
     have HX:=Lib.hid (show x∈xs by rw[hx];exact List.getElem_mem hjl)
     clear hx hjl
     by_cases g1:x.length≤30
     ·have k1:¬ (30:Int)<(x.length:Int):=by omega
      go_wp2
      go_roundw
      case rel=>
       refine⟨j+1,by go_num,by omega,?_,trivial⟩
       intro y hy
       rw[HTK.out] at hy
       rcases List.mem_append.1 hy with hy | hy
       ·exact HNJ.out y hy
       ·rw[List.mem_singleton.1 hy];exact g1
      case measure=>simp[intOf];omega
     ·have k1:(30:Int)<(x.length:Int):=by omega
      have HF:=Lib.hid (show fewB l xs=false by
       rw[←Bool.not_eq_true]
       intro h
       exact g1 ((few_at h).2.1 x HX.out))
      go_wp2
      go_ret
      exact⟨by rw[HF.out];rfl,Later.refl _⟩
    ·have hje:¬ (j:Int)<(n:Int):=by omega
     have HALA:=Lib.hid (show xs.all (fun x=>decide (x.length≤30))=true by
      have h:=HNJ.out
      rw[List.take_of_length_le (by rw[HLA.out];omega)] at h
      rw[List.all_eq_true]
      intro x hx
      exact decide_eq_true (h x hx))
     have HF:=Lib.hid (show fewB l xs=(decide (n0≤12) && decide (n≤8)) by
      unfold fewB
      rw[HALL.out,HALA.out,HN.out,HLA.out]
      rfl)
     clear hlt
     go_wp2_with fail
     go_loopw [9,10] (fun a b wr=>a=.int .i64 0∧b=.int .i64 0∧wr=W) (fun _ _ _=>0)
     case atStart=>exact⟨rfl,rfl,rfl⟩
     case round=>
      obtain⟨rfl,rfl,hw⟩:=hrel
      have hw:=hw.symm
      subst hw
      by_cases q1:n0≤12
      ·have r1:(n0:Int)≤12:=by omega
       by_cases q2:n≤8
       ·have r2:(n:Int)≤8:=by omega
        go_wp2
        go_ret
        exact⟨by rw[HF.out,decide_eq_true q1,decide_eq_true q2];rfl,Later.refl _⟩
       ·have r2:¬ (n:Int)≤8:=by omega
        go_wp2
        go_ret
        exact⟨by rw[HF.out,decide_eq_true q1,decide_eq_false q2];rfl,Later.refl _⟩
      ·have r1:¬ (n0:Int)≤12:=by omega
       go_wp2
       go_ret
       exact⟨by rw[HF.out,decide_eq_false q1];rfl,Later.refl _⟩
end Ex
end Go.Proofs.YtipdgmjplnibeaaGreatDoor
namespace Go.Proofs.YtipdgmjplnibeaaGreatDoor
set_option maxRecDepth 100000
namespace Ex
open Jo (Q sepB)
theorem fold_plain {ifs:B}:∀ (r:Rw) (σ:Q),(∀ p∈r,sepB ifs p=false∧(p.2==98)=false)→r≠[]→r.foldl (Jo.step ifs) σ=⟨σ.out,σ.now++solid r,true,false⟩
 | [],_,_,h=>absurd rfl h
 | p::l,σ,h,_=>by
  have hp:=h p (by simp)
  have h1:Jo.step ifs σ p=⟨σ.out,σ.now++solid [p],true,false⟩:=by
   unfold Jo.step solid
   rw[hp.1,hp.2,if_neg Bool.false_ne_true,if_neg Bool.false_ne_true]
   cases h101:(p.2==101) with
   | true=>simp[h101]
   | false=>simp[h101]
  rw[List.foldl_cons,h1]
  by_cases hl:l=[]
  ·subst hl;rfl
  ·rw[fold_plain l _ (fun q hq=>h q (by simp[hq])) hl]
   have:solid (p::l)=solid [p]++solid l:=by unfold solid;rw[←List.filter_append];rfl
   rw[this,List.append_assoc]
def Kp (ifs:B) (c:UInt8):Prop:=c=113∨(c=115∧ifs=[])
theorem Kp.pt {ifs:B} {c:UInt8} (h:Kp ifs c) (x:B):∀ p∈pt x c,sepB ifs p=false∧(p.2==98)=false:=by
 intro p hp
 have h2:p.2=c∨p.2=101:=by
  unfold Ex.pt at hp
  split at hp
  ·rw[List.mem_singleton.1 hp];exact .inr rfl
  ·obtain⟨y,_,rfl⟩:=List.mem_map.1 hp;exact .inl rfl
 unfold Jo.sepB
 rcases h with rfl | ⟨rfl,rfl⟩
 ·rcases h2 with e | e <;> rw[e] <;> exact⟨rfl,rfl⟩
 ·rcases h2 with e | e <;> rw[e] <;> exact⟨by simp,rfl⟩
theorem Kp.ne {ifs:B} {c:UInt8} (h:Kp ifs c):c≠101:=by rcases h with rfl | ⟨rfl,_⟩ <;> decide
theorem pt_solid (t:B) {c:UInt8} (hc:c≠101):solid (pt t c)=t.map fun x=>(x,c):=by
 unfold solid pt
 split
 ·rename_i h;rw[h.1];rfl
 ·rw[List.filter_eq_self]
  intro a ha
  obtain⟨x,_,rfl⟩:=List.mem_map.1 ha
  simp[hc]
def fieldsOf (c:UInt8) (l:List B):List Rw:=(l.filter fun x=>!(pt x c).isEmpty).map fun x=>x.map fun y=>(y,c)
theorem fin_pt {ifs:B} {c:UInt8} (h:Kp ifs c) (x:B) (out:List Rw) (k:Bool):Jo.fin ((pt x c).foldl (Jo.step ifs) ⟨out,[],false,k⟩)=out++fieldsOf c [x]:=by
 unfold fieldsOf
 by_cases he:pt x c=[]
 ·rw[he];simp[he,Jo.fin]
 ·rw[fold_plain _ _ (h.pt x) he]
  have:(pt x c).isEmpty=false:=by rw[List.isEmpty_eq_false_iff];exact he
  simp[Jo.fin,this,pt_solid x h.ne]
theorem fields_cons (c:UInt8) (x:B) (l:List B):fieldsOf c (x::l)=fieldsOf c [x]++fieldsOf c l:=by
 unfold fieldsOf
 rw[←List.map_append,←List.filter_append]
 rfl
theorem fold_args {ifs:B} {c:UInt8} (h:Kp ifs c):∀ (l:List B) (σ:Q),Jo.fin ((l.flatMap fun y=>(32,98)::pt y c).foldl (Jo.step ifs) σ)=Jo.fin σ++fieldsOf c l
 | [],σ=>by simp[fieldsOf]
 | y::l,σ=>by
  have hb:Jo.step ifs σ (32,98)=⟨Jo.fin σ,[],false,false⟩:=by
   have:sepB ifs (32,98)=false:=by unfold Jo.sepB;rfl
   unfold Jo.step
   rw[this,if_neg Bool.false_ne_true,if_pos (by decide)]
   rfl
  rw[List.flatMap_cons,List.cons_append,List.foldl_cons,hb,List.foldl_append,fold_args h l,fin_pt h,fields_cons c y l,List.append_assoc]
theorem split_args {ifs:B} {c:UInt8} (h:Kp ifs c) (l:List B):Jo.split ifs (args c l)=fieldsOf c l:=by
 unfold Jo.split Jo.run
 cases l with
 | nil=>rfl
 | cons x l=>
  show Jo.fin ((pt x c++l.flatMap fun y=>(32,98)::pt y c).foldl (Jo.step ifs) Jo.init)=_
  rw[List.foldl_append,fold_args h l]
  unfold Jo.init
  rw[fin_pt h,fields_cons c x l]
  rfl
theorem split_pt {ifs:B} {c:UInt8} (h:Kp ifs c) (x:B):Jo.split ifs (pt x c)=fieldsOf c [x]:=by
 unfold Jo.split Jo.run Jo.init
 rw[fin_pt h]
 rfl
theorem fields_quo (l:List B):fieldsOf 113 l=l.map fun x=>x.map fun y=>(y,113):=by
 unfold fieldsOf
 rw[List.filter_eq_self.2 ?_]
 intro x _
 unfold pt
 split
 ·rfl
 ·rename_i hx
  cases x with
  | nil=>exact absurd ⟨rfl,rfl⟩ hx
  | cons a t=>rfl
theorem fields_bare (l:List B):fieldsOf 115 l=(l.filter fun x=>!x.isEmpty).map fun x=>x.map fun y=>(y,115):=by
 unfold fieldsOf
 congr 1
 refine List.filter_congr fun x _=>?_
 unfold pt
 rw[if_neg (by rintro⟨_,h⟩;exact absurd h (by decide))]
 cases x <;> rfl
end Ex
end Go.Proofs.YtipdgmjplnibeaaGreatDoor
namespace Go.Proofs.YtipdgmjplnibeaaGreatDoor
open Go.RowKit Go.Maps
set_option maxRecDepth 100000
namespace Ex
open Jo (ft fm rows)
open En (E RdE RdP Vd Rises FrE)
abbrev FieldsTo (W:World) (e e2:E) (raw:ByteArray) (n:Nat) (tx:Nat→B):Prop:=∀ w va,Later W w→RdE w va e→Calls Tryz.prog 12 #[va,.string raw] w fun x W'=>(∃ Bu cu Av nv cv A na c st fl,x=.returned (.tuple #[.slice Bu n cu,.agg #[.slice Av nv cv,.slice A na c,.int .i64 st,.string fl],.agg #[.int .i64 0,.string ⟨#[]⟩]])∧(0<n→∃ bu,Bu=some ⟨bu,0,none⟩∧∀ k,k<n→W'.cell? ⟨bu,k*2,none⟩=some (.string (mkS (tx k))))∧RdE W' (.agg #[.slice Av nv cv,.slice A na c,.int .i64 st,.string fl]) e2)∧Later w W'
theorem FieldsTo.of {W:World} {e e2:E} {raw:B} {r:Rw} {F:List Rw} {tx:Nat→B} (hw:word e raw=.ok r e2) (hF:Jo.split (En.ifs e2.vars) r=F) (ht:∀ k (h:k<F.length),ft F[k]=tx k) (hg:Gw W) (hs:Sm e=true) (hu:Rises e.vars) (hr:raw.length≤100000):FieldsTo W e e2 (mkS raw) F.length tx:=by
 intro w va hl h
 refine(fields_ok hw h (hg.later hl) hs hu hr).mono ?_
 rintro x w' ⟨⟨u,v,rfl,ho,hf⟩,hl'⟩
 rw[hF] at ho
 have hr:=hf.rd
 obtain⟨Av,nv,cv,A,na,c,st,fl,rfl⟩:=rd_shape hr
 obtain⟨Bu,cu,rfl,_⟩:=own_any ho
 refine⟨⟨Bu,cu,Av,nv,cv,A,na,c,st,fl,rfl,fun h0=>?_,hr⟩,hl'⟩
 obtain⟨g,c',e',_,hc⟩:=(Jo.RdR.of_own ho).at_ (by simpa using h0)
 injection e' with e1
 refine⟨g,e1,fun k hk=>?_⟩
 have h1:=(hc k (by simpa using hk)).1
 rw[List.getElem_map] at h1
 rw[←ht k hk]
 exact h1
end Ex
end Go.Proofs.YtipdgmjplnibeaaGreatDoor
namespace Go.Proofs.YtipdgmjplnibeaaGreatDoor
open Go.RowKit Go.Maps
set_option maxRecDepth 100000
theorem ValWp.storeR {P:Program} {o:Oper} {ρ:Operand→Value} {w w':World} {K:Value→World→Prop} {ty:TypeId} {x y:Operand} {p v:Value} (ho:o.op=.store ty x y) (hx:ρ x=p) (hy:ρ y=v) (hr:(Instr.storeAt ty p v).run P w=.ok () w') (hk:K undef w'):ValWp P o ρ w K:=by
 unfold ValWp execOp
 simp only[ho,hx,hy,Sem.run_bind,hr,Result.andThen_ok,Sem.run_pure]
 exact hk
namespace Ex
open En (E Vs RdE RdP Vd Rises FrE efux)
def madeV (l:Vs) (e:E):E:=l.foldl (fun e p=>En.set Ar.nameB e p.1 p.2) e
def bitB (f k:Nat):Bool:=decide (f / 2 ^ k % 2=1)
def madeF (f:Nat) (e:E):Nat→E
 | 0=>e
 | k+1=>{ madeF f e k with flags:=En.flag (madeF f e k).flags (efux.getD k 0) (bitB f k) }
def madeE (l:Vs) (xs:List B) (f st:Nat):E:=madeF f (madeV l ⟨[],xs,st,[]⟩) 4
theorem madeV_step {l:Vs} {i:Nat} (h:i<l.length) (e:E):madeV (l.take (i+1)) e=En.set Ar.nameB (madeV (l.take i) e) l[i].1 l[i].2:=by
 unfold madeV
 rw[List.take_succ_eq_append_getElem h,List.foldl_append]
 rfl
theorem set_len' (e:E) (s y:B):(En.set Ar.nameB e s y).vars.length≤e.vars.length+1:=by
 unfold En.set
 split
 ·show (En.setV e.vars s y).length≤_
  unfold En.setV
  rw[En.put_len]
  exact Nat.succ_le_succ (List.length_filter_le _ _)
 ·omega
theorem set_keep (e:E) (s y:B):(En.set Ar.nameB e s y).args=e.args∧(En.set Ar.nameB e s y).status=e.status∧(En.set Ar.nameB e s y).flags=e.flags:=by unfold En.set;split <;> exact⟨rfl,rfl,rfl⟩
theorem set_up {e:E} (h:Rises e.vars) (s y:B):Rises (En.set Ar.nameB e s y).vars:=by
 unfold En.set
 split
 ·exact h.setV s y
 ·exact h
structure Md (xs:List B) (st m:Nat) (e:E):Prop where
 up:Rises e.vars
 len:e.vars.length≤m
 args:e.args=xs
 status:e.status=st
 vals:∀ p∈e.vars,p.2.length≤1000
theorem set_vals {e:E} {s y:B} {m:Nat} (h:∀ p∈e.vars,p.2.length≤m) (hy:y.length≤m):∀ p∈(En.set Ar.nameB e s y).vars,p.2.length≤m:=by
 unfold En.set
 split
 ·intro p hp
  have hp:p∈En.put (En.unset e.vars s) s y:=hp
  rcases En.mem_put.1 hp with rfl | hp
  ·exact hy
  ·exact h p (En.mem_unset.1 hp).1
 ·exact h
theorem Md.zero (xs:List B) (st:Nat):Md xs st 0 ⟨[],xs,st,[]⟩:=⟨Rises.nil,Nat.le_refl _,rfl,rfl,nofun⟩
theorem Md.set {xs:List B} {st m:Nat} {e:E} (h:Md xs st m e) {s y:B} (hy:y.length≤1000):Md xs st (m+1) (En.set Ar.nameB e s y):=
 ⟨set_up h.up s y,Nat.le_trans (set_len' e s y) (Nat.succ_le_succ h.len),(set_keep e s y).1.trans h.args,(set_keep e s y).2.1.trans h.status,set_vals h.vals hy⟩
theorem Md.flag {xs:List B} {st m:Nat} {e:E} (h:Md xs st m e) (fl:B):Md xs st m { e with flags:=fl }:=⟨h.up,h.len,h.args,h.status,h.vals⟩
theorem Md.more {xs:List B} {st m n:Nat} {e:E} (h:Md xs st m e) (hmn:m≤n):Md xs st n e:=⟨h.up,Nat.le_trans h.len hmn,h.args,h.status,h.vals⟩
theorem md_V {l:Vs} (hk:∀ p∈l,p.1.length≤20∧p.2.length≤30) (xs:List B) (st:Nat):∀ i,i≤l.length→Md xs st i (madeV (l.take i) ⟨[],xs,st,[]⟩)
 | 0,_=>Md.zero xs st
 | i+1,h=>by
  rw[madeV_step (by omega)]
  have hd:=hk _ (List.getElem_mem (show i<l.length by omega))
  exact(md_V hk xs st i (by omega)).set (by omega)
theorem md_F {xs:List B} {st m:Nat} {e:E} (h:Md xs st m e) (f:Nat):∀ k,Md xs st m (madeF f e k)
 | 0=>h
 | k+1=>(md_F h f k).flag _
structure Mk (W wr:World) (e:E):Prop where
 bx:∃ va nv cv A n c,wr.heap[W.heap.size+1]?=some (.cells #[.slice va nv cv,.slice A n c,.int .i64 (e.status:Int),.string (mkS e.flags)] 28 (0,0))∧RdE wr (.agg #[.slice va nv cv,.slice A n c,.int .i64 (e.status:Int),.string (mkS e.flags)]) e∧∀ w':World,wr.heap.size≤w'.heap.size→(∀ k,k≠W.heap.size→k≠W.heap.size+1→k<wr.heap.size→w'.heap[k]?=wr.heap[k]?)→RdE w' (.agg #[.slice va nv cv,.slice A n c,.int .i64 (e.status:Int),.string (mkS e.flags)]) e
 rs:wr.heap[W.heap.size]?=some (.cells #[.slice none 0 0,.slice none 0 0,.int .i64 0,.string ⟨#[]⟩] 28 (0,0))
 low:Later W wr
theorem rd_shape' {W:World} {va:Value} {e:E} (h:RdE W va e):∃ Av nv cv A na c,va=.agg #[.slice Av nv cv,.slice A na c,.int .i64 (e.status:Int),.string (mkS e.flags)]:=by
 obtain⟨v0,A,n,c,rfl,hv,_⟩:=h
 obtain⟨Av,cv,rfl,_⟩:=hv.le
 exact⟨_,_,_,_,_,_,rfl⟩
theorem Mk.store {W wr w:World} {e e':E} {u:Value} {base:Nat} (h:Mk W wr e) (hl:Later wr w) (hb:W.heap.size+1<base) (hf:FrE base w u e'):∃ w9,(Instr.storeAt 28 (.pointer (some ⟨W.heap.size+1,0,none⟩)) u).run Tryz.prog w=.ok () w9∧Mk W w9 e':=by
 obtain⟨va,nv,cv,A,n,c,h1,_,_⟩:=h.bx
 obtain⟨Av,nv',cv',A',na,c',rfl⟩:=rd_shape' hf.rd
 have h2:=later_cells hl h1
 have hr:(Instr.storeAt 28 (.pointer (some ⟨W.heap.size+1,0,none⟩)) (.agg #[.slice Av nv' cv',.slice A' na c',.int .i64 (e'.status:Int),.string (mkS e'.flags)])).run Tryz.prog w=.ok () (w.setRow (W.heap.size+1) #[.slice Av nv' cv',.slice A' na c',.int .i64 (e'.status:Int),.string (mkS e'.flags)]):=by
  simp only[Instr.storeAt,Instr.sureAddr,Sem.run_bind,Sem.run_pure,Result.andThen]
  exact run_storeVar_row _ _ 28 28 _ _ h2 (show (Tryz.prog.info? 28).map (·.size)=some 4 by kernel_rfl) rfl (by simp[Value.oneCell'])
 have hg:w.grownBy (w.setRow (W.heap.size+1) #[.slice Av nv' cv',.slice A' na c',.int .i64 (e'.status:Int),.string (mkS e'.flags)]) (some (W.heap.size+1)):=⟨rfl,rfl,rfl,by simp,fun k _ hk=>setRow_other w _ k _ (fun e=>hk (by rw[e]))⟩
 refine⟨_,hr,⟨_,_,_,_,_,_,setRow_heap w _ _ _ _ (0,0) h2,(hf.set hg hb).rd,fun w' h1 h2=>(hf.set hg hb) w' h1 fun k hk hk2=>h2 k (by omega) (by omega) hk2⟩,grown_cells hg (later_cells hl h.rs) (by omega),later_of_new (h.low.trans hl) hg (by omega)⟩
theorem load_envE {w:World} {b:Nat} {cs:Array Value} (h:w.heap[b]?=some (.cells cs 28 (0,0))) (hs:cs.size=4):(Instr.loadAt 28 (.pointer (some ⟨b,0,none⟩))).run Tryz.prog w=.ok (.agg cs) w:=
 loadO_run _ _ _ _ h Tryz.underlying28 rfl (by rw[hs];kernel_rfl)
theorem made_v (lv:Value) (l:Vs) (A:Option Addr) (n c:Nat) (xs:List B) (f st:Nat) (W:World) (hf:f<256) (hst:st<256) (h:RdP W W.heap.size lv l) (ha:Rd W W.heap.size A n (xs.map fun x=>.string (mkS x))) (hnc:n≤c) (hcm:c≤9223372036854775807) (hk:∀ p∈l,p.1.length≤20∧p.2.length≤30) (hl12:l.length≤12) (hx8:xs.length≤8):Calls Tryz.prog 11 #[lv,.slice A n c,.int .u8 (f:Int),.int .u8 (st:Int)] W fun x W'=>(∃ Av nv cv A na c st' fl,x=.returned (.agg #[.slice Av nv cv,.slice A na c,.int .i64 st',.string fl])∧RdE W' (.agg #[.slice Av nv cv,.slice A na c,.int .i64 st',.string fl]) (madeE l xs f st))∧Later W W':=by
 have hws:wrap64 (st:Int)=(st:Int):=by unfold wrap64;omega
 have HFB:=Lib.hid hf
 have HF:=Lib.hid (show IntKind.i64.wrap (f:Int)=(f:Int) by rw[IntKind.wrap_i64];omega)
 obtain⟨W2,hW2⟩:∃ W2,W2=(W.alloc (.cells #[.slice none 0 0,.slice none 0 0,.int .i64 0,.string ⟨#[]⟩] 28)).alloc (.cells #[.slice none 0 0,.slice A n c,.int .i64 (st:Int),.string ⟨#[]⟩] 28):=⟨_,rfl⟩
 have hmk:Mk W W2 ⟨[],xs,st,[]⟩:=by
  have l1:=Later.alloc W (.cells #[.slice none 0 0,.slice none 0 0,.int .i64 0,.string ⟨#[]⟩] 28)
  have l2:=Later.alloc (W.alloc (.cells #[.slice none 0 0,.slice none 0 0,.int .i64 0,.string ⟨#[]⟩] 28)) (.cells #[.slice none 0 0,.slice A n c,.int .i64 (st:Int),.string ⟨#[]⟩] 28)
  have h2:=heap_alloc_new (W.alloc (.cells #[.slice none 0 0,.slice none 0 0,.int .i64 0,.string ⟨#[]⟩] 28)) (.cells #[.slice none 0 0,.slice A n c,.int .i64 (st:Int),.string ⟨#[]⟩] 28)
  rw[World.size_alloc] at h2
  rw[hW2]
  refine⟨⟨none,0,0,A,n,c,h2,?_,fun w' h3 h4=>⟨.slice none 0 0,A,n,c,rfl,RdP.nil _ _,(ha.keep fun p hp=>World.cell?_of_block ((h4 p.block (by omega) (by omega) (Nat.lt_of_lt_of_le hp (l1.trans l2).size)).trans ((l1.trans l2).block p.block hp))).more (Nat.le_trans (l1.trans l2).size h3),hnc,hcm⟩⟩,later_cells l2 (heap_alloc_new W _),l1.trans l2⟩
  exact RdE.later (w:=W) ⟨.slice none 0 0,A,n,c,rfl,RdP.nil _ _,ha,hnc,hcm⟩ (l1.trans l2)
 obtain⟨Av0,cv0,rfl,hc1,hc2,_⟩:=h.le
 have HRD:=Lib.hid h
 have HK:=Lib.hid hk
 have HMD:=Lib.hid (fun i (hi:i≤l.length)=>md_V hk xs st i hi)
 have HMK:=Lib.hid hmk
 have HX8:=Lib.hid hx8
 obtain⟨n0,hn0⟩:∃ n0,n0=l.length:=⟨_,rfl⟩
 rw[←hn0] at hc1 hl12⊢
 have HN0:=Lib.hid hn0
 clear h ha hk hn0 hmk hst hf hx8
 go_enter Tryz.func11,Tryz.ntmps11
 go_wp2_with fail
 rw[←hW2]
 clear hW2 hws
 go_loopw [10] (fun s10 wr=>∃ i:Nat,s10=.int .i64 (i:Int)∧i≤n0∧Hid (Mk W wr (madeV (l.take i) ⟨[],xs,st,[]⟩))) (fun i _=>n0-(intOf i).toNat)
 case atStart=>exact⟨0,rfl,Nat.zero_le _,HMK⟩
 case round=>
  obtain⟨i,rfl,hi,HM⟩:=hrel
  have hi0:(0:Int)≤(i:Int):=by omega
  obtain⟨e,he⟩:∃ e,e=madeV (l.take i) ⟨[],xs,st,[]⟩:=⟨_,rfl⟩
  have hmd:=HMD.out i (by rw[←HN0.out];exact hi)
  rw[←he] at HM hmd
  have HMI:=Lib.hid hmd
  obtain⟨va,nv,cv,aA,an,ac,hbx,hre,_⟩:=HM.out.bx
  obtain⟨sI,hsI⟩:∃ sI:Int,sI=(e.status:Int):=⟨_,rfl⟩
  obtain⟨fS,hfS⟩:∃ fS,fS=mkS e.flags:=⟨_,rfl⟩
  rw[←hsI,←hfS] at hbx hre
  have HBX:=Lib.hid hbx
  have HRE:=Lib.hid hre
  have HSZ:=Lib.hid (lt_of_block hbx)
  by_cases hlt:i<n0
  ·have hlt1:(i:Int)<(n0:Int):=by omega
   have hil:i<l.length:=by rw[←HN0.out];exact hlt
   obtain⟨g,o,c0,e1,hg,hcc⟩:=HRD.out.at_ (by omega)
   injection e1 with e1 _ e2
   subst e1 e2
   obtain⟨x,hx⟩:∃ x,x=l[i]:=⟨_,rfl⟩
   have hkx:=HK.out _ (List.getElem_mem hil)
   have hci:=hcc i hil
   rw[←hx] at hkx hci
   obtain⟨e',he'⟩:∃ e',e'=En.set Ar.nameB e x.1 x.2:=⟨_,rfl⟩
   have HE':=Lib.hid (show madeV (l.take (i+1)) ⟨[],xs,st,[]⟩=e' by rw[madeV_step hil,←he,←hx,he'])
   obtain⟨C0,hC0⟩:∃ C0:Nat→Value→World→Prop,C0=fun j u w=>(j=0∧Later wr w)∨(j=1∧(∃ base,W.heap.size+1<base∧FrE base w u e')∧Later wr w)∨(j=2∧Mk W w e'):=⟨_,rfl⟩
   have H0:=Lib.hid (show C0 0 undef wr.drew by rw[hC0];exact .inl ⟨rfl,Later.drew wr⟩)
   have HA:=Lib.hid (show ∀ u w,C0 0 u w→Later wr w from fun u w hc=>by
    rw[hC0] at hc
    rcases hc with⟨_,h⟩ | ⟨h,_⟩ | ⟨h,_⟩
    ·exact h
    ·cases h
    ·cases h)
   have HA':=Lib.hid (show ∀ j u w,C0 j u w→j≤0→Later wr w from fun j u w hc hj=>by
    have:j=0:=by omega
    subst this
    exact HA.out u w hc)
   have HLDE:=Lib.hid (show ∀ j u w,C0 j u w→j≤0→(Instr.loadAt 28 (.pointer (some ⟨W.heap.size+1,0,none⟩))).run Tryz.prog w=.ok (.agg #[.slice va nv cv,.slice aA an ac,.int .i64 sI,.string fS]) w from fun j u w hc hj=>load_envE (later_cells (HA'.out j u w hc hj) HBX.out) rfl)
   have HN:=Lib.hid (show ∀ j u w,C0 j u w→j≤0→w.cell? ⟨g,o+i*2,none⟩=some (.string (mkS x.1))∧w.cell? ⟨g,o+i*2+1,none⟩=some (.string (mkS x.2)) from fun j u w hc hj=>by
    have hl:=HM.out.low.trans (HA'.out j u w hc hj)
    exact⟨(hl.cell (p:=⟨g,o+i*2,none⟩) hg).trans hci.1,(hl.cell (p:=⟨g,o+i*2+1,none⟩) hg).trans hci.2⟩)
   have HSET:=Lib.hid (show ∀ w,Later wr w→Calls Tryz.prog 14 #[.agg #[.slice va nv cv,.slice aA an ac,.int .i64 sI,.string fS],.string (mkS x.1),.string (mkS x.2)] w fun y w'=>En.Told w w' y e' from fun w hl=>by
    rw[he']
    exact En.set_v _ e x.1 x.2 w (RdE.later HRE.out hl) HMI.out.up (by have:=HMI.out.len;omega) (by rw[HMI.out.args];have:=HX8.out;omega) (by omega))
   have H1:=Lib.hid (show ∀ w w' v,Later wr w→Later w w'→FrE w.heap.size w' v e'→C0 1 v w' from fun w w' v h1 h2 h3=>by
    rw[hC0]
    exact .inr (.inl ⟨rfl,⟨w.heap.size,Nat.lt_of_lt_of_le HSZ.out h1.size,h3⟩,h1.trans h2⟩))
   have HST:=Lib.hid (show ∀ u w,C0 1 u w→∃ w9,(Instr.storeAt 28 (.pointer (some ⟨W.heap.size+1,0,none⟩)) u).run Tryz.prog w=.ok () w9∧C0 2 undef w9 from fun u w hc=>by
    rw[hC0] at hc⊢
    rcases hc with⟨h,_⟩ | ⟨_,⟨base,hb,h3⟩,h4⟩ | ⟨h,_⟩
    ·cases h
    ·obtain⟨w9,h5,h6⟩:=HM.out.store h4 hb h3
     exact⟨w9,h5,.inr (.inr ⟨rfl,h6⟩)⟩
    ·cases h)
   have HZ:=Lib.hid (show ∀ u w,C0 2 u w→Mk W w e' from fun u w hc=>by
    rw[hC0] at hc
    rcases hc with⟨h,_⟩ | ⟨h,_⟩ | ⟨_,h⟩
    ·cases h
    ·cases h
    ·exact h)
   clear hC0 he' hcc hci hkx hx hil hg hbx hre he hmd hsI hfS
   go_wp2_with fail
   refine wp_region_seq (by kernel_rfl) [11,12] (C0) [some (.agg #[.slice va nv cv,.slice aA an ac,.int .i64 sI,.string fS]),some (.slice (some ⟨g,o,none⟩) n0 cv0),some (.int .i64 (i:Int)),some (.pointer (some ⟨g,o+i*2,none⟩)),some (.pointer (some ⟨g,o+i*2,none⟩)),some (.string (mkS x.1)),some (.slice (some ⟨g,o,none⟩) n0 cv0),some (.int .i64 (i:Int)),some (.pointer (some ⟨g,o+i*2,none⟩)),some (.pointer (some ⟨g,o+i*2+1,none⟩)),some (.string (mkS x.2)),none,none] (by decide) (by decide) (by kernel_rfl) (by kernel_rfl) (H0.out) ?_ ?_
   ·refine⟨?_,?_,?_,?_,?_,?_,?_,?_,?_,?_,?_,?_,?_,trivial⟩
    ·
     refine OwesS.q rfl fun a w j u hC hb hs=>⟨rfl,?_⟩
     have e9:a.tmps.getD 9 undef=.pointer (some ⟨W.heap.size+1,0,none⟩):=hs.free 9 rfl
     have hj:=hb 0 11 rfl rfl
     exact ValWp.loadR rfl e9 (HLDE.out j u w hC hj) ⟨rfl,rfl⟩
    ·
     refine OwesS.q rfl fun a w j u hC hb hs=>⟨rfl,?_⟩
     have e0:a.tmps.getD 0 undef=.slice (some ⟨g,o,none⟩) n0 cv0:=hs.free 0 rfl
     refine ValWp.pure (v:=.slice (some ⟨g,o,none⟩) n0 cv0) (fun K' hK'=>?_) ⟨rfl,rfl⟩
     simp only[ValWp,execOp,Act.eval,e0]
     go_simp
     all_goals exact hK'
    ·
     refine OwesS.q rfl fun a w j u hC hb hs=>⟨rfl,?_⟩
     have e10:a.tmps.getD 10 undef=.int .i64 (i:Int):=hs.free 10 rfl
     refine ValWp.pure (v:=.int .i64 (i:Int)) (fun K' hK'=>?_) ⟨rfl,rfl⟩
     simp only[ValWp,execOp,Act.eval,e10]
     go_simp
     all_goals exact hK'
    ·
     refine OwesS.q rfl fun a w j u hC hb hs=>⟨rfl,?_⟩
     have e23:a.tmps.getD 23 undef=.slice (some ⟨g,o,none⟩) n0 cv0:=hs.dep 1 _ rfl rfl
     have e24:a.tmps.getD 24 undef=.int .i64 (i:Int):=hs.dep 2 _ rfl rfl
     refine ValWp.pure (v:=.pointer (some ⟨g,o+i*2,none⟩)) (fun K' hK'=>?_) ⟨rfl,rfl⟩
     simp only[ValWp,execOp,Act.eval,e23,e24]
     go_simp
     all_goals exact hK'
    ·
     refine OwesS.q rfl fun a w j u hC hb hs=>⟨rfl,?_⟩
     have e25:a.tmps.getD 25 undef=.pointer (some ⟨g,o+i*2,none⟩):=hs.dep 3 _ rfl rfl
     refine ValWp.pure (v:=.pointer (some ⟨g,o+i*2,none⟩)) (fun K' hK'=>?_) ⟨rfl,rfl⟩
     simp only[ValWp,execOp,Act.eval,e25]
     go_simp
     all_goals exact hK'
    ·
     refine OwesS.q rfl fun a w j u hC hb hs=>⟨rfl,?_⟩
     have e26:a.tmps.getD 26 undef=.pointer (some ⟨g,o+i*2,none⟩):=hs.dep 4 _ rfl rfl
     have hj:=hb 0 11 rfl rfl
     have q0:=(HN.out j u w hC hj).1
     refine ValWp.pure (v:=.string (mkS x.1)) (fun K' hK'=>?_) ⟨rfl,rfl⟩
     simp only[ValWp,execOp,Act.eval,e26]
     go_simp
     all_goals exact hK'
    ·
     refine OwesS.q rfl fun a w j u hC hb hs=>⟨rfl,?_⟩
     have e0:a.tmps.getD 0 undef=.slice (some ⟨g,o,none⟩) n0 cv0:=hs.free 0 rfl
     refine ValWp.pure (v:=.slice (some ⟨g,o,none⟩) n0 cv0) (fun K' hK'=>?_) ⟨rfl,rfl⟩
     simp only[ValWp,execOp,Act.eval,e0]
     go_simp
     all_goals exact hK'
    ·
     refine OwesS.q rfl fun a w j u hC hb hs=>⟨rfl,?_⟩
     have e10:a.tmps.getD 10 undef=.int .i64 (i:Int):=hs.free 10 rfl
     refine ValWp.pure (v:=.int .i64 (i:Int)) (fun K' hK'=>?_) ⟨rfl,rfl⟩
     simp only[ValWp,execOp,Act.eval,e10]
     go_simp
     all_goals exact hK'
    ·
     refine OwesS.q rfl fun a w j u hC hb hs=>⟨rfl,?_⟩
     have e28:a.tmps.getD 28 undef=.slice (some ⟨g,o,none⟩) n0 cv0:=hs.dep 6 _ rfl rfl
     have e29:a.tmps.getD 29 undef=.int .i64 (i:Int):=hs.dep 7 _ rfl rfl
     refine ValWp.pure (v:=.pointer (some ⟨g,o+i*2,none⟩)) (fun K' hK'=>?_) ⟨rfl,rfl⟩
     simp only[ValWp,execOp,Act.eval,e28,e29]
     go_simp
     all_goals exact hK'
    ·
     refine OwesS.q rfl fun a w j u hC hb hs=>⟨rfl,?_⟩
     have e30:a.tmps.getD 30 undef=.pointer (some ⟨g,o+i*2,none⟩):=hs.dep 8 _ rfl rfl
     refine ValWp.pure (v:=.pointer (some ⟨g,o+i*2+1,none⟩)) (fun K' hK'=>?_) ⟨rfl,rfl⟩
     simp only[ValWp,execOp,Act.eval,e30]
     go_simp
     all_goals exact hK'
    ·
     refine OwesS.q rfl fun a w j u hC hb hs=>⟨rfl,?_⟩
     have e31:a.tmps.getD 31 undef=.pointer (some ⟨g,o+i*2+1,none⟩):=hs.dep 9 _ rfl rfl
     have hj:=hb 0 11 rfl rfl
     have q0:=(HN.out j u w hC hj).2
     refine ValWp.pure (v:=.string (mkS x.2)) (fun K' hK'=>?_) ⟨rfl,rfl⟩
     simp only[ValWp,execOp,Act.eval,e31]
     go_simp
     all_goals exact hK'
    ·
     refine OwesS.w rfl fun a w u hC hl hs=>⟨rfl,fun K hK=>?_⟩
     have e22:a.tmps.getD 22 undef=.agg #[.slice va nv cv,.slice aA an ac,.int .i64 sI,.string fS]:=hs.dep 0 _ rfl rfl
     have e27:a.tmps.getD 27 undef=.string (mkS x.1):=hs.dep 5 _ rfl rfl
     have e32:a.tmps.getD 32 undef=.string (mkS x.2):=hs.dep 10 _ rfl rfl
     have hl0:=HA.out u w hC
     refine wp_of_val ?_
     refine ValWp.call #[.agg #[.slice va nv cv,.slice aA an ac,.int .i64 sI,.string fS],.string (mkS x.1),.string (mkS x.2)] rfl rfl Tryz.func14 rfl rfl (by simp only[List.map_toArray,List.map_cons,List.map_nil,Act.eval,e22,e27,e32]) ?_
     refine(HSET.out w hl0).mono ?_
     rintro e w' ⟨⟨v,rfl,hf⟩,hl⟩
     exact⟨v,rfl,hK v w' trivial (H1.out w w' v hl0 hl hf)⟩
    ·
     refine OwesS.w rfl fun a w u hC hl hs=>⟨rfl,fun K hK=>?_⟩
     have e9:a.tmps.getD 9 undef=.pointer (some ⟨W.heap.size+1,0,none⟩):=hs.free 9 rfl
     have e33:a.tmps.getD 33 undef=u:=hl
     obtain⟨w9,hrun,h9⟩:=HST.out u w hC
     exact wp_of_val (ValWp.storeR rfl e9 e33 hrun (hK _ _ trivial h9))
   ·intro a w u hC hl hd hsz hfree hs
    obtain⟨u22,hu22⟩:∃ u,u=a.tmps.getD 22 undef:=⟨_,rfl⟩
    obtain⟨u23,hu23⟩:∃ u,u=a.tmps.getD 23 undef:=⟨_,rfl⟩
    obtain⟨u24,hu24⟩:∃ u,u=a.tmps.getD 24 undef:=⟨_,rfl⟩
    obtain⟨u25,hu25⟩:∃ u,u=a.tmps.getD 25 undef:=⟨_,rfl⟩
    obtain⟨u26,hu26⟩:∃ u,u=a.tmps.getD 26 undef:=⟨_,rfl⟩
    obtain⟨u27,hu27⟩:∃ u,u=a.tmps.getD 27 undef:=⟨_,rfl⟩
    obtain⟨u28,hu28⟩:∃ u,u=a.tmps.getD 28 undef:=⟨_,rfl⟩
    obtain⟨u29,hu29⟩:∃ u,u=a.tmps.getD 29 undef:=⟨_,rfl⟩
    obtain⟨u30,hu30⟩:∃ u,u=a.tmps.getD 30 undef:=⟨_,rfl⟩
    obtain⟨u31,hu31⟩:∃ u,u=a.tmps.getD 31 undef:=⟨_,rfl⟩
    obtain⟨u32,hu32⟩:∃ u,u=a.tmps.getD 32 undef:=⟨_,rfl⟩
    obtain⟨u33,hu33⟩:∃ u,u=a.tmps.getD 33 undef:=⟨_,rfl⟩
    have hal:AllAt a 0 [_,_,_,_,_,_,_,_,_,_,_,_,_,_,_,_,_,_,_,_,_,_,u22,u23,u24,u25,u26,u27,u28,u29,u30,u31,u32,u33,_,_,_,_,_,_,_,_,_,_,_,_,_,_,_,_,_,_]:=⟨hfree 0 rfl,hfree 1 rfl,hfree 2 rfl,hfree 3 rfl,hfree 4 rfl,hfree 5 rfl,hfree 6 rfl,hfree 7 rfl,hfree 8 rfl,hfree 9 rfl,hfree 10 rfl,hfree 11 rfl,hfree 12 rfl,hfree 13 rfl,hfree 14 rfl,hfree 15 rfl,hfree 16 rfl,hfree 17 rfl,hfree 18 rfl,hfree 19 rfl,hfree 20 rfl,hfree 21 rfl,hu22.symm,hu23.symm,hu24.symm,hu25.symm,hu26.symm,hu27.symm,hu28.symm,hu29.symm,hu30.symm,hu31.symm,hu32.symm,hu33.symm,hfree 34 rfl,hfree 35 rfl,hfree 36 rfl,hfree 37 rfl,hfree 38 rfl,hfree 39 rfl,hfree 40 rfl,hfree 41 rfl,hfree 42 rfl,hfree 43 rfl,hfree 44 rfl,hfree 45 rfl,hfree 46 rfl,hfree 47 rfl,hfree 48 rfl,hfree 49 rfl,hfree 50 rfl,hfree 51 rfl,trivial⟩
    have hlit:=fun h=>act_lit hd h hal
    rw[hlit hsz]
    simp only[Array.getD_eq_getD_getElem?,List.getElem?_toArray,List.getElem?_cons_zero,List.getElem?_cons_succ,Option.getD_some]
    clear hlit hal hd hsz hfree hs hu22 hu23 hu24 hu25 hu26 hu27 hu28 hu29 hu30 hu31 hu32 hu33
    go_wp2
    go_roundw
    case rel=>exact⟨i+1,by go_num,by omega,Lib.hid (by rw[HE'.out];exact HZ.out _ _ hC)⟩
    case measure=>simp[intOf];omega
  ·have hlt1:¬ (i:Int)<(n0:Int):=by omega
   have hall:l.take i=l:=List.take_of_length_le (by rw[←HN0.out];omega)
   rw[hall] at he
   obtain⟨eV,heV⟩:∃ eV,eV=madeV l ⟨[],xs,st,[]⟩:=⟨_,rfl⟩
   rw[←heV] at he
   subst he
   have HEV:=Lib.hid heV
   clear hall heV hbx hre hmd hsI hfS HBX HRE
   go_wp2_with fail
   go_loopw [11] (fun s11 wr=>∃ (k:Nat) (z:Int),s11=.int .i64 z∧z=(k:Int)∧k≤4∧Hid (Mk W wr (madeF f e k))) (fun k _=>4-(intOf k).toNat)
   case atStart=>exact⟨0,0,rfl,rfl,by omega,HM⟩
   case round=>
    obtain⟨k,z,rfl,hz,hk4,HM⟩:=hrel
    have hmd:=md_F HMI.out f k
    obtain⟨ek,hek⟩:∃ ek,ek=madeF f e k:=⟨_,rfl⟩
    rw[←hek] at HM hmd
    have HMI:=Lib.hid hmd
    obtain⟨va,nv,cv,aA,an,ac,hbx,hre,hsb⟩:=HM.out.bx
    obtain⟨sI,hsI⟩:∃ sI:Int,sI=(ek.status:Int):=⟨_,rfl⟩
    obtain⟨fS,hfS⟩:∃ fS,fS=mkS ek.flags:=⟨_,rfl⟩
    rw[←hsI,←hfS] at hbx hre hsb
    have HSB:=Lib.hid hsb
    have HBX:=Lib.hid hbx
    have HRE:=Lib.hid hre
    have HSZ:=Lib.hid (lt_of_block hbx)
    by_cases hlk:k<4
    ·obtain⟨d,hd⟩:∃ d,d=f / 2 ^ k:=⟨_,rfl⟩
     obtain⟨r,hr⟩:∃ r,r=d % 2:=⟨_,rfl⟩
     obtain⟨on,hon⟩:∃ on,on=bitB f k:=⟨_,rfl⟩
     obtain⟨cq,hcq⟩:∃ cq,cq=efux.getD k 0:=⟨_,rfl⟩
     obtain⟨e',he'⟩:∃ e':E,e'={ ek with flags:=En.flag ek.flags cq on }:=⟨_,rfl⟩
     have HE':=Lib.hid (show madeF f e (k+1)=e' by rw[he',hcq,hon,hek];rfl)
     have H48:=Lib.hid (show ((d:Int)).tmod 2=(r:Int) by rw[hr];rfl)
     have H49:=Lib.hid (show ((r:Int)==1)=on by
      rw[hon,hr,hd]
      unfold bitB
      by_cases h:f / 2 ^ k % 2=1
      ·rw[h,decide_eq_true rfl];rfl
      ·rw[decide_eq_false h,beq_eq_false_iff_ne];omega)
     have hd256:d<256:=by rw[hd];exact Nat.lt_of_le_of_lt (Nat.div_le_self _ _) HFB.out
     obtain⟨C0,hC0⟩:∃ C0:Nat→Value→World→Prop,C0=fun j u w=>(j=0∧w=wr.drew)∨((1≤j∧j≤6)∧w=wr.drew.alloc (.cells #[.int .i64 1,.int .i64 2,.int .i64 4,.int .i64 8] 3))∨(j=7∧(∃ base,W.heap.size+1<base∧FrE base w u e')∧Later wr w)∨(j=8∧Mk W w e'):=⟨_,rfl⟩
     have H0:=Lib.hid (show C0 0 undef wr.drew by rw[hC0];exact .inl ⟨rfl,rfl⟩)
     have HA0:=Lib.hid (show ∀ u w,C0 0 u w→w=wr.drew from fun u w hc=>by
      rw[hC0] at hc
      rcases hc with⟨_,h⟩ | ⟨h,_⟩ | ⟨h,_⟩ | ⟨h,_⟩
      ·exact h
      all_goals omega)
     have H1:=Lib.hid (show ∀ j u w,1≤j→j≤6→w=wr.drew.alloc (.cells #[.int .i64 1,.int .i64 2,.int .i64 4,.int .i64 8] 3)→C0 j u w from fun j u w h1 h2 h3=>by rw[hC0];exact .inr (.inl ⟨⟨h1,h2⟩,h3⟩))
     have HLL:=Lib.hid ((Later.drew wr).trans (Later.alloc wr.drew (.cells #[.int .i64 1,.int .i64 2,.int .i64 4,.int .i64 8] 3)))
     have HA1:=Lib.hid (show ∀ j u w,C0 j u w→1≤j→j≤6→w=wr.drew.alloc (.cells #[.int .i64 1,.int .i64 2,.int .i64 4,.int .i64 8] 3) from fun j u w hc h1 h2=>by
      rw[hC0] at hc
      rcases hc with⟨h,_⟩ | ⟨_,h⟩ | ⟨h,_⟩ | ⟨h,_⟩
      ·omega
      ·exact h
      all_goals omega)
     have HAL:=Lib.hid (show ∀ j u w,C0 j u w→j≤6→Later wr w from fun j u w hc hj=>by
      rcases Nat.eq_zero_or_pos j with h | h
      ·subst h;rw[HA0.out u w hc];exact Later.drew wr
      ·rw[HA1.out j u w hc h hj];exact HLL.out)
     have HLDE:=Lib.hid (show ∀ j u w,C0 j u w→j≤6→(Instr.loadAt 28 (.pointer (some ⟨W.heap.size+1,0,none⟩))).run Tryz.prog w=.ok (.agg #[.slice va nv cv,.slice aA an ac,.int .i64 sI,.string fS]) w from fun j u w hc hj=>load_envE (later_cells (HAL.out j u w hc hj) HBX.out) rfl)
     have HCL:=Lib.hid (show ∀ w,w=wr.drew.alloc (.cells #[.int .i64 1,.int .i64 2,.int .i64 4,.int .i64 8] 3)→∀ q,w.cell? ⟨wr.heap.size,q,none⟩=(#[.int .i64 1,.int .i64 2,.int .i64 4,.int .i64 8]:Array Value)[q]? from fun w hw q=>by
      rw[hw]
      exact(cell_row (heap_alloc_new wr.drew _) q).1)
     have HFLG:=Lib.hid (show ∀ w,w=wr.drew.alloc (.cells #[.int .i64 1,.int .i64 2,.int .i64 4,.int .i64 8] 3)→Calls Tryz.prog 20 #[.agg #[.slice va nv cv,.slice aA an ac,.int .i64 sI,.string fS],.int .u8 (cq.toNat:Int),.bool on] w fun y w'=>En.Told w w' y e' from fun w hw=>by
      rw[he']
      exact En.flag_v _ ek cq on w (RdE.later HRE.out (by rw[hw];exact HLL.out)) (by have:=HMI.out.len;omega) (by rw[HMI.out.args];have:=HX8.out;omega))
     have H2:=Lib.hid (show ∀ w w' v,w=wr.drew.alloc (.cells #[.int .i64 1,.int .i64 2,.int .i64 4,.int .i64 8] 3)→Later w w'→FrE w.heap.size w' v e'→C0 7 v w' from fun w w' v h1 h2 h3=>by
      rw[hC0]
      exact .inr (.inr (.inl ⟨rfl,⟨w.heap.size,by rw[h1];exact Nat.lt_of_lt_of_le HSZ.out HLL.out.size,h3⟩,Later.trans (by rw[h1];exact HLL.out) h2⟩)))
     have HST:=Lib.hid (show ∀ u w,C0 7 u w→∃ w9,(Instr.storeAt 28 (.pointer (some ⟨W.heap.size+1,0,none⟩)) u).run Tryz.prog w=.ok () w9∧C0 8 undef w9 from fun u w hc=>by
      rw[hC0] at hc⊢
      rcases hc with⟨h,_⟩ | ⟨h,_⟩ | ⟨_,⟨base,hb,h3⟩,h4⟩ | ⟨h,_⟩
      ·cases h
      ·omega
      ·obtain⟨w9,h5,h6⟩:=HM.out.store h4 hb h3
       exact⟨w9,h5,.inr (.inr (.inr ⟨rfl,h6⟩))⟩
      ·cases h)
     have HZ:=Lib.hid (show ∀ u w,C0 8 u w→Mk W w e' from fun u w hc=>by
      rw[hC0] at hc
      rcases hc with⟨h,_⟩ | ⟨h,_⟩ | ⟨h,_⟩ | ⟨_,h⟩
      ·cases h
      ·omega
      ·cases h
      ·exact h)
     clear hC0 he' hbx hre hek hmd hsI hfS hsb HSB
     rcases(by omega:k=0∨k=1∨k=2∨k=3) with hkk | hkk | hkk | hkk
     all_goals subst hkk
     all_goals subst hz
     ·have hkn:(0:Int)≤(0:Int):=by omega
      have H47:=Lib.hid (show IntKind.i64.wrap ((f:Int))=(d:Int) by
       have h:((f:Int))=(d:Int):=by rw[hd];omega
       rw[h,IntKind.wrap_i64];omega)
      have HLT:=Lib.hid (fun w hw=>(HCL.out w hw 0).trans (show (#[.int .i64 1,.int .i64 2,.int .i64 4,.int .i64 8]:Array Value)[0]?=some (.int .i64 1) from rfl))
      have hcqn:(cq.toNat:Int)=101:=by rw[hcq];rfl
      rw[hcqn] at HFLG
      clear hcq hcqn hon hr hd hd256
      go_wp2_with fail
      refine wp_region_seq (by kernel_rfl) [5,7,8,9,10,11,12,13] (C0) [some (.agg #[.slice va nv cv,.slice aA an ac,.int .i64 sI,.string fS]),some (.int .i64 0),some (.int .u8 101),some (.int .u8 (f:Int)),some (.int .i64 (f:Int)),some (.slice (some ⟨wr.heap.size,0,none⟩) 4 4),some (.int .i64 0),some (.pointer (some ⟨wr.heap.size,0,none⟩)),some (.int .i64 1),some (.int .i64 (d:Int)),some (.int .i64 (r:Int)),some (.bool on),none,none] (by decide) (by decide) (by kernel_rfl) (by kernel_rfl) (H0.out) ?_ ?_
      ·refine⟨?_,?_,?_,?_,?_,?_,?_,?_,?_,?_,?_,?_,?_,?_,trivial⟩
       ·
        refine OwesS.q rfl fun a w j u hC hb hs=>⟨rfl,?_⟩
        have e9:a.tmps.getD 9 undef=.pointer (some ⟨W.heap.size+1,0,none⟩):=hs.free 9 rfl
        have hj:=hb 6 12 rfl rfl
        exact ValWp.loadR rfl e9 (HLDE.out j u w hC hj) ⟨rfl,rfl⟩
       ·
        refine OwesS.q rfl fun a w j u hC hb hs=>⟨rfl,?_⟩
        have e11:a.tmps.getD 11 undef=.int .i64 0:=hs.free 11 rfl
        refine ValWp.pure (v:=.int .i64 0) (fun K' hK'=>?_) ⟨rfl,rfl⟩
        simp only[ValWp,execOp,Act.eval,e11]
        go_simp
        all_goals exact hK'
       ·
        refine OwesS.q rfl fun a w j u hC hb hs=>⟨rfl,?_⟩
        have e39:a.tmps.getD 39 undef=.int .i64 0:=hs.dep 1 _ rfl rfl
        refine ValWp.pure (v:=.int .u8 101) (fun K' hK'=>?_) ⟨rfl,rfl⟩
        simp only[ValWp,execOp,Act.eval,e39]
        go_simp
        all_goals exact hK'
       ·
        refine OwesS.q rfl fun a w j u hC hb hs=>⟨rfl,?_⟩
        have e2:a.tmps.getD 2 undef=.int .u8 (f:Int):=hs.free 2 rfl
        refine ValWp.pure (v:=.int .u8 (f:Int)) (fun K' hK'=>?_) ⟨rfl,rfl⟩
        simp only[ValWp,execOp,Act.eval,e2]
        go_simp
        all_goals exact hK'
       ·
        refine OwesS.q rfl fun a w j u hC hb hs=>⟨rfl,?_⟩
        have e41:a.tmps.getD 41 undef=.int .u8 (f:Int):=hs.dep 3 _ rfl rfl
        have q0:=HF.out
        refine ValWp.pure (v:=.int .i64 (f:Int)) (fun K' hK'=>?_) ⟨rfl,rfl⟩
        simp only[ValWp,execOp,Act.eval,e41]
        go_simp
        all_goals exact hK'
       ·
        refine OwesS.w rfl fun a w u hC hl hs=>⟨rfl,fun K hK=>?_⟩
        have hw:=HA0.out u w hC
        subst hw
        refine wp_of_val ?_
        refine ValWp.pure (v:=.slice (some ⟨wr.heap.size,0,none⟩) 4 4) (w':=wr.drew.alloc (.cells #[.int .i64 1,.int .i64 2,.int .i64 4,.int .i64 8] 3)) (fun K' hK'=>?_) (hK _ _ rfl (H1.out _ _ _ (by decide) (by decide) rfl))
        simp only[ValWp,execOp,Act.eval,List.map_toArray,List.map_cons,List.map_nil]
        go_simp
        all_goals exact hK'
       ·
        refine OwesS.q rfl fun a w j u hC hb hs=>⟨rfl,?_⟩
        have e11:a.tmps.getD 11 undef=.int .i64 0:=hs.free 11 rfl
        refine ValWp.pure (v:=.int .i64 0) (fun K' hK'=>?_) ⟨rfl,rfl⟩
        simp only[ValWp,execOp,Act.eval,e11]
        go_simp
        all_goals exact hK'
       ·
        refine OwesS.w rfl fun a w u hC hl hs=>⟨rfl,fun K hK=>?_⟩
        have e43:a.tmps.getD 43 undef=.slice (some ⟨wr.heap.size,0,none⟩) 4 4:=hs.dep 5 _ rfl rfl
        have e44:a.tmps.getD 44 undef=.int .i64 0:=hs.dep 6 _ rfl rfl
        have hw:=Lib.hid (HA1.out _ u w hC (by decide) (by decide))
        refine wp_of_val ?_
        refine ValWp.pure (v:=.pointer (some ⟨wr.heap.size,0,none⟩)) (w':=w) (fun K' hK'=>?_) (hK _ _ rfl (H1.out _ _ w (by decide) (by decide) hw.out))
        simp only[ValWp,execOp,Act.eval,e43,e44]
        go_simp
        all_goals exact hK'
       ·
        refine OwesS.w rfl fun a w u hC hl hs=>⟨rfl,fun K hK=>?_⟩
        have e45:a.tmps.getD 45 undef=.pointer (some ⟨wr.heap.size,0,none⟩):=hs.dep 7 _ rfl rfl
        have hw:=Lib.hid (HA1.out _ u w hC (by decide) (by decide))
        have q0:=HLT.out w hw.out
        refine wp_of_val ?_
        refine ValWp.pure (v:=.int .i64 1) (w':=w) (fun K' hK'=>?_) (hK _ _ rfl (H1.out _ _ w (by decide) (by decide) hw.out))
        simp only[ValWp,execOp,Act.eval,e45]
        go_simp
        all_goals exact hK'
       ·
        refine OwesS.w rfl fun a w u hC hl hs=>⟨rfl,fun K hK=>?_⟩
        have e42:a.tmps.getD 42 undef=.int .i64 (f:Int):=hs.dep 4 _ rfl rfl
        have e46:a.tmps.getD 46 undef=.int .i64 1:=hs.dep 8 _ rfl rfl
        have hw:=Lib.hid (HA1.out _ u w hC (by decide) (by decide))
        have q0:=H47.out
        refine wp_of_val ?_
        refine ValWp.pure (v:=.int .i64 (d:Int)) (w':=w) (fun K' hK'=>?_) (hK _ _ rfl (H1.out _ _ w (by decide) (by decide) hw.out))
        simp only[ValWp,execOp,Act.eval,e42,e46]
        go_simp
        all_goals exact hK'
       ·
        refine OwesS.w rfl fun a w u hC hl hs=>⟨rfl,fun K hK=>?_⟩
        have e47:a.tmps.getD 47 undef=.int .i64 (d:Int):=hs.dep 9 _ rfl rfl
        have hw:=Lib.hid (HA1.out _ u w hC (by decide) (by decide))
        have q0:=H48.out
        refine wp_of_val ?_
        refine ValWp.pure (v:=.int .i64 (r:Int)) (w':=w) (fun K' hK'=>?_) (hK _ _ rfl (H1.out _ _ w (by decide) (by decide) hw.out))
        simp only[ValWp,execOp,Act.eval,e47]
        go_simp
        all_goals exact hK'
       ·
        refine OwesS.w rfl fun a w u hC hl hs=>⟨rfl,fun K hK=>?_⟩
        have e48:a.tmps.getD 48 undef=.int .i64 (r:Int):=hs.dep 10 _ rfl rfl
        have hw:=Lib.hid (HA1.out _ u w hC (by decide) (by decide))
        have q0:=H49.out
        refine wp_of_val ?_
        refine ValWp.pure (v:=.bool on) (w':=w) (fun K' hK'=>?_) (hK _ _ rfl (H1.out _ _ w (by decide) (by decide) hw.out))
        simp only[ValWp,execOp,Act.eval,e48]
        go_simp
        all_goals exact hK'
       ·
        refine OwesS.w rfl fun a w u hC hl hs=>⟨rfl,fun K hK=>?_⟩
        have e38:a.tmps.getD 38 undef=.agg #[.slice va nv cv,.slice aA an ac,.int .i64 sI,.string fS]:=hs.dep 0 _ rfl rfl
        have e40:a.tmps.getD 40 undef=.int .u8 101:=hs.dep 2 _ rfl rfl
        have e49:a.tmps.getD 49 undef=.bool on:=hs.dep 11 _ rfl rfl
        have hw:=HA1.out _ u w hC (by decide) (by decide)
        refine wp_of_val ?_
        refine ValWp.call #[.agg #[.slice va nv cv,.slice aA an ac,.int .i64 sI,.string fS],.int .u8 101,.bool on] rfl rfl Tryz.func20 rfl rfl (by simp only[List.map_toArray,List.map_cons,List.map_nil,Act.eval,e38,e40,e49]) ?_
        refine(HFLG.out w hw).mono ?_
        rintro e w' ⟨⟨v,rfl,hf⟩,hl⟩
        exact⟨v,rfl,hK v w' trivial (H2.out w w' v hw hl hf)⟩
       ·
        refine OwesS.w rfl fun a w u hC hl hs=>⟨rfl,fun K hK=>?_⟩
        have e9:a.tmps.getD 9 undef=.pointer (some ⟨W.heap.size+1,0,none⟩):=hs.free 9 rfl
        have e50:a.tmps.getD 50 undef=u:=hl
        obtain⟨w9,hrun,h9⟩:=HST.out u w hC
        exact wp_of_val (ValWp.storeR rfl e9 e50 hrun (hK _ _ trivial h9))
      ·intro a w u hC hl hd hsz hfree hs
       obtain⟨u38,hu38⟩:∃ u,u=a.tmps.getD 38 undef:=⟨_,rfl⟩
       obtain⟨u39,hu39⟩:∃ u,u=a.tmps.getD 39 undef:=⟨_,rfl⟩
       obtain⟨u40,hu40⟩:∃ u,u=a.tmps.getD 40 undef:=⟨_,rfl⟩
       obtain⟨u41,hu41⟩:∃ u,u=a.tmps.getD 41 undef:=⟨_,rfl⟩
       obtain⟨u42,hu42⟩:∃ u,u=a.tmps.getD 42 undef:=⟨_,rfl⟩
       obtain⟨u43,hu43⟩:∃ u,u=a.tmps.getD 43 undef:=⟨_,rfl⟩
       obtain⟨u44,hu44⟩:∃ u,u=a.tmps.getD 44 undef:=⟨_,rfl⟩
       obtain⟨u45,hu45⟩:∃ u,u=a.tmps.getD 45 undef:=⟨_,rfl⟩
       obtain⟨u46,hu46⟩:∃ u,u=a.tmps.getD 46 undef:=⟨_,rfl⟩
       obtain⟨u47,hu47⟩:∃ u,u=a.tmps.getD 47 undef:=⟨_,rfl⟩
       obtain⟨u48,hu48⟩:∃ u,u=a.tmps.getD 48 undef:=⟨_,rfl⟩
       obtain⟨u49,hu49⟩:∃ u,u=a.tmps.getD 49 undef:=⟨_,rfl⟩
       obtain⟨u50,hu50⟩:∃ u,u=a.tmps.getD 50 undef:=⟨_,rfl⟩
       have hal:AllAt a 0 [_,_,_,_,_,_,_,_,_,_,_,_,_,_,_,_,_,_,_,_,_,_,_,_,_,_,_,_,_,_,_,_,_,_,_,_,_,_,u38,u39,u40,u41,u42,u43,u44,u45,u46,u47,u48,u49,u50,_]:=⟨hfree 0 rfl,hfree 1 rfl,hfree 2 rfl,hfree 3 rfl,hfree 4 rfl,hfree 5 rfl,hfree 6 rfl,hfree 7 rfl,hfree 8 rfl,hfree 9 rfl,hfree 10 rfl,hfree 11 rfl,hfree 12 rfl,hfree 13 rfl,hfree 14 rfl,hfree 15 rfl,hfree 16 rfl,hfree 17 rfl,hfree 18 rfl,hfree 19 rfl,hfree 20 rfl,hfree 21 rfl,hfree 22 rfl,hfree 23 rfl,hfree 24 rfl,hfree 25 rfl,hfree 26 rfl,hfree 27 rfl,hfree 28 rfl,hfree 29 rfl,hfree 30 rfl,hfree 31 rfl,hfree 32 rfl,hfree 33 rfl,hfree 34 rfl,hfree 35 rfl,hfree 36 rfl,hfree 37 rfl,hu38.symm,hu39.symm,hu40.symm,hu41.symm,hu42.symm,hu43.symm,hu44.symm,hu45.symm,hu46.symm,hu47.symm,hu48.symm,hu49.symm,hu50.symm,hfree 51 rfl,trivial⟩
       have hlit:=fun h=>act_lit hd h hal
       rw[hlit hsz]
       simp only[Array.getD_eq_getD_getElem?,List.getElem?_toArray,List.getElem?_cons_zero,List.getElem?_cons_succ,Option.getD_some]
       clear hlit hal hd hsz hfree hs hu38 hu39 hu40 hu41 hu42 hu43 hu44 hu45 hu46 hu47 hu48 hu49 hu50
       go_wp2
       go_roundw
       case rel=>exact⟨1,1,by first | rfl | go_num,rfl,by omega,Lib.hid (by rw[HE'.out];exact HZ.out _ _ hC)⟩
       case measure=>simp[intOf]
     ·have hkn:(0:Int)≤(1:Int):=by omega
      have H47:=Lib.hid (show IntKind.i64.wrap ((f:Int) / 2)=(d:Int) by
       have h:((f:Int) / 2)=(d:Int):=by rw[hd];omega
       rw[h,IntKind.wrap_i64];omega)
      have HLT:=Lib.hid (fun w hw=>(HCL.out w hw 1).trans (show (#[.int .i64 1,.int .i64 2,.int .i64 4,.int .i64 8]:Array Value)[1]?=some (.int .i64 2) from rfl))
      have hcqn:(cq.toNat:Int)=102:=by rw[hcq];rfl
      rw[hcqn] at HFLG
      clear hcq hcqn hon hr hd hd256
      go_wp2_with fail
      refine wp_region_seq (by kernel_rfl) [5,7,8,9,10,11,12,13] (C0) [some (.agg #[.slice va nv cv,.slice aA an ac,.int .i64 sI,.string fS]),some (.int .i64 1),some (.int .u8 102),some (.int .u8 (f:Int)),some (.int .i64 (f:Int)),some (.slice (some ⟨wr.heap.size,0,none⟩) 4 4),some (.int .i64 1),some (.pointer (some ⟨wr.heap.size,1,none⟩)),some (.int .i64 2),some (.int .i64 (d:Int)),some (.int .i64 (r:Int)),some (.bool on),none,none] (by decide) (by decide) (by kernel_rfl) (by kernel_rfl) (H0.out) ?_ ?_
      ·refine⟨?_,?_,?_,?_,?_,?_,?_,?_,?_,?_,?_,?_,?_,?_,trivial⟩
       ·
        refine OwesS.q rfl fun a w j u hC hb hs=>⟨rfl,?_⟩
        have e9:a.tmps.getD 9 undef=.pointer (some ⟨W.heap.size+1,0,none⟩):=hs.free 9 rfl
        have hj:=hb 6 12 rfl rfl
        exact ValWp.loadR rfl e9 (HLDE.out j u w hC hj) ⟨rfl,rfl⟩
       ·
        refine OwesS.q rfl fun a w j u hC hb hs=>⟨rfl,?_⟩
        have e11:a.tmps.getD 11 undef=.int .i64 1:=hs.free 11 rfl
        refine ValWp.pure (v:=.int .i64 1) (fun K' hK'=>?_) ⟨rfl,rfl⟩
        simp only[ValWp,execOp,Act.eval,e11]
        go_simp
        all_goals exact hK'
       ·
        refine OwesS.q rfl fun a w j u hC hb hs=>⟨rfl,?_⟩
        have e39:a.tmps.getD 39 undef=.int .i64 1:=hs.dep 1 _ rfl rfl
        refine ValWp.pure (v:=.int .u8 102) (fun K' hK'=>?_) ⟨rfl,rfl⟩
        simp only[ValWp,execOp,Act.eval,e39]
        go_simp
        all_goals exact hK'
       ·
        refine OwesS.q rfl fun a w j u hC hb hs=>⟨rfl,?_⟩
        have e2:a.tmps.getD 2 undef=.int .u8 (f:Int):=hs.free 2 rfl
        refine ValWp.pure (v:=.int .u8 (f:Int)) (fun K' hK'=>?_) ⟨rfl,rfl⟩
        simp only[ValWp,execOp,Act.eval,e2]
        go_simp
        all_goals exact hK'
       ·
        refine OwesS.q rfl fun a w j u hC hb hs=>⟨rfl,?_⟩
        have e41:a.tmps.getD 41 undef=.int .u8 (f:Int):=hs.dep 3 _ rfl rfl
        have q0:=HF.out
        refine ValWp.pure (v:=.int .i64 (f:Int)) (fun K' hK'=>?_) ⟨rfl,rfl⟩
        simp only[ValWp,execOp,Act.eval,e41]
        go_simp
        all_goals exact hK'
       ·
        refine OwesS.w rfl fun a w u hC hl hs=>⟨rfl,fun K hK=>?_⟩
        have hw:=HA0.out u w hC
        subst hw
        refine wp_of_val ?_
        refine ValWp.pure (v:=.slice (some ⟨wr.heap.size,0,none⟩) 4 4) (w':=wr.drew.alloc (.cells #[.int .i64 1,.int .i64 2,.int .i64 4,.int .i64 8] 3)) (fun K' hK'=>?_) (hK _ _ rfl (H1.out _ _ _ (by decide) (by decide) rfl))
        simp only[ValWp,execOp,Act.eval,List.map_toArray,List.map_cons,List.map_nil]
        go_simp
        all_goals exact hK'
       ·
        refine OwesS.q rfl fun a w j u hC hb hs=>⟨rfl,?_⟩
        have e11:a.tmps.getD 11 undef=.int .i64 1:=hs.free 11 rfl
        refine ValWp.pure (v:=.int .i64 1) (fun K' hK'=>?_) ⟨rfl,rfl⟩
        simp only[ValWp,execOp,Act.eval,e11]
        go_simp
        all_goals exact hK'
       ·
        refine OwesS.w rfl fun a w u hC hl hs=>⟨rfl,fun K hK=>?_⟩
        have e43:a.tmps.getD 43 undef=.slice (some ⟨wr.heap.size,0,none⟩) 4 4:=hs.dep 5 _ rfl rfl
        have e44:a.tmps.getD 44 undef=.int .i64 1:=hs.dep 6 _ rfl rfl
        have hw:=Lib.hid (HA1.out _ u w hC (by decide) (by decide))
        refine wp_of_val ?_
        refine ValWp.pure (v:=.pointer (some ⟨wr.heap.size,1,none⟩)) (w':=w) (fun K' hK'=>?_) (hK _ _ rfl (H1.out _ _ w (by decide) (by decide) hw.out))
        simp only[ValWp,execOp,Act.eval,e43,e44]
        go_simp
        all_goals exact hK'
       ·
        refine OwesS.w rfl fun a w u hC hl hs=>⟨rfl,fun K hK=>?_⟩
        have e45:a.tmps.getD 45 undef=.pointer (some ⟨wr.heap.size,1,none⟩):=hs.dep 7 _ rfl rfl
        have hw:=Lib.hid (HA1.out _ u w hC (by decide) (by decide))
        have q0:=HLT.out w hw.out
        refine wp_of_val ?_
        refine ValWp.pure (v:=.int .i64 2) (w':=w) (fun K' hK'=>?_) (hK _ _ rfl (H1.out _ _ w (by decide) (by decide) hw.out))
        simp only[ValWp,execOp,Act.eval,e45]
        go_simp
        all_goals exact hK'
       ·
        refine OwesS.w rfl fun a w u hC hl hs=>⟨rfl,fun K hK=>?_⟩
        have e42:a.tmps.getD 42 undef=.int .i64 (f:Int):=hs.dep 4 _ rfl rfl
        have e46:a.tmps.getD 46 undef=.int .i64 2:=hs.dep 8 _ rfl rfl
        have hw:=Lib.hid (HA1.out _ u w hC (by decide) (by decide))
        have q0:=H47.out
        refine wp_of_val ?_
        refine ValWp.pure (v:=.int .i64 (d:Int)) (w':=w) (fun K' hK'=>?_) (hK _ _ rfl (H1.out _ _ w (by decide) (by decide) hw.out))
        simp only[ValWp,execOp,Act.eval,e42,e46]
        go_simp
        all_goals exact hK'
       ·
        refine OwesS.w rfl fun a w u hC hl hs=>⟨rfl,fun K hK=>?_⟩
        have e47:a.tmps.getD 47 undef=.int .i64 (d:Int):=hs.dep 9 _ rfl rfl
        have hw:=Lib.hid (HA1.out _ u w hC (by decide) (by decide))
        have q0:=H48.out
        refine wp_of_val ?_
        refine ValWp.pure (v:=.int .i64 (r:Int)) (w':=w) (fun K' hK'=>?_) (hK _ _ rfl (H1.out _ _ w (by decide) (by decide) hw.out))
        simp only[ValWp,execOp,Act.eval,e47]
        go_simp
        all_goals exact hK'
       ·
        refine OwesS.w rfl fun a w u hC hl hs=>⟨rfl,fun K hK=>?_⟩
        have e48:a.tmps.getD 48 undef=.int .i64 (r:Int):=hs.dep 10 _ rfl rfl
        have hw:=Lib.hid (HA1.out _ u w hC (by decide) (by decide))
        have q0:=H49.out
        refine wp_of_val ?_
        refine ValWp.pure (v:=.bool on) (w':=w) (fun K' hK'=>?_) (hK _ _ rfl (H1.out _ _ w (by decide) (by decide) hw.out))
        simp only[ValWp,execOp,Act.eval,e48]
        go_simp
        all_goals exact hK'
       ·
        refine OwesS.w rfl fun a w u hC hl hs=>⟨rfl,fun K hK=>?_⟩
        have e38:a.tmps.getD 38 undef=.agg #[.slice va nv cv,.slice aA an ac,.int .i64 sI,.string fS]:=hs.dep 0 _ rfl rfl
        have e40:a.tmps.getD 40 undef=.int .u8 102:=hs.dep 2 _ rfl rfl
        have e49:a.tmps.getD 49 undef=.bool on:=hs.dep 11 _ rfl rfl
        have hw:=HA1.out _ u w hC (by decide) (by decide)
        refine wp_of_val ?_
        refine ValWp.call #[.agg #[.slice va nv cv,.slice aA an ac,.int .i64 sI,.string fS],.int .u8 102,.bool on] rfl rfl Tryz.func20 rfl rfl (by simp only[List.map_toArray,List.map_cons,List.map_nil,Act.eval,e38,e40,e49]) ?_
        refine(HFLG.out w hw).mono ?_
        rintro e w' ⟨⟨v,rfl,hf⟩,hl⟩
        exact⟨v,rfl,hK v w' trivial (H2.out w w' v hw hl hf)⟩
       ·
        refine OwesS.w rfl fun a w u hC hl hs=>⟨rfl,fun K hK=>?_⟩
        have e9:a.tmps.getD 9 undef=.pointer (some ⟨W.heap.size+1,0,none⟩):=hs.free 9 rfl
        have e50:a.tmps.getD 50 undef=u:=hl
        obtain⟨w9,hrun,h9⟩:=HST.out u w hC
        exact wp_of_val (ValWp.storeR rfl e9 e50 hrun (hK _ _ trivial h9))
      ·intro a w u hC hl hd hsz hfree hs
       obtain⟨u38,hu38⟩:∃ u,u=a.tmps.getD 38 undef:=⟨_,rfl⟩
       obtain⟨u39,hu39⟩:∃ u,u=a.tmps.getD 39 undef:=⟨_,rfl⟩
       obtain⟨u40,hu40⟩:∃ u,u=a.tmps.getD 40 undef:=⟨_,rfl⟩
       obtain⟨u41,hu41⟩:∃ u,u=a.tmps.getD 41 undef:=⟨_,rfl⟩
       obtain⟨u42,hu42⟩:∃ u,u=a.tmps.getD 42 undef:=⟨_,rfl⟩
       obtain⟨u43,hu43⟩:∃ u,u=a.tmps.getD 43 undef:=⟨_,rfl⟩
       obtain⟨u44,hu44⟩:∃ u,u=a.tmps.getD 44 undef:=⟨_,rfl⟩
       obtain⟨u45,hu45⟩:∃ u,u=a.tmps.getD 45 undef:=⟨_,rfl⟩
       obtain⟨u46,hu46⟩:∃ u,u=a.tmps.getD 46 undef:=⟨_,rfl⟩
       obtain⟨u47,hu47⟩:∃ u,u=a.tmps.getD 47 undef:=⟨_,rfl⟩
       obtain⟨u48,hu48⟩:∃ u,u=a.tmps.getD 48 undef:=⟨_,rfl⟩
       obtain⟨u49,hu49⟩:∃ u,u=a.tmps.getD 49 undef:=⟨_,rfl⟩
       obtain⟨u50,hu50⟩:∃ u,u=a.tmps.getD 50 undef:=⟨_,rfl⟩
       have hal:AllAt a 0 [_,_,_,_,_,_,_,_,_,_,_,_,_,_,_,_,_,_,_,_,_,_,_,_,_,_,_,_,_,_,_,_,_,_,_,_,_,_,u38,u39,u40,u41,u42,u43,u44,u45,u46,u47,u48,u49,u50,_]:=⟨hfree 0 rfl,hfree 1 rfl,hfree 2 rfl,hfree 3 rfl,hfree 4 rfl,hfree 5 rfl,hfree 6 rfl,hfree 7 rfl,hfree 8 rfl,hfree 9 rfl,hfree 10 rfl,hfree 11 rfl,hfree 12 rfl,hfree 13 rfl,hfree 14 rfl,hfree 15 rfl,hfree 16 rfl,hfree 17 rfl,hfree 18 rfl,hfree 19 rfl,hfree 20 rfl,hfree 21 rfl,hfree 22 rfl,hfree 23 rfl,hfree 24 rfl,hfree 25 rfl,hfree 26 rfl,hfree 27 rfl,hfree 28 rfl,hfree 29 rfl,hfree 30 rfl,hfree 31 rfl,hfree 32 rfl,hfree 33 rfl,hfree 34 rfl,hfree 35 rfl,hfree 36 rfl,hfree 37 rfl,hu38.symm,hu39.symm,hu40.symm,hu41.symm,hu42.symm,hu43.symm,hu44.symm,hu45.symm,hu46.symm,hu47.symm,hu48.symm,hu49.symm,hu50.symm,hfree 51 rfl,trivial⟩
       have hlit:=fun h=>act_lit hd h hal
       rw[hlit hsz]
       simp only[Array.getD_eq_getD_getElem?,List.getElem?_toArray,List.getElem?_cons_zero,List.getElem?_cons_succ,Option.getD_some]
       clear hlit hal hd hsz hfree hs hu38 hu39 hu40 hu41 hu42 hu43 hu44 hu45 hu46 hu47 hu48 hu49 hu50
       go_wp2
       go_roundw
       case rel=>exact⟨2,2,by first | rfl | go_num,rfl,by omega,Lib.hid (by rw[HE'.out];exact HZ.out _ _ hC)⟩
       case measure=>simp[intOf]
     ·have hkn:(0:Int)≤(2:Int):=by omega
      have H47:=Lib.hid (show IntKind.i64.wrap ((f:Int) / 4)=(d:Int) by
       have h:((f:Int) / 4)=(d:Int):=by rw[hd];omega
       rw[h,IntKind.wrap_i64];omega)
      have HLT:=Lib.hid (fun w hw=>(HCL.out w hw 2).trans (show (#[.int .i64 1,.int .i64 2,.int .i64 4,.int .i64 8]:Array Value)[2]?=some (.int .i64 4) from rfl))
      have hcqn:(cq.toNat:Int)=117:=by rw[hcq];rfl
      rw[hcqn] at HFLG
      clear hcq hcqn hon hr hd hd256
      go_wp2_with fail
      refine wp_region_seq (by kernel_rfl) [5,7,8,9,10,11,12,13] (C0) [some (.agg #[.slice va nv cv,.slice aA an ac,.int .i64 sI,.string fS]),some (.int .i64 2),some (.int .u8 117),some (.int .u8 (f:Int)),some (.int .i64 (f:Int)),some (.slice (some ⟨wr.heap.size,0,none⟩) 4 4),some (.int .i64 2),some (.pointer (some ⟨wr.heap.size,2,none⟩)),some (.int .i64 4),some (.int .i64 (d:Int)),some (.int .i64 (r:Int)),some (.bool on),none,none] (by decide) (by decide) (by kernel_rfl) (by kernel_rfl) (H0.out) ?_ ?_
      ·refine⟨?_,?_,?_,?_,?_,?_,?_,?_,?_,?_,?_,?_,?_,?_,trivial⟩
       ·
        refine OwesS.q rfl fun a w j u hC hb hs=>⟨rfl,?_⟩
        have e9:a.tmps.getD 9 undef=.pointer (some ⟨W.heap.size+1,0,none⟩):=hs.free 9 rfl
        have hj:=hb 6 12 rfl rfl
        exact ValWp.loadR rfl e9 (HLDE.out j u w hC hj) ⟨rfl,rfl⟩
       ·
        refine OwesS.q rfl fun a w j u hC hb hs=>⟨rfl,?_⟩
        have e11:a.tmps.getD 11 undef=.int .i64 2:=hs.free 11 rfl
        refine ValWp.pure (v:=.int .i64 2) (fun K' hK'=>?_) ⟨rfl,rfl⟩
        simp only[ValWp,execOp,Act.eval,e11]
        go_simp
        all_goals exact hK'
       ·
        refine OwesS.q rfl fun a w j u hC hb hs=>⟨rfl,?_⟩
        have e39:a.tmps.getD 39 undef=.int .i64 2:=hs.dep 1 _ rfl rfl
        refine ValWp.pure (v:=.int .u8 117) (fun K' hK'=>?_) ⟨rfl,rfl⟩
        simp only[ValWp,execOp,Act.eval,e39]
        go_simp
        all_goals exact hK'
       ·
        refine OwesS.q rfl fun a w j u hC hb hs=>⟨rfl,?_⟩
        have e2:a.tmps.getD 2 undef=.int .u8 (f:Int):=hs.free 2 rfl
        refine ValWp.pure (v:=.int .u8 (f:Int)) (fun K' hK'=>?_) ⟨rfl,rfl⟩
        simp only[ValWp,execOp,Act.eval,e2]
        go_simp
        all_goals exact hK'
       ·
        refine OwesS.q rfl fun a w j u hC hb hs=>⟨rfl,?_⟩
        have e41:a.tmps.getD 41 undef=.int .u8 (f:Int):=hs.dep 3 _ rfl rfl
        have q0:=HF.out
        refine ValWp.pure (v:=.int .i64 (f:Int)) (fun K' hK'=>?_) ⟨rfl,rfl⟩
        simp only[ValWp,execOp,Act.eval,e41]
        go_simp
        all_goals exact hK'
       ·
        refine OwesS.w rfl fun a w u hC hl hs=>⟨rfl,fun K hK=>?_⟩
        have hw:=HA0.out u w hC
        subst hw
        refine wp_of_val ?_
        refine ValWp.pure (v:=.slice (some ⟨wr.heap.size,0,none⟩) 4 4) (w':=wr.drew.alloc (.cells #[.int .i64 1,.int .i64 2,.int .i64 4,.int .i64 8] 3)) (fun K' hK'=>?_) (hK _ _ rfl (H1.out _ _ _ (by decide) (by decide) rfl))
        simp only[ValWp,execOp,Act.eval,List.map_toArray,List.map_cons,List.map_nil]
        go_simp
        all_goals exact hK'
       ·
        refine OwesS.q rfl fun a w j u hC hb hs=>⟨rfl,?_⟩
        have e11:a.tmps.getD 11 undef=.int .i64 2:=hs.free 11 rfl
        refine ValWp.pure (v:=.int .i64 2) (fun K' hK'=>?_) ⟨rfl,rfl⟩
        simp only[ValWp,execOp,Act.eval,e11]
        go_simp
        all_goals exact hK'
       ·
        refine OwesS.w rfl fun a w u hC hl hs=>⟨rfl,fun K hK=>?_⟩
        have e43:a.tmps.getD 43 undef=.slice (some ⟨wr.heap.size,0,none⟩) 4 4:=hs.dep 5 _ rfl rfl
        have e44:a.tmps.getD 44 undef=.int .i64 2:=hs.dep 6 _ rfl rfl
        have hw:=Lib.hid (HA1.out _ u w hC (by decide) (by decide))
        refine wp_of_val ?_
        refine ValWp.pure (v:=.pointer (some ⟨wr.heap.size,2,none⟩)) (w':=w) (fun K' hK'=>?_) (hK _ _ rfl (H1.out _ _ w (by decide) (by decide) hw.out))
        simp only[ValWp,execOp,Act.eval,e43,e44]
        go_simp
        all_goals exact hK'
       ·
        refine OwesS.w rfl fun a w u hC hl hs=>⟨rfl,fun K hK=>?_⟩
        have e45:a.tmps.getD 45 undef=.pointer (some ⟨wr.heap.size,2,none⟩):=hs.dep 7 _ rfl rfl
        have hw:=Lib.hid (HA1.out _ u w hC (by decide) (by decide))
        have q0:=HLT.out w hw.out
        refine wp_of_val ?_
        refine ValWp.pure (v:=.int .i64 4) (w':=w) (fun K' hK'=>?_) (hK _ _ rfl (H1.out _ _ w (by decide) (by decide) hw.out))
        simp only[ValWp,execOp,Act.eval,e45]
        go_simp
        all_goals exact hK'
       ·
        refine OwesS.w rfl fun a w u hC hl hs=>⟨rfl,fun K hK=>?_⟩
        have e42:a.tmps.getD 42 undef=.int .i64 (f:Int):=hs.dep 4 _ rfl rfl
        have e46:a.tmps.getD 46 undef=.int .i64 4:=hs.dep 8 _ rfl rfl
        have hw:=Lib.hid (HA1.out _ u w hC (by decide) (by decide))
        have q0:=H47.out
        refine wp_of_val ?_
        refine ValWp.pure (v:=.int .i64 (d:Int)) (w':=w) (fun K' hK'=>?_) (hK _ _ rfl (H1.out _ _ w (by decide) (by decide) hw.out))
        simp only[ValWp,execOp,Act.eval,e42,e46]
        go_simp
        all_goals exact hK'
       ·
        refine OwesS.w rfl fun a w u hC hl hs=>⟨rfl,fun K hK=>?_⟩
        have e47:a.tmps.getD 47 undef=.int .i64 (d:Int):=hs.dep 9 _ rfl rfl
        have hw:=Lib.hid (HA1.out _ u w hC (by decide) (by decide))
        have q0:=H48.out
        refine wp_of_val ?_
        refine ValWp.pure (v:=.int .i64 (r:Int)) (w':=w) (fun K' hK'=>?_) (hK _ _ rfl (H1.out _ _ w (by decide) (by decide) hw.out))
        simp only[ValWp,execOp,Act.eval,e47]
        go_simp
        all_goals exact hK'
       ·
        refine OwesS.w rfl fun a w u hC hl hs=>⟨rfl,fun K hK=>?_⟩
        have e48:a.tmps.getD 48 undef=.int .i64 (r:Int):=hs.dep 10 _ rfl rfl
        have hw:=Lib.hid (HA1.out _ u w hC (by decide) (by decide))
        have q0:=H49.out
        refine wp_of_val ?_
        refine ValWp.pure (v:=.bool on) (w':=w) (fun K' hK'=>?_) (hK _ _ rfl (H1.out _ _ w (by decide) (by decide) hw.out))
        simp only[ValWp,execOp,Act.eval,e48]
        go_simp
        all_goals exact hK'
       ·
        refine OwesS.w rfl fun a w u hC hl hs=>⟨rfl,fun K hK=>?_⟩
        have e38:a.tmps.getD 38 undef=.agg #[.slice va nv cv,.slice aA an ac,.int .i64 sI,.string fS]:=hs.dep 0 _ rfl rfl
        have e40:a.tmps.getD 40 undef=.int .u8 117:=hs.dep 2 _ rfl rfl
        have e49:a.tmps.getD 49 undef=.bool on:=hs.dep 11 _ rfl rfl
        have hw:=HA1.out _ u w hC (by decide) (by decide)
        refine wp_of_val ?_
        refine ValWp.call #[.agg #[.slice va nv cv,.slice aA an ac,.int .i64 sI,.string fS],.int .u8 117,.bool on] rfl rfl Tryz.func20 rfl rfl (by simp only[List.map_toArray,List.map_cons,List.map_nil,Act.eval,e38,e40,e49]) ?_
        refine(HFLG.out w hw).mono ?_
        rintro e w' ⟨⟨v,rfl,hf⟩,hl⟩
        exact⟨v,rfl,hK v w' trivial (H2.out w w' v hw hl hf)⟩
       ·
        refine OwesS.w rfl fun a w u hC hl hs=>⟨rfl,fun K hK=>?_⟩
        have e9:a.tmps.getD 9 undef=.pointer (some ⟨W.heap.size+1,0,none⟩):=hs.free 9 rfl
        have e50:a.tmps.getD 50 undef=u:=hl
        obtain⟨w9,hrun,h9⟩:=HST.out u w hC
        exact wp_of_val (ValWp.storeR rfl e9 e50 hrun (hK _ _ trivial h9))
      ·intro a w u hC hl hd hsz hfree hs
       obtain⟨u38,hu38⟩:∃ u,u=a.tmps.getD 38 undef:=⟨_,rfl⟩
       obtain⟨u39,hu39⟩:∃ u,u=a.tmps.getD 39 undef:=⟨_,rfl⟩
       obtain⟨u40,hu40⟩:∃ u,u=a.tmps.getD 40 undef:=⟨_,rfl⟩
       obtain⟨u41,hu41⟩:∃ u,u=a.tmps.getD 41 undef:=⟨_,rfl⟩
       obtain⟨u42,hu42⟩:∃ u,u=a.tmps.getD 42 undef:=⟨_,rfl⟩
       obtain⟨u43,hu43⟩:∃ u,u=a.tmps.getD 43 undef:=⟨_,rfl⟩
       obtain⟨u44,hu44⟩:∃ u,u=a.tmps.getD 44 undef:=⟨_,rfl⟩
       obtain⟨u45,hu45⟩:∃ u,u=a.tmps.getD 45 undef:=⟨_,rfl⟩
       obtain⟨u46,hu46⟩:∃ u,u=a.tmps.getD 46 undef:=⟨_,rfl⟩
       obtain⟨u47,hu47⟩:∃ u,u=a.tmps.getD 47 undef:=⟨_,rfl⟩
       obtain⟨u48,hu48⟩:∃ u,u=a.tmps.getD 48 undef:=⟨_,rfl⟩
       obtain⟨u49,hu49⟩:∃ u,u=a.tmps.getD 49 undef:=⟨_,rfl⟩
       obtain⟨u50,hu50⟩:∃ u,u=a.tmps.getD 50 undef:=⟨_,rfl⟩
       have hal:AllAt a 0 [_,_,_,_,_,_,_,_,_,_,_,_,_,_,_,_,_,_,_,_,_,_,_,_,_,_,_,_,_,_,_,_,_,_,_,_,_,_,u38,u39,u40,u41,u42,u43,u44,u45,u46,u47,u48,u49,u50,_]:=⟨hfree 0 rfl,hfree 1 rfl,hfree 2 rfl,hfree 3 rfl,hfree 4 rfl,hfree 5 rfl,hfree 6 rfl,hfree 7 rfl,hfree 8 rfl,hfree 9 rfl,hfree 10 rfl,hfree 11 rfl,hfree 12 rfl,hfree 13 rfl,hfree 14 rfl,hfree 15 rfl,hfree 16 rfl,hfree 17 rfl,hfree 18 rfl,hfree 19 rfl,hfree 20 rfl,hfree 21 rfl,hfree 22 rfl,hfree 23 rfl,hfree 24 rfl,hfree 25 rfl,hfree 26 rfl,hfree 27 rfl,hfree 28 rfl,hfree 29 rfl,hfree 30 rfl,hfree 31 rfl,hfree 32 rfl,hfree 33 rfl,hfree 34 rfl,hfree 35 rfl,hfree 36 rfl,hfree 37 rfl,hu38.symm,hu39.symm,hu40.symm,hu41.symm,hu42.symm,hu43.symm,hu44.symm,hu45.symm,hu46.symm,hu47.symm,hu48.symm,hu49.symm,hu50.symm,hfree 51 rfl,trivial⟩
       have hlit:=fun h=>act_lit hd h hal
       rw[hlit hsz]
       simp only[Array.getD_eq_getD_getElem?,List.getElem?_toArray,List.getElem?_cons_zero,List.getElem?_cons_succ,Option.getD_some]
       clear hlit hal hd hsz hfree hs hu38 hu39 hu40 hu41 hu42 hu43 hu44 hu45 hu46 hu47 hu48 hu49 hu50
       go_wp2
       go_roundw
       case rel=>exact⟨3,3,by first | rfl | go_num,rfl,by omega,Lib.hid (by rw[HE'.out];exact HZ.out _ _ hC)⟩
       case measure=>simp[intOf]
     ·have hkn:(0:Int)≤(3:Int):=by omega
      have H47:=Lib.hid (show IntKind.i64.wrap ((f:Int) / 8)=(d:Int) by
       have h:((f:Int) / 8)=(d:Int):=by rw[hd];omega
       rw[h,IntKind.wrap_i64];omega)
      have HLT:=Lib.hid (fun w hw=>(HCL.out w hw 3).trans (show (#[.int .i64 1,.int .i64 2,.int .i64 4,.int .i64 8]:Array Value)[3]?=some (.int .i64 8) from rfl))
      have hcqn:(cq.toNat:Int)=120:=by rw[hcq];rfl
      rw[hcqn] at HFLG
      clear hcq hcqn hon hr hd hd256
      go_wp2_with fail
      refine wp_region_seq (by kernel_rfl) [5,7,8,9,10,11,12,13] (C0) [some (.agg #[.slice va nv cv,.slice aA an ac,.int .i64 sI,.string fS]),some (.int .i64 3),some (.int .u8 120),some (.int .u8 (f:Int)),some (.int .i64 (f:Int)),some (.slice (some ⟨wr.heap.size,0,none⟩) 4 4),some (.int .i64 3),some (.pointer (some ⟨wr.heap.size,3,none⟩)),some (.int .i64 8),some (.int .i64 (d:Int)),some (.int .i64 (r:Int)),some (.bool on),none,none] (by decide) (by decide) (by kernel_rfl) (by kernel_rfl) (H0.out) ?_ ?_
      ·refine⟨?_,?_,?_,?_,?_,?_,?_,?_,?_,?_,?_,?_,?_,?_,trivial⟩
       ·
        refine OwesS.q rfl fun a w j u hC hb hs=>⟨rfl,?_⟩
        have e9:a.tmps.getD 9 undef=.pointer (some ⟨W.heap.size+1,0,none⟩):=hs.free 9 rfl
        have hj:=hb 6 12 rfl rfl
        exact ValWp.loadR rfl e9 (HLDE.out j u w hC hj) ⟨rfl,rfl⟩
       ·
        refine OwesS.q rfl fun a w j u hC hb hs=>⟨rfl,?_⟩
        have e11:a.tmps.getD 11 undef=.int .i64 3:=hs.free 11 rfl
        refine ValWp.pure (v:=.int .i64 3) (fun K' hK'=>?_) ⟨rfl,rfl⟩
        simp only[ValWp,execOp,Act.eval,e11]
        go_simp
        all_goals exact hK'
       ·
        refine OwesS.q rfl fun a w j u hC hb hs=>⟨rfl,?_⟩
        have e39:a.tmps.getD 39 undef=.int .i64 3:=hs.dep 1 _ rfl rfl
        refine ValWp.pure (v:=.int .u8 120) (fun K' hK'=>?_) ⟨rfl,rfl⟩
        simp only[ValWp,execOp,Act.eval,e39]
        go_simp
        all_goals exact hK'
       ·
        refine OwesS.q rfl fun a w j u hC hb hs=>⟨rfl,?_⟩
        have e2:a.tmps.getD 2 undef=.int .u8 (f:Int):=hs.free 2 rfl
        refine ValWp.pure (v:=.int .u8 (f:Int)) (fun K' hK'=>?_) ⟨rfl,rfl⟩
        simp only[ValWp,execOp,Act.eval,e2]
        go_simp
        all_goals exact hK'
       ·
        refine OwesS.q rfl fun a w j u hC hb hs=>⟨rfl,?_⟩
        have e41:a.tmps.getD 41 undef=.int .u8 (f:Int):=hs.dep 3 _ rfl rfl
        have q0:=HF.out
        refine ValWp.pure (v:=.int .i64 (f:Int)) (fun K' hK'=>?_) ⟨rfl,rfl⟩
        simp only[ValWp,execOp,Act.eval,e41]
        go_simp
        all_goals exact hK'
       ·
        refine OwesS.w rfl fun a w u hC hl hs=>⟨rfl,fun K hK=>?_⟩
        have hw:=HA0.out u w hC
        subst hw
        refine wp_of_val ?_
        refine ValWp.pure (v:=.slice (some ⟨wr.heap.size,0,none⟩) 4 4) (w':=wr.drew.alloc (.cells #[.int .i64 1,.int .i64 2,.int .i64 4,.int .i64 8] 3)) (fun K' hK'=>?_) (hK _ _ rfl (H1.out _ _ _ (by decide) (by decide) rfl))
        simp only[ValWp,execOp,Act.eval,List.map_toArray,List.map_cons,List.map_nil]
        go_simp
        all_goals exact hK'
       ·
        refine OwesS.q rfl fun a w j u hC hb hs=>⟨rfl,?_⟩
        have e11:a.tmps.getD 11 undef=.int .i64 3:=hs.free 11 rfl
        refine ValWp.pure (v:=.int .i64 3) (fun K' hK'=>?_) ⟨rfl,rfl⟩
        simp only[ValWp,execOp,Act.eval,e11]
        go_simp
        all_goals exact hK'
       ·
        refine OwesS.w rfl fun a w u hC hl hs=>⟨rfl,fun K hK=>?_⟩
        have e43:a.tmps.getD 43 undef=.slice (some ⟨wr.heap.size,0,none⟩) 4 4:=hs.dep 5 _ rfl rfl
        have e44:a.tmps.getD 44 undef=.int .i64 3:=hs.dep 6 _ rfl rfl
        have hw:=Lib.hid (HA1.out _ u w hC (by decide) (by decide))
        refine wp_of_val ?_
        refine ValWp.pure (v:=.pointer (some ⟨wr.heap.size,3,none⟩)) (w':=w) (fun K' hK'=>?_) (hK _ _ rfl (H1.out _ _ w (by decide) (by decide) hw.out))
        simp only[ValWp,execOp,Act.eval,e43,e44]
        go_simp
        all_goals exact hK'
       ·
        refine OwesS.w rfl fun a w u hC hl hs=>⟨rfl,fun K hK=>?_⟩
        have e45:a.tmps.getD 45 undef=.pointer (some ⟨wr.heap.size,3,none⟩):=hs.dep 7 _ rfl rfl
        have hw:=Lib.hid (HA1.out _ u w hC (by decide) (by decide))
        have q0:=HLT.out w hw.out
        refine wp_of_val ?_
        refine ValWp.pure (v:=.int .i64 8) (w':=w) (fun K' hK'=>?_) (hK _ _ rfl (H1.out _ _ w (by decide) (by decide) hw.out))
        simp only[ValWp,execOp,Act.eval,e45]
        go_simp
        all_goals exact hK'
       ·
        refine OwesS.w rfl fun a w u hC hl hs=>⟨rfl,fun K hK=>?_⟩
        have e42:a.tmps.getD 42 undef=.int .i64 (f:Int):=hs.dep 4 _ rfl rfl
        have e46:a.tmps.getD 46 undef=.int .i64 8:=hs.dep 8 _ rfl rfl
        have hw:=Lib.hid (HA1.out _ u w hC (by decide) (by decide))
        have q0:=H47.out
        refine wp_of_val ?_
        refine ValWp.pure (v:=.int .i64 (d:Int)) (w':=w) (fun K' hK'=>?_) (hK _ _ rfl (H1.out _ _ w (by decide) (by decide) hw.out))
        simp only[ValWp,execOp,Act.eval,e42,e46]
        go_simp
        all_goals exact hK'
       ·
        refine OwesS.w rfl fun a w u hC hl hs=>⟨rfl,fun K hK=>?_⟩
        have e47:a.tmps.getD 47 undef=.int .i64 (d:Int):=hs.dep 9 _ rfl rfl
        have hw:=Lib.hid (HA1.out _ u w hC (by decide) (by decide))
        have q0:=H48.out
        refine wp_of_val ?_
        refine ValWp.pure (v:=.int .i64 (r:Int)) (w':=w) (fun K' hK'=>?_) (hK _ _ rfl (H1.out _ _ w (by decide) (by decide) hw.out))
        simp only[ValWp,execOp,Act.eval,e47]
        go_simp
        all_goals exact hK'
       ·
        refine OwesS.w rfl fun a w u hC hl hs=>⟨rfl,fun K hK=>?_⟩
        have e48:a.tmps.getD 48 undef=.int .i64 (r:Int):=hs.dep 10 _ rfl rfl
        have hw:=Lib.hid (HA1.out _ u w hC (by decide) (by decide))
        have q0:=H49.out
        refine wp_of_val ?_
        refine ValWp.pure (v:=.bool on) (w':=w) (fun K' hK'=>?_) (hK _ _ rfl (H1.out _ _ w (by decide) (by decide) hw.out))
        simp only[ValWp,execOp,Act.eval,e48]
        go_simp
        all_goals exact hK'
       ·
        refine OwesS.w rfl fun a w u hC hl hs=>⟨rfl,fun K hK=>?_⟩
        have e38:a.tmps.getD 38 undef=.agg #[.slice va nv cv,.slice aA an ac,.int .i64 sI,.string fS]:=hs.dep 0 _ rfl rfl
        have e40:a.tmps.getD 40 undef=.int .u8 120:=hs.dep 2 _ rfl rfl
        have e49:a.tmps.getD 49 undef=.bool on:=hs.dep 11 _ rfl rfl
        have hw:=HA1.out _ u w hC (by decide) (by decide)
        refine wp_of_val ?_
        refine ValWp.call #[.agg #[.slice va nv cv,.slice aA an ac,.int .i64 sI,.string fS],.int .u8 120,.bool on] rfl rfl Tryz.func20 rfl rfl (by simp only[List.map_toArray,List.map_cons,List.map_nil,Act.eval,e38,e40,e49]) ?_
        refine(HFLG.out w hw).mono ?_
        rintro e w' ⟨⟨v,rfl,hf⟩,hl⟩
        exact⟨v,rfl,hK v w' trivial (H2.out w w' v hw hl hf)⟩
       ·
        refine OwesS.w rfl fun a w u hC hl hs=>⟨rfl,fun K hK=>?_⟩
        have e9:a.tmps.getD 9 undef=.pointer (some ⟨W.heap.size+1,0,none⟩):=hs.free 9 rfl
        have e50:a.tmps.getD 50 undef=u:=hl
        obtain⟨w9,hrun,h9⟩:=HST.out u w hC
        exact wp_of_val (ValWp.storeR rfl e9 e50 hrun (hK _ _ trivial h9))
      ·intro a w u hC hl hd hsz hfree hs
       obtain⟨u38,hu38⟩:∃ u,u=a.tmps.getD 38 undef:=⟨_,rfl⟩
       obtain⟨u39,hu39⟩:∃ u,u=a.tmps.getD 39 undef:=⟨_,rfl⟩
       obtain⟨u40,hu40⟩:∃ u,u=a.tmps.getD 40 undef:=⟨_,rfl⟩
       obtain⟨u41,hu41⟩:∃ u,u=a.tmps.getD 41 undef:=⟨_,rfl⟩
       obtain⟨u42,hu42⟩:∃ u,u=a.tmps.getD 42 undef:=⟨_,rfl⟩
       obtain⟨u43,hu43⟩:∃ u,u=a.tmps.getD 43 undef:=⟨_,rfl⟩
       obtain⟨u44,hu44⟩:∃ u,u=a.tmps.getD 44 undef:=⟨_,rfl⟩
       obtain⟨u45,hu45⟩:∃ u,u=a.tmps.getD 45 undef:=⟨_,rfl⟩
       obtain⟨u46,hu46⟩:∃ u,u=a.tmps.getD 46 undef:=⟨_,rfl⟩
       obtain⟨u47,hu47⟩:∃ u,u=a.tmps.getD 47 undef:=⟨_,rfl⟩
       obtain⟨u48,hu48⟩:∃ u,u=a.tmps.getD 48 undef:=⟨_,rfl⟩
       obtain⟨u49,hu49⟩:∃ u,u=a.tmps.getD 49 undef:=⟨_,rfl⟩
       obtain⟨u50,hu50⟩:∃ u,u=a.tmps.getD 50 undef:=⟨_,rfl⟩
       have hal:AllAt a 0 [_,_,_,_,_,_,_,_,_,_,_,_,_,_,_,_,_,_,_,_,_,_,_,_,_,_,_,_,_,_,_,_,_,_,_,_,_,_,u38,u39,u40,u41,u42,u43,u44,u45,u46,u47,u48,u49,u50,_]:=⟨hfree 0 rfl,hfree 1 rfl,hfree 2 rfl,hfree 3 rfl,hfree 4 rfl,hfree 5 rfl,hfree 6 rfl,hfree 7 rfl,hfree 8 rfl,hfree 9 rfl,hfree 10 rfl,hfree 11 rfl,hfree 12 rfl,hfree 13 rfl,hfree 14 rfl,hfree 15 rfl,hfree 16 rfl,hfree 17 rfl,hfree 18 rfl,hfree 19 rfl,hfree 20 rfl,hfree 21 rfl,hfree 22 rfl,hfree 23 rfl,hfree 24 rfl,hfree 25 rfl,hfree 26 rfl,hfree 27 rfl,hfree 28 rfl,hfree 29 rfl,hfree 30 rfl,hfree 31 rfl,hfree 32 rfl,hfree 33 rfl,hfree 34 rfl,hfree 35 rfl,hfree 36 rfl,hfree 37 rfl,hu38.symm,hu39.symm,hu40.symm,hu41.symm,hu42.symm,hu43.symm,hu44.symm,hu45.symm,hu46.symm,hu47.symm,hu48.symm,hu49.symm,hu50.symm,hfree 51 rfl,trivial⟩
       have hlit:=fun h=>act_lit hd h hal
       rw[hlit hsz]
       simp only[Array.getD_eq_getD_getElem?,List.getElem?_toArray,List.getElem?_cons_zero,List.getElem?_cons_succ,Option.getD_some]
       clear hlit hal hd hsz hfree hs hu38 hu39 hu40 hu41 hu42 hu43 hu44 hu45 hu46 hu47 hu48 hu49 hu50
       go_wp2
       go_roundw
       case rel=>exact⟨4,4,by first | rfl | go_num,rfl,by omega,Lib.hid (by rw[HE'.out];exact HZ.out _ _ hC)⟩
       case measure=>simp[intOf]
    ·have hk:k=4:=by omega
     subst hk
     subst hz
     have HEK:=Lib.hid (show ek=madeE l xs f st by rw[hek];unfold madeE;rw[HEV.out])
     have HO1:=Lib.hid (show (#[.slice va nv cv,.slice aA an ac,.int .i64 sI,.string fS]:Array Value).all (·.oneCell')=true by simp[Value.oneCell'])
     have HI2:=Lib.hid (show (Tryz.prog.info? 28).map (·.size)=some (#[.slice va nv cv,.slice aA an ac,.int .i64 sI,.string fS]:Array Value).size from(show (Tryz.prog.info? 28).map (·.size)=some 4 by kernel_rfl))
     clear hek hmd hbx hre hsI hfS hsb
     go_wp2_with (first
      |(refine wpList_loadO rfl 28 (.tmp 9) rfl (W.heap.size+1) #[.slice va nv cv,.slice aA an ac,.int .i64 sI,.string fS] _ rfl HBX.out Tryz.underlying28 rfl HI2.out ?_)
      |(refine wpList_storeO rfl 28 (.tmp 8) (.tmp 51) rfl W.heap.size _ #[.slice va nv cv,.slice aA an ac,.int .i64 sI,.string fS] rfl rfl HM.out.rs HI2.out rfl HO1.out ?_;intro w7 hb7 hg7 hz7;(have HB7:=Lib.hid hb7);(have HG7:=Lib.hid hg7);clear hb7 hg7 hz7))
     refine bodyPost_ret (En.results_Env rfl _ _ W.heap.size _ (0,0) rfl HB7.out rfl) rfl ?_
     have q9:=HSB.out w7 HG7.out.size (fun k h1 h2 h3=>HG7.out.block k h3 (fun e=>h1 (by injection e)))
     rw[HEK.out] at q9
     exact⟨⟨_,_,_,_,_,_,_,_,rfl,q9⟩,later_of_new HM.out.low HG7.out (Nat.le_refl _)⟩
end Ex
end Go.Proofs.YtipdgmjplnibeaaGreatDoor
namespace Go.Proofs.YtipdgmjplnibeaaGreatDoor
open Go.RowKit Go.Maps
set_option maxRecDepth 100000
namespace Ex
open Jo (ft fm rows)
open En (E Vs RdE RdP Vd Rises FrE efux)
theorem madeE_md {l:Vs} (hk:∀ p∈l,p.1.length≤20∧p.2.length≤30) (xs:List B) (f st:Nat):Md xs st l.length (madeE l xs f st):=by
 have h:=md_F (md_V hk xs st l.length (Nat.le_refl _)) f 4
 rw[List.take_of_length_le (Nat.le_refl _)] at h
 exact h
theorem madeE_fl (l:Vs) (xs:List B) (f st:Nat):(madeE l xs f st).flags.length≤4:=List.length_filter_le _ _
theorem sm_of {xs:List B} {st m:Nat} {e:E} (h:Md xs st m e) (hf:e.flags.length≤4) (hm:m≤1000) (hx:xs.length≤8) (hxs:∀ x∈xs,x.length≤30) (hst:st≤255):Sm e=true:=by
 unfold Sm
 rw[h.args,h.status]
 simp only[Bool.and_eq_true,decide_eq_true_eq,List.all_eq_true]
 have:=h.len
 exact⟨⟨⟨⟨⟨by omega,fun p hp=>by have:=h.vals p hp;omega⟩,by omega⟩,fun x hx'=>by have:=hxs x hx';omega⟩,by omega⟩,by omega⟩
theorem parse_vq:Wd.parse [34,36,118,34]=([PX [118] true],0):=by kernel_rfl
theorem parse_vb:Wd.parse [36,118]=([PX [118] false],0):=by kernel_rfl
theorem word_v {e:E} {raw v:B} {q:Bool} (hp:Wd.parse raw=([PX [118] q],0)) (hg:En.get Ar.nameB e [118]=(v,true)) (hv:v.length≤1000):word e raw=.ok (pt v (lt q)) e:=by
 unfold word
 rw[hp]
 show (if (0:Nat)≠0 then _ else rowD 10 e [PX [118] q])=_
 rw[if_neg (by decide)]
 refine row_one ?_ (by have:=pt_len v (lt q);omega)
 show (if ([118]:B).length≤100000∧([]:B).length≤100000∧(([]:B).all fun x=>decide (x.toNat<128))=true then parF (rowD 9) e (PX [118] q) else .big)=_
 rw[if_pos ⟨by simp,by simp,rfl⟩]
 rw[par_go (p:=PX [118] q) (n:=1) rfl hg (by simp) (by intro h;cases h) (show Pm.does [] v true=1 by unfold Pm.does Pm.col;rw[if_pos rfl];by_cases h:v=[] <;> simp[h] <;> rfl),if_pos rfl,if_neg (by intro h;rcases h with h | h <;> cases h)]
 unfold ptR
 rw[if_pos (by omega)]
 rfl
theorem word_single {e:E} {s:B} (h:(39:UInt8)∉s) (hs:s.length≤1000):word e ([39]++s++[39])=.ok (pt s 113) e:=by
 unfold word
 rw[Wd.parse_single h]
 show (if (0:Nat)≠0 then _ else rowD 10 e [.mk 2 s [] false []])=_
 rw[if_neg (by decide)]
 refine row_one ?_ (by have:=pt_len s 113;omega)
 show (if s.length≤100000∧([]:B).length≤100000∧(([]:B).all fun x=>decide (x.toNat<128))=true then _ else Res.big)=_
 rw[if_pos ⟨by omega,by simp,rfl⟩]
 rfl
theorem ft_all (x:B) (c:UInt8):ft (x.map fun y=>(y,c))=x:=by
 unfold ft
 rw[List.map_map]
 simp[Function.comp_def]
theorem ft_at {l:List B} {c:UInt8} (k:Nat) (h:k<(l.map fun x=>x.map fun y=>(y,c)).length):ft (l.map fun x=>x.map fun y=>(y,c))[k]=l.getD k []:=by
 have hk:k<l.length:=by simpa using h
 rw[List.getElem_map,ft_all,List.getD_eq_getElem?_getD,List.getElem?_eq_getElem hk]
 rfl
theorem split_pq (ifs s:B):Jo.split ifs (pt s 113)=[s].map fun x=>x.map fun y=>(y,113):=by rw[split_pt (.inl rfl),fields_quo]
theorem fields_single {W:World} {e:E} {s:B} (h39:(39:UInt8)∉s) (hl:s.length≤1000) (hg:Gw W) (hs:Sm e=true) (hu:Rises e.vars):FieldsTo W e e (mkS ([39]++s++[39])) 1 fun k=>[s].getD k []:=
 FieldsTo.of (W:=W) (tx:=fun k=>[s].getD k []) (word_single h39 hl) (split_pq (En.ifs e.vars) s) ft_at hg hs hu (by simp;omega)
theorem fields_vq {W:World} {e:E} {s:B} (hv:En.get Ar.nameB e [118]=(s,true)) (hl:s.length≤1000) (hg:Gw W) (hs:Sm e=true) (hu:Rises e.vars):FieldsTo W e e (mkS [34,36,118,34]) 1 fun k=>[s].getD k []:=
 FieldsTo.of (W:=W) (tx:=fun k=>[s].getD k []) (word_v parse_vq hv hl) (split_pq (En.ifs e.vars) s) ft_at hg hs hu (by simp)
theorem told_v {e:E} {s:B} (hv:En.get Ar.nameB e [118]=(s,true)) (hl:s.length≤1000):∃ r,word e [36,118]=.ok r e∧flat r=s:=⟨_,word_v parse_vb hv hl,flat_pt s (lt false) (by decide)⟩
theorem set_any {W:World} {va:Value} {e:E} (s v:B) (h:RdE W va e) (hu:Rises e.vars) (hl:e.vars.length≤1000) (ha:e.args.length≤1000) (hs:s.length≤1000):Calls Tryz.prog 14 #[va,.string (mkS s),.string (mkS v)] W fun x W'=>(∃ Av nv cv A na c st fl,x=.returned (.agg #[.slice Av nv cv,.slice A na c,.int .i64 st,.string fl])∧RdE W' (.agg #[.slice Av nv cv,.slice A na c,.int .i64 st,.string fl]) (En.set Ar.nameB e s v))∧Later W W':=by
 refine(En.set_v va e s v W h hu (by omega) (by omega) (by omega)).mono ?_
 rintro x w' ⟨⟨u,rfl,hf⟩,hl⟩
 obtain⟨Av,nv,cv,A,na,c,st,fl,rfl⟩:=rd_shape hf.rd
 exact⟨⟨Av,nv,cv,A,na,c,st,fl,rfl,hf.rd⟩,hl⟩
end Ex
end Go.Proofs.YtipdgmjplnibeaaGreatDoor
namespace Go.Proofs.YtipdgmjplnibeaaGreatDoor
open Go.RowKit Go.ChangeShapes Go.WideShapes Go.ChangeAt Go.Deep
namespace En
section
variable {H:Type} {enc:TypeId×Value→H} {P:Program} {w:World} {base:Nat} {spare:Nat→Bool} {held:Bool}
theorem bd_string {t:TypeId} {u:Value} {fuel:Nat} {y:DataW H×List MemPlace} (ht:P.underlying t=some .string) (h:DataW.trod enc P w base spare held fuel t [u]=some y):∃ s:ByteArray,u=.string s∧s.size≤maxLen:=by
 obtain⟨s,h1,_,h3⟩:=DataW.trod_string ht h
 exact⟨s,by simpa using h1,h3⟩
theorem bd_fields {t:TypeId} {fs:Array Field} {cs:List Value} {fuel:Nat} {y:DataW H×List MemPlace} (hs:P.underlying t=some (.struct fs)) (hone:oneCellFields P fs=true)
  (h:DataW.trod enc P w base spare held fuel t cs=some y) :
  ∃ fuel,∀ (i:Nat) (f:Field) (u:Value),fs[i]?=some f→cs[i]?=some u→∃ y,DataW.trod enc P w base spare held fuel f.type [u]=some y:=by
 obtain⟨xs,n,_,_,_,hxl,hat⟩:=DataW.trod_struct hs h
 refine⟨n,fun i f u hi hu=>?_⟩
 obtain⟨ho,hk⟩:=hone_of hone i f hi
 have h1:=hat i f hi
 rw[ho,hk] at h1
 have hil:i<cs.length:=(List.getElem?_eq_some_iff.1 hu).1
 have hu':cs[i]'hil=u:=(List.getElem?_eq_some_iff.1 hu).2
 have e:(cs.drop i).take 1=[u]:=by rw[List.drop_eq_getElem_cons hil,List.take_succ_cons,List.take_zero,hu']
 have hix:i<xs.length:=by rw[hxl];exact(Array.getElem?_eq_some_iff.1 hi).1
 exact⟨_,(by rw[←e];exact h1.trans (List.getElem?_eq_getElem hix))⟩
theorem bd_0 (a:Addr):a.add 0=a:=by unfold Addr.add;rw[if_pos rfl]
theorem bd_add (b o k:Nat):(⟨b,o,none⟩:Addr).add k=⟨b,o+k,none⟩:=by unfold Addr.add;split <;> simp_all
theorem bd_mk (s:ByteArray):∃ l,s=mkS l∧l.length=s.size:=⟨s.data.toList,(mkS_of s).symm,rfl⟩
theorem rd_binds {t e ts:TypeId} {fs:Array Field} {a:Option Addr} {len cap:Nat} {d:DataW H} {p:List MemPlace} (ht:P.underlying t=some (.slice e)) (he:P.underlying e=some (.struct fs)) (hone:oneCellFields P fs=true) (hC:P.cellsOf e=2)
  (hty:fs.toList.map (·.type)=[ts,ts]) (h2:P.underlying ts=some .string)
  (h:DataW.Trod enc P w base spare held t (.slice a len cap) d p):∃ xs:Vs,RdP w w.heap.size (.slice a len cap) xs∧xs.length=len∧len≤cap∧cap≤maxLen:=by
 obtain⟨fuel,hf⟩:=h
 rcases open_slice ht hf with⟨hcs,_⟩ | ⟨ad,l,c,m,n,D,Pl,hcs,_,hl,hm,hmm,_,hx⟩
 ·simp[Value.cells] at hcs
  obtain⟨rfl,rfl,rfl⟩:=hcs
  exact⟨[],RdP.nil _ _,rfl,Nat.le_refl _,by simp[maxLen]⟩
 simp[Value.cells] at hcs
 obtain⟨rfl,rfl,rfl⟩:=hcs
 have hlm:len≤m:=by rw[hmm];split <;> omega
 have hfs:∀ i,i<2→∃ f,fs[i]?=some f∧some f.type=[ts,ts][i]?:=by
  intro i hi
  have hlen:fs.toList.length=2:=by have:=congrArg List.length hty;simpa using this
  have hi':i<fs.size:=by simpa using (show i<fs.toList.length by omega)
  refine⟨fs[i],Array.getElem?_eq_getElem hi',?_⟩
  rw[←hty,List.getElem?_map]
  simp[Array.getElem?_toList,Array.getElem?_eq_getElem hi']
 have each:∀ i,i<len→∃ z:B×B,(ad.block<w.heap.size∧ad.spot=none∧w.cell? ⟨ad.block,ad.off+i*2,none⟩=some (.string (mkS z.1))∧w.cell? ⟨ad.block,ad.off+i*2+1,none⟩=some (.string (mkS z.2)))∧True:=by
  intro i hi
  obtain⟨cs,hc1,hc2⟩:=hx i (by omega)
  rw[hC] at hc1
  obtain⟨_,hlen,hcell⟩:=World.cells?_some hc1
  obtain⟨fu,hfu⟩:=bd_fields he hone hc2
  have hsp:ad.spot=none:=by
   obtain⟨cs0,hc0,_⟩:=hx 0 (by omega)
   rw[hC] at hc0
   obtain⟨_,hlen0,hcell0⟩:=World.cells?_some hc0
   match cs0,hlen0 with
   | [u0,u1],_=>
    have c0:=hcell0 0 (by omega)
    rw[Nat.zero_mul,bd_0,bd_0] at c0
    exact World.cell?_spot c0
  obtain⟨bk,o,sp⟩:=ad
  simp only at hsp
  subst hsp
  have e0:((⟨bk,o,none⟩:Addr).add (i*2)).add 0=⟨bk,o+i*2,none⟩:=by rw[bd_add,bd_add];rfl
  have e1:((⟨bk,o,none⟩:Addr).add (i*2)).add 1=⟨bk,o+i*2+1,none⟩:=by rw[bd_add,bd_add]
  match cs,hlen with
  | [u0,u1],_=>
   obtain⟨f0,g0,k0⟩:=hfs 0 (by omega)
   obtain⟨f1,g1,k1⟩:=hfs 1 (by omega)
   obtain⟨y0,z0⟩:=hfu 0 f0 u0 g0 rfl
   obtain⟨y1,z1⟩:=hfu 1 f1 u1 g1 rfl
   have c0:=hcell 0 (by omega)
   have c1:=hcell 1 (by omega)
   rw[e0] at c0
   rw[e1] at c1
   rw[Option.some.inj k0] at z0
   rw[Option.some.inj k1] at z1
   obtain⟨s1,rfl,_⟩:=bd_string h2 z0
   obtain⟨s2,rfl,_⟩:=bd_string h2 z1
   obtain⟨t1,rfl,l1⟩:=bd_mk s1
   obtain⟨t2,rfl,l2⟩:=bd_mk s2
   have hlow:=World.block_lt_of_cell? w _ c0
   exact⟨⟨t1,t2⟩,⟨hlow,rfl,c0,c1⟩,trivial⟩
 obtain⟨F,hF⟩:=choose_lt each
 have hlen:((List.range len).map F).length=len:=by simp
 refine⟨(List.range len).map F,⟨⟨some ad,cap,by rw[hlen],by rw[hlen];exact hl,by simpa [maxLen] using hm,by intro h;cases h⟩,fun h0=>?_⟩,hlen,hl,hm⟩
 rw[hlen] at h0
 have hs:=(hF 0 h0).1.2.1
 obtain⟨bk,o,sp⟩:=ad
 simp only at hs
 subst hs
 refine⟨bk,o,cap,by rw[hlen],(hF 0 h0).1.1,fun k hk=>?_⟩
 rw[hlen] at hk
 simp only[List.getElem_map,List.getElem_range]
 exact(hF k hk).1.2.2
end
end En
end Go.Proofs.YtipdgmjplnibeaaGreatDoor
namespace Go.Proofs.YtipdgmjplnibeaaGreatDoor
open Go.RowKit Go.Maps
namespace En
def eqE (a b:E):Bool:=decide (a.vars=b.vars) && decide (a.args=b.args) && decide (a.status=b.status) && decide (a.flags=b.flags)
theorem take_ne {α:Type} {l m:List α} {i:Nat} (h:i<l.length) (h2:i<m.length) (hx:l[i]≠m[i]):l≠m:=fun e=>by subst e;exact hx rfl
theorem take_eq {α:Type} {l m:List α} {i:Nat} (h:i<l.length) (h2:i<m.length) (ht:l.take i=m.take i) (hx:l[i]=m[i]):l.take (i+1)=m.take (i+1):=by
 rw[List.take_succ_eq_append_getElem h,List.take_succ_eq_append_getElem h2,ht,hx]
theorem len_of {w:World} {B:Nat} {A:Option Addr} {n:Nat} {l:List En.B} (h:Rd w B A n (l.map fun x=>.string (mkS x))):n=l.length:=by have:=h.1;simpa using this.symm
end En
end Go.Proofs.YtipdgmjplnibeaaGreatDoor
namespace Go.Proofs.YtipdgmjplnibeaaGreatDoor
open Go.RowKit Go.Maps
namespace En
theorem equalV_v (va vb:Value) (l m:Vs) (W:World) (h1:RdP W W.heap.size va l) (h2:RdP W W.heap.size vb m):Calls Tryz.prog 25 #[va,vb] W fun x W'=>x=.returned (.bool (decide (l=m)))∧Later W W':=by
 obtain⟨Av,cv,rfl,hcv,hcw,_⟩:=h1.le
 obtain⟨Bv,cv2,rfl,hcv2,hcw2,_⟩:=h2.le
 have HV:=Lib.hid h1
 have HV2:=Lib.hid h2
 have hll:l.length≤9223372036854775807:=by omega
 have hlm:m.length≤9223372036854775807:=by omega
 have htl:∀ l:B,(mkS l).toList=l:=toList_mkS
 clear h1 h2 hcv hcw hcv2 hcw2
 by_cases e1:l.length=m.length
 case neg=>
  have f1:((l.length:Int) != (m.length:Int))=true:=by rw[bne_iff_ne];omega
  have f2:((l.length:Int)==(m.length:Int))=false:=by rw[beq_eq_false_iff_ne];omega
  have HNE:=Lib.hid (decide_eq_false (fun h:l=m=>e1 (by rw[h])))
  clear e1
  go_enter Tryz.func25,Tryz.ntmps25
  go_wp2
  go_ret
  exact⟨by rw[HNE.out];rfl,Later.refl _⟩
 have f1:((l.length:Int) != (m.length:Int))=false:=by simp[e1]
 have f2:((l.length:Int)==(m.length:Int))=true:=by rw[beq_iff_eq];omega
 have HE1:=Lib.hid e1
 clear e1
 go_enter Tryz.func25,Tryz.ntmps25
 go_wp2_with fail
 go_loopw [13] (fun s13 wr=>∃ i:Nat,s13=.int .i64 (i:Int)∧i≤l.length∧l.take i=m.take i∧Later W wr) (fun i _=>l.length-(intOf i).toNat)
 case atStart=>exact⟨0,rfl,Nat.zero_le _,rfl,Later.refl _⟩
 case round=>
  obtain⟨i,rfl,hi,htk,hlw⟩:=hrel
  have HTK:=Lib.hid htk
  have HLW:=Lib.hid hlw
  clear hlw htk
  have hi0:(0:Int)≤(i:Int):=by omega
  by_cases hlt:i<l.length
  ·have hlt2:i<m.length:=by rw[←HE1.out];exact hlt
   have hi1:(i:Int)<(l.length:Int):=by omega
   have hi2:(i:Int)<(m.length:Int):=by omega
   obtain⟨g,o,c',u1,hg,hcc⟩:=HV.out.at_ (by omega)
   injection u1 with u1 _ u2
   subst u1 u2
   obtain⟨g2,o2,c2',u1,hg2,hcc2⟩:=HV2.out.at_ (by omega)
   injection u1 with u1 _ u2
   subst u1 u2
   obtain⟨x,hx⟩:∃ x,x=l[i]:=⟨_,rfl⟩
   obtain⟨y,hy⟩:∃ y,y=m[i]:=⟨_,rfl⟩
   have p1:=(HLW.out.cell (p:=⟨g,o+i*2,none⟩) hg).trans (hcc i hlt).1
   have p2:=(HLW.out.cell (p:=⟨g,o+i*2+1,none⟩) hg).trans (hcc i hlt).2
   have q1:=(HLW.out.cell (p:=⟨g2,o2+i*2,none⟩) hg2).trans (hcc2 i hlt2).1
   have q2:=(HLW.out.cell (p:=⟨g2,o2+i*2+1,none⟩) hg2).trans (hcc2 i hlt2).2
   rw[←hx] at p1 p2
   rw[←hy] at q1 q2
   have HX:=Lib.hid (And.intro hx hy)
   have HLT:=Lib.hid (And.intro hlt hlt2)
   clear hcc hcc2 hx hy hg hg2
   by_cases hxy:x=y
   ·subst hxy
    go_wp2
    go_quiet (fail)
    go_wp2_with fail
    go_roundw
    case rel=>exact⟨i+1,by go_num,by omega,take_eq hlt hlt2 HTK.out (by rw[←HX.out.1];exact HX.out.2),HLW.out.trans ⟨rfl,rfl,rfl,Nat.le_refl _,fun _ _=>rfl⟩⟩
    case measure=>simp[intOf];omega
   ·have hne:l≠m:=take_ne HLT.out.1 HLT.out.2 (by rw[←HX.out.1,←HX.out.2];exact hxy)
    have HNE:=Lib.hid (decide_eq_false hne)
    by_cases h1:x.1=y.1
    ·have f5:(x.1==y.1)=true:=by simpa using h1
     have f6:(x.2==y.2)=false:=by
      have:x.2≠y.2:=fun h2=>hxy (Prod.ext h1 h2)
      simpa using this
     clear h1 hxy hne
     go_wp2
     go_quiet (fail)
     go_wp2_with fail
     go_ret
     exact⟨by rw[HNE.out];rfl,HLW.out.trans ⟨rfl,rfl,rfl,Nat.le_refl _,fun _ _=>rfl⟩⟩
    ·have f5:(x.1==y.1)=false:=by simpa using h1
     clear h1 hxy hne
     go_wp2
     go_quiet (fail)
     go_wp2_with fail
     go_ret
     exact⟨by rw[HNE.out];rfl,HLW.out.trans ⟨rfl,rfl,rfl,Nat.le_refl _,fun _ _=>rfl⟩⟩
  ·have hvv:l=m:=by
    have h:=HTK.out
    rw[List.take_of_length_le (by omega),List.take_of_length_le (by have:=HE1.out;omega)] at h
    exact h
   have HVV:=Lib.hid (decide_eq_true hvv)
   clear hvv
   go_wp2
   go_ret
   exact⟨by rw[HVV.out];rfl,HLW.out⟩
theorem equalS_v (A A2:Option Addr) (n c n2 c2:Nat) (l m:List B) (W:World) (h1:Rd W W.heap.size A n (l.map fun x=>.string (mkS x))) (h2:Rd W W.heap.size A2 n2 (m.map fun x=>.string (mkS x))) (hc:n≤9223372036854775807) (hc2:n2≤9223372036854775807):Calls Tryz.prog 26 #[.slice A n c,.slice A2 n2 c2] W fun x W'=>x=.returned (.bool (decide (l=m)))∧Later W W':=by
 have hn:n=l.length:=len_of h1
 have hn2:n2=m.length:=len_of h2
 subst hn hn2
 have HA:=Lib.hid h1
 have HA2:=Lib.hid h2
 have htl:∀ l:B,(mkS l).toList=l:=toList_mkS
 clear h1 h2
 by_cases e1:l.length=m.length
 case neg=>
  have f1:((l.length:Int) != (m.length:Int))=true:=by rw[bne_iff_ne];omega
  have f2:((l.length:Int)==(m.length:Int))=false:=by rw[beq_eq_false_iff_ne];omega
  have HNE:=Lib.hid (decide_eq_false (fun h:l=m=>e1 (by rw[h])))
  clear e1
  go_enter Tryz.func26,Tryz.ntmps26
  go_wp2
  go_ret
  exact⟨by rw[HNE.out];rfl,Later.refl _⟩
 have f1:((l.length:Int) != (m.length:Int))=false:=by simp[e1]
 have f2:((l.length:Int)==(m.length:Int))=true:=by rw[beq_iff_eq];omega
 have HE1:=Lib.hid e1
 clear e1
 go_enter Tryz.func26,Tryz.ntmps26
 go_wp2_with fail
 go_loopw [13] (fun s13 wr=>∃ i:Nat,s13=.int .i64 (i:Int)∧i≤l.length∧l.take i=m.take i∧Later W wr) (fun i _=>l.length-(intOf i).toNat)
 case atStart=>exact⟨0,rfl,Nat.zero_le _,rfl,Later.refl _⟩
 case round=>
  obtain⟨i,rfl,hi,htk,hlw⟩:=hrel
  have HTK:=Lib.hid htk
  have HLW:=Lib.hid hlw
  clear hlw htk
  have hi0:(0:Int)≤(i:Int):=by omega
  by_cases hlt:i<l.length
  ·have hlt2:i<m.length:=by rw[←HE1.out];exact hlt
   have hi1:(i:Int)<(l.length:Int):=by omega
   have hi2:(i:Int)<(m.length:Int):=by omega
   obtain⟨ad,hl1,rfl,hg,hcc⟩:=HA.out.at_map (k:=i) hlt
   obtain⟨ad2,hl2,rfl,hg2,hcc2⟩:=HA2.out.at_map (k:=i) hlt2
   obtain⟨x,hx⟩:∃ x,x=l[i]:=⟨_,rfl⟩
   obtain⟨y,hy⟩:∃ y,y=m[i]:=⟨_,rfl⟩
   have p1:wr.cell? (ad.add i)=some (.string (mkS x)):=(HLW.out.cell (p:=ad.add i) (by rw[block_add];exact hg)).trans (by rw[hx];exact hcc)
   have q1:wr.cell? (ad2.add i)=some (.string (mkS y)):=(HLW.out.cell (p:=ad2.add i) (by rw[block_add];exact hg2)).trans (by rw[hy];exact hcc2)
   have HX:=Lib.hid (And.intro hx hy)
   have HLT:=Lib.hid (And.intro hlt hlt2)
   clear hcc hcc2 hx hy hg hg2
   by_cases hxy:x=y
   ·subst hxy
    go_wp2
    go_quiet (fail)
    go_wp2_with fail
    go_roundw
    case rel=>exact⟨i+1,by go_num,by omega,take_eq hlt hlt2 HTK.out (by rw[←HX.out.1];exact HX.out.2),HLW.out.trans ⟨rfl,rfl,rfl,Nat.le_refl _,fun _ _=>rfl⟩⟩
    case measure=>simp[intOf];omega
   ·have hne:l≠m:=take_ne HLT.out.1 HLT.out.2 (by rw[←HX.out.1,←HX.out.2];exact hxy)
    have HNE:=Lib.hid (decide_eq_false hne)
    have f5:(x==y)=false:=by simpa using hxy
    clear hxy hne
    go_wp2
    go_quiet (fail)
    go_wp2_with fail
    go_ret
    exact⟨by rw[HNE.out];rfl,HLW.out.trans ⟨rfl,rfl,rfl,Nat.le_refl _,fun _ _=>rfl⟩⟩
  ·have hvv:l=m:=by
    have h:=HTK.out
    rw[List.take_of_length_le (by omega),List.take_of_length_le (by have:=HE1.out;omega)] at h
    exact h
   have HVV:=Lib.hid (decide_eq_true hvv)
   clear hvv
   go_wp2
   go_ret
   exact⟨by rw[HVV.out];rfl,HLW.out⟩
end En
end Go.Proofs.YtipdgmjplnibeaaGreatDoor
namespace Go.Proofs.YtipdgmjplnibeaaGreatDoor
open Go.RowKit Go.Maps
namespace En
theorem same_v (va vb:Value) (a b:E) (W:World) (h1:RdE W va a) (h2:RdE W vb b):Calls Tryz.prog 13 #[va,vb] W fun x W'=>x=.returned (.bool (eqE a b))∧Later W W':=by
 obtain⟨va0,A,n,c,rfl,hv,hr,hc1,hc2⟩:=h1
 obtain⟨vb0,A2,n2,c2,rfl,hv2,hr2,hc3,hc4⟩:=h2
 have HQV:=Lib.hid (show ∀ W',Later W W'→Calls Tryz.prog 25 #[va0,vb0] W' fun x W''=>x=.returned (.bool (decide (a.vars=b.vars)))∧Later W' W'' from fun W' hl=>equalV_v va0 vb0 _ _ W' (hv.later hl) (hv2.later hl))
 have HQS:=Lib.hid (show ∀ W',Later W W'→Calls Tryz.prog 26 #[.slice A n c,.slice A2 n2 c2] W' fun x W''=>x=.returned (.bool (decide (a.args=b.args)))∧Later W' W'' from fun W' hl=>equalS_v A A2 n c n2 c2 _ _ W' ((hr.below hl).more hl.size) ((hr2.below hl).more hl.size) (by omega) (by omega))
 obtain⟨Av,cv,rfl,_⟩:=hv.le
 obtain⟨Bv,cv2,rfl,_⟩:=hv2.le
 obtain⟨nv,hnv⟩:∃ nv,nv=a.vars.length:=⟨_,rfl⟩
 obtain⟨nv2,hnv2⟩:∃ nv2,nv2=b.vars.length:=⟨_,rfl⟩
 rw[←hnv,←hnv2] at HQV
 rw[←hnv,←hnv2]
 have heq:eqE a b=(decide (a.vars=b.vars) && decide (a.args=b.args) && decide (a.status=b.status) && decide (a.flags=b.flags)):=rfl
 rw[heq]
 obtain⟨t1,ht1⟩:∃ t1,t1=decide (a.vars=b.vars):=⟨_,rfl⟩
 obtain⟨t2,ht2⟩:∃ t2,t2=decide (a.args=b.args):=⟨_,rfl⟩
 rw[←ht1] at HQV
 rw[←ht2] at HQS
 rw[←ht1,←ht2]
 obtain⟨W2,hW2⟩:∃ W2,W2=(W.alloc (.cells #[.slice Av nv cv,.slice A n c,.int .i64 (a.status:Int),.string (mkS a.flags)] 28)).alloc (.cells #[.slice Bv nv2 cv2,.slice A2 n2 c2,.int .i64 (b.status:Int),.string (mkS b.flags)] 28):=⟨_,rfl⟩
 have HL:=Lib.hid (show Later W W2 by rw[hW2];exact(Later.alloc _ _).trans (Later.alloc _ _))
 have hB0:W2.heap[W.heap.size+1]?=some (.cells #[.slice Bv nv2 cv2,.slice A2 n2 c2,.int .i64 (b.status:Int),.string (mkS b.flags)] 28 (0,0)):=by
  rw[hW2]
  have h:=heap_alloc_new (W.alloc (.cells #[.slice Av nv cv,.slice A n c,.int .i64 (a.status:Int),.string (mkS a.flags)] 28)) (.cells #[.slice Bv nv2 cv2,.slice A2 n2 c2,.int .i64 (b.status:Int),.string (mkS b.flags)] 28)
  rw[World.size_alloc] at h
  exact h
 have hA0:W2.heap[W.heap.size]?=some (.cells #[.slice Av nv cv,.slice A n c,.int .i64 (a.status:Int),.string (mkS a.flags)] 28 (0,0)):=by
  rw[hW2]
  exact later_cells (Later.alloc _ _) (heap_alloc_new W _)
 have HA0:=Lib.hid hA0
 have HB0:=Lib.hid hB0
 have HW2:=Lib.hid hW2
 have htl:∀ l:B,(mkS l).toList=l:=toList_mkS
 obtain⟨s1,hs1⟩:∃ s1:Int,s1=(a.status:Int):=⟨_,rfl⟩
 obtain⟨s2,hs2⟩:∃ s2:Int,s2=(b.status:Int):=⟨_,rfl⟩
 obtain⟨f1,hf1⟩:∃ f1,f1=a.flags:=⟨_,rfl⟩
 obtain⟨f2,hf2⟩:∃ f2,f2=b.flags:=⟨_,rfl⟩
 rw[←hs1,←hs2,←hf1,←hf2] at HW2
 rw[←hs1,←hf1] at HA0
 rw[←hs2,←hf2] at HB0
 rw[←hs1,←hs2,←hf1,←hf2]
 have HS:=Lib.hid (show decide (a.status=b.status)=(s1==s2) by
  rw[hs1,hs2,Bool.eq_iff_iff,beq_iff_eq,decide_eq_true_iff];omega)
 have HFF:=Lib.hid (show decide (f1=f2)=(f1==f2) by rw[Bool.eq_iff_iff,beq_iff_eq,decide_eq_true_iff])
 rw[HS.out,HFF.out]
 obtain⟨t3,ht3⟩:∃ t3,(s1==s2)=t3:=⟨_,rfl⟩
 obtain⟨t4,ht4⟩:∃ t4,(f1==f2)=t4:=⟨_,rfl⟩
 rw[ht3,ht4]
 clear hv hr hc1 hc2 hv2 hr2 hc3 hc4 hnv hnv2 heq ht1 ht2 hA0 hB0 hW2 hs1 hs2 hf1 hf2
 go_enter Tryz.func13,Tryz.ntmps13
 go_wp2_with fail
 rw[←HW2.out]
 go_at_call 25
 with_reducible refine(HQV.out _ HL.out).mono ?_
 rintro x w3 ⟨rfl,hl3⟩
 have HL3:=Lib.hid (HL.out.trans hl3)
 have hA:=later_cells hl3 HA0.out
 have hB:=later_cells hl3 HB0.out
 have HA3:=Lib.hid hA
 have HB3:=Lib.hid hB
 have a1:w3.cell? ⟨W.heap.size,1,none⟩=some (.slice A n c):=(cell_row hA 1).1
 have b1:w3.cell? ⟨W.heap.size+1,1,none⟩=some (.slice A2 n2 c2):=(cell_row hB 1).1
 clear hl3 hA hB
 cases t1 with
 | false=>
  go_wp2
  go_ret
  exact⟨rfl,HL3.out⟩
 | true=>
  go_wp2_with fail
  go_at_call 26
  with_reducible refine(HQS.out _ HL3.out).mono ?_
  rintro x w4 ⟨rfl,hl4⟩
  have HL4:=Lib.hid (HL3.out.trans hl4)
  have hA:=later_cells hl4 HA3.out
  have hB:=later_cells hl4 HB3.out
  have a2:w4.cell? ⟨W.heap.size,2,none⟩=some (.int .i64 s1):=(cell_row hA 2).1
  have b2:w4.cell? ⟨W.heap.size+1,2,none⟩=some (.int .i64 s2):=(cell_row hB 2).1
  have a3:w4.cell? ⟨W.heap.size,3,none⟩=some (.string (mkS f1)):=(cell_row hA 3).1
  have b3:w4.cell? ⟨W.heap.size+1,3,none⟩=some (.string (mkS f2)):=(cell_row hB 3).1
  clear hl4 hA hB a1 b1
  cases t2
  ·go_wp2
   go_ret
   exact⟨rfl,HL4.out⟩
  ·cases t3
   ·go_wp2
    go_ret
    exact⟨rfl,HL4.out⟩
   ·go_wp2
    go_ret
    exact⟨rfl,HL4.out⟩
end En
end Go.Proofs.YtipdgmjplnibeaaGreatDoor
namespace Go.Proofs.YtipdgmjplnibeaaGreatDoor
open Go.RowKit Go.Maps
set_option maxRecDepth 100000
namespace Ex
open Jo (ft fm rows)
open En (E Vs RdE RdP Vd Rises FrE)
theorem no_39 {s:B} {k:Nat} {c:UInt8} (h:(39:UInt8)∉s.take k) (e:s.take (k+1)=s.take k++[c]) (hc:c≠39):(39:UInt8)∉s.take (k+1):=by
 rw[e]
 intro hm
 rcases List.mem_append.1 hm with hm | hm
 ·exact h hm
 ·exact hc (List.mem_singleton.1 hm).symm
theorem same_self {w:World} {va vb:Value} {e:E} (h1:RdE w va e) (h2:RdE w vb e):Calls Tryz.prog 13 #[va,vb] w fun x W'=>x=.returned (.bool true)∧Later w W':=by
 have h:=En.same_v va vb e e w h1 h2
 rw[show En.eqE e e=true by unfold En.eqE;simp] at h
 exact h
theorem quoted_v (W:World) (hg:Gw W) (lv:Value) (l:Vs) (A:Option Addr) (n c:Nat) (xs:List B) (f:Nat) (hf:f<256) (s:B) (h:RdP W W.heap.size lv l) (ha:Rd W W.heap.size A n (xs.map fun x=>.string (mkS x))) (hnc:n≤c) (hcm:c≤9223372036854775807):Calls Tryz.prog 3 #[lv,.slice A n c,.int .u8 (f:Int),.string (mkS s)] W fun x W'=>x=.returned (.bool true)∧Later W W':=by
 have HAW:=Lib.hid (awake_v W hg)
 have HGW:=Lib.hid hg
 have HFEW:=Lib.hid (show ∀ w,Later W w→Calls Tryz.prog 10 #[lv,.slice A n c,.string ⟨#[]⟩] w fun x W'=>x=.returned (.bool (fewB l xs))∧Later w W' from fun w hl=>few_v lv l A n c xs w (h.later hl) ((ha.below hl).more hl.size) (by omega))
 have HMADE:=Lib.hid (show fewB l xs=true→∀ w,Later W w→Calls Tryz.prog 11 #[lv,.slice A n c,.int .u8 (f:Int),.int .u8 0] w _ from fun hq w hl=>made_v lv l A n c xs f 0 w hf (by omega) (h.later hl) ((ha.below hl).more hl.size) hnc hcm (few_at hq).1 (few_at hq).2.2.1 (few_at hq).2.2.2)
 clear hg h ha hnc hcm hf
 obtain⟨mx,hmx⟩:∃ mx,mx=s.length:=⟨_,rfl⟩
 have hzx:((mkS s).size:Int)=(mx:Int):=by rw[mkS_size,hmx]
 have hzn:(mkS s).size=mx:=by rw[mkS_size,hmx]
 have HMX:=Lib.hid hmx
 obtain⟨fb,hfb⟩:∃ fb,fb=fewB l xs:=⟨_,rfl⟩
 rw[←hfb] at HFEW
 by_cases hfw:fb=true
 case neg=>
  have hfw:fb=false:=by simpa using hfw
  subst hfw
  clear hfb HMADE
  go_enter Tryz.func3,Tryz.ntmps3
  go_wp2_with (first
   |(go_at_call 9;(with_reducible refine HAW.out.mono ?_);rintro e w1 ⟨rfl,hb1⟩;have L1:=Lib.hid hb1;clear hb1)
   |(go_at_call 10;(with_reducible refine(HFEW.out _ L1.out).mono ?_);rintro e w2 ⟨rfl,hb2⟩;have L2:=Lib.hid hb2;clear hb2))
  go_ret
  exact⟨rfl,L1.out.trans L2.out⟩
 case pos=>
 subst hfw
 by_cases hbig:100<mx
 ·have hb1:(100:Int)<(mx:Int):=by omega
  have hb2:decide ((100:Int)<(mx:Int))=true:=decide_eq_true hb1
  have hb3:decide (100<mx)=true:=decide_eq_true hbig
  clear hfb HMADE hmx
  go_enter Tryz.func3,Tryz.ntmps3
  go_wp2_with (first
   |(go_at_call 9;(with_reducible refine HAW.out.mono ?_);rintro e w1 ⟨rfl,hb1⟩;have L1:=Lib.hid hb1;clear hb1)
   |(go_at_call 10;(with_reducible refine(HFEW.out _ L1.out).mono ?_);rintro e w2 ⟨rfl,hb2⟩;have L2:=Lib.hid hb2;clear hb2))
  go_ret
  exact⟨rfl,L1.out.trans L2.out⟩
 have hb1:¬ (100:Int)<(mx:Int):=by omega
 have hb2:decide ((100:Int)<(mx:Int))=false:=decide_eq_false hb1
 have hb3:decide (100<mx)=false:=decide_eq_false hbig
 have hm100:mx≤100:=by omega
 have hsl:s.length≤1000:=by omega
 obtain⟨hk1,hk2,hk3,hk4⟩:=few_at hfb.symm
 have HM1:=Lib.hid (HMADE.out hfb.symm)
 obtain⟨e,he⟩:∃ e,e=madeE l xs f 0:=⟨_,rfl⟩
 have hmd:Md xs 0 l.length e:=by rw[he];exact madeE_md hk1 xs f 0
 have hfl:e.flags.length≤4:=by rw[he];exact madeE_fl _ _ _ _
 obtain⟨e2,he2⟩:∃ e2,e2=En.set Ar.nameB e [118] s:=⟨_,rfl⟩
 have hmd2:Md xs 0 (l.length+1) e2:=by rw[he2];exact hmd.set hsl
 have hfl2:e2.flags.length≤4:=by rw[he2,(set_keep e [118] s).2.2];exact hfl
 have hv2:En.get Ar.nameB e2 [118]=(s,true):=by rw[he2];exact En.get_set_self s rfl
 have hx8:xs.length≤8:=hk4
 have HF0:=Lib.hid (show (39:UInt8)∉s→FieldsTo W e e (mkS ([39]++s++[39])) 1 fun k=>[s].getD k [] from fun h39=>fields_single h39 hsl HGW.out (sm_of hmd hfl (by omega) hx8 hk2 (by omega)) hmd.up)
 have HF2:=Lib.hid (show FieldsTo W e2 e2 ⟨#[34,36,118,34]⟩ 1 fun k=>[s].getD k [] from fields_vq hv2 hsl HGW.out (sm_of hmd2 hfl2 (by omega) hx8 hk2 (by omega)) hmd2.up)
 have HONE:=Lib.hid (show ∀ w va,Later W w→RdE w va e2→Calls Tryz.prog 15 #[va,.string ⟨#[36,118]⟩] w fun x W'=>(∃ Av nv cv A na c st fl,x=.returned (.tuple #[.string (mkS s),.agg #[.slice Av nv cv,.slice A na c,.int .i64 st,.string fl],.agg #[.int .i64 0,.string ⟨#[]⟩]])∧RdE W' (.agg #[.slice Av nv cv,.slice A na c,.int .i64 st,.string fl]) e2)∧Later w W' from fun w va hl hr=>one_to (raw:=[36,118]) (told_v hv2 hsl) hr (HGW.out.later hl) (sm_of hmd2 hfl2 (by omega) hx8 hk2 (by omega)) hmd2.up (by simp))
 have HST:=Lib.hid (show ∀ w va,RdE w va e→Calls Tryz.prog 14 #[va,.string ⟨#[118]⟩,.string (mkS s)] w fun x W'=>(∃ Av nv cv A na c st fl,x=.returned (.agg #[.slice Av nv cv,.slice A na c,.int .i64 st,.string fl])∧RdE W' (.agg #[.slice Av nv cv,.slice A na c,.int .i64 st,.string fl]) e2)∧Later w W' from fun w va hr=>by
  have h:=set_any [118] s hr hmd.up (by have:=hmd.len;omega) (by rw[hmd.args];omega) (by decide)
  rw[←he2] at h
  exact h)
 rw[←he] at HM1
 clear HMADE hfb hk1 hk2 hk3 hk4 he hmd hfl he2 hmd2 hfl2 hv2 hx8 hsl hbig hmx
 go_enter Tryz.func3,Tryz.ntmps3
 go_wp2_with (first
  |(go_at_call 9;(with_reducible refine HAW.out.mono ?_);rintro e0 w1 ⟨rfl,hb1⟩;have L1:=Lib.hid hb1;clear hb1)
  |(go_at_call 10;(with_reducible refine(HFEW.out _ L1.out).mono ?_);rintro e0 w2 ⟨rfl,hb2⟩;have L2:=Lib.hid (L1.out.trans hb2);clear hb2))
 go_loopw [11] (fun s11 wr=>∃ k:Nat,s11=.int .i64 (k:Int)∧k≤mx∧Hid ((39:UInt8)∉s.take k)∧wr=w2) (fun k _=>mx-(intOf k).toNat)
 case atStart=>exact⟨0,rfl,Nat.zero_le _,Lib.hid (fun hc=>(by cases hc)),rfl⟩
 case round=>
  obtain⟨k,rfl,hk,HLO,rfl⟩:=hrel
  have hk0:(0:Int)≤(k:Int):=by omega
  by_cases hlk:k<mx
  ·have hlk1:(k:Int)<(mx:Int):=by omega
   have hkx:k<s.length:=by rw[←HMX.out];exact hlk
   obtain⟨cc,hcc⟩:∃ cc,cc=s[k]:=⟨_,rfl⟩
   have hgx:∀ h,(mkS s)[k]'h=cc:=by rw[hcc];intro _;rfl
   have HTK:=Lib.hid (show s.take (k+1)=s.take k++[cc] by rw[hcc];exact List.take_succ_eq_append_getElem hkx)
   clear hcc hkx
   by_cases h39:cc=39
   ·have r1:((cc.toNat:Int)==39)=true:=by rw[h39];rfl
    have r2:(cc.toNat:Int)=39:=by rw[h39];rfl
    clear h39
    go_wp2
    go_ret
    exact⟨rfl,L2.out⟩
   have r1:((cc.toNat:Int)==39)=false:=by
    rw[beq_eq_false_iff_ne]
    intro h
    exact h39 (UInt8.toNat.inj (by simpa using (show cc.toNat=39 by omega)))
   have HN39:=Lib.hid (no_39 HLO.out HTK.out h39)
   clear h39
   go_wp2
   go_roundw
   case rel=>exact⟨k+1,by go_num,by omega,HN39,by first | rfl | trivial⟩
   case measure=>simp[intOf];omega
  ·have hlk1:¬ (k:Int)<(mx:Int):=by omega
   have h39:(39:UInt8)∉s:=by
    have h:=HLO.out
    rw[List.take_of_length_le (by rw[←HMX.out];omega)] at h
    exact h
   have hf1:=HF0.out h39
   obtain⟨t1,ht1⟩:∃ t1:B,t1=39::s:=⟨_,rfl⟩
   obtain⟨t2,ht2⟩:∃ t2:B,t2=[39]++s++[39]:=⟨_,rfl⟩
   have hcat:(⟨#[39]⟩:ByteArray)++mkS s=mkS t1:=by rw[ht1];exact mkS_add [39] s
   have hcat2:mkS t1++(⟨#[39]⟩:ByteArray)=mkS t2:=by rw[ht1,ht2];exact mkS_add (39::s) [39]
   have hz4:¬ 9223372036854775807<1+mx:=by omega
   have hz5:¬ 9223372036854775807<(mkS t1).size+1:=by rw[mkS_size,ht1,List.length_cons,←HMX.out];omega
   rw[←ht2] at hf1
   have HF1:=Lib.hid hf1
   clear h39 ht1 ht2 hf1
   go_wp2_with fail
   go_at_call 11
   with_reducible refine(HM1.out _ L2.out).mono ?_
   rintro e0 k1 ⟨⟨Av1,nv1,cv1,A1,na1,c1,st1,fl1,rfl,hf1⟩,hl1⟩
   have HR1:=Lib.hid hf1
   have K1:=Lib.hid (L2.out.trans hl1)
   have HX1:=Lib.hid (heap_alloc_new k1 (.cells #[.slice Av1 nv1 cv1,.slice A1 na1 c1,.int .i64 st1,.string fl1] 28))
   have b0:=(cell_row HX1.out 0).1
   have b1:=(cell_row HX1.out 1).1
   have b2:=(cell_row HX1.out 2).1
   have b3:=(cell_row HX1.out 3).1
   clear hf1 hl1
   go_wp2_with fail
   go_at_call 12
   with_reducible refine(HF1.out _ _ (K1.out.trans (Later.alloc _ _)) (HR1.out.later (Later.alloc _ _))).mono ?_
   rintro e0 k2 ⟨⟨Bu,cu,Av2,nv2,cv2,A2,na2,c2,st2,fl2,rfl,hc2,hr2⟩,hl2⟩
   obtain⟨bu,rfl,hcells⟩:=hc2 (by omega)
   have K2:=Lib.hid ((Later.alloc _ _).trans hl2)
   have HR2:=Lib.hid hr2
   have HX2:=Lib.hid (later_cells hl2 HX1.out)
   have hla:=fun o o'=>(Later.alloc k2 o).trans (Later.alloc _ o')
   have hbx:=fun o o'=>later_cells (hla o o') HX2.out
   clear b0 b1 b2 b3
   have b0:=fun o o'=>(cell_row (hbx o o') 0).1
   have b1:=fun o o'=>(cell_row (hbx o o') 1).1
   have b2:=fun o o'=>(cell_row (hbx o o') 2).1
   have b3:=fun o o'=>(cell_row (hbx o o') 3).1
   have qb:=fun o o'=>cell_keeps' (hla o o') (hcells 0 (by omega))
   simp only[Nat.zero_mul,List.getD_cons_zero] at qb
   have htt:((mkS s).toList==(mkS s).toList)=true:=beq_self_eq_true _
   clear hbx hc2 hr2 hl2 hcells hla hcat hcat2 hz4 hz5
   go_wp2_with fail
   go_at_call 13
   with_reducible refine(same_self (HR2.out.later ((Later.alloc _ _).trans (Later.alloc _ _))) (HR1.out.later (K2.out.trans ((Later.alloc _ _).trans (Later.alloc _ _))))).mono ?_
   rintro e0 k3 ⟨rfl,hl3⟩
   have K3:=Lib.hid (((Later.alloc _ _).trans (Later.alloc _ _)).trans hl3)
   have HX3:=Lib.hid (later_cells K3.out HX2.out)
   clear b0 b1 b2 b3 qb hl3
   have b0:=(cell_row HX3.out 0).1
   have b1:=(cell_row HX3.out 1).1
   have b2:=(cell_row HX3.out 2).1
   have b3:=(cell_row HX3.out 3).1
   go_wp2_with fail
   go_at_call 14
   with_reducible refine(HST.out _ _ (HR1.out.later (K2.out.trans K3.out))).mono ?_
   rintro e0 k4 ⟨⟨Av4,nv4,cv4,A4,na4,c4,st4,fl4,rfl,hr4⟩,hl4⟩
   have HR4:=Lib.hid hr4
   have K4:=Lib.hid (K1.out.trans (K2.out.trans (K3.out.trans hl4)))
   have HX4:=Lib.hid (heap_alloc_new k4 (.cells #[.slice Av4 nv4 cv4,.slice A4 na4 c4,.int .i64 st4,.string fl4] 28))
   clear b0 b1 b2 b3 hr4 hl4
   have b0:=(cell_row HX4.out 0).1
   have b1:=(cell_row HX4.out 1).1
   have b2:=(cell_row HX4.out 2).1
   have b3:=(cell_row HX4.out 3).1
   go_wp2_with fail
   go_at_call 12
   with_reducible refine(HF2.out _ _ (K4.out.trans (Later.alloc _ _)) (HR4.out.later (Later.alloc _ _))).mono ?_
   rintro e0 k5 ⟨⟨Bv,cw,Av5,nv5,cv5,A5,na5,c5,st5,fl5,rfl,hc5,hr5⟩,hl5⟩
   obtain⟨bv,rfl,hcells⟩:=hc5 (by omega)
   have K5:=Lib.hid ((Later.alloc _ _).trans hl5)
   have HR5:=Lib.hid hr5
   have HX5:=Lib.hid (later_cells hl5 HX4.out)
   have hbx:=fun o o'=>later_cells ((Later.alloc k5 o).trans (Later.alloc _ o')) HX5.out
   have HC5:=Lib.hid (hcells 0 (by omega))
   clear b0 b1 b2 b3
   have b0:=fun o o'=>(cell_row (hbx o o') 0).1
   have b1:=fun o o'=>(cell_row (hbx o o') 1).1
   have b2:=fun o o'=>(cell_row (hbx o o') 2).1
   have b3:=fun o o'=>(cell_row (hbx o o') 3).1
   clear hbx hc5 hr5 hl5 hcells
   go_wp2_with fail
   go_at_call 15
   with_reducible refine(HONE.out _ _ (K4.out.trans (K5.out.trans ((Later.alloc _ _).trans (Later.alloc _ _)))) (HR4.out.later (K5.out.trans ((Later.alloc _ _).trans (Later.alloc _ _))))).mono ?_
   rintro e0 k6 ⟨⟨Av6,nv6,cv6,A6,na6,c6,st6,fl6,rfl,_⟩,hl6⟩
   have T6:=Lib.hid (two_boxes hl6)
   have K6:=Lib.hid (((Later.alloc _ _).trans (Later.alloc _ _)).trans hl6)
   have HX6:=Lib.hid (later_cells K6.out HX5.out)
   have hla:=fun o o'=>(Later.alloc k6 o).trans (Later.alloc _ o')
   clear b0 b1 b2 b3
   have b0:=fun o o'=>(cell_row (later_cells (hla o o') HX6.out) 0).1
   have b1:=fun o o'=>(cell_row (later_cells (hla o o') HX6.out) 1).1
   have b2:=fun o o'=>(cell_row (later_cells (hla o o') HX6.out) 2).1
   have b3:=fun o o'=>(cell_row (later_cells (hla o o') HX6.out) 3).1
   have p0:=fun o o'=>(cell_row (later_cells (hla o o') T6.out.1) 0).1
   have p1:=fun o o'=>(cell_row (later_cells (hla o o') T6.out.1) 1).1
   have p2:=fun o o'=>(cell_row (later_cells (hla o o') T6.out.1) 2).1
   have p3:=fun o o'=>(cell_row (later_cells (hla o o') T6.out.1) 3).1
   have qa:=fun o o'=>(cell_row (later_cells (hla o o') T6.out.2) 0).1
   have qb:=fun o o'=>cell_keeps' (K6.out.trans (hla o o')) HC5.out
   simp only[Nat.zero_mul,List.getD_cons_zero] at qb
   clear hla hl6
   go_wp2_with fail
   go_at_call 13
   with_reducible refine(same_self (HR5.out.later (K6.out.trans ((Later.alloc _ _).trans (Later.alloc _ _)))) (HR4.out.later (K5.out.trans (K6.out.trans ((Later.alloc _ _).trans (Later.alloc _ _)))))).mono ?_
   rintro e0 k7 ⟨rfl,hl7⟩
   have T7:=Lib.hid (two_boxes hl7)
   have K7:=Lib.hid (((Later.alloc _ _).trans (Later.alloc _ _)).trans hl7)
   have qc:=(cell_row T7.out.2 0).1
   clear b0 b1 b2 b3 p0 p1 p2 p3 qa qb hl7
   go_wp2
   go_ret
   exact⟨rfl,K4.out.trans (K5.out.trans (K6.out.trans K7.out))⟩
end Ex
end Go.Proofs.YtipdgmjplnibeaaGreatDoor
namespace Go.Proofs.YtipdgmjplnibeaaGreatDoor
open Go.RowKit Go.Maps
namespace expandQuoted
theorem walk (W:World) (hg:Ex.Gw W) (A0:Option Addr) (n0 c0:Nat) (l:En.Vs) (h0:En.RdP W W.heap.size (.slice A0 n0 c0) l∧l.length=n0∧n0≤c0∧c0≤maxLen) (A:Option Addr) (n c:Nat) (xs:List ByteArray) (h:Rd W W.heap.size A n (xs.map Value.string)∧(∀ s∈xs,s.size≤maxLen)∧n≤c∧c≤maxLen) (f:Int) (hf:(Lit.int .u8 f).wf=true) (s:ByteArray) (_:s.size≤maxLen):Calls Tryz.prog 3 #[.slice A0 n0 c0,.slice A n c,.int .u8 f,.string s] W fun x W'=>x=.returned (.bool true)∧Below W.heap.size W W':=by
 have hb:=bounds_u8 hf
 obtain⟨k,rfl⟩:∃ k:Nat,f=(k:Int):=⟨f.toNat,by omega⟩
 have e:xs.map Value.string=(xs.map fun s=>s.data.toList).map fun x=>.string (mkS x):=by
  rw[List.map_map]
  exact List.map_congr_left fun s _=>by simp[mkS_of]
 have h1:=h.1
 rw[e] at h1
 have h2:=Ex.quoted_v W hg _ l A n c _ k (by omega) s.data.toList h0.1 h1 h.2.2.1 (by have:=h.2.2.2;simp only[maxLen] at this;omega)
 rw[mkS_of] at h2
 exact h2
end expandQuoted
end Go.Proofs.YtipdgmjplnibeaaGreatDoor
