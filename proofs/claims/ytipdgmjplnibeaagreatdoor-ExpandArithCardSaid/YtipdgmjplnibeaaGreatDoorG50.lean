import Derived.Test.YtipdgmjplnibeaaGreatDoorG49
import Derived.Test.YtipdgmjplnibeaaGreatDoorG15
import Derived.Test.YtipdgmjplnibeaaGreatDoorG28
set_option maxRecDepth 100000
set_option maxHeartbeats 25600000
namespace Go.Proofs.YtipdgmjplnibeaaGreatDoor
open Go.RowKit Go.Maps
set_option maxRecDepth 100000
namespace Ey
open Jo (ft fm rows)
open En (E RdE RdP Vd Rises FrE)
theorem dig_eq (n:Nat):Lib.decDigits n=Ar.decL n:=by
 induction n using Nat.strongRecOn with
 | ind n ih=>
  by_cases h:n<10
  ·rw[Lib.decDigits,dif_pos h,Ar.dec_small h]
  ·rw[Lib.decDigits,dif_neg h,Ar.dec_big h,ih (n / 10) (by omega)]
def numF (n:Int):B:=if n=-9223372036854775808 then [45,57,50,50,51,51,55,50,48,51,54,56,53,52,55,55,53,56,48,56] else Ar.numT n
theorem itoa_eq (n:Int):Lib.itoa n=numF n:=by
 unfold numF
 by_cases h:n=-9223372036854775808
 ·rw[if_pos h,h]
  unfold Lib.itoa
  rw[if_pos (by omega),dig_eq]
  kernel_rfl
 ·rw[if_neg h]
  unfold Lib.itoa Ar.numT
  by_cases h0:n<0
  ·rw[if_pos h0,if_pos h0,dig_eq,show n.natAbs=(-n).toNat by omega]
  ·rw[if_neg h0,if_neg h0,dig_eq]
theorem numF_len {n:Int} (h:-9223372036854775808≤n∧n≤9223372036854775807):(numF n).length≤40:=by
 unfold numF
 split
 ·simp
 ·exact(Ar.numT_ok n (by omega) (by omega)).2
theorem numF_0:numF 0=[48]:=by unfold numF Ar.numT;rw[if_neg (by decide),if_neg (by decide)];exact Ar.dec_small (by decide)
theorem numF_1:numF 1=[49]:=by unfold numF Ar.numT;rw[if_neg (by decide),if_neg (by decide)];exact Ar.dec_small (by decide)
def EA (h a b:B):E:=⟨[([72,79,77,69],h),([120],a),([121],b)],[],0,[]⟩
def EB (a b:B):E:=⟨[([120],a),([121],b)],[],0,[]⟩
def EX (a:B):E:=⟨[([120],a)],[],0,[]⟩
theorem set_1 (a:B):En.set Ar.nameB ⟨[],[],0,[]⟩ [120] a=EX a:=rfl
theorem set_2 (a b:B):En.set Ar.nameB (EX a) [121] b=EB a b:=rfl
theorem set_3 (a b h:B):En.set Ar.nameB (EB a b) [72,79,77,69] h=EA h a b:=rfl
theorem unset_3 (a b h:B):En.unsetE (EA h a b) [72,79,77,69]=EB a b:=rfl
theorem look_x (h a b:B):Ar.look (EA h a b).vars [120]=Ar.numV a:=rfl
theorem look_y (h a b:B):Ar.look (EA h a b).vars [121]=Ar.numV b:=rfl
section
variable {h:B} {x y:Int} (hh:h.length≤30) (hx:-9223372036854775808<x∧x<9223372036854775808) (hy:-9223372036854775808<y∧y<9223372036854775808)
include hx hy
theorem num_lens:(Ar.numT x).length≤40∧(Ar.numT y).length≤40:=⟨(Ar.numT_ok x hx.1 hx.2).2,(Ar.numT_ok y hy.1 hy.2).2⟩
theorem lk_xy:lk (EA h (Ar.numT x) (Ar.numT y)) [120]=x∧lk (EA h (Ar.numT x) (Ar.numT y)) [121]=y:=by
 unfold lk
 rw[look_x,look_y,Ar.numV_own x hx.1 hx.2,Ar.numV_own y hy.1 hy.2]
 exact⟨rfl,rfl⟩
include hh
theorem has_xy:has2 (EA h (Ar.numT x) (Ar.numT y))=true:=by
 obtain⟨h1,h2⟩:=num_lens hx hy
 unfold has2
 rw[look_x,look_y,Ar.numV_own x hx.1 hx.2,Ar.numV_own y hy.1 hy.2]
 simp[EA]
 omega
theorem part_ar (row:E→List P→Res) {t:B} (ht:t=sumT∨t=gtT) {n:Int} (hn:arithN (EA h (Ar.numT x) (Ar.numT y)) t=n):partF row (EA h (Ar.numT x) (Ar.numT y)) (.mk 4 t [] false [])=.ok (pt (numF n) 115) (EA h (Ar.numT x) (Ar.numT y)):=by
 have h4:partF row (EA h (Ar.numT x) (Ar.numT y)) (.mk 4 t [] false [])=arithR false (EA h (Ar.numT x) (Ar.numT y)) t:=by
  rcases ht with rfl | rfl <;> rfl
 rw[h4]
 unfold arithR
 rw[if_pos ⟨ht,has_xy hh hx hy⟩,hn,itoa_eq]
 unfold ptR
 have hi:=arith_in (EA h (Ar.numT x) (Ar.numT y)) t
 rw[hn] at hi
 rw[if_pos (by have:=numF_len hi;omega)]
 rfl
end
theorem pt_len (t:B) (c:UInt8):(pt t c).length≤t.length+1:=by
 unfold pt
 split
 ·simp
 ·rw[List.length_map];omega
theorem row_one {d:Nat} {e e':E} {p:P} {r:Rw} (h:partF (rowD d) e p=.ok r e') (hr:r.length≤100000):rowD (d+1) e [p]=.ok r e':=by
 show (if [p].length≤1000 then rowF (partF (rowD d)) e [p] [] else .big)=_
 rw[if_pos (by simp)]
 unfold rowF
 rw[h]
 show (if ([]++r).length≤100000 then rowF _ e' [] ([]++r) else .big)=_
 rw[List.nil_append,if_pos hr]
 rfl
theorem row_two {d:Nat} {e:E} {p q:P} {a b:Rw} (h1:partF (rowD d) e p=.ok a e) (h2:partF (rowD d) e q=.ok b e) (hr:(a++b).length≤100000):rowD (d+1) e [p,q]=.ok (a++b) e:=by
 have hr2:=hr
 rw[List.length_append] at hr2
 show (if [p,q].length≤1000 then rowF (partF (rowD d)) e [p,q] [] else .big)=_
 rw[if_pos (by simp)]
 unfold rowF
 rw[h1]
 show (if ([]++a).length≤100000 then rowF _ e [q] ([]++a) else .big)=_
 rw[List.nil_append,if_pos (by omega)]
 unfold rowF
 rw[h2]
 show (if (a++b).length≤100000 then rowF _ e [] (a++b) else .big)=_
 rw[if_pos hr]
 rfl
theorem word_of {e e2:E} {raw:B} {ps:List P} {r:Rw} (hp:Wd.parse raw=(ps,0)) (h:rowD 10 e ps=.ok r e2):word e raw=.ok r e2:=by
 unfold word
 rw[hp]
 show (if (0:Nat)≠0 then _ else rowD 10 e ps)=_
 rw[if_neg (by decide)]
 exact h
theorem solid_pt (t:B) (c:UInt8) (hc:c≠101):solid (pt t c)=t.map fun x=>(x,c):=by
 unfold solid pt
 split
 ·next h=>rw[h.1];rfl
 ·rw[List.filter_eq_self.2]
  intro y hy
  obtain⟨x,_,rfl⟩:=List.mem_map.1 hy
  simp[hc]
theorem flat_pt (t:B) (c:UInt8) (hc:c≠101):flat (pt t c)=t:=by
 unfold flat
 rw[solid_pt t c hc,List.map_map]
 simp[Function.comp_def]
theorem flat_app (a b:Rw):flat (a++b)=flat a++flat b:=by unfold flat solid;rw[List.filter_append,List.map_append]
theorem part_tl (row:E→List P→Res) (h a b:B) (hh:h.length≤30):partF row (EA h a b) (.mk 5 [] [] false [])=.ok (pt h 113) (EA h a b):=by
 show (if (En.get Ar.nameB (EA h a b) HOME).2=true then ptR (En.get Ar.nameB (EA h a b) HOME).1 113 (EA h a b) else .ok (pt [126] 108) (EA h a b))=_
 rw[show En.get Ar.nameB (EA h a b) HOME=(h,true) from rfl]
 show ptR h 113 (EA h a b)=_
 unfold ptR
 rw[if_pos (by omega)]
theorem part_no (row:E→List P→Res) (a b:B):partF row (EB a b) (.mk 5 [] [] false [])=.ok (pt [126] 108) (EB a b):=rfl
theorem parse_s:Wd.parse [36,40,40,120,43,36,121,41,41]=([.mk 4 sumT [] false []],0):=by kernel_rfl
theorem parse_g:Wd.parse [36,40,40,120,62,121,41,41]=([.mk 4 gtT [] false []],0):=by kernel_rfl
theorem parse_a:Wd.parse [126,47,97]=([.mk 5 [] [] false [],.mk 1 [47,97] [] false []],0):=by kernel_rfl
theorem parse_q:Wd.parse [97,126,47,39,126,39]=([.mk 1 [97,126,47] [] false [],.mk 2 [126] [] false []],0):=by kernel_rfl
theorem parse_t:Wd.parse [126]=([.mk 5 [] [] false []],0):=by kernel_rfl
section
variable {h:B} {x y:Int} (hh:h.length≤30) (hx:-9223372036854775808<x∧x<9223372036854775808) (hy:-9223372036854775808<y∧y<9223372036854775808)
include hh hx hy
theorem told_s:∃ r,word (EA h (Ar.numT x) (Ar.numT y)) [36,40,40,120,43,36,121,41,41]=.ok r (EA h (Ar.numT x) (Ar.numT y))∧flat r=numF (wrap64 (x+y)):=by
 have hn:arithN (EA h (Ar.numT x) (Ar.numT y)) sumT=wrap64 (x+y):=by
  unfold arithN
  rw[if_pos rfl,(lk_xy hx hy).1,(lk_xy hx hy).2]
 refine⟨_,word_of parse_s (row_one (part_ar hh hx hy _ (.inl rfl) hn) ?_),flat_pt _ _ (by decide)⟩
 have hi:=arith_in (EA h (Ar.numT x) (Ar.numT y)) sumT
 rw[hn] at hi
 have:=numF_len hi
 have:=pt_len (numF (wrap64 (x+y))) 115
 omega
theorem told_g:∃ r,word (EA h (Ar.numT x) (Ar.numT y)) [36,40,40,120,62,121,41,41]=.ok r (EA h (Ar.numT x) (Ar.numT y))∧flat r=if y<x then [49] else [48]:=by
 have hn:arithN (EA h (Ar.numT x) (Ar.numT y)) gtT=if y<x then 1 else 0:=by
  have e3:arithN (EA h (Ar.numT x) (Ar.numT y)) gtT=if lk (EA h (Ar.numT x) (Ar.numT y)) [121]<lk (EA h (Ar.numT x) (Ar.numT y)) [120] then 1 else 0:=rfl
  rw[e3,(lk_xy hx hy).1,(lk_xy hx hy).2]
 refine⟨_,word_of parse_g (row_one (part_ar hh hx hy _ (.inr rfl) hn) ?_),?_⟩
 ·have hi:=arith_in (EA h (Ar.numT x) (Ar.numT y)) gtT
  rw[hn] at hi
  have:=numF_len hi
  have:=pt_len (numF (if y<x then 1 else 0)) 115
  omega
 ·rw[flat_pt _ _ (by decide)]
  split
  ·exact numF_1
  ·exact numF_0
omit hx hy in
theorem told_a (a b:B):∃ r,word (EA h a b) [126,47,97]=.ok r (EA h a b)∧flat r=h++[47,97]:=by
 refine⟨_,word_of parse_a (row_two (part_tl _ h a b hh) (show partF (rowD 9) (EA h a b) (.mk 1 [47,97] [] false [])=.ok (pt [47,97] 108) (EA h a b) from rfl) ?_),?_⟩
 ·have:=pt_len h 113
  have:=pt_len [47,97] 108
  rw[List.length_append]
  simp at this
  omega
 ·rw[flat_app,flat_pt _ _ (by decide),flat_pt _ _ (by decide)]
omit hh hx hy in
theorem told_q (h a b:B):∃ r,word (EA h a b) [97,126,47,39,126,39]=.ok r (EA h a b)∧flat r=[97,126,47,126]:=
 ⟨_,word_of parse_q (row_two (show partF (rowD 9) (EA h a b) (.mk 1 [97,126,47] [] false [])=.ok (pt [97,126,47] 108) (EA h a b) from rfl) (show partF (rowD 9) (EA h a b) (.mk 2 [126] [] false [])=.ok (pt [126] 113) (EA h a b) from rfl) (by decide)),by decide⟩
omit hh hx hy in
theorem told_t (a b:B):∃ r,word (EB a b) [126]=.ok r (EB a b)∧flat r=[126]:=⟨_,word_of parse_t (row_one (part_no _ a b) (by decide)),by decide⟩
omit hx hy in
theorem word_t (a b:B):word (EA h a b) [126]=.ok (pt h 113) (EA h a b):=word_of parse_t (row_one (part_tl _ h a b hh) (by have:=pt_len h 113;omega))
end
end Ey
end Go.Proofs.YtipdgmjplnibeaaGreatDoor
namespace Go.Proofs.YtipdgmjplnibeaaGreatDoor
set_option maxRecDepth 100000
namespace Ey
open Jo (Q sepB)
theorem fold_plain {ifs:B}:∀ (r:Rw) (σ:Q),(∀ p∈r,sepB ifs p=false∧(p.2==98)=false)→r≠[]→r.foldl (Jo.step ifs) σ=⟨σ.out,σ.now++solid r,true,false⟩
 | [],_,_,h=>absurd rfl h
 | p::l,σ,h,_=>by
  have hp:=h p (by simp)
  have h1:Jo.step ifs σ p=⟨σ.out,σ.now++solid [p],true,false⟩:=by
   unfold Jo.step solid
   rw[hp.1,hp.2,if_neg Bool.false_ne_true,if_neg Bool.false_ne_true]
   cases h101:(p.2==101) with
   | true=>simp[h101]
   | false=>simp[h101]
  rw[List.foldl_cons,h1]
  by_cases hl:l=[]
  ·subst hl;rfl
  ·rw[fold_plain l _ (fun q hq=>h q (by simp[hq])) hl]
   have:solid (p::l)=solid [p]++solid l:=by unfold solid;rw[←List.filter_append];rfl
   rw[this,List.append_assoc]
def Kp (ifs:B) (c:UInt8):Prop:=c=113∨(c=115∧ifs=[])
theorem Kp.pt {ifs:B} {c:UInt8} (h:Kp ifs c) (x:B):∀ p∈pt x c,sepB ifs p=false∧(p.2==98)=false:=by
 intro p hp
 have h2:p.2=c∨p.2=101:=by
  unfold Ey.pt at hp
  split at hp
  ·rw[List.mem_singleton.1 hp];exact .inr rfl
  ·obtain⟨y,_,rfl⟩:=List.mem_map.1 hp;exact .inl rfl
 unfold Jo.sepB
 rcases h with rfl | ⟨rfl,rfl⟩
 ·rcases h2 with e | e <;> rw[e] <;> exact⟨rfl,rfl⟩
 ·rcases h2 with e | e <;> rw[e] <;> exact⟨by simp,rfl⟩
theorem Kp.ne {ifs:B} {c:UInt8} (h:Kp ifs c):c≠101:=by rcases h with rfl | ⟨rfl,_⟩ <;> decide
theorem pt_solid (t:B) {c:UInt8} (hc:c≠101):solid (pt t c)=t.map fun x=>(x,c):=by
 unfold solid pt
 split
 ·rename_i h;rw[h.1];rfl
 ·rw[List.filter_eq_self]
  intro a ha
  obtain⟨x,_,rfl⟩:=List.mem_map.1 ha
  simp[hc]
def fieldsOf (c:UInt8) (l:List B):List Rw:=(l.filter fun x=>!(pt x c).isEmpty).map fun x=>x.map fun y=>(y,c)
theorem fin_pt {ifs:B} {c:UInt8} (h:Kp ifs c) (x:B) (out:List Rw) (k:Bool):Jo.fin ((pt x c).foldl (Jo.step ifs) ⟨out,[],false,k⟩)=out++fieldsOf c [x]:=by
 unfold fieldsOf
 by_cases he:pt x c=[]
 ·rw[he];simp[he,Jo.fin]
 ·rw[fold_plain _ _ (h.pt x) he]
  have:(pt x c).isEmpty=false:=by rw[List.isEmpty_eq_false_iff];exact he
  simp[Jo.fin,this,pt_solid x h.ne]
theorem fields_cons (c:UInt8) (x:B) (l:List B):fieldsOf c (x::l)=fieldsOf c [x]++fieldsOf c l:=by
 unfold fieldsOf
 rw[←List.map_append,←List.filter_append]
 rfl
theorem fold_args {ifs:B} {c:UInt8} (h:Kp ifs c):∀ (l:List B) (σ:Q),Jo.fin ((l.flatMap fun y=>(32,98)::pt y c).foldl (Jo.step ifs) σ)=Jo.fin σ++fieldsOf c l
 | [],σ=>by simp[fieldsOf]
 | y::l,σ=>by
  have hb:Jo.step ifs σ (32,98)=⟨Jo.fin σ,[],false,false⟩:=by
   have:sepB ifs (32,98)=false:=by unfold Jo.sepB;rfl
   unfold Jo.step
   rw[this,if_neg Bool.false_ne_true,if_pos (by decide)]
   rfl
  rw[List.flatMap_cons,List.cons_append,List.foldl_cons,hb,List.foldl_append,fold_args h l,fin_pt h,fields_cons c y l,List.append_assoc]
theorem split_args {ifs:B} {c:UInt8} (h:Kp ifs c) (l:List B):Jo.split ifs (args c l)=fieldsOf c l:=by
 unfold Jo.split Jo.run
 cases l with
 | nil=>rfl
 | cons x l=>
  show Jo.fin ((pt x c++l.flatMap fun y=>(32,98)::pt y c).foldl (Jo.step ifs) Jo.init)=_
  rw[List.foldl_append,fold_args h l]
  unfold Jo.init
  rw[fin_pt h,fields_cons c x l]
  rfl
theorem split_pt {ifs:B} {c:UInt8} (h:Kp ifs c) (x:B):Jo.split ifs (pt x c)=fieldsOf c [x]:=by
 unfold Jo.split Jo.run Jo.init
 rw[fin_pt h]
 rfl
theorem fields_quo (l:List B):fieldsOf 113 l=l.map fun x=>x.map fun y=>(y,113):=by
 unfold fieldsOf
 rw[List.filter_eq_self.2 ?_]
 intro x _
 unfold pt
 split
 ·rfl
 ·rename_i hx
  cases x with
  | nil=>exact absurd ⟨rfl,rfl⟩ hx
  | cons a t=>rfl
theorem fields_bare (l:List B):fieldsOf 115 l=(l.filter fun x=>!x.isEmpty).map fun x=>x.map fun y=>(y,115):=by
 unfold fieldsOf
 congr 1
 refine List.filter_congr fun x _=>?_
 unfold pt
 rw[if_neg (by rintro⟨_,h⟩;exact absurd h (by decide))]
 cases x <;> rfl
end Ey
end Go.Proofs.YtipdgmjplnibeaaGreatDoor
namespace Go.Proofs.YtipdgmjplnibeaaGreatDoor
open Go.RowKit Go.Maps
set_option maxRecDepth 100000
namespace Ey
open Jo (ft fm rows)
open En (E RdE RdP Vd Rises FrE)
theorem number_f (n:Int) (h:-9223372036854775808≤n∧n≤9223372036854775807):Ar.NumOk n (numF n):=by
 by_cases hn:n=-9223372036854775808
 ·subst hn
  rw[show numF (-9223372036854775808)=[45,57,50,50,51,51,55,50,48,51,54,56,53,52,55,55,53,56,48,56] from rfl]
  intro W
  go_enter Tryz.func18,Tryz.ntmps18
  go_wp2
  go_ret
  exact⟨rfl,Later.refl _⟩
 ·unfold numF
  rw[if_neg hn]
  exact(Ar.numT_ok n (by omega) (by omega)).1
theorem one_to {W:World} {va:Value} {e e2:E} {raw T:B} (hw:∃ r,word e raw=.ok r e2∧flat r=T) (h:RdE W va e) (hg:Gw W) (hs:Sm e=true) (hu:Rises e.vars) (hr:raw.length≤100000):Calls Tryz.prog 15 #[va,.string (mkS raw)] W fun x W'=>(∃ Av nv cv A na c st fl,x=.returned (.tuple #[.string (mkS T),.agg #[.slice Av nv cv,.slice A na c,.int .i64 st,.string fl],.agg #[.int .i64 0,.string ⟨#[]⟩]])∧RdE W' (.agg #[.slice Av nv cv,.slice A na c,.int .i64 st,.string fl]) e2)∧Later W W':=by
 obtain⟨r,hw,rfl⟩:=hw
 refine(one_ok hw h hg hs hu hr).mono ?_
 rintro x w' ⟨⟨v,rfl,hf⟩,hl⟩
 have hr:=hf.rd
 obtain⟨Av,nv,cv,A,na,c,st,fl,rfl⟩:=rd_shape hr
 exact⟨⟨Av,nv,cv,A,na,c,st,fl,rfl,hr⟩,hl⟩
abbrev FieldsTo (W:World) (e e2:E) (raw:ByteArray) (n:Nat) (tx:Nat→B):Prop:=∀ w va,Later W w→RdE w va e→Calls Tryz.prog 12 #[va,.string raw] w fun x W'=>(∃ Bu cu Av nv cv A na c st fl,x=.returned (.tuple #[.slice Bu n cu,.agg #[.slice Av nv cv,.slice A na c,.int .i64 st,.string fl],.agg #[.int .i64 0,.string ⟨#[]⟩]])∧(0<n→∃ bu,Bu=some ⟨bu,0,none⟩∧∀ k,k<n→W'.cell? ⟨bu,k*2,none⟩=some (.string (mkS (tx k))))∧RdE W' (.agg #[.slice Av nv cv,.slice A na c,.int .i64 st,.string fl]) e2)∧Later w W'
theorem FieldsTo.of {W:World} {e e2:E} {raw:B} {r:Rw} {F:List Rw} {tx:Nat→B} (hw:word e raw=.ok r e2) (hF:Jo.split (En.ifs e2.vars) r=F) (ht:∀ k (h:k<F.length),ft F[k]=tx k) (hg:Gw W) (hs:Sm e=true) (hu:Rises e.vars) (hr:raw.length≤100000):FieldsTo W e e2 (mkS raw) F.length tx:=by
 intro w va hl h
 refine(fields_ok hw h (hg.later hl) hs hu hr).mono ?_
 rintro x w' ⟨⟨u,v,rfl,ho,hf⟩,hl'⟩
 rw[hF] at ho
 have hr:=hf.rd
 obtain⟨Av,nv,cv,A,na,c,st,fl,rfl⟩:=rd_shape hr
 obtain⟨Bu,cu,rfl,_⟩:=own_any ho
 refine⟨⟨Bu,cu,Av,nv,cv,A,na,c,st,fl,rfl,fun h0=>?_,hr⟩,hl'⟩
 obtain⟨g,c',e',_,hc⟩:=(Jo.RdR.of_own ho).at_ (by simpa using h0)
 injection e' with e1
 refine⟨g,e1,fun k hk=>?_⟩
 have h1:=(hc k (by simpa using hk)).1
 rw[List.getElem_map] at h1
 rw[←ht k hk]
 exact h1
theorem up_EA (h a b:B):Rises (EA h a b).vars:=by unfold Rises EA;simp;decide
theorem up_EB (a b:B):Rises (EB a b).vars:=by unfold Rises EB;simp;decide
theorem up_EX (a:B):Rises (EX a).vars:=by unfold Rises EX;simp
theorem sm_EA {h a b:B} (h1:h.length≤30) (h2:a.length≤40) (h3:b.length≤40):Sm (EA h a b)=true:=by unfold Sm EA;simp;omega
theorem sm_EB {a b:B} (h2:a.length≤40) (h3:b.length≤40):Sm (EB a b)=true:=by unfold Sm EB;simp;omega
abbrev EnvTo (W:World) (x:Ending) (e:E):Prop:=∃ Av nv cv A na c st fl,x=.returned (.agg #[.slice Av nv cv,.slice A na c,.int .i64 st,.string fl])∧RdE W (.agg #[.slice Av nv cv,.slice A na c,.int .i64 st,.string fl]) e
theorem set_any {W:World} {va:Value} {e:E} (s v:B) (h:RdE W va e) (hu:Rises e.vars) (hl:e.vars.length≤1000) (ha:e.args.length≤1000) (hs:s.length≤1000):Calls Tryz.prog 14 #[va,.string (mkS s),.string (mkS v)] W fun x W'=>EnvTo W' x (En.set Ar.nameB e s v)∧Later W W':=by
 refine(En.set_v va e s v W h hu (by omega) (by omega) (by omega)).mono ?_
 rintro x w' ⟨⟨u,rfl,hf⟩,hl⟩
 obtain⟨Av,nv,cv,A,na,c,st,fl,rfl⟩:=rd_shape hf.rd
 exact⟨⟨Av,nv,cv,A,na,c,st,fl,rfl,hf.rd⟩,hl⟩
theorem unset_any {W:World} {va:Value} {e:E} (s:B) (h:RdE W va e) (hu:Rises e.vars) (hl:e.vars.length≤1000) (ha:e.args.length≤1000):Calls Tryz.prog 19 #[va,.string (mkS s)] W fun x W'=>EnvTo W' x (En.unsetE e s)∧Later W W':=by
 refine(En.unset_v va e s W h hu (by omega) (by omega)).mono ?_
 rintro x w' ⟨⟨u,rfl,hf⟩,hl⟩
 obtain⟨Av,nv,cv,A,na,c,st,fl,rfl⟩:=rd_shape hf.rd
 exact⟨⟨Av,nv,cv,A,na,c,st,fl,rfl,hf.rd⟩,hl⟩
theorem fields_t {W:World} {h a b:B} (hh:h.length≤30) (h2:a.length≤40) (h3:b.length≤40) (hg:Gw W):FieldsTo W (EA h a b) (EA h a b) (mkS [126]) 1 fun k=>[h].getD k []:=by
 have hF:Jo.split (En.ifs (EA h a b).vars) (pt h 113)=[h].map fun x=>x.map fun y=>(y,113):=by
  have h9:=split_pt (ifs:=En.ifs (EA h a b).vars) (c:=113) (.inl rfl) h
  rw[fields_quo] at h9
  exact h9
 refine FieldsTo.of (W:=W) (tx:=fun k=>[h].getD k []) (word_t hh a b) hF (fun k hk=>?_) hg (sm_EA hh h2 h3) (up_EA h a b) (by simp)
 have hk0:k=0:=by simpa using hk
 subst hk0
 show ft (h.map fun y=>(y,113))=h
 unfold ft
 rw[List.map_map]
 simp[Function.comp_def]
end Ey
end Go.Proofs.YtipdgmjplnibeaaGreatDoor
namespace Go.Proofs.YtipdgmjplnibeaaGreatDoor
open Go.RowKit Go.Maps
set_option maxRecDepth 100000
namespace Ey
open Jo (ft fm rows)
open En (E RdE RdP Vd Rises FrE)
abbrev OneTo (W:World) (e:E) (raw T:ByteArray):Prop:=∀ w va,Later W w→RdE w va e→Calls Tryz.prog 15 #[va,.string raw] w fun x W'=>(∃ Av nv cv A na c st fl,x=.returned (.tuple #[.string T,.agg #[.slice Av nv cv,.slice A na c,.int .i64 st,.string fl],.agg #[.int .i64 0,.string ⟨#[]⟩]]))∧Later w W'
theorem OneTo.of {W:World} {e:E} {raw T:B} (hw:∃ r,word e raw=.ok r e∧flat r=T) (hg:Gw W) (hs:Sm e=true) (hu:Rises e.vars) (hr:raw.length≤100000):OneTo W e (mkS raw) (mkS T):=fun w va hl h=>by
 refine(one_to hw h (hg.later hl) hs hu hr).mono ?_
 rintro x w' ⟨⟨Av,nv,cv,A,na,c,st,fl,rfl,_⟩,hl'⟩
 exact⟨⟨Av,nv,cv,A,na,c,st,fl,rfl⟩,hl'⟩
theorem arithlaw_v (W:World) (hg:Gw W) (x y:Int) (hx:-9223372036854775808≤x∧x≤9223372036854775807) (hy:-9223372036854775808≤y∧y≤9223372036854775807) (h:B):Calls Tryz.prog 8 #[.int .i64 x,.int .i64 y,.string (mkS h)] W fun r W'=>r=.returned (.bool true)∧Later W W':=by
 have HAW:=Lib.hid (awake_v W hg)
 obtain⟨mx,hmx⟩:∃ mx,mx=h.length:=⟨_,rfl⟩
 have hzx:((mkS h).size:Int)=(mx:Int):=by rw[mkS_size,hmx]
 have hzn:(mkS h).size=mx:=by rw[mkS_size,hmx]
 by_cases hxm:x=-9223372036854775808
 ·have hxe:(x==-9223372036854775808)=true:=by rw[hxm];rfl
  clear hmx hx hy hg
  go_enter Tryz.func8,Tryz.ntmps8
  go_wp2_with (go_at_call 9;(with_reducible refine HAW.out.mono ?_);rintro e0 w1 ⟨rfl,hb1⟩;have L1:=Lib.hid hb1;clear hb1)
  go_ret
  exact⟨rfl,L1.out⟩
 have hxe:(x==-9223372036854775808)=false:=by rw[beq_eq_false_iff_ne];exact hxm
 by_cases hym:y=-9223372036854775808
 ·have hye:(y==-9223372036854775808)=true:=by rw[hym];rfl
  clear hmx hx hy hg
  go_enter Tryz.func8,Tryz.ntmps8
  go_wp2_with (go_at_call 9;(with_reducible refine HAW.out.mono ?_);rintro e0 w1 ⟨rfl,hb1⟩;have L1:=Lib.hid hb1;clear hb1)
  go_ret
  exact⟨rfl,L1.out⟩
 have hye:(y==-9223372036854775808)=false:=by rw[beq_eq_false_iff_ne];exact hym
 by_cases hbig:30<mx
 ·have hb1:(30:Int)<(mx:Int):=by omega
  have hb2:decide ((30:Int)<(mx:Int))=true:=decide_eq_true hb1
  have hb3:decide (30<mx)=true:=decide_eq_true hbig
  clear hmx hx hy hg
  go_enter Tryz.func8,Tryz.ntmps8
  go_wp2_with (go_at_call 9;(with_reducible refine HAW.out.mono ?_);rintro e0 w1 ⟨rfl,hb1⟩;have L1:=Lib.hid hb1;clear hb1)
  go_ret
  exact⟨rfl,L1.out⟩
 have hb1:¬ (30:Int)<(mx:Int):=by omega
 have hb2:decide ((30:Int)<(mx:Int))=false:=decide_eq_false hb1
 have hb3:decide (30<mx)=false:=decide_eq_false hbig
 by_cases hhn:h=[]
 ·have g2:((mkS h).toList==[])=true:=by rw[hhn,Pm.is_nil];rfl
  have g3:(mkS h).toList.isEmpty=true:=by rw[hhn,Pm.is_nil];rfl
  have g4:(mkS h).toList=[]:=by rw[hhn];exact Pm.is_nil
  clear hmx hx hy hg hhn
  go_enter Tryz.func8,Tryz.ntmps8
  go_wp2_with (go_at_call 9;(with_reducible refine HAW.out.mono ?_);rintro e0 w1 ⟨rfl,hb1⟩;have L1:=Lib.hid hb1;clear hb1)
  go_ret
  exact⟨rfl,L1.out⟩
 have g2:¬ (mkS h).toList=[]:=Pm.ne_nil hhn
 have g3:(mkS h).toList.isEmpty=false:=by rw[List.isEmpty_eq_false_iff];exact g2
 have hh30:h.length≤30:=by omega
 have hx2:-9223372036854775808<x∧x<9223372036854775808:=by omega
 have hy2:-9223372036854775808<y∧y<9223372036854775808:=by omega
 obtain⟨l1,l2⟩:=num_lens hx2 hy2
 have HN1:=Lib.hid (Ar.numT_ok x hx2.1 hx2.2).1
 have HN2:=Lib.hid (Ar.numT_ok y hy2.1 hy2.2).1
 have ts:=told_s hh30 hx2 hy2
 have tg:=told_g hh30 hx2 hy2
 obtain⟨z,hz⟩:∃ z,z=wrap64 (x+y):=⟨_,rfl⟩
 have hzr:-9223372036854775808≤z∧z≤9223372036854775807:=by rw[hz];unfold wrap64;omega
 have HN3:=Lib.hid (number_f z hzr)
 have hw1:wrap64 (x+y)=z:=hz.symm
 have hw2:IntKind.i64.wrap (x+y)=z:=by rw[hz,IntWalk.i64_left]
 rw[←hz] at ts
 obtain⟨a,ha⟩:∃ a,a=Ar.numT x:=⟨_,rfl⟩
 obtain⟨b,hb⟩:∃ b,b=Ar.numT y:=⟨_,rfl⟩
 obtain⟨S,hS⟩:∃ S,S=numF z:=⟨_,rfl⟩
 rw[←ha] at HN1 ts tg l1
 rw[←hb] at HN2 ts tg l2
 rw[←hS] at HN3 ts
 obtain⟨ca,hca⟩:∃ ca,ca=h++[47,97]:=⟨_,rfl⟩
 have hcat:mkS h++(⟨#[47,97]⟩:ByteArray)=mkS ca:=by rw[hca];exact mkS_add h [47,97]
 have hz4:¬ 9223372036854775807<mx+2:=by omega
 have ta:=told_a (h:=h) hh30 a b
 rw[←hca] at ta
 have HOS:=Lib.hid (show OneTo W (EA h a b) ⟨#[36,40,40,120,43,36,121,41,41]⟩ (mkS S) from OneTo.of ts hg (sm_EA hh30 l1 l2) (up_EA h a b) (by simp))
 have HOA:=Lib.hid (show OneTo W (EA h a b) ⟨#[126,47,97]⟩ (mkS ca) from OneTo.of ta hg (sm_EA hh30 l1 l2) (up_EA h a b) (by simp))
 have HOQ:=Lib.hid (show OneTo W (EA h a b) ⟨#[97,126,47,39,126,39]⟩ ⟨#[97,126,47,126]⟩ from OneTo.of (told_q h a b) hg (sm_EA hh30 l1 l2) (up_EA h a b) (by simp))
 have HOT:=Lib.hid (show OneTo W (EB a b) ⟨#[126]⟩ ⟨#[126]⟩ from OneTo.of (told_t a b) hg (sm_EB l1 l2) (up_EB a b) (by simp))
 have HFT:=Lib.hid (show FieldsTo W (EA h a b) (EA h a b) ⟨#[126]⟩ 1 fun k=>[h].getD k [] from fields_t hh30 l1 l2 hg)
 have HS1:=Lib.hid (show ∀ w,Calls Tryz.prog 14 #[.agg #[.slice none 0 0,.slice none 0 0,.int .i64 0,.string ⟨#[]⟩],.string ⟨#[120]⟩,.string (mkS a)] w fun x W'=>EnvTo W' x (EX a)∧Later w W' from fun w=>set_any [120] a (RdE.zero w) Rises.nil (by simp) (by simp) (by simp))
 have HS2:=Lib.hid (show ∀ w va,RdE w va (EX a)→Calls Tryz.prog 14 #[va,.string ⟨#[121]⟩,.string (mkS b)] w fun x W'=>EnvTo W' x (EB a b)∧Later w W' from fun w va hr=>set_any [121] b hr (up_EX a) (by simp[EX]) (by simp[EX]) (by simp))
 have HS3:=Lib.hid (show ∀ w va,RdE w va (EB a b)→Calls Tryz.prog 14 #[va,.string ⟨#[72,79,77,69]⟩,.string (mkS h)] w fun x W'=>EnvTo W' x (EA h a b)∧Later w W' from fun w va hr=>set_any [72,79,77,69] h hr (up_EB a b) (by simp[EB]) (by simp[EB]) (by simp))
 have HUN:=Lib.hid (show ∀ w va,RdE w va (EA h a b)→Calls Tryz.prog 19 #[va,.string ⟨#[72,79,77,69]⟩] w fun x W'=>EnvTo W' x (EB a b)∧Later w W' from fun w va hr=>unset_any [72,79,77,69] hr (up_EA h a b) (by simp[EA]) (by simp[EA]))
 have t1:((mkS S).toList==(mkS S).toList)=true:=beq_self_eq_true _
 have t2:((mkS ca).toList==(mkS ca).toList)=true:=beq_self_eq_true _
 have t3:((mkS h).toList==(mkS h).toList)=true:=beq_self_eq_true _
 obtain⟨G,hG,HXY⟩:∃ G:ByteArray,OneTo W (EA h a b) ⟨#[36,40,40,120,62,121,41,41]⟩ G∧((y<x∧G=⟨#[49]⟩)∨(¬ y<x∧G=⟨#[48]⟩)):=by
  have h9:=OneTo.of tg hg (sm_EA hh30 l1 l2) (up_EA h a b) (by simp)
  by_cases hlt:y<x
  ·rw[if_pos hlt] at h9;exact⟨_,h9,.inl ⟨hlt,rfl⟩⟩
  ·rw[if_neg hlt] at h9;exact⟨_,h9,.inr ⟨hlt,rfl⟩⟩
 have HOG:=Lib.hid hG
 clear hG ts tg ta ha hb hS hz hca hg hx hy hmx hxm hym hbig hhn hh30 hx2 hy2 l1 l2 hzr
 rcases HXY with⟨hlt,rfl⟩ | ⟨hlt,rfl⟩
 all_goals go_enter Tryz.func8,Tryz.ntmps8
 all_goals go_wp2_with (first
  |(go_at_call 9;(with_reducible refine HAW.out.mono ?_);rintro e0 w1 ⟨rfl,hb1⟩;have L1:=Lib.hid hb1;clear hb1)
  |(go_at_call 18;(with_reducible refine(HN1.out _).mono ?_);rintro e0 n1 ⟨rfl,hl1⟩;(have P1:=Lib.hid (L1.out.trans hl1));clear hl1;try clear HN1)
  |(go_at_call 14;(with_reducible refine(HS1.out _).mono ?_);rintro e0 n2 ⟨⟨Av1,nv1,cv1,A1,na1,c1,st1,fl1,rfl,hf1⟩,hl1⟩;(have P2:=Lib.hid (P1.out.trans hl1));(have R1:=Lib.hid hf1);clear hl1 hf1;try clear HS1)
  |(go_at_call 18;(with_reducible refine(HN2.out _).mono ?_);rintro e0 n3 ⟨rfl,hl1⟩;(have P3:=Lib.hid (P2.out.trans hl1));(have R2:=Lib.hid (R1.out.later hl1));clear hl1;try clear HN2)
  |(go_at_call 14;(with_reducible refine(HS2.out _ _ R2.out).mono ?_);rintro e0 n4 ⟨⟨Av2,nv2,cv2,A2,na2,c2,st2,fl2,rfl,hf1⟩,hl1⟩;(have P4:=Lib.hid (P3.out.trans hl1));(have R3:=Lib.hid hf1);clear hl1 hf1;try clear HS2))
 ·skip
  go_at_call 14
  with_reducible refine(HS3.out _ _ R3.out).mono ?_
  rintro e0 k1 ⟨⟨Av1,nv1,cv1,A1,na1,c1,st1,fl1,rfl,hf1⟩,hl1⟩
  have RE:=Lib.hid hf1
  have K1:=Lib.hid (P4.out.trans hl1)
  have HX1:=Lib.hid (heap_alloc_new k1 (.cells #[.slice Av1 nv1 cv1,.slice A1 na1 c1,.int .i64 st1,.string fl1] 28))
  have b0:=(cell_row HX1.out 0).1
  have b1:=(cell_row HX1.out 1).1
  have b2:=(cell_row HX1.out 2).1
  have b3:=(cell_row HX1.out 3).1
  clear hf1 hl1
  go_wp2_with fail
  go_at_call 15
  with_reducible refine(HOS.out _ _ (K1.out.trans (Later.alloc _ _)) (RE.out.later (Later.alloc _ _))).mono ?_
  rintro e0 k2 ⟨⟨Av2,nv2,cv2,A2,na2,c2,st2,fl2,rfl⟩,hl2⟩
  have K2:=Lib.hid ((Later.alloc _ _).trans hl2)
  have HX2:=Lib.hid (later_cells hl2 HX1.out)
  clear b0 b1 b2 b3 hl2
  have b0:=fun o o'=>(cell_row (later_cells ((Later.alloc k2 o).trans (Later.alloc _ o')) HX2.out) 0).1
  have b1:=fun o o'=>(cell_row (later_cells ((Later.alloc k2 o).trans (Later.alloc _ o')) HX2.out) 1).1
  have b2:=fun o o'=>(cell_row (later_cells ((Later.alloc k2 o).trans (Later.alloc _ o')) HX2.out) 2).1
  have b3:=fun o o'=>(cell_row (later_cells ((Later.alloc k2 o).trans (Later.alloc _ o')) HX2.out) 3).1
  go_wp2_with fail
  go_at_call 15
  with_reducible refine(HOG.out _ _ (K1.out.trans (K2.out.trans ((Later.alloc _ _).trans (Later.alloc _ _)))) (RE.out.later (K2.out.trans ((Later.alloc _ _).trans (Later.alloc _ _))))).mono ?_
  rintro e0 k3 ⟨⟨Av3,nv3,cv3,A3,na3,c3,st3,fl3,rfl⟩,hl3⟩
  have T2:=Lib.hid (two_boxes hl3)
  have K3:=Lib.hid (K2.out.trans (((Later.alloc _ _).trans (Later.alloc _ _)).trans hl3))
  have HX3:=Lib.hid (later_cells (((Later.alloc _ _).trans (Later.alloc _ _)).trans hl3) HX2.out)
  clear b0 b1 b2 b3 hl3
  have b0:=fun o o'=>(cell_row (later_cells ((Later.alloc k3 o).trans (Later.alloc _ o')) HX3.out) 0).1
  have b1:=fun o o'=>(cell_row (later_cells ((Later.alloc k3 o).trans (Later.alloc _ o')) HX3.out) 1).1
  have b2:=fun o o'=>(cell_row (later_cells ((Later.alloc k3 o).trans (Later.alloc _ o')) HX3.out) 2).1
  have b3:=fun o o'=>(cell_row (later_cells ((Later.alloc k3 o).trans (Later.alloc _ o')) HX3.out) 3).1
  go_wp2_with fail
  go_at_call 15
  with_reducible refine(HOA.out _ _ (K1.out.trans (K3.out.trans ((Later.alloc _ _).trans (Later.alloc _ _)))) (RE.out.later (K3.out.trans ((Later.alloc _ _).trans (Later.alloc _ _))))).mono ?_
  rintro e0 k4 ⟨⟨Av4,nv4,cv4,A4,na4,c4,st4,fl4,rfl⟩,hl4⟩
  have T3:=Lib.hid (two_boxes hl4)
  have S34:=Lib.hid (((Later.alloc _ _).trans (Later.alloc _ _)).trans hl4)
  have K4:=Lib.hid (K3.out.trans S34.out)
  have HX4:=Lib.hid (later_cells S34.out HX3.out)
  clear b0 b1 b2 b3 hl4
  have b0:=fun o o'=>(cell_row (later_cells ((Later.alloc k4 o).trans (Later.alloc _ o')) HX4.out) 0).1
  have b1:=fun o o'=>(cell_row (later_cells ((Later.alloc k4 o).trans (Later.alloc _ o')) HX4.out) 1).1
  have b2:=fun o o'=>(cell_row (later_cells ((Later.alloc k4 o).trans (Later.alloc _ o')) HX4.out) 2).1
  have b3:=fun o o'=>(cell_row (later_cells ((Later.alloc k4 o).trans (Later.alloc _ o')) HX4.out) 3).1
  go_wp2_with fail
  go_at_call 15
  with_reducible refine(HOQ.out _ _ (K1.out.trans (K4.out.trans ((Later.alloc _ _).trans (Later.alloc _ _)))) (RE.out.later (K4.out.trans ((Later.alloc _ _).trans (Later.alloc _ _))))).mono ?_
  rintro e0 k5 ⟨⟨Av5,nv5,cv5,A5,na5,c5,st5,fl5,rfl⟩,hl5⟩
  have T4:=Lib.hid (two_boxes hl5)
  have S45:=Lib.hid (((Later.alloc _ _).trans (Later.alloc _ _)).trans hl5)
  have K5:=Lib.hid (K4.out.trans S45.out)
  have HX5:=Lib.hid (later_cells S45.out HX4.out)
  clear b0 b1 b2 b3 hl5
  have b0:=fun o o'=>(cell_row (later_cells ((Later.alloc k5 o).trans (Later.alloc _ o')) HX5.out) 0).1
  have b1:=fun o o'=>(cell_row (later_cells ((Later.alloc k5 o).trans (Later.alloc _ o')) HX5.out) 1).1
  have b2:=fun o o'=>(cell_row (later_cells ((Later.alloc k5 o).trans (Later.alloc _ o')) HX5.out) 2).1
  have b3:=fun o o'=>(cell_row (later_cells ((Later.alloc k5 o).trans (Later.alloc _ o')) HX5.out) 3).1
  go_wp2_with fail
  go_at_call 19
  with_reducible refine(HUN.out _ _ (RE.out.later (K5.out.trans ((Later.alloc _ _).trans (Later.alloc _ _))))).mono ?_
  rintro e0 m5 ⟨⟨Av6,nv6,cv6,A6,na6,c6,st6,fl6,rfl,hf6⟩,hl6⟩
  have T5:=Lib.hid (two_boxes hl6)
  have RB:=Lib.hid hf6
  have S5m:=Lib.hid (((Later.alloc _ _).trans (Later.alloc _ _)).trans hl6)
  clear b0 b1 b2 b3 hl6 hf6
  go_wp2_with fail
  go_at_call 15
  with_reducible refine(HOT.out _ _ (K1.out.trans (K5.out.trans S5m.out)) RB.out).mono ?_
  rintro e0 k6 ⟨⟨Av7,nv7,cv7,A7,na7,c7,st7,fl7,rfl⟩,hl7⟩
  have SM6:=Lib.hid hl7
  have K6:=Lib.hid (K5.out.trans (S5m.out.trans hl7))
  have HX6:=Lib.hid (later_cells (S5m.out.trans hl7) HX5.out)
  clear hl7
  have b0:=fun o o'=>(cell_row (later_cells ((Later.alloc k6 o).trans (Later.alloc _ o')) HX6.out) 0).1
  have b1:=fun o o'=>(cell_row (later_cells ((Later.alloc k6 o).trans (Later.alloc _ o')) HX6.out) 1).1
  have b2:=fun o o'=>(cell_row (later_cells ((Later.alloc k6 o).trans (Later.alloc _ o')) HX6.out) 2).1
  have b3:=fun o o'=>(cell_row (later_cells ((Later.alloc k6 o).trans (Later.alloc _ o')) HX6.out) 3).1
  go_wp2_with fail
  go_at_call 12
  with_reducible refine(HFT.out _ _ (K1.out.trans (K6.out.trans ((Later.alloc _ _).trans (Later.alloc _ _)))) (RE.out.later (K6.out.trans ((Later.alloc _ _).trans (Later.alloc _ _))))).mono ?_
  rintro e0 k7 ⟨⟨Bm,cm,Av8,nv8,cv8,A8,na8,c8,st8,fl8,rfl,hc8,_⟩,hl8⟩
  obtain⟨bm,rfl,hcells⟩:=hc8 (by omega)
  have T6:=Lib.hid (two_boxes hl8)
  have S67:=Lib.hid (((Later.alloc _ _).trans (Later.alloc _ _)).trans hl8)
  have K7:=Lib.hid (K6.out.trans S67.out)
  have HC7:=Lib.hid (hcells 0 (by omega))
  have C5:=Lib.hid (SM6.out.trans S67.out)
  have C4:=Lib.hid (S5m.out.trans C5.out)
  have C3:=Lib.hid (S45.out.trans C4.out)
  have C2:=Lib.hid (S34.out.trans C3.out)
  have hla:=fun o o'=>(Later.alloc k7 o).trans (Later.alloc _ o')
  have q1:=fun o o'=>(cell_row (later_cells (C2.out.trans (hla o o')) T2.out.2) 0).1
  have q2:=fun o o'=>(cell_row (later_cells (C3.out.trans (hla o o')) T3.out.2) 0).1
  have q3:=fun o o'=>(cell_row (later_cells (C4.out.trans (hla o o')) T4.out.2) 0).1
  have q4:=fun o o'=>(cell_row (later_cells (C5.out.trans (hla o o')) T5.out.2) 0).1
  have q5:=fun o o'=>(cell_row (later_cells (hla o o') T6.out.2) 0).1
  clear b0 b1 b2 b3 hla hc8 hl8 hcells
  go_wp2_with fail
  go_at_call 18
  with_reducible refine(HN3.out _).mono ?_
  rintro e0 k8 ⟨rfl,hl9⟩
  have S78:=Lib.hid (((Later.alloc _ _).trans (Later.alloc _ _)).trans hl9)
  have qm:=cell_keeps' S78.out HC7.out
  simp only[Nat.zero_mul,List.getD_cons_zero] at qm
  clear q1 q2 q3 q4 q5 hl9
  go_wp2
  go_ret
  exact⟨rfl,K1.out.trans (K7.out.trans S78.out)⟩
 ·skip
  go_at_call 14
  with_reducible refine(HS3.out _ _ R3.out).mono ?_
  rintro e0 k1 ⟨⟨Av1,nv1,cv1,A1,na1,c1,st1,fl1,rfl,hf1⟩,hl1⟩
  have RE:=Lib.hid hf1
  have K1:=Lib.hid (P4.out.trans hl1)
  have HX1:=Lib.hid (heap_alloc_new k1 (.cells #[.slice Av1 nv1 cv1,.slice A1 na1 c1,.int .i64 st1,.string fl1] 28))
  have b0:=(cell_row HX1.out 0).1
  have b1:=(cell_row HX1.out 1).1
  have b2:=(cell_row HX1.out 2).1
  have b3:=(cell_row HX1.out 3).1
  clear hf1 hl1
  go_wp2_with fail
  go_at_call 15
  with_reducible refine(HOS.out _ _ (K1.out.trans (Later.alloc _ _)) (RE.out.later (Later.alloc _ _))).mono ?_
  rintro e0 k2 ⟨⟨Av2,nv2,cv2,A2,na2,c2,st2,fl2,rfl⟩,hl2⟩
  have K2:=Lib.hid ((Later.alloc _ _).trans hl2)
  have HX2:=Lib.hid (later_cells hl2 HX1.out)
  clear b0 b1 b2 b3 hl2
  have b0:=fun o o'=>(cell_row (later_cells ((Later.alloc k2 o).trans (Later.alloc _ o')) HX2.out) 0).1
  have b1:=fun o o'=>(cell_row (later_cells ((Later.alloc k2 o).trans (Later.alloc _ o')) HX2.out) 1).1
  have b2:=fun o o'=>(cell_row (later_cells ((Later.alloc k2 o).trans (Later.alloc _ o')) HX2.out) 2).1
  have b3:=fun o o'=>(cell_row (later_cells ((Later.alloc k2 o).trans (Later.alloc _ o')) HX2.out) 3).1
  go_wp2_with fail
  go_at_call 15
  with_reducible refine(HOG.out _ _ (K1.out.trans (K2.out.trans ((Later.alloc _ _).trans (Later.alloc _ _)))) (RE.out.later (K2.out.trans ((Later.alloc _ _).trans (Later.alloc _ _))))).mono ?_
  rintro e0 k3 ⟨⟨Av3,nv3,cv3,A3,na3,c3,st3,fl3,rfl⟩,hl3⟩
  have T2:=Lib.hid (two_boxes hl3)
  have K3:=Lib.hid (K2.out.trans (((Later.alloc _ _).trans (Later.alloc _ _)).trans hl3))
  have HX3:=Lib.hid (later_cells (((Later.alloc _ _).trans (Later.alloc _ _)).trans hl3) HX2.out)
  clear b0 b1 b2 b3 hl3
  have b0:=fun o o'=>(cell_row (later_cells ((Later.alloc k3 o).trans (Later.alloc _ o')) HX3.out) 0).1
  have b1:=fun o o'=>(cell_row (later_cells ((Later.alloc k3 o).trans (Later.alloc _ o')) HX3.out) 1).1
  have b2:=fun o o'=>(cell_row (later_cells ((Later.alloc k3 o).trans (Later.alloc _ o')) HX3.out) 2).1
  have b3:=fun o o'=>(cell_row (later_cells ((Later.alloc k3 o).trans (Later.alloc _ o')) HX3.out) 3).1
  go_wp2_with fail
  go_at_call 15
  with_reducible refine(HOA.out _ _ (K1.out.trans (K3.out.trans ((Later.alloc _ _).trans (Later.alloc _ _)))) (RE.out.later (K3.out.trans ((Later.alloc _ _).trans (Later.alloc _ _))))).mono ?_
  rintro e0 k4 ⟨⟨Av4,nv4,cv4,A4,na4,c4,st4,fl4,rfl⟩,hl4⟩
  have T3:=Lib.hid (two_boxes hl4)
  have S34:=Lib.hid (((Later.alloc _ _).trans (Later.alloc _ _)).trans hl4)
  have K4:=Lib.hid (K3.out.trans S34.out)
  have HX4:=Lib.hid (later_cells S34.out HX3.out)
  clear b0 b1 b2 b3 hl4
  have b0:=fun o o'=>(cell_row (later_cells ((Later.alloc k4 o).trans (Later.alloc _ o')) HX4.out) 0).1
  have b1:=fun o o'=>(cell_row (later_cells ((Later.alloc k4 o).trans (Later.alloc _ o')) HX4.out) 1).1
  have b2:=fun o o'=>(cell_row (later_cells ((Later.alloc k4 o).trans (Later.alloc _ o')) HX4.out) 2).1
  have b3:=fun o o'=>(cell_row (later_cells ((Later.alloc k4 o).trans (Later.alloc _ o')) HX4.out) 3).1
  go_wp2_with fail
  go_at_call 15
  with_reducible refine(HOQ.out _ _ (K1.out.trans (K4.out.trans ((Later.alloc _ _).trans (Later.alloc _ _)))) (RE.out.later (K4.out.trans ((Later.alloc _ _).trans (Later.alloc _ _))))).mono ?_
  rintro e0 k5 ⟨⟨Av5,nv5,cv5,A5,na5,c5,st5,fl5,rfl⟩,hl5⟩
  have T4:=Lib.hid (two_boxes hl5)
  have S45:=Lib.hid (((Later.alloc _ _).trans (Later.alloc _ _)).trans hl5)
  have K5:=Lib.hid (K4.out.trans S45.out)
  have HX5:=Lib.hid (later_cells S45.out HX4.out)
  clear b0 b1 b2 b3 hl5
  have b0:=fun o o'=>(cell_row (later_cells ((Later.alloc k5 o).trans (Later.alloc _ o')) HX5.out) 0).1
  have b1:=fun o o'=>(cell_row (later_cells ((Later.alloc k5 o).trans (Later.alloc _ o')) HX5.out) 1).1
  have b2:=fun o o'=>(cell_row (later_cells ((Later.alloc k5 o).trans (Later.alloc _ o')) HX5.out) 2).1
  have b3:=fun o o'=>(cell_row (later_cells ((Later.alloc k5 o).trans (Later.alloc _ o')) HX5.out) 3).1
  go_wp2_with fail
  go_at_call 19
  with_reducible refine(HUN.out _ _ (RE.out.later (K5.out.trans ((Later.alloc _ _).trans (Later.alloc _ _))))).mono ?_
  rintro e0 m5 ⟨⟨Av6,nv6,cv6,A6,na6,c6,st6,fl6,rfl,hf6⟩,hl6⟩
  have T5:=Lib.hid (two_boxes hl6)
  have RB:=Lib.hid hf6
  have S5m:=Lib.hid (((Later.alloc _ _).trans (Later.alloc _ _)).trans hl6)
  clear b0 b1 b2 b3 hl6 hf6
  go_wp2_with fail
  go_at_call 15
  with_reducible refine(HOT.out _ _ (K1.out.trans (K5.out.trans S5m.out)) RB.out).mono ?_
  rintro e0 k6 ⟨⟨Av7,nv7,cv7,A7,na7,c7,st7,fl7,rfl⟩,hl7⟩
  have SM6:=Lib.hid hl7
  have K6:=Lib.hid (K5.out.trans (S5m.out.trans hl7))
  have HX6:=Lib.hid (later_cells (S5m.out.trans hl7) HX5.out)
  clear hl7
  have b0:=fun o o'=>(cell_row (later_cells ((Later.alloc k6 o).trans (Later.alloc _ o')) HX6.out) 0).1
  have b1:=fun o o'=>(cell_row (later_cells ((Later.alloc k6 o).trans (Later.alloc _ o')) HX6.out) 1).1
  have b2:=fun o o'=>(cell_row (later_cells ((Later.alloc k6 o).trans (Later.alloc _ o')) HX6.out) 2).1
  have b3:=fun o o'=>(cell_row (later_cells ((Later.alloc k6 o).trans (Later.alloc _ o')) HX6.out) 3).1
  go_wp2_with fail
  go_at_call 12
  with_reducible refine(HFT.out _ _ (K1.out.trans (K6.out.trans ((Later.alloc _ _).trans (Later.alloc _ _)))) (RE.out.later (K6.out.trans ((Later.alloc _ _).trans (Later.alloc _ _))))).mono ?_
  rintro e0 k7 ⟨⟨Bm,cm,Av8,nv8,cv8,A8,na8,c8,st8,fl8,rfl,hc8,_⟩,hl8⟩
  obtain⟨bm,rfl,hcells⟩:=hc8 (by omega)
  have T6:=Lib.hid (two_boxes hl8)
  have S67:=Lib.hid (((Later.alloc _ _).trans (Later.alloc _ _)).trans hl8)
  have K7:=Lib.hid (K6.out.trans S67.out)
  have HC7:=Lib.hid (hcells 0 (by omega))
  have C5:=Lib.hid (SM6.out.trans S67.out)
  have C4:=Lib.hid (S5m.out.trans C5.out)
  have C3:=Lib.hid (S45.out.trans C4.out)
  have C2:=Lib.hid (S34.out.trans C3.out)
  have hla:=fun o o'=>(Later.alloc k7 o).trans (Later.alloc _ o')
  have q1:=fun o o'=>(cell_row (later_cells (C2.out.trans (hla o o')) T2.out.2) 0).1
  have q2:=fun o o'=>(cell_row (later_cells (C3.out.trans (hla o o')) T3.out.2) 0).1
  have q3:=fun o o'=>(cell_row (later_cells (C4.out.trans (hla o o')) T4.out.2) 0).1
  have q4:=fun o o'=>(cell_row (later_cells (C5.out.trans (hla o o')) T5.out.2) 0).1
  have q5:=fun o o'=>(cell_row (later_cells (hla o o') T6.out.2) 0).1
  clear b0 b1 b2 b3 hla hc8 hl8 hcells
  go_wp2_with fail
  go_at_call 18
  with_reducible refine(HN3.out _).mono ?_
  rintro e0 k8 ⟨rfl,hl9⟩
  have S78:=Lib.hid (((Later.alloc _ _).trans (Later.alloc _ _)).trans hl9)
  have qm:=cell_keeps' S78.out HC7.out
  simp only[Nat.zero_mul,List.getD_cons_zero] at qm
  clear q1 q2 q3 q4 q5 hl9
  go_wp2
  go_ret
  exact⟨rfl,K1.out.trans (K7.out.trans S78.out)⟩
end Ey
end Go.Proofs.YtipdgmjplnibeaaGreatDoor
