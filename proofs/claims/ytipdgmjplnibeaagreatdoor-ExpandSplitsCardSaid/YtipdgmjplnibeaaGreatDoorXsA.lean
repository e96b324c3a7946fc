import Derived.Test.YtipdgmjplnibeaaGreatDoorG09
import Derived.Test.YtipdgmjplnibeaaGreatDoorXda
import Derived.Test.YtipdgmjplnibeaaGreatDoorG49
set_option maxRecDepth 100000
namespace Go.Proofs.YtipdgmjplnibeaaGreatDoor
set_option maxRecDepth 100000
namespace Ex
open Jo (Q sepB)
theorem fold_plain {ifs:B}:∀ (r:Rw) (σ:Q),(∀ p∈r,sepB ifs p=false∧(p.2==98)=false)→r≠[]→r.foldl (Jo.step ifs) σ=⟨σ.out,σ.now++solid r,true,false⟩
 | [],_,_,h=>absurd rfl h
 | p::l,σ,h,_=>by
  have hp:=h p (by simp)
  have h1:Jo.step ifs σ p=⟨σ.out,σ.now++solid [p],true,false⟩:=by
   unfold Jo.step solid
   rw[hp.1,hp.2,if_neg Bool.false_ne_true,if_neg Bool.false_ne_true]
   cases h101:(p.2==101) with
   | true=>simp[h101]
   | false=>simp[h101]
  rw[List.foldl_cons,h1]
  by_cases hl:l=[]
  ·subst hl;rfl
  ·rw[fold_plain l _ (fun q hq=>h q (by simp[hq])) hl]
   have:solid (p::l)=solid [p]++solid l:=by unfold solid;rw[←List.filter_append];rfl
   rw[this,List.append_assoc]
def Kp (ifs:B) (c:UInt8):Prop:=c=113∨(c=115∧ifs=[])
theorem Kp.pt {ifs:B} {c:UInt8} (h:Kp ifs c) (x:B):∀ p∈pt x c,sepB ifs p=false∧(p.2==98)=false:=by
 intro p hp
 have h2:p.2=c∨p.2=101:=by
  unfold Ex.pt at hp
  split at hp
  ·rw[List.mem_singleton.1 hp];exact .inr rfl
  ·obtain⟨y,_,rfl⟩:=List.mem_map.1 hp;exact .inl rfl
 unfold Jo.sepB
 rcases h with rfl | ⟨rfl,rfl⟩
 ·rcases h2 with e | e <;> rw[e] <;> exact⟨rfl,rfl⟩
 ·rcases h2 with e | e <;> rw[e] <;> exact⟨by simp,rfl⟩
theorem Kp.ne {ifs:B} {c:UInt8} (h:Kp ifs c):c≠101:=by rcases h with rfl | ⟨rfl,_⟩ <;> decide
theorem pt_solid (t:B) {c:UInt8} (hc:c≠101):solid (pt t c)=t.map fun x=>(x,c):=by
 unfold solid pt
 split
 ·rename_i h;rw[h.1];rfl
 ·rw[List.filter_eq_self]
  intro a ha
  obtain⟨x,_,rfl⟩:=List.mem_map.1 ha
  simp[hc]
def fieldsOf (c:UInt8) (l:List B):List Rw:=(l.filter fun x=>!(pt x c).isEmpty).map fun x=>x.map fun y=>(y,c)
theorem fin_pt {ifs:B} {c:UInt8} (h:Kp ifs c) (x:B) (out:List Rw) (k:Bool):Jo.fin ((pt x c).foldl (Jo.step ifs) ⟨out,[],false,k⟩)=out++fieldsOf c [x]:=by
 unfold fieldsOf
 by_cases he:pt x c=[]
 ·rw[he];simp[he,Jo.fin]
 ·rw[fold_plain _ _ (h.pt x) he]
  have:(pt x c).isEmpty=false:=by rw[List.isEmpty_eq_false_iff];exact he
  simp[Jo.fin,this,pt_solid x h.ne]
theorem fields_cons (c:UInt8) (x:B) (l:List B):fieldsOf c (x::l)=fieldsOf c [x]++fieldsOf c l:=by
 unfold fieldsOf
 rw[←List.map_append,←List.filter_append]
 rfl
theorem fold_args {ifs:B} {c:UInt8} (h:Kp ifs c):∀ (l:List B) (σ:Q),Jo.fin ((l.flatMap fun y=>(32,98)::pt y c).foldl (Jo.step ifs) σ)=Jo.fin σ++fieldsOf c l
 | [],σ=>by simp[fieldsOf]
 | y::l,σ=>by
  have hb:Jo.step ifs σ (32,98)=⟨Jo.fin σ,[],false,false⟩:=by
   have:sepB ifs (32,98)=false:=by unfold Jo.sepB;rfl
   unfold Jo.step
   rw[this,if_neg Bool.false_ne_true,if_pos (by decide)]
   rfl
  rw[List.flatMap_cons,List.cons_append,List.foldl_cons,hb,List.foldl_append,fold_args h l,fin_pt h,fields_cons c y l,List.append_assoc]
theorem split_args {ifs:B} {c:UInt8} (h:Kp ifs c) (l:List B):Jo.split ifs (args c l)=fieldsOf c l:=by
 unfold Jo.split Jo.run
 cases l with
 | nil=>rfl
 | cons x l=>
  show Jo.fin ((pt x c++l.flatMap fun y=>(32,98)::pt y c).foldl (Jo.step ifs) Jo.init)=_
  rw[List.foldl_append,fold_args h l]
  unfold Jo.init
  rw[fin_pt h,fields_cons c x l]
  rfl
theorem split_pt {ifs:B} {c:UInt8} (h:Kp ifs c) (x:B):Jo.split ifs (pt x c)=fieldsOf c [x]:=by
 unfold Jo.split Jo.run Jo.init
 rw[fin_pt h]
 rfl
theorem fields_quo (l:List B):fieldsOf 113 l=l.map fun x=>x.map fun y=>(y,113):=by
 unfold fieldsOf
 rw[List.filter_eq_self.2 ?_]
 intro x _
 unfold pt
 split
 ·rfl
 ·rename_i hx
  cases x with
  | nil=>exact absurd ⟨rfl,rfl⟩ hx
  | cons a t=>rfl
theorem fields_bare (l:List B):fieldsOf 115 l=(l.filter fun x=>!x.isEmpty).map fun x=>x.map fun y=>(y,115):=by
 unfold fieldsOf
 congr 1
 refine List.filter_congr fun x _=>?_
 unfold pt
 rw[if_neg (by rintro⟨_,h⟩;exact absurd h (by decide))]
 cases x <;> rfl
end Ex
end Go.Proofs.YtipdgmjplnibeaaGreatDoor
namespace Go.Proofs.YtipdgmjplnibeaaGreatDoor
set_option maxRecDepth 100000
namespace Ex
open En (E)
open Jo (Q sepB)
def lowc (w:B):Prop:=∀ c∈w,97≤c.toNat∧c.toNat≤122
def lets (w:B):Rw:=w.map fun y=>(y,115)
def gap (n:Nat):B:=if n=0 then [32] else if n=1 then [32,32] else if n=2 then [9] else [10,32]
def jn (g:B):List B→B
 | []=>[]
 | x::l=>x++l.flatMap fun y=>g++y
theorem jn_snoc (g:B) (l:List B) (x:B):jn g (l++[x])=(if l=[] then [] else jn g l++g)++x:=by
 cases l with
 | nil=>simp[jn]
 | cons y l=>simp[jn,List.flatMap_append]
theorem jn_len (g:B) (hg:g.length≤2):∀ l:List B,(∀ x∈l,x.length≤20)→(jn g l).length≤22*l.length
 | [],_=>by simp[jn]
 | x::l,h=>by
  have h1:∀ l:List B,(∀ x∈l,x.length≤20)→(l.flatMap fun y=>g++y).length≤22*l.length:=by
   intro l
   induction l with
   | nil=>simp
   | cons y l ih=>
    intro h
    have h2:=ih fun z hz=>h z (by simp[hz])
    have h3:=h y (by simp)
    rw[List.flatMap_cons,List.length_append,List.length_append,List.length_cons]
    omega
  have h2:=h1 l fun z hz=>h z (by simp[hz])
  have h3:=h x (by simp)
  rw[jn,List.length_append,List.length_cons]
  omega
theorem gap_len (n:Nat):(gap n).length≤2:=by unfold gap;split <;> (try split) <;> (try split) <;> simp
theorem low_sep {w:B} (h:lowc w):∀ p∈lets w,sepB [32,9,10] p=false∧(p.2==98)=false:=by
 intro p hp
 obtain⟨y,hy,rfl⟩:=List.mem_map.1 hp
 have h1:=h y hy
 refine⟨?_,rfl⟩
 unfold Jo.sepB
 have h2:([32,9,10]:B).contains y=false:=by
  rw[←Bool.not_eq_true,List.contains_iff_mem]
  intro h3
  simp at h3
  rcases h3 with rfl | rfl | rfl <;> simp at h1
 rw[h2,Bool.and_false]
theorem solid_lets (w:B):solid (lets w)=lets w:=by
 unfold solid lets
 rw[List.filter_eq_self]
 intro a ha
 obtain⟨y,_,rfl⟩:=List.mem_map.1 ha
 rfl
theorem lets_ne {w:B} (h:w≠[]):lets w≠[]:=by unfold lets;simpa using h
theorem fold_lets {w:B} (h:lowc w) (hn:w≠[]) (σ:Q):(lets w).foldl (Jo.step [32,9,10]) σ=⟨σ.out,σ.now++lets w,true,false⟩:=by
 rw[fold_plain _ _ (low_sep h) (lets_ne hn),solid_lets]
theorem fold_gap (n:Nat) (out:List Rw) (now:Rw):(lets (gap n)).foldl (Jo.step [32,9,10]) ⟨out,now,true,false⟩=⟨out++[now],[],false,true⟩:=by
 unfold gap
 split
 ·rfl
 ·split
  ·rfl
  ·split <;> rfl
theorem lets_app (a b:B):lets (a++b)=lets a++lets b:=by unfold lets;rw[List.map_append]
def flds (now:Rw):List B→List Rw
 | []=>[now++[(66,113)]]
 | x::l=>now::flds (lets x) l
theorem fold_tail (n:Nat):∀ (l:List B),(∀ x∈l,lowc x∧x≠[])→∀ (out:List Rw) (now:Rw),Jo.fin ((lets (l.flatMap fun y=>gap n++y)++[(66,113)]).foldl (Jo.step [32,9,10]) ⟨out,now,true,false⟩)=out++flds now l
 | [],_,out,now=>rfl
 | x::l,h,out,now=>by
  have hx:=h x (by simp)
  rw[List.flatMap_cons,lets_app,lets_app,List.append_assoc,List.append_assoc,List.foldl_append,fold_gap,List.foldl_append,fold_lets hx.1 hx.2]
  show Jo.fin ((lets (l.flatMap fun y=>gap n++y)++[(66,113)]).foldl (Jo.step [32,9,10]) ⟨out++[now],[]++lets x,true,false⟩)=_
  rw[fold_tail n l (fun z hz=>h z (by simp[hz])),List.nil_append,List.append_assoc]
  rfl
def rowS (v:B):Rw:=(65,108)::(lets v++[(66,113)])
theorem split_s (n:Nat) (x:B) (l:List B) (h:∀ y∈x::l,lowc y∧y≠[]):Jo.split [32,9,10] (rowS (jn (gap n) (x::l)))=flds ((65,108)::lets x) l:=by
 have hx:=h x (by simp)
 unfold Jo.split Jo.run rowS
 rw[List.foldl_cons]
 have h1:Jo.step [32,9,10] Jo.init (65,108)=⟨[],[(65,108)],true,false⟩:=rfl
 rw[h1,jn,lets_app,List.append_assoc,List.foldl_append,fold_lets hx.1 hx.2]
 show Jo.fin ((lets (l.flatMap fun y=>gap n++y)++[(66,113)]).foldl (Jo.step [32,9,10]) ⟨[],[(65,108)]++lets x,true,false⟩)=_
 rw[fold_tail n l fun z hz=>h z (by simp[hz])]
 rfl
theorem flds_len:∀ (l:List B) (now:Rw),(flds now l).length=l.length+1
 | [],_=>rfl
 | x::l,now=>by rw[flds,List.length_cons,flds_len l,List.length_cons]
theorem ft_app (a b:Rw):Jo.ft (a++b)=Jo.ft a++Jo.ft b:=by unfold Jo.ft;rw[List.map_append]
theorem ft_lets (w:B):Jo.ft (lets w)=w:=by unfold Jo.ft lets;rw[List.map_map];simp[Function.comp_def]
def wantS (L:Nat) (i:Nat) (w:B):B:=(if i=0 then 65::w else w)++(if i+1=L then [66] else [])
theorem flds_at:∀ (l:List B) (now:Rw) (i:Nat) (h:i<(flds now l).length),Jo.ft (flds now l)[i]=(if h:i=0 then Jo.ft now else l[i-1]'(by rw[flds_len] at *;omega))++(if i=l.length then [66] else [])
 | [],now,0,_=>by show Jo.ft (now++[(66,113)])=_;rw[ft_app];rfl
 | [],now,i+1,h=>by simp[flds] at h
 | x::l,now,0,_=>by simp[flds]
 | x::l,now,i+1,h=>by
  have h1:i<(flds (lets x) l).length:=by simpa [flds] using h
  have e:=flds_at l (lets x) i h1
  show Jo.ft (flds (lets x) l)[i]=_
  rw[e,ft_lets]
  cases i with
  | zero=>cases l <;> simp
  | succ i=>simp
theorem split_colon {v:B} (hv:∀ c∈v,c≠58):Jo.split [58] (rowS v)=[rowS v]:=by
 unfold Jo.split Jo.run
 have hs:solid (rowS v)=rowS v:=by
  show (rowS v).filter _=_
  rw[List.filter_eq_self]
  intro a ha
  rcases List.mem_cons.1 ha with rfl | ha
  ·rfl
  ·rcases List.mem_append.1 ha with ha | ha
   ·obtain⟨y,_,rfl⟩:=List.mem_map.1 ha;rfl
   ·rw[List.mem_singleton.1 ha];rfl
 rw[fold_plain (ifs:=[58]) (rowS v) _ (fun p hp=>?_) (by simp[rowS]),hs]
 ·rfl
 ·rcases List.mem_cons.1 hp with rfl | hp
  ·exact⟨rfl,rfl⟩
  ·rcases List.mem_append.1 hp with hp | hp
   ·obtain⟨y,hy,rfl⟩:=List.mem_map.1 hp
    refine⟨?_,rfl⟩
    unfold Jo.sepB
    have:=hv y hy
    simp[this]
   ·rw[List.mem_singleton.1 hp];exact⟨rfl,rfl⟩
theorem ft_rowS (v:B):Jo.ft (rowS v)=65::(v++[66]):=by
 show 65::Jo.ft (lets v++[(66,113)])=_
 rw[ft_app,ft_lets]
 rfl
def rawS:B:=[65,36,120,34,66,34]
theorem parse_s:Wd.parse rawS=([.mk 1 [65] [] false [],PX [120] false,.mk 2 [66] [] false []],0):=by kernel_rfl
def XI (v:B):E:=⟨[([73,70,83],[58]),([120],v)],[],0,[]⟩
theorem set_ifs (v:B):En.set Ar.nameB (X1 v) [73,70,83] [58]=XI v:=rfl
theorem get_xi (v:B):En.get Ar.nameB (XI v) [120]=(v,true):=rfl
theorem row_three {d:Nat} {e:E} {p q s:P} {a b c:Rw} (h1:partF (rowD d) e p=.ok a e) (h2:partF (rowD d) e q=.ok b e) (h3:partF (rowD d) e s=.ok c e) (hr:(a++b++c).length≤100000):rowD (d+1) e [p,q,s]=.ok (a++b++c) e:=by
 rw[List.length_append,List.length_append] at hr
 show (if [p,q,s].length≤1000 then rowF (partF (rowD d)) e [p,q,s] [] else .big)=_
 rw[if_pos (by simp)]
 unfold rowF
 rw[h1]
 show (if ([]++a).length≤100000 then rowF _ e [q,s] ([]++a) else .big)=_
 rw[List.nil_append,if_pos (by omega)]
 unfold rowF
 rw[h2]
 show (if (a++b).length≤100000 then rowF _ e [s] (a++b) else .big)=_
 rw[if_pos (by rw[List.length_append];omega)]
 unfold rowF
 rw[h3]
 show (if (a++b++c).length≤100000 then rowF _ e [] (a++b++c) else .big)=_
 rw[if_pos (by rw[List.length_append,List.length_append];omega)]
 rfl
theorem pt_115 (v:B):pt v 115=lets v:=by unfold pt lets;rw[if_neg (by rintro⟨_,h⟩;cases h)]
theorem part_x {row:E→List P→Res} {e:E} {v:B} (hg:En.get Ar.nameB e [120]=(v,true)) (hv:v.length≤1000):partF row e (PX [120] false)=.ok (lets v) e:=by
 show (if ([120]:B).length≤100000∧([]:B).length≤100000∧(([]:B).all fun x=>decide (x.toNat<128))=true then parF row e (PX [120] false) else .big)=_
 rw[if_pos ⟨by simp,by simp,rfl⟩]
 rw[par_go (p:=PX [120] false) (n:=1) rfl hg (by simp) (by intro h;cases h) (show Pm.does [] v true=1 by unfold Pm.does Pm.col;rw[if_pos rfl];by_cases h:v=[] <;> simp[h] <;> rfl),if_pos rfl,if_neg (by intro h;rcases h with h | h <;> cases h)]
 unfold ptR
 rw[if_pos (by omega)]
 show Res.ok (pt v 115) e=_
 rw[pt_115]
theorem word_s {e:E} {v:B} (hg:En.get Ar.nameB e [120]=(v,true)) (hv:v.length≤1000):word e rawS=.ok (rowS v) e:=by
 unfold word
 rw[parse_s]
 show (if (0:Nat)≠0 then _ else rowD 10 e [.mk 1 [65] [] false [],PX [120] false,.mk 2 [66] [] false []])=_
 rw[if_neg (by decide)]
 exact row_three (a:=[(65,108)]) (b:=lets v) (c:=[(66,113)]) rfl (part_x hg hv) rfl (by simp[lets];omega)
theorem sm_xs {v:B} (h:v.length≤1000):Sm (X1 v)=true:=by unfold Sm X1;simp;omega
theorem sm_xi {v:B} (h:v.length≤1000):Sm (XI v)=true:=by unfold Sm XI;simp;omega
end Ex
end Go.Proofs.YtipdgmjplnibeaaGreatDoor
namespace Go.Proofs.YtipdgmjplnibeaaGreatDoor
open Go.RowKit Go.Maps
set_option maxRecDepth 100000
namespace Ex
open Jo (ft fm rows)
open En (E RdE RdP Vd Rises FrE)
abbrev FieldsTo (W:World) (e e2:E) (raw:ByteArray) (n:Nat) (tx:Nat→B):Prop:=∀ w va,Later W w→RdE w va e→Calls Tryz.prog 12 #[va,.string raw] w fun x W'=>(∃ Bu cu Av nv cv A na c st fl,x=.returned (.tuple #[.slice Bu n cu,.agg #[.slice Av nv cv,.slice A na c,.int .i64 st,.string fl],.agg #[.int .i64 0,.string ⟨#[]⟩]])∧(0<n→∃ bu,Bu=some ⟨bu,0,none⟩∧∀ k,k<n→W'.cell? ⟨bu,k*2,none⟩=some (.string (mkS (tx k))))∧RdE W' (.agg #[.slice Av nv cv,.slice A na c,.int .i64 st,.string fl]) e2)∧Later w W'
theorem FieldsTo.of {W:World} {e e2:E} {raw:B} {r:Rw} {F:List Rw} {tx:Nat→B} (hw:word e raw=.ok r e2) (hF:Jo.split (En.ifs e2.vars) r=F) (ht:∀ k (h:k<F.length),ft F[k]=tx k) (hg:Gw W) (hs:Sm e=true) (hu:Rises e.vars) (hr:raw.length≤100000):FieldsTo W e e2 (mkS raw) F.length tx:=by
 intro w va hl h
 refine(fields_ok hw h (hg.later hl) hs hu hr).mono ?_
 rintro x w' ⟨⟨u,v,rfl,ho,hf⟩,hl'⟩
 rw[hF] at ho
 have hr:=hf.rd
 obtain⟨Av,nv,cv,A,na,c,st,fl,rfl⟩:=rd_shape hr
 obtain⟨Bu,cu,rfl,_⟩:=own_any ho
 refine⟨⟨Bu,cu,Av,nv,cv,A,na,c,st,fl,rfl,fun h0=>?_,hr⟩,hl'⟩
 obtain⟨g,c',e',_,hc⟩:=(Jo.RdR.of_own ho).at_ (by simpa using h0)
 injection e' with e1
 refine⟨g,e1,fun k hk=>?_⟩
 have h1:=(hc k (by simpa using hk)).1
 rw[List.getElem_map] at h1
 rw[←ht k hk]
 exact h1
theorem set_ifs_to {W:World} {va:Value} {v:B} (h:RdE W va (X1 v)):Calls Tryz.prog 14 #[va,.string ⟨#[73,70,83]⟩,.string ⟨#[58]⟩] W fun x W'=>(∃ Av nv cv A na c st fl,x=.returned (.agg #[.slice Av nv cv,.slice A na c,.int .i64 st,.string fl])∧RdE W' (.agg #[.slice Av nv cv,.slice A na c,.int .i64 st,.string fl]) (XI v))∧Later W W':=by
 have h1:=En.set_v va (X1 v) [73,70,83] [58] W h (up_x1 v) (by show 1≤_;omega) (by show 0≤_;omega) (by decide)
 rw[show En.set En.nm (X1 v) [73,70,83] [58]=XI v from set_ifs v] at h1
 refine h1.mono ?_
 rintro x w' ⟨⟨u,rfl,hf⟩,hl⟩
 obtain⟨Av,nv,cv,A,na,c,st,fl,rfl⟩:=rd_shape hf.rd
 exact⟨⟨Av,nv,cv,A,na,c,st,fl,rfl,hf.rd⟩,hl⟩
theorem up_xi (v:B):Rises (XI v).vars:=by unfold Rises XI;simp;decide
theorem gap_ne (n:Nat):∀ c∈gap n,c≠58:=by
 unfold gap
 split
 ·decide
 ·split
  ·decide
  ·split <;> decide
theorem jn_ne {n:Nat}:∀ {l:List B},(∀ x∈l,lowc x)→∀ c∈jn (gap n) l,c≠58:=by
 have hx:∀ x:B,lowc x→∀ c∈x,c≠58:=fun x h c hc e=>by have:=h c hc;rw[e] at this;simp at this
 intro l
 cases l with
 | nil=>intro _ c hc;cases hc
 | cons x l=>
  intro h c hc
  rcases List.mem_append.1 hc with hc | hc
  ·exact hx x (h x (by simp)) c hc
  ·obtain⟨y,hy,hc⟩:=List.mem_flatMap.1 hc
   rcases List.mem_append.1 hc with hc | hc
   ·exact gap_ne n c hc
   ·exact hx y (h y (by simp[hy])) c hc
def Good (l:List B):Prop:=∀ x∈l,lowc x∧x≠[]∧x.length≤20
theorem Good.len {l:List B} (h:Good l) (hn:l.length≤9) (q:Nat):(jn (gap q) l).length≤200:=by
 have:=jn_len (gap q) (gap_len q) l fun x hx=>(h x hx).2.2
 omega
theorem fields_s {W:World} {l:List B} (h:Good l) (hn:l.length≤9) (h0:0<l.length) (q:Nat) (hg:Gw W):FieldsTo W (X1 (jn (gap q) l)) (X1 (jn (gap q) l)) (mkS rawS) l.length fun k=>wantS l.length k (l.getD k []):=by
 obtain⟨x,l',rfl⟩:∃ x l',l=x::l':=by cases l with | nil=>cases h0 | cons x l'=>exact⟨x,l',rfl⟩
 have hl:=h.len hn q
 have hF:Jo.split (En.ifs (X1 (jn (gap q) (x::l'))).vars) (rowS (jn (gap q) (x::l')))=flds ((65,108)::lets x) l':=split_s q x l' fun y hy=>⟨(h y hy).1,(h y hy).2.1⟩
 have h1:=FieldsTo.of (W:=W) (tx:=fun k=>wantS (x::l').length k ((x::l').getD k [])) (word_s (get_x1 _) (by omega)) hF (fun k hk=>?_) hg (sm_xs (by omega)) (up_x1 _) (by decide)
 ·rw[flds_len] at h1
  exact h1
 ·rw[flds_at]
  unfold wantS
  have e1:(k=l'.length)=(k+1=(x::l').length):=by rw[List.length_cons];exact propext ⟨fun h=>by omega,fun h=>by omega⟩
  simp only[e1]
  congr 1
  rw[flds_len] at hk
  cases k with
  | zero=>
   show 65::ft (lets x)=_
   rw[ft_lets]
   rfl
  | succ k=>
   have hk':k<l'.length:=by omega
   simp[List.getElem?_eq_getElem hk']
theorem fields_i {W:World} {l:List B} (h:Good l) (hn:l.length≤9) (q:Nat) (hg:Gw W):FieldsTo W (XI (jn (gap q) l)) (XI (jn (gap q) l)) (mkS rawS) 1 fun _=>65::(jn (gap q) l++[66]):=by
 have hl:=h.len hn q
 have hF:Jo.split (En.ifs (XI (jn (gap q) l)).vars) (rowS (jn (gap q) l))=[rowS (jn (gap q) l)]:=split_colon (jn_ne fun x hx=>(h x hx).1)
 exact FieldsTo.of (W:=W) (F:=[rowS (jn (gap q) l)]) (tx:=fun _=>65::(jn (gap q) l++[66])) (word_s (get_xi _) (by omega)) hF (fun k hk=>by
  have:k=0:=by simpa using hk
  subst this
  exact ft_rowS _) hg (sm_xi (by omega)) (up_xi _) (by decide)
end Ex
end Go.Proofs.YtipdgmjplnibeaaGreatDoor
