import Derived.Test.YtipdgmjplnibeaaGreatDoorG47
set_option maxRecDepth 100000
namespace Go.Proofs.YtipdgmjplnibeaaGreatDoor
set_option maxRecDepth 100000
namespace Ex
open En (E)
def X0:E:=⟨[],[],0,[]⟩
def X1 (v:B):E:=⟨[([120],v)],[],0,[]⟩
theorem get_x0:En.get Ar.nameB X0 [120]=([],false):=by kernel_rfl
theorem get_x1 (v:B):En.get Ar.nameB (X1 v) [120]=(v,true):=rfl
theorem set_x0 (w:B):En.set Ar.nameB X0 [120] w=X1 w:=rfl
theorem set_x1 (v w:B):En.set Ar.nameB (X1 v) [120] w=X1 w:=rfl
theorem par_go {row:E→List P→Res} {e:E} {p:P} {v:B} {b:Bool} {n:Int} (h1:parted p=false) (hg:En.get Ar.nameB e p.t=(v,b)) (h2:¬ (b=false∧need p=true)) (h3:¬ p.o=LEN) (h4:Pm.does p.o v b=n) :
  parF row e p=(if n=1 then (if Pm.trims p.o=true∨b=false then .big else ptR v (lt p.q) e)
   else if n=2 then (row e p.w).then fun r e'=>if p.q=true then ptR (flat r) 113 e' else if noLit r=true then .ok r e' else .big
   else if n=3 then (if Ar.nameB p.t=true then (row e p.w).then fun r e'=>if Sm (En.set Ar.nameB e' p.t (flat r))=true then ptR (flat r) (lt p.q) (En.set Ar.nameB e' p.t (flat r)) else .big else .big)
   else if n=4 then .bad 23 p.t else ptR [] (lt p.q) e):=by
 unfold parF
 rw[h1,hg,if_neg Bool.false_ne_true,if_neg h2,if_neg h3,h4]
theorem pt_len (t:B) (c:UInt8):(pt t c).length≤t.length+1:=by
 unfold pt
 split
 ·simp
 ·simp
theorem row_one {d:Nat} {e e':E} {p:P} {r:Rw} (h:partF (rowD d) e p=.ok r e') (hr:r.length≤100000):rowD (d+1) e [p]=.ok r e':=by
 show (if [p].length≤1000 then rowF (partF (rowD d)) e [p] [] else .big)=_
 rw[if_pos (by simp)]
 unfold rowF
 rw[h]
 show (if ([]++r).length≤100000 then rowF _ e' [] ([]++r) else .big)=_
 rw[List.nil_append,if_pos hr]
 rfl
theorem row_one_bad {d:Nat} {e:E} {p:P} {n:Nat} {t:B} (h:partF (rowD d) e p=.bad n t):rowD (d+1) e [p]=.bad n t:=by
 show (if [p].length≤1000 then rowF (partF (rowD d)) e [p] [] else .big)=_
 rw[if_pos (by simp)]
 unfold rowF
 rw[h]
 rfl
theorem part_quo {row:E→List P→Res} {e:E} {w:B} (hw:w.length≤30):partF row e (.mk 2 w [] false [])=.ok (pt w 113) e:=by
 unfold partF
 rw[if_pos ⟨by show w.length≤100000;omega,by show ([]:B).length≤100000;simp,rfl⟩]
 rfl
theorem row_quo {d:Nat} {e:E} {w:B} (hw:w.length≤30):rowD (d+1) e [.mk 2 w [] false []]=.ok (pt w 113) e:=
 row_one (part_quo hw) (by have:=pt_len w 113;omega)
theorem solid_pt (t:B) (c:UInt8) (hc:c≠101):solid (pt t c)=t.map fun x=>(x,c):=by
 unfold solid pt
 split
 ·rename_i h
  rw[h.1]
  rfl
 ·rw[List.filter_eq_self]
  intro a ha
  obtain⟨x,_,rfl⟩:=List.mem_map.1 ha
  simp[hc]
theorem flat_pt (t:B) (c:UInt8) (hc:c≠101):flat (pt t c)=t:=by
 unfold flat
 rw[solid_pt t c hc,List.map_map]
 simp[Function.comp_def]
theorem noLit_pt (t:B):noLit (pt t 113)=true:=by
 unfold noLit pt
 split
 ·rfl
 ·rw[List.all_eq_true]
  intro a ha
  obtain⟨x,_,rfl⟩:=List.mem_map.1 ha
  rfl
theorem ptR_30 {t:B} (h:t.length≤30) (c:UInt8) (e:E):ptR t c e=.ok (pt t c) e:=by unfold ptR;rw[if_pos (by omega)]
theorem sm_x1 {v:B} (h:v.length≤30):Sm (X1 v)=true:=by unfold Sm X1;simp;omega
theorem sm_x0:Sm X0=true:=by kernel_rfl
def PD (o w:B):P:=.mk 3 [120] o false [.mk 2 w [] false []]
def txtD (o w:B):B:=36::123::120::(o++39::(w++[39,125]))
theorem part_par {row:E→List P→Res} {e:E} {o w:B} (ho:Wd.isOp o):partF row e (PD o w)=parF row e (PD o w):=by
 show (if ([120]:B).length≤100000∧o.length≤100000∧(o.all fun x=>decide (x.toNat<128))=true then _ else _)=_
 rw[if_pos ⟨by simp,by rcases ho with rfl | rfl | rfl | rfl | rfl | rfl <;> simp,by rcases ho with rfl | rfl | rfl | rfl | rfl | rfl <;> rfl⟩]
 rfl
theorem word_ok {e e':E} {o w:B} {r:Rw} (ho:Wd.isOp o) (hq:(39:UInt8)∉w) (h:parF (rowD 9) e (PD o w)=.ok r e') (hr:r.length≤100000):word e (txtD o w)=.ok r e':=by
 unfold word txtD
 rw[Wd.parse_q ho hq]
 show (if (0:Nat)≠0 then _ else rowD 10 e [PD o w])=_
 rw[if_neg (by decide)]
 exact row_one ((part_par ho).trans h) hr
def isD (o:B):Prop:=o=[58,45]∨o=[45]∨o=[58,61]∨o=[58,43]∨o=[43]
theorem isD.op {o:B} (h:isD o):Wd.isOp o:=by
 rcases h with h | h | h | h | h
 ·exact .inl h
 ·exact .inr (.inl h)
 ·exact .inr (.inr (.inl h))
 ·exact .inr (.inr (.inr (.inl h)))
 ·exact .inr (.inr (.inr (.inr (.inl h))))
theorem par_is {row:E→List P→Res} {e:E} {o w v:B} {b:Bool} {n:Int} (ho:isD o) (hg:En.get Ar.nameB e [120]=(v,b)) (h4:Pm.does o v b=n) :
  parF row e (PD o w)=(if n=1 then (if Pm.trims o=true∨b=false then .big else ptR v 115 e)
   else if n=2 then (row e [.mk 2 w [] false []]).then fun r e'=>if (PD o w).q=true then ptR (flat r) 113 e' else if noLit r=true then .ok r e' else .big
   else if n=3 then (if Ar.nameB [120]=true then (row e [.mk 2 w [] false []]).then fun r e'=>if Sm (En.set Ar.nameB e' [120] (flat r))=true then ptR (flat r) 115 (En.set Ar.nameB e' [120] (flat r)) else .big else .big)
   else if n=4 then .bad 23 [120] else ptR [] 115 e):=by
 have h1:parted (PD o w)=false:=by rcases ho with rfl | rfl | rfl | rfl | rfl <;> rfl
 have h2:need (PD o w)=false:=by rcases ho with rfl | rfl | rfl | rfl | rfl <;> rfl
 have h3:¬ (PD o w).o=LEN:=by rcases ho with rfl | rfl | rfl | rfl | rfl <;> (intro h;cases h)
 exact par_go h1 hg (by rw[h2];simp) h3 h4
section
variable {row:E→List P→Res} {e:E} {o w v:B} {b:Bool} (ho:isD o) (hg:En.get Ar.nameB e [120]=(v,b))
include ho hg
theorem par_1 (h4:Pm.does o v b=1) (hb:b=true) (hv:v.length≤30):parF row e (PD o w)=.ok (pt v 115) e:=by
 have ht:Pm.trims o=false:=by rcases ho with rfl | rfl | rfl | rfl | rfl <;> rfl
 rw[par_is ho hg h4,if_pos rfl,ht,hb,if_neg (by simp),ptR_30 hv]
theorem par_2 (h4:Pm.does o v b=2) (hr:row e [.mk 2 w [] false []]=.ok (pt w 113) e):parF row e (PD o w)=.ok (pt w 113) e:=by
 rw[par_is ho hg h4,if_neg (by decide),if_pos rfl,hr]
 have hz:(PD o w).q=false:=rfl
 show (if (PD o w).q=true then ptR (flat (pt w 113)) 113 e else if noLit (pt w 113)=true then Res.ok (pt w 113) e else .big)=_
 rw[hz,if_neg Bool.false_ne_true,if_pos (noLit_pt w)]
theorem par_3 (h4:Pm.does o v b=3) (hr:row e [.mk 2 w [] false []]=.ok (pt w 113) e) (hs:En.set Ar.nameB e [120] w=X1 w) (hw:w.length≤30):parF row e (PD o w)=.ok (pt w 115) (X1 w):=by
 rw[par_is ho hg h4,if_neg (by decide),if_neg (by decide),if_pos rfl,if_pos (by decide),hr]
 show (if Sm (En.set Ar.nameB e [120] (flat (pt w 113)))=true then _ else _)=_
 rw[flat_pt w 113 (by decide),hs,if_pos (sm_x1 hw),ptR_30 hw]
theorem par_5 (h4:Pm.does o v b=5):parF row e (PD o w)=.ok (pt [] 115) e:=by
 rw[par_is ho hg h4,if_neg (by decide),if_neg (by decide),if_neg (by decide),if_neg (by decide),ptR_30 (by simp)]
end
def Es (st:Bool) (v:B):E:=if st=true then X1 v else X0
def fu (st:Bool) (v:B):Bool:=st && !v.isEmpty
theorem does_ne {o v:B} (h:v≠[]):Pm.does o v true=(Pm.row o).getD 0 0:=by unfold Pm.does Pm.col;rw[if_pos rfl,if_neg h]
theorem fu_ne {v:B} (h:v≠[]):fu true v=true:=by cases v with | nil=>exact absurd rfl h | cons x l=>rfl
section
variable (st:Bool) {v w:B} (hv:v.length≤30) (hw:w.length≤30) (hq:(39:UInt8)∉w)
include hv hw hq
theorem told_a:∃ r,word (Es st v) (txtD [58,45] w)=.ok r (Es st v)∧flat r=if fu st v=true then v else w:=by
 have ho:isD [58,45]:=.inl rfl
 have l1:=pt_len v 115
 have l2:=pt_len w 113
 cases st with
 | false=>exact⟨_,word_ok ho.op hq (par_2 ho get_x0 rfl (row_quo hw)) (by omega),flat_pt _ _ (by decide)⟩
 | true=>
  by_cases h:v=[]
  ·subst h
   exact⟨_,word_ok ho.op hq (par_2 ho (get_x1 _) rfl (row_quo hw)) (by omega),flat_pt _ _ (by decide)⟩
  ·exact⟨_,word_ok ho.op hq (par_1 ho (get_x1 _) (does_ne h) rfl hv) (by omega),by rw[fu_ne h,if_pos rfl];exact flat_pt _ _ (by decide)⟩
theorem told_b:∃ r,word (Es st v) (txtD [45] w)=.ok r (Es st v)∧flat r=if st=true then v else w:=by
 have ho:isD [45]:=.inr (.inl rfl)
 have l1:=pt_len v 115
 have l2:=pt_len w 113
 cases st with
 | false=>exact⟨_,word_ok ho.op hq (par_2 ho get_x0 rfl (row_quo hw)) (by omega),flat_pt _ _ (by decide)⟩
 | true=>
  refine⟨_,word_ok ho.op hq (par_1 ho (get_x1 _) ?_ rfl hv) (by omega),flat_pt _ _ (by decide)⟩
  by_cases h:v=[]
  ·subst h;rfl
  ·exact does_ne h
theorem told_c:∃ r,word (Es st v) (txtD [58,61] w)=.ok r (if fu st v=true then X1 v else X1 w)∧flat r=if fu st v=true then v else w:=by
 have ho:isD [58,61]:=.inr (.inr (.inl rfl))
 have l1:=pt_len v 115
 have l2:=pt_len w 115
 cases st with
 | false=>exact⟨_,word_ok ho.op hq (par_3 ho get_x0 rfl (row_quo hw) (set_x0 w) hw) (by omega),flat_pt _ _ (by decide)⟩
 | true=>
  by_cases h:v=[]
  ·subst h
   exact⟨_,word_ok ho.op hq (par_3 ho (get_x1 _) rfl (row_quo hw) (set_x1 _ w) hw) (by omega),flat_pt _ _ (by decide)⟩
  ·rw[fu_ne h,if_pos rfl,if_pos rfl]
   exact⟨_,word_ok ho.op hq (par_1 ho (get_x1 _) (does_ne h) rfl hv) (by omega),flat_pt _ _ (by decide)⟩
theorem told_d:∃ r,word (Es st v) (txtD [58,43] w)=.ok r (Es st v)∧flat r=if fu st v=true then w else []:=by
 have ho:isD [58,43]:=.inr (.inr (.inr (.inl rfl)))
 have l1:=pt_len [] 115
 have l2:=pt_len w 113
 cases st with
 | false=>exact⟨_,word_ok ho.op hq (par_5 ho get_x0 rfl) (by decide),flat_pt _ _ (by decide)⟩
 | true=>
  by_cases h:v=[]
  ·subst h
   exact⟨_,word_ok ho.op hq (par_5 ho (get_x1 _) rfl) (by decide),flat_pt _ _ (by decide)⟩
  ·rw[fu_ne h,if_pos rfl]
   exact⟨_,word_ok ho.op hq (par_2 ho (get_x1 _) (does_ne h) (row_quo hw)) (by omega),flat_pt _ _ (by decide)⟩
theorem told_k:∃ r,word (Es st v) (txtD [43] w)=.ok r (Es st v)∧flat r=if st=true then w else []:=by
 have ho:isD [43]:=.inr (.inr (.inr (.inr rfl)))
 have l2:=pt_len w 113
 cases st with
 | false=>exact⟨_,word_ok ho.op hq (par_5 ho get_x0 rfl) (by decide),flat_pt _ _ (by decide)⟩
 | true=>
  refine⟨_,word_ok ho.op hq (par_2 ho (get_x1 _) ?_ (row_quo hw)) (by omega),flat_pt _ _ (by decide)⟩
  by_cases h:v=[]
  ·subst h;rfl
  ·exact does_ne h
end
end Ex
end Go.Proofs.YtipdgmjplnibeaaGreatDoor
