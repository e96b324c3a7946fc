import Derived.Test.YtipdgmjplnibeaaGreatDoorG43
set_option maxRecDepth 100000
set_option maxHeartbeats 6400000
namespace Go.Proofs.YtipdgmjplnibeaaGreatDoor
open Go.RowKit Go.Maps
set_option maxRecDepth 100000
section
variable {P:Program} {ops:Array Oper} {Q:Exit→Act→World→Prop} {a0:Act} {C:List Bool→World→Prop} {R:Nat→Value→World→Prop} {G:World→World→Prop}
def OwesG (P:Program) (ops:Array Oper) (Q:Exit→Act→World→Prop) (C:List Bool→World→Prop) (G:World→World→Prop) (ps:List Nat) (R:Nat→Value→World→Prop) (a0:Act) (i:Nat) (o:Oper):Prop:=
 ∀ (a:Act) (w:World) (bits:List Bool),C bits w→(∀ (k p:Nat),ps[k]?=some p→depOn ops i p=true→bits[k]?=some true)→(∀ (k p:Nat),ps[k]?=some p→(p=i∨depOn ops p i=true)→bits[k]?=some false)→Sees ops a0 R o a w →
  Region.wanted o (yielded ops a.tmps)=true∧∀ K:Act→World→Prop,(∀ v w',R i (if o.dst.isSome then v else undef) w'→C (setAt ps i bits) w'→G w w'→K (a.put o.dst v) w')→Oper.wp P o a w K Q
theorem OwesG.q {ps:List Nat} (hG:∀ w,G w w) {i:Nat} {o:Oper} (hi:idx ps i=none) (h:∀ (a:Act) (w:World) (bits:List Bool),C bits w→(∀ (k p:Nat),ps[k]?=some p→(p=i∨depOn ops p i=true)→bits[k]?=some false)→Sees ops a0 R o a w →
  Region.wanted o (yielded ops a.tmps)=true∧ValWp P o a.eval w fun v w'=>R i (if o.dst.isSome then v else undef) w'∧w'=w):OwesG P ops Q C G ps R a0 i o:=fun a w bits hC _ hu hs=>by
 obtain⟨h1,h2⟩:=h a w bits hC hu hs
 refine⟨h1,fun K hK=>wp_of_val (h2.mono fun v w' hk=>hK v w' hk.1 ?_ ?_)⟩
 ·obtain⟨_,rfl⟩:=hk
  unfold setAt
  rw[hi]
  exact hC
 ·rw[hk.2];exact hG _
def OwesAllG (P:Program) (ops:Array Oper) (Q:Exit→Act→World→Prop) (C:List Bool→World→Prop) (G:World→World→Prop) (ps:List Nat) (R:Nat→Value→World→Prop) (a0:Act):Nat→List Oper→Prop
 | _,[]=>True
 | n,o::l=>OwesG P ops Q C G ps R a0 n o∧OwesAllG P ops Q C G ps R a0 (n+1) l
theorem owesAllG_at {ps:List Nat}:∀ (l:List Oper) (n i:Nat) (o:Oper),OwesAllG P ops Q C G ps R a0 n l→l[i]?=some o→OwesG P ops Q C G ps R a0 (n+i) o
 | [],_,i,o,_,h=>by simp at h
 | x::l,n,0,o,h,ho=>by simp at ho;subst ho;exact h.1
 | x::l,n,i+1,o,h,ho=>by
  have:=owesAllG_at l (n+1) i o h.2 (by simpa using ho)
  rwa[show n+1+i=n+(i+1) by omega] at this
theorem wp_region_bitsG {id:Nat} {w:World} {l:List Oper} (hm:P.follows .mixedOrders=true) (ps:List Nat) (C:List Bool→World→Prop) (G:World→World→Prop) (R:Nat→Value→World→Prop) (hmono:∀ i v w w',G w w'→R i v w→R i v w') (hps:∀ p∈ps,p<l.length) (hnd:ps.Nodup) (hok:softB l.toArray a0.tmps.size=true)
  (hC:C (ps.map fun _=>false) w.drew) (hstep:OwesAllG P l.toArray Q C G ps R a0 0 l)
  (hQ:∀ a w,C (ps.map fun _=>true) w→a.defers=a0.defers→a.tmps.size=a0.tmps.size→(∀ t,freeTmp l.toArray t=true→a.tmps.getD t undef=a0.tmps.getD t undef)→(∀ (i:Nat) o,l[i]?=some o→R i (slotOf o.dst a) w)→Q .normal a w) :
  (Code.region id l.toArray true).wp P Q a0 w:=by
 have hso:=SoftOk.of hok
 refine wp_region_any hm (wpAny_softA (C:=fun listed _ w=>PhaseB l.toArray ps C listed w) (R:=R) (G:=G) hso hmono (fun i o ho listed a w hsz hun hdeps hc hsize hsee K hK=>?_)
  (fun listed a w hall hc h=>?_) l.toArray.size (Array.replicate l.toArray.size false) a0 w.drew ?_ ?_ ⟨by simp,rfl,rfl,fun _ _=>rfl,fun i o ho hl=>?_⟩)
 ·have hil:i<listed.size:=by rw[hsz];exact(Array.getElem?_eq_some_iff.1 ho).1
  have hf:listed.getD i false=false:=by simp[hil] at hun⊢;exact hun
  have hw:=owesAllG_at l 0 i o hstep (by simpa using ho)
  rw[Nat.zero_add] at hw
  have hdl:=fun d hd=>deps_listed ho hdeps d hd
  obtain⟨hw1,hw2⟩:=hw a w _ hc.c (fun k p hk hd=>by rw[List.getElem?_map,hk];simp only[Option.map_some];rw[hdl p hd]) (fun k p hk hd=>by
   rw[List.getElem?_map,hk]
   simp only[Option.map_some]
   rcases hd with rfl | hd
   ·rw[hf]
   ·cases e:listed.getD p false with
    | false=>rfl
    | true=>rw[hc.dep p e i hd] at hf;cases hf) hsee
  rw[if_pos hw1]
  refine hw2 K fun v w' hR hC' hG'=>hK v w' hR ⟨by rw[bits_set hnd hil];exact hC',fun p hp d hd=>?_⟩ hG'
  by_cases hpi:i=p
  ·subst hpi
   exact listed_more hil (hdl d hd)
  ·rw[getD_set_ne hpi] at hp
   exact listed_more hil (hc.dep p hp d hd)
 ·refine hQ a w ?_ h.defers h.size (fun t ht=>h.outer t fun j oj' hj _ hd=>?_) fun i o ho=>h.inner i o (by simpa using ho) (by have:=(List.getElem?_eq_some_iff.1 ho).1;simp[this])
  ·have:=hc.c
   rwa[List.map_congr_left (g:=fun _=>true) fun p hp=>hall p (by simpa using hps p hp)] at this
  unfold freeTmp at ht
  rw[List.all_eq_true] at ht
  have:=ht oj' (Array.mem_toList_iff.2 (Array.mem_of_getElem? hj))
  simp[hd] at this
 ·unfold open_;exact Nat.le_trans List.countP_le_length (by simp)
 ·have hz:∀ p:Nat,(Array.replicate l.toArray.size false).getD p false=false:=fun p=>by by_cases hp:p<l.length <;> simp[hp]
  refine⟨?_,fun p hp=>by rw[hz] at hp;cases hp⟩
  rwa[List.map_congr_left (g:=fun _=>false) fun p _=>hz p]
 ·exfalso
  have hi:=(Array.getElem?_eq_some_iff.1 ho).1
  rw[List.size_toArray] at hi
  simp[hi] at hl
end
theorem own_mono {w:World} {base base' size n:Nat} {e:TypeId} {v:Value} {xs:List Value} (h:w.ownsRow base e size v n xs) (hb:base'≤base):w.ownsRow base' e size v n xs:=by
 obtain⟨h1,h2⟩:=h
 refine⟨h1,?_⟩
 rcases h2 with h2 | ⟨g,cap,cur,e1,e2,e3⟩
 ·exact .inl h2
 ·exact .inr ⟨g,cap,cur,e1,Nat.le_trans hb e2,e3⟩
namespace Ey
open En (E RdE RdP Tx prs Vd Rises FrE)
theorem info_var:(Tryz.prog.info? 65).map (fun i=>(i.zero,i.size,i.bytes))=some (some (.agg #[.string ⟨#[]⟩,.string ⟨#[]⟩]),2,32):=by kernel_rfl
def Vx (w:World) (base:Nat) (v:Value) (l:En.Vs):Prop:=(∃ A c,v=.slice A l.length c∧l.length≤c∧c≤9223372036854775807∧(A=none→c=0))∧(l=[]∨w.ownsRow base 65 2 v l.length (prs l))
theorem prs_one' (l:En.Vs):∀ u∈prs l,u.oneCell'=true:=by
 intro u hu
 unfold prs at hu
 obtain⟨p,_,hp⟩:=List.mem_flatMap.1 hu
 simp only[List.mem_cons,List.not_mem_nil,or_false] at hp
 rcases hp with rfl | rfl <;> rfl
theorem cloneV_v (v:Value) (l:En.Vs) (W:World) (h:RdP W W.heap.size v l) (hl:l.length≤1000000):Calls Tryz.prog 71 #[v] W fun e W'=>(∃ v',e=.returned v'∧Vx W' W.heap.size v' l)∧Later W W':=by
 obtain⟨A,c,rfl,hc1,hc2,hc3⟩:=h.le
 rcases Nat.eq_zero_or_pos l.length with h0 | h0
 ·have e:l=[]:=List.eq_nil_of_length_eq_zero h0
  subst e
  rcases A with _ | ad
  ·refine(Tryz.var_Clone_nil 0 c W).mono ?_
   rintro e w' ⟨rfl,rfl⟩
   exact⟨⟨_,rfl,⟨none,0,rfl,Nat.le_refl _,by omega,fun _=>rfl⟩,.inl rfl⟩,Later.refl _⟩
  ·have heq:∀ W,(binOp .eql 26 (.slice (some ad) 0 c) (.slice none 0 0)).run Tryz.prog W=.ok (.bool false) W:=fun W=>Lib.run_eql_slice_nil W _ _ _ _ _ _ _ Tryz.underlying26
   show Calls Tryz.prog 71 #[.slice (some ad) 0 c] W _
   go_enter Tryz.func71,Tryz.ntmps71
   go_wp2_with fail
   go_ret
   exact⟨⟨_,rfl,⟨_,_,rfl,Nat.le_refl _,by omega,nofun⟩,.inl rfl⟩,Later.alloc _ _⟩
 ·obtain⟨g,o,c',e1,hg,hcell⟩:=h.at_ h0
  injection e1 with e1 _ e2
  subst e1 e2
  obtain⟨i0,hif,hz0,hz1,hz2⟩:=info_parts info_var
  refine(Tryz.var_Clone i0 _ 2 32 hif hz0 hz1 hz2 rfl (by omega) Tryz.sizeOf65 g o l.length c (prs l) W (En.prs_len l) (by unfold maxLen;omega) (by omega) (fun j u hu=>?_) (prs_one' l)).mono ?_
  ·have hj:j<l.length*2:=by rw[←En.prs_len];exact(List.getElem?_eq_some_iff.1 hu).1
   obtain⟨h1,h2⟩:=En.prs_at l (j / 2) (by omega)
   obtain⟨q1,q2⟩:=hcell (j / 2) (by omega)
   rcases Nat.mod_two_eq_zero_or_one j with hm | hm
   ·have ej:j=j / 2*2:=by omega
    rw[ej] at hu⊢
    rw[h1] at hu
    exact q1.trans hu
   ·have ej:j=j / 2*2+1:=by omega
    rw[ej] at hu⊢
    rw[h2] at hu
    exact q2.trans hu
  ·rintro e w' ⟨v',rfl,ho,_,hl'⟩
   obtain⟨A',c',rfl,hle⟩:=own_any ho
   refine⟨⟨_,rfl,⟨A',c',rfl,hle,?_,fun e=>?_⟩,.inr ho⟩,hl'⟩
   ·rcases ho.2 with⟨e,_⟩ | ⟨g2,cap,cur,e,_,_,_,hcm,_⟩
    ·injection e;omega
    ·injection e with _ _ e3
     rw[e3];unfold maxLen at hcm;omega
   ·subst e
    rcases ho.2 with⟨e,_⟩ | ⟨g2,cap,cur,e,_⟩
    ·injection e
    ·injection e with e _ _;cases e
theorem Vx.rd {w:World} {base:Nat} {v:Value} {l:En.Vs} (h:Vx w base v l):RdP w w.heap.size v l:=by
 rcases h.2 with rfl | h2
 ·exact⟨h.1,fun h0=>absurd h0 (by simp)⟩
 ·exact RdP.of_own h2
theorem Vx.kept {w w':World} {base b:Nat} {v:Value} {l:En.Vs} (h:Vx w base v l) (hg:w.grownBy w' (some b)) (hb:b<base):Vx w' base v l:=
 ⟨h.1,h.2.imp id fun h2=>h2.kept hg (.inr fun e=>by have:=(Jo.own_ge h2 e).1;omega)⟩
theorem tx_kept {w w':World} {base b:Nat} {v:Value} {l:List B} (h:Tx w base v l) (hg:w.grownBy w' (some b)) (hb:b<base):Tx w' base v l:=by
 obtain⟨A,c,e,h1,h2,h3⟩:=h
 exact⟨A,c,e,h1,h2,h3.imp id fun h2=>h2.kept hg (.inr fun e=>by have:=(Jo.own_ge h2 e).1;omega)⟩
def Rx (B:Nat) (va0 aa0:Value) (vs:En.Vs) (ar:List Ey.B):Nat→Value→World→Prop
 | 0,v,_=>v=.pointer (some ⟨B,0,none⟩)
 | 1,v,_=>v=va0
 | 2,v,w=>Vx w (B+2) v vs
 | 3,v,_=>v=.pointer (some ⟨B,1,none⟩)
 | 4,v,_=>v=aa0
 | 5,v,w=>Tx w (B+2) v ar
 | 6,v,_=>v=.pointer (some ⟨B,0,none⟩)
 | 8,v,_=>v=.pointer (some ⟨B,1,none⟩)
 | _,_,_=>True
theorem rx_mono {B:Nat} {va0 aa0:Value} {vs:En.Vs} {ar:List Ey.B} (i:Nat) (v:Value) (w w':World) (hg:w.grownBy w' (some B)) (h:Rx B va0 aa0 vs ar i v w):Rx B va0 aa0 vs ar i v w':=by
 match i with
 | 0 | 1 | 3 | 4 | 6 | 7 | 8=>exact h
 | 2=>exact Vx.kept h hg (by omega)
 | 5=>exact tx_kept h hg (by omega)
 | n+9=>trivial
def Cx (W:World) (B:Nat) (va0 aa0 st fl:Value) (vs:En.Vs) (ar:List Ey.B) (bits:List Bool) (w:World):Prop:=
 bits.length=4∧Later W w∧B+2≤w.heap.size∧w.heap[B+1]?=some (.cells #[.slice none 0 0,.slice none 0 0,.int .i64 0,.string ⟨#[]⟩] 28 (0,0))∧∃ b0 b1,w.heap[B]?=some (.cells #[b0,b1,st,fl] 28 (0,0))∧(bits[2]?=some false→b0=va0)∧(bits[2]?=some true→Vx w (B+2) b0 vs)∧(bits[3]?=some false→b1=aa0)∧(bits[3]?=some true→Tx w (B+2) b1 ar)
theorem Cx.step {W w w9:World} {B:Nat} {va0 aa0 st fl:Value} {vs:En.Vs} {ar:List Ey.B} {bits:List Bool} (h:Cx W B va0 aa0 st fl vs ar bits w) (k:Nat) (hk:k<2) (hl:Later w w9):Cx W B va0 aa0 st fl vs ar (bits.set k true) w9:=by
 obtain⟨h0,h1,h2,h3,b0,b1,h4,h5,h6,h7,h8⟩:=h
 refine⟨by rw[List.length_set];exact h0,h1.trans hl,Nat.le_trans h2 hl.size,later_cells hl h3,b0,b1,later_cells hl h4,?_,?_,?_,?_⟩
 ·rw[List.getElem?_set_ne (by omega)];exact h5
 ·rw[List.getElem?_set_ne (by omega)];exact fun e=>⟨(h6 e).1,(h6 e).2.imp id fun h=>own_below h hl⟩
 ·rw[List.getElem?_set_ne (by omega)];exact h7
 ·rw[List.getElem?_set_ne (by omega)];exact fun e=>(h8 e).later hl
theorem Cx.st1 {W w:World} {va0 aa0 st fl v:Value} {vs:En.Vs} {ar:List Ey.B} {bits:List Bool} (h:Cx W W.heap.size va0 aa0 st fl vs ar bits w) (hv:Vx w (W.heap.size+2) v vs):Cx W W.heap.size va0 aa0 st fl vs ar (bits.set 2 true) (w.setCell ⟨W.heap.size,0,none⟩ v):=by
 obtain⟨h0,h1,h2,h3,b0,b1,h4,h5,h6,h7,h8⟩:=h
 have hg:=set_only w W.heap.size 0 v
 refine⟨by rw[List.length_set];exact h0,later_of_new h1 hg (Nat.le_refl _),Nat.le_trans h2 hg.size,grown_cells hg h3 (by omega),v,b1,set_row h4 0 v,fun e=>?_,fun _=>hv.kept hg (by omega),?_,?_⟩
 ·rw[List.getElem?_set_self (by rw[h0];decide)] at e;cases e
 ·rw[List.getElem?_set_ne (by omega)];exact h7
 ·rw[List.getElem?_set_ne (by omega)];exact fun e=>tx_kept (h8 e) hg (by omega)
theorem Cx.st2 {W w:World} {va0 aa0 st fl v:Value} {vs:En.Vs} {ar:List Ey.B} {bits:List Bool} (h:Cx W W.heap.size va0 aa0 st fl vs ar bits w) (hv:Tx w (W.heap.size+2) v ar):Cx W W.heap.size va0 aa0 st fl vs ar (bits.set 3 true) (w.setCell ⟨W.heap.size,1,none⟩ v):=by
 obtain⟨h0,h1,h2,h3,b0,b1,h4,h5,h6,h7,h8⟩:=h
 have hg:=set_only w W.heap.size 1 v
 refine⟨by rw[List.length_set];exact h0,later_of_new h1 hg (Nat.le_refl _),Nat.le_trans h2 hg.size,grown_cells hg h3 (by omega),b0,v,set_row h4 1 v,?_,?_,fun e=>?_,fun _=>tx_kept hv hg (by omega)⟩
 ·rw[List.getElem?_set_ne (by omega)];exact h5
 ·rw[List.getElem?_set_ne (by omega)];exact fun e=>(h6 e).kept hg (by omega)
 ·rw[List.getElem?_set_self (by rw[h0];decide)] at e;cases e
theorem results_env {fn:Func} {p:Tmp} (h:fn.results=#[.cell p 28]) (tmps:Array Value) (w:World) (g:Nat) (cs:Array Value) (fr:Nat×Nat) (hp:tmps.getD p undef=.pointer (some ⟨g,0,none⟩)) (hg:w.heap[g]?=some (.cells cs 28 fr)) (hs:cs.size=4):(results fn tmps).run Tryz.prog w=.ok (.agg cs) w:=
 results_cell_row h tmps w g _ cs fr _ hp hg Tryz.underlying28 rfl (by rw[hs];kernel_rfl)
theorem anew_v (va:Value) (e:E) (W:World) (h:RdE W va e) (hs:Sm e=true):Calls Tryz.prog 44 #[va] W fun x W'=>∃ v,x=.returned v∧FrE W.heap.size W' v e∧Later W W':=by
 obtain⟨v0,A,n,c,rfl,hv,hr,hc1,hc2⟩:=h
 have hn:e.args.length=n:=hr.len_map
 subst hn
 obtain⟨Av,cv,rfl,hcv⟩:=hv.le
 obtain⟨hs1,_,hs3,_⟩:=sm_facts hs
 obtain⟨st,hst⟩:∃ st:Int,st=e.status:=⟨_,rfl⟩
 obtain⟨fl,hfl⟩:∃ fl,fl=mkS e.flags:=⟨_,rfl⟩
 have HST:=Lib.hid hst
 have HFL:=Lib.hid hfl
 rw[←hst,←hfl]
 obtain⟨nv,hnv⟩:∃ nv,nv=e.vars.length:=⟨_,rfl⟩
 obtain⟨na,hna⟩:∃ na,na=e.args.length:=⟨_,rfl⟩
 have HV:=Lib.hid (fun w (hl:Later W w)=>cloneV_v (.slice Av nv cv) e.vars w (by rw[hnv];exact(hv.later hl)) (by omega))
 have HT:=Lib.hid (fun w (hl:Later W w)=>En.clone_v A na c e.args w (by rw[hna];exact((hr.below hl).more hl.size)) (by omega))
 rw[←hnv,←hna]
 have HX:=Lib.hid hc2
 have h0:Cx W W.heap.size (.slice Av nv cv) (.slice A na c) (.int .i64 st) (.string fl) e.vars e.args [false,false,false,false] ((W.alloc (.cells #[.slice Av nv cv,.slice A na c,.int .i64 st,.string fl] 28)).alloc (.cells #[.slice none 0 0,.slice none 0 0,.int .i64 0,.string ⟨#[]⟩] 28)).drew:=by
  have h1:=heap_alloc_new W (.cells #[.slice Av nv cv,.slice A na c,.int .i64 st,.string fl] 28)
  have h2:=heap_alloc_new (W.alloc (.cells #[.slice Av nv cv,.slice A na c,.int .i64 st,.string fl] 28)) (.cells #[.slice none 0 0,.slice none 0 0,.int .i64 0,.string ⟨#[]⟩] 28)
  rw[World.size_alloc] at h2
  refine⟨rfl,((Later.alloc _ _).trans (Later.alloc _ _)).trans (Later.drew _),?_,later_cells (Later.drew _) h2,_,_,later_cells (Later.drew _) (later_cells (Later.alloc _ _) h1),fun _=>rfl,nofun,fun _=>rfl,nofun⟩
  have:=lt_of_block (later_cells (Later.drew _) h2)
  omega
 have H0:=Lib.hid h0
 clear hv hr hc1 hc2 hcv hs1 hs3 hs hst hfl hnv hna h0
 go_enter Tryz.func44,Tryz.ntmps44
 go_wp2_with fail
 refine wp_region_bitsG (by kernel_rfl) [2,5,7,9] (Cx W W.heap.size (.slice Av nv cv) (.slice A na c) (.int .i64 st) (.string fl) e.vars e.args) (fun w w'=>w.grownBy w' (some W.heap.size)) (Rx W.heap.size (.slice Av nv cv) (.slice A na c) e.vars e.args) (fun i v w w' hg h=>rx_mono i v w w' hg h) (by decide) (by decide) (by kernel_rfl) H0.out ?_ ?_
 ·refine⟨?_,?_,?_,?_,?_,?_,?_,?_,?_,?_,trivial⟩
  ·refine OwesG.q (fun w=>grown_of_later (Later.refl w) _) rfl fun a w bits hC hu hs=>⟨rfl,?_⟩
   have e1:a.tmps.getD 1 undef=.pointer (some ⟨W.heap.size,0,none⟩):=hs.free 1 rfl
   clear hC hu
   refine ValWp.pure (v:=.pointer (some ⟨W.heap.size,0,none⟩)) (fun K' hK'=>?_) ⟨rfl,rfl⟩
   simp only[ValWp,execOp,Act.eval,e1]
   go_simp
   all_goals exact hK'
  ·
   refine OwesG.q (fun w=>grown_of_later (Later.refl w) _) rfl fun a w bits hC hu hs=>⟨rfl,?_⟩
   have e3:a.tmps.getD 3 undef=.pointer (some ⟨W.heap.size,0,none⟩):=hs.dep 0 _ rfl rfl
   have hb:=hu 2 7 rfl (.inr rfl)
   obtain⟨_,_,_,_,b0,b1,hx,h1,_⟩:=hC
   have q0:=(cell_row hx 0).1
   rw[show (#[b0,b1,Value.int .i64 st,.string fl]:Array Value)[0]?=some b0 from rfl,h1 hb] at q0
   clear hu hx h1
   refine ValWp.pure (v:=.slice Av nv cv) (fun K' hK'=>?_) ⟨rfl,rfl⟩
   simp only[ValWp,execOp,Act.eval,e3]
   go_simp
   all_goals exact hK'
  ·
   refine fun a w bits hC hd hu hs=>⟨rfl,fun K hK=>?_⟩
   have e4:a.tmps.getD 4 undef=.slice Av nv cv:=hs.dep 1 _ rfl rfl
   have hw:=hC.2.1
   refine wp_callN 71 _ _ #[.slice Av nv cv] rfl rfl (by simp only[List.map_toArray,List.map_cons,List.map_nil,Act.eval,e4]) (entO Tryz.func71 rfl rfl) ((HV.out w hw).mono ?_)
   rintro e9 w9 ⟨⟨v',rfl,hvx⟩,hl9⟩
   have hvx':Vx w9 (W.heap.size+2) v' e.vars:=⟨hvx.1,hvx.2.imp id fun h2=>own_mono h2 hC.2.2.1⟩
   exact⟨_,rfl,hK _ _ hvx' (hC.step 0 (by decide) hl9) (grown_of_later hl9 _)⟩
  ·refine OwesG.q (fun w=>grown_of_later (Later.refl w) _) rfl fun a w bits hC hu hs=>⟨rfl,?_⟩
   have e1:a.tmps.getD 1 undef=.pointer (some ⟨W.heap.size,0,none⟩):=hs.free 1 rfl
   clear hC hu
   refine ValWp.pure (v:=.pointer (some ⟨W.heap.size,1,none⟩)) (fun K' hK'=>?_) ⟨rfl,rfl⟩
   simp only[ValWp,execOp,Act.eval,e1]
   go_simp
   all_goals exact hK'
  ·refine OwesG.q (fun w=>grown_of_later (Later.refl w) _) rfl fun a w bits hC hu hs=>⟨rfl,?_⟩
   have e6:a.tmps.getD 6 undef=.pointer (some ⟨W.heap.size,1,none⟩):=hs.dep 3 _ rfl rfl
   have hb:=hu 3 9 rfl (.inr rfl)
   obtain⟨_,_,_,_,b0,b1,hx,_,_,h1,_⟩:=hC
   have q0:=(cell_row hx 1).1
   rw[show (#[b0,b1,Value.int .i64 st,.string fl]:Array Value)[1]?=some b1 from rfl,h1 hb] at q0
   clear hu hx h1
   refine ValWp.pure (v:=.slice A na c) (fun K' hK'=>?_) ⟨rfl,rfl⟩
   simp only[ValWp,execOp,Act.eval,e6]
   go_simp
   all_goals exact hK'
  ·refine fun a w bits hC hd hu hs=>⟨rfl,fun K hK=>?_⟩
   have e7:a.tmps.getD 7 undef=.slice A na c:=hs.dep 4 _ rfl rfl
   have hw:=hC.2.1
   refine wp_callN 62 _ _ #[.slice A na c] rfl rfl (by simp only[List.map_toArray,List.map_cons,List.map_nil,Act.eval,e7]) (entO Tryz.func62 rfl rfl) ((HT.out w hw).mono ?_)
   rintro e9 w9 ⟨⟨v',rfl,hvx⟩,hl9⟩
   have hvx':Tx w9 (W.heap.size+2) v' e.args:=by
    obtain⟨A9,c9,q1,q2,q3,q4⟩:=hvx
    exact⟨A9,c9,q1,q2,q3,q4.imp id fun h2=>own_mono h2 hC.2.2.1⟩
   exact⟨_,rfl,hK _ _ hvx' (hC.step 1 (by decide) hl9) (grown_of_later hl9 _)⟩
  ·refine OwesG.q (fun w=>grown_of_later (Later.refl w) _) rfl fun a w bits hC hu hs=>⟨rfl,?_⟩
   have e1:a.tmps.getD 1 undef=.pointer (some ⟨W.heap.size,0,none⟩):=hs.free 1 rfl
   clear hC hu
   refine ValWp.pure (v:=.pointer (some ⟨W.heap.size,0,none⟩)) (fun K' hK'=>?_) ⟨rfl,rfl⟩
   simp only[ValWp,execOp,Act.eval,e1]
   go_simp
   all_goals exact hK'
  ·refine fun a w bits hC hd hu hs=>⟨rfl,fun K hK=>?_⟩
   have e9:a.tmps.getD 9 undef=.pointer (some ⟨W.heap.size,0,none⟩):=hs.dep 6 _ rfl rfl
   have h5:Vx w (W.heap.size+2) (a.tmps.getD 5 undef) e.vars:=hs.dep 2 _ rfl rfl
   obtain⟨A9,c9,e5,_⟩:=h5.1
   rw[e5] at h5
   obtain⟨b0,b1,hx,_⟩:=hC.2.2.2.2
   have q0:=(cell_row hx 0).1
   have z:=fun i=>(cell_row hx i).2
   have hc':=hC.st1 h5
   refine wp_of_val ?_
   refine ValWp.pure (v:=undef) (w':=w.setCell ⟨W.heap.size,0,none⟩ (.slice A9 e.vars.length c9)) (fun K' hK'=>?_) (hK _ _ trivial hc' (set_only _ _ _ _))
   clear hu hd hC h5 hc'
   simp only[ValWp,execOp,Act.eval,e9,e5]
   go_simp
   all_goals exact hK'
  ·refine OwesG.q (fun w=>grown_of_later (Later.refl w) _) rfl fun a w bits hC hu hs=>⟨rfl,?_⟩
   have e1:a.tmps.getD 1 undef=.pointer (some ⟨W.heap.size,0,none⟩):=hs.free 1 rfl
   clear hC hu
   refine ValWp.pure (v:=.pointer (some ⟨W.heap.size,1,none⟩)) (fun K' hK'=>?_) ⟨rfl,rfl⟩
   simp only[ValWp,execOp,Act.eval,e1]
   go_simp
   all_goals exact hK'
  ·refine fun a w bits hC hd hu hs=>⟨rfl,fun K hK=>?_⟩
   have e10:a.tmps.getD 10 undef=.pointer (some ⟨W.heap.size,1,none⟩):=hs.dep 8 _ rfl rfl
   have h8:Tx w (W.heap.size+2) (a.tmps.getD 8 undef) e.args:=hs.dep 5 _ rfl rfl
   obtain⟨A9,c9,e8,_⟩:=id h8
   rw[e8] at h8
   obtain⟨b0,b1,hx,_⟩:=hC.2.2.2.2
   have q0:=(cell_row hx 1).1
   have z:=fun i=>(cell_row hx i).2
   have hc':=hC.st2 h8
   refine wp_of_val ?_
   refine ValWp.pure (v:=undef) (w':=w.setCell ⟨W.heap.size,1,none⟩ (.slice A9 e.args.length c9)) (fun K' hK'=>?_) (hK _ _ trivial hc' (set_only _ _ _ _))
   clear hu hd hC h8 hc'
   simp only[ValWp,execOp,Act.eval,e10,e8]
   go_simp
   all_goals exact hK'
 ·intro a w hC hd hsz hfree hs
  obtain⟨z0,z1,z2,u3,u4,u5,u6,u7,u8,u9,u10,z11,hal⟩:=lets a 12 0
  obtain rfl:=hal.on (v:=_) 0 (hfree 0 rfl) rfl
  obtain rfl:=hal.on (v:=_) 1 (hfree 1 rfl) rfl
  obtain rfl:=hal.on (v:=_) 2 (hfree 2 rfl) rfl
  obtain rfl:=hal.on (v:=_) 11 (hfree 11 rfl) rfl
  have hlit:=fun h=>act_lit hd h hal
  rw[hlit hsz]
  simp only[Array.getD_eq_getD_getElem?,List.getElem?_toArray,List.getElem?_cons_zero,List.getElem?_cons_succ,Option.getD_some]
  clear hlit hal hd hsz hfree hs
  obtain⟨_,hlw,_,hrs,b0,b1,hbx,_,hv2,_,ht2⟩:=hC
  replace hv2:=hv2 rfl
  replace ht2:=ht2 rfl
  obtain⟨⟨A0,k0,rfl,_⟩,_⟩:=id hv2
  obtain⟨A1,k1,rfl,hk1,hk2,_⟩:=id ht2
  have HV2:=Lib.hid hv2
  have HT2:=Lib.hid ht2
  have HLW:=Lib.hid hlw
  have c0:=(cell_row hbx 0).1
  have c1:=(cell_row hbx 1).1
  have c2:=(cell_row hbx 2).1
  have c3:=(cell_row hbx 3).1
  have r0:=(cell_row hrs 0).1
  have r1:=(cell_row hrs 1).1
  have r2:=(cell_row hrs 2).1
  have r3:=(cell_row hrs 3).1
  have z:=fun i=>(cell_row hrs i).2
  have HRS:=Lib.hid hrs
  clear hbx hrs hv2 ht2 hlw
  go_wp2
  have hg:=only_trans (only_trans (only_trans (set_only w (W.heap.size+1) 0 (.slice A0 e.vars.length k0)) (set_only _ (W.heap.size+1) 1 (.slice A1 e.args.length k1))) (set_only _ (W.heap.size+1) 2 (.int .i64 st))) (set_only _ (W.heap.size+1) 3 (.string fl))
  have hb9:=set_row (set_row (set_row (set_row HRS.out 0 (.slice A0 e.vars.length k0)) 1 (.slice A1 e.args.length k1)) 2 (.int .i64 st)) 3 (.string fl)
  obtain⟨w9,hw9⟩:∃ w9,w9=(((w.setCell ⟨W.heap.size+1,0,none⟩ (.slice A0 e.vars.length k0)).setCell ⟨W.heap.size+1,1,none⟩ (.slice A1 e.args.length k1)).setCell ⟨W.heap.size+1,2,none⟩ (.int .i64 st)).setCell ⟨W.heap.size+1,3,none⟩ (.string fl):=⟨_,rfl⟩
  rw[←hw9] at hg hb9⊢
  refine bodyPost_ret (results_env rfl _ _ (W.heap.size+1) _ (0,0) rfl hb9 rfl) rfl ?_
  have hv9:=HV2.out.kept hg (by omega)
  have ht9:=tx_kept HT2.out hg (by omega)
  refine⟨_,rfl,fun w' h1 h2=>?_,later_of_new HLW.out hg (by omega)⟩
  obtain⟨A9,c9,e9,_,_,hrd⟩:=(ht9.move fun k hk=>h2 k (by omega)).rd
  injection e9 with e9 _ _
  subst e9
  refine⟨.slice A0 e.vars.length k0,A1,e.args.length,k1,by rw[←HST.out,←HFL.out];rfl,?_,hrd,hk1,hk2⟩
  rcases hv9.2 with h0 | h9
  ·exact⟨hv9.1,fun h9=>absurd h9 (by rw[h0];simp)⟩
  ·exact RdP.of_own (En.own_move h9 fun k hk=>h2 k (by omega))
end Ey
end Go.Proofs.YtipdgmjplnibeaaGreatDoor
