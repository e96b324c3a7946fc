import Derived.Test.YtipdgmjplnibeaaGreatDoorG20
import Derived.Test.YtipdgmjplnibeaaGreatDoorG01
import Derived.Laws.OwnMore
import Derived.Test.YtipdgmjplnibeaaGreatDoorG13
import Derived.Test.YtipdgmjplnibeaaGreatDoorG05
import Derived.BigQuiet
import Derived.Test.YtipdgmjplnibeaaGreatDoorNl
import Derived.Deep.RegionLaw
import Derived.Laws.CopyRow
import Derived.Lib.AppendZerosOnto
import Derived.Lib.SliceRun
import Derived.Shelf.Spec.SlicesInsert
import Derived.Laws.MakeOwn
set_option maxRecDepth 100000
set_option maxHeartbeats 3200000
namespace Go.Proofs.YtipdgmjplnibeaaGreatDoor
open Go.RowKit Go.Maps
set_option maxRecDepth 100000
section
variable {P:Program} {ops:Array Oper} {rest:List Oper} {o:Oper} {a:Act} {Q:Exit→Act→World→Prop}
theorem wpList_appL (w:World) (k:Nat) (hk:0<k) (hgd:o.guard=none) (s x:Operand) (t e:TypeId)
  (ho:o.op=.call { callee:=.builtin .append,args:=#[s,x],argTypes:=#[t,t] }) (i0:TypeInfo) (z:Value) (bytes:Nat) (ht:P.underlying t=some (.slice e)) (hi:P.info? e=some i0) (hz:i0.zero=some z)
  (hsize:i0.size=k) (hby:i0.bytes=bytes) (hzs:z.cells.size=k)
  (base:Nat) (v:Value) (n:Nat) (xs:List Value) (hs:a.eval s=v) (hown:w.ownsRow base e k v n xs)
  (ad:Addr) (m c:Nat) (ys:List Value) (hx:a.eval x=.slice (some ad) m c) (hl:ys.length=m*k) (hys:∀ j u,ys[j]?=some u→w.cell? (ad.add j)=some u) (h1:∀ u∈ys,u.oneCell'=true)
  (hn:(n+m)*bytes≤140737488355328) (hn2:n+m≤140737488355328) (hbase:base≤w.heap.size)
  (h:∀ v' w',GrewK w w' base e k v v' (n+m) (xs++ys)→wpList P ops Q rest (a.put o.dst v') w'):wpList P ops Q (o::rest) a w:=by
 refine wpList_plain hgd fun K hK=>?_
 obtain⟨v',w',hrun,h2,h3,_,h5⟩:=run_append_own_at (P:=P) w base t o.type e i0 z k bytes ht hi hz hsize hby hzs hk v n xs hown ad m c ys hl hys h1 (by unfold maxLen;omega) hn hbase
 unfold Oper.wp execOp
 simp only[ho,resolve,invoke,builtin,Sem.run_bind,Sem.run_pure,Result.andThen_ok,List.map_toArray,List.map_cons,List.map_nil,hs,hx,hrun]
 refine hK _ _ (h v' w' ⟨h2,h3,?_⟩)
 rcases h5 with h5 | h5
 ·exact .inl h5
 ·exact .inr ⟨_,h5,Nat.le_refl _⟩
theorem wpList_appL0 (w:World) (k:Nat) (hgd:o.guard=none) (s x:Operand) (t e:TypeId)
  (ho:o.op=.call { callee:=.builtin .append,args:=#[s,x],argTypes:=#[t,t] }) (i0:TypeInfo) (ht:P.underlying t=some (.slice e)) (hi:P.info? e=some i0)
  (base:Nat) (v:Value) (n:Nat) (xs:List Value) (hs:a.eval s=v) (hown:w.ownsRow base e k v n xs) (hx:a.eval x=.slice none 0 0)
  (h:wpList P ops Q rest (a.put o.dst v) w):wpList P ops Q (o::rest) a w:=by
 refine wpList_plain hgd fun K hK=>?_
 have hrun:=run_append_owned_none (P:=P) w base t o.type e i0 k ht hi v n xs hown
 unfold Oper.wp execOp
 simp only[ho,resolve,invoke,builtin,Sem.run_bind,Sem.run_pure,Result.andThen_ok,List.map_toArray,List.map_cons,List.map_nil,hs,hx,hrun]
 exact hK _ _ h
theorem wpList_appK (w:World) (cs:Array Value) (k:Nat) (hk:0<k) (hcs:cs.size=k) (h1:∀ u∈cs.toList,u.oneCell'=true) (hgd:o.guard=none) (s x:Operand) (t e:TypeId)
  (ho:o.op=.call { callee:=.builtin .append,args:=#[s,x],argTypes:=#[t,t] }) (i0:TypeInfo) (z:Value) (bytes:Nat) (ht:P.underlying t=some (.slice e)) (hi:P.info? e=some i0) (hz:i0.zero=some z)
  (hsize:i0.size=k) (hby:i0.bytes=bytes) (hzs:z.cells.size=k)
  (base:Nat) (v:Value) (n:Nat) (xs:List Value) (hs:a.eval s=v) (hown:w.ownsRow base e k v n xs) (N:Nat) (hN:N=w.heap.size) (hx:a.eval x=.slice (some ⟨N,0,none⟩) 1 1)
  (hn:(n+1)*bytes≤140737488355328) (hn2:n+1≤140737488355328) (hbase:base≤w.heap.size)
  (h:∀ v' w',GrewK w w' base e k v v' (n+1) (xs++cs.toList)→wpList P ops Q rest (a.put o.dst v') w'):wpList P ops Q (o::rest) a (w.alloc (.cells cs e)):=by
 subst hN
 have hla:=Later.alloc w (.cells cs e)
 refine wpList_appL (w.alloc (.cells cs e)) k hk hgd s x t e ho i0 z bytes ht hi hz hsize hby hzs base v n xs hs (hown.alloc _) ⟨w.heap.size,0,none⟩ 1 1 cs.toList hx (by simpa using hcs) (fun j u hj=>?_) h1 hn hn2 (Nat.le_trans hbase hla.size) fun v' w' hg=>h v' w' ⟨hg.own,?_,?_⟩
 ·rw[add_lit0,cell_of_row _ _ j cs e (0,0) (heap_alloc_new w _)]
  simpa using hj
 ·have h3:=hg.grown
  exact⟨h3.os.trans hla.os,h3.tape.trans hla.tape,h3.output.trans hla.output,Nat.le_trans hla.size h3.size,fun k hk hne=>(h3.block k (Nat.lt_of_lt_of_le hk hla.size) hne).trans (hla.block k hk)⟩
 ·rcases hg.moved with h5 | ⟨j,h5,h6⟩
  ·exact .inl h5
  ·exact .inr ⟨j,h5,Nat.le_trans hla.size h6⟩
end
end Go.Proofs.YtipdgmjplnibeaaGreatDoor
namespace Go.Proofs.YtipdgmjplnibeaaGreatDoor
open Go.RowKit Go.Maps
namespace En
def prs (l:Vs):List Value:=l.flatMap fun p=>[.string (mkS p.1),.string (mkS p.2)]
theorem prs_len (l:Vs):(prs l).length=l.length*2:=by
 induction l with
 | nil=>rfl
 | cons p l ih=>unfold prs at ih⊢;rw[List.flatMap_cons,List.length_append,ih,List.length_cons];simp;omega
theorem prs_app (a b:Vs):prs (a++b)=prs a++prs b:=by unfold prs;exact List.flatMap_append
theorem prs_one (a b:B):prs [(a,b)]=[.string (mkS a),.string (mkS b)]:=rfl
theorem prs_at:∀ (l:Vs) (j:Nat) (h:j<l.length),(prs l)[j*2]?=some (.string (mkS l[j].1))∧(prs l)[j*2+1]?=some (.string (mkS l[j].2))
 | [],j,h=>by simp at h
 | y::l,0,_=>by simp[prs]
 | y::l,j+1,h=>by
  have:=prs_at l j (by simpa using h)
  have e:prs (y::l)=[.string (mkS y.1),.string (mkS y.2)]++prs l:=rfl
  rw[e,List.getElem?_append_right (by simp;omega),List.getElem?_append_right (by simp;omega)]
  simp only[List.length_cons,List.length_nil,List.getElem_cons_succ]
  rw[show (j+1)*2-(0+1+1)=j*2 by omega,show (j+1)*2+1-(0+1+1)=j*2+1 by omega]
  exact this
theorem prs_one_cell (l:Vs):∀ u∈prs l,u.oneCell'=true:=by
 intro u hu
 obtain⟨p,_,hp⟩:=List.mem_flatMap.1 hu
 simp at hp
 rcases hp with rfl | rfl <;> rfl
theorem prs_cell {l:Vs} {j:Nat} {u:Value} (h:(prs l)[j]?=some u):∃ k,∃ hk:k<l.length,(j=k*2∧u=.string (mkS l[k].1))∨(j=k*2+1∧u=.string (mkS l[k].2)):=by
 have hj:=(List.getElem?_eq_some_iff.1 h).1
 rw[prs_len] at hj
 have hk:j / 2<l.length:=by omega
 obtain⟨h1,h2⟩:=prs_at l (j / 2) hk
 refine⟨j / 2,hk,?_⟩
 rcases Nat.mod_two_eq_zero_or_one j with e | e
 ·left
  rw[show j / 2*2=j by omega,h] at h1
  exact⟨by omega,by injection h1⟩
 ·right
  rw[show j / 2*2+1=j by omega,h] at h2
  exact⟨by omega,by injection h2⟩
structure RdP (w:World) (B:Nat) (v:Value) (l:Vs):Prop where
 le:∃ A c,v=.slice A l.length c∧l.length≤c∧c≤9223372036854775807∧(A=none→c=0)
 at_:0<l.length→∃ g o c,v=.slice (some ⟨g,o,none⟩) l.length c∧g<B∧∀ (k:Nat) (h:k<l.length),w.cell? ⟨g,o+k*2,none⟩=some (.string (mkS l[k].1))∧w.cell? ⟨g,o+k*2+1,none⟩=some (.string (mkS l[k].2))
theorem RdP.nil (w:World) (B:Nat):RdP w B (.slice none 0 0) []:=⟨⟨none,0,rfl,Nat.le_refl _,by omega,fun _=>rfl⟩,fun h=>absurd h (by simp)⟩
theorem RdP.keep {w w':World} {B:Nat} {v:Value} {l:Vs} (h:RdP w B v l) (hk:∀ p:Addr,p.block<B→w'.cell? p=w.cell? p):RdP w' B v l:=
 ⟨h.le,fun h0=>by
  obtain⟨g,o,c,e,hb,hc⟩:=h.at_ h0
  exact⟨g,o,c,e,hb,fun k hk2=>⟨(hk _ hb).trans (hc k hk2).1,(hk _ hb).trans (hc k hk2).2⟩⟩⟩
theorem RdP.more {w:World} {B B':Nat} {v:Value} {l:Vs} (h:RdP w B v l) (hB:B≤B'):RdP w B' v l:=
 ⟨h.le,fun h0=>by
  obtain⟨g,o,c,e,hb,hc⟩:=h.at_ h0
  exact⟨g,o,c,e,Nat.lt_of_lt_of_le hb hB,hc⟩⟩
theorem RdP.later {w w':World} {v:Value} {l:Vs} (h:RdP w w.heap.size v l) (hl:Later w w'):RdP w' w'.heap.size v l:=(h.keep fun _ hp=>hl.cell hp).more hl.size
theorem RdP.of_own {w:World} {base:Nat} {e:TypeId} {v:Value} {l:Vs} (h:w.ownsRow base e 2 v l.length (prs l)):RdP w w.heap.size v l:=by
 rcases h.2 with⟨rfl,hx⟩ | ⟨g,cap,cur,rfl,hb,hh,hnc,hcm,_⟩
 ·have h0:l=[]:=List.length_eq_zero_iff.1 hx
  subst h0
  exact RdP.nil _ _
 ·refine⟨⟨_,cap,rfl,hnc,?_,fun e=>by cases e⟩,fun _=>⟨g,0,cap,rfl,lt_of_block hh,fun k hk=>?_⟩⟩
  ·simp only[maxLen] at hcm;omega
  ·obtain⟨h1,h2⟩:=prs_at l k hk
   have e1:=h.cells (g:=g) rfl _ _ h1
   have e2:=h.cells (g:=g) rfl _ _ h2
   rw[add_lit0] at e1 e2
   rw[Nat.zero_add]
   exact⟨e1,e2⟩
def RdE (w:World) (v:Value) (e:E):Prop:=∃ va A n c,v=.agg #[va,.slice A n c,.int .i64 (e.status:Int),.string (mkS e.flags)]∧RdP w w.heap.size va e.vars∧Rd w w.heap.size A n (e.args.map fun x=>.string (mkS x))∧n≤c∧c≤9223372036854775807
theorem RdE.later {w w':World} {v:Value} {e:E} (h:RdE w v e) (hl:Later w w'):RdE w' v e:=by
 obtain⟨va,A,n,c,e1,h1,h2,h3,h4⟩:=h
 exact⟨va,A,n,c,e1,h1.later hl,(h2.below hl).more hl.size,h3,h4⟩
theorem RdE.zero (w:World):RdE w (.agg #[.slice none 0 0,.slice none 0 0,.int .i64 0,.string ⟨#[]⟩]) ⟨[],[],0,[]⟩:=⟨_,none,0,0,rfl,RdP.nil _ _,Rd.nil_,Nat.le_refl _,by omega⟩
end En
end Go.Proofs.YtipdgmjplnibeaaGreatDoor
namespace Go.Proofs.YtipdgmjplnibeaaGreatDoor
open Go.RowKit Go.Maps
namespace En
def AtV (l:Vs) (s:B) (r:Int):Prop:=(r=-1∧var l s=none)∨∃ k,∃ hk:k<l.length,r=(k:Int)∧var l s=some l[k].2
theorem none_of {l:Vs} {s:B} (h:∀ j (h:j<l.length),j<l.length→l[j].1≠s):var l s=none:=var_none.2 fun q hq=>by
 obtain⟨j,hj,rfl⟩:=List.mem_iff_getElem.1 hq
 exact h j hj hj
end En
end Go.Proofs.YtipdgmjplnibeaaGreatDoor
namespace Go.Proofs.YtipdgmjplnibeaaGreatDoor
open Go.RowKit Go.Maps
namespace En
def boxE (va aa:Value) (e:E):Array Value:=#[va,aa,.int .i64 (e.status:Int),.string (mkS e.flags)]
theorem f8 {c:UInt8} {n:Nat} {b:Bool} (hn:n<256) (h:decide (c=UInt8.ofNat n)=b):((c.toNat:Int)==(n:Int))=b:=by
 rw[←h,Bool.eq_iff_iff,beq_iff_eq,decide_eq_true_iff]
 constructor
 ·intro h;exact UInt8.toNat_inj.1 (by rw[UInt8.toNat_ofNat'];omega)
 ·rintro rfl;rw[UInt8.toNat_ofNat'];omega
theorem mkS_get' (l:B) (k:Nat) (_:k<(mkS l).size) (h2:k<l.length):(mkS l)[k]=l[k]:=by simp[mkS,ByteArray.getElem_eq_getElem_data]
theorem has_snoc {f:B} {k:Nat} (hk:k<f.length) (c:UInt8):c∈f.take (k+1)↔c∈f.take k∨f[k]=c:=by
 rw[List.take_succ_eq_append_getElem hk,List.mem_append,List.mem_singleton]
 exact or_congr Iff.rfl eq_comm
end En
end Go.Proofs.YtipdgmjplnibeaaGreatDoor
namespace Go.Proofs.YtipdgmjplnibeaaGreatDoor
open Go.RowKit Go.Maps
namespace En
theorem info_V:(Tryz.prog.info? 48).map (fun i=>(i.zero,i.size,i.bytes))=some (some (.agg #[.string ⟨#[]⟩,.string ⟨#[]⟩]),2,32):=by kernel_rfl
theorem V_load {w:World} {g o:Nat} {t m:B} (c0:w.cell? ⟨g,o,none⟩=some (.string (mkS t))) (c1:w.cell? ⟨g,o+1,none⟩=some (.string (mkS m))):(Instr.loadAt 48 (.pointer (some ⟨g,o,none⟩))).run Tryz.prog w=.ok (.agg #[.string (mkS t),.string (mkS m)]) w:=by
 refine run_loadAt_mid (P:=Tryz.prog) w g o 48 [.string (mkS t),.string (mkS m)] _ (fun j v hv=>?_) Tryz.underlying48 rfl (by kernel_rfl)
 have hj:j<2:=(List.getElem?_eq_some_iff.1 hv).1
 match j,hj with
 | 0,_=>cases hv;exact c0
 | 1,_=>cases hv;exact c1
theorem own_ge {w:World} {base n size:Nat} {e:TypeId} {v:Value} {xs:List Value} (h:w.ownsRow base e size v n xs) {k:Nat} (hk:v.ownBlock=some k):base≤k∧k<w.heap.size:=h.lt k hk
end En
end Go.Proofs.YtipdgmjplnibeaaGreatDoor
namespace Go.Proofs.YtipdgmjplnibeaaGreatDoor
open Go.RowKit Go.Maps
set_option maxRecDepth 100000
namespace En
theorem cmp_lt:∀ a b:B,Lib.compareBytes a b<0↔a<b
 | [],[]=>by simp[Lib.compareBytes]
 | [],_::_=>by simp[Lib.compareBytes]
 | _::_,[]=>by simp[Lib.compareBytes]
 | a::l,b::m=>by
  rw[Lib.compareBytes,List.cons_lt_cons_iff]
  by_cases h:a<b
  ·simp[h]
  ·rw[if_neg h]
   by_cases h2:b<a
   ·rw[if_pos h2]
    have:a≠b:=fun e=>by subst e;exact h h2
    simp[h,this]
   ·rw[if_neg h2,cmp_lt l m]
    have:a=b:=UInt8.le_antisymm (UInt8.not_lt.1 h2) (UInt8.not_lt.1 h)
    simp[this]
theorem cmp_eq:∀ a b:B,Lib.compareBytes a b=0↔a=b
 | [],[]=>by simp[Lib.compareBytes]
 | [],_::_=>by simp[Lib.compareBytes]
 | _::_,[]=>by simp[Lib.compareBytes]
 | a::l,b::m=>by
  rw[Lib.compareBytes,List.cons.injEq]
  by_cases h:a<b
  ·have:a≠b:=fun e=>by subst e;exact UInt8.lt_irrefl a h
   simp[h,this]
  ·rw[if_neg h]
   by_cases h2:b<a
   ·rw[if_pos h2]
    have:a≠b:=fun e=>by subst e;exact h h2
    simp[this]
   ·rw[if_neg h2,cmp_eq l m]
    have:a=b:=UInt8.le_antisymm (UInt8.not_lt.1 h2) (UInt8.not_lt.1 h)
    simp[this]
theorem prs_take_eq {l:Vs} {k:Nat} (hk:k≤l.length):(prs l).take (k*2)=prs (l.take k):=by
 have h:=prs_app (l.take k) (l.drop k)
 rw[List.take_append_drop] at h
 rw[h,List.take_append_of_le_length (by rw[prs_len,List.length_take];omega),List.take_of_length_le (by rw[prs_len,List.length_take];omega)]
theorem prs_drop_eq {l:Vs} {k:Nat} (hk:k≤l.length):(prs l).drop (k*2)=prs (l.drop k):=by
 have h:=prs_app (l.take k) (l.drop k)
 rw[List.take_append_drop] at h
 have h2:(prs (l.take k)).length=k*2:=by rw[prs_len,List.length_take];omega
 rw[h,←h2,List.drop_left]
theorem prs_put {l:Vs} {k:Nat} (hk:k<l.length) (a b:B):(prs l).take (k*2)++[.string (mkS a),.string (mkS b)]++(prs l).drop (k*2+2)=prs (l.set k (a,b)):=by
 rw[prs_take_eq (by omega),show k*2+2=(k+1)*2 by omega,prs_drop_eq (by omega),List.set_eq_take_append_cons_drop,if_pos hk,prs_app]
 rw[show prs ((a,b)::l.drop (k+1))=[.string (mkS a),.string (mkS b)]++prs (l.drop (k+1)) from rfl,List.append_assoc]
def zs (n:Nat):Vs:=List.replicate n ([],[])
theorem zs_len (n:Nat):(zs n).length=n:=List.length_replicate
theorem made_pairs (n:Nat):(madeCells (Value.agg #[.string ⟨#[]⟩,.string ⟨#[]⟩]).cells (n*2)).toList=prs (zs n):=by
 apply List.ext_getElem?
 intro j
 by_cases hj:j<n*2
 ·have hk:j / 2<(zs n).length:=by rw[zs_len];omega
  obtain⟨h1,h2⟩:=prs_at (zs n) (j / 2) hk
  have hz:(zs n)[j / 2]=([],[]):=by simp[zs]
  rw[hz] at h1 h2
  have hl:(madeCells (Value.agg #[.string ⟨#[]⟩,.string ⟨#[]⟩]).cells (n*2)).toList[j]?=some (.string ⟨#[]⟩):=by
   rw[Array.getElem?_toList,Array.getElem?_eq_getElem (by rw[size_madeCells];exact hj)]
   simp only[madeCells,Value.cells,Array.getElem_map]
   rcases Nat.mod_two_eq_zero_or_one j with e | e <;> simp[e]
  rw[hl]
  rcases Nat.mod_two_eq_zero_or_one j with e | e
  ·rw[show j / 2*2=j by omega] at h1;rw[h1];rfl
  ·rw[show j / 2*2+1=j by omega] at h2;rw[h2];rfl
 ·rw[List.getElem?_eq_none (by rw[Array.length_toList,size_madeCells];omega),List.getElem?_eq_none (by rw[prs_len,zs_len];omega)]
section
variable {P:Program}
theorem run_storeAt_row (w:World) (g o:Nat) (ty t:TypeId) (cur:Array Value) (hg:w.heap[g]?=some (.cells cur t (0,0))) (cells:Array Value) (hfit:o+cells.size≤cur.size) (hi:(P.info? ty).map (·.size)=some cells.size) (h1:∀ v∈cells.toList,v.oneCell'=true) :
  (Instr.storeAt ty (.pointer (some ⟨g,o,none⟩)) (.agg cells)).run P w=.ok () (w.setRow g (cur.toList.take o++cells.toList++cur.toList.drop (o+cells.size)).toArray):=by
 have hst:=run_storeCells_at P g o t cells.toList 0 cur w hg (by simpa using hfit) h1
 simp only[Instr.storeAt,Instr.sureAddr,Sem.run_bind,Sem.run_pure,Result.andThen_ok]
 cases hq:P.info? ty with
 | none=>simp[hq] at hi
 | some i=>
  have hs:cells.size=i.size:=by simp[hq] at hi;omega
  simp only[Nat.add_zero,Array.length_toList] at hst
  simp[storeVar,sizeOf,typeInfo,hq,Value.cells,hs,hst]
theorem run_copy_row (w:World) (dT sT ty e:TypeId) (i:TypeInfo) (hu:P.underlying dT=some (.slice e)) (hi:P.info? e=some i) (g o dLen dCap:Nat) (cur:Array Value) (t:TypeId) (hg:w.heap[g]?=some (.cells cur t (0,0))) (a:Addr) (sLen sCap:Nat) (cs:List Value)
  (hn:cs.length=Nat.min sLen dLen*i.size) (hsrc:∀ j v,cs[j]?=some v→w.cell? (a.add j)=some v) (hfit:o+cs.length≤cur.size) (h1:∀ v∈cs,v.oneCell'=true) :
  (Builtin.copy_ #[dT,sT] ty #[.slice (some ⟨g,o,none⟩) dLen dCap,.slice (some a) sLen sCap]).run P w=.ok (goInt (Nat.min sLen dLen)) (w.setRow g (cur.toList.take o++cs++cur.toList.drop (o+cs.length)).toArray):=by
 have hl:=run_loadCells_list (P:=P) w a cs hsrc
 have hst:=run_storeCells_at P g o t cs 0 cur w hg (by simpa using hfit) h1
 simp only[Nat.add_zero] at hst
 simp[Builtin.copy_,run_underlying hu,Builtin.lenOf,Builtin.firstCells,sizeOf,typeInfo,hi,←hn,hl,hst]
theorem run_clear_row (w:World) (sT ty e:TypeId) (z:Value) (hu:P.underlying sT=some (.slice e)) (hv:∀ w,(zeroValue e).run P w=.ok z w) (g o n c:Nat) (cur:Array Value) (t:TypeId) (hg:w.heap[g]?=some (.cells cur t (0,0))) (hn:0<n) (hfit:o+n*z.cells.size≤cur.size) (h1:∀ v∈(Builtin.zeroCells z.cells n).toList,v.oneCell'=true) :
  ∃ cur':Array Value,cur'.size=cur.size∧cur'.toList.take o=cur.toList.take o∧(Builtin.clear_ #[sT] ty #[.slice (some ⟨g,o,none⟩) n c]).run P w=.ok (.tuple #[]) (w.setRow g cur'):=by
 have hst:=run_storeCells_at P g o t (Builtin.zeroCells z.cells n).toList 0 cur w hg (by simpa [size_zeroCells] using hfit) h1
 simp only[Nat.add_zero] at hst
 obtain⟨m,rfl⟩:∃ m,n=m+1:=⟨n-1,by omega⟩
 have h5:(Builtin.zeroCells z.cells (m+1)).toList.length=(m+1)*z.cells.size:=by rw[Array.length_toList,size_zeroCells]
 refine⟨_,?_,?_,show _=Result.ok (Value.tuple #[]) (w.setRow g (cur.toList.take o++(Builtin.zeroCells z.cells (m+1)).toList++cur.toList.drop (o+(Builtin.zeroCells z.cells (m+1)).toList.length)).toArray) from ?_⟩
 ·simp only[List.size_toArray,List.length_append,List.length_take,List.length_drop,h5,Array.length_toList] at *
  omega
 ·show (List.take o cur.toList++_++_).take o=_
  have h6:o≤cur.toList.length:=by rw[Array.length_toList];omega
  rw[List.append_assoc,List.take_append_of_le_length (by rw[List.length_take];omega),List.take_take,Nat.min_self]
 ·simp[Builtin.clear_,run_underlying hu,hv,hst]
end
theorem info_var:(Tryz.prog.info? 72).map (fun i=>(i.zero,i.size,i.bytes))=some (some (.agg #[.string ⟨#[]⟩,.string ⟨#[]⟩]),2,32):=by kernel_rfl
theorem info_Var:(Tryz.prog.info? 65).map (fun i=>(i.zero,i.size,i.bytes))=some (some (.agg #[.string ⟨#[]⟩,.string ⟨#[]⟩]),2,32):=by kernel_rfl
theorem load_mid {w:World} {g o:Nat} {t m:B} (ty:TypeId) (fs:Array Field) (hu:Tryz.prog.underlying ty=some (.struct fs)) (hi:(Tryz.prog.info? ty).map (·.size)=some 2) (c0:w.cell? ⟨g,o,none⟩=some (.string (mkS t))) (c1:w.cell? ⟨g,o+1,none⟩=some (.string (mkS m))):(Instr.loadAt ty (.pointer (some ⟨g,o,none⟩))).run Tryz.prog w=.ok (.agg #[.string (mkS t),.string (mkS m)]) w:=by
 refine run_loadAt_mid (P:=Tryz.prog) w g o ty [.string (mkS t),.string (mkS m)] _ (fun j v hv=>?_) hu rfl hi
 have hj:j<2:=(List.getElem?_eq_some_iff.1 hv).1
 match j,hj with
 | 0,_=>cases hv;exact c0
 | 1,_=>cases hv;exact c1
theorem against_v (n v s:B) (W:World):Calls Tryz.prog 30 #[.agg #[.string (mkS n),.string (mkS v)],.string (mkS s)] W fun e W'=>e=.returned (.int .i64 (Lib.compareBytes n s))∧Later W W':=by
 have HLA:=Lib.hid (Later.alloc W (.cells #[.string (mkS n),.string (mkS v)] 72))
 have hc:=fun w=>Tryz.strings_Compare (mkS n) (mkS s) w
 simp only[mkS_list] at hc
 have HC:=Lib.hid hc
 clear hc
 go_enter Tryz.func30,Tryz.ntmps30
 go_wp2_with (go_at_call 59;(with_reducible refine(HC.out _).mono ?_);rintro e w' ⟨rfl,hw⟩;subst hw)
 go_ret
 exact⟨rfl,HLA.out⟩
end En
end Go.Proofs.YtipdgmjplnibeaaGreatDoor
namespace Go.Proofs.YtipdgmjplnibeaaGreatDoor
open Go.RowKit Go.Maps
set_option maxRecDepth 100000
namespace En
def PrB (w:World) (g:Nat) (l:Vs) (z:List Value):Prop:=w.heap[g]?=some (.cells (prs l++z).toArray 72 (0,0))
theorem PrB.cells {w:World} {g:Nat} {l:Vs} {z:List Value} (h:PrB w g l z) (k:Nat) (hk:k<l.length):w.cell? ⟨g,k*2,none⟩=some (.string (mkS l[k].1))∧w.cell? ⟨g,k*2+1,none⟩=some (.string (mkS l[k].2)):=by
 obtain⟨h1,h2⟩:=prs_at l k hk
 have hl:=prs_len l
 rw[(cell_row h _).1,(cell_row h _).1]
 simp only[List.getElem?_toArray]
 rw[List.getElem?_append_left (by omega),List.getElem?_append_left (by omega)]
 exact⟨h1,h2⟩
theorem PrB.rd {w:World} {g:Nat} {l:Vs} {z:List Value} (h:PrB w g l z) {c:Nat} (hc:l.length≤c) (hm:c≤9223372036854775807):RdP w w.heap.size (.slice (some ⟨g,0,none⟩) l.length c) l:=
 ⟨⟨_,c,rfl,hc,hm,fun e=>by cases e⟩,fun _=>⟨g,0,c,rfl,lt_of_block h,fun k hk=>by rw[Nat.zero_add];exact h.cells k hk⟩⟩
theorem PrB.later {w w':World} {g:Nat} {l:Vs} {z:List Value} (h:PrB w g l z) (hl:Later w w'):PrB w' g l z:=later_cells hl h
theorem setRow_grown (w:World) (g:Nat) (cs:Array Value):w.grownBy (w.setRow g cs) (some g):=⟨rfl,rfl,rfl,by simp[World.setRow],fun k _ hk=>setRow_other w g k cs (fun e=>hk (by rw[e]))⟩
theorem step_vs {vs:Vs} {i:Nat} (hi:i<vs.length):(vs.take i++zs (vs.length-i)).set i (vs[i].1,vs[i].2)=vs.take (i+1)++zs (vs.length-(i+1)):=by
 have h1:(vs.take i).length=i:=by rw[List.length_take];omega
 rw[List.set_append_right _ _ (by omega),h1,Nat.sub_self,List.take_succ_eq_append_getElem hi,List.append_assoc]
 have:vs.length-i=(vs.length-(i+1))+1:=by omega
 rw[this,zs,List.replicate_succ,List.set_cons_zero]
 rfl
theorem PrB.put {w:World} {g:Nat} {l:Vs} {z:List Value} (h:PrB w g l z) {k:Nat} (hk:k<l.length) (a b:B):∃ w',(Instr.storeAt 72 (.pointer (some ⟨g,k*2,none⟩)) (.agg #[.string (mkS a),.string (mkS b)])).run Tryz.prog w=.ok () w'∧PrB w' g (l.set k (a,b)) z∧w.grownBy w' (some g):=by
 have hl:=prs_len l
 have hr:=run_storeAt_row (P:=Tryz.prog) w g (k*2) 72 _ _ h #[.string (mkS a),.string (mkS b)] (by simp;omega) (by kernel_rfl) (by intro v hv;simp at hv;rcases hv with rfl | rfl <;> rfl)
 refine⟨_,hr,?_,setRow_grown _ _ _⟩
 unfold PrB
 rw[setRow_heap _ _ _ _ _ _ h,←prs_put hk a b]
 show some (Obj.cells ((prs l++z).take (k*2)++_++(prs l++z).drop (k*2+2)).toArray _ _)=_
 rw[List.take_append_of_le_length (by omega),List.drop_append_of_le_length (by omega)]
 simp
theorem variables_v (va aa:Value) (vs:Vs) (st:Int) (fl:ByteArray) (W:World) (hv:RdP W W.heap.size va vs) (hn:vs.length≤1000000):Calls Tryz.prog 27 #[.agg #[va,aa,.int .i64 st,.string fl]] W fun e W'=>(∃ g,e=.returned (.slice (some ⟨g,0,none⟩) vs.length vs.length)∧W.heap.size≤g∧PrB W' g vs [])∧Later W W':=by
 obtain⟨Av,cv,rfl,hcv,hcw,_⟩:=hv.le
 have HV:=Lib.hid hv
 have HZL:=Lib.hid hn
 obtain⟨n,hnn⟩:∃ n,n=vs.length:=⟨_,rfl⟩
 have HN:=Lib.hid hnn
 rw[←hnn] at hcv⊢
 obtain⟨i0,hif,hz0,hz1,hz2⟩:=info_parts info_var
 obtain⟨W1,hW1⟩:∃ W1,W1=W.alloc (.cells #[.slice Av n cv,aa,.int .i64 st,.string fl] 28):=⟨_,rfl⟩
 have hs1:W1.heap.size=W.heap.size+1:=by rw[hW1,World.size_alloc]
 obtain⟨W2,hW2⟩:∃ W2,W2=W1.alloc (.cells (madeCells (Value.agg #[.string ⟨#[]⟩,.string ⟨#[]⟩]).cells (n*2)) 72):=⟨_,rfl⟩
 have hmk:(Instr.makeSlice 67 (.int .i64 (n:Int)) (.int .i64 (n:Int))).run Tryz.prog W1=.ok (.slice (some ⟨W.heap.size+1,0,none⟩) n n) W2:=by
  have:=run_make (P:=Tryz.prog) W1 67 72 i0 _ Tryz.underlying67 hif hz0 .i64 .i64 (n:Int) (n:Int) (by omega) (by omega) (by rw[hz2];omega) (by omega)
  rw[hz1,hs1] at this
  simpa [hW2] using this
 have hpr:PrB W2 (W.heap.size+1) (vs.take 0++zs (n-0)) []:=by
  have h1:=heap_alloc_new W1 (.cells (madeCells (Value.agg #[.string ⟨#[]⟩,.string ⟨#[]⟩]).cells (n*2)) 72)
  rw[←hW2,hs1] at h1
  unfold PrB
  rw[h1,List.append_nil,List.take_zero,List.nil_append,Nat.sub_zero,←made_pairs]
 have hla:Later W W2:=by rw[hW2,hW1];exact(Later.alloc _ _).trans (Later.alloc _ _)
 have hbx:W2.heap[W.heap.size]?=some (.cells #[.slice Av n cv,aa,.int .i64 st,.string fl] 28 (0,0)):=by
  rw[hW2]
  exact later_cells (Later.alloc _ _) (by rw[hW1];exact heap_alloc_new W _)
 have hb1:W1.heap[W.heap.size]?=some (.cells #[.slice Av n cv,aa,.int .i64 st,.string fl] 28 (0,0)):=by rw[hW1];exact heap_alloc_new W _
 have b0:W1.cell? ⟨W.heap.size,0,none⟩=some (.slice Av n cv):=(cell_row hb1 0).1
 have b2:W2.cell? ⟨W.heap.size,0,none⟩=some (.slice Av n cv):=(cell_row hbx 0).1
 have HPR:=Lib.hid hpr
 have HLA:=Lib.hid hla
 have HBX:=Lib.hid hbx
 have HB1:=Lib.hid b0
 have HB2:=Lib.hid b2
 have HMK:=Lib.hid hmk
 clear hv hcv hcw hn hnn hs1 hmk hpr hla hbx hb1 b0 b2 hW2
 subst hW1
 go_enter Tryz.func27,Tryz.ntmps27
 have b0:=HB1.out
 have b2:=HB2.out
 have hmk:=HMK.out
 go_wp2_with fail
 clear b0 b2 hmk
 go_loopw [13] (fun s13 wr=>∃ i:Nat,s13=.int .i64 (i:Int)∧i≤n∧PrB wr (W.heap.size+1) (vs.take i++zs (n-i)) []∧Later W wr∧W.heap.size+2≤wr.heap.size) (fun i _=>n-(intOf i).toNat)
 case atStart=>exact⟨0,rfl,Nat.zero_le _,HPR.out,HLA.out,lt_of_block HPR.out⟩
 case round=>
  obtain⟨i,rfl,hi,hpr,hlw,hsz⟩:=hrel
  have HPR:=Lib.hid hpr
  have HLW:=Lib.hid hlw
  have HSZ:=Lib.hid hsz
  clear hpr hlw hsz
  have hi0:(0:Int)≤(i:Int):=by omega
  have hn6:n≤1000000:=by rw[HN.out];exact HZL.out
  by_cases hlt:i<n
  ·have hi1:(i:Int)<(n:Int):=by omega
   obtain⟨g,o,c',e1,hg,hcc⟩:=HV.out.at_ (by rw[←HN.out];omega)
   injection e1 with e1 _ e2
   subst e1 e2
   have hlt2:i<vs.length:=by rw[←HN.out];exact hlt
   obtain⟨x,hx⟩:∃ x,x=vs[i]:=⟨_,rfl⟩
   have p1:=(HLW.out.cell (p:=⟨g,o+i*2,none⟩) hg).trans (hcc i hlt2).1
   have p2:=(HLW.out.cell (p:=⟨g,o+i*2+1,none⟩) hg).trans (hcc i hlt2).2
   rw[←hx] at p1 p2
   have HLD:=Lib.hid (load_mid 65 _ Tryz.underlying65 (by kernel_rfl) p1 p2)
   have HST:=Lib.hid (step_vs hlt2)
   rw[←hx,←HN.out] at HST
   have HL:=Lib.hid (show i<(vs.take i++zs (n-i)).length by rw[List.length_append,List.length_take,zs_len,←HN.out];omega)
   clear hcc hg hx p1 p2 hlt2
   have hla3:=Later.alloc wr (.cells #[.string (mkS x.1),.string (mkS x.2)] 65)
   obtain⟨w4,hr4,hp4,hg4⟩:=PrB.put (HPR.out.later hla3) HL.out x.1 x.2
   rw[HST.out] at hp4
   have HL4:=Lib.hid (later_of_new (HLW.out.trans hla3) hg4 (by omega))
   have HS4:=Lib.hid (show W.heap.size+2≤w4.heap.size from Nat.le_trans HSZ.out (Nat.le_trans hla3.size hg4.size))
   have HR4:=Lib.hid hr4
   have HP4:=Lib.hid hp4
   clear hla3 hr4 hp4 hg4
   go_wp2_with (first
    |(refine wpList_loadRun rfl 65 (.tmp 16) rfl _ _ rfl HLD.out ?_)
    |(refine wpList_storeRun rfl 72 (.tmp 21) (.tmp 20) rfl _ _ rfl rfl HR4.out ?_))
   go_roundw
   case rel=>exact⟨i+1,by go_num,by omega,HP4.out,HL4.out,HS4.out⟩
   case measure=>simp[intOf];omega
  ·have hin:i=n:=by omega
   have hp5:=HPR.out
   rw[hin,HN.out,List.take_length,Nat.sub_self,show zs 0=[] from rfl,List.append_nil] at hp5
   go_wp2
   go_ret
   exact⟨⟨_,rfl,Nat.le_succ _,hp5⟩,HLW.out⟩
end En
end Go.Proofs.YtipdgmjplnibeaaGreatDoor
namespace Go.Proofs.YtipdgmjplnibeaaGreatDoor
open Go.RowKit Go.Maps
set_option maxRecDepth 100000
namespace En
theorem info_str:(Tryz.prog.info? 9).map (fun i=>(i.zero,i.size,i.bytes))=some (some (.string ⟨#[]⟩),1,16):=by kernel_rfl
def svs (l:List B):List Value:=l.map fun x=>.string (mkS x)
theorem svs_one (l:List B):∀ u∈svs l,u.oneCell'=true:=by
 intro u hu
 obtain⟨c,_,rfl⟩:=List.mem_map.1 hu
 rfl
def Tx (w:World) (base:Nat) (v:Value) (l:List B):Prop:=∃ A c,v=.slice A l.length c∧l.length≤c∧c≤9223372036854775807∧(l=[]∨w.ownsRow base 9 1 v l.length (svs l))
theorem Tx.rd {w:World} {base:Nat} {v:Value} {l:List B} (h:Tx w base v l):∃ A c,v=.slice A l.length c∧l.length≤c∧c≤9223372036854775807∧Rd w w.heap.size A l.length (l.map fun x=>.string (mkS x)):=by
 obtain⟨A,c,rfl,h1,h2,h3⟩:=h
 refine⟨A,c,rfl,h1,h2,?_⟩
 rcases h3 with rfl | h3
 ·exact Rd.nil_
 ·exact Rd.of_own h3
theorem cell_add {w:World} {ad:Addr} {i:Nat} {v:Value} (h:w.cell? (ad.add i)=some v):w.cell? ⟨ad.block,ad.off+i,none⟩=some v:=by
 have hs:=World.cell?_spot h
 obtain⟨b,o,sp⟩:=ad
 unfold Addr.add at h hs
 split at h <;> simp_all
theorem clone0_v (A:Option Addr) (c:Nat) (W:World):Calls Tryz.prog 62 #[.slice A 0 c] W fun e W'=>(∃ A' c',e=.returned (.slice A' 0 c')∧c'≤9223372036854775807)∧Later W W':=by
 rcases A with _ | ad
 ·refine(Tryz.slices_Clone_nil 0 c W).mono ?_
  rintro e w' ⟨rfl,rfl⟩
  exact⟨⟨_,_,rfl,by omega⟩,Later.refl _⟩
 ·have heq:∀ W,(binOp .eql 23 (.slice (some ad) 0 c) (.slice none 0 0)).run Tryz.prog W=.ok (.bool false) W:=fun W=>Lib.run_eql_slice_nil W _ _ _ _ _ _ _ Tryz.underlying23
  go_enter Tryz.func62,Tryz.ntmps62
  go_wp2_with fail
  go_ret
  exact⟨⟨_,_,rfl,by omega⟩,Later.alloc _ _⟩
theorem clone_v (A:Option Addr) (n c:Nat) (l:List B) (W:World) (hr:Rd W W.heap.size A n (l.map fun x=>.string (mkS x))) (hl:l.length≤1000000):Calls Tryz.prog 62 #[.slice A n c] W fun e W'=>(∃ v,e=.returned v∧Tx W' W.heap.size v l)∧Later W W':=by
 have hn:l.length=n:=hr.len_map
 subst hn
 rcases Nat.eq_zero_or_pos l.length with h0 | h0
 ·have e:l=[]:=List.eq_nil_of_length_eq_zero h0
  subst e
  refine(clone0_v A c W).mono ?_
  rintro e w' ⟨⟨A',c',rfl,hc⟩,hl⟩
  exact⟨⟨_,rfl,A',c',rfl,Nat.zero_le _,hc,.inl rfl⟩,hl⟩
 ·obtain⟨ad,rfl,hb,hcell⟩:=hr.2 h0
  have hsp:ad.spot=none:=by
   have h1:=hcell 0 _ (by rw[List.getElem?_map,List.getElem?_eq_getElem h0];rfl)
   have:=World.cell?_spot h1
   unfold Addr.add at this
   simpa using this
  obtain⟨bk,o,sp⟩:=ad
  simp only at hsp
  subst hsp
  obtain⟨i0,hif,hz0,hz1,hz2⟩:=info_parts info_str
  refine(Tryz.slices_Clone i0 _ 1 16 hif hz0 hz1 hz2 rfl (by omega) Tryz.sizeOf9 bk o l.length c (svs l) W (by simp[svs]) (by unfold maxLen;omega) (by omega) (fun j u hu=>cell_add (hcell j u hu)) (svs_one l)).mono ?_
  rintro e w' ⟨v',rfl,ho,_,hl⟩
  obtain⟨A',c',rfl,hle⟩:=own_any ho
  refine⟨⟨_,rfl,A',c',rfl,hle,?_,.inr ho⟩,hl⟩
  rcases ho.2 with⟨e,_⟩ | ⟨g,cap,cur,e,_,_,_,hcm,_⟩
  ·injection e;omega
  ·injection e with _ _ e3
   subst e3
   simp only[maxLen] at hcm;omega
end En
end Go.Proofs.YtipdgmjplnibeaaGreatDoor
