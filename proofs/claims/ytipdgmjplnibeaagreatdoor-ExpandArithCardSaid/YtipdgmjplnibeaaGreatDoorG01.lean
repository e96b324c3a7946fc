import Derived.WalkKit
import Derived.WalkLawsBesides
import Derived.Maps.AppendAt
import Derived.Lib.AppendStr
import Derived.Lib.Hide
import Derived.Deep.Draws
import Derived.Outline
import Derived.Laws.IdiomStrings
import Derived.Laws.BytesArg
import Derived.Test.YtipdgmjplnibeaaGreatDoorProg
import Derived.Lib.SmallJoins
import Derived.Test.YtipdgmjplnibeaaGreatDoorSoft
namespace Go.Proofs.YtipdgmjplnibeaaGreatDoor
open Go.RowKit
theorem ret_int {k:IntKind} {a b:Int} (h:a=b):Ending.returned (.int k a)=.returned (.int k b):=by rw[h]
theorem int_eq {k:IntKind} {a b:Int} (h:a=b):Value.int k a=.int k b:=by rw[h]
theorem bcell {W w1:World} (hb:Below W.heap.size W w1):(∀ b o,b<W.heap.size→w1.cell? ⟨b,o,none⟩=W.cell? ⟨b,o,none⟩)∧(∀ b o,b<W.heap.size→w1.frozen? ⟨b,o,none⟩=W.frozen? ⟨b,o,none⟩):=
 ⟨fun b o h=>hb.cell (p:=⟨b,o,none⟩) h,fun b o h=>hb.frozen (p:=⟨b,o,none⟩) h⟩
def nv (x:Nat):Value:=.int .u64 (x:Int)
def bv (c:UInt8):Value:=.int .u8 (c.toNat:Int)
theorem bv_one (l:List UInt8):∀ u∈l.map bv,u.oneCell'=true:=by
 intro u hu
 obtain⟨c,_,rfl⟩:=List.mem_map.1 hu
 rfl
theorem block_add (a:Addr) (n:Nat):(a.add n).block=a.block:=by unfold Addr.add;split <;> rfl
theorem add_add (a:Addr) (i j:Nat):(a.add i).add j=a.add (i+j):=by
 unfold Addr.add
 by_cases hi:i=0 <;> by_cases hj:j=0 <;> simp[hi,hj,Nat.add_assoc]
theorem add_lit0 (g j:Nat):(⟨g,0,none⟩:Addr).add j=⟨g,j,none⟩:=by unfold Addr.add;split <;> simp_all
def Rd (w:World) (B:Nat) (A:Option Addr) (n:Nat) (xs:List Value):Prop:=
 xs.length=n∧(0<n→∃ ad,A=some ad∧ad.block<B∧∀ (j:Nat) (u:Value),xs[j]?=some u→w.cell? (ad.add j)=some u)
section
variable {w w':World} {B B' n:Nat} {A:Option Addr} {xs:List Value}
theorem Rd.nil_:Rd w B A 0 []:=⟨rfl,fun h=>absurd h (by omega)⟩
theorem Rd.at_ {k:Nat} (h:Rd w B A n xs) (hk:k<n):∃ ad u,A=some ad∧ad.block<B∧xs[k]?=some u∧w.cell? (ad.add k)=some u:=by
 obtain⟨ad,e,hb,hc⟩:=h.2 (by omega)
 have hl:k<xs.length:=by have:=h.1;omega
 exact⟨ad,xs[k],e,hb,List.getElem?_eq_getElem hl,hc k _ (List.getElem?_eq_getElem hl)⟩
theorem Rd.keep (h:Rd w B A n xs) (hk:∀ p:Addr,p.block<B→w'.cell? p=w.cell? p):Rd w' B A n xs:=
 ⟨h.1,fun hn=>by
  obtain⟨ad,e,hb,hc⟩:=h.2 hn
  exact⟨ad,e,hb,fun j u hu=>(hk _ (by rw[block_add];exact hb)).trans (hc j u hu)⟩⟩
theorem Rd.below (h:Rd w B A n xs) (hb:Below B w w'):Rd w' B A n xs:=h.keep fun _ hp=>hb.cell hp
theorem Rd.more (h:Rd w B A n xs) (hB:B≤B'):Rd w B' A n xs:=
 ⟨h.1,fun hn=>by
  obtain⟨ad,e,hb,hc⟩:=h.2 hn
  exact⟨ad,e,by omega,hc⟩⟩
theorem Rd.cut (h:Rd w B A n xs) {k cap:Nat} (hk:k≤n) (hc:n≤cap) :
  Rd w B (if cap=k then A else A.map (·.add k)) (n-k) (xs.drop k):=by
 refine⟨by rw[List.length_drop,h.1],fun hn=>?_⟩
 obtain⟨ad,rfl,hb,hcell⟩:=h.2 (by omega)
 rw[if_neg (by omega)]
 refine⟨ad.add k,rfl,by rw[block_add];exact hb,fun j u hu=>?_⟩
 rw[add_add]
 exact hcell _ u (by rw[←hu,List.getElem?_drop])
theorem Rd.take_ (h:Rd w B A n xs) {k:Nat} (hk:k≤n):Rd w B A k (xs.take k):=by
 refine⟨by rw[List.length_take,h.1];omega,fun hn=>?_⟩
 obtain⟨ad,rfl,hb,hcell⟩:=h.2 (by omega)
 refine⟨ad,rfl,hb,fun j u hu=>hcell j u ?_⟩
 rw[List.getElem?_take] at hu
 split at hu
 ·exact hu
 ·cases hu
theorem Rd.lit (w:World) (e:TypeId) (cs:List Value):Rd (w.alloc (.cells cs.toArray e)) (w.heap.size+1) (some ⟨w.heap.size,0,none⟩) cs.length cs:=
 ⟨rfl,fun _=>⟨_,rfl,Nat.lt_succ_self _,fun j u hu=>by
  rw[add_lit0,cell_of_row _ _ j cs.toArray e (0,0) (heap_alloc_new w _)]
  simpa using hu⟩⟩
theorem Rd.of_own {base:Nat} {e:TypeId} {c:Nat} (h:w.ownsRow base e 1 (.slice A n c) n xs):Rd w w.heap.size A n xs:=by
 refine⟨by simpa using h.1,fun hn=>?_⟩
 rcases h.2 with⟨_,h0⟩ | ⟨g,cap,cur,hv,_,hh,_⟩
 ·omega
 ·injection hv with hA
  subst hA
  refine⟨_,rfl,(Array.getElem?_eq_some_iff.1 hh).1,h.cells (g:=g) rfl⟩
theorem Rd.at_map {α:Type} {f:α→Value} {l:List α} {k:Nat} (h:Rd w B A n (l.map f)) (hk:k<n):∃ (ad:Addr) (hl:k<l.length),A=some ad∧ad.block<B∧w.cell? (ad.add k)=some (f l[k]):=by
 obtain⟨ad,u,e,hb,hx,hc⟩:=h.at_ hk
 have hl:k<l.length:=by have:=h.1;simp at this;omega
 rw[List.getElem?_map,List.getElem?_eq_getElem hl] at hx
 simp at hx
 subst hx
 exact⟨ad,hl,e,hb,hc⟩
theorem Rd.len_map {α:Type} {f:α→Value} {l:List α} (h:Rd w B A n (l.map f)):l.length=n:=by have:=h.1;simpa using this
theorem Rd.byte {bs:List UInt8} {k:Nat} (h:Rd w B A n (bs.map bv)) (hk:k<n):∃ (ad:Addr) (hl:k<bs.length),A=some ad∧ad.block<B∧w.cell? (ad.add k)=some (bv bs[k]):=by
 obtain⟨ad,u,e,hb,hx,hc⟩:=h.at_ hk
 have hl:k<bs.length:=by have:=h.1;simp at this;omega
 rw[List.getElem?_map,List.getElem?_eq_getElem hl] at hx
 simp at hx
 subst hx
 exact⟨ad,hl,e,hb,hc⟩
theorem Rd.len {bs:List UInt8} (h:Rd w B A n (bs.map bv)):bs.length=n:=by have:=h.1;simpa using this
end
def mkS (l:List UInt8):ByteArray:=⟨l.toArray⟩
theorem mkS_size (l:List UInt8):(mkS l).size=l.length:=by simp[mkS,ByteArray.size]
theorem mkS_list (l:List UInt8):(mkS l).data.toList=l:=by simp[mkS]
theorem mkS_of (s:ByteArray):mkS s.data.toList=s:=by simp[mkS]
theorem mkS_add (a b:List UInt8):mkS a++mkS b=mkS (a++b):=ByteArray.mk_append_mk a b
theorem run_str_of {P:Program} {w:World} {B n:Nat} {A:Option Addr} {bs:List UInt8} (h:Rd w B A n (bs.map bv)) (src dst e:TypeId) (hs:P.underlying src=some (.slice e)) (he:P.underlying e=some (.int .u8)) (hd:P.underlying dst=some .string) (cap:Nat) :
  (convert src dst (.slice A n cap)).run P w=.ok (.string (mkS bs)) w:=by
 have hl:=h.len
 subst hl
 rcases A with _ | ad
 ·have h0:bs=[]:=by
   rcases Nat.eq_zero_or_pos bs.length with h0 | h0
   ·exact List.eq_nil_of_length_eq_zero h0
   ·obtain⟨ad,h,_⟩:=h.2 h0
    cases h
  subst h0
  exact run_convert_bytes_nil w src e hs he _ cap dst hd
 ·refine run_convert_bytes_back w src dst e ad cap bs hs he hd fun j hj=>?_
  obtain⟨ad',h1,_,h3⟩:=h.2 (by omega)
  injection h1 with h1
  subst h1
  exact h3 j _ (by rw[List.getElem?_map,List.getElem?_eq_getElem hj];rfl)
def Moved (w:World) (v v':Value):Prop:=v'.ownBlock=v.ownBlock∨∃ k,v'.ownBlock=some k∧w.heap.size≤k
structure Grew (w w':World) (base:Nat) (e:TypeId) (v v':Value) (xs:List Value):Prop where
 own:w'.ownsRow base e 1 v' xs.length xs
 grown:w.grownBy w' v.ownBlock
 moved:Moved w v v'
section
variable {w w1 w2:World} {base:Nat} {e:TypeId} {v v1 v2:Value} {xs ys zs:List Value}
theorem Grew.refl (h:w.ownsRow base e 1 v xs.length xs):Grew w w base e v v xs:=⟨h,World.grownBy.refl w _,.inl rfl⟩
theorem Grew.nil (w:World) (base:Nat) (e:TypeId):Grew w w base e (.slice none 0 0) (.slice none 0 0) []:=Grew.refl (World.ownsRow_nil w base e 1)
theorem Grew.trans (h:Grew w w1 base e v v1 ys) (k:Grew w1 w2 base e v1 v2 zs):Grew w w2 base e v v2 zs:=by
 refine⟨k.own,⟨k.grown.os.trans h.grown.os,k.grown.tape.trans h.grown.tape,k.grown.output.trans h.grown.output,Nat.le_trans h.grown.size k.grown.size,fun i hi hne=>?_⟩,?_⟩
 ·refine(k.grown.block i (Nat.lt_of_lt_of_le hi h.grown.size) ?_).trans (h.grown.block i hi hne)
  rcases h.moved with e1 | ⟨j,e1,hj⟩
  ·rw[e1];exact hne
  ·rw[e1];intro e2;injection e2 with e2;omega
 ·rcases k.moved with e1 | ⟨j,e1,hj⟩
  ·rw[Moved,e1];exact h.moved
  ·exact .inr ⟨j,e1,Nat.le_trans h.grown.size hj⟩
theorem Grew.below (h:Grew w w1 base e v v1 ys) (hown:w.ownsRow base e 1 v xs.length xs) (hb:base≤w.heap.size):Below base w w1:=
 (Below.refl base w).grown h.grown hb fun k hk=>(hown.lt k hk).1
theorem Grew.belowNil {c:Nat} (h:Grew w w1 base e (.slice none 0 c) v1 ys):Below w.heap.size w w1:=
 (Below.refl _ w).grown h.grown (Nat.le_refl _) fun k hk=>by simp[Value.ownBlock] at hk
theorem Grew.alloc (h:Grew w w1 base e v v1 ys) (o:Obj):Grew w (w1.alloc o) base e v v1 ys:=
 h.trans ⟨h.own.alloc o,World.grownBy_alloc _ _ _,.inl rfl⟩
end
theorem cell_keeps {w w':World} {p:Addr} {v:Value} (hb:Below w.heap.size w w') (h:w.cell? p=some v):w'.cell? p=some v:=(hb.cell (World.block_lt_of_cell? w p h)).trans h
theorem own_below {w w':World} {base size n:Nat} {e:TypeId} {v:Value} {xs:List Value} (h:w.ownsRow base e size v n xs) (hb:Below w.heap.size w w'):w'.ownsRow base e size v n xs:=
 h.kept (row:=none) ⟨hb.os,hb.tape,hb.output,hb.size,fun k hk _=>hb.block k hk⟩ (by cases hv:v.ownBlock <;> simp)
theorem Grew.then_ {w w1 w2:World} {base:Nat} {e:TypeId} {v v1:Value} {ys:List Value} (h:Grew w w1 base e v v1 ys) (hb:Below w1.heap.size w1 w2):Grew w w2 base e v v1 ys:=
 h.trans ⟨own_below h.own hb,⟨hb.os,hb.tape,hb.output,hb.size,fun k hk _=>hb.block k hk⟩,.inl rfl⟩
theorem below_of_grown {w w':World} {row:Option Nat} {B:Nat} (hg:w.grownBy w' row) (hB:B≤w.heap.size) (hr:∀ k,row=some k→B≤k):Below B w w':=(Below.refl B w).grown hg hB hr
section
variable {P:Program} {ops:Array Oper} {rest:List Oper} {o:Oper} {a:Act} {Q:Exit→Act→World→Prop}
theorem run_appN (w:World) (base:Nat) (t ty e:TypeId) (i:TypeInfo) (z:Value) (bytes:Nat) (ht:P.underlying t=some (.slice e)) (hi:P.info? e=some i) (hz:i.zero=some z)
  (hsize:i.size=1) (hby:i.bytes=bytes) (hzs:z.cells.size=1) (v:Value) (xs:List Value) (hown:w.ownsRow base e 1 v xs.length xs)
  (B:Nat) (A:Option Addr) (m c:Nat) (news:List Value) (hr:Rd w B A m news) (h1:∀ u∈news,u.oneCell'=true)
  (hbytes:(xs.length+m)*bytes≤140737488355328) (hlen:xs.length+m≤140737488355328) (hbase:base≤w.heap.size) :
  ∃ v' w',(Builtin.append_ #[t,t] ty #[v,.slice A m c]).run P w=.ok v' w'∧Grew w w' base e v v' (xs++news):=by
 have hl:(xs++news).length=xs.length+m:=by rw[List.length_append,hr.1]
 rcases A with _ | ad
 ·have hm:m=0:=by
   rcases Nat.eq_zero_or_pos m with h0 | h0
   ·exact h0
   ·obtain⟨ad,h,_⟩:=hr.2 h0
    cases h
  subst hm
  have hn:news=[]:=List.eq_nil_of_length_eq_zero hr.1
  subst hn
  refine⟨v,w,?_,by simpa using Grew.refl hown⟩
  rcases hown.2 with⟨rfl,_⟩ | ⟨g,cap,cur,rfl,_,_,hnc,_⟩
  ·simp[Builtin.append_,run_underlying ht,sizeOf,typeInfo,hi,Builtin.lenOf,Builtin.firstCells]
  ·simp[Builtin.append_,run_underlying ht,sizeOf,typeInfo,hi,Builtin.lenOf,Builtin.firstCells,hnc,storeCells]
 ·have hcells:∀ j u,news[j]?=some u→w.cell? (ad.add j)=some u:=by
   intro j u hu
   rcases Nat.eq_zero_or_pos m with h0 | h0
   ·subst h0
    have hn:news=[]:=List.eq_nil_of_length_eq_zero hr.1
    subst hn
    simp at hu
   ·obtain⟨ad',h,_,hc⟩:=hr.2 h0
    injection h with h
    subst h
    exact hc j u hu
  obtain⟨v',w',hrun,h2,h3,_,h5⟩:=run_append_own_at (P:=P) w base t ty e i z 1 bytes ht hi hz hsize hby hzs (by omega) v xs.length xs hown ad m c news (by rw[hr.1];omega) hcells h1 (by unfold maxLen;omega) hbytes hbase
  refine⟨v',w',hrun,by rw[hl];exact h2,h3,?_⟩
  rcases h5 with h5 | h5
  ·exact .inl h5
  ·exact .inr ⟨_,h5,Nat.le_refl _⟩
theorem wpList_appN (w:World) (hgd:o.guard=none) (s x:Operand) (t:TypeId)
  (ho:o.op=.call { callee:=.builtin .append,args:=#[s,x],argTypes:=#[t,t] })
  (base:Nat) (e:TypeId) (i:TypeInfo) (z:Value) (bytes:Nat) (ht:P.underlying t=some (.slice e)) (hi:P.info? e=some i) (hz:i.zero=some z)
  (hsize:i.size=1) (hby:i.bytes=bytes) (hzs:z.cells.size=1)
  (v:Value) (xs:List Value) (hs:a.eval s=v) (hown:w.ownsRow base e 1 v xs.length xs)
  (B:Nat) (A:Option Addr) (m c:Nat) (news:List Value) (hx:a.eval x=.slice A m c) (hr:Rd w B A m news) (h1:∀ u∈news,u.oneCell'=true)
  (hbytes:(xs.length+m)*bytes≤140737488355328) (hlen:xs.length+m≤140737488355328) (hbase:base≤w.heap.size)
  (h:∀ v' w',Grew w w' base e v v' (xs++news)→wpList P ops Q rest (a.put o.dst v') w'):wpList P ops Q (o::rest) a w:=by
 refine wpList_plain hgd fun K hK=>?_
 obtain⟨v',w',hrun,hg⟩:=run_appN (P:=P) w base t o.type e i z bytes ht hi hz hsize hby hzs v xs hown B A m c news hr h1 hbytes hlen hbase
 unfold Oper.wp execOp
 simp only[ho,resolve,invoke,builtin,Sem.run_bind,Sem.run_pure,Result.andThen_ok,List.map_toArray,List.map_cons,List.map_nil,hs,hx,hrun]
 exact hK _ _ (h v' w' hg)
theorem wpList_app1 (w:World) (u:Value) (hgd:o.guard=none) (s x:Operand) (t:TypeId)
  (ho:o.op=.call { callee:=.builtin .append,args:=#[s,x],argTypes:=#[t,t] })
  (base:Nat) (e:TypeId) (i:TypeInfo) (z:Value) (bytes:Nat) (ht:P.underlying t=some (.slice e)) (hi:P.info? e=some i) (hz:i.zero=some z)
  (hsize:i.size=1) (hby:i.bytes=bytes) (hzs:z.cells.size=1) (h1:u.oneCell'=true)
  (v:Value) (xs:List Value) (hs:a.eval s=v) (hown:w.ownsRow base e 1 v xs.length xs) (hx:a.eval x=.slice (some ⟨w.heap.size,0,none⟩) 1 1)
  (hbytes:(xs.length+1)*bytes≤140737488355328) (hlen:xs.length+1≤140737488355328) (hbase:base≤w.heap.size)
  (h:∀ v' w',Grew w w' base e v v' (xs++[u])→wpList P ops Q rest (a.put o.dst v') w'):wpList P ops Q (o::rest) a (w.alloc (.cells #[u] e)):=
 wpList_appN (w.alloc (.cells #[u] e)) hgd s x t ho base e i z bytes ht hi hz hsize hby hzs v xs hs (hown.alloc _) (w.heap.size+1) (some ⟨w.heap.size,0,none⟩) 1 1 [u] hx
  ⟨rfl,fun _=>⟨_,rfl,Nat.lt_succ_self _,fun j y hy=>by
   match j,hy with
   | 0,hy=>simp at hy;subst hy;simp[Addr.add]⟩⟩ (by intro y hy;simp at hy;subst hy;exact h1) hbytes hlen (by simp;omega)
  fun v' w' hg=>h v' w' (((Grew.refl hown).alloc _).trans hg)
theorem strCells_eq (s:ByteArray):Lib.strCells s=s.data.toList.map bv:=rfl
theorem run_appS (w:World) (base:Nat) (t u ty e:TypeId) (i:TypeInfo) (ht:P.underlying t=some (.slice e)) (hu:P.underlying u=some .string) (hi:P.info? e=some i) (hz:i.zero=some (.int .u8 0))
  (hsize:i.size=1) (hby:i.bytes=1) (v:Value) (xs:List Value) (hown:w.ownsRow base e 1 v xs.length xs) (s:ByteArray)
  (hlen:xs.length+s.size≤140737488355328) (hbase:base≤w.heap.size) :
  ∃ v' w',(Builtin.append_ #[t,u] ty #[v,.string s]).run P w=.ok v' w'∧Grew w w' base e v v' (xs++s.data.toList.map bv):=by
 have hl:(xs++s.data.toList.map bv).length=xs.length+s.size:=by rw[←strCells_eq,List.length_append,Lib.strCells_length]
 rcases hown.2 with⟨rfl,h0⟩ | ⟨g,cap,cur,rfl,hbg,hg,hnc,hcm,hcs,htake⟩
 ·have hx:xs=[]:=List.eq_nil_of_length_eq_zero h0
  subst hx
  obtain⟨v',w',hr,h2,h3,_⟩:=Lib.run_append_own_string (P:=P) w w.heap.size t u ty e i ht hu hi hz hsize hby (.slice none 0 0) 0 [] (World.ownsRow_nil w _ e 1) s (by unfold maxLen;simp at hlen;omega) (by simpa using hlen) (Nat.le_refl _)
  obtain⟨v2,w2,hr2,h22,_,_⟩:=Lib.run_append_own_string (P:=P) w base t u ty e i ht hu hi hz hsize hby (.slice none 0 0) 0 [] (World.ownsRow_nil w _ e 1) s (by unfold maxLen;simp at hlen;omega) (by simpa using hlen) hbase
  have he:=hr.symm.trans hr2
  injection he with e1 e2
  subst e1 e2
  rw[strCells_eq] at h22
  refine⟨v',w',hr,by rw[hl];simpa using h22,h3,?_⟩
  rcases hv:v'.ownBlock with _ | k
  ·exact .inl hv
  ·exact .inr ⟨k,hv,(h2.lt k hv).1⟩
 ·obtain⟨v',w',hr,h2,h3,_⟩:=Lib.run_append_own_string (P:=P) w base t u ty e i ht hu hi hz hsize hby _ _ xs hown s (by unfold maxLen;omega) hlen hbase
  refine⟨v',w',hr,by rw[hl,←strCells_eq];exact h2,h3,?_⟩
  by_cases hroom:xs.length+s.size≤cap
  ·have hr2:=Lib.run_append_room_string (P:=P) w t u ty e i ht hu hi hsize g xs.length cap cur hg s hroom (by omega)
   have he:=hr.symm.trans hr2
   injection he with e1 _
   exact .inl (by rw[e1];rfl)
  ·have holds:∀ j u,xs[j]?=some u→w.cell? ((⟨g,0,none⟩:Addr).add j)=some u:=hown.cells (g:=g) rfl
   have hr2:=Lib.run_append_grow_string (P:=P) w t u ty e i (.int .u8 0) ht hu hi hz ⟨g,0,none⟩ xs.length cap xs (by rw[hsize];simp) holds s (by omega) (by omega) (by rw[hby];exact growslice_fits (by omega) (by omega))
   have he:=hr.symm.trans hr2
   injection he with e1 _
   exact .inr ⟨w.heap.size,by rw[e1];rfl,Nat.le_refl _⟩
theorem wpList_appS (w:World) (hgd:o.guard=none) (so xo:Operand) (t u:TypeId)
  (ho:o.op=.call { callee:=.builtin .append,args:=#[so,xo],argTypes:=#[t,u] })
  (base:Nat) (e:TypeId) (i:TypeInfo) (ht:P.underlying t=some (.slice e)) (hu:P.underlying u=some .string) (hi:P.info? e=some i) (hz:i.zero=some (.int .u8 0))
  (hsize:i.size=1) (hby:i.bytes=1)
  (v:Value) (xs:List Value) (hs:a.eval so=v) (hown:w.ownsRow base e 1 v xs.length xs) (s:ByteArray) (hx:a.eval xo=.string s)
  (hlen:xs.length+s.size≤140737488355328) (hbase:base≤w.heap.size)
  (h:∀ v' w',Grew w w' base e v v' (xs++s.data.toList.map bv)→wpList P ops Q rest (a.put o.dst v') w'):wpList P ops Q (o::rest) a w:=by
 refine wpList_plain hgd fun K hK=>?_
 obtain⟨v',w',hrun,hg⟩:=run_appS (P:=P) w base t u o.type e i ht hu hi hz hsize hby v xs hown s hlen hbase
 unfold Oper.wp execOp
 simp only[ho,resolve,invoke,builtin,Sem.run_bind,Sem.run_pure,Result.andThen_ok,List.map_toArray,List.map_cons,List.map_nil,hs,hx,hrun]
 exact hK _ _ (h v' w' hg)
end
end Go.Proofs.YtipdgmjplnibeaaGreatDoor
namespace Go.Proofs.YtipdgmjplnibeaaGreatDoor
open Go.RowKit
theorem conv_const (W:World) (C:Array Value) (n c g:Nat) (h:g=W.heap.size):(convert 81 81 (.slice (some ⟨g,0,none⟩) n c)).run Tryz.prog (W.alloc (.cells C 5))=.ok (.slice (some ⟨g,0,none⟩) n c) (W.alloc (.cells C 5 (C.size,C.size+1))):=
 Joins.run_convert_bytes_const_at W 81 5 C n c g h Tryz.underlying81 Tryz.underlying5
theorem Rd.litF (w:World) (e:TypeId) (fr:Nat×Nat) (cs:List Value):Rd (w.alloc (.cells cs.toArray e fr)) (w.heap.size+1) (some ⟨w.heap.size,0,none⟩) cs.length cs:=
 ⟨rfl,fun _=>⟨_,rfl,Nat.lt_succ_self _,fun j u hu=>by
  rw[add_lit0,cell_of_row _ _ j cs.toArray e fr (heap_alloc_new w _)]
  simpa using hu⟩⟩
theorem info_u8:(Tryz.prog.info? 5).map (fun i=>(i.zero,i.size,i.bytes))=some (some (.int .u8 0),1,1):=by kernel_rfl
theorem size_toList (s:ByteArray):s.data.toList.length=s.size:=rfl
theorem sget (s:ByteArray) (k:Nat) (h:k<s.size):s.data.toList[k]'h=s[k]:=by
 rw[Array.getElem_toList];rfl
theorem own_slice {w:World} {base n:Nat} {e:TypeId} {v:Value} {xs:List Value} (h:w.ownsRow base e 1 v n xs) :
  ∃ A c,v=.slice A n c∧n≤c∧Rd w w.heap.size A n xs∧(∀ ad,A=some ad→base≤ad.block∧ad.block<w.heap.size):=by
 rcases h.2 with⟨rfl,rfl⟩ | ⟨g,cap,cur,rfl,hb,hh,hnc,_⟩
 ·exact⟨none,0,rfl,Nat.le_refl _,by have:=h.1;simp at this;subst this;exact Rd.nil_,fun ad h=>by cases h⟩
 ·exact⟨_,_,rfl,hnc,Rd.of_own h,fun ad he=>by injection he with he;subst he;exact⟨hb,(Array.getElem?_eq_some_iff.1 hh).1⟩⟩
theorem own_map {α:Type} {f:α→Value} {w:World} {base:Nat} {e:TypeId} {v:Value} {xs:List α} (h:w.ownsRow base e 1 v (xs.map f).length (xs.map f)) :
  ∃ A c,v=.slice A xs.length c∧xs.length≤c∧Rd w w.heap.size A xs.length (xs.map f)∧(∀ ad,A=some ad→base≤ad.block∧ad.block<w.heap.size):=by
 rw[List.length_map] at h
 exact own_slice h
theorem str1 (W:World) (n:Nat) (h:n<256) (cap:Nat):(convert 81 9 (.slice (some ⟨W.heap.size,0,none⟩) 1 cap)).run Tryz.prog (W.alloc (.cells #[.int .u8 (n:Int)] 5))=.ok (.string (mkS [UInt8.ofNat n])) (W.alloc (.cells #[.int .u8 (n:Int)] 5)):=by
 refine run_str_of (bs:=[UInt8.ofNat n]) (B:=W.heap.size+1) ⟨rfl,fun _=>⟨_,rfl,Nat.lt_succ_self _,fun j y hy=>?_⟩⟩ _ _ 5 Tryz.underlying81 Tryz.underlying5 Tryz.underlying9 cap
 match j,hy with
 | 0,hy=>simp only[List.map_cons,List.map_nil,List.getElem?_cons_zero,Option.some.injEq,bv,show (UInt8.ofNat n).toNat=n by simp;omega] at hy;subst hy;simp[Addr.add]
def RdL (w:World) (B:Nat) (A:Option Addr) (n:Nat) (ls:List (List UInt8)):Prop:=
 ls.length=n∧∀ (j:Nat) (h:j<ls.length),∃ ad A' n' c',A=some ad∧ad.block<B∧w.cell? (ad.add j)=some (.slice A' n' c')∧Rd w B A' n' (ls[j].map bv)∧n'≤maxLen
theorem RdL.one {w:World} {B:Nat} {A:Option Addr} {n c:Nat} {l:List UInt8} (h:Rd w B A n (l.map bv)) (hB:B≤w.heap.size) (h1:n≤maxLen) (e:TypeId) :
  RdL (w.alloc (.cells #[.slice A n c] e)) (w.heap.size+1) (some ⟨w.heap.size,0,none⟩) 1 [l]:=by
 refine⟨rfl,fun j hj=>?_⟩
 have hj0:j=0:=by simpa using hj
 subst hj0
 refine⟨_,A,n,c,rfl,Nat.lt_succ_self _,?_,(h.below ((Below.refl B w).alloc hB _)).more (by omega),h1⟩
 obtain⟨ad,e1,_,e3⟩:=(Rd.lit w e [.slice A n c]).2 (by simp)
 injection e1 with e1
 subst e1
 exact e3 0 _ rfl
theorem RdL.keep {w w':World} {B:Nat} {A:Option Addr} {n:Nat} {ls:List (List UInt8)} (h:RdL w B A n ls) (hb:Below B w w'):RdL w' B A n ls:=by
 refine⟨h.1,fun j hj=>?_⟩
 obtain⟨ad,A',n',c',rfl,h1,h2,h3,h4⟩:=h.2 j hj
 exact⟨ad,A',n',c',rfl,h1,(hb.cell (by rw[block_add];exact h1)).trans h2,h3.below hb,h4⟩
theorem RdL.two {w:World} {B B':Nat} {A A':Option Addr} {n n' c c':Nat} {l l':List UInt8} (h:Rd w B A n (l.map bv)) (h':Rd w B' A' n' (l'.map bv)) (hB:B≤w.heap.size) (hB':B'≤w.heap.size) (h1:n≤maxLen) (h1':n'≤maxLen) (e:TypeId) :
  RdL (w.alloc (.cells #[.slice A n c,.slice A' n' c'] e)) (w.heap.size+1) (some ⟨w.heap.size,0,none⟩) 2 [l,l']:=by
 obtain⟨ad,e1,_,e3⟩:=(Rd.lit w e [.slice A n c,.slice A' n' c']).2 (by simp)
 injection e1 with e1
 subst e1
 refine⟨rfl,fun j hj=>?_⟩
 have hc:j=0∨j=1:=by simp at hj;omega
 rcases hc with rfl | rfl
 ·exact⟨_,A,n,c,rfl,Nat.lt_succ_self _,e3 0 _ rfl,(h.below ((Below.refl B w).alloc hB _)).more (by omega),h1⟩
 ·exact⟨_,A',n',c',rfl,Nat.lt_succ_self _,e3 1 _ rfl,(h'.below ((Below.refl B' w).alloc hB' _)).more (by omega),h1'⟩
end Go.Proofs.YtipdgmjplnibeaaGreatDoor
namespace Go.Proofs.YtipdgmjplnibeaaGreatDoor
open Go.RowKit
def Later (w w':World):Prop:=Below w.heap.size w w'
theorem Later.refl (w:World):Later w w:=Below.refl _ _
theorem Later.trans {a b c:World} (h:Later a b) (k:Later b c):Later a c:=Below.trans h (Below.mono k h.size)
theorem Later.alloc (w:World) (o:Obj):Later w (w.alloc o):=(Below.refl _ w).alloc (Nat.le_refl _) o
theorem Later.drew (w:World):Later w w.drew:=(Below.refl _ w).drew
def spBytes (n:Nat) (l:List UInt8):Sp Later:=⟨fun v w=>∃ A c,v=.slice A n c∧Rd w w.heap.size A n (l.map bv),fun _ _ _ hg ⟨A,c,h1,h2⟩=>⟨A,c,h1,(h2.below hg).more hg.size⟩⟩
def spRows (n:Nat) (ls:List (List UInt8)):Sp Later:=⟨fun v w=>∃ A c,v=.slice A n c∧RdL w w.heap.size A n ls,fun _ _ _ hg ⟨A,c,h1,h2⟩=>⟨A,c,h1,by
 refine⟨h2.1,fun j hj=>?_⟩
 obtain⟨ad,A',n',c',rfl,h3,h4,h5,h6⟩:=(RdL.keep h2 hg).2 j hj
 exact⟨ad,A',n',c',rfl,Nat.lt_of_lt_of_le h3 hg.size,h4,h5.more hg.size,h6⟩⟩⟩
end Go.Proofs.YtipdgmjplnibeaaGreatDoor
namespace Go.Proofs.YtipdgmjplnibeaaGreatDoor
open Go.RowKit
theorem yielded_undef {ops:Array Oper} {a:Act} {j:Nat} {d:Tmp} (h:(ops[j]?).bind (·.dst)=some d) (hv:a.tmps.getD d undef=undef):yielded ops a.tmps j=none:=by
 unfold yielded
 rw[h]
 by_cases hd:d<a.tmps.size
 ·simp[hd] at hv⊢
  rw[hv]
  rfl
 ·simp[hd]
def AllAt (a:Act):Nat→List Value→Prop
 | _,[]=>True
 | n,v::l=>a.tmps.getD n undef=v∧AllAt a (n+1) l
theorem AllAt.at_ {a:Act}:∀ {l:List Value} {n:Nat},AllAt a n l→∀ (i:Nat) (h:i<l.length),a.tmps.getD (n+i) undef=l[i]
 | v::l,n,h,0,_=>h.1
 | v::l,n,h,i+1,hi=>by
  have:=AllAt.at_ h.2 i (by simpa using hi)
  rw[show n+(i+1)=n+1+i by omega,this]
  rfl
theorem act_lit {a:Act} {l:List Value} (hd:a.defers=[]) (hsz:a.tmps.size=l.length) (h:AllAt a 0 l):a=⟨l.toArray,[]⟩:=by
 obtain⟨t,d⟩:=a
 simp only at hd hsz
 subst hd
 congr 1
 apply Array.ext
 ·simpa using hsz
 ·intro i h1 h2
  have h3:=h.at_ i (by simpa using h2)
  rw[Nat.zero_add] at h3
  simp only at h3
  rw[←Array.getElem_eq_getD (h:=h1)] at h3
  simpa using h3
end Go.Proofs.YtipdgmjplnibeaaGreatDoor
namespace Go.Proofs.YtipdgmjplnibeaaGreatDoor
open Go.RowKit
section
variable {P:Program} {ops:Array Oper} {Q:Exit→Act→World→Prop} {G:World→World→Prop} {R:Nat→Value→World→Prop} {a0:Act}
theorem wpAny_softL {C:Array Bool→World→Prop} (hok:SoftOk ops a0.tmps.size) (hmono:∀ i v w w',G w w'→R i v w→R i v w')
  (hstep:∀ (i:Nat) o,ops[i]?=some o→∀ (listed:Array Bool) (a:Act) (w:World),listed.size=ops.size→listed.getD i true=false→(∀ e∈o.after,Region.binds .any e=true→listed.getD e.on false=true)→C listed w→Sees ops a0 R o a w→∀ K:Act→World→Prop,
   (∀ v w',R i (if o.dst.isSome then v else undef) w'→C (listed.setIfInBounds i true) w'→G w w'→K (a.put o.dst v) w') →
   if Region.wanted o (yielded ops a.tmps)=true then Oper.wp P o a w K Q else K (a.put o.dst undef) w)
  (hQ:∀ (listed:Array Bool) a w,(∀ i,i<ops.size→listed.getD i false=true)→C listed w→Fits ops a0 R (Array.replicate ops.size true) a w→Q .normal a w) :
  ∀ (fuel:Nat) (listed:Array Bool) (a:Act) (w:World),open_ listed≤fuel→C listed w→Fits ops a0 R listed a w→wpAny P .any ops Q fuel listed a w:=by
 have hend:∀ (listed:Array Bool) (a:Act) (w:World),C listed w→Fits ops a0 R listed a w→Region.ready .any ops listed=[]→Q .normal a w:=by
  intro listed a w hC h hr
  have hall:=ready_nil h.lsize hok hr
  refine hQ listed a w hall hC ⟨by simp,h.defers,h.size,fun t ht=>h.outer t fun i o ho hl=>ht i o ho (by have:=(Array.getElem?_eq_some_iff.1 ho).1;simp[this]),fun i o ho _=>h.inner i o ho (hall i (Array.getElem?_eq_some_iff.1 ho).1)⟩
 intro fuel
 induction fuel with
 | zero=>
  intro listed a w hf hC h
  have hz:=open_zero (Nat.le_zero.1 hf)
  have hr:Region.ready .any ops listed=[]:=by
   rw[List.eq_nil_iff_forall_not_mem]
   intro i hi
   have:=(mem_ready.1 hi).1
   rw[hz i] at this
   cases this
  exact⟨hr,hend listed a w hC h hr⟩
 | succ fuel ih=>
  intro listed a w hf hC h
  refine⟨hend listed a w hC h,fun i hi=>?_⟩
  obtain⟨hun,o,ho,hdeps⟩:=mem_ready.1 hi
  have hin:i<listed.size:=by rw[h.lsize];exact(Array.getElem?_eq_some_iff.1 ho).1
  have hst:=hstep i o ho listed a w h.lsize hun hdeps hC (h.sees hi ho) (wpAny P .any ops Q fuel (listed.setIfInBounds i true)) fun v w' hR hC' hG=>
   ih _ _ _ (by have:=open_set hin hun;omega) hC' (h.step (C:=fun _=>True) hok (fun i v w w' _=>hmono i v w w') ho trivial hG hR)
  unfold wpOp
  rw[ho]
  dsimp only
  split
  ·rename_i hw;rw[if_pos hw] at hst;exact .inl hst
  ·rename_i hw;rw[if_neg hw] at hst;exact hst
theorem ValWp.mono {o:Oper} {ρ:Operand→Value} {w:World} {K K':Value→World→Prop} (h:ValWp P o ρ w K) (hk:∀ v w',K v w'→K' v w'):ValWp P o ρ w K':=by
 unfold ValWp at *
 generalize (execOp ρ o).run P w=r at *
 cases r with
 | ok n w'=>
  cases n <;> simp only at h⊢
  case value v=>exact hk _ _ h
  case skip=>exact hk _ _ h
  case enter f args=>exact Calls.mono h fun e w'' ⟨v,he,h2⟩=>⟨v,he,hk _ _ h2⟩
 | halt x w'=>simp at h
def depOn (ops:Array Oper) (p i:Nat):Bool:=match ops[p]? with | some o=>o.after.toList.any (fun e=>e.on==i && Region.binds .any e) | none=>false
def OwesP (P:Program) (ops:Array Oper) (C0 C1:World→Prop) (G:World→World→Prop) (p:Nat) (R:Nat→Value→World→Prop) (a0:Act) (i:Nat) (o:Oper):Prop:=
 if i=p then ∀ (a:Act) (w:World),C0 w→Sees ops a0 R o a w →
  (Region.wanted o (yielded ops a.tmps)=true∧ValWp P o a.eval w fun v w'=>R i (if o.dst.isSome then v else undef) w'∧C1 w'∧G w w')
 else ∀ (a:Act) (w:World),(depOn ops p i=true→C0 w)→(C0 w∨C1 w)→Sees ops a0 R o a w →
  (Region.wanted o (yielded ops a.tmps)=true∧ValWp P o a.eval w fun v w'=>R i (if o.dst.isSome then v else undef) w'∧(C0 w'∨C1 w')∧Later w w') ∨
  (Region.wanted o (yielded ops a.tmps)=false∧R i undef w)
def OwesAllP (P:Program) (ops:Array Oper) (C0 C1:World→Prop) (G:World→World→Prop) (p:Nat) (R:Nat→Value→World→Prop) (a0:Act):Nat→List Oper→Prop
 | _,[]=>True
 | n,o::l=>OwesP P ops C0 C1 G p R a0 n o∧OwesAllP P ops C0 C1 G p R a0 (n+1) l
theorem owesAllP_at {C0 C1:World→Prop} {p:Nat}:∀ (l:List Oper) (n i:Nat) (o:Oper),OwesAllP P ops C0 C1 G p R a0 n l→l[i]?=some o→OwesP P ops C0 C1 G p R a0 (n+i) o
 | [],_,i,o,_,h=>by simp at h
 | x::l,n,0,o,h,ho=>by simp at ho;subst ho;exact h.1
 | x::l,n,i+1,o,h,ho=>by
  have:=owesAllP_at l (n+1) i o h.2 (by simpa using ho)
  rwa[show n+1+i=n+(i+1) by omega] at this
theorem getD_set_same {l:Array Bool} {i:Nat} (h:i<l.size):(l.setIfInBounds i true).getD i false=true:=by simp[h]
theorem getD_set_ne {l:Array Bool} {i p:Nat} (h:i≠p):(l.setIfInBounds i true).getD p false=l.getD p false:=by
 by_cases hp:p<l.size
 ·simp[hp,h]
 ·simp[hp]
theorem wp_region_writes {id:Nat} {w:World} {l:List Oper} (hm:P.follows .mixedOrders=true) (p:Nat) (C0 C1:World→Prop) (G:World→World→Prop) (sp:List (Sp G)) (hp:p<l.length) (hok:softB l.toArray a0.tmps.size=true)
  (hC:C0 w.drew) (h0:∀ w w',C0 w→Later w w'→C0 w') (h1:∀ w w',C1 w→Later w w'→C1 w') (hL:∀ w w',Later w w'→G w w')
  (hstep:OwesAllP P l.toArray C0 C1 G p (spAt sp) a0 0 l)
  (hQ:∀ a w,C1 w→a.defers=a0.defers→a.tmps.size=a0.tmps.size→(∀ t,freeTmp l.toArray t=true→a.tmps.getD t undef=a0.tmps.getD t undef)→(∀ (i:Nat) o,l[i]?=some o→spAt sp i (slotOf o.dst a) w)→Q .normal a w) :
  (Code.region id l.toArray true).wp P Q a0 w:=by
 have hmono:∀ i v w w',G w w'→spAt sp i v w→spAt sp i v w':=fun i v w w' hg h=>(sp.getD i Sp.any).lasts v w w' hg h
 refine wp_region_any hm (wpAny_softL (C:=fun listed w=>if listed.getD p false=true then C1 w∧(∀ i,depOn l.toArray p i=true→listed.getD i false=true) else C0 w) (R:=spAt sp) (SoftOk.of hok) hmono (fun i o ho listed a w hsz hun hdeps hc hsee K hK=>?_)
  (fun listed a w hall hc h=>?_) l.toArray.size (Array.replicate l.toArray.size false) a0 w.drew ?_ ?_ ⟨by simp,rfl,rfl,fun _ _=>rfl,fun i o ho hl=>?_⟩)
 ·have hil:i<listed.size:=by rw[hsz];exact(Array.getElem?_eq_some_iff.1 ho).1
  have hw:=owesAllP_at l 0 i o hstep (by simpa using ho)
  rw[Nat.zero_add] at hw
  by_cases hip:i=p
  ·subst hip
   have hf:listed.getD i false=false:=by simp[hil] at hun⊢;exact hun
   rw[hf] at hc
   simp only[Bool.false_eq_true,if_false] at hc
   unfold OwesP at hw
   rw[if_pos rfl] at hw
   obtain⟨hw1,hw2⟩:=hw a w hc hsee
   rw[if_pos hw1]
   refine wp_of_val (hw2.mono fun v w' hk=>?_)
   refine hK v w' hk.1 ?_ hk.2.2
   rw[if_pos (getD_set_same hil)]
   refine⟨hk.2.1,fun j hj=>?_⟩
   by_cases hji:i=j
   ·subst hji;exact getD_set_same hil
   ·rw[getD_set_ne hji]
    unfold depOn at hj
    rw[ho] at hj
    obtain⟨e,he,hb⟩:=List.any_eq_true.1 hj
    simp only[Bool.and_eq_true,beq_iff_eq] at hb
    rw[←hb.1]
    exact hdeps e (by simpa using he) hb.2
  ·unfold OwesP at hw
   rw[if_neg hip] at hw
   have hor:C0 w∨C1 w:=by split at hc;exact .inr hc.1;exact .inl hc
   have hdep:depOn l.toArray p i=true→C0 w:=fun hd=>by
    split at hc
    ·have h1:=hc.2 i hd
     simp[hil] at hun h1
     rw[hun] at h1;cases h1
    ·exact hc
   have hkeep:∀ w',Later w w'→(if (listed.setIfInBounds i true).getD p false=true then C1 w'∧(∀ j,depOn l.toArray p j=true→(listed.setIfInBounds i true).getD j false=true) else C0 w'):=by
    intro w' hl
    rw[getD_set_ne hip]
    split
    ·rename_i h;rw[if_pos h] at hc;refine⟨h1 _ _ hc.1 hl,fun j hj=>?_⟩
     by_cases hji:i=j
     ·subst hji;exact getD_set_same hil
     ·rw[getD_set_ne hji];exact hc.2 j hj
    ·rename_i h;rw[if_neg h] at hc;exact h0 _ _ hc hl
   rcases hw a w hdep hor hsee with⟨hw1,hw2⟩ | ⟨hw1,hw2⟩
   ·rw[if_pos hw1]
    exact wp_of_val (hw2.mono fun v w' hk=>hK v w' hk.1 (hkeep _ hk.2.2) (hL _ _ hk.2.2))
   ·rw[hw1]
    simp only[Bool.false_eq_true,if_false]
    exact hK undef w (by simpa using hw2) (hkeep w (Later.refl w)) (hL _ _ (Later.refl w))
 ·have hpl:=hall p (by simpa using hp)
  rw[hpl] at hc
  simp only[if_true] at hc
  refine hQ a w hc.1 h.defers h.size (fun t ht=>h.outer t fun j oj' hj _ hd=>?_) fun i o ho=>h.inner i o (by simpa using ho) (by have:=(List.getElem?_eq_some_iff.1 ho).1;simp[this])
  unfold freeTmp at ht
  rw[List.all_eq_true] at ht
  have:=ht oj' (Array.mem_toList_iff.2 (Array.mem_of_getElem? hj))
  simp[hd] at this
 ·unfold open_;exact Nat.le_trans List.countP_le_length (by simp)
 ·simp[hp];exact hC
 ·exfalso
  have hi:=(Array.getElem?_eq_some_iff.1 ho).1
  rw[List.size_toArray] at hi
  simp[hi] at hl
end
def Lets:Nat→(List Value→Prop)→Prop
 | 0,P=>P []
 | n+1,P=>∃ u,Lets n fun l=>P (u::l)
theorem Lets.mono:∀ (n:Nat) {P Q:List Value→Prop},(∀ l,P l→Q l)→Lets n P→Lets n Q
 | 0,_,_,h,hp=>h _ hp
 | n+1,_,_,h,⟨u,hu⟩=>⟨u,Lets.mono n (fun l hl=>h (u::l) hl) hu⟩
theorem lets (a:Act):∀ n k,Lets n (AllAt a k)
 | 0,_=>trivial
 | n+1,k=>⟨a.tmps.getD k undef,Lets.mono n (fun _ h=>⟨rfl,h⟩) (lets a n (k+1))⟩
theorem AllAt.on {a:Act} {l:List Value} {v:Value} (i:Nat) (h:AllAt a 0 l) (e:a.tmps.getD i undef=v) (hi:Nat.ble (i+1) l.length=true):v=l[i]'(Nat.le_of_ble_eq_true hi):=by
 have:=h.at_ i (Nat.le_of_ble_eq_true hi)
 rw[Nat.zero_add] at this
 exact e.symm.trans this
end Go.Proofs.YtipdgmjplnibeaaGreatDoor
