/- Words for memory that the walks of this seat share: bytes as cells, a slice that reads as a list, an append that grows. No premises. -/
import Derived.WalkKit
import Derived.WalkLawsBesides
import Derived.Maps.AppendAt
import Derived.Lib.AppendStr
import Derived.Lib.Hide
import Derived.Deep.Draws
import Derived.Outline
import Derived.Laws.IdiomStrings
import Derived.Laws.BytesArg
import Derived.Test.YtkkchkkpnlnbgaaGreatDoorProg
import Derived.Lib.SmallJoins
namespace Go.Proofs.YtkkchkkpnlnbgaaGreatDoor
open Go.RowKit
theorem ret_int {k:IntKind} {a b:Int} (h:a=b):Ending.returned (.int k a)=.returned (.int k b):=by rw[h]
theorem int_eq {k:IntKind} {a b:Int} (h:a=b):Value.int k a=.int k b:=by rw[h]
def bv (c:UInt8):Value:=.int .u8 (c.toNat:Int)
theorem block_add (a:Addr) (n:Nat):(a.add n).block=a.block:=by unfold Addr.add;split <;> rfl
theorem add_lit0 (g j:Nat):(⟨g,0,none⟩:Addr).add j=⟨g,j,none⟩:=by unfold Addr.add;split <;> simp_all
def Rd (w:World) (B:Nat) (A:Option Addr) (n:Nat) (xs:List Value):Prop:=
 xs.length=n∧(0<n→∃ ad,A=some ad∧ad.block<B∧∀ (j:Nat) (u:Value),xs[j]?=some u→w.cell? (ad.add j)=some u)
section
variable {w w':World} {B B' n:Nat} {A:Option Addr} {xs:List Value}
theorem Rd.nil_:Rd w B A 0 []:=⟨rfl,fun h=>absurd h (by omega)⟩
theorem Rd.at_ {k:Nat} (h:Rd w B A n xs) (hk:k<n):∃ ad u,A=some ad∧ad.block<B∧xs[k]?=some u∧w.cell? (ad.add k)=some u:=by
 obtain⟨ad,e,hb,hc⟩:=h.2 (by omega)
 have hl:k<xs.length:=by have:=h.1;omega
 exact⟨ad,xs[k],e,hb,List.getElem?_eq_getElem hl,hc k _ (List.getElem?_eq_getElem hl)⟩
theorem Rd.keep (h:Rd w B A n xs) (hk:∀ p:Addr,p.block<B→w'.cell? p=w.cell? p):Rd w' B A n xs:=
 ⟨h.1,fun hn=>by
  obtain⟨ad,e,hb,hc⟩:=h.2 hn
  exact⟨ad,e,hb,fun j u hu=>(hk _ (by rw[block_add];exact hb)).trans (hc j u hu)⟩⟩
theorem Rd.below (h:Rd w B A n xs) (hb:Below B w w'):Rd w' B A n xs:=h.keep fun _ hp=>hb.cell hp
theorem Rd.more (h:Rd w B A n xs) (hB:B≤B'):Rd w B' A n xs:=
 ⟨h.1,fun hn=>by
  obtain⟨ad,e,hb,hc⟩:=h.2 hn
  exact⟨ad,e,by omega,hc⟩⟩
theorem Rd.lit (w:World) (e:TypeId) (cs:List Value):Rd (w.alloc (.cells cs.toArray e)) (w.heap.size+1) (some ⟨w.heap.size,0,none⟩) cs.length cs:=
 ⟨rfl,fun _=>⟨_,rfl,Nat.lt_succ_self _,fun j u hu=>by
  rw[add_lit0,cell_of_row _ _ j cs.toArray e (0,0) (heap_alloc_new w _)]
  simpa using hu⟩⟩
theorem Rd.of_own {base:Nat} {e:TypeId} {c:Nat} (h:w.ownsRow base e 1 (.slice A n c) n xs):Rd w w.heap.size A n xs:=by
 refine⟨by simpa using h.1,fun hn=>?_⟩
 rcases h.2 with⟨_,h0⟩ | ⟨g,cap,cur,hv,_,hh,_⟩
 ·omega
 ·injection hv with hA
  subst hA
  refine⟨_,rfl,(Array.getElem?_eq_some_iff.1 hh).1,h.cells (g:=g) rfl⟩
theorem Rd.at_map {α:Type} {f:α→Value} {l:List α} {k:Nat} (h:Rd w B A n (l.map f)) (hk:k<n):∃ (ad:Addr) (hl:k<l.length),A=some ad∧ad.block<B∧w.cell? (ad.add k)=some (f l[k]):=by
 obtain⟨ad,u,e,hb,hx,hc⟩:=h.at_ hk
 have hl:k<l.length:=by have:=h.1;simp at this;omega
 rw[List.getElem?_map,List.getElem?_eq_getElem hl] at hx
 simp at hx
 subst hx
 exact⟨ad,hl,e,hb,hc⟩
theorem Rd.len_map {α:Type} {f:α→Value} {l:List α} (h:Rd w B A n (l.map f)):l.length=n:=by have:=h.1;simpa using this
theorem Rd.byte {bs:List UInt8} {k:Nat} (h:Rd w B A n (bs.map bv)) (hk:k<n):∃ (ad:Addr) (hl:k<bs.length),A=some ad∧ad.block<B∧w.cell? (ad.add k)=some (bv bs[k]):=by
 obtain⟨ad,u,e,hb,hx,hc⟩:=h.at_ hk
 have hl:k<bs.length:=by have:=h.1;simp at this;omega
 rw[List.getElem?_map,List.getElem?_eq_getElem hl] at hx
 simp at hx
 subst hx
 exact⟨ad,hl,e,hb,hc⟩
theorem Rd.len {bs:List UInt8} (h:Rd w B A n (bs.map bv)):bs.length=n:=by have:=h.1;simpa using this
end
def mkS (l:List UInt8):ByteArray:=⟨l.toArray⟩
theorem mkS_size (l:List UInt8):(mkS l).size=l.length:=by simp[mkS,ByteArray.size]
theorem mkS_list (l:List UInt8):(mkS l).data.toList=l:=by simp[mkS]
theorem mkS_of (s:ByteArray):mkS s.data.toList=s:=by simp[mkS]
theorem mkS_add (a b:List UInt8):mkS a++mkS b=mkS (a++b):=ByteArray.mk_append_mk a b
theorem run_str_of {P:Program} {w:World} {B n:Nat} {A:Option Addr} {bs:List UInt8} (h:Rd w B A n (bs.map bv)) (src dst e:TypeId) (hs:P.underlying src=some (.slice e)) (he:P.underlying e=some (.int .u8)) (hd:P.underlying dst=some .string) (cap:Nat) :
  (convert src dst (.slice A n cap)).run P w=.ok (.string (mkS bs)) w:=by
 have hl:=h.len
 subst hl
 rcases A with _ | ad
 ·have h0:bs=[]:=by
   rcases Nat.eq_zero_or_pos bs.length with h0 | h0
   ·exact List.eq_nil_of_length_eq_zero h0
   ·obtain⟨ad,h,_⟩:=h.2 h0
    cases h
  subst h0
  exact run_convert_bytes_nil w src e hs he _ cap dst hd
 ·refine run_convert_bytes_back w src dst e ad cap bs hs he hd fun j hj=>?_
  obtain⟨ad',h1,_,h3⟩:=h.2 (by omega)
  injection h1 with h1
  subst h1
  exact h3 j _ (by rw[List.getElem?_map,List.getElem?_eq_getElem hj];rfl)
def Moved (w:World) (v v':Value):Prop:=v'.ownBlock=v.ownBlock∨∃ k,v'.ownBlock=some k∧w.heap.size≤k
structure Grew (w w':World) (base:Nat) (e:TypeId) (v v':Value) (xs:List Value):Prop where
 own:w'.ownsRow base e 1 v' xs.length xs
 grown:w.grownBy w' v.ownBlock
 moved:Moved w v v'
section
variable {w w1 w2:World} {base:Nat} {e:TypeId} {v v1 v2:Value} {xs ys zs:List Value}
theorem Grew.refl (h:w.ownsRow base e 1 v xs.length xs):Grew w w base e v v xs:=⟨h,World.grownBy.refl w _,.inl rfl⟩
theorem Grew.trans (h:Grew w w1 base e v v1 ys) (k:Grew w1 w2 base e v1 v2 zs):Grew w w2 base e v v2 zs:=by
 refine⟨k.own,⟨k.grown.os.trans h.grown.os,k.grown.tape.trans h.grown.tape,k.grown.output.trans h.grown.output,Nat.le_trans h.grown.size k.grown.size,fun i hi hne=>?_⟩,?_⟩
 ·refine(k.grown.block i (Nat.lt_of_lt_of_le hi h.grown.size) ?_).trans (h.grown.block i hi hne)
  rcases h.moved with e1 | ⟨j,e1,hj⟩
  ·rw[e1];exact hne
  ·rw[e1];intro e2;injection e2 with e2;omega
 ·rcases k.moved with e1 | ⟨j,e1,hj⟩
  ·rw[Moved,e1];exact h.moved
  ·exact .inr ⟨j,e1,Nat.le_trans h.grown.size hj⟩
theorem Grew.below (h:Grew w w1 base e v v1 ys) (hown:w.ownsRow base e 1 v xs.length xs) (hb:base≤w.heap.size):Below base w w1:=
 (Below.refl base w).grown h.grown hb fun k hk=>(hown.lt k hk).1
theorem Grew.alloc (h:Grew w w1 base e v v1 ys) (o:Obj):Grew w (w1.alloc o) base e v v1 ys:=
 h.trans ⟨h.own.alloc o,World.grownBy_alloc _ _ _,.inl rfl⟩
end
theorem cell_keeps {w w':World} {p:Addr} {v:Value} (hb:Below w.heap.size w w') (h:w.cell? p=some v):w'.cell? p=some v:=(hb.cell (World.block_lt_of_cell? w p h)).trans h
theorem own_below {w w':World} {base size n:Nat} {e:TypeId} {v:Value} {xs:List Value} (h:w.ownsRow base e size v n xs) (hb:Below w.heap.size w w'):w'.ownsRow base e size v n xs:=
 h.kept (row:=none) ⟨hb.os,hb.tape,hb.output,hb.size,fun k hk _=>hb.block k hk⟩ (by cases hv:v.ownBlock <;> simp)
theorem below_of_grown {w w':World} {row:Option Nat} {B:Nat} (hg:w.grownBy w' row) (hB:B≤w.heap.size) (hr:∀ k,row=some k→B≤k):Below B w w':=(Below.refl B w).grown hg hB hr
section
variable {P:Program} {ops:Array Oper} {rest:List Oper} {o:Oper} {a:Act} {Q:Exit→Act→World→Prop}
theorem run_appN (w:World) (base:Nat) (t ty e:TypeId) (i:TypeInfo) (z:Value) (bytes:Nat) (ht:P.underlying t=some (.slice e)) (hi:P.info? e=some i) (hz:i.zero=some z)
  (hsize:i.size=1) (hby:i.bytes=bytes) (hzs:z.cells.size=1) (v:Value) (xs:List Value) (hown:w.ownsRow base e 1 v xs.length xs)
  (B:Nat) (A:Option Addr) (m c:Nat) (news:List Value) (hr:Rd w B A m news) (h1:∀ u∈news,u.oneCell'=true)
  (hbytes:(xs.length+m)*bytes≤140737488355328) (hlen:xs.length+m≤140737488355328) (hbase:base≤w.heap.size) :
  ∃ v' w',(Builtin.append_ #[t,t] ty #[v,.slice A m c]).run P w=.ok v' w'∧Grew w w' base e v v' (xs++news):=by
 have hl:(xs++news).length=xs.length+m:=by rw[List.length_append,hr.1]
 rcases A with _ | ad
 ·have hm:m=0:=by
   rcases Nat.eq_zero_or_pos m with h0 | h0
   ·exact h0
   ·obtain⟨ad,h,_⟩:=hr.2 h0
    cases h
  subst hm
  have hn:news=[]:=List.eq_nil_of_length_eq_zero hr.1
  subst hn
  refine⟨v,w,?_,by simpa using Grew.refl hown⟩
  rcases hown.2 with⟨rfl,_⟩ | ⟨g,cap,cur,rfl,_,_,hnc,_⟩
  ·simp[Builtin.append_,run_underlying ht,sizeOf,typeInfo,hi,Builtin.lenOf,Builtin.firstCells]
  ·simp[Builtin.append_,run_underlying ht,sizeOf,typeInfo,hi,Builtin.lenOf,Builtin.firstCells,hnc,storeCells]
 ·have hcells:∀ j u,news[j]?=some u→w.cell? (ad.add j)=some u:=by
   intro j u hu
   rcases Nat.eq_zero_or_pos m with h0 | h0
   ·subst h0
    have hn:news=[]:=List.eq_nil_of_length_eq_zero hr.1
    subst hn
    simp at hu
   ·obtain⟨ad',h,_,hc⟩:=hr.2 h0
    injection h with h
    subst h
    exact hc j u hu
  obtain⟨v',w',hrun,h2,h3,_,h5⟩:=run_append_own_at (P:=P) w base t ty e i z 1 bytes ht hi hz hsize hby hzs (by omega) v xs.length xs hown ad m c news (by rw[hr.1];omega) hcells h1 (by unfold maxLen;omega) hbytes hbase
  refine⟨v',w',hrun,by rw[hl];exact h2,h3,?_⟩
  rcases h5 with h5 | h5
  ·exact .inl h5
  ·exact .inr ⟨_,h5,Nat.le_refl _⟩
theorem wpList_appN (w:World) (hgd:o.guard=none) (s x:Operand) (t:TypeId)
  (ho:o.op=.call { callee:=.builtin .append,args:=#[s,x],argTypes:=#[t,t] })
  (base:Nat) (e:TypeId) (i:TypeInfo) (z:Value) (bytes:Nat) (ht:P.underlying t=some (.slice e)) (hi:P.info? e=some i) (hz:i.zero=some z)
  (hsize:i.size=1) (hby:i.bytes=bytes) (hzs:z.cells.size=1)
  (v:Value) (xs:List Value) (hs:a.eval s=v) (hown:w.ownsRow base e 1 v xs.length xs)
  (B:Nat) (A:Option Addr) (m c:Nat) (news:List Value) (hx:a.eval x=.slice A m c) (hr:Rd w B A m news) (h1:∀ u∈news,u.oneCell'=true)
  (hbytes:(xs.length+m)*bytes≤140737488355328) (hlen:xs.length+m≤140737488355328) (hbase:base≤w.heap.size)
  (h:∀ v' w',Grew w w' base e v v' (xs++news)→wpList P ops Q rest (a.put o.dst v') w'):wpList P ops Q (o::rest) a w:=by
 refine wpList_plain hgd fun K hK=>?_
 obtain⟨v',w',hrun,hg⟩:=run_appN (P:=P) w base t o.type e i z bytes ht hi hz hsize hby hzs v xs hown B A m c news hr h1 hbytes hlen hbase
 unfold Oper.wp execOp
 simp only[ho,resolve,invoke,builtin,Sem.run_bind,Sem.run_pure,Result.andThen_ok,List.map_toArray,List.map_cons,List.map_nil,hs,hx,hrun]
 exact hK _ _ (h v' w' hg)
theorem wpList_app1 (w:World) (u:Value) (hgd:o.guard=none) (s x:Operand) (t:TypeId)
  (ho:o.op=.call { callee:=.builtin .append,args:=#[s,x],argTypes:=#[t,t] })
  (base:Nat) (e:TypeId) (i:TypeInfo) (z:Value) (bytes:Nat) (ht:P.underlying t=some (.slice e)) (hi:P.info? e=some i) (hz:i.zero=some z)
  (hsize:i.size=1) (hby:i.bytes=bytes) (hzs:z.cells.size=1) (h1:u.oneCell'=true)
  (v:Value) (xs:List Value) (hs:a.eval s=v) (hown:w.ownsRow base e 1 v xs.length xs) (hx:a.eval x=.slice (some ⟨w.heap.size,0,none⟩) 1 1)
  (hbytes:(xs.length+1)*bytes≤140737488355328) (hlen:xs.length+1≤140737488355328) (hbase:base≤w.heap.size)
  (h:∀ v' w',Grew w w' base e v v' (xs++[u])→wpList P ops Q rest (a.put o.dst v') w'):wpList P ops Q (o::rest) a (w.alloc (.cells #[u] e)):=
 wpList_appN (w.alloc (.cells #[u] e)) hgd s x t ho base e i z bytes ht hi hz hsize hby hzs v xs hs (hown.alloc _) (w.heap.size+1) (some ⟨w.heap.size,0,none⟩) 1 1 [u] hx
  ⟨rfl,fun _=>⟨_,rfl,Nat.lt_succ_self _,fun j y hy=>by
   match j,hy with
   | 0,hy=>simp at hy;subst hy;simp[Addr.add]⟩⟩ (by intro y hy;simp at hy;subst hy;exact h1) hbytes hlen (by simp;omega)
  fun v' w' hg=>h v' w' (((Grew.refl hown).alloc _).trans hg)
theorem strCells_eq (s:ByteArray):Lib.strCells s=s.data.toList.map bv:=rfl
theorem run_appS (w:World) (base:Nat) (t u ty e:TypeId) (i:TypeInfo) (ht:P.underlying t=some (.slice e)) (hu:P.underlying u=some .string) (hi:P.info? e=some i) (hz:i.zero=some (.int .u8 0))
  (hsize:i.size=1) (hby:i.bytes=1) (v:Value) (xs:List Value) (hown:w.ownsRow base e 1 v xs.length xs) (s:ByteArray)
  (hlen:xs.length+s.size≤140737488355328) (hbase:base≤w.heap.size) :
  ∃ v' w',(Builtin.append_ #[t,u] ty #[v,.string s]).run P w=.ok v' w'∧Grew w w' base e v v' (xs++s.data.toList.map bv):=by
 have hl:(xs++s.data.toList.map bv).length=xs.length+s.size:=by rw[←strCells_eq,List.length_append,Lib.strCells_length]
 rcases hown.2 with⟨rfl,h0⟩ | ⟨g,cap,cur,rfl,hbg,hg,hnc,hcm,hcs,htake⟩
 ·have hx:xs=[]:=List.eq_nil_of_length_eq_zero h0
  subst hx
  obtain⟨v',w',hr,h2,h3,_⟩:=Lib.run_append_own_string (P:=P) w w.heap.size t u ty e i ht hu hi hz hsize hby (.slice none 0 0) 0 [] (World.ownsRow_nil w _ e 1) s (by unfold maxLen;simp at hlen;omega) (by simpa using hlen) (Nat.le_refl _)
  obtain⟨v2,w2,hr2,h22,_,_⟩:=Lib.run_append_own_string (P:=P) w base t u ty e i ht hu hi hz hsize hby (.slice none 0 0) 0 [] (World.ownsRow_nil w _ e 1) s (by unfold maxLen;simp at hlen;omega) (by simpa using hlen) hbase
  have he:=hr.symm.trans hr2
  injection he with e1 e2
  subst e1 e2
  rw[strCells_eq] at h22
  refine⟨v',w',hr,by rw[hl];simpa using h22,h3,?_⟩
  rcases hv:v'.ownBlock with _ | k
  ·exact .inl hv
  ·exact .inr ⟨k,hv,(h2.lt k hv).1⟩
 ·obtain⟨v',w',hr,h2,h3,_⟩:=Lib.run_append_own_string (P:=P) w base t u ty e i ht hu hi hz hsize hby _ _ xs hown s (by unfold maxLen;omega) hlen hbase
  refine⟨v',w',hr,by rw[hl,←strCells_eq];exact h2,h3,?_⟩
  by_cases hroom:xs.length+s.size≤cap
  ·have hr2:=Lib.run_append_room_string (P:=P) w t u ty e i ht hu hi hsize g xs.length cap cur hg s hroom (by omega)
   have he:=hr.symm.trans hr2
   injection he with e1 _
   exact .inl (by rw[e1];rfl)
  ·have holds:∀ j u,xs[j]?=some u→w.cell? ((⟨g,0,none⟩:Addr).add j)=some u:=hown.cells (g:=g) rfl
   have hr2:=Lib.run_append_grow_string (P:=P) w t u ty e i (.int .u8 0) ht hu hi hz ⟨g,0,none⟩ xs.length cap xs (by rw[hsize];simp) holds s (by omega) (by omega) (by rw[hby];exact growslice_fits (by omega) (by omega))
   have he:=hr.symm.trans hr2
   injection he with e1 _
   exact .inr ⟨w.heap.size,by rw[e1];rfl,Nat.le_refl _⟩
theorem wpList_appS (w:World) (hgd:o.guard=none) (so xo:Operand) (t u:TypeId)
  (ho:o.op=.call { callee:=.builtin .append,args:=#[so,xo],argTypes:=#[t,u] })
  (base:Nat) (e:TypeId) (i:TypeInfo) (ht:P.underlying t=some (.slice e)) (hu:P.underlying u=some .string) (hi:P.info? e=some i) (hz:i.zero=some (.int .u8 0))
  (hsize:i.size=1) (hby:i.bytes=1)
  (v:Value) (xs:List Value) (hs:a.eval so=v) (hown:w.ownsRow base e 1 v xs.length xs) (s:ByteArray) (hx:a.eval xo=.string s)
  (hlen:xs.length+s.size≤140737488355328) (hbase:base≤w.heap.size)
  (h:∀ v' w',Grew w w' base e v v' (xs++s.data.toList.map bv)→wpList P ops Q rest (a.put o.dst v') w'):wpList P ops Q (o::rest) a w:=by
 refine wpList_plain hgd fun K hK=>?_
 obtain⟨v',w',hrun,hg⟩:=run_appS (P:=P) w base t u o.type e i ht hu hi hz hsize hby v xs hown s hlen hbase
 unfold Oper.wp execOp
 simp only[ho,resolve,invoke,builtin,Sem.run_bind,Sem.run_pure,Result.andThen_ok,List.map_toArray,List.map_cons,List.map_nil,hs,hx,hrun]
 exact hK _ _ (h v' w' hg)
end
end Go.Proofs.YtkkchkkpnlnbgaaGreatDoor
namespace Go.Proofs.YtkkchkkpnlnbgaaGreatDoor
open Go.RowKit
theorem conv_const (W:World) (C:Array Value) (n c g:Nat) (h:g=W.heap.size):(convert 70 70 (.slice (some ⟨g,0,none⟩) n c)).run Tryz.prog (W.alloc (.cells C 5))=.ok (.slice (some ⟨g,0,none⟩) n c) (W.alloc (.cells C 5 (C.size,C.size+1))):=
 Joins.run_convert_bytes_const_at W 70 5 C n c g h Tryz.underlying70 Tryz.underlying5
theorem Rd.litF (w:World) (e:TypeId) (fr:Nat×Nat) (cs:List Value):Rd (w.alloc (.cells cs.toArray e fr)) (w.heap.size+1) (some ⟨w.heap.size,0,none⟩) cs.length cs:=
 ⟨rfl,fun _=>⟨_,rfl,Nat.lt_succ_self _,fun j u hu=>by
  rw[add_lit0,cell_of_row _ _ j cs.toArray e fr (heap_alloc_new w _)]
  simpa using hu⟩⟩
theorem info_u8:(Tryz.prog.info? 5).map (fun i=>(i.zero,i.size,i.bytes))=some (some (.int .u8 0),1,1):=by kernel_rfl
theorem own_slice {w:World} {base n:Nat} {e:TypeId} {v:Value} {xs:List Value} (h:w.ownsRow base e 1 v n xs) :
  ∃ A c,v=.slice A n c∧n≤c∧Rd w w.heap.size A n xs∧(∀ ad,A=some ad→base≤ad.block∧ad.block<w.heap.size):=by
 rcases h.2 with⟨rfl,rfl⟩ | ⟨g,cap,cur,rfl,hb,hh,hnc,_⟩
 ·exact⟨none,0,rfl,Nat.le_refl _,by have:=h.1;simp at this;subst this;exact Rd.nil_,fun ad h=>by cases h⟩
 ·exact⟨_,_,rfl,hnc,Rd.of_own h,fun ad he=>by injection he with he;subst he;exact⟨hb,(Array.getElem?_eq_some_iff.1 hh).1⟩⟩
theorem own_map {α:Type} {f:α→Value} {w:World} {base:Nat} {e:TypeId} {v:Value} {xs:List α} (h:w.ownsRow base e 1 v (xs.map f).length (xs.map f)) :
  ∃ A c,v=.slice A xs.length c∧xs.length≤c∧Rd w w.heap.size A xs.length (xs.map f)∧(∀ ad,A=some ad→base≤ad.block∧ad.block<w.heap.size):=by
 rw[List.length_map] at h
 exact own_slice h
end Go.Proofs.YtkkchkkpnlnbgaaGreatDoor
