import Derived.Test.YtipdgmjplnibeaaGreatDoorJe
import Derived.Lib.RepeatB
set_option maxRecDepth 100000
set_option maxHeartbeats 6400000
namespace Go.Proofs.YtipdgmjplnibeaaGreatDoor
open Go.RowKit Go.Maps Go.Shelf
attribute [local go_sem] Oper.semAt_some
structure GrewK (w w':World) (base:Nat) (e:TypeId) (k:Nat) (v v':Value) (n:Nat) (xs:List Value):Prop where
 own:w'.ownsRow base e k v' n xs
 grown:w.grownBy w' v.ownBlock
 moved:Moved w v v'
theorem wpListIn_appK {F:Fence} {d:Nat} {P:Program} {ops:Array Oper} {rest:List Oper} {o:Oper} {a:Act} {Q:Exit→Act→World→Prop} (w:World) (cs:Array Value) (k:Nat) (hk:0<k) (hcs:cs.size=k) (h1:∀ u∈cs.toList,u.oneCell'=true) (hgd:o.guard=none) (s x:Operand) (t e:TypeId)
  (ho:o.op=.call { callee:=.builtin .append,args:=#[s,x],argTypes:=#[t,t] }) (i0:TypeInfo) (z:Value) (bytes:Nat) (ht:P.underlying t=some (.slice e)) (hi:P.info? e=some i0) (hz:i0.zero=some z)
  (hsize:i0.size=k) (hby:i0.bytes=bytes) (hzs:z.cells.size=k)
  (base:Nat) (v:Value) (n:Nat) (xs:List Value) (hs:a.eval s=v) (hown:w.ownsRow base e k v n xs) (N:Nat) (hN:N=w.heap.size) (hx:a.eval x=.slice (some ⟨N,0,none⟩) 1 1)
  (hn:(n+1)*bytes≤140737488355328) (hn2:n+1≤140737488355328) (hbase:base≤w.heap.size)
  (h:∀ v' w',GrewK w w' base e k v v' (n+1) (xs++cs.toList)→wpListIn F d P ops Q rest (a.put o.dst v') w'):wpListIn F d P ops Q (o::rest) a (w.alloc (.cells cs e)):=by
 subst hN
 refine wpListIn_plain hgd fun K hK=>?_
 have hown':(w.alloc (.cells cs e)).ownsRow base e k v n xs:=hown.alloc _
 obtain⟨v',w',hrun,h2,h3,_,h5⟩:=run_append_own_at (P:=P) (w.alloc (.cells cs e)) base t o.type e i0 z k bytes ht hi hz hsize hby hzs hk v n xs hown' ⟨w.heap.size,0,none⟩ 1 1 cs.toList (by simpa using hcs)
  (fun j u hj=>by
   rw[add_lit0,cell_of_row _ _ j cs e (0,0) (heap_alloc_new w _)]
   simpa using hj) h1 (by unfold maxLen;omega) hn (by simp;omega)
 have hg:w.grownBy w' v.ownBlock:=by
  have hla:=Later.alloc w (.cells cs e)
  exact⟨h3.os.trans hla.os,h3.tape.trans hla.tape,h3.output.trans hla.output,Nat.le_trans hla.size h3.size,fun k hk hne=>(h3.block k (Nat.lt_of_lt_of_le hk hla.size) hne).trans (hla.block k hk)⟩
 have hkk:=hK _ _ (h v' w' ⟨h2,hg,by
  rcases h5 with h5 | h5
  ·exact .inl h5
  ·exact .inr ⟨_,h5,by simp⟩⟩)
 unfold Oper.wpIn
 refine⟨by simp[Oper.about,ho,resolve,Target.leads,Sem.run_pure],?_⟩
 rw[Oper.semAt_plain F _ _ (by rw[ho];intro _ hc;cases hc)]
 simp[execOp,ho,resolve,invoke,builtin,hs,hx,hrun,Result.andThen]
 exact hkk
namespace Jo
open Bu
theorem info_row:(Tryz.prog.info? 37).map (fun i=>(i.zero,i.size,i.bytes))=some (some (.agg #[.string ⟨#[]⟩,.string ⟨#[]⟩]),2,32):=by kernel_rfl
structure OutB (W0:World) (r1:Rng) (st:LoopState) (lb:Nat) (W:World) (vo:Value) (out:List Rw):Prop where
 low:Later W0 W
 at1:r1.At st none W
 lge:W0.heap.size≤lb
 dge:W0.heap.size≤r1.D
 box:W.heap[lb]?=some (.cells #[vo] 30 (0,0))
 own:W.ownsRow W0.heap.size 37 2 vo out.length (rows out)
section
variable {W0 W W':World} {r1:Rng} {st st':LoopState} {lb:Nat} {vo:Value} {out:List Rw}
theorem OutB.fr {X:Nat→Prop} (h:OutB W0 r1 st lb W vo out) (hf:Fr X W W') (h0:∀ k,k<W0.heap.size→X k) (h1:X lb) (h2:r1.At st' none W') (h4:∀ i,vo.ownBlock=some i→X i):OutB W0 r1 st' lb W' vo out:=
 ⟨later_fr h.low hf h0,h2,h.lge,h.dge,hf.cells h.box h1,hf.row h.own h4⟩
theorem OutB.later (h:OutB W0 r1 st lb W vo out) (hl:Later W W'):OutB W0 r1 st lb W' vo out:=h.fr (X:=fun _=>True) (Fr.later hl) (fun _ _=>trivial) trivial ⟨later_cells hl h.at1.1,later_cells hl h.at1.2⟩ fun _ _=>trivial
theorem OutB.turn (h:OutB W0 r1 st lb W vo out) (ht:r1.Turn W W') (h2:r1.At st' none W'):OutB W0 r1 st' lb W' vo out:=by
 have hf:Fr (fun k=>k≠r1.D+1) W W':=Fr.grown ht.grown fun x e hx=>by injection e with e;exact hx e.symm
 have ob:∀ {k:Nat} {c:Array Value} {ty:TypeId},W.heap[k]?=some (.cells c ty (0,0))→k≠r1.D+1:=fun hk=>ne_obj hk h.at1.1 (by simp)
 refine h.fr hf (fun k hk e=>?_) (ob h.box) h2 (fun i e=>?_)
 ·have:=h.dge;omega
 ·obtain⟨cs,hc⟩:=own_type h.own e;exact ob hc
theorem OutB.ofSt (h:OutSt W0 r1 lb W vo out):OutB W0 r1 .ready lb W vo out:=⟨h.low,h.at1,h.lge,h.dge,h.box,h.own⟩
theorem OutB.toSt (h:OutB W0 r1 .ready lb W vo out):OutSt W0 r1 lb W vo out:=⟨h.low,h.at1,h.lge,h.dge,h.box,h.own⟩
theorem OutB.push {f:Rw} {w1:World} {v':Value} (h:OutB W0 r1 st lb W vo out) (hg:GrewK W w1 W0.heap.size 37 2 vo v' (out.length+1) (rows out++[.string (mkS (ft f)),.string (mkS (fm f))])) :
  OutB W0 r1 st lb (w1.setCell ⟨lb,0,none⟩ v') v' (out++[f])∧Fr (fun k=>k≠lb∧vo.ownBlock≠some k) W (w1.setCell ⟨lb,0,none⟩ v')∧w1.heap[lb]?=some (.cells #[vo] 30 (0,0)):=by
 have f1:Fr (fun k=>k≠lb∧vo.ownBlock≠some k) W w1:=Fr.grown hg.grown fun x e hx=>hx.2 e
 have f2:Fr (fun k=>k≠lb∧vo.ownBlock≠some k) w1 (w1.setCell ⟨lb,0,none⟩ v'):=Fr.grown (set_only _ _ _ _) fun x e hx=>by injection e with e;exact hx.1 e.symm
 have hf:=f1.trans f2
 have hb1:w1.heap[lb]?=some (.cells #[vo] 30 (0,0)):=(hg.grown.block lb (lt_of_block h.box) (fun e=>ne_type h.own h.box (by decide) e.symm)).trans h.box
 have hne:v'.ownBlock≠some lb:=ne_type hg.own hb1 (by decide)
 refine⟨⟨later_fr h.low hf fun k hk=>⟨by have:=h.lge;omega,fun e=>by have:=(own_ge h.own e).1;omega⟩,⟨hf.cells h.at1.1 ⟨ne_obj h.at1.1 h.box (by simp),ne_own h.own h.at1.1 (fun c f=>by simp)⟩,hf.cells h.at1.2 ⟨ne_obj h.at1.2 h.box (by simp),ne_own h.own h.at1.2 (fun c f=>by simp)⟩⟩,h.lge,h.dge,set_row hb1 0 v',?_⟩,hf,hb1⟩
 have:=hg.own.kept (set_only w1 lb 0 v') (.inr hne)
 rw[rows_app,List.length_append]
 exact this
end
theorem split_v (t m ifs:L) (w:World) (ht0:t.length≤9223372036854775807) (hlen:(t.zip m).length≤100000) :
  Calls Tryz.prog 23 #[.agg #[.string (mkS t),.string (mkS m)],.string (mkS ifs)] w fun e w'=>∃ v,e=.returned v∧Later w w'∧w'.ownsRow w.heap.size 37 2 v (split ifs (t.zip m)).length (rows (split ifs (t.zip m))):=by
 obtain⟨i0,hi,hz0,hz1,hz2⟩:=info_parts info_row
 have HT0:=Lib.hid ht0
 have HLEN:=Lib.hid hlen
 clear ht0 hlen
 refine(callsIn_wide (n:=6)).1 ?_
 refine callsIn_of_wp_marks Tryz.func23 rfl trivial ?_ rfl
 simp only[Tryz.ntmps23,List.size_toArray,List.length_cons,List.length_nil,Nat.reduceAdd,Nat.reduceSub,Array.replicate_succ,Array.replicate_zero,List.push_toArray,List.append_toArray,List.nil_append,List.cons_append]
 have HFI:=Lib.hid (show ∀ W,Calls Tryz.prog 56 #[.agg #[.string (mkS t),.string (mkS m)],.string (mkS ifs)] W fun e w'=>e=.returned (.func (.func 87) #[] #[.pointer (some ⟨W.heap.size,0,none⟩),.pointer (some ⟨W.heap.size+1,0,none⟩)])∧w'=(W.alloc (.cells #[.string (mkS t),.string (mkS m)] 37)).alloc (.cells #[.string (mkS ifs)] 9) from fun W=>by
  go_enter Tryz.func56,Tryz.ntmps56
  go_wp2
  go_ret
  exact⟨rfl,rfl⟩)
 gi_wp2_with (refine⟨trivial,?_⟩;gi_at_call 56;refine(callsIn_wide.2 (HFI.out _)).mono ?_;rintro e w' ⟨rfl,rfl⟩)
 obtain⟨Wc,hWc⟩:∃ Wc,Wc=((((w.alloc (.cells #[.string (mkS t),.string (mkS m)] 37)).alloc (.cells #[.slice none 0 0] 30)).alloc (.cells #[.string (mkS t),.string (mkS m)] 37)).alloc (.cells #[.string (mkS ifs)] 9)):=⟨_,rfl⟩
 rw[←hWc]
 have hfacts:Later w Wc∧Wc.heap[w.heap.size+1]?=some (.cells #[.slice none 0 0] 30 (0,0))∧RBox Wc (w.heap.size+1+1) t m∧Wc.heap[w.heap.size+1+1+1]?=some (.cells #[.string (mkS ifs)] 9 (0,0))∧Wc.heap.size=w.heap.size+4:=by
  obtain⟨o1,ho1⟩:∃ o:Obj,o=.cells #[.string (mkS t),.string (mkS m)] 37:=⟨_,rfl⟩
  obtain⟨o2,ho2⟩:∃ o:Obj,o=.cells #[.slice none 0 0] 30:=⟨_,rfl⟩
  obtain⟨o4,ho4⟩:∃ o:Obj,o=.cells #[.string (mkS ifs)] 9:=⟨_,rfl⟩
  rw[←ho1,←ho2,←ho4] at hWc
  unfold RBox
  rw[←ho1,←ho2,←ho4,hWc]
  have l1:=Later.alloc w o1
  have l2:=Later.alloc (w.alloc o1) o2
  have l3:=Later.alloc ((w.alloc o1).alloc o2) o1
  have l4:=Later.alloc (((w.alloc o1).alloc o2).alloc o1) o4
  have z1:(w.alloc o1).heap.size=w.heap.size+1:=World.size_alloc ..
  have z2:((w.alloc o1).alloc o2).heap.size=w.heap.size+1+1:=by rw[World.size_alloc,z1]
  have z3:(((w.alloc o1).alloc o2).alloc o1).heap.size=w.heap.size+1+1+1:=by rw[World.size_alloc,z2]
  have n2:=heap_alloc_new (w.alloc o1) o2
  have n3:=heap_alloc_new ((w.alloc o1).alloc o2) o1
  have n4:=heap_alloc_new (((w.alloc o1).alloc o2).alloc o1) o4
  rw[z1] at n2
  rw[z2] at n3
  rw[z3] at n4
  exact⟨((l1.trans l2).trans l3).trans l4,later_cells l4 (later_cells l3 n2),later_cells l4 n3,n4,by rw[World.size_alloc,z3]⟩
 clear hWc HFI
 obtain⟨hw1,hw2,hw3,hw4,hw5⟩:=hfacts
 refine wpIn_rangeFunc_at2 rfl (by omega) (gf:=87) (lb:=#[.pointer (some ⟨w.heap.size+1+1,0,none⟩),.pointer (some ⟨w.heap.size+1+1+1,0,none⟩)]) rfl trivial (enters_of Tryz.func87 (by kernel_rfl) rfl) ?_
 intro fn hfn r1 hrr W1 hat hb1 hz1
 have hD:r1.D=w.heap.size+4:=by rw[hrr,←hw5]
 have hps:r1.ps=#[10]:=by rw[hrr]
 have hl1:Later Wc W1:=hb1
 have hst:OutSt w r1 (w.heap.size+1) W1 (.slice none 0 0) []:=⟨hw1.trans hl1,hat,by omega,by omega,later_cells hl1 hw2,World.ownsRow_nil _ _ _ 2⟩
 refine CallsIn.mono (fields_it W1 r1 (w.heap.size+1) (w.heap.size+1+1) (w.heap.size+1+1+1) t m ifs (later_cells hl1 hw3) (later_cells hl1 hw4) hst HT0.out HLEN.out ?hround) ?done
 case hround=>
  intro out vo f W ho hol
  refine Rng.yield ho.at1 hfn (by rw[hps];rfl) ?_
  have e1:=congrArg Rng.assign hrr
  have e2:=congrArg Rng.body hrr
  have e3:=congrArg Rng.tmps hrr
  dsimp only at e1 e2 e3
  rw[e1,e2,e3,hps]
  obtain⟨o,ho1⟩:∃ o:Obj,o=.cells #[.string (mkS (ft f)),.string (mkS (fm f))] 37:=⟨_,rfl⟩
  have hl:=Later.alloc W o
  have HIA:=Lib.hid ((OutB.ofSt ho).later hl)
  have HNW:=Lib.hid (heap_alloc_new W o)
  have HLW:=Lib.hid hl
  rw[ho1] at HIA HNW HLW
  have HOL:=Lib.hid hol
  have HOB:=Lib.hid ho.at1
  have hWl:=ho.at1.lt
  have hwW:=ho.low.size
  have HD:=Lib.hid hD
  obtain⟨lb,hlb⟩:∃ lb,lb=w.heap.size+1:=⟨_,rfl⟩
  rw[←hlb] at HIA⊢
  have hlbl:lb<W.heap.size:=by rw[hlb];exact lt_of_block ho.box
  have HLB:=Lib.hid hlb
  clear e1 e2 e3 hps hrr hat hb1 hst hl ho1 hz1 hl1 hw1 hw2 hw3 hw4 hw5 ho hol hD hlb
  simp only[List.zip_toArray,List.zip_cons_cons,List.zip_nil_right,List.foldl_toArray',List.foldl_cons,List.foldl_nil,List.size_toArray,List.setIfInBounds_toArray,List.set_cons_succ,List.set_cons_zero]
  gi_wp2
  refine⟨HIA.out.at1,?_⟩
  generalize W.alloc (.cells #[.string (mkS (ft f)),.string (mkS (fm f))] 37)=Wa at HIA HNW HLW
  intro w1 ht2 hat2
  have hO:=HIA.out.turn ht2 hat2
  have HOO:=Lib.hid hO
  have hnw:=(ht2.grown.block _ (lt_of_block HNW.out) (fun e=>by injection e with e;omega)).trans HNW.out
  have f0:w1.cell? ⟨W.heap.size,0,none⟩=some (.string (mkS (ft f))):=(cell_row hnw 0).1
  have f1:w1.cell? ⟨W.heap.size,1,none⟩=some (.string (mkS (fm f))):=(cell_row hnw 1).1
  have b0:w1.cell? ⟨lb,0,none⟩=some vo:=(cell_row hO.box 0).1
  have HTU:=Lib.hid ht2
  obtain⟨A5,c5,hv5,_⟩:=own_any hO.own
  have HV5:=Lib.hid hv5
  clear ht2 hat2 hO hnw hv5
  gi_wp2_with (gi_at_builtin;refine wpListIn_appK w1 #[.string (mkS (ft f)),.string (mkS (fm f))] 2 (by omega) rfl (by intro u hu;simp at hu;rcases hu with rfl | rfl <;> rfl) rfl (.tmp 11) (.tmp 13) 30 37 rfl i0 _ 32 Tryz.underlying30 hi hz0 hz1 hz2 rfl w.heap.size vo out.length (rows out) rfl HOO.out.own _ rfl rfl (by have:=HOL.out;omega) (by have:=HOL.out;omega) HOO.out.low.size ?_;intro v' w3 hg3;obtain⟨A9,c9,hv9,_⟩:=own_any hg3.own;subst hv9;obtain⟨hp1,hp2,hp3⟩:=HOO.out.push hg3;(have k0:w3.cell? ⟨lb,0,none⟩=some vo:=(cell_row hp3 0).1);(have kz:w3.frozen? ⟨lb,0,none⟩=false:=(cell_row hp3 0).2);(have HP1:=Lib.hid hp1);(have HP2:=Lib.hid hp2);(have HM:=Lib.hid hg3.moved);clear hg3 hp1 hp2 hp3)
  refine⟨HP1.out.at1,fun w' ht h2=>⟨rfl,_,(HP1.out.turn ht h2).toSt,?_,?_⟩⟩
  ·exact(((Fr.later HLW.out).trans (Fr.grown HTU.out.grown fun x e hx=>by injection e with e;exact hx.2.1 e.symm)).trans (HP2.out.sub fun k hk=>⟨hk.1,hk.2.2⟩)).trans (Fr.grown ht.grown fun x e hx=>by injection e with e;exact hx.2.1 e.symm)
  ·rcases HM.out with e | ⟨k,e,hk⟩
   ·exact .inl e
   ·exact .inr ⟨k,e,by have:=HLW.out.size;have:=HTU.out.size;omega⟩
 case done=>
  rintro e W2 ⟨⟨v0,rfl⟩,vo,ho⟩
  refine⟨⟨_,rfl⟩,.ready,none,ho.at1,by simp,fun W3 ht hX=>?_⟩
  have hO:=(OutB.ofSt ho).turn ht hX
  have HOO:=Lib.hid hO
  have b0:W3.cell? ⟨w.heap.size+1,0,none⟩=some vo:=(cell_row hO.box 0).1
  clear hO ho ht hX hrr hps hat hb1 hst hw1 hw2 hw3 hw4 hw5 hz1 hl1 hD
  dsimp only
  gi_wp2
  have hO:=HOO.out
  have hK:=hO.at1.2
  refine⟨by simp,.inl ⟨_,_,rfl,run_takeDeferred hK,?_⟩⟩
  refine⟨_,results_tmp rfl _ _ _,vo,rfl,?_⟩
  have hg:=grownBy_putObj' W3 r1.D (.deferred none)
  have hne:vo.ownBlock≠some r1.D:=ne_own hO.own hK (fun c f=>by simp)
  exact⟨later_of_new hO.low hg hO.dge,hO.own.kept hg (.inr hne)⟩
end Jo
end Go.Proofs.YtipdgmjplnibeaaGreatDoor
namespace Go.Proofs.YtipdgmjplnibeaaGreatDoor
open Go.RowKit Go.Maps Go.Shelf
attribute [local go_sem] Oper.semAt_some
namespace Jo
open Bu
structure App (w0:World) (base:Nat) (r:Rng) (st:LoopState) (lb b:Nat) (t m:L) (v0:Value) (W:World) (v:Value) (z:Rw):Prop where
 fr:Fr (fun k=>v0.ownBlock≠some k) w0 W
 mv:Moved w0 v0 v
 at1:r.At st none W
 lge:w0.heap.size≤lb
 dge:w0.heap.size≤r.D
 box:W.heap[lb]?=some (.cells #[v] 139 (0,0))
 own:W.ownsRow base 146 2 v z.length (cs z)
 bx:RBox W b t m
section
variable {w0 W W':World} {base:Nat} {r:Rng} {st st':LoopState} {lb b:Nat} {t m:L} {v0 v:Value} {z:Rw}
theorem App.later (h:App w0 base r st lb b t m v0 W v z) (hl:Later W W'):App w0 base r st lb b t m v0 W' v z:=
 ⟨h.fr.thenLater hl,h.mv,⟨later_cells hl h.at1.1,later_cells hl h.at1.2⟩,h.lge,h.dge,later_cells hl h.box,own_below h.own hl,later_cells hl h.bx⟩
theorem App.turn (h:App w0 base r st lb b t m v0 W v z) (ht:r.Turn W W') (h2:r.At st' none W'):App w0 base r st' lb b t m v0 W' v z:=by
 have hf:Fr (fun k=>k≠r.D+1) W W':=Fr.grown ht.grown fun x e hx=>by injection e with e;exact hx e.symm
 have ob:∀ {k:Nat} {c:Array Value} {ty:TypeId},W.heap[k]?=some (.cells c ty (0,0))→k≠r.D+1:=fun hk=>ne_obj hk h.at1.1 (by simp)
 refine⟨h.fr.new ht.grown (by have:=h.dge;omega),h.mv,h2,h.lge,h.dge,hf.cells h.box (ob h.box),hf.row h.own (fun i e=>?_),hf.cells h.bx (ob h.bx)⟩
 obtain⟨cs,hc⟩:=own_type h.own e;exact ob hc
theorem App.push {p:C2} {w1:World} {v':Value} (h:App w0 base r st lb b t m v0 W v z) (hg:GrewK W w1 base 146 2 v v' (z.length+1) (cs z++[bv p.1,bv p.2])) :
  App w0 base r st lb b t m v0 (w1.setCell ⟨lb,0,none⟩ v') v' (z++[p])∧w1.heap[lb]?=some (.cells #[v] 139 (0,0)):=by
 have f1:Fr (fun k=>k≠lb∧v.ownBlock≠some k) W w1:=Fr.grown hg.grown fun x e hx=>hx.2 e
 have f2:Fr (fun k=>k≠lb∧v.ownBlock≠some k) w1 (w1.setCell ⟨lb,0,none⟩ v'):=Fr.grown (set_only _ _ _ _) fun x e hx=>by injection e with e;exact hx.1 e.symm
 have hf:=f1.trans f2
 have hb1:w1.heap[lb]?=some (.cells #[v] 139 (0,0)):=(hg.grown.block lb (lt_of_block h.box) (fun e=>ne_type h.own h.box (by decide) e.symm)).trans h.box
 have hne:v'.ownBlock≠some lb:=ne_type hg.own hb1 (by decide)
 have ob:∀ {k:Nat} {o:Obj},W.heap[k]?=some o→(∀ c f,o≠.cells c 146 f)→(o≠.cells #[v] 139 (0,0))→k≠lb∧v.ownBlock≠some k:=fun hk h1 h2=>⟨ne_obj hk h.box h2,ne_own h.own hk h1⟩
 have f0:Fr (fun k=>v0.ownBlock≠some k) w0 w1:=by
  refine⟨hg.grown.os.trans h.fr.os,hg.grown.tape.trans h.fr.tape,hg.grown.output.trans h.fr.output,Nat.le_trans h.fr.size hg.grown.size,fun k hk hx=>?_⟩
  refine(hg.grown.block k (Nat.lt_of_lt_of_le hk h.fr.size) fun e=>?_).trans (h.fr.block k hk hx)
  rcases h.mv with e1 | ⟨j,e1,hj⟩
  ·exact hx (by rw[←e1,←e])
  ·rw[←e] at e1;injection e1 with e1;omega
 refine⟨⟨f0.new (set_only _ _ _ _) h.lge,?_,⟨hf.cells h.at1.1 (ob h.at1.1 (fun c f=>by simp) (by simp)),hf.cells h.at1.2 (ob h.at1.2 (fun c f=>by simp) (by simp))⟩,h.lge,h.dge,set_row hb1 0 v',?_,hf.cells h.bx (ob h.bx (fun c f=>by simp) (by simp))⟩,hb1⟩
 ·rcases hg.moved with e | ⟨k,e,hk⟩
  ·rcases h.mv with e1 | ⟨j,e1,hj⟩
   ·exact .inl (e.trans e1)
   ·exact .inr ⟨j,e.trans e1,hj⟩
  ·exact .inr ⟨k,e,Nat.le_trans h.fr.size hk⟩
 ·have:=hg.own.kept (set_only w1 lb 0 v') (.inr hne)
  rw[cs_app,List.length_append]
  exact this
end
theorem appendSeq_v (t m:L) (base b:Nat) (v:Value) (z0:Rw) (w:World) (ht0:t.length≤9223372036854775807) (hlen:z0.length+(t.zip m).length≤1000000) (hown:w.ownsRow base 146 2 v z0.length (cs z0)) (hbx:RBox w b t m) (hbase:base≤w.heap.size) :
  Calls Tryz.prog 94 #[v,.func (.func 119) #[] #[.pointer (some ⟨b,0,none⟩)]] w fun e w'=>∃ v',e=.returned v'∧w'.ownsRow base 146 2 v' (z0++t.zip m).length (cs (z0++t.zip m))∧Fr (fun k=>v.ownBlock≠some k) w w'∧Moved w v v':=by
 obtain⟨i0,hi,hz0,hz1,hz2⟩:=info_parts info_cell
 obtain⟨A0,c0,rfl,_⟩:=own_any hown
 refine(callsIn_wide (n:=5)).1 ?_
 refine callsIn_of_wp_marks Tryz.func94 rfl trivial ?_ rfl
 simp only[Tryz.ntmps94,List.size_toArray,List.length_cons,List.length_nil,Nat.reduceAdd,Nat.reduceSub,Array.replicate_succ,Array.replicate_zero,List.push_toArray,List.append_toArray,List.nil_append,List.cons_append]
 gi_wp2
 obtain⟨o1,ho1⟩:∃ o:Obj,o=.cells #[.slice A0 z0.length c0] 139:=⟨_,rfl⟩
 rw[←ho1]
 have hl1:=Later.alloc w o1
 have hn1:=heap_alloc_new w o1
 have hz1':(w.alloc o1).heap.size=w.heap.size+1:=World.size_alloc ..
 obtain⟨Wc,hWc⟩:∃ Wc,Wc=w.alloc o1:=⟨_,rfl⟩
 rw[←hWc] at hl1 hn1 hz1'⊢
 rw[ho1] at hn1
 clear hWc ho1
 refine wpIn_rangeFunc_at2 rfl (by omega) (gf:=119) (lb:=#[.pointer (some ⟨b,0,none⟩)]) rfl trivial (enters_of Tryz.func119 (by kernel_rfl) rfl) ?_
 intro fn hfn r hrr W1 hat hb1 hz9
 have hD:r.D=w.heap.size+1:=by rw[hrr,←hz1']
 have hps:r.ps=#[7]:=by rw[hrr]
 have hl2:Later Wc W1:=hb1
 have hl:=hl1.trans hl2
 have h0:∃ v',App w base r .ready w.heap.size b t m (.slice A0 z0.length c0) W1 v' (z0++(t.zip m).take 0):=by
  refine⟨.slice A0 z0.length c0,?_⟩
  rw[List.take_zero,List.append_nil]
  exact⟨Fr.later hl,.inl rfl,hat,Nat.le_refl _,by omega,later_cells hl2 hn1,own_below hown hl,later_cells hl hbx⟩
 refine CallsIn.mono (cells_it (r.D+1) b t m ht0 (fun i W'=>∃ v',App w base r .ready w.heap.size b t m (.slice A0 z0.length c0) W' v' (z0++(t.zip m).take i)) (fun i W' ⟨_,h⟩=>h.bx) (fun i W' ⟨v',h⟩=>⟨v',h.later (Later.drew _)⟩) ?hround W1 h0) ?done
 case hround=>
  rintro i hi' Wr ⟨v',hA⟩
  obtain⟨p,hp⟩:∃ p,p=(t.zip m)[i]:=⟨_,rfl⟩
  rw[←hp]
  have HTK:=Lib.hid (show z0++(t.zip m).take (i+1)=(z0++(t.zip m).take i)++[p] by rw[List.take_succ_eq_append_getElem hi',hp,List.append_assoc])
  obtain⟨z,hz⟩:∃ z,z=z0++(t.zip m).take i:=⟨_,rfl⟩
  have HZL:=Lib.hid (show z.length≤1000000 by rw[hz,List.length_append,List.length_take];omega)
  rw[←hz] at hA HTK
  refine Rng.yield hA.at1 hfn (by rw[hps];rfl) ?_
  have e1:=congrArg Rng.assign hrr
  have e2:=congrArg Rng.body hrr
  have e3:=congrArg Rng.tmps hrr
  dsimp only at e1 e2 e3
  rw[e1,e2,e3,hps]
  obtain⟨o,ho⟩:∃ o:Obj,o=.cells #[.int .u8 (p.1.toNat:Int),.int .u8 (p.2.toNat:Int)] 146:=⟨_,rfl⟩
  have hlo:=Later.alloc Wr o
  have HIA:=Lib.hid (hA.later hlo)
  have HNW:=Lib.hid (heap_alloc_new Wr o)
  rw[ho] at HIA HNW
  have hWl:=hA.at1.lt
  have HD:=Lib.hid hD
  obtain⟨lb,hlb⟩:∃ lb,lb=w.heap.size:=⟨_,rfl⟩
  rw[←hlb] at HIA⊢
  have hlbl:lb<Wr.heap.size:=by rw[hlb];exact lt_of_block hA.box
  have HBA:=Lib.hid (show base≤Wr.heap.size by have:=hA.fr.size;omega)
  clear e1 e2 e3 hps hrr hat hb1 h0 hlo ho hz9 hz1' hl1 hl2 hl hn1 hown hbx hA hp hz hD hi' hlen hbase hlb
  simp only[cl,bv,List.zip_toArray,List.zip_cons_cons,List.zip_nil_right,List.foldl_toArray',List.foldl_cons,List.foldl_nil,List.size_toArray,List.setIfInBounds_toArray,List.set_cons_succ,List.set_cons_zero]
  gi_wp2
  refine⟨HIA.out.at1,?_⟩
  have hsa:(Wr.alloc (.cells #[.int .u8 (p.1.toNat:Int),.int .u8 (p.2.toNat:Int)] 146)).heap.size=Wr.heap.size+1:=World.size_alloc ..
  generalize Wr.alloc (.cells #[.int .u8 (p.1.toNat:Int),.int .u8 (p.2.toNat:Int)] 146)=Wa at HIA HNW hsa
  intro w1 ht2 hat2
  have hO:=HIA.out.turn ht2 hat2
  have HOO:=Lib.hid hO
  have hnw:=(ht2.grown.block _ (lt_of_block HNW.out) (fun e=>by injection e with e;omega)).trans HNW.out
  have HLD:=Lib.hid (loadBx hnw)
  have f0:w1.cell? ⟨Wr.heap.size,0,none⟩=some (.int .u8 (p.1.toNat:Int)):=(cell_row hnw 0).1
  have f1:w1.cell? ⟨Wr.heap.size,1,none⟩=some (.int .u8 (p.2.toNat:Int)):=(cell_row hnw 1).1
  have b0:w1.cell? ⟨lb,0,none⟩=some v':=(cell_row hO.box 0).1
  have hba:base≤w1.heap.size:=by have:=HBA.out;have:=ht2.size;omega
  clear ht2 hat2 hO hnw hsa
  gi_wp2_with (gi_at_builtin;refine wpListIn_appK w1 #[.int .u8 (p.1.toNat:Int),.int .u8 (p.2.toNat:Int)] 2 (by omega) rfl (by intro u hu;simp at hu;rcases hu with rfl | rfl <;> rfl) rfl (.tmp 8) (.tmp 10) 139 146 rfl i0 _ 2 Tryz.underlying139 hi hz0 hz1 hz2 rfl base v' z.length (cs z) rfl HOO.out.own _ rfl rfl (by have:=HZL.out;omega) (by have:=HZL.out;omega) hba ?_;intro v2 w3 hg3;obtain⟨A9,c9,hv9,_⟩:=own_any hg3.own;subst hv9;obtain⟨hp1,hp3⟩:=HOO.out.push (p:=p) hg3;(have k0:w3.cell? ⟨lb,0,none⟩=some v':=(cell_row hp3 0).1);(have kz:w3.frozen? ⟨lb,0,none⟩=false:=(cell_row hp3 0).2);(have HP1:=Lib.hid hp1);clear hg3 hp1 hp3)
  refine⟨HP1.out.at1,fun w' ht h2=>⟨rfl,.slice A9 (z.length+1) c9,?_⟩⟩
  rw[HTK.out]
  exact HP1.out.turn ht h2
 case done=>
  rintro e W2 ⟨⟨v0,rfl⟩,v',hA⟩
  rw[List.take_of_length_le (Nat.le_refl _)] at hA
  refine⟨⟨_,rfl⟩,.ready,none,hA.at1,by simp,fun W3 ht hX=>?_⟩
  have hO:=hA.turn ht hX
  have HOO:=Lib.hid hO
  have b0:W3.cell? ⟨w.heap.size,0,none⟩=some v':=(cell_row hO.box 0).1
  clear hO hA ht hX hrr hps hat hb1 h0 hz9 hz1' hl1 hl2 hl hn1 hown hbx hD
  dsimp only
  gi_wp2
  have hO:=HOO.out
  have hK:=hO.at1.2
  refine⟨by simp,.inl ⟨_,_,rfl,run_takeDeferred hK,?_⟩⟩
  refine⟨_,results_tmp rfl _ _ _,v',rfl,?_⟩
  have hg:=grownBy_putObj' W3 r.D (.deferred none)
  have hne:v'.ownBlock≠some r.D:=ne_own hO.own hK (fun c f=>by simp)
  exact⟨hO.own.kept hg (.inr hne),hO.fr.new hg hO.dge,hO.mv⟩
end Jo
end Go.Proofs.YtipdgmjplnibeaaGreatDoor
namespace Go.Proofs.YtipdgmjplnibeaaGreatDoor
open Go.RowKit Go.Maps Go.Shelf
attribute [local go_sem] Oper.semAt_some
namespace Jo
open Bu
structure RdR (w:World) (B:Nat) (v:Value) (l:List (L×L)):Prop where
 le:∃ A c,v=.slice A l.length c∧l.length≤c
 at_:0<l.length→∃ g c,v=.slice (some ⟨g,0,none⟩) l.length c∧g<B∧∀ (k:Nat) (h:k<l.length),w.cell? ⟨g,k*2,none⟩=some (.string (mkS l[k].1))∧w.cell? ⟨g,k*2+1,none⟩=some (.string (mkS l[k].2))
theorem row_load {w:World} {g o:Nat} {t m:L} (c0:w.cell? ⟨g,o,none⟩=some (.string (mkS t))) (c1:w.cell? ⟨g,o+1,none⟩=some (.string (mkS m))):(Instr.loadAt 37 (.pointer (some ⟨g,o,none⟩))).run Tryz.prog w=.ok (.agg #[.string (mkS t),.string (mkS m)]) w:=by
 refine run_loadAt_mid (P:=Tryz.prog) w g o 37 [.string (mkS t),.string (mkS m)] _ (fun j v hv=>?_) Tryz.underlying37 rfl (by kernel_rfl)
 have hj:j<2:=(List.getElem?_eq_some_iff.1 hv).1
 match j,hj with
 | 0,_=>cases hv;exact c0
 | 1,_=>cases hv;exact c1
def allC (l:List (L×L)):Rw:=l.flatMap fun x=>x.1.zip x.2
theorem allC_take {l:List (L×L)} {k:Nat} (h:k<l.length):allC (l.take (k+1))=allC (l.take k)++l[k].1.zip l[k].2:=by
 unfold allC
 rw[List.take_succ_eq_append_getElem h,List.flatMap_append]
 simp
theorem allC_len (l:List (L×L)) (k:Nat):(allC (l.take k)).length≤(allC l).length:=by
 have e:allC l=allC (l.take k)++allC (l.drop k):=by unfold allC;rw[←List.flatMap_append,List.take_append_drop]
 rw[e,List.length_append]
 omega
theorem join_v (v:Value) (l:List (L×L)) (w:World) (hr:RdR w w.heap.size v l) (hlen:(allC l).length≤1000000) (hl1:l.length≤1000000) (ht:∀ x∈l,x.1.length≤9223372036854775807) :
  Calls Tryz.prog 63 #[v] w fun e w'=>e=.returned (.agg #[.string (mkS (ft (allC l))),.string (mkS (fm (allC l)))])∧Later w w':=by
 have HR:=Lib.hid hr
 obtain⟨A,c,rfl,hc⟩:=hr.le
 have HN:=Lib.hid (heap_alloc_new w (.cells #[.string ⟨#[]⟩,.string ⟨#[]⟩] 37))
 have HL0:=Lib.hid (Later.alloc w (.cells #[.string ⟨#[]⟩,.string ⟨#[]⟩] 37))
 have HTL:=Lib.hid ht
 have HLEN:=Lib.hid hlen
 clear hr ht hlen
 go_enter Tryz.func63,Tryz.ntmps63
 go_wp2
 go_loopw [3,8] (fun s3 s8 wr=>∃ k:Nat,s8=.int .i64 (k:Int)∧k≤l.length∧Later w wr∧wr.ownsRow (w.heap.size+1) 146 2 s3 (allC (l.take k)).length (cs (allC (l.take k)))∧wr.heap[w.heap.size]?=some (.cells #[.string ⟨#[]⟩,.string ⟨#[]⟩] 37 (0,0))) (fun _ i _=>l.length-(intOf i).toNat)
 case atStart=>exact⟨0,rfl,Nat.zero_le _,HL0.out,World.ownsRow_nil _ _ _ 2,HN.out⟩
 case round=>
  obtain⟨k,rfl,hk,hlw,hown,hres⟩:=hrel
  have HO:=Lib.hid hown
  have HLW:=Lib.hid hlw
  have HRES:=Lib.hid hres
  have hws:=hlw.size
  have hres0:=lt_of_block hres
  obtain⟨A3,c3,hv3,_⟩:=own_any hown
  subst hv3
  clear hown hlw hres
  have hk0:(0:Int)≤(k:Int):=by omega
  by_cases hlt:k<l.length
  ·have hk1:(k:Int)<(l.length:Int):=by omega
   obtain⟨g,c',e,hg,hcc⟩:=HR.out.at_ (by omega)
   injection e with e _ e2
   subst e e2
   obtain⟨c0,c1⟩:=hcc k hlt
   obtain⟨x,hx⟩:∃ x,x=l[k]:=⟨_,rfl⟩
   rw[←hx] at c0 c1
   have HTK:=Lib.hid (show allC (l.take (k+1))=allC (l.take k)++x.1.zip x.2 by rw[hx];exact allC_take hlt)
   have HXL:=Lib.hid (HTL.out x (by rw[hx];exact List.getElem_mem hlt))
   have c0':wr.cell? ⟨g,k*2,none⟩=some (.string (mkS x.1)):=(HLW.out.cell (p:=⟨g,k*2,none⟩) hg).trans c0
   have c1':wr.cell? ⟨g,k*2+1,none⟩=some (.string (mkS x.2)):=(HLW.out.cell (p:=⟨g,k*2+1,none⟩) hg).trans c1
   have HLD:=Lib.hid (row_load c0' c1')
   obtain⟨zz,hzz⟩:∃ zz,zz=allC (l.take k):=⟨_,rfl⟩
   have hzl:zz.length+(x.1.zip x.2).length≤1000000:=by
    have h1:=allC_len l (k+1)
    have h2:=HLEN.out
    rw[HTK.out,List.length_append,←hzz] at h1
    omega
   rw[←hzz] at HO HTK⊢
   have HZL:=Lib.hid hzl
   obtain⟨o,ho⟩:∃ o:Obj,o=.cells #[.string (mkS x.1),.string (mkS x.2)] 37:=⟨_,rfl⟩
   have l1:=Later.alloc wr o
   have l2:=Later.alloc (wr.alloc o) o
   have n2:=heap_alloc_new (wr.alloc o) o
   have z1:(wr.alloc o).heap.size=wr.heap.size+1:=World.size_alloc ..
   rw[z1] at n2
   have hap:=appendSeq_v x.1 x.2 (w.heap.size+1) (wr.heap.size+1) (.slice A3 zz.length c3) zz ((wr.alloc o).alloc o) HXL.out HZL.out (own_below (own_below HO.out l1) l2) (by rw[ho] at n2⊢;exact n2) (by have:=l1.size;have:=l2.size;omega)
   have hll:=l1.trans l2
   rw[ho] at hap hll
   have HAP:=Lib.hid hap
   have HLL:=Lib.hid hll
   clear hx hcc c0 c1 c0' c1' hzz hzl ho l1 l2 n2 z1 hap hll
   go_wp2_with (first
    |(refine wpList_loadRun rfl 37 (.tmp 10) rfl _ _ rfl HLD.out ?_)
    |(go_at_call 88;(with_reducible refine(cells_v x.1 x.2 _).mono ?_);rintro e w2 ⟨rfl,rfl⟩)
    |(go_at_call 94;(with_reducible refine HAP.out.mono ?_);rintro e w3 ⟨v3,rfl,ho3,hf3,hm3⟩;(have HO3:=Lib.hid ho3);(have HF3:=Lib.hid hf3);clear ho3 hf3 hm3))
   go_roundw
   case rel=>
    refine⟨k+1,by go_num,by omega,?_,?_,?_⟩
    ·exact later_fr (HLW.out.trans HLL.out) HF3.out fun j hj e=>by have:=(own_ge HO.out e).1;omega
    ·rw[HTK.out];exact HO3.out
    ·exact HF3.out.cells (later_cells HLL.out HRES.out) fun e=>by have:=(own_ge HO.out e).1;omega
   case measure=>simp[intOf];omega
  ·have hkz:l.take k=l:=List.take_of_length_le (by omega)
   rw[hkz] at HO⊢
   have HRW:=Lib.hid (row_v _ (allC l) wr (RdC.of_own HO.out) HLEN.out)
   go_wp2_with (go_at_call 95;(with_reducible refine HRW.out.mono ?_);rintro e w3 ⟨rfl,hl3⟩;(have hn3:=later_cells hl3 HRES.out);obtain⟨r0,z0⟩:=cell_row hn3 0;obtain⟨r1,z1⟩:=cell_row hn3 1;(have r0':w3.cell? ⟨w.heap.size,0,none⟩=some (.string ⟨#[]⟩):=r0);(have r1':w3.cell? ⟨w.heap.size,1,none⟩=some (.string ⟨#[]⟩):=r1);(have HN3:=Lib.hid hn3);(have HL3:=Lib.hid (HLW.out.trans hl3));clear hl3 hn3 r0 r1)
   have h1:=set_row HN3.out 0 (.string (mkS (ft (allC l))))
   have h2:=set_row h1 1 (.string (mkS (fm (allC l))))
   refine bodyPost_ret (results_row rfl _ _ w.heap.size _ (0,0) rfl h2 rfl) rfl ?_
   exact⟨rfl,later_of_new (later_of_new HL3.out (set_only _ _ _ _) (Nat.le_refl _)) (set_only _ _ _ _) (Nat.le_refl _)⟩
theorem rep_list (c:UInt8):∀ n,Lib.repeatL [c] n=List.replicate n c:=by
 intro n
 induction n with
 | zero=>rfl
 | succ n ih=>unfold Lib.repeatL;rw[ih];rfl
theorem of_v (s:L) (c:UInt8) (w:World) (hs:s.length≤1000000):Calls Tryz.prog 136 #[.string (mkS s),.int .u8 (c.toNat:Int)] w fun e w'=>e=.returned (.agg #[.string (mkS s),.string (mkS (List.replicate s.length c))])∧Later w w':=by
 have HN:=Lib.hid (heap_alloc_new w (.cells #[.string ⟨#[]⟩,.string ⟨#[]⟩] 37))
 have HL0:=Lib.hid (Later.alloc w (.cells #[.string ⟨#[]⟩,.string ⟨#[]⟩] 37))
 have hstr:=fun (W:World) (cap:Nat)=>str1 W c.toNat (by exact c.toNat_lt) cap
 rw[show UInt8.ofNat c.toNat=c by simp] at hstr
 have HR:=Lib.hid (show ∀ W,Calls Tryz.prog 159 #[.string (mkS [c]),.int .i64 (s.length:Int)] W fun e w'=>e=.returned (.string (mkS (List.replicate s.length c)))∧Below W.heap.size W w' from fun W=>by
  have:=Tryz.strings_Repeat (mkS [c]) s.length W (by omega) (by rw[mkS_size];simp;omega)
  rw[mkS_list,rep_list] at this
  exact this)
 have hsl:((mkS s).size:Int)=(s.length:Int):=by rw[mkS_size]
 go_enter Tryz.func136,Tryz.ntmps136
 have hcv:=hstr (w.alloc (.cells #[.string ⟨#[]⟩,.string ⟨#[]⟩] 37)) 1
 rw[World.size_alloc] at hcv
 have HLA:=Lib.hid (Later.alloc (w.alloc (.cells #[.string ⟨#[]⟩,.string ⟨#[]⟩] 37)) (.cells #[.int .u8 (c.toNat:Int)] 5))
 clear hstr
 go_wp2_with (go_at_call 159;(with_reducible refine(HR.out _).mono ?_);rintro e w3 ⟨rfl,hb3⟩;(have hl3:Later _ w3:=hb3);(have hn3:=later_cells hl3 (later_cells HLA.out HN.out));obtain⟨r0,z0⟩:=cell_row hn3 0;obtain⟨r1,z1⟩:=cell_row hn3 1;(have r0':w3.cell? ⟨w.heap.size,0,none⟩=some (.string ⟨#[]⟩):=r0);(have r1':w3.cell? ⟨w.heap.size,1,none⟩=some (.string ⟨#[]⟩):=r1);(have HN3:=Lib.hid hn3);(have HL3:=Lib.hid ((HL0.out.trans HLA.out).trans hl3));clear hb3 hl3 hn3 r0 r1)
 have h1:=set_row HN3.out 0 (.string (mkS s))
 have h2:=set_row h1 1 (.string (mkS (List.replicate s.length c)))
 refine bodyPost_ret (results_row rfl _ _ w.heap.size _ (0,0) rfl h2 rfl) rfl ?_
 exact⟨rfl,later_of_new (later_of_new HL3.out (set_only _ _ _ _) (Nat.le_refl _)) (set_only _ _ _ _) (Nat.le_refl _)⟩
def bareL (z:Rw):L:=ft (z.filter fun p=>!(p.2==101) && !(p.2==98))
theorem kind_nil (p:C2):kindN [] p=0↔(!(p.2==101) && !(p.2==98))=true:=by
 unfold kindN
 by_cases h1:p.2=101
 ·simp[h1]
 ·by_cases h2:p.2=98
  ·simp[h2]
  ·simp[h1,h2,sepB]
theorem bareL_len (z:Rw):(bareL z).length≤z.length:=by
 unfold bareL ft
 rw[List.length_map]
 exact List.length_filter_le _ _
theorem bareL_take {z:Rw} {k:Nat} (h:k<z.length):bareL (z.take (k+1))=if kindN [] z[k]=0 then bareL (z.take k)++[z[k].1] else bareL (z.take k):=by
 unfold bareL
 rw[List.take_succ_eq_append_getElem h,List.filter_append]
 by_cases hk:kindN [] z[k]=0
 ·rw[if_pos hk]
  have h2:=(kind_nil _).1 hk
  simp only[List.filter_cons,List.filter_nil,h2,if_true]
  simp[ft]
 ·rw[if_neg hk]
  have h2:¬ (!(z[k].2==101) && !(z[k].2==98))=true:=fun e=>hk ((kind_nil _).2 e)
  simp only[List.filter_cons,List.filter_nil,h2]
  simp[ft]
structure Bar (w0:World) (r:Rng) (st:LoopState) (bb b:Nat) (t m:L) (W:World) (v:Value) (x:L):Prop where
 low:Later w0 W
 at1:r.At st none W
 lge:w0.heap.size≤bb
 dge:w0.heap.size≤r.D
 bd:Bd w0.heap.size W bb v x
 bx:RBox W b t m
section
variable {w0 W W':World} {r:Rng} {st st':LoopState} {bb b:Nat} {t m x:L} {v v':Value}
theorem Bar.later (h:Bar w0 r st bb b t m W v x) (hl:Later W W'):Bar w0 r st bb b t m W' v x:=
 ⟨h.low.trans hl,⟨later_cells hl h.at1.1,later_cells hl h.at1.2⟩,h.lge,h.dge,h.bd.keep (X:=fun _=>True) (Fr.later hl) trivial (fun _ _=>trivial),later_cells hl h.bx⟩
theorem Bd.box' {base b:Nat} {w:World} {v:Value} {bs:L} (h:Bd base w b v bs):∃ pa,w.heap[b]?=some (.cells #[pa,v] 118 (0,0)):=by obtain⟨pa,_,h2⟩:=h.box;exact⟨pa,h2⟩
theorem Bar.turn (h:Bar w0 r st bb b t m W v x) (ht:r.Turn W W') (h2:r.At st' none W'):Bar w0 r st' bb b t m W' v x:=by
 have hf:Fr (fun k=>k≠r.D+1) W W':=Fr.grown ht.grown fun x e hx=>by injection e with e;exact hx e.symm
 have ob:∀ {k:Nat} {c:Array Value} {ty:TypeId},W.heap[k]?=some (.cells c ty (0,0))→k≠r.D+1:=fun hk=>ne_obj hk h.at1.1 (by simp)
 obtain⟨pa,hb⟩:=Bd.box' h.bd
 refine⟨later_of_new h.low ht.grown (by have:=h.dge;omega),h2,h.lge,h.dge,h.bd.keep hf (ob hb) (fun i e=>?_),hf.cells h.bx (ob h.bx)⟩
 obtain⟨cs,hc⟩:=own_type h.bd.own e;exact ob hc
theorem Bar.wrote {c:UInt8} (h:Bar w0 r st bb b t m W v x) (hb:Bd w0.heap.size W' bb v' (x++[c])) (hf:Fr (But bb v) W W'):Bar w0 r st bb b t m W' v' (x++[c]):=by
 obtain⟨pa,hb0⟩:=Bd.box' h.bd
 have ob:∀ {k:Nat} {o:Obj},W.heap[k]?=some o→(∀ c f,o≠.cells c 5 f)→(o≠.cells #[pa,v] 118 (0,0))→But bb v k:=fun hk h1 h2=>⟨ne_obj hk hb0 h2,ne_own h.bd.own hk h1⟩
 exact⟨later_fr h.low hf fun j hj=>⟨by have:=h.lge;omega,fun e=>by have:=(own_ge h.bd.own e).1;omega⟩,⟨hf.cells h.at1.1 (ob h.at1.1 (fun c f=>by simp) (by simp)),hf.cells h.at1.2 (ob h.at1.2 (fun c f=>by simp) (by simp))⟩,h.lge,h.dge,hb,hf.cells h.bx (ob h.bx (fun c f=>by simp) (by simp))⟩
end
end Jo
end Go.Proofs.YtipdgmjplnibeaaGreatDoor
