import Derived.Test.YtipdgmjplnibeaaGreatDoorJe
set_option maxRecDepth 100000
set_option maxHeartbeats 6400000
namespace Go.Proofs.YtipdgmjplnibeaaGreatDoor
open Go.RowKit Go.Maps Go.Shelf
attribute [local go_sem] Oper.semAt_some
structure GrewK (w w':World) (base:Nat) (e:TypeId) (k:Nat) (v v':Value) (n:Nat) (xs:List Value):Prop where
 own:w'.ownsRow base e k v' n xs
 grown:w.grownBy w' v.ownBlock
 moved:Moved w v v'
theorem wpListIn_appK {F:Fence} {d:Nat} {P:Program} {ops:Array Oper} {rest:List Oper} {o:Oper} {a:Act} {Q:Exit→Act→World→Prop} (w:World) (cs:Array Value) (k:Nat) (hk:0<k) (hcs:cs.size=k) (h1:∀ u∈cs.toList,u.oneCell'=true) (hgd:o.guard=none) (s x:Operand) (t e:TypeId)
  (ho:o.op=.call { callee:=.builtin .append,args:=#[s,x],argTypes:=#[t,t] }) (i0:TypeInfo) (z:Value) (bytes:Nat) (ht:P.underlying t=some (.slice e)) (hi:P.info? e=some i0) (hz:i0.zero=some z)
  (hsize:i0.size=k) (hby:i0.bytes=bytes) (hzs:z.cells.size=k)
  (base:Nat) (v:Value) (n:Nat) (xs:List Value) (hs:a.eval s=v) (hown:w.ownsRow base e k v n xs) (N:Nat) (hN:N=w.heap.size) (hx:a.eval x=.slice (some ⟨N,0,none⟩) 1 1)
  (hn:(n+1)*bytes≤140737488355328) (hn2:n+1≤140737488355328) (hbase:base≤w.heap.size)
  (h:∀ v' w',GrewK w w' base e k v v' (n+1) (xs++cs.toList)→wpListIn F d P ops Q rest (a.put o.dst v') w'):wpListIn F d P ops Q (o::rest) a (w.alloc (.cells cs e)):=by
 subst hN
 refine wpListIn_plain hgd fun K hK=>?_
 have hown':(w.alloc (.cells cs e)).ownsRow base e k v n xs:=hown.alloc _
 obtain⟨v',w',hrun,h2,h3,_,h5⟩:=run_append_own_at (P:=P) (w.alloc (.cells cs e)) base t o.type e i0 z k bytes ht hi hz hsize hby hzs hk v n xs hown' ⟨w.heap.size,0,none⟩ 1 1 cs.toList (by simpa using hcs)
  (fun j u hj=>by
   rw[add_lit0,cell_of_row _ _ j cs e (0,0) (heap_alloc_new w _)]
   simpa using hj) h1 (by unfold maxLen;omega) hn (by simp;omega)
 have hg:w.grownBy w' v.ownBlock:=by
  have hla:=Later.alloc w (.cells cs e)
  exact⟨h3.os.trans hla.os,h3.tape.trans hla.tape,h3.output.trans hla.output,Nat.le_trans hla.size h3.size,fun k hk hne=>(h3.block k (Nat.lt_of_lt_of_le hk hla.size) hne).trans (hla.block k hk)⟩
 have hkk:=hK _ _ (h v' w' ⟨h2,hg,by
  rcases h5 with h5 | h5
  ·exact .inl h5
  ·exact .inr ⟨_,h5,by simp⟩⟩)
 unfold Oper.wpIn
 refine⟨by simp[Oper.about,ho,resolve,Target.leads,Sem.run_pure],?_⟩
 rw[Oper.semAt_plain F _ _ (by rw[ho];intro _ hc;cases hc)]
 simp[execOp,ho,resolve,invoke,builtin,hs,hx,hrun,Result.andThen]
 exact hkk
namespace Jo
open Bu
theorem info_row:(Tryz.prog.info? 37).map (fun i=>(i.zero,i.size,i.bytes))=some (some (.agg #[.string ⟨#[]⟩,.string ⟨#[]⟩]),2,32):=by kernel_rfl
structure OutB (W0:World) (r1:Rng) (st:LoopState) (lb:Nat) (W:World) (vo:Value) (out:List Rw):Prop where
 low:Later W0 W
 at1:r1.At st none W
 lge:W0.heap.size≤lb
 dge:W0.heap.size≤r1.D
 box:W.heap[lb]?=some (.cells #[vo] 30 (0,0))
 own:W.ownsRow W0.heap.size 37 2 vo out.length (rows out)
section
variable {W0 W W':World} {r1:Rng} {st st':LoopState} {lb:Nat} {vo:Value} {out:List Rw}
theorem OutB.fr {X:Nat→Prop} (h:OutB W0 r1 st lb W vo out) (hf:Fr X W W') (h0:∀ k,k<W0.heap.size→X k) (h1:X lb) (h2:r1.At st' none W') (h4:∀ i,vo.ownBlock=some i→X i):OutB W0 r1 st' lb W' vo out:=
 ⟨later_fr h.low hf h0,h2,h.lge,h.dge,hf.cells h.box h1,hf.row h.own h4⟩
theorem OutB.later (h:OutB W0 r1 st lb W vo out) (hl:Later W W'):OutB W0 r1 st lb W' vo out:=h.fr (X:=fun _=>True) (Fr.later hl) (fun _ _=>trivial) trivial ⟨later_cells hl h.at1.1,later_cells hl h.at1.2⟩ fun _ _=>trivial
theorem OutB.turn (h:OutB W0 r1 st lb W vo out) (ht:r1.Turn W W') (h2:r1.At st' none W'):OutB W0 r1 st' lb W' vo out:=by
 have hf:Fr (fun k=>k≠r1.D+1) W W':=Fr.grown ht.grown fun x e hx=>by injection e with e;exact hx e.symm
 have ob:∀ {k:Nat} {c:Array Value} {ty:TypeId},W.heap[k]?=some (.cells c ty (0,0))→k≠r1.D+1:=fun hk=>ne_obj hk h.at1.1 (by simp)
 refine h.fr hf (fun k hk e=>?_) (ob h.box) h2 (fun i e=>?_)
 ·have:=h.dge;omega
 ·obtain⟨cs,hc⟩:=own_type h.own e;exact ob hc
theorem OutB.ofSt (h:OutSt W0 r1 lb W vo out):OutB W0 r1 .ready lb W vo out:=⟨h.low,h.at1,h.lge,h.dge,h.box,h.own⟩
theorem OutB.toSt (h:OutB W0 r1 .ready lb W vo out):OutSt W0 r1 lb W vo out:=⟨h.low,h.at1,h.lge,h.dge,h.box,h.own⟩
theorem OutB.push {f:Rw} {w1:World} {v':Value} (h:OutB W0 r1 st lb W vo out) (hg:GrewK W w1 W0.heap.size 37 2 vo v' (out.length+1) (rows out++[.string (mkS (ft f)),.string (mkS (fm f))])) :
  OutB W0 r1 st lb (w1.setCell ⟨lb,0,none⟩ v') v' (out++[f])∧Fr (fun k=>k≠lb∧vo.ownBlock≠some k) W (w1.setCell ⟨lb,0,none⟩ v')∧w1.heap[lb]?=some (.cells #[vo] 30 (0,0)):=by
 have f1:Fr (fun k=>k≠lb∧vo.ownBlock≠some k) W w1:=Fr.grown hg.grown fun x e hx=>hx.2 e
 have f2:Fr (fun k=>k≠lb∧vo.ownBlock≠some k) w1 (w1.setCell ⟨lb,0,none⟩ v'):=Fr.grown (set_only _ _ _ _) fun x e hx=>by injection e with e;exact hx.1 e.symm
 have hf:=f1.trans f2
 have hb1:w1.heap[lb]?=some (.cells #[vo] 30 (0,0)):=(hg.grown.block lb (lt_of_block h.box) (fun e=>ne_type h.own h.box (by decide) e.symm)).trans h.box
 have hne:v'.ownBlock≠some lb:=ne_type hg.own hb1 (by decide)
 refine⟨⟨later_fr h.low hf fun k hk=>⟨by have:=h.lge;omega,fun e=>by have:=(own_ge h.own e).1;omega⟩,⟨hf.cells h.at1.1 ⟨ne_obj h.at1.1 h.box (by simp),ne_own h.own h.at1.1 (fun c f=>by simp)⟩,hf.cells h.at1.2 ⟨ne_obj h.at1.2 h.box (by simp),ne_own h.own h.at1.2 (fun c f=>by simp)⟩⟩,h.lge,h.dge,set_row hb1 0 v',?_⟩,hf,hb1⟩
 have:=hg.own.kept (set_only w1 lb 0 v') (.inr hne)
 rw[rows_app,List.length_append]
 exact this
end
theorem split_v (t m ifs:L) (w:World) (ht0:t.length≤9223372036854775807) (hlen:(t.zip m).length≤100000) :
  Calls Tryz.prog 23 #[.agg #[.string (mkS t),.string (mkS m)],.string (mkS ifs)] w fun e w'=>∃ v,e=.returned v∧Later w w'∧w'.ownsRow w.heap.size 37 2 v (split ifs (t.zip m)).length (rows (split ifs (t.zip m))):=by
 obtain⟨i0,hi,hz0,hz1,hz2⟩:=info_parts info_row
 have HT0:=Lib.hid ht0
 have HLEN:=Lib.hid hlen
 clear ht0 hlen
 refine(callsIn_wide (n:=6)).1 ?_
 refine callsIn_of_wp_marks Tryz.func23 rfl trivial ?_ rfl
 simp only[Tryz.ntmps23,List.size_toArray,List.length_cons,List.length_nil,Nat.reduceAdd,Nat.reduceSub,Array.replicate_succ,Array.replicate_zero,List.push_toArray,List.append_toArray,List.nil_append,List.cons_append]
 have HFI:=Lib.hid (show ∀ W,Calls Tryz.prog 56 #[.agg #[.string (mkS t),.string (mkS m)],.string (mkS ifs)] W fun e w'=>e=.returned (.func (.func 87) #[] #[.pointer (some ⟨W.heap.size,0,none⟩),.pointer (some ⟨W.heap.size+1,0,none⟩)])∧w'=(W.alloc (.cells #[.string (mkS t),.string (mkS m)] 37)).alloc (.cells #[.string (mkS ifs)] 9) from fun W=>by
  go_enter Tryz.func56,Tryz.ntmps56
  go_wp2
  go_ret
  exact⟨rfl,rfl⟩)
 gi_wp2_with (refine⟨trivial,?_⟩;gi_at_call 56;refine(callsIn_wide.2 (HFI.out _)).mono ?_;rintro e w' ⟨rfl,rfl⟩)
 obtain⟨Wc,hWc⟩:∃ Wc,Wc=((((w.alloc (.cells #[.string (mkS t),.string (mkS m)] 37)).alloc (.cells #[.slice none 0 0] 30)).alloc (.cells #[.string (mkS t),.string (mkS m)] 37)).alloc (.cells #[.string (mkS ifs)] 9)):=⟨_,rfl⟩
 rw[←hWc]
 have hfacts:Later w Wc∧Wc.heap[w.heap.size+1]?=some (.cells #[.slice none 0 0] 30 (0,0))∧RBox Wc (w.heap.size+1+1) t m∧Wc.heap[w.heap.size+1+1+1]?=some (.cells #[.string (mkS ifs)] 9 (0,0))∧Wc.heap.size=w.heap.size+4:=by
  obtain⟨o1,ho1⟩:∃ o:Obj,o=.cells #[.string (mkS t),.string (mkS m)] 37:=⟨_,rfl⟩
  obtain⟨o2,ho2⟩:∃ o:Obj,o=.cells #[.slice none 0 0] 30:=⟨_,rfl⟩
  obtain⟨o4,ho4⟩:∃ o:Obj,o=.cells #[.string (mkS ifs)] 9:=⟨_,rfl⟩
  rw[←ho1,←ho2,←ho4] at hWc
  unfold RBox
  rw[←ho1,←ho2,←ho4,hWc]
  have l1:=Later.alloc w o1
  have l2:=Later.alloc (w.alloc o1) o2
  have l3:=Later.alloc ((w.alloc o1).alloc o2) o1
  have l4:=Later.alloc (((w.alloc o1).alloc o2).alloc o1) o4
  have z1:(w.alloc o1).heap.size=w.heap.size+1:=World.size_alloc ..
  have z2:((w.alloc o1).alloc o2).heap.size=w.heap.size+1+1:=by rw[World.size_alloc,z1]
  have z3:(((w.alloc o1).alloc o2).alloc o1).heap.size=w.heap.size+1+1+1:=by rw[World.size_alloc,z2]
  have n2:=heap_alloc_new (w.alloc o1) o2
  have n3:=heap_alloc_new ((w.alloc o1).alloc o2) o1
  have n4:=heap_alloc_new (((w.alloc o1).alloc o2).alloc o1) o4
  rw[z1] at n2
  rw[z2] at n3
  rw[z3] at n4
  exact⟨((l1.trans l2).trans l3).trans l4,later_cells l4 (later_cells l3 n2),later_cells l4 n3,n4,by rw[World.size_alloc,z3]⟩
 clear hWc HFI
 obtain⟨hw1,hw2,hw3,hw4,hw5⟩:=hfacts
 refine wpIn_rangeFunc_at2 rfl (by omega) (gf:=87) (lb:=#[.pointer (some ⟨w.heap.size+1+1,0,none⟩),.pointer (some ⟨w.heap.size+1+1+1,0,none⟩)]) rfl trivial (enters_of Tryz.func87 (by kernel_rfl) rfl) ?_
 intro fn hfn r1 hrr W1 hat hb1 hz1
 have hD:r1.D=w.heap.size+4:=by rw[hrr,←hw5]
 have hps:r1.ps=#[10]:=by rw[hrr]
 have hl1:Later Wc W1:=hb1
 have hst:OutSt w r1 (w.heap.size+1) W1 (.slice none 0 0) []:=⟨hw1.trans hl1,hat,by omega,by omega,later_cells hl1 hw2,World.ownsRow_nil _ _ _ 2⟩
 refine CallsIn.mono (fields_it W1 r1 (w.heap.size+1) (w.heap.size+1+1) (w.heap.size+1+1+1) t m ifs (later_cells hl1 hw3) (later_cells hl1 hw4) hst HT0.out HLEN.out ?hround) ?done
 case hround=>
  intro out vo f W ho hol
  refine Rng.yield ho.at1 hfn (by rw[hps];rfl) ?_
  have e1:=congrArg Rng.assign hrr
  have e2:=congrArg Rng.body hrr
  have e3:=congrArg Rng.tmps hrr
  dsimp only at e1 e2 e3
  rw[e1,e2,e3,hps]
  obtain⟨o,ho1⟩:∃ o:Obj,o=.cells #[.string (mkS (ft f)),.string (mkS (fm f))] 37:=⟨_,rfl⟩
  have hl:=Later.alloc W o
  have HIA:=Lib.hid ((OutB.ofSt ho).later hl)
  have HNW:=Lib.hid (heap_alloc_new W o)
  have HLW:=Lib.hid hl
  rw[ho1] at HIA HNW HLW
  have HOL:=Lib.hid hol
  have HOB:=Lib.hid ho.at1
  have hWl:=ho.at1.lt
  have hwW:=ho.low.size
  have HD:=Lib.hid hD
  obtain⟨lb,hlb⟩:∃ lb,lb=w.heap.size+1:=⟨_,rfl⟩
  rw[←hlb] at HIA⊢
  have hlbl:lb<W.heap.size:=by rw[hlb];exact lt_of_block ho.box
  have HLB:=Lib.hid hlb
  clear e1 e2 e3 hps hrr hat hb1 hst hl ho1 hz1 hl1 hw1 hw2 hw3 hw4 hw5 ho hol hD hlb
  simp only[List.zip_toArray,List.zip_cons_cons,List.zip_nil_right,List.foldl_toArray',List.foldl_cons,List.foldl_nil,List.size_toArray,List.setIfInBounds_toArray,List.set_cons_succ,List.set_cons_zero]
  gi_wp2
  refine⟨HIA.out.at1,?_⟩
  generalize W.alloc (.cells #[.string (mkS (ft f)),.string (mkS (fm f))] 37)=Wa at HIA HNW HLW
  intro w1 ht2 hat2
  have hO:=HIA.out.turn ht2 hat2
  have HOO:=Lib.hid hO
  have hnw:=(ht2.grown.block _ (lt_of_block HNW.out) (fun e=>by injection e with e;omega)).trans HNW.out
  have f0:w1.cell? ⟨W.heap.size,0,none⟩=some (.string (mkS (ft f))):=(cell_row hnw 0).1
  have f1:w1.cell? ⟨W.heap.size,1,none⟩=some (.string (mkS (fm f))):=(cell_row hnw 1).1
  have b0:w1.cell? ⟨lb,0,none⟩=some vo:=(cell_row hO.box 0).1
  have HTU:=Lib.hid ht2
  obtain⟨A5,c5,hv5,_⟩:=own_any hO.own
  have HV5:=Lib.hid hv5
  clear ht2 hat2 hO hnw hv5
  gi_wp2_with (gi_at_builtin;refine wpListIn_appK w1 #[.string (mkS (ft f)),.string (mkS (fm f))] 2 (by omega) rfl (by intro u hu;simp at hu;rcases hu with rfl | rfl <;> rfl) rfl (.tmp 11) (.tmp 13) 30 37 rfl i0 _ 32 Tryz.underlying30 hi hz0 hz1 hz2 rfl w.heap.size vo out.length (rows out) rfl HOO.out.own _ rfl rfl (by have:=HOL.out;omega) (by have:=HOL.out;omega) HOO.out.low.size ?_;intro v' w3 hg3;obtain⟨A9,c9,hv9,_⟩:=own_any hg3.own;subst hv9;obtain⟨hp1,hp2,hp3⟩:=HOO.out.push hg3;(have k0:w3.cell? ⟨lb,0,none⟩=some vo:=(cell_row hp3 0).1);(have kz:w3.frozen? ⟨lb,0,none⟩=false:=(cell_row hp3 0).2);(have HP1:=Lib.hid hp1);(have HP2:=Lib.hid hp2);(have HM:=Lib.hid hg3.moved);clear hg3 hp1 hp2 hp3)
  refine⟨HP1.out.at1,fun w' ht h2=>⟨rfl,_,(HP1.out.turn ht h2).toSt,?_,?_⟩⟩
  ·exact(((Fr.later HLW.out).trans (Fr.grown HTU.out.grown fun x e hx=>by injection e with e;exact hx.2.1 e.symm)).trans (HP2.out.sub fun k hk=>⟨hk.1,hk.2.2⟩)).trans (Fr.grown ht.grown fun x e hx=>by injection e with e;exact hx.2.1 e.symm)
  ·rcases HM.out with e | ⟨k,e,hk⟩
   ·exact .inl e
   ·exact .inr ⟨k,e,by have:=HLW.out.size;have:=HTU.out.size;omega⟩
 case done=>
  rintro e W2 ⟨⟨v0,rfl⟩,vo,ho⟩
  refine⟨⟨_,rfl⟩,.ready,none,ho.at1,by simp,fun W3 ht hX=>?_⟩
  have hO:=(OutB.ofSt ho).turn ht hX
  have HOO:=Lib.hid hO
  have b0:W3.cell? ⟨w.heap.size+1,0,none⟩=some vo:=(cell_row hO.box 0).1
  clear hO ho ht hX hrr hps hat hb1 hst hw1 hw2 hw3 hw4 hw5 hz1 hl1 hD
  dsimp only
  gi_wp2
  have hO:=HOO.out
  have hK:=hO.at1.2
  refine⟨by simp,.inl ⟨_,_,rfl,run_takeDeferred hK,?_⟩⟩
  refine⟨_,results_tmp rfl _ _ _,vo,rfl,?_⟩
  have hg:=grownBy_putObj' W3 r1.D (.deferred none)
  have hne:vo.ownBlock≠some r1.D:=ne_own hO.own hK (fun c f=>by simp)
  exact⟨later_of_new hO.low hg hO.dge,hO.own.kept hg (.inr hne)⟩
end Jo
end Go.Proofs.YtipdgmjplnibeaaGreatDoor
