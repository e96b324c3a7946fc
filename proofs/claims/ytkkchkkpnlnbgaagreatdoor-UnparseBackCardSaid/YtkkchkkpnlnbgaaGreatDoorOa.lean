/- The parser: the table, and what a fault becomes. No premises. -/
import Derived.Test.YtkkchkkpnlnbgaaGreatDoorNz
import Derived.Test.YtkkchkkpnlnbgaaGreatDoorNk
import Derived.Defers
import Derived.Recover
set_option maxRecDepth 100000
set_option maxHeartbeats 3200000
namespace Go.Proofs.YtkkchkkpnlnbgaaGreatDoor
open Go.RowKit Go.Maps
open Lx (Tok nl)
theorem TabS.congr {W:World} {m k:Nat} {f f':List UInt8→Option Value} (h:TabS W m k f) (he:∀ c,f c=f' c):TabS W m k f':=by
 obtain⟨D,n,h1,h2,h3⟩:=h
 exact⟨D,n,h1,h2,fun c=>by rw[←he c];exact h3 c⟩
theorem TabS.more {W:World} {m k k':Nat} {f:List UInt8→Option Value} (h:TabS W m k f) (hk:k≤k'):TabS W m k' f:=by
 obtain⟨D,n,h1,h2,h3⟩:=h
 exact⟨D,n,h1,by omega,h3⟩
theorem TabS.made (W:World):TabS (W.alloc (.map #[] 0)) W.heap.size 0 fun _=>none:=
 ⟨.map [],0,World.ownsMap_made W _ _ _,by omega,fun c=>⟨rfl,fun z=>rfl⟩⟩
def putS (f:List UInt8→Option Value) (c:List UInt8) (v:Value):List UInt8→Option Value:=fun x=>if x=c then some v else f x
theorem str_ne {a b:List UInt8} (h:a≠b):(Lit.string a)≠.string b:=by
 intro e
 injection e with e
 exact h e
theorem TabS.put {W:World} {m k:Nat} {f:List UInt8→Option Value} (h:TabS W m k f) (hk:k≤29) (c:List UInt8) (hc:c.length≤5000) (v:Value):∃ W',(Instr.mapUpdate 46 (.map (some m)) (sv c) v).run Tryz.prog W=.ok () W'∧TabS W' m (k+1) (putS f c v)∧W.grownBy W' (some m):=by
 obtain⟨D,n,h1,h2,h3⟩:=h
 obtain⟨W',hr,h4,h5⟩:=h1.update str_keyed Tryz.underlying46 (by unfold maxLen;omega) (keyOf_str c hc) (val:=v) (d:=.held v) (ps:=[]) rfl
 refine⟨W',hr,⟨_,n+1,h4,by omega,fun x=>?_⟩,h5⟩
 unfold putS
 by_cases hx:x=c
 ·subst hx
  rw[if_pos rfl]
  exact⟨has_put_same h1.isMap (show WideAt.IsKeyLit (.string x) from trivial) _,fun z=>atKey_put_same h1.isMap (show WideAt.IsKeyLit (.string x) from trivial) _ _⟩
 ·rw[if_neg hx,has_put_other (str_ne hx)]
  exact⟨(h3 x).1,fun z=>by rw[atKey_put_other (str_ne hx)];exact(h3 x).2 z⟩
section
variable {ops:Array Oper} {rest:List Oper} {o:Oper} {a:Act} {Q:Exit→Act→World→Prop}
theorem wpList_tabSIns (w:World) (hgd:o.guard=none) (mo xo vo:Operand) (hop:o.op=.insert 46 mo xo vo) (m k:Nat) (f:List UInt8→Option Value) (c:List UInt8) (hc:c.length≤5000) (v:Value) (hm:a.eval mo=.map (some m)) (hx:a.eval xo=sv c) (hv:a.eval vo=v)
  (h:TabS w m k f) (hk:k≤29) (hK:∀ w',TabS w' m (k+1) (putS f c v)→w.grownBy w' (some m)→wpList Tryz.prog ops Q rest (a.put o.dst undef) w'):wpList Tryz.prog ops Q (o::rest) a w:=by
 refine wpList_plain hgd fun K' hK'=>?_
 obtain⟨w',hrun,r1,r2⟩:=h.put hk c hc v
 unfold Oper.wp
 simp[execOp,hop,hm,hx,hv,hrun,Result.andThen]
 exact hK' _ _ (hK w' r1 r2)
end
theorem comp_eq (c:List UInt8):putS (putS (putS (putS (putS (putS (putS (fun _=>none) [123] (fnS 22)) [40] (fnS 23)) Sx.kIF (fnS 24)) Sx.kWHILE (fnS 25)) Sx.kUNTIL (fnS 25)) Sx.kFOR (fnS 26)) Sx.kCASE (fnS 27) c=compT c:=by
 simp only[putS,compT]
 by_cases h1:c=[123]
 ·subst h1;rfl
 by_cases h2:c=[40]
 ·subst h2;rfl
 by_cases h3:c=Sx.kIF
 ·subst h3;rfl
 by_cases h4:c=Sx.kWHILE
 ·subst h4;rfl
 by_cases h5:c=Sx.kUNTIL
 ·subst h5;rfl
 by_cases h6:c=Sx.kFOR
 ·subst h6;rfl
 by_cases h7:c=Sx.kCASE
 ·subst h7;rfl
 simp[h1,h2,h3,h4,h5,h6,h7]
namespace Pz
theorem compounds_v (W:World):Calls Tryz.prog 13 #[] W fun e W'=>e=.returned (.map (some W.heap.size))∧TabS W' W.heap.size 30 compT∧Later W W':=by
 have hmm:=@run_makeMap Tryz.prog
 have HT0:=Lib.hid (TabS.made W)
 have HL0:=Lib.hid (Later.alloc W (.map #[] 0))
 go_enter Tryz.func13,Tryz.ntmps13
 go_wp2_with (first
  |(refine wpList_tabSIns _ rfl (.tmp 1) (.const (.string ⟨#[123]⟩)) (.func 22) rfl W.heap.size 0 _ [123] (by simp) (fnS 22) rfl rfl rfl HT0.out (by omega) ?_;intro w1 ht hg;have HT1:=Lib.hid ht;have HL1:=Lib.hid (later_of_new HL0.out hg (Nat.le_refl _));clear ht hg)
  |(refine wpList_tabSIns _ rfl (.tmp 1) (.const (.string ⟨#[40]⟩)) (.func 23) rfl W.heap.size 1 _ [40] (by simp) (fnS 23) rfl rfl rfl HT1.out (by omega) ?_;intro w2 ht hg;have HT2:=Lib.hid ht;have HL2:=Lib.hid (later_of_new HL1.out hg (Nat.le_refl _));clear ht hg)
  |(refine wpList_tabSIns _ rfl (.tmp 1) (.const (.string ⟨#[105,102]⟩)) (.func 24) rfl W.heap.size 2 _ Sx.kIF (by decide) (fnS 24) rfl rfl rfl HT2.out (by omega) ?_;intro w3 ht hg;have HT3:=Lib.hid ht;have HL3:=Lib.hid (later_of_new HL2.out hg (Nat.le_refl _));clear ht hg)
  |(refine wpList_tabSIns _ rfl (.tmp 1) (.const (.string ⟨#[119,104,105,108,101]⟩)) (.func 25) rfl W.heap.size 3 _ Sx.kWHILE (by decide) (fnS 25) rfl rfl rfl HT3.out (by omega) ?_;intro w4 ht hg;have HT4:=Lib.hid ht;have HL4:=Lib.hid (later_of_new HL3.out hg (Nat.le_refl _));clear ht hg)
  |(refine wpList_tabSIns _ rfl (.tmp 1) (.const (.string ⟨#[117,110,116,105,108]⟩)) (.func 25) rfl W.heap.size 4 _ Sx.kUNTIL (by decide) (fnS 25) rfl rfl rfl HT4.out (by omega) ?_;intro w5 ht hg;have HT5:=Lib.hid ht;have HL5:=Lib.hid (later_of_new HL4.out hg (Nat.le_refl _));clear ht hg)
  |(refine wpList_tabSIns _ rfl (.tmp 1) (.const (.string ⟨#[102,111,114]⟩)) (.func 26) rfl W.heap.size 5 _ Sx.kFOR (by decide) (fnS 26) rfl rfl rfl HT5.out (by omega) ?_;intro w6 ht hg;have HT6:=Lib.hid ht;have HL6:=Lib.hid (later_of_new HL5.out hg (Nat.le_refl _));clear ht hg)
  |(refine wpList_tabSIns _ rfl (.tmp 1) (.const (.string ⟨#[99,97,115,101]⟩)) (.func 27) rfl W.heap.size 6 _ Sx.kCASE (by decide) (fnS 27) rfl rfl rfl HT6.out (by omega) ?_;intro w7 ht hg;have HT7:=Lib.hid ht;have HL7:=Lib.hid (later_of_new HL6.out hg (Nat.le_refl _));clear ht hg))
 go_ret
 exact⟨rfl,(HT7.out.congr comp_eq).more (by omega),HL7.out⟩
theorem assert_nil' (w:World):(Instr.typeAssert .nilIface 20 43 true).run Tryz.prog w=.ok (.tuple #[.agg #[.int .i64 0,.int .i64 0],.bool false]) w:=by kernel_rfl
theorem assert_flt' (e l:Int) (w:World):(Instr.typeAssert (.iface 43 (.agg #[.int .i64 e,.int .i64 l])) 20 43 true).run Tryz.prog w=.ok (.tuple #[.agg #[.int .i64 e,.int .i64 l],.bool true]) w:=by kernel_rfl
theorem catch_idle (p0 p1 p2:Addr) (w:World):CallsD Tryz.prog 12 #[.pointer (some p0),.pointer (some p1),.pointer (some p2)] .returning w fun e u' w'=>e=.returned (.tuple #[])∧u'=.returning∧Later w w':=by
 have hta:=assert_nil'
 refine callsD_of_wpS Tryz.func12 rfl fun c₀ cs hu=>?_
 rw[Tryz.ntmps12]
 rw[catch_frame (l:=[.pointer (some p0),.pointer (some p1),.pointer (some p2),undef,undef,undef,undef,undef,undef,undef,undef,undef,undef,undef,undef,undef]) rfl]
 apply wpS_seq
 apply wpS_region
 simp[wpOpsS,go_sem,recoverD,hu,Exit.thenS,hta]
 refine wpS_of_wp ?_
 go_wp2
 cases c₀
 simp_all [bodyPostS,results,Tryz.results12]
 exact Later.alloc w _
theorem catch_flt (b0 b1 b2:Nat) (v0 v1 v2:Value) (e l:Int) (older:List PanicEntry) (w:World) (h0:w.heap[b0]?=some (.cells #[v0] 25 (0,0))) (h1:w.heap[b1]?=some (.cells #[v1] 26 (0,0))) (h2:w.heap[b2]?=some (.cells #[v2] 3 (0,0))) (h01:b0≠b1) (h02:b0≠b2) (h12:b1≠b2) :
  CallsD Tryz.prog 12 #[.pointer (some ⟨b0,0,none⟩),.pointer (some ⟨b1,0,none⟩),.pointer (some ⟨b2,0,none⟩)] (.panicking ({ v:=.iface 43 (.agg #[.int .i64 e,.int .i64 l]),recovered:=false }::older)) w fun r u' w'=>
   r=.returned (.tuple #[])∧u'=.panicking ({ v:=.iface 43 (.agg #[.int .i64 e,.int .i64 l]),recovered:=true }::older)∧w'.heap[b0]?=some (.cells #[.slice none 0 0] 25 (0,0))∧w'.heap[b1]?=some (.cells #[.int .i64 e] 26 (0,0))∧w'.heap[b2]?=some (.cells #[.int .i64 l] 3 (0,0))∧∀ B,B≤b0→B≤b1→B≤b2→Below B w w':=by
 have hta:=assert_flt' e l
 have c0:=(cell_row h0 0).1
 have c1:=(cell_row h1 0).1
 have c2:=(cell_row h2 0).1
 have z0:=(cell_row h0 0).2
 have z1:=(cell_row h1 0).2
 have z2:=(cell_row h2 0).2
 have n0:=lt_of_block h0
 have n1:=lt_of_block h1
 have n2:=lt_of_block h2
 refine callsD_of_wpS Tryz.func12 rfl fun c₀ cs hu=>?_
 rw[Tryz.ntmps12]
 rw[catch_frame (l:=[.pointer (some ⟨b0,0,none⟩),.pointer (some ⟨b1,0,none⟩),.pointer (some ⟨b2,0,none⟩),undef,undef,undef,undef,undef,undef,undef,undef,undef,undef,undef,undef,undef]) rfl]
 apply wpS_seq
 apply wpS_region
 simp[wpOpsS,go_sem,recoverD,hu,Exit.thenS,hta]
 refine wpS_of_wp ?_
 go_wp2
 go_region
 go_wp2
 obtain⟨w1,hw1⟩:∃ w1,w1=((w.setCell ⟨b0,0,none⟩ (.slice none 0 0)).setCell ⟨b1,0,none⟩ (.int .i64 e)).setCell ⟨b2,0,none⟩ (.int .i64 l):=⟨_,rfl⟩
 rw[←hw1]
 have k0:w1.heap[b0]?=some (.cells #[.slice none 0 0] 25 (0,0)):=by
  rw[hw1,Below.heap_setCell _ _ _ _ h02,Below.heap_setCell _ _ _ _ h01];exact set_row h0 0 _
 have k1:w1.heap[b1]?=some (.cells #[.int .i64 e] 26 (0,0)):=by
  rw[hw1,Below.heap_setCell _ _ _ _ h12]
  have q1:(w.setCell ⟨b0,0,none⟩ (.slice none 0 0)).heap[b1]?=some (.cells #[v1] 26 (0,0)):=(Below.heap_setCell w ⟨b0,0,none⟩ _ b1 (Ne.symm h01)).trans h1
  exact set_row q1 0 _
 have k2:w1.heap[b2]?=some (.cells #[.int .i64 l] 3 (0,0)):=by
  rw[hw1]
  have q2:((w.setCell ⟨b0,0,none⟩ (.slice none 0 0)).setCell ⟨b1,0,none⟩ (.int .i64 e)).heap[b2]?=some (.cells #[v2] 3 (0,0)):=((Below.heap_setCell _ ⟨b1,0,none⟩ _ b2 (Ne.symm h12)).trans (Below.heap_setCell w ⟨b0,0,none⟩ _ b2 (Ne.symm h02))).trans h2
  exact set_row q2 0 _
 have kb:∀ B,B≤b0→B≤b1→B≤b2→Below B w w1:=fun B q0 q1 q2=>by
  rw[hw1]
  exact(((Below.refl B w).setCell q0 _).setCell q1 _).setCell q2 _
 have hz:w1.heap.size=w.heap.size:=by rw[hw1];simp
 have hl:=(Later.alloc w1 (.cells #[.int .i64 e,.int .i64 l] 43)).trans (Later.drew _)
 obtain⟨w2,hw2⟩:∃ w2,w2=(w1.alloc (.cells #[.int .i64 e,.int .i64 l] 43)).drew:=⟨_,rfl⟩
 rw[←hw2] at hl⊢
 have m0:=(hl.block b0 (by omega)).trans k0
 have m1:=(hl.block b1 (by omega)).trans k1
 have m2:=(hl.block b2 (by omega)).trans k2
 have mb:∀ B,B≤b0→B≤b1→B≤b2→Below B w w2:=fun B q0 q1 q2=>(kb B q0 q1 q2).trans (hl.mono (by omega))
 clear hw1 hw2 hl k0 k1 k2 kb hz c0 c1 c2 z0 z1 z2 n0 n1 n2 h0 h1 h2
 exact⟨rfl,_,rfl,_,results_none rfl _ _ _,rfl,rfl,m0,m1,m2,mb⟩
def ParseR (S:List UInt8) (W:World) (x:Except Sx.Er (List Sx.Node)) (e:Ending) (W':World):Prop:=
 match x with
 | .ok ns=>∃ A c nd,e=.returned (.tuple #[.agg #[.slice A nd.length c],.int .i64 0,.int .i64 0])∧nd.map (fun x=>x.1)=ns∧W'.ownsRow 0 37 8 (.slice A nd.length c) nd.length (cellsN (nl S) nd)∧(∀ x∈nd,Nest W' x.1 x.2)∧Later W W'
 | .error (n,k)=>e=.returned (.tuple #[.agg #[.slice none 0 0],.int .i64 (n:Int),.int .i64 ((1+nl S-k:Nat):Int)])∧Later W W'
theorem anyF_bound {ts:List Tok} (hg:Sx.good ts=true) (hl:ts.length≤5000):Fit ⟨ts,0,[]⟩:=⟨hg,by simp;omega,by simp⟩
abbrev three' (W:World):World:=((W.alloc (.cells #[.slice none 0 0] 25)).alloc (.cells #[.int .i64 0] 26)).alloc (.cells #[.int .i64 0] 3)
theorem three_blocks' (W:World):(three' W).heap.size=W.heap.size+3∧(three' W).heap[W.heap.size]?=some (.cells #[.slice none 0 0] 25 (0,0))∧(three' W).heap[W.heap.size+1]?=some (.cells #[.int .i64 0] 26 (0,0))∧(three' W).heap[W.heap.size+1+1]?=some (.cells #[.int .i64 0] 3 (0,0))∧Below W.heap.size W (three' W):=by
 have l1:=Later.alloc W (.cells #[.slice none 0 0] 25)
 have l2:=Later.alloc (W.alloc (.cells #[.slice none 0 0] 25)) (.cells #[.int .i64 0] 26)
 have l3:=Later.alloc ((W.alloc (.cells #[.slice none 0 0] 25)).alloc (.cells #[.int .i64 0] 26)) (.cells #[.int .i64 0] 3)
 have h1:=heap_alloc_new W (.cells #[.slice none 0 0] 25)
 have h2:=heap_alloc_new (W.alloc (.cells #[.slice none 0 0] 25)) (.cells #[.int .i64 0] 26)
 have h3:=heap_alloc_new ((W.alloc (.cells #[.slice none 0 0] 25)).alloc (.cells #[.int .i64 0] 26)) (.cells #[.int .i64 0] 3)
 rw[World.size_alloc] at h2
 rw[World.size_alloc,World.size_alloc] at h3
 refine⟨by simp,?_,?_,h3,l1.trans (l2.trans l3)⟩
 ·exact((l2.trans l3).block _ (by simp)).trans h1
 ·exact(l3.block _ (by simp)).trans h2
theorem laid {w1 w3:World} {S:Lx.L} {A:Option Addr} {c B m:Nat} {ts:List Tok} (ho:w3.ownsRow B 63 4 (.slice A ts.length c) ts.length (cellsT (nl S) ts)) (hT:TabS w3 m 30 compT) (hg:Sx.good ts=true) (hl:ts.length≤5000) (hs:∀ t∈ts,t.text.length≤5000) (h1:w1=w3.alloc (.cells #[.slice A ts.length c,.int .i64 0,.int .i64 0,.slice none 0 0,.map (some m)] 49)) :
  PMem w1 (fun b=>b<w3.heap.size) w3.heap.size ⟨.slice A ts.length c,m,nl S,ts⟩ ⟨ts,0,[]⟩∧XL (fun b=>b<w3.heap.size) w1:=by
 have hla:Later w3 w1:=by rw[h1];exact Later.alloc _ _
 refine⟨⟨0,.slice none 0 0,[],by rw[h1];exact heap_alloc_new w3 _,by simp,by simp,by simp,own_mono (own_below ho hla) (Nat.zero_le _),fun b e=>((ho.lt b e).2),hT.kept (grown_of_later hla none) nofun,hT.lt,rfl,World.ownsRow_nil _ _ _ _,by simp[Value.ownBlock],hl,hs,by simp⟩,fun b hb=>Nat.lt_of_lt_of_le hb hla.size⟩
theorem set2' {w:World} {b1 b2:Nat} {v1 v2:Value} {t1 t2:TypeId} (u1 u2:Value) (h1:w.heap[b1]?=some (.cells #[v1] t1 (0,0))) (h2:w.heap[b2]?=some (.cells #[v2] t2 (0,0))) (h12:b1≠b2) :
  ((w.setCell ⟨b1,0,none⟩ u1).setCell ⟨b2,0,none⟩ u2).heap[b1]?=some (.cells #[u1] t1 (0,0))∧((w.setCell ⟨b1,0,none⟩ u1).setCell ⟨b2,0,none⟩ u2).heap[b2]?=some (.cells #[u2] t2 (0,0))∧(∀ k,k≠b1→k≠b2→((w.setCell ⟨b1,0,none⟩ u1).setCell ⟨b2,0,none⟩ u2).heap[k]?=w.heap[k]?)∧∀ B,B≤b1→B≤b2→Below B w ((w.setCell ⟨b1,0,none⟩ u1).setCell ⟨b2,0,none⟩ u2):=by
 refine⟨?_,?_,fun k k1 k2=>?_,fun B q1 q2=>((Below.refl B w).setCell q1 _).setCell q2 _⟩
 ·rw[Below.heap_setCell _ _ _ _ h12];exact set_row h1 0 _
 ·have q2:(w.setCell ⟨b1,0,none⟩ u1).heap[b2]?=some (.cells #[v2] t2 (0,0)):=(Below.heap_setCell _ ⟨b1,0,none⟩ _ b2 (Ne.symm h12)).trans h2
  exact set_row q2 0 _
 ·rw[Below.heap_setCell _ _ _ _ k2,Below.heap_setCell _ _ _ _ k1]
def PErr (W:World) (n k:Int) (e:Ending) (W':World):Prop:=e=.returned (.tuple #[.agg #[.slice none 0 0],.int .i64 n,.int .i64 k])∧Later W W'
theorem parse_e (S:Lx.L) (W:World) (n k:Int) (hn0:(n != 0)=true) (hal:Calls Tryz.prog 11 #[.string (mkS S)] (three' W) fun e W'=>e=.returned (.tuple #[.slice none 0 0,.int .i64 n,.int .i64 k])∧Later (three' W) W'):Calls Tryz.prog 6 #[.string (mkS S)] W (PErr W n k):=by
 have H3:=Lib.hid (three_blocks' W)
 have HAL:=Lib.hid hal
 clear hal
 go_enter_defers Tryz.func6,Tryz.ntmps6
 go_wp2_with (first
  |(go_at_call 11;(with_reducible refine HAL.out.mono ?_);rintro e w1 ⟨rfl,hl1⟩;have q0:=later_cells hl1 H3.out.2.1;have q1:=later_cells hl1 H3.out.2.2.1;have q2:=later_cells hl1 H3.out.2.2.2.1;have d0:w1.cell? ⟨W.heap.size,0,none⟩=some (.slice none 0 0):=(cell_row q0 0).1;have d1:w1.cell? ⟨W.heap.size+1,0,none⟩=some (.int .i64 0):=(cell_row q1 0).1;have d2:w1.cell? ⟨W.heap.size+1+1,0,none⟩=some (.int .i64 0):=(cell_row q2 0).1;have z0:=(cell_row q0 0).2;have z1:=(cell_row q1 0).2;have z2:=(cell_row q2 0).2;have Q:=Lib.hid (And.intro q0 (And.intro q1 q2));have HL1:=Lib.hid hl1;clear q0 q1 q2 hl1))
 obtain⟨m1,m2,m3,mb⟩:=set2' (.int .i64 n) (.int .i64 k) Q.out.2.1 Q.out.2.2 (by omega)
 obtain⟨w2,hw2⟩:∃ w2,w2=(w1.setCell ⟨W.heap.size+1,0,none⟩ (.int .i64 n)).setCell ⟨W.heap.size+1+1,0,none⟩ (.int .i64 k):=⟨_,rfl⟩
 rw[←hw2] at m1 m2 m3 mb⊢
 clear d0 d1 d2 z0 z1 z2 hw2
 have m0:=(m3 W.heap.size (by omega) (by omega)).trans Q.out.1
 have d0:w2.cell? ⟨W.heap.size,0,none⟩=some (.slice none 0 0):=(cell_row m0 0).1
 have d1:w2.cell? ⟨W.heap.size+1,0,none⟩=some (.int .i64 n):=(cell_row m1 0).1
 have d2:w2.cell? ⟨W.heap.size+1+1,0,none⟩=some (.int .i64 k):=(cell_row m2 0).1
 have z0:=(cell_row m0 0).2
 have z1:=(cell_row m1 0).2
 have z2:=(cell_row m2 0).2
 have n0:=lt_of_block m0
 have n1:=lt_of_block m1
 have n2:=lt_of_block m2
 have HB2:=Lib.hid (show Later W w2 from(H3.out.2.2.2.2.trans (HL1.out.mono (by have:=H3.out.1;omega))).trans (mb W.heap.size (by omega) (by omega)))
 have M:=Lib.hid (And.intro m0 (And.intro m1 m2))
 clear m0 m1 m2 m3 mb
 go_region
 go_wp2
 obtain⟨m0,m1,m2,mb⟩:=set3 (.slice none 0 0) (.int .i64 n) (.int .i64 k) M.out.1 M.out.2.1 M.out.2.2 (by omega) (by omega) (by omega)
 obtain⟨w3,hw3⟩:∃ w3,w3=(((w2.setCell ⟨W.heap.size,0,none⟩ (.slice none 0 0)).setCell ⟨W.heap.size+1,0,none⟩ (.int .i64 n)).setCell ⟨W.heap.size+1+1,0,none⟩ (.int .i64 k)).drew:=⟨_,rfl⟩
 have k0:w3.cell? ⟨W.heap.size,0,none⟩=some (.slice none 0 0):=by rw[hw3];exact(cell_row m0 0).1
 have k1:w3.cell? ⟨W.heap.size+1,0,none⟩=some (.int .i64 n):=by rw[hw3];exact(cell_row m1 0).1
 have k2:w3.cell? ⟨W.heap.size+1+1,0,none⟩=some (.int .i64 k):=by rw[hw3];exact(cell_row m2 0).1
 have hl3:Later W w3:=by rw[hw3];exact(Below.trans HB2.out (mb W.heap.size (by omega) (by omega) (by omega))).drew
 rw[←hw3]
 clear hw3 mb m0 m1 m2
 show ∃ v,(results Tryz.f6 _).run Tryz.prog w3=.ok v w3∧PErr W n k (.returned v) w3
 refine⟨_,?_,rfl,hl3⟩
 simp[results,Tryz.results6,go_sem,k0,k1,k2]
theorem parse_v (S:Lx.L) (hS:S.length≤4096) (W:World) (hg:Sgn W):Calls Tryz.prog 6 #[.string (mkS S)] W (ParseR S W (Sx.tree S)):=by
 have hmf:∀ (fn:Fn) (first cap:Array Value) (w:World),(Instr.makeFunc fn first cap).run Tryz.prog w=.ok (.func fn first cap) w:=fun _ _ _ _=>rfl
 have h3:=three_blocks' W
 have HG3:=Lib.hid (show Sgn (three' W) from hg.keep h3.2.2.2.2 hg.pos)
 have HAL:=Lib.hid (all_v S hS (three' W) HG3.out)
 have H3:=Lib.hid h3
 clear hg h3
 unfold Sx.tree
 cases hx:Lx.all S with
 | error p=>
  obtain⟨n,k⟩:=p
  rw[hx] at HAL
  have hn0:((n:Int) != 0)=true:=by rcases((Lx.all_lines S).1 n k hx).1 with e | e <;> (rw[e];rfl)
  exact parse_e S W _ _ hn0 HAL.out
 | ok ts=>
  rw[hx] at HAL
  have hgd:=Lx.all_good hx
  have hsm:=Lx.all_small hx
  have HGD:=Lib.hid hgd
  have HTL:=Lib.hid (show ts.length≤5000 by omega)
  have HTS:=Lib.hid (show ∀ t∈ts,t.text.length≤5000 from fun t ht=>by have:=hsm.2 t ht;omega)
  have HFI:=Lib.hid (anyF_bound hgd (by omega))
  clear hgd hsm hx
  show Calls Tryz.prog 6 #[.string (mkS S)] W (ParseR S W (Sx.parse ts))
  obtain⟨R,hR⟩:∃ R,R=Sx.parse ts:=⟨_,rfl⟩
  rw[←hR]
  have HR:=Lib.hid hR
  clear hR
  go_enter_defers Tryz.func6,Tryz.ntmps6
  go_wp2_with (first
   |(go_at_call 11;(with_reducible refine HAL.out.mono ?_);rintro e w1 ⟨⟨vt,rfl,ho⟩,hl1⟩;obtain⟨A,c,rfl,_⟩:=own_slice4 ho;have HO:=Lib.hid ho;have q0:=later_cells hl1 H3.out.2.1;have q1:=later_cells hl1 H3.out.2.2.1;have q2:=later_cells hl1 H3.out.2.2.2.1;have d0:w1.cell? ⟨W.heap.size,0,none⟩=some (.slice none 0 0):=(cell_row q0 0).1;have d1:w1.cell? ⟨W.heap.size+1,0,none⟩=some (.int .i64 0):=(cell_row q1 0).1;have d2:w1.cell? ⟨W.heap.size+1+1,0,none⟩=some (.int .i64 0):=(cell_row q2 0).1;have z0:=(cell_row q0 0).2;have z1:=(cell_row q1 0).2;have z2:=(cell_row q2 0).2;have Q:=Lib.hid (And.intro q0 (And.intro q1 q2));have HL1:=Lib.hid hl1;clear ho q0 q1 q2 hl1))
  obtain⟨m1,m2,m3,mb⟩:=set2' (.int .i64 0) (.int .i64 0) Q.out.2.1 Q.out.2.2 (by omega)
  have ho2:World.ownsRow ((w1.setCell ⟨W.heap.size+1,0,none⟩ (.int .i64 0)).setCell ⟨W.heap.size+1+1,0,none⟩ (.int .i64 0)) W.heap.size 63 4 (.slice A ts.length c) ts.length (cellsT (nl S) ts):=by
   have hne:∀ i,(Value.slice A ts.length c).ownBlock=some i→W.heap.size+3≤i:=fun i e=>by have:=(HO.out.lt i e).1;rwa[H3.out.1] at this
   have h1:=ownsRow_setCell_other HO.out (a:=⟨W.heap.size+1,0,none⟩) (fun e=>by have:=hne _ e;simp only at this;omega) (.int .i64 0)
   have h2:=ownsRow_setCell_other h1 (a:=⟨W.heap.size+1+1,0,none⟩) (fun e=>by have:=hne _ e;simp only at this;omega) (.int .i64 0)
   exact own_mono h2 (by have:=H3.out.1;omega)
  obtain⟨w2,hw2⟩:∃ w2,w2=(w1.setCell ⟨W.heap.size+1,0,none⟩ (.int .i64 0)).setCell ⟨W.heap.size+1+1,0,none⟩ (.int .i64 0):=⟨_,rfl⟩
  rw[←hw2] at m1 m2 m3 mb ho2⊢
  have m0:=(m3 W.heap.size (by omega) (by omega)).trans Q.out.1
  have HB2:=Lib.hid (show Later W w2 from(H3.out.2.2.2.2.trans (HL1.out.mono (by have:=H3.out.1;omega))).trans (mb W.heap.size (by omega) (by omega)))
  have M2:=Lib.hid (And.intro m0 (And.intro m1 m2))
  have HO2:=Lib.hid ho2
  clear d0 d1 d2 z0 z1 z2 hw2 m0 m1 m2 m3 mb ho2 Q HO HL1
  refine(compounds_v w2).mono ?_
  rintro e w3 ⟨rfl,hT,hl3⟩
  have HT:=Lib.hid hT
  have HL3:=Lib.hid hl3
  clear hT hl3
  obtain⟨w4,hw4⟩:∃ w4,w4=w3.alloc (.cells #[.slice A ts.length c,.int .i64 0,.int .i64 0,.slice none 0 0,.map (some w2.heap.size)] 49):=⟨_,rfl⟩
  obtain⟨hpm,hxl⟩:=laid (own_below HO2.out HL3.out) HT.out HGD.out HTL.out HTS.out hw4
  have HPM:=Lib.hid hpm
  have HXL:=Lib.hid hxl
  have HL4:=Lib.hid (show Later w2 w4 from HL3.out.trans (by rw[hw4];exact Later.alloc _ _))
  have HSC:=Lib.hid (script_v (n:=ts.length+1) hpm hxl HFI.out (by simp))
  have HZ3:=Lib.hid (show w2.heap.size<w3.heap.size from HT.out.lt)
  have HW4:=Lib.hid hw4
  clear hpm hxl hw4
  cases hsx:Sx.script (ts.length+1) ⟨ts,0,[]⟩ with
  | error er=>
   obtain⟨nn,kk⟩:=er
   rw[hsx] at HSC
   have HE:=Lib.hid (show R=.error (nn,kk) by rw[HR.out];unfold Sx.parse;rw[hsx])
   clear hsx
   go_wp2_with (first
    |(go_at_call 14;rw[←HW4.out];(with_reducible refine HSC.out.mono ?_);rintro e w5 ⟨rfl,hf⟩;have HF5:=Lib.hid hf;clear hf))
   have hk:∀ b,b<w2.heap.size→w5.heap[b]?=w2.heap[b]?:=fun b hb=>(HF5.out.block b (Nat.lt_of_lt_of_le hb HL4.out.size) (by have:=HZ3.out;show b<w3.heap.size;omega)).trans (HL4.out.block b hb)
   have q0:=(hk _ (lt_of_block M2.out.1)).trans M2.out.1
   have q1:=(hk _ (lt_of_block M2.out.2.1)).trans M2.out.2.1
   have q2:=(hk _ (lt_of_block M2.out.2.2)).trans M2.out.2.2
   have hl5:Later W w5:=HB2.out.trans ⟨HF5.out.os.trans HL4.out.os,HF5.out.tape.trans HL4.out.tape,HF5.out.output.trans HL4.out.output,Nat.le_trans HL4.out.size HF5.out.size,hk⟩
   refine leaves_cons (f:=12) (args:=#[.pointer (some ⟨W.heap.size,0,none⟩),.pointer (some ⟨W.heap.size+1,0,none⟩),.pointer (some ⟨W.heap.size+1+1,0,none⟩)]) (by simp) (by simp[go_sem]) ?_
   refine(catch_flt _ _ _ _ _ _ (nn:Int) ((1+nl S-kk:Nat):Int) [] w5 q0 q1 q2 (by omega) (by omega) (by omega)).mono ?_
   rintro r u' w6 ⟨rfl,rfl,m0,m1,m2,mb⟩
   have d0:w6.cell? ⟨W.heap.size,0,none⟩=some (.slice none 0 0):=(cell_row m0 0).1
   have d1:w6.cell? ⟨W.heap.size+1,0,none⟩=some (.int .i64 (nn:Int)):=(cell_row m1 0).1
   have d2:w6.cell? ⟨W.heap.size+1+1,0,none⟩=some (.int .i64 ((1+nl S-kk:Nat):Int)):=(cell_row m2 0).1
   have hl:Later W w6:=Below.trans hl5 (mb W.heap.size (by omega) (by omega) (by omega))
   show ∃ v,(results Tryz.f6 _).run Tryz.prog w6=.ok v w6∧ParseR S W R (.returned v) w6
   rw[HE.out]
   refine⟨_,?_,rfl,hl⟩
   simp[results,Tryz.results6,go_sem,d0,d1,d2]
  | ok x=>
   obtain⟨_,σ5⟩:=x
   rw[hsx] at HSC
   have HE:=Lib.hid (show R=.ok σ5.ns by rw[HR.out];unfold Sx.parse;rw[hsx])
   clear hsx
   go_wp2_with (first
    |(go_at_call 14;rw[←HW4.out];(with_reducible refine HSC.out.mono ?_);rintro e w5 ⟨rfl,⟨p5,vn5,nd5,hm5⟩,hf⟩;have HF5:=Lib.hid hf;have HM5:=Lib.hid hm5;clear hf;have c3:=hm5.facts.1.2.2.2.1;obtain⟨A5,c5,hv5,_⟩:=own_any hm5.row;subst hv5;clear hm5;have hk:∀ b,b<w2.heap.size→w5.heap[b]?=w2.heap[b]?:=(fun b hb=>(HF5.out.block b (Nat.lt_of_lt_of_le hb HL4.out.size) (by have:=HZ3.out;show b<w3.heap.size;omega)).trans (HL4.out.block b hb));have q0:=(hk _ (lt_of_block M2.out.1)).trans M2.out.1;have q1:=(hk _ (lt_of_block M2.out.2.1)).trans M2.out.2.1;have q2:=(hk _ (lt_of_block M2.out.2.2)).trans M2.out.2.2;have HL5:=Lib.hid (show Later W w5 from HB2.out.trans ⟨HF5.out.os.trans HL4.out.os,HF5.out.tape.trans HL4.out.tape,HF5.out.output.trans HL4.out.output,Nat.le_trans HL4.out.size HF5.out.size,hk⟩);have d0:w5.cell? ⟨W.heap.size,0,none⟩=some (.slice none 0 0):=(cell_row q0 0).1;have d1:w5.cell? ⟨W.heap.size+1,0,none⟩=some (.int .i64 0):=(cell_row q1 0).1;have d2:w5.cell? ⟨W.heap.size+1+1,0,none⟩=some (.int .i64 0):=(cell_row q2 0).1;have z0:=(cell_row q0 0).2;have z1:=(cell_row q1 0).2;have z2:=(cell_row q2 0).2;have Q:=Lib.hid (And.intro q0 (And.intro q1 q2));clear hk q0 q1 q2))
   obtain⟨m0,m1,m2,mb⟩:=set3 (.slice A5 nd5.length c5) (.int .i64 0) (.int .i64 0) Q.out.1 Q.out.2.1 Q.out.2.2 (by omega) (by omega) (by omega)
   have hlt:∀ b,¬ (b<w3.heap.size)→b≠W.heap.size∧b≠W.heap.size+1∧b≠W.heap.size+1+1:=fun b hb=>by
    have h0:=lt_of_block M2.out.1
    have h1:=lt_of_block M2.out.2.1
    have h2:=lt_of_block M2.out.2.2
    have:=HZ3.out
    refine⟨?_,?_,?_⟩ <;> omega
   have hf6:Fr (fun b=>¬ (b<w3.heap.size)) w5 (((w5.setCell ⟨W.heap.size,0,none⟩ (.slice A5 nd5.length c5)).setCell ⟨W.heap.size+1,0,none⟩ (.int .i64 0)).setCell ⟨W.heap.size+1+1,0,none⟩ (.int .i64 0)):=by
    have h:=mb 0 (Nat.zero_le _) (Nat.zero_le _) (Nat.zero_le _)
    refine⟨h.os,h.tape,h.output,h.size,fun b _ hb=>?_⟩
    obtain⟨e0,e1,e2⟩:=hlt b hb
    rw[Below.heap_setCell _ _ _ _ e2,Below.heap_setCell _ _ _ _ e1,Below.heap_setCell _ _ _ _ e0]
   have hl6:Later W (((w5.setCell ⟨W.heap.size,0,none⟩ (.slice A5 nd5.length c5)).setCell ⟨W.heap.size+1,0,none⟩ (.int .i64 0)).setCell ⟨W.heap.size+1+1,0,none⟩ (.int .i64 0)):=Below.trans HL5.out (mb W.heap.size (by omega) (by omega) (by omega))
   obtain⟨w6,hw6⟩:∃ w6,w6=((w5.setCell ⟨W.heap.size,0,none⟩ (.slice A5 nd5.length c5)).setCell ⟨W.heap.size+1,0,none⟩ (.int .i64 0)).setCell ⟨W.heap.size+1+1,0,none⟩ (.int .i64 0):=⟨_,rfl⟩
   rw[←hw6] at m0 m1 m2 hf6 hl6⊢
   have HROW:=Lib.hid (hf6.row HM5.out.row fun i hi=>HM5.out.rX i hi)
   have HNE:=Lib.hid (show ∀ x∈nd5,Nest w6 x.1 x.2 from fun x hx=>(HM5.out.nest x hx).1.fr hf6 (HM5.out.nest x hx).2)
   have HL6:=Lib.hid hl6
   clear hw6 mb hf6 hl6
   refine leaves_cons (f:=12) (args:=#[.pointer (some ⟨W.heap.size,0,none⟩),.pointer (some ⟨W.heap.size+1,0,none⟩),.pointer (some ⟨W.heap.size+1+1,0,none⟩)]) (by simp) (by simp[go_sem]) ?_
   refine(catch_idle _ _ _ w6).mono ?_
   rintro r u' w7 ⟨rfl,rfl,hl7⟩
   have d0:w7.cell? ⟨W.heap.size,0,none⟩=some (.slice A5 nd5.length c5):=cell_keeps hl7 (cell_row m0 0).1
   have d1:w7.cell? ⟨W.heap.size+1,0,none⟩=some (.int .i64 0):=cell_keeps hl7 (cell_row m1 0).1
   have d2:w7.cell? ⟨W.heap.size+1+1,0,none⟩=some (.int .i64 0):=cell_keeps hl7 (cell_row m2 0).1
   show ∃ v,(results Tryz.f6 _).run Tryz.prog w7=.ok v w7∧ParseR S W R (.returned v) w7
   rw[HE.out]
   refine⟨_,?_,A5,c5,nd5,rfl,HM5.out.ns,own_below HROW.out hl7,fun x hx=>(HNE.out x hx).later hl7,HL6.out.trans hl7⟩
   simp[results,Tryz.results6,go_sem,d0,d1,d2]
end Pz
end Go.Proofs.YtkkchkkpnlnbgaaGreatDoor
namespace Go.Proofs.YtkkchkkpnlnbgaaGreatDoor
open Go.RowKit Go.Maps
namespace Pz
open Lx (nl Tok)
theorem Sgn.later' {w w':World} (h:Sgn w) (hl:Later w w'):Sgn w':=h.keep hl h.pos
def TreeM (W:World) (N:Nat) (vn:Value) (ns:List Sx.Node):Prop:=∃ nd,nd.map (fun x=>x.1)=ns∧W.ownsRow 0 37 8 vn nd.length (cellsN N nd)∧∀ x∈nd,Nest W x.1 x.2
theorem TreeM.later {W W':World} {N:Nat} {vn:Value} {ns:List Sx.Node} (h:TreeM W N vn ns) (hl:Later W W'):TreeM W' N vn ns:=by
 obtain⟨nd,h1,h2,h3⟩:=h
 exact⟨nd,h1,own_below h2 hl,fun x hx=>(h3 x hx).later hl⟩
theorem cellsN_at (N:Nat):∀ (nd:List (Sx.Node×Vals)) (j:Nat) (hj:j<nd.length) (i:Nat) (_:i<8),(cellsN N nd)[j*8+i]?=(ncs nd[j].1 nd[j].2 (lnv N nd[j].1.left))[i]?
 | [],j,hj,_,_=>by simp at hj
 | z::ts,0,_,i,hi=>by
  have e:cellsN N (z::ts)=ncs z.1 z.2 (lnv N z.1.left)++cellsN N ts:=by simp[cellsN]
  rw[e,List.getElem?_append_left (by simp[ncs];omega)]
  simp
 | z::ts,j+1,hj,i,hi=>by
  have e:cellsN N (z::ts)=ncs z.1 z.2 (lnv N z.1.left)++cellsN N ts:=by simp[cellsN]
  have hl:(ncs z.1 z.2 (lnv N z.1.left)).length=8:=rfl
  rw[e,List.getElem?_append_right (by omega),hl,show (j+1)*8+i-8=j*8+i by omega,cellsN_at N ts j (by simpa using hj) i hi]
  rfl
theorem row_cell {w:World} {B n c:Nat} {e:TypeId} {A:Option Addr} {xs:List Value} (h:w.ownsRow B e 1 (.slice A n c) n xs) {i:Nat} {u:Value} (hx:xs[i]?=some u):∃ g,A=some ⟨g,0,none⟩∧w.cell? ⟨g,i,none⟩=some u:=by
 rcases h.2 with⟨hv,hn⟩ | ⟨g,cap,cur,hv,hb,hh,hnc,hcm,hcs,htake⟩
 ·exfalso
  have hl:=h.1
  have:i<xs.length:=(List.getElem?_eq_some_iff.1 hx).1
  rw[hl] at this
  omega
 ·injection hv with e1 _ _
  subst e1
  have hc:=h.cells (g:=g) rfl i u hx
  rw[add_lit0] at hc
  exact⟨g,rfl,hc⟩
structure NodeAt (w:World) (N g o:Nat) (n:Sx.Node) (v:Vals):Prop where
 c0:w.cell? ⟨g,o,none⟩=some (iv n.kind)
 c1:w.cell? ⟨g,o+1,none⟩=some (sv n.text)
 c2:w.cell? ⟨g,o+2,none⟩=some (.bool n.flag)
 c3:w.cell? ⟨g,o+3,none⟩=some v.w
 c4:w.cell? ⟨g,o+4,none⟩=some (iv n.sets)
 c5:w.cell? ⟨g,o+5,none⟩=some v.r
 c6:w.cell? ⟨g,o+6,none⟩=some v.k
 c7:w.cell? ⟨g,o+7,none⟩=some (lnv N n.left)
theorem TreeM.at_ {W:World} {N n c:Nat} {A:Option Addr} {ns:List Sx.Node} (h:TreeM W N (.slice A n c) ns):ns=[]∨∃ g,A=some ⟨g,0,none⟩∧∀ (i:Nat) (hi:i<ns.length),∃ v,NodeAt W N g (i*8) ns[i] v∧Nest W ns[i] v:=by
 obtain⟨nd,rfl,h2,h3⟩:=h
 rcases h2.2 with⟨hv,hn⟩ | ⟨g,cap,cur,hv,hb,hh,hnc,hcm,hcs,htake⟩
 ·exact .inl (by rw[List.map_eq_nil_iff];exact List.eq_nil_of_length_eq_zero hn)
 ·injection hv with e1 e2 e3
  subst e1
  refine .inr ⟨g,rfl,fun i hi=>?_⟩
  have hi':i<nd.length:=by simpa using hi
  have hat:∀ k,k<8→∀ u,(ncs nd[i].1 nd[i].2 (lnv N nd[i].1.left))[k]?=some u→W.cell? ⟨g,i*8+k,none⟩=some u:=fun k hk u hu=>by
   have hc:=h2.cells (g:=g) rfl (i*8+k) u (by rw[cellsN_at N nd i hi' k hk];exact hu)
   rwa[add_lit0] at hc
  rw[List.getElem_map]
  exact⟨nd[i].2,⟨hat 0 (by omega) _ rfl,hat 1 (by omega) _ rfl,hat 2 (by omega) _ rfl,hat 3 (by omega) _ rfl,hat 4 (by omega) _ rfl,hat 5 (by omega) _ rfl,hat 6 (by omega) _ rfl,hat 7 (by omega) _ rfl⟩,h3 _ (List.getElem_mem hi')⟩
theorem parse_ok {S:Lx.L} {ns:List Sx.Node} (hS:S.length≤4096) (ht:Sx.tree S=.ok ns) (W:World) (hg:Sgn W):Calls Tryz.prog 6 #[.string (mkS S)] W fun e W'=>∃ A c,e=.returned (.tuple #[.agg #[.slice A ns.length c],.int .i64 0,.int .i64 0])∧ns.length≤c∧TreeM W' (nl S) (.slice A ns.length c) ns∧Later W W':=by
 have h:=parse_v S hS W hg
 rw[ht] at h
 refine h.mono ?_
 rintro e W' ⟨A,c,nd,rfl,h1,h2,h3,h4⟩
 have hl:nd.length=ns.length:=by rw[←h1];simp
 obtain⟨A',c',hv,hc⟩:=own_any h2
 injection hv with e1 e2 e3
 subst e1;subst e3
 rw[hl] at hc
 refine⟨A,c,by rw[hl],hc,?_,h4⟩
 rw[←hl]
 exact⟨nd,h1,h2,h3⟩
theorem parse_err {S:Lx.L} {n k:Nat} (hS:S.length≤4096) (ht:Sx.tree S=.error (n,k)) (W:World) (hg:Sgn W):Calls Tryz.prog 6 #[.string (mkS S)] W fun e W'=>e=.returned (.tuple #[.agg #[.slice none 0 0],.int .i64 (n:Int),.int .i64 ((1+nl S-k:Nat):Int)])∧Later W W':=by
 have h:=parse_v S hS W hg
 rw[ht] at h
 exact h
theorem root_v (W:World) (A:Option Addr) (n c:Nat) (hn:n≤1000000):Calls Tryz.prog 16 #[.agg #[.slice A n c]] W fun e W'=>e=.returned (.int .i64 ((n:Int)-1))∧Later W W':=by
 have hw:wrap64 ((n:Int)-1)=(n:Int)-1:=by unfold wrap64;omega
 have hw2:IntKind.i64.wrap ((n:Int)-1)=(n:Int)-1:=by rw[IntKind.wrap_i64];omega
 go_enter Tryz.func16,Tryz.ntmps16
 go_wp2
 have hl:=Later.alloc W (.cells #[.slice A n c] 25)
 go_ret
 exact⟨rfl,hl⟩
def N5:List Sx.Node:=[{ kind:=1,words:=[[97]] },{ kind:=1,words:=[[98]] },{ kind:=3,kids:=[0,1] },{ kind:=1,words:=[[99]] },{ kind:=5,kids:=[2,3] }]
end Pz
end Go.Proofs.YtkkchkkpnlnbgaaGreatDoor
