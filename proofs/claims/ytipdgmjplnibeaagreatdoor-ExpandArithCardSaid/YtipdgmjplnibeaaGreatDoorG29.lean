import Derived.Test.YtipdgmjplnibeaaGreatDoorG28
import Derived.Test.YtipdgmjplnibeaaGreatDoorG21
import Derived.Test.YtipdgmjplnibeaaGreatDoorG06
import Derived.Test.YtipdgmjplnibeaaGreatDoorNwh
import Derived.Maps.OwnSet
import Derived.Maps.Views
import Derived.Test.YtipdgmjplnibeaaGreatDoorG20
set_option maxRecDepth 100000
set_option maxHeartbeats 6400000
namespace Go.Proofs.YtipdgmjplnibeaaGreatDoor
open Go.RowKit Go.Maps
namespace En
theorem Cx.insert {W:World} {b0 b1 b2 b3:Value} {vs:Vs} {n0:Nat} {mk:Vs→E} (h:Cx W b0 b1 b2 b3 vs n0 mk) (g gv i:Nat) (x:B×B) (hi:i≤n0) (W':World) (hp:PrB W' g vs []) (hv:PrB W' gv [x] []):Calls Tryz.prog 31 #[.slice (some ⟨g,0,none⟩) n0 n0,.int .i64 (i:Int),.slice (some ⟨gv,0,none⟩) 1 1] W' fun e W''=>InsOk W' W'' e (vs.take i++x::vs.drop i):=by
 have h1:=h.few
 rw[h.len] at h1 hi⊢
 exact insert_v g gv vs x i hi W' hp hv (by omega)
theorem wrote {W w:World} {b0 b1 b2 b3:Value} {g k:Nat} {ls fs:Vs} {z:List Value} {y:B} (hb:Bx W w b0 b1 b2 b3) (hp:PrB w g ls z) (hg:W.heap.size+1<g) (hk:k<ls.length) (hf:fs=ls.take k++(ls[k].1,y)::ls.drop (k+1)):∃ w7,w7=w.setCell ⟨g,k*2+1,none⟩ (.string (mkS y))∧Bx W w7 b0 b1 b2 b3∧PrB w7 g fs z∧fs.length=ls.length:=by
 refine⟨_,rfl,hb.set (set_only _ _ _ _) hg,by rw[hf];exact hp.value hk y,?_⟩
 rw[hf,List.length_append,List.length_cons,List.length_take,List.length_drop];omega
theorem set_v (va:Value) (e:E) (s y:B) (W:World) (h:RdE W va e) (hr:Rises e.vars) (hn:e.vars.length≤999998) (ha:e.args.length≤1000000) (hs:s.length≤2000000):Calls Tryz.prog 14 #[va,.string (mkS s),.string (mkS y)] W fun x W'=>Told W W' x (set nm e s y):=by
 have HNM:=Lib.hid (fun W=>Ar.name_v s hs W)
 obtain⟨Av,n0,cv,A,n,c,st,fl,rfl,hcx⟩:=Cx.of h hr (by omega) ha
 have HCX:=Lib.hid hcx
 have HB:=Lib.hid (Bx.new W (.slice Av n0 cv) (.slice A n c) (.int .i64 st) (.string fl))
 have hn0:n0≤999998:=by rw[hcx.len];exact hn
 obtain⟨b,hb⟩:∃ b,b=Ar.nameB s:=⟨_,rfl⟩
 rw[←hb] at HNM
 have HNB:=Lib.hid hb
 clear h hcx hr hn ha hs hb
 go_enter Tryz.func14,Tryz.ntmps14
 go_wp2_with fail
 go_at_call 27
 with_reducible refine(HCX.out.vars _ HB.out.low).mono ?_
 rintro x w3 ⟨⟨g,rfl,hg,hp⟩,hl3⟩
 have hs2:=lt_of_block HB.out.rs
 have HG:=Lib.hid (show W.heap.size+1<g by omega)
 have HP:=Lib.hid hp
 have HB3:=Lib.hid (HB.out.later hl3)
 clear hg hp hl3 hs2
 go_wp2_with fail
 go_at_call 28
 with_reducible refine(HNM.out _).mono ?_
 rintro x w4 ⟨rfl,hl4⟩
 have HB4:=Lib.hid (HB3.out.later hl4)
 have HP4:=Lib.hid (HP.out.later hl4)
 clear hl4
 cases b with
 | false=>
  obtain⟨q0,q1,q2,q3⟩:=HB4.out.c
  have HRD:=Lib.hid (HP4.out.rd (c:=n0) (by have:=HCX.out.len;omega) (by omega))
  rw[←HCX.out.len] at HRD
  go_wp2_with (go_at_call 32;(with_reducible refine(HCX.out.made _ _ _ HB4.out.low HRD.out (by have:=HCX.out.len;omega)).mono ?_);rintro x w8 ⟨⟨v,rfl,hf⟩,hl8⟩;(have HF:=Lib.hid hf);obtain⟨v0,A4,n4,c4,rfl,hv4,_⟩:=hf.rd;obtain⟨A5,c5,rfl,_⟩:=hv4.le;(have HB5:=Lib.hid (HB4.out.later hl8));obtain⟨r0,r1,r2,r3,r4⟩:=HB5.out.r;clear hf hl8 hv4)
  have hs5:=lt_of_block HB4.out.rs
  obtain⟨w9,hw9,hl9,hr9,hf9⟩:=HB5.out.tell HF.out hs5
  rw[←hw9]
  refine bodyPost_ret (results_Env rfl _ _ (W.heap.size+1) _ (0,0) rfl hr9 rfl) rfl ?_
  have e1:set nm e s y={ e with vars:=e.vars }:=by unfold set;rw[if_neg (fun h=>by have h2:true=false:=(HNB.out.trans h).symm;cases h2)]
  rw[e1]
  exact⟨⟨_,rfl,hf9.less (by omega)⟩,hl9⟩
 | true=>
  go_wp2_with fail
  go_at_call 29
  with_reducible refine(HCX.out.search s g _ HP4.out).mono ?_
  rintro x w5 ⟨⟨k,b,rfl,hpl⟩,hl5⟩
  have HPL:=Lib.hid hpl
  have HB5:=Lib.hid (HB4.out.later hl5)
  have HP5:=Lib.hid (HP4.out.later hl5)
  have hkn:k≤n0:=by have:=hpl.1;have:=HCX.out.len;omega
  have hk0:(0:Int)≤(k:Int):=by omega
  clear hl5 hpl
  cases b with
  | true=>
   obtain⟨hk,hks,hse,_⟩:=set_old y HPL.out HCX.out.rises
   obtain⟨fs,hfs⟩:∃ fs,fs=setV e.vars s y:=⟨_,rfl⟩
   have HFS:=Lib.hid hfs
   obtain⟨w7,hw7,hb7,hp7,hln⟩:=wrote (y:=y) (fs:=fs) HB5.out HP5.out HG.out hk (by rw[hfs,hse,hks])
   have HW7:=Lib.hid hw7
   have HB7:=Lib.hid hb7
   have HLN:=Lib.hid (show fs.length=n0 by rw[hln,HCX.out.len])
   have hrd:=hp7.rd (c:=n0) (by rw[HLN.out];exact Nat.le_refl _) (by omega)
   rw[HLN.out] at hrd
   have HRD:=Lib.hid hrd
   have hk1:(k:Int)<(n0:Int):=by have:=HCX.out.len;omega
   obtain⟨yv,qv⟩:∃ yv,w5.cell? ⟨g,k*2+1,none⟩=some (.string yv):=⟨_,(HP5.out.cells k hk).2⟩
   have qz:w5.frozen? ⟨g,k*2+1,none⟩=false:=(cell_row HP5.out _).2
   obtain⟨q0,q1,q2,q3⟩:=HB7.out.c
   have HQ:=Lib.hid (And.intro q0 (And.intro q1 (And.intro q2 q3)))
   obtain⟨p0,p1,p2,p3⟩:=HB5.out.c
   clear hk hks hse hfs hw7 hb7 hp7 hln hrd q0 q1 q2 q3
   have HNE:=Lib.hid (show ∀ j,(⟨W.heap.size,j,none⟩:Addr)≠⟨g,k*2+1,none⟩ from fun j h=>by injection h with h;have:=HG.out;omega)
   have hgn:¬ W.heap.size=g:=by have:=HG.out;omega
   have hgn2:¬ g=W.heap.size:=by have:=HG.out;omega
   go_wp2_with fail
   rw[←HW7.out]
   clear p0 p1 p2 p3 qv qz
   go_at_call 32
   with_reducible refine(HCX.out.made _ _ _ HB7.out.low HRD.out (by rw[HLN.out];omega)).mono ?_
   rintro x w8 ⟨⟨v,rfl,hf⟩,hl8⟩
   have HF:=Lib.hid hf
   obtain⟨v0,A4,n4,c4,rfl,hv4,_⟩:=hf.rd
   obtain⟨A5,c5,rfl,_⟩:=hv4.le
   have HB8:=Lib.hid (HB7.out.later hl8)
   obtain⟨r0,r1,r2,r3,r4⟩:=HB8.out.r
   clear hf hl8 hv4
   go_wp2
   have hs5:=lt_of_block HB7.out.rs
   obtain⟨w9,hw9,hl9,hr9,hf9⟩:=HB8.out.tell HF.out hs5
   rw[←hw9]
   refine bodyPost_ret (results_Env rfl _ _ (W.heap.size+1) _ (0,0) rfl hr9 rfl) rfl ?_
   have e1:set nm e s y={ e with vars:=fs }:=by unfold set;rw[if_pos HNB.out.symm,HFS.out]
   rw[e1]
   exact⟨⟨_,rfl,hf9.less (by omega)⟩,hl9⟩
  | false=>
   have HIN:=Lib.hid (HCX.out.insert g w5.heap.size k (s,[]) hkn (w5.alloc (.cells #[.string (mkS s),.string ⟨#[]⟩] 72)) (HP5.out.later (Later.alloc _ _)) (lit_pair w5 (s,[])))
   have HBA:=Lib.hid (HB5.out.later (Later.alloc w5 (.cells #[.string (mkS s),.string ⟨#[]⟩] 72)))
   have hll:(e.vars.take k++(s,[])::e.vars.drop k).length=n0+1:=by have:=HCX.out.len;rw[List.length_append,List.length_cons,List.length_take,List.length_drop];omega
   obtain⟨ls,hls⟩:∃ ls,ls=e.vars.take k++(s,[])::e.vars.drop k:=⟨_,rfl⟩
   rw[←hls] at HIN hll
   have HLS:=Lib.hid hls
   have HLL:=Lib.hid hll
   have HSV:=Lib.hid (set_new y HPL.out HCX.out.rises)
   clear hls hll
   go_wp2_with fail
   go_at_call 31
   with_reducible refine HIN.out.mono ?_
   rintro x w6 ⟨⟨g6,c6,z,rfl,hp6,hc6,hc7,hg6⟩,hl6⟩
   have HB6:=Lib.hid (HBA.out.later hl6)
   have hs6:=lt_of_block HBA.out.rs
   have HG6:=Lib.hid (show W.heap.size+1<g6 by omega)
   have hk:k<ls.length:=by rw[HLL.out];omega
   obtain⟨fs,hfs⟩:∃ fs,fs=setV e.vars s y:=⟨_,rfl⟩
   have HFS:=Lib.hid hfs
   have hfs2:fs=ls.take k++(ls[k].1,y)::ls.drop (k+1):=by
    have htk:(e.vars.take k).length=k:=by have:=HCX.out.len;rw[List.length_take];omega
    have h1:ls.take k=e.vars.take k:=by rw[HLS.out,List.take_append_of_le_length (by omega),List.take_of_length_le (by omega)]
    have h2:ls[k].1=s:=by
     have h3:ls[k]?=some (s,[]):=by rw[HLS.out,List.getElem?_append_right (by omega),htk,Nat.sub_self];rfl
     rw[List.getElem?_eq_getElem hk] at h3
     injection h3 with h3
     rw[h3]
    have h4:ls.drop (k+1)=e.vars.drop k:=by
     rw[HLS.out,List.drop_append,List.drop_of_length_le (by omega),List.nil_append,htk,show k+1-k=1 by omega]
     rfl
    rw[h1,h2,h4,hfs,HSV.out]
   obtain⟨w7,hw7,hb7,hp7,hln⟩:=wrote (y:=y) (fs:=fs) HB6.out hp6 HG6.out hk hfs2
   have HW7:=Lib.hid hw7
   have HB7:=Lib.hid hb7
   have HLN:=Lib.hid (show fs.length=n0+1 by rw[hln,HLL.out])
   have hrd:=hp7.rd (c:=c6) (by rw[hln];exact hc6) hc7
   rw[HLN.out] at hrd
   have HRD:=Lib.hid hrd
   have hk1:(k:Int)<(n0:Int)+1:=by omega
   obtain⟨yv,qv⟩:∃ yv,w6.cell? ⟨g6,k*2+1,none⟩=some (.string yv):=⟨_,(hp6.cells k hk).2⟩
   have qz:w6.frozen? ⟨g6,k*2+1,none⟩=false:=(cell_row hp6 _).2
   obtain⟨q0,q1,q2,q3⟩:=HB7.out.c
   have HQ:=Lib.hid (And.intro q0 (And.intro q1 (And.intro q2 q3)))
   obtain⟨p0,p1,p2,p3⟩:=HB6.out.c
   rw[HLL.out]
   clear hk hfs2 hfs hw7 hb7 hp7 hln hrd q0 q1 q2 q3 hp6 hg6 hl6 hs6 hc6 hc7
   have hgn:¬ W.heap.size=g6:=by have:=HG6.out;omega
   have hgn2:¬ g6=W.heap.size:=by have:=HG6.out;omega
   go_wp2_with fail
   rw[←HW7.out]
   clear p0 p1 p2 p3 qv qz
   go_at_call 32
   with_reducible refine(HCX.out.made _ _ _ HB7.out.low HRD.out (by rw[HLN.out];omega)).mono ?_
   rintro x w8 ⟨⟨v,rfl,hf⟩,hl8⟩
   have HF:=Lib.hid hf
   obtain⟨v0,A4,n4,c4,rfl,hv4,_⟩:=hf.rd
   obtain⟨A5,c5,rfl,_⟩:=hv4.le
   have HB8:=Lib.hid (HB7.out.later hl8)
   obtain⟨r0,r1,r2,r3,r4⟩:=HB8.out.r
   clear hf hl8 hv4
   go_wp2
   have hs5:=lt_of_block HB7.out.rs
   obtain⟨w9,hw9,hl9,hr9,hf9⟩:=HB8.out.tell HF.out hs5
   rw[←hw9]
   refine bodyPost_ret (results_Env rfl _ _ (W.heap.size+1) _ (0,0) rfl hr9 rfl) rfl ?_
   have e1:set nm e s y={ e with vars:=fs }:=by unfold set;rw[if_pos HNB.out.symm,HFS.out]
   rw[e1]
   exact⟨⟨_,rfl,hf9.less (by omega)⟩,hl9⟩
end En
end Go.Proofs.YtipdgmjplnibeaaGreatDoor
namespace Go.Proofs.YtipdgmjplnibeaaGreatDoor
open Go.RowKit Go.Maps
set_option maxRecDepth 100000
set_option maxHeartbeats 1600000
namespace Ey
open En (E RdE Vd Rises FrE)
def heldR (v:Value):Option (DataW Value×List MemPlace):=some (.held v,[])
def kl (k:Nat):Lit:=.int .i64 (k:Int)
def Tab (W:World) (m:Nat) (f:Nat→Option Value):Prop:=
 ∃ D n,W.ownsMap Tryz.prog 3 heldR m n D∧n≤30∧∀ k,Maps.has D (kl k)=(f k).isSome∧∀ z,D.atKey (kl k) (.held z)=.held ((f k).getD z)
theorem int_keyed':Keyed Tryz.prog 3:=int_keyed Tryz.underlying3
theorem keyOf_i64 (k:Nat) (hk:k≤100):keyOf Tryz.prog 3 (.int .i64 (k:Int))=some (kl k):=keyOf_int_mk Tryz.underlying3 (by simp[Lit.wf,IntKind.min,IntKind.max,IntKind.bits,IntKind.signed];omega)
theorem kl_ne {a b:Nat} (h:a≠b):kl a≠kl b:=by
 intro e
 simp only[kl,Lit.int.injEq,true_and] at e
 omega
theorem Tab.kept {W W':World} {m:Nat} {f:Nat→Option Value} {row:Option Nat} (h:Tab W m f) (hg:W.grownBy W' row) (hne:some m≠row):Tab W' m f:=by
 obtain⟨D,n,h1,h2,h3⟩:=h
 exact⟨D,n,h1.kept hg hne,h2,h3⟩
theorem Tab.made (W:World):Tab (W.alloc (.map #[] 0)) W.heap.size fun _=>none:=
 ⟨.map [],0,World.ownsMap_made W _ _ _,by omega,fun c=>⟨rfl,fun z=>rfl⟩⟩
theorem Tab.apart {W:World} {m g:Nat} {f:Nat→Option Value} {cs:Array Value} {e:TypeId} {fr:Nat×Nat} (h:Tab W m f) (h':W.heap[g]?=some (.cells cs e fr)):m≠g:=by
 obtain⟨D,n,⟨es,cl,h1,_⟩,_⟩:=h
 rintro rfl
 rw[h1] at h'
 cases h'
theorem Tab.lt {W:World} {m:Nat} {f:Nat→Option Value} (h:Tab W m f):m<W.heap.size:=by
 obtain⟨D,n,h1,_⟩:=h
 exact h1.lt
theorem Tab.look {W:World} {m:Nat} {f:Nat→Option Value} (h:Tab W m f) (k:Nat) (hk:k≤100):(Instr.lookup 92 (.map (some m)) (.int .i64 (k:Int)) false).run Tryz.prog W=.ok ((f k).getD .nilFunc) W:=by
 obtain⟨D,n,h1,_,h3⟩:=h
 obtain⟨v,ps,hrun,hv⟩:=World.ownsMap.lookup (w:=W) h1 int_keyed' Tryz.underlying92 (z:=.nilFunc) (by kernel_rfl) (zd:=.held .nilFunc) (zp:=[]) rfl (keyOf_i64 k hk)
 rw[(h3 k).2 .nilFunc] at hv
 simp only[heldR,Option.some.injEq,Prod.mk.injEq,DataW.held.injEq] at hv
 rw[hrun,hv.1]
def fnv (f g:Nat):Value:=.func (.func f) #[.pointer (some ⟨g,0,none⟩)] #[]
def putsT (g k:Nat):Option Value:=
 if k=1 then some (fnv 72 g)
 else if k=2 then some (fnv 73 g)
 else if k=5 then some (fnv 74 g)
 else if k=4 then some (fnv 75 g)
 else if k=3 then some (fnv 76 g)
 else none
def Ap (X:Nat→Prop) (w:World) (v:Value) (e:E):Prop:=∀ w':World,w.heap.size≤w'.heap.size→(∀ k,k<w.heap.size→¬ X k→w'.heap[k]?=w.heap[k]?)→RdE w' v e
section
variable {X X':Nat→Prop} {base:Nat} {w w':World} {v:Value} {e:E}
theorem Ap.rd (a:Ap X w v e):RdE w v e:=a w (Nat.le_refl _) fun _ _ _=>rfl
theorem Ap.grown {row:Option Nat} (a:Ap X w v e) (hg:w.grownBy w' row) (hr:∀ k,row=some k→X k):Ap X w' v e:=fun w1 h1 h2=>a w1 (Nat.le_trans hg.size h1) fun k hk kg=>(h2 k (Nat.lt_of_lt_of_le hk hg.size) kg).trans (hg.block k hk fun e=>kg (hr k e.symm))
theorem Ap.later (a:Ap X w v e) (hl:Later w w'):Ap X w' v e:=a.grown (grown_of_later hl none) nofun
theorem Ap.less (a:Ap X w v e) (h:∀ k,X' k→X k):Ap X' w v e:=fun w1 h1 h2=>a w1 h1 fun k hk kg=>h2 k hk fun e=>kg (h k e)
theorem Ap.wide (a:Ap X w v e) (hl:Later w w'):Ap (fun k=>X k∨(w.heap.size≤k∧k<w'.heap.size)) w' v e:=fun w1 h1 h2=>a w1 (Nat.le_trans hl.size h1) fun k hk kg=>(h2 k (Nat.lt_of_lt_of_le hk hl.size) (fun e=>by rcases e with e | e;exact kg e;omega)).trans (hl.block k hk)
theorem Ap.of_fre (f:FrE base w v e) (h1:∀ k,X k→k<base):Ap X w v e:=fun w1 k1 k2=>f w1 k1 fun k hb hk=>k2 k hk fun e=>by have:=h1 k e;omega
theorem rd_heap {w0:World} (h:RdE w0 v e) (hs:w0.heap.size≤w.heap.size) (hk:∀ k,k<w0.heap.size→w.heap[k]?=w0.heap[k]?):RdE w v e:=by
 have hc:∀ p:Addr,p.block<w0.heap.size→w.cell? p=w0.cell? p:=fun p hp=>by unfold World.cell?;rw[hk _ hp]
 obtain⟨va,A,n,c,e1,h1,h2,h3,h4⟩:=h
 exact⟨va,A,n,c,e1,(h1.keep hc).more hs,(h2.keep hc).more hs,h3,h4⟩
theorem Ap.of_rd {w0:World} (h:RdE w0 v e) (hl:Later w0 w) (hx:∀ k,X k→w0.heap.size≤k):Ap X w v e:=fun w1 k1 k2=>
 rd_heap h (Nat.le_trans hl.size k1) fun k hk=>(k2 k (Nat.lt_of_lt_of_le hk hl.size) (fun e=>by have:=hx k e;omega)).trans (hl.block k hk)
end
def low (g:Nat):Prop:=1<g∧2<g∧3<g
theorem vd_grown {W W':World} {row:Option Nat} (h:Vd W) (hg:W.grownBy W' row) (lo:∀ g,row=some g→low g):Vd W':=by
 have hc:∀ (a:Addr) v,some a.block≠row→W.cell? a=some v→W'.cell? a=some v:=fun a v hne hv=>by
  have hlt:=World.block_lt_of_cell? W _ hv
  rw[←hv]
  unfold World.cell?
  rw[hg.block _ hlt hne]
 refine⟨?_,?_,?_⟩
 ·have h:=h.tb
  have hgn:Tryz.prog.globalNamed "internal/strconv.uint64pow10" = some 1:=by kernel_rfl
  unfold Lib.TabIs World.var? at h⊢
  rw[hgn] at h⊢
  simp only[Option.bind_some] at h⊢
  have hlt:1<W.heap.size:=by
   rcases Nat.lt_or_ge 1 W.heap.size with h' | h'
   ·exact h'
   ·rw[Array.getElem?_eq_none h'] at h;cases h
  rw[hg.block _ hlt fun e=>by have:=(lo _ e.symm).1;omega]
  exact h
 ·obtain⟨ev,h1,h2⟩:=h.es
  exact⟨ev,hc _ _ (fun e=>by have:=(lo _ e.symm).2.1;exact Nat.lt_irrefl _ this) h1,h2⟩
 ·obtain⟨ev,h1,h2⟩:=h.er
  exact⟨ev,hc _ _ (fun e=>by have:=(lo _ e.symm).2.2;exact Nat.lt_irrefl _ this) h1,h2⟩
def wc (va aa:Value) (e:E) (m:Nat):Array Value:=#[va,aa,.int .i64 (e.status:Int),.string (mkS e.flags),.map (some m)]
structure Wt (W:World) (X:Nat→Prop) (g m:Nat) (e:E):Prop where
 bx:∃ va aa,W.heap[g]?=some (.cells (wc va aa e m) 94 (0,0))∧Ap X W (.agg #[va,aa,.int .i64 (e.status:Int),.string (mkS e.flags)]) e
 xg:X g
 xl:∀ k,X k→k<W.heap.size
 tab:Tab W m (putsT g)
 sm:Sm e=true
 up:Rises e.vars
 vd:Vd W
 lo:low g
 ta:Ar.Tb W g
section
variable {W W':World} {X X':Nat→Prop} {g m:Nat} {e:E}
theorem Wt.lt (h:Wt W X g m e):g<W.heap.size:=h.xl g h.xg
theorem Wt.later (h:Wt W X g m e) (hl:Later W W'):Wt W' X g m e:=by
 obtain⟨va,aa,h1,h2⟩:=h.bx
 exact⟨⟨va,aa,later_cells hl h1,h2.later hl⟩,h.xg,fun k hk=>Nat.lt_of_lt_of_le (h.xl k hk) hl.size,h.tab.kept (grown_of_later hl none) nofun,h.sm,h.up,h.vd.later hl,h.lo,h.ta.kept (grown_of_later hl _)⟩
theorem Wt.less (h:Wt W X g m e) (hs:∀ k,X' k→X k) (hg:X' g):Wt W X' g m e:=by
 obtain⟨va,aa,h1,h2⟩:=h.bx
 exact⟨⟨va,aa,h1,h2.less hs⟩,hg,fun k hk=>h.xl k (hs k hk),h.tab,h.sm,h.up,h.vd,h.lo,h.ta⟩
theorem Wt.wide (h:Wt W X g m e) (hl:Later W W'):Wt W' (fun k=>X k∨(W.heap.size≤k∧k<W'.heap.size)) g m e:=by
 obtain⟨va,aa,h1,h2⟩:=h.bx
 have h3:=h.later hl
 exact⟨⟨va,aa,later_cells hl h1,h2.wide hl⟩,.inl h.xg,fun k hk=>by rcases hk with hk | hk;exact h3.xl k hk;exact hk.2,h3.tab,h3.sm,h3.up,h3.vd,h3.lo,h3.ta⟩
end
end Ey
end Go.Proofs.YtipdgmjplnibeaaGreatDoor
namespace Go.Proofs.YtipdgmjplnibeaaGreatDoor
open Go.RowKit Go.Maps
set_option maxRecDepth 100000
set_option maxHeartbeats 1600000
namespace Ey
open En (E RdE Vd Rises FrE)
theorem sm_facts {e:E} (h:Sm e=true):e.vars.length≤1000∧(∀ p∈e.vars,p.2.length≤100000)∧e.args.length≤1000∧(∀ x∈e.args,x.length≤100000)∧e.status≤1000000∧e.flags.length≤1000:=by
 unfold Sm at h
 simp only[Bool.and_eq_true,decide_eq_true_eq,List.all_eq_true] at h
 obtain⟨⟨⟨⟨⟨h1,h2⟩,h3⟩,h4⟩,h5⟩,h6⟩:=h
 exact⟨h1,h2,h3,h4,h5,h6⟩
theorem var_small {l:En.Vs} {n:B} {k:Nat} (h:∀ p∈l,p.2.length≤k) {v:B} (hv:En.var l n=some v):v.length≤k:=by
 induction l with
 | nil=>simp[En.var] at hv
 | cons p l ih=>
  unfold En.var at hv
  split at hv
  ·injection hv with hv;subst hv;exact h _ (List.mem_cons_self ..)
  ·exact ih (fun q hq=>h q (List.mem_cons_of_mem _ hq)) hv
theorem ifs_small {e:E} (h:Sm e=true):(En.ifs e.vars).length≤100000:=by
 unfold En.ifs
 cases hv:En.var e.vars En.IFS with
 | none=>simp
 | some v=>exact var_small (sm_facts h).2.1 hv
theorem joined_small {e:E} (h:Sm e=true):(En.joined ((En.ifs e.vars).take 1) e.args).length≤200000000:=by
 obtain⟨_,_,h3,h4,_⟩:=sm_facts h
 have h1:=En.joined_len ((En.ifs e.vars).take 1) 100000 e.args h4
 have h2:((En.ifs e.vars).take 1).length≤1:=by rw[List.length_take];omega
 have h5:e.args.length*(100000+((En.ifs e.vars).take 1).length)≤1000*100001:=Nat.mul_le_mul h3 (by omega)
 omega
theorem get_w {W:World} {e:E} {v:Value} (h:RdE W v e) (hd:Vd W) (hs:Sm e=true) (s:B) (hl:s.length≤100000):Calls Tryz.prog 16 #[v,.string (mkS s)] W fun x W'=>x=.returned (.tuple #[.string (mkS (En.get Ar.nameB e s).1),.bool (En.get Ar.nameB e s).2])∧Later W W':=by
 have hj:=joined_small hs
 have hi:=ifs_small hs
 obtain⟨_,_,h3,_,h5,_⟩:=sm_facts hs
 exact En.get_v v e s W h hd (by omega) (by omega) (by omega) (by omega) (by omega)
theorem Wt.cells {W:World} {X:Nat→Prop} {g m:Nat} {e:E} (h:Wt W X g m e):∃ va aa,(∀ W',Later W W'→(W'.cell? ⟨g,0,none⟩=some va∧W'.cell? ⟨g,1,none⟩=some aa∧W'.cell? ⟨g,2,none⟩=some (.int .i64 (e.status:Int))∧W'.cell? ⟨g,3,none⟩=some (.string (mkS e.flags))∧W'.cell? ⟨g,4,none⟩=some (.map (some m)))∧RdE W' (.agg #[va,aa,.int .i64 (e.status:Int),.string (mkS e.flags)]) e):=by
 obtain⟨va,aa,h1,h2⟩:=h.bx
 refine⟨va,aa,fun W' hl=>?_⟩
 have h3:=later_cells hl h1
 exact⟨⟨(cell_row h3 0).1,(cell_row h3 1).1,(cell_row h3 2).1,(cell_row h3 3).1,(cell_row h3 4).1⟩,(h2.later hl).rd⟩
theorem tilde_v {W:World} {X:Nat→Prop} {g m:Nat} {e:E} (h:Wt W X g m e) (p:P) (vw:Value) (hg:(En.get Ar.nameB e HOME).1.length≤100000):Calls Tryz.prog 74 #[.pointer (some ⟨g,0,none⟩),pv p vw] W fun x W'=>x=.returned (rv (if (En.get Ar.nameB e HOME).2=true then pt (En.get Ar.nameB e HOME).1 113 else pt [126] 108))∧Later W W':=by
 obtain⟨k,t,o,q,l⟩:=p
 obtain⟨va,aa,hc⟩:=h.cells
 have HG:=Lib.hid (show ∀ W',Later W W'→Calls Tryz.prog 16 #[.agg #[va,aa,.int .i64 (e.status:Int),.string (mkS e.flags)],.string ⟨#[72,79,77,69]⟩] W' fun x W''=>x=.returned (.tuple #[.string (mkS (En.get Ar.nameB e HOME).1),.bool (En.get Ar.nameB e HOME).2])∧Later W' W'' from fun W' hl=>get_w (hc W' hl).2 (h.vd.later hl) h.sm HOME (by decide))
 have HLA:=Lib.hid (fun W o=>Later.alloc W o)
 have HN0:=Lib.hid (fun o=>heap_alloc_new (W.alloc o) (.cells #[.string ⟨#[]⟩,.string ⟨#[]⟩] 37))
 have hsz:∀ o,(W.alloc o).heap.size=W.heap.size+1:=fun o=>World.size_alloc _ _
 have hq:=fun o o'=>(hc ((W.alloc o).alloc o') ((Later.alloc _ _).trans (Later.alloc _ _))).1
 obtain⟨val,hval⟩:∃ val,val=(En.get Ar.nameB e HOME).1:=⟨_,rfl⟩
 obtain⟨set,hset⟩:∃ set,set=(En.get Ar.nameB e HOME).2:=⟨_,rfl⟩
 rw[←hval,←hset] at HG⊢
 rw[←hval] at hg
 obtain⟨st,hst⟩:∃ st:Int,st=e.status:=⟨_,rfl⟩
 obtain⟨fl,hfl⟩:∃ fl,fl=mkS e.flags:=⟨_,rfl⟩
 rw[←hst,←hfl] at HG hq
 have HP:=Lib.hid (show ∀ W,Calls Tryz.prog 102 #[.string (mkS val),.int .u8 113] W fun e W'=>e=.returned (rv (pt val 113))∧Later W W' from fun W=>put_v val 113 hg W)
 have HT:=Lib.hid (show ∀ W,Calls Tryz.prog 102 #[.string ⟨#[126]⟩,.int .u8 108] W fun e W'=>e=.returned (rv (pt [126] 108))∧Later W W' from fun W=>put_v [126] 108 (by decide) W)
 have HR:=Lib.hid (fun r:Rw=>show rv r=.agg #[.string (mkS (Jo.ft r)),.string (mkS (Jo.fm r))] from rfl)
 obtain⟨q0,q1,q2,q3,q4⟩:=hq (.cells #[.int .i64 (k:Int),.string (mkS t),.string (mkS o),.bool q,vw] 105) (.cells #[.string ⟨#[]⟩,.string ⟨#[]⟩] 37)
 clear hst hfl hval hset hg hc h hq
 unfold pv
 show Calls Tryz.prog 74 #[.pointer (some ⟨g,0,none⟩),.agg #[.int .i64 (k:Int),.string (mkS t),.string (mkS o),.bool q,vw]] W _
 cases set with
 | true=>
  go_enter Tryz.func74,Tryz.ntmps74
  go_wp2_with (first
   |(go_at_call 16;(with_reducible refine(HG.out _ ((HLA.out _ _).trans (HLA.out _ _))).mono ?_);rintro e w2 ⟨rfl,hl2⟩;(have HL2:=Lib.hid hl2);clear hl2)
   |(go_at_call 102;(with_reducible refine(HP.out _).mono ?_);rintro e w3 ⟨rfl,hl3⟩;(have hn3:=later_cells (HL2.out.trans hl3) (HN0.out _));rw[hsz] at hn3;rw[HR.out];obtain⟨r0,z0⟩:=cell_row hn3 0;obtain⟨r1,z1⟩:=cell_row hn3 1;(have HN3:=Lib.hid hn3);(have HL3:=Lib.hid (((HLA.out W _).trans (HLA.out _ _)).trans (HL2.out.trans hl3)));clear hl3 hn3))
  refine end_row rfl rfl HN3.out rfl rfl fun w4 h4=>⟨rfl,later_of_new HL3.out h4 (by omega)⟩
 | false=>
  go_enter Tryz.func74,Tryz.ntmps74
  go_wp2_with (first
   |(go_at_call 16;(with_reducible refine(HG.out _ ((HLA.out _ _).trans (HLA.out _ _))).mono ?_);rintro e w2 ⟨rfl,hl2⟩;(have HL2:=Lib.hid hl2);clear hl2)
   |(go_at_call 102;(with_reducible refine(HT.out _).mono ?_);rintro e w3 ⟨rfl,hl3⟩;(have hn3:=later_cells (HL2.out.trans hl3) (HN0.out _));rw[hsz] at hn3;rw[HR.out];obtain⟨r0,z0⟩:=cell_row hn3 0;obtain⟨r1,z1⟩:=cell_row hn3 1;(have HN3:=Lib.hid hn3);(have HL3:=Lib.hid (((HLA.out W _).trans (HLA.out _ _)).trans (HL2.out.trans hl3)));clear hl3 hn3))
  refine end_row rfl rfl HN3.out rfl rfl fun w4 h4=>⟨rfl,later_of_new HL3.out h4 (by omega)⟩
end Ey
end Go.Proofs.YtipdgmjplnibeaaGreatDoor
namespace Go.Proofs.YtipdgmjplnibeaaGreatDoor
open Go.RowKit Go.Maps
theorem array_2 {cs:Array Value} (h:cs.size=2):∃ a b,cs=#[a,b]:=by
 obtain⟨l⟩:=cs
 match l,h with
 | [a,b],_=>exact⟨a,b,rfl⟩
namespace Jo
def pr (f:Rw):L×L:=(ft f,fm f)
theorem rows_at:∀ (l:List Rw) (j:Nat) (h:j<l.length),(rows l)[j*2]?=some (.string (mkS (ft l[j])))∧(rows l)[j*2+1]?=some (.string (mkS (fm l[j])))
 | [],j,h=>by simp at h
 | y::l,0,_=>by simp[rows]
 | y::l,j+1,h=>by
  have:=rows_at l j (by simpa using h)
  have e:rows (y::l)=[.string (mkS (ft y)),.string (mkS (fm y))]++rows l:=rfl
  rw[e,List.getElem?_append_right (by simp;omega),List.getElem?_append_right (by simp;omega)]
  simp only[List.length_cons,List.length_nil,List.getElem_cons_succ]
  rw[show (j+1)*2-(0+1+1)=j*2 by omega,show (j+1)*2+1-(0+1+1)=j*2+1 by omega]
  exact this
theorem RdR.of_own {w:World} {base:Nat} {e:TypeId} {v:Value} {l:List Rw} (h:w.ownsRow base e 2 v l.length (rows l)):RdR w w.heap.size v (l.map pr):=by
 refine⟨by rw[List.length_map];exact own_any h,fun h0=>?_⟩
 rw[List.length_map] at h0
 rcases h.2 with⟨_,e⟩ | ⟨g,cap,cur,rfl,hb,hh,_⟩
 ·omega
 ·refine⟨g,cap,by rw[List.length_map],lt_of_block hh,fun k hk=>?_⟩
  have hk':k<l.length:=by rw[List.length_map] at hk;exact hk
  obtain⟨h1,h2⟩:=rows_at l k hk'
  have e1:=h.cells (g:=g) rfl _ _ h1
  have e2:=h.cells (g:=g) rfl _ _ h2
  rw[add_lit0] at e1 e2
  rw[List.getElem_map]
  exact⟨e1,e2⟩
theorem RdR.keep {w w':World} {B:Nat} {v:Value} {l:List (L×L)} (h:RdR w B v l) (hk:∀ p:Addr,p.block<B→w'.cell? p=w.cell? p):RdR w' B v l:=
 ⟨h.le,fun h0=>by
  obtain⟨g,c,e,hb,hc⟩:=h.at_ h0
  exact⟨g,c,e,hb,fun k hk2=>⟨(hk _ hb).trans (hc k hk2).1,(hk _ hb).trans (hc k hk2).2⟩⟩⟩
theorem RdR.lit3 (w:World) (a b c d e f:L) (ty:TypeId):RdR (w.alloc (.cells #[.string (mkS a),.string (mkS b),.string (mkS c),.string (mkS d),.string (mkS e),.string (mkS f)] ty)) (w.heap.size+1) (.slice (some ⟨w.heap.size,0,none⟩) 3 3) [(a,b),(c,d),(e,f)]:=by
 refine⟨⟨_,3,rfl,Nat.le_refl _⟩,fun _=>⟨w.heap.size,3,rfl,Nat.lt_succ_self _,fun k hk=>?_⟩⟩
 have hn:=heap_alloc_new w (.cells #[.string (mkS a),.string (mkS b),.string (mkS c),.string (mkS d),.string (mkS e),.string (mkS f)] ty)
 match k,hk with
 | 0,_=>exact⟨(cell_row hn 0).1,(cell_row hn 1).1⟩
 | 1,_=>exact⟨(cell_row hn 2).1,(cell_row hn 3).1⟩
 | 2,_=>exact⟨(cell_row hn 4).1,(cell_row hn 5).1⟩
theorem RdR.lit2 (w:World) (a b c d:L) (ty:TypeId):RdR (w.alloc (.cells #[.string (mkS a),.string (mkS b),.string (mkS c),.string (mkS d)] ty)) (w.heap.size+1) (.slice (some ⟨w.heap.size,0,none⟩) 2 2) [(a,b),(c,d)]:=by
 refine⟨⟨_,2,rfl,Nat.le_refl _⟩,fun _=>⟨w.heap.size,2,rfl,Nat.lt_succ_self _,fun k hk=>?_⟩⟩
 have hn:=heap_alloc_new w (.cells #[.string (mkS a),.string (mkS b),.string (mkS c),.string (mkS d)] ty)
 match k,hk with
 | 0,_=>exact⟨(cell_row hn 0).1,(cell_row hn 1).1⟩
 | 1,_=>exact⟨(cell_row hn 2).1,(cell_row hn 3).1⟩
theorem awake_rows:split [32,58] (List.zip ([97,32,98,58,58,99]:L) (List.replicate 6 115))=[[(97,115)],[(98,115)],[],[(99,115)]]:=by decide +kernel
end Jo
end Go.Proofs.YtipdgmjplnibeaaGreatDoor
