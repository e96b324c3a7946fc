/- A script that is too long. No premises. -/
import Derived.Test.YtkkchkkpnlnbgaaGreatDoorOa
import Derived.Test.YtkkchkkpnlnbgaaGreatDoorQb
import Derived.Test.YtkkchkkpnlnbgaaGreatDoorPc
set_option maxRecDepth 100000
set_option maxHeartbeats 3200000
namespace Go.Proofs.YtkkchkkpnlnbgaaGreatDoor
open Go.RowKit Go.Maps
open Pz
namespace Ub
theorem all_big (S:List UInt8) (hS:4096<S.length) (W:World):Calls Tryz.prog 11 #[.string (mkS S)] W fun e W'=>e=.returned (.tuple #[.slice none 0 0,.int .i64 13,.int .i64 0])∧Later W W':=by
 have hsz:(4096:Int)<((mkS S).size:Int):=by rw[mkS_size];omega
 clear hS
 go_enter_defers Tryz.func11,Tryz.ntmps11
 go_wp2
 have l1:=Later.alloc W (.cells #[.slice none 0 0] 39)
 have l2:=Later.alloc (W.alloc (.cells #[.slice none 0 0] 39)) (.cells #[.int .i64 13] 26)
 have l3:=Later.alloc ((W.alloc (.cells #[.slice none 0 0] 39)).alloc (.cells #[.int .i64 13] 26)) (.cells #[.int .i64 0] 3)
 have h1:=heap_alloc_new W (.cells #[.slice none 0 0] 39)
 have h2:=heap_alloc_new (W.alloc (.cells #[.slice none 0 0] 39)) (.cells #[.int .i64 13] 26)
 have h3:=heap_alloc_new ((W.alloc (.cells #[.slice none 0 0] 39)).alloc (.cells #[.int .i64 13] 26)) (.cells #[.int .i64 0] 3)
 rw[World.size_alloc] at h2
 rw[World.size_alloc,World.size_alloc] at h3
 obtain⟨w3,hw3⟩:∃ w3,w3=((W.alloc (.cells #[.slice none 0 0] 39)).alloc (.cells #[.int .i64 13] 26)).alloc (.cells #[.int .i64 0] 3):=⟨_,rfl⟩
 have m0:=((l2.trans l3).block _ (by simp)).trans h1
 have m1:=(l3.block _ (by simp)).trans h2
 have hl:=l1.trans (l2.trans l3)
 rw[←hw3] at m0 m1 h3 hl⊢
 have k0:w3.cell? ⟨W.heap.size,0,none⟩=some (.slice none 0 0):=(cell_row m0 0).1
 have k1:w3.cell? ⟨W.heap.size+1,0,none⟩=some (.int .i64 13):=(cell_row m1 0).1
 have k2:w3.cell? ⟨W.heap.size+1+1,0,none⟩=some (.int .i64 0):=(cell_row h3 0).1
 show ∃ v,(results Tryz.f11 _).run Tryz.prog w3=.ok v w3∧Ending.returned v=.returned (.tuple #[.slice none 0 0,.int .i64 13,.int .i64 0])∧Later W w3
 refine⟨_,?_,rfl,hl⟩
 simp[results,Tryz.results11,go_sem,k0,k1,k2]
theorem parse_big (S:List UInt8) (hS:4096<S.length) (W:World):Calls Tryz.prog 6 #[.string (mkS S)] W fun e W'=>e=.returned (.tuple #[.agg #[.slice none 0 0],.int .i64 13,.int .i64 0])∧Later W W':=
 parse_e S W 13 0 rfl (all_big S hS _)
end Ub
end Go.Proofs.YtkkchkkpnlnbgaaGreatDoor
namespace Go.Proofs.YtkkchkkpnlnbgaaGreatDoor
open Go.RowKit Go.Maps
open Pz (TreeM NodeAt)
namespace Ub
def ElAt (ns:List Sx.Node) (i:Nat):Prop:=∃ n:Sx.Node,ns[i]?=some n∧n.kind=6∧n.kids.length=3∧(ns[n.kids.getD 2 0]?).map Sx.Node.kind=some 6
theorem el_at {ns:List Sx.Node} {i:Nat} (h:ElAt ns i):Vx.El ns:=⟨i,h⟩
theorem not_el {ns:List Sx.Node} {n:Nat} (hn:n=ns.length) (h:∀ j,j<n→¬ ElAt ns j):¬ Vx.El ns:=by
 rintro⟨i,x,h1,h2⟩
 rcases Nat.lt_or_ge i ns.length with h3 | h3
 ·exact h i (by omega) ⟨x,h1,h2⟩
 ·rw[List.getElem?_eq_none h3] at h1;cases h1
theorem step {ns:List Sx.Node} {k:Nat} (h:∀ j,j<k→¬ ElAt ns j) (hk:¬ ElAt ns k):∀ j,j<k+1→¬ ElAt ns j:=fun j hj=>by
 rcases Nat.lt_or_ge j k with h1 | h1
 ·exact h j h1
 ·obtain rfl:j=k:=by omega
  exact hk
theorem kids_at {W:World} {v:Value} {l:List Nat} {k:Nat} (h:W.ownsRow 0 3 1 v l.length (l.map iv)) (hk:k<l.length):∃ g c,v=.slice (some ⟨g,0,none⟩) l.length c∧W.cell? ⟨g,k,none⟩=some (.int .i64 ((l.getD k 0:Nat):Int)):=by
 rcases h.2 with⟨_,hn⟩ | ⟨g,cap,cur,hv,hb,hh,hnc,hcm,hcs,htake⟩
 ·omega
 ·subst hv
  refine⟨g,cap,rfl,?_⟩
  have:=h.cells (g:=g) rfl k (.int .i64 ((l.getD k 0:Nat):Int)) (by rw[List.getElem?_map,List.getElem?_eq_getElem hk,List.getD_eq_getElem?_getD,List.getElem?_eq_getElem hk];rfl)
  rwa[add_lit0] at this
theorem elif_v (W:World) (N n c:Nat) (A:Option Addr) (ns:List Sx.Node) (hn:n=ns.length) (hm:TreeM W N (.slice A n c) ns) (h0:0<n) (h4:n≤40000) (hf:Sx.Forest 0 ns [ns.length-1]):∃ b:Bool,(b=true↔Vx.El ns)∧Calls Tryz.prog 8 #[.slice A n c] W fun e W'=>e=.returned (.bool b)∧W'=W:=by
 obtain⟨b,hb⟩:∃ b:Bool,(b=true↔Vx.El ns):=by
  by_cases h:Vx.El ns
  ·exact⟨true,by simp[h]⟩
  ·exact⟨false,by simp[h]⟩
 refine⟨b,hb,?_⟩
 have HB:=Lib.hid hb
 obtain⟨g,rfl,hat⟩:=(hm.at_).resolve_left (fun e=>by rw[e] at hn;simp at hn;omega)
 have HAT:=Lib.hid hat
 have HF:=Lib.hid hf.kid
 have HN:=Lib.hid hn
 clear hb hm hat hf hn
 go_enter Tryz.func8,Tryz.ntmps8
 go_wp2
 go_loopw [3] (fun i wr=>∃ k:Nat,k≤n∧i=.int .i64 (k:Int)∧(∀ j,j<k→¬ ElAt ns j)∧wr=W) (fun i _=>n-(intOf i).toNat)
 case atStart=>exact⟨0,by omega,rfl,fun j hj=>absurd hj (Nat.not_lt_zero _),by first | rfl | trivial⟩
 case round=>
  obtain⟨k,hk,rfl,hno,rfl⟩:=hrel
  have HNO:=Lib.hid hno
  clear hno
  have hk0:(0:Int)≤(k:Int):=by omega
  by_cases hlt:k<n
  ·have hk1:(k:Int)<(n:Int):=by omega
   have hkn:k<ns.length:=by rw[←HN.out];exact hlt
   obtain⟨v,hna,hne⟩:=HAT.out k hkn
   obtain⟨x,hx⟩:∃ x,x=ns[k]:=⟨_,rfl⟩
   rw[←hx] at hna hne
   have hxk:ns[k]?=some x:=by rw[List.getElem?_eq_getElem hkn,hx]
   have HX:=Lib.hid hxk
   have hkid:=HF.out k hkn
   rw[←hx] at hkid
   have q0:wr.cell? ⟨g,k*8,none⟩=some (.int .i64 (x.kind:Int)):=hna.c0
   have q6:=hna.c6
   clear hx hxk hna
   obtain⟨z,hz⟩:∃ z:Int,z=(x.kind:Int):=⟨_,rfl⟩
   rw[←hz] at q0
   by_cases h6:x.kind=6
   ·have e6:(z==6)=true:=by rw[hz,h6];rfl
    by_cases h3:x.kids.length=3
    ·obtain⟨gk,ck,ek,q2⟩:=kids_at (k:=2) hne.k (by omega)
     rw[ek,h3] at q6
     obtain⟨m,hmm⟩:∃ m,m=x.kids.getD 2 0:=⟨_,rfl⟩
     rw[←hmm] at q2
     have hmk:m<k:=by
      have:=hkid m (by
       rw[hmm,List.getD_eq_getElem?_getD,List.getElem?_eq_getElem (show 2<x.kids.length by omega)]
       exact List.getElem_mem _)
      omega
     have hmn:m<ns.length:=by omega
     obtain⟨v',hna',_⟩:=HAT.out m hmn
     have q7:wr.cell? ⟨g,m*8,none⟩=some (.int .i64 (ns[m].kind:Int)):=hna'.c0
     have hk7:(ns[m]?).map Sx.Node.kind=some ns[m].kind:=by rw[List.getElem?_eq_getElem hmn];rfl
     obtain⟨y,hy⟩:∃ y:Int,y=(ns[m].kind:Int):=⟨_,rfl⟩
     rw[←hy] at q7
     have hm0:(0:Int)≤(m:Int):=by omega
     have hm1:(m:Int)<(n:Int):=by omega
     by_cases h7:ns[m].kind=6
     ·have e7:(y==6)=true:=by rw[hy,h7];rfl
      have HE:=Lib.hid (show b=true from HB.out.2 (el_at (i:=k) ⟨x,HX.out,h6,h3,by rw[←hmm,hk7,h7]⟩))
      clear hkid hne ek hz hy h7 hk7 hna' hmm h6 h3
      go_wp2
      go_ret
      exact⟨by rw[HE.out];rfl,by first | rfl | trivial⟩
     ·have e7:(y==6)=false:=by rw[hy];simp;omega
      have HE:=Lib.hid (show ¬ ElAt ns k from by
       rintro⟨x',a1,a2,a3,a4⟩
       obtain rfl:=Option.some.inj (HX.out.symm.trans a1)
       rw[←hmm,hk7] at a4
       exact h7 (Option.some.inj a4))
      clear hkid hne ek hz hy h7 hk7 hna' hmm h6 h3
      go_wp2
      go_roundw
      case rel=>exact⟨k+1,by omega,by go_num,step HNO.out HE.out,by first | rfl | trivial⟩
      case measure=>simp[intOf];omega
    ·obtain⟨Ak,ck,ek,hck⟩:=own_any hne.k
     rw[ek] at q6
     obtain⟨L,hL⟩:∃ L,L=x.kids.length:=⟨_,rfl⟩
     rw[←hL] at q6
     have e3:((L:Int)==3)=false:=by rw[hL];simp;omega
     have HE:=Lib.hid (show ¬ ElAt ns k from by
      rintro⟨x',a1,a2,a3,a4⟩
      obtain rfl:=Option.some.inj (HX.out.symm.trans a1)
      exact h3 a3)
     clear hkid hne ek hz hL h6 h3 hck
     go_wp2
     go_roundw
     case rel=>exact⟨k+1,by omega,by go_num,step HNO.out HE.out,by first | rfl | trivial⟩
     case measure=>simp[intOf];omega
   ·have e6:(z==6)=false:=by rw[hz];simp;omega
    have HE:=Lib.hid (show ¬ ElAt ns k from by
     rintro⟨x',a1,a2,a3,a4⟩
     obtain rfl:=Option.some.inj (HX.out.symm.trans a1)
     exact h6 a2)
    clear hkid hne hz h6 q6
    go_wp2
    go_roundw
    case rel=>exact⟨k+1,by omega,by go_num,step HNO.out HE.out,by first | rfl | trivial⟩
    case measure=>simp[intOf];omega
  ·have hk1:¬ (k:Int)<(n:Int):=by omega
   have HE:=Lib.hid (show b=false from by
    have h1:=not_el HN.out (fun j hj=>HNO.out j (by omega))
    cases hb:b with
    | false=>rfl
    | true=>exact absurd (HB.out.1 hb) h1)
   go_wp2
   go_ret
   exact⟨by rw[HE.out];rfl,by first | rfl | trivial⟩
end Ub
end Go.Proofs.YtkkchkkpnlnbgaaGreatDoor
