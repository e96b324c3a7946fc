/- Scripts' trees: two runs of the parser side by side: the relation, and what joins two runs. No premises. -/
import Derived.Test.YtkkchkkpnlnbgaaGreatDoorNn
import Derived.Test.YtkkchkkpnlnbgaaGreatDoorOa
import Derived.BigQuiet
import Derived.Test.YtkkchkkpnlnbgaaGreatDoorNb
set_option maxRecDepth 100000
set_option maxHeartbeats 3200000
namespace Go.Proofs.YtkkchkkpnlnbgaaGreatDoor
namespace Sx
open Lx (Tok)
structure Same (t u:Tok):Prop where
 kind:u.kind=t.kind
 text:u.text=t.text
 body:t.kind≠3→u.body=t.body
def strip (n:Node):Node:={ n with left:=0 }
end Sx
end Go.Proofs.YtkkchkkpnlnbgaaGreatDoor
namespace Go.Proofs.YtkkchkkpnlnbgaaGreatDoor
open Go.RowKit Go.Maps
open Lx (nl Tok)
open Pz
theorem self_text (l:List UInt8):((mkS l).toList != (mkS l).toList)=false:=by simp
theorem texts_v (A A':Option Addr) (n c c':Nat) (l:List (List UInt8)) (w:World) (hr:Rd w w.heap.size A n (l.map sv)) (hr':Rd w w.heap.size A' n (l.map sv)) (hn:n≤maxLen) :
  Calls Tryz.prog 34 #[.slice A n c,.slice A' n c'] w fun e w'=>e=.returned (.bool true)∧Later w w':=by
 unfold maxLen at hn
 have HR:=Lib.hid hr
 have HR':=Lib.hid hr'
 clear hr hr'
 go_enter Tryz.func34,Tryz.ntmps34
 go_wp2
 go_loopw [5] (fun i wr=>∃ k:Nat,k≤n∧i=.int .i64 (k:Int)∧Later w wr) (fun i _=>n-(intOf i).toNat)
 case atStart=>exact⟨0,by omega,rfl,Later.refl _⟩
 case round=>
  obtain⟨k,hk,rfl,hb⟩:=hrel
  have HB:=Lib.hid hb
  clear hb
  have hk0:(0:Int)≤(k:Int):=by omega
  by_cases hlt:k<n
  ·obtain⟨ad,hl1,rfl,_,hc⟩:=(HR.out.below HB.out).at_map (k:=k) hlt
   obtain⟨ad',hl2,rfl,_,hc'⟩:=(HR'.out.below HB.out).at_map (k:=k) hlt
   have hk1:(k:Int)<(n:Int):=by omega
   obtain⟨x,hx⟩:∃ x,x=l[k]:=⟨_,rfl⟩
   rw[←hx] at hc hc'
   have hc1:wr.cell? (ad.add k)=some (.string (mkS x)):=hc
   have hc2:wr.cell? (ad'.add k)=some (.string (mkS x)):=hc'
   have e1:=self_text x
   clear hc hc' hx hl1 hl2
   go_wp2
   go_quiet (fail)
   go_wp2
   go_roundw
   case rel=>exact⟨k+1,by omega,by go_num,Later.trans HB.out (Below.drewN _ _ _)⟩
   case measure=>simp[intOf];omega
  ·have hk1:¬ (k:Int)<(n:Int):=by omega
   go_wp2
   go_ret
   exact⟨rfl,HB.out⟩
end Go.Proofs.YtkkchkkpnlnbgaaGreatDoor
namespace Go.Proofs.YtkkchkkpnlnbgaaGreatDoor
open Go.RowKit Go.Maps
open Lx (nl Tok)
open Pz
def RdR (w:World) (B:Nat) (A:Option Addr) (n:Nat) (rs:List Sx.Arw):Prop:=rs.length=n∧∀ (k:Nat) (h:k<rs.length),∃ g,A=some ⟨g,0,none⟩∧g<B∧w.cell? ⟨g,k*4,none⟩=some (.int .i64 (rs[k].fd:Int))∧w.cell? ⟨g,k*4+1,none⟩=some (.string (mkS rs[k].op))∧w.cell? ⟨g,k*4+2,none⟩=some (.string (mkS rs[k].word))∧w.cell? ⟨g,k*4+3,none⟩=some (.string (mkS rs[k].body))
theorem RdR.below {w w':World} {B n:Nat} {A:Option Addr} {rs:List Sx.Arw} (h:RdR w B A n rs) (hb:Below B w w'):RdR w' B A n rs:=by
 refine⟨h.1,fun k hk=>?_⟩
 obtain⟨g,e,hg,c0,c1,c2,c3⟩:=h.2 k hk
 exact⟨g,e,hg,(hb.cell (p:=⟨g,k*4,none⟩) hg).trans c0,(hb.cell (p:=⟨g,k*4+1,none⟩) hg).trans c1,(hb.cell (p:=⟨g,k*4+2,none⟩) hg).trans c2,(hb.cell (p:=⟨g,k*4+3,none⟩) hg).trans c3⟩
theorem RdR.more {w:World} {B B' n:Nat} {A:Option Addr} {rs:List Sx.Arw} (h:RdR w B A n rs) (hB:B≤B'):RdR w B' A n rs:=by
 refine⟨h.1,fun k hk=>?_⟩
 obtain⟨g,e,hg,c⟩:=h.2 k hk
 exact⟨g,e,Nat.lt_of_lt_of_le hg hB,c⟩
theorem rcs_at:∀ (rs:List Sx.Arw) (k:Nat) (hk:k<rs.length) (i:Nat) (_:i<4),(rs.flatMap rcs)[k*4+i]?=(rcs rs[k])[i]?
 | [],k,hk,_,_=>by simp at hk
 | x::rs,0,_,i,hi=>by
  rw[List.flatMap_cons,List.getElem?_append_left (by simp[rcs];omega)]
  simp
 | x::rs,k+1,hk,i,hi=>by
  have hl:(rcs x).length=4:=rfl
  rw[List.flatMap_cons,List.getElem?_append_right (by omega),hl,show (k+1)*4+i-4=k*4+i by omega,rcs_at rs k (by simpa using hk) i hi]
  rfl
theorem RdR.of_own {w:World} {A:Option Addr} {c:Nat} {rs:List Sx.Arw} (h:w.ownsRow 0 79 4 (.slice A rs.length c) rs.length (rs.flatMap rcs)):RdR w w.heap.size A rs.length rs:=by
 refine⟨rfl,fun k hk=>?_⟩
 rcases h.2 with⟨hv,hn⟩ | ⟨g,cap,cur,hv,hb,hh,hnc,hcm,hcs,htake⟩
 ·omega
 ·injection hv with e1 e2 e3
  subst e1
  have hat:∀ i,i<4→∀ u,(rcs rs[k])[i]?=some u→w.cell? ⟨g,k*4+i,none⟩=some u:=fun i hi u hu=>by
   have hc:=h.cells (g:=g) rfl (k*4+i) u (by rw[rcs_at rs k hk i hi];exact hu)
   rwa[add_lit0] at hc
  have c0:=hat 0 (by omega) _ rfl
  exact⟨g,rfl,World.block_lt_of_cell? w _ c0,c0,hat 1 (by omega) _ rfl,hat 2 (by omega) _ rfl,hat 3 (by omega) _ rfl⟩
theorem node_v (w:World) (kd st ln ln':Int) (t:List UInt8) (f:Bool) (ws:List (List UInt8)) (rs:List Sx.Arw) (ks:List Nat) (Aw Ar Ak Aw' Ar' Ak':Option Addr) (nw nr nk cw cr ck cw' cr' ck':Nat)
  (hw:Rd w w.heap.size Aw nw (ws.map sv)) (hw':Rd w w.heap.size Aw' nw (ws.map sv)) (hr:RdR w w.heap.size Ar nr rs) (hr':RdR w w.heap.size Ar' nr rs) (hk:Rd w w.heap.size Ak nk (ks.map iv)) (hk':Rd w w.heap.size Ak' nk (ks.map iv)) (hnw:nw≤maxLen) (hnr:nr≤maxLen) (hnk:nk≤maxLen) :
  Calls Tryz.prog 17 #[.agg #[.int .i64 kd,.string (mkS t),.bool f,.slice Aw nw cw,.int .i64 st,.slice Ar nr cr,.slice Ak nk ck,.int .i64 ln],.agg #[.int .i64 kd,.string (mkS t),.bool f,.slice Aw' nw cw',.int .i64 st,.slice Ar' nr cr',.slice Ak' nk ck',.int .i64 ln']] w fun e w'=>e=.returned (.bool true)∧Later w w':=by
 have HW:=Lib.hid hw
 have HW':=Lib.hid hw'
 have HR:=Lib.hid hr
 have HR':=Lib.hid hr'
 have HK:=Lib.hid hk
 have HK':=Lib.hid hk'
 have HNW:=Lib.hid hnw
 have e0:(kd != kd)=false:=by simp
 have e1:=self_text t
 have e2:(f != f)=false:=by simp
 have e3:(st != st)=false:=by simp
 have e4:((nk:Int) != (nk:Int))=false:=by simp
 have e5:((nr:Int) != (nr:Int))=false:=by simp
 clear hw hw' hr hr' hk hk'
 unfold maxLen at hnw hnr hnk
 have HT:=Lib.hid (show ∀ W,Later w W→Calls Tryz.prog 34 #[.slice Aw nw cw,.slice Aw' nw cw'] W fun e W'=>e=.returned (.bool true)∧Later W W' from fun W hW=>texts_v Aw Aw' nw cw cw' ws W ((HW.out.below hW).more hW.size) ((HW'.out.below hW).more hW.size) HNW.out)
 go_enter Tryz.func17,Tryz.ntmps17
 go_wp2_with (go_at_call 34;fail)
 (with_reducible refine(HT.out _ ((Later.alloc _ _).trans (Later.alloc _ _))).mono ?_)
 rintro e w1 ⟨rfl,hl1⟩
 have hb1:=later_cells ((Later.alloc (w.alloc (.cells #[.int .i64 kd,.string (mkS t),.bool f,.slice Aw nw cw,.int .i64 st,.slice Ar nr cr,.slice Ak nk ck,.int .i64 ln] 37)) (.cells #[.int .i64 kd,.string (mkS t),.bool f,.slice Aw' nw cw',.int .i64 st,.slice Ar' nr cr',.slice Ak' nk ck',.int .i64 ln'] 37)).trans hl1) (heap_alloc_new w (.cells #[.int .i64 kd,.string (mkS t),.bool f,.slice Aw nw cw,.int .i64 st,.slice Ar nr cr,.slice Ak nk ck,.int .i64 ln] 37))
 have hb2:w1.heap[w.heap.size+1]?=some (.cells #[.int .i64 kd,.string (mkS t),.bool f,.slice Aw' nw cw',.int .i64 st,.slice Ar' nr cr',.slice Ak' nk ck',.int .i64 ln'] 37 (0,0)):=by(have h:=later_cells hl1 (heap_alloc_new (w.alloc (.cells #[.int .i64 kd,.string (mkS t),.bool f,.slice Aw nw cw,.int .i64 st,.slice Ar nr cr,.slice Ak nk ck,.int .i64 ln] 37)) (.cells #[.int .i64 kd,.string (mkS t),.bool f,.slice Aw' nw cw',.int .i64 st,.slice Ar' nr cr',.slice Ak' nk ck',.int .i64 ln'] 37));simpa using h)
 have HL1:=Lib.hid (((Later.alloc w (.cells #[.int .i64 kd,.string (mkS t),.bool f,.slice Aw nw cw,.int .i64 st,.slice Ar nr cr,.slice Ak nk ck,.int .i64 ln] 37)).trans (Later.alloc _ (.cells #[.int .i64 kd,.string (mkS t),.bool f,.slice Aw' nw cw',.int .i64 st,.slice Ar' nr cr',.slice Ak' nk ck',.int .i64 ln'] 37))).trans hl1)
 have HB1:=Lib.hid hb1
 have HB2:=Lib.hid hb2
 have x0:w1.cell? ⟨w.heap.size,0,none⟩=some (.int .i64 kd):=(cell_row hb1 0).1
 have x1:w1.cell? ⟨w.heap.size,1,none⟩=some (.string (mkS t)):=(cell_row hb1 1).1
 have x2:w1.cell? ⟨w.heap.size,2,none⟩=some (.bool f):=(cell_row hb1 2).1
 have x3:w1.cell? ⟨w.heap.size,3,none⟩=some (.slice Aw nw cw):=(cell_row hb1 3).1
 have x4:w1.cell? ⟨w.heap.size,4,none⟩=some (.int .i64 st):=(cell_row hb1 4).1
 have x5:w1.cell? ⟨w.heap.size,5,none⟩=some (.slice Ar nr cr):=(cell_row hb1 5).1
 have x6:w1.cell? ⟨w.heap.size,6,none⟩=some (.slice Ak nk ck):=(cell_row hb1 6).1
 have y0:w1.cell? ⟨w.heap.size+1,0,none⟩=some (.int .i64 kd):=(cell_row hb2 0).1
 have y1:w1.cell? ⟨w.heap.size+1,1,none⟩=some (.string (mkS t)):=(cell_row hb2 1).1
 have y2:w1.cell? ⟨w.heap.size+1,2,none⟩=some (.bool f):=(cell_row hb2 2).1
 have y3:w1.cell? ⟨w.heap.size+1,3,none⟩=some (.slice Aw' nw cw'):=(cell_row hb2 3).1
 have y4:w1.cell? ⟨w.heap.size+1,4,none⟩=some (.int .i64 st):=(cell_row hb2 4).1
 have y5:w1.cell? ⟨w.heap.size+1,5,none⟩=some (.slice Ar' nr cr'):=(cell_row hb2 5).1
 have y6:w1.cell? ⟨w.heap.size+1,6,none⟩=some (.slice Ak' nk ck'):=(cell_row hb2 6).1
 clear hl1 hb1 hb2
 go_wp2
 go_loopw [6] (fun i wr=>∃ k:Nat,k≤nk∧i=.int .i64 (k:Int)∧Later w1 wr) (fun i _=>nk-(intOf i).toNat)
 case atStart=>exact⟨0,by omega,rfl,Later.refl _⟩
 case round=>
  obtain⟨k,hk,rfl,hb⟩:=hrel
  have HB:=Lib.hid hb
  have hb1:=later_cells hb HB1.out
  have hb2:=later_cells hb HB2.out
  have x6:wr.cell? ⟨w.heap.size,6,none⟩=some (.slice Ak nk ck):=(cell_row hb1 6).1
  have y6:wr.cell? ⟨w.heap.size+1,6,none⟩=some (.slice Ak' nk ck'):=(cell_row hb2 6).1
  have hk0:(0:Int)≤(k:Int):=by omega
  by_cases hlt:k<nk
  ·obtain⟨ad,hl1,rfl,_,hc⟩:=(HK.out.below (HL1.out.trans HB.out)).at_map (k:=k) hlt
   obtain⟨ad',hl2,rfl,_,hc'⟩:=(HK'.out.below (HL1.out.trans HB.out)).at_map (k:=k) hlt
   have hk1:(k:Int)<(nk:Int):=by omega
   obtain⟨x,hx⟩:∃ x,x=ks[k]:=⟨_,rfl⟩
   rw[←hx] at hc hc'
   have hc1:wr.cell? (ad.add k)=some (.int .i64 (x:Int)):=hc
   have hc2:wr.cell? (ad'.add k)=some (.int .i64 (x:Int)):=hc'
   have e9:((x:Int) != (x:Int))=false:=by simp
   clear hc hc' hx hl1 hl2 hb1 hb2 hb
   go_wp2
   go_quiet (fail)
   go_wp2
   go_roundw
   case rel=>exact⟨k+1,by omega,by go_num,Later.trans HB.out (Below.drewN _ _ _)⟩
   case measure=>simp[intOf];omega
  ·have hk1:¬ (k:Int)<(nk:Int):=by omega
   clear hb1 hb2 hb
   go_wp2
   obtain⟨wA,rfl⟩:∃ wA,wA=wr:=⟨_,rfl⟩
   clear x6 y6
   go_loopw [7] (fun i wr=>∃ k:Nat,k≤nr∧i=.int .i64 (k:Int)∧Later wA wr) (fun i _=>nr-(intOf i).toNat)
   case atStart=>exact⟨0,by omega,rfl,Later.refl _⟩
   case round=>
    obtain⟨j,hj,rfl,hb⟩:=hrel
    have HBB:=Lib.hid hb
    have hb1:=later_cells hb (later_cells HB.out HB1.out)
    have hb2:=later_cells hb (later_cells HB.out HB2.out)
    have x5:wr.cell? ⟨w.heap.size,5,none⟩=some (.slice Ar nr cr):=(cell_row hb1 5).1
    have y5:wr.cell? ⟨w.heap.size+1,5,none⟩=some (.slice Ar' nr cr'):=(cell_row hb2 5).1
    have hj0:(0:Int)≤(j:Int):=by omega
    by_cases hlt2:j<nr
    ·have hlr:=(HL1.out.trans HB.out).trans HBB.out
     obtain⟨g,rfl,_,a0,a1,a2,a3⟩:=(HR.out.below hlr).2 j (by have:=HR.out.1;omega)
     obtain⟨g',rfl,_,b0,b1,b2,b3⟩:=(HR'.out.below hlr).2 j (by have:=HR.out.1;omega)
     have hj1:(j:Int)<(nr:Int):=by omega
     obtain⟨x,hx⟩:∃ x,x=rs[j]'(by have:=HR.out.1;omega):=⟨_,rfl⟩
     rw[←hx] at a0 a1 a2 a3 b0 b1 b2 b3
     have f1:=self_text x.op
     have f2:=self_text x.word
     have f3:=self_text x.body
     clear hx hb1 hb2 hb hlr
     go_wp2
     go_quiet (fail)
     go_wp2
     go_roundw
     case rel=>exact⟨j+1,by omega,by go_num,Later.trans HBB.out (Below.drewN _ _ _)⟩
     case measure=>simp[intOf];omega
    ·have hj1:¬ (j:Int)<(nr:Int):=by omega
     clear hb1 hb2 hb
     go_wp2
     go_ret
     exact⟨rfl,(HL1.out.trans HB.out).trans HBB.out⟩
end Go.Proofs.YtkkchkkpnlnbgaaGreatDoor
namespace Go.Proofs.YtkkchkkpnlnbgaaGreatDoor
open Go.RowKit Go.Maps
open Lx (nl Tok)
open Pz
abbrev nodeV (n:Sx.Node) (Aw Ar Ak:Option Addr) (cw cr ck:Nat) (ln:Int):Value:=.agg #[.int .i64 (n.kind:Int),.string (mkS n.text),.bool n.flag,.slice Aw n.words.length cw,.int .i64 (n.sets:Int),.slice Ar n.redirs.length cr,.slice Ak n.kids.length ck,.int .i64 ln]
structure NodeC (W:World) (g o:Nat) (n:Sx.Node) (Aw Ar Ak:Option Addr) (cw cr ck:Nat) (ln:Int):Prop where
 c0:W.cell? ⟨g,o,none⟩=some (.int .i64 (n.kind:Int))
 c1:W.cell? ⟨g,o+1,none⟩=some (.string (mkS n.text))
 c2:W.cell? ⟨g,o+2,none⟩=some (.bool n.flag)
 c3:W.cell? ⟨g,o+3,none⟩=some (.slice Aw n.words.length cw)
 c4:W.cell? ⟨g,o+4,none⟩=some (.int .i64 (n.sets:Int))
 c5:W.cell? ⟨g,o+5,none⟩=some (.slice Ar n.redirs.length cr)
 c6:W.cell? ⟨g,o+6,none⟩=some (.slice Ak n.kids.length ck)
 c7:W.cell? ⟨g,o+7,none⟩=some (.int .i64 ln)
 w:Rd W W.heap.size Aw n.words.length (n.words.map sv)
 r:RdR W W.heap.size Ar n.redirs.length n.redirs
 k:Rd W W.heap.size Ak n.kids.length (n.kids.map iv)
 mw:n.words.length≤maxLen
 mr:n.redirs.length≤maxLen
 ml:n.kids.length≤maxLen
theorem NodeC.later {W W':World} {g o:Nat} {n:Sx.Node} {Aw Ar Ak:Option Addr} {cw cr ck:Nat} {ln:Int} (h:NodeC W g o n Aw Ar Ak cw cr ck ln) (hl:Later W W'):NodeC W' g o n Aw Ar Ak cw cr ck ln:=
 ⟨cell_keeps hl h.c0,cell_keeps hl h.c1,cell_keeps hl h.c2,cell_keeps hl h.c3,cell_keeps hl h.c4,cell_keeps hl h.c5,cell_keeps hl h.c6,cell_keeps hl h.c7,(h.w.below hl).more hl.size,(h.r.below hl).more hl.size,(h.k.below hl).more hl.size,h.mw,h.mr,h.ml⟩
theorem NodeC.alike {W:World} {g o:Nat} {n m:Sx.Node} {Aw Ar Ak:Option Addr} {cw cr ck:Nat} {ln:Int} (h:NodeC W g o m Aw Ar Ak cw cr ck ln) (e:Sx.strip m=Sx.strip n):NodeC W g o n Aw Ar Ak cw cr ck ln:=by
 cases n;cases m
 unfold Sx.strip at e
 simp only[Sx.Node.mk.injEq] at e
 obtain⟨rfl,rfl,rfl,rfl,rfl,rfl,rfl,_⟩:=e
 exact⟨h.c0,h.c1,h.c2,h.c3,h.c4,h.c5,h.c6,h.c7,h.w,h.r,h.k,h.mw,h.mr,h.ml⟩
def RdN (W:World) (A:Option Addr) (n:Nat) (ns:List Sx.Node):Prop:=ns.length=n∧∀ (k:Nat) (h:k<ns.length),∃ g Aw Ar Ak cw cr ck ln,A=some ⟨g,0,none⟩∧NodeC W g (k*8) ns[k] Aw Ar Ak cw cr ck ln
theorem RdN.later {W W':World} {A:Option Addr} {n:Nat} {ns:List Sx.Node} (h:RdN W A n ns) (hl:Later W W'):RdN W' A n ns:=by
 refine⟨h.1,fun k hk=>?_⟩
 obtain⟨g,Aw,Ar,Ak,cw,cr,ck,ln,e,h1⟩:=h.2 k hk
 exact⟨g,Aw,Ar,Ak,cw,cr,ck,ln,e,h1.later hl⟩
theorem own_most {w:World} {base size n:Nat} {e:TypeId} {v:Value} {xs:List Value} (h:w.ownsRow base e size v n xs):n≤maxLen:=by
 rcases h.2 with⟨_,h0⟩ | ⟨g,cap,cur,_,_,_,hnc,hcm,_⟩
 ·rw[h0];exact Nat.zero_le _
 ·exact Nat.le_trans hnc hcm
theorem RdN.of_tree {W:World} {N n c:Nat} {A:Option Addr} {ns:List Sx.Node} (h:TreeM W N (.slice A n c) ns) (hn:ns.length=n):RdN W A n ns:=by
 refine⟨hn,fun k hk=>?_⟩
 rcases h.at_ with h0 | ⟨g,rfl,hat⟩
 ·rw[h0] at hk;cases hk
 ·obtain⟨v,h1,h2⟩:=hat k hk
  obtain⟨Aw,cw,e1,_⟩:=own_any h2.w
  obtain⟨Ar,cr,e2,_⟩:=own_any h2.r
  obtain⟨Ak,ck,e3,_⟩:=own_any h2.k
  have hw:=h2.w
  have hr:=h2.r
  have hk:=h2.k
  rw[e1] at hw
  rw[e2] at hr
  rw[e3] at hk
  obtain⟨ln,hln⟩:∃ ln:Int,lnv N ns[k].left=.int .i64 ln:=⟨_,rfl⟩
  exact⟨g,Aw,Ar,Ak,cw,cr,ck,ln,rfl,h1.c0,h1.c1,h1.c2,by rw[h1.c3,e1],h1.c4,by rw[h1.c5,e2],by rw[h1.c6,e3],by rw[h1.c7,hln],Rd.of_own hw,RdR.of_own hr,Rd.of_own hk,own_most hw,own_most hr,own_most hk⟩
theorem same_v (A A':Option Addr) (n c c':Nat) (ns ns':List Sx.Node) (w:World) (hr:RdN w A n ns) (hr':RdN w A' n ns') (hs:ns'.map Sx.strip=ns.map Sx.strip) (hn:n≤maxLen) :
  Calls Tryz.prog 9 #[.slice A n c,.slice A' n c',.bool false] w fun e w'=>e=.returned (.bool true)∧Later w w':=by
 unfold maxLen at hn
 have HR:=Lib.hid hr
 have HR':=Lib.hid hr'
 have HL:=Lib.hid hr.1
 have HS:=Lib.hid hs
 clear hr hr' hs
 go_enter Tryz.func9,Tryz.ntmps9
 go_wp2
 go_loopw [7] (fun i wr=>∃ k:Nat,k≤n∧i=.int .i64 (k:Int)∧Later w wr) (fun i _=>n-(intOf i).toNat)
 case atStart=>exact⟨0,by omega,rfl,Later.refl _⟩
 case round=>
  obtain⟨k,hk,rfl,hb⟩:=hrel
  have HB:=Lib.hid hb
  clear hb
  by_cases hlt:k<n
  ·have hkl:k<ns.length:=by have:=HL.out;omega
   have hkl':k<ns'.length:=by have:=HR'.out.1;omega
   obtain⟨g,Aw,Ar,Ak,cw,cr,ck,ln,rfl,h1⟩:=(HR.out.later HB.out).2 k hkl
   obtain⟨g',Aw',Ar',Ak',cw',cr',ck',ln',rfl,h2⟩:=(HR'.out.later HB.out).2 k hkl'
   have hst:Sx.strip ns'[k]=Sx.strip ns[k]:=by
    have:=congrArg (fun l=>l[k]?) HS.out
    simpa [List.getElem?_map,List.getElem?_eq_getElem hkl,List.getElem?_eq_getElem hkl'] using this
   replace h2:=h2.alike hst
   obtain⟨x,hx⟩:∃ x,x=ns[k]:=⟨_,rfl⟩
   rw[←hx] at h1 h2
   have H1:=Lib.hid h1
   have H2:=Lib.hid h2
   have hk0:(0:Int)≤(k:Int):=by omega
   have hk1:(k:Int)<(n:Int):=by omega
   clear h1 h2 hx hst hkl hkl'
   have CS:=Lib.hid (show ∀ W,Later wr W→Calls Tryz.prog 17 #[nodeV x Aw Ar Ak cw cr ck ln,nodeV x Aw' Ar' Ak' cw' cr' ck' ln'] W fun e w'=>e=.returned (.bool true)∧Later W w' from fun W h=>by
    have a:=H1.out.later h
    have b:=H2.out.later h
    exact node_v W x.kind x.sets ln ln' x.text x.flag x.words x.redirs x.kids Aw Ar Ak Aw' Ar' Ak' _ _ _ cw cr ck cw' cr' ck' a.w b.w a.r b.r a.k b.k a.mw a.mr a.ml)
   go_wp2
   refine wp_region_owes (by kernel_rfl) (fun W=>Later wr W) (Later) (Later.refl) [Sp.val (.slice (some ⟨g,0,none⟩) n c),Sp.val (.int .i64 (k:Int)),Sp.val (.pointer (some ⟨g,k*8,none⟩)),Sp.val ((nodeV x Aw Ar Ak cw cr ck ln)),Sp.val (.slice (some ⟨g',0,none⟩) n c'),Sp.val (.int .i64 (k:Int)),Sp.val (.pointer (some ⟨g',k*8,none⟩)),Sp.val ((nodeV x Aw' Ar' Ak' cw' cr' ck' ln')),Sp.val (.bool true),Sp.val (.bool true)] (by kernel_rfl) (Later.drew wr) ?_ ?_
   ·refine⟨?_,?_,?_,?_,?_,?_,?_,?_,?_,?_,trivial⟩
    ·
     refine fun a w hC hs=>.inl ⟨?_,?_⟩
     ·rfl
     have e0:a.tmps.getD 0 undef=.slice (some ⟨g,0,none⟩) n c:=hs.free 0 rfl
     exact⟨e0,hC,Later.refl _⟩
    ·
     refine fun a w hC hs=>.inl ⟨?_,?_⟩
     ·rfl
     have e7:a.tmps.getD 7 undef=.int .i64 (k:Int):=hs.free 7 rfl
     exact⟨e7,hC,Later.refl _⟩
    ·
     refine fun a w hC hs=>.inl ⟨?_,?_⟩
     ·rfl
     have e20:a.tmps.getD 20 undef=.slice (some ⟨g,0,none⟩) n c:=hs.dep 0 _ rfl rfl
     have e21:a.tmps.getD 21 undef=.int .i64 (k:Int):=hs.dep 1 _ rfl rfl
     refine ValWp.pure (v:=.pointer (some ⟨g,k*8,none⟩)) (fun K' hK'=>?_) ⟨rfl,hC,Later.refl _⟩
     simp only[ValWp,execOp,Act.eval,e20,e21]
     go_simp
     all_goals exact hK'
    ·
     refine fun a w hC hs=>.inl ⟨?_,?_⟩
     ·rfl
     have e22:a.tmps.getD 22 undef=.pointer (some ⟨g,k*8,none⟩):=hs.dep 2 _ rfl rfl
     have hz:=H1.out.later hC
     obtain⟨q0,q1,q2,q3,q4,q5,q6,q7,_,_,_,_,_,_⟩:=hz
     refine ValWp.pure (v:=(nodeV x Aw Ar Ak cw cr ck ln)) (fun K' hK'=>?_) ⟨rfl,hC,Later.refl _⟩
     simp only[ValWp,execOp,Act.eval,e22]
     go_simp
     all_goals exact hK'
    ·
     refine fun a w hC hs=>.inl ⟨?_,?_⟩
     ·rfl
     have e1:a.tmps.getD 1 undef=.slice (some ⟨g',0,none⟩) n c':=hs.free 1 rfl
     exact⟨e1,hC,Later.refl _⟩
    ·
     refine fun a w hC hs=>.inl ⟨?_,?_⟩
     ·rfl
     have e7:a.tmps.getD 7 undef=.int .i64 (k:Int):=hs.free 7 rfl
     exact⟨e7,hC,Later.refl _⟩
    ·
     refine fun a w hC hs=>.inl ⟨?_,?_⟩
     ·rfl
     have e24:a.tmps.getD 24 undef=.slice (some ⟨g',0,none⟩) n c':=hs.dep 4 _ rfl rfl
     have e25:a.tmps.getD 25 undef=.int .i64 (k:Int):=hs.dep 5 _ rfl rfl
     refine ValWp.pure (v:=.pointer (some ⟨g',k*8,none⟩)) (fun K' hK'=>?_) ⟨rfl,hC,Later.refl _⟩
     simp only[ValWp,execOp,Act.eval,e24,e25]
     go_simp
     all_goals exact hK'
    ·
     refine fun a w hC hs=>.inl ⟨?_,?_⟩
     ·rfl
     have e26:a.tmps.getD 26 undef=.pointer (some ⟨g',k*8,none⟩):=hs.dep 6 _ rfl rfl
     have hz:=H2.out.later hC
     obtain⟨q0,q1,q2,q3,q4,q5,q6,q7,_,_,_,_,_,_⟩:=hz
     refine ValWp.pure (v:=(nodeV x Aw' Ar' Ak' cw' cr' ck' ln')) (fun K' hK'=>?_) ⟨rfl,hC,Later.refl _⟩
     simp only[ValWp,execOp,Act.eval,e26]
     go_simp
     all_goals exact hK'
    ·
     refine fun a w hC hs=>.inl ⟨?_,?_⟩
     ·rfl
     have e23:a.tmps.getD 23 undef=(nodeV x Aw Ar Ak cw cr ck ln):=hs.dep 3 _ rfl rfl
     have e27:a.tmps.getD 27 undef=(nodeV x Aw' Ar' Ak' cw' cr' ck' ln'):=hs.dep 7 _ rfl rfl
     refine ValWp.call #[(nodeV x Aw Ar Ak cw cr ck ln),(nodeV x Aw' Ar' Ak' cw' cr' ck' ln')] rfl rfl Tryz.func17 rfl rfl (by simp only[List.map_toArray,List.map_cons,List.map_nil,Act.eval,e23,e27]) ?_
     refine(CS.out w hC).mono ?_
     rintro r w' ⟨rfl,hb⟩
     exact⟨_,rfl,rfl,Later.trans hC hb,hb⟩
    ·
     refine fun a w hC hs=>.inl ⟨?_,?_⟩
     ·rfl
     have e28:a.tmps.getD 28 undef=.bool true:=hs.dep 8 _ rfl rfl
     exact⟨e28,hC,Later.refl _⟩
   ·intro a W hC hd hsz hfree hs
    obtain⟨u6,hu6⟩:∃ u,u=a.tmps.getD 6 undef:=⟨_,rfl⟩
    obtain⟨u14,hu14⟩:∃ u,u=a.tmps.getD 14 undef:=⟨_,rfl⟩
    obtain⟨u15,hu15⟩:∃ u,u=a.tmps.getD 15 undef:=⟨_,rfl⟩
    obtain⟨u16,hu16⟩:∃ u,u=a.tmps.getD 16 undef:=⟨_,rfl⟩
    obtain⟨u17,hu17⟩:∃ u,u=a.tmps.getD 17 undef:=⟨_,rfl⟩
    obtain⟨u18,hu18⟩:∃ u,u=a.tmps.getD 18 undef:=⟨_,rfl⟩
    obtain⟨u19,hu19⟩:∃ u,u=a.tmps.getD 19 undef:=⟨_,rfl⟩
    obtain⟨u20,hu20⟩:∃ u,u=a.tmps.getD 20 undef:=⟨_,rfl⟩
    obtain⟨u21,hu21⟩:∃ u,u=a.tmps.getD 21 undef:=⟨_,rfl⟩
    obtain⟨u22,hu22⟩:∃ u,u=a.tmps.getD 22 undef:=⟨_,rfl⟩
    obtain⟨u23,hu23⟩:∃ u,u=a.tmps.getD 23 undef:=⟨_,rfl⟩
    obtain⟨u24,hu24⟩:∃ u,u=a.tmps.getD 24 undef:=⟨_,rfl⟩
    obtain⟨u25,hu25⟩:∃ u,u=a.tmps.getD 25 undef:=⟨_,rfl⟩
    obtain⟨u26,hu26⟩:∃ u,u=a.tmps.getD 26 undef:=⟨_,rfl⟩
    obtain⟨u27,hu27⟩:∃ u,u=a.tmps.getD 27 undef:=⟨_,rfl⟩
    obtain⟨u28,hu28⟩:∃ u,u=a.tmps.getD 28 undef:=⟨_,rfl⟩
    obtain⟨u29,hu29⟩:∃ u,u=a.tmps.getD 29 undef:=⟨_,rfl⟩
    obtain⟨u30,hu30⟩:∃ u,u=a.tmps.getD 30 undef:=⟨_,rfl⟩
    obtain⟨u31,hu31⟩:∃ u,u=a.tmps.getD 31 undef:=⟨_,rfl⟩
    obtain⟨u32,hu32⟩:∃ u,u=a.tmps.getD 32 undef:=⟨_,rfl⟩
    obtain⟨u33,hu33⟩:∃ u,u=a.tmps.getD 33 undef:=⟨_,rfl⟩
    obtain⟨u34,hu34⟩:∃ u,u=a.tmps.getD 34 undef:=⟨_,rfl⟩
    obtain⟨u35,hu35⟩:∃ u,u=a.tmps.getD 35 undef:=⟨_,rfl⟩
    obtain⟨u36,hu36⟩:∃ u,u=a.tmps.getD 36 undef:=⟨_,rfl⟩
    obtain⟨u37,hu37⟩:∃ u,u=a.tmps.getD 37 undef:=⟨_,rfl⟩
    obtain⟨u38,hu38⟩:∃ u,u=a.tmps.getD 38 undef:=⟨_,rfl⟩
    obtain⟨u39,hu39⟩:∃ u,u=a.tmps.getD 39 undef:=⟨_,rfl⟩
    obtain⟨u40,hu40⟩:∃ u,u=a.tmps.getD 40 undef:=⟨_,rfl⟩
    obtain⟨u41,hu41⟩:∃ u,u=a.tmps.getD 41 undef:=⟨_,rfl⟩
    obtain⟨u42,hu42⟩:∃ u,u=a.tmps.getD 42 undef:=⟨_,rfl⟩
    obtain⟨u43,hu43⟩:∃ u,u=a.tmps.getD 43 undef:=⟨_,rfl⟩
    obtain⟨u44,hu44⟩:∃ u,u=a.tmps.getD 44 undef:=⟨_,rfl⟩
    obtain⟨u45,hu45⟩:∃ u,u=a.tmps.getD 45 undef:=⟨_,rfl⟩
    obtain⟨u46,hu46⟩:∃ u,u=a.tmps.getD 46 undef:=⟨_,rfl⟩
    have hal:AllAt a 0 [.slice (some ⟨g,0,none⟩) n c,.slice (some ⟨g',0,none⟩) n c',.bool false,undef,undef,undef,u6,.int .i64 (k:Int),.bool true,.slice (some ⟨g,0,none⟩) n c,.int .i64 (n:Int),.slice (some ⟨g',0,none⟩) n c',.int .i64 (n:Int),.bool false,u14,u15,u16,u17,u18,u19,u20,u21,u22,u23,u24,u25,u26,u27,u28,u29,u30,u31,u32,u33,u34,u35,u36,u37,u38,u39,u40,u41,u42,u43,u44,u45,u46]:=⟨hfree 0 rfl,hfree 1 rfl,hfree 2 rfl,hfree 3 rfl,hfree 4 rfl,hfree 5 rfl,hu6.symm,hfree 7 rfl,hs 9 _ rfl,hfree 9 rfl,hfree 10 rfl,hfree 11 rfl,hfree 12 rfl,hfree 13 rfl,hu14.symm,hu15.symm,hu16.symm,hu17.symm,hu18.symm,hu19.symm,hu20.symm,hu21.symm,hu22.symm,hu23.symm,hu24.symm,hu25.symm,hu26.symm,hu27.symm,hu28.symm,hu29.symm,hu30.symm,hu31.symm,hu32.symm,hu33.symm,hu34.symm,hu35.symm,hu36.symm,hu37.symm,hu38.symm,hu39.symm,hu40.symm,hu41.symm,hu42.symm,hu43.symm,hu44.symm,hu45.symm,hu46.symm,trivial⟩
    have hlit:=fun h=>act_lit hd h hal
    rw[hlit hsz]
    clear hlit hal hd hsz hfree hs hu6 hu14 hu15 hu16 hu17 hu18 hu19 hu20 hu21 hu22 hu23 hu24 hu25 hu26 hu27 hu28 hu29 hu30 hu31 hu32 hu33 hu34 hu35 hu36 hu37 hu38 hu39 hu40 hu41 hu42 hu43 hu44 hu45 hu46
    go_wp2
    go_quiet (fail)
    go_wp2
    go_roundw
    case rel=>exact⟨k+1,by omega,by go_num,(Later.trans HB.out hC).trans (Below.drewN _ _ _)⟩
    case measure=>simp[intOf];omega
  ·have hk1:¬ (k:Int)<(n:Int):=by omega
   go_wp2
   go_ret
   exact⟨rfl,HB.out⟩
end Go.Proofs.YtkkchkkpnlnbgaaGreatDoor
namespace Go.Proofs.YtkkchkkpnlnbgaaGreatDoor
open Go.RowKit Go.Maps
open Lx (nl Tok)
open Pz
end Go.Proofs.YtkkchkkpnlnbgaaGreatDoor
