/- The lexer's reader: the lines of a here-document. No premises. -/
import Derived.Test.YtkkchkkpnlnbgaaGreatDoorNh
set_option maxRecDepth 100000
set_option maxHeartbeats 1600000
namespace Go.Proofs.YtkkchkkpnlnbgaaGreatDoor
open Go.RowKit Go.Maps
open Lx (nl Tok cut skip doc bare)
theorem cut_skip (l:L):l=(cut l).1++skip l∧(skip l=[]∧(cut l).2=[]∨skip l=10::(cut l).2):=by
 induction l with
 | nil=>exact⟨rfl,.inl ⟨rfl,rfl⟩⟩
 | cons c r ih=>
  by_cases hc:c=10
  ·simp[cut,skip,hc]
  ·simp only[cut,skip,if_neg hc]
   exact⟨by rw[List.cons_append,←ih.1],ih.2⟩
theorem piece_ (S:L) (p q:Nat) (a b:L) (hp:S.drop p=a++b) (hq:q=p+a.length):(mkS S).extract p q=mkS a:=by
 apply ByteArray.ext
 have h1:((mkS S).extract p q).data=(S.toArray).extract p q:=by simp[mkS]
 rw[h1]
 apply Array.toList_inj.1
 simp only[Array.toList_extract,List.extract_eq_take_drop]
 rw[hp,hq,Nat.add_sub_cancel_left,List.take_left']
 ·simp[mkS]
 ·rfl
theorem MemX.piece {W W2:World} {B g p n p2 n2 ms mp ms2 mp2:Nat} {S:L} {σ σ2:St} {vt vh vx vt2 vh2 vx2:Value} (h:MemX W B g S σ p n vt vh vx ms mp) (h2:MemX W2 B g S σ2 p2 n2 vt2 vh2 vx2 ms2 mp2) {a l2:L} (hl:σ.l=a++l2) (e2:σ2.l=l2) :
  (mkS S).extract p p2=mkS a∧(p:Int)≤(p2:Int)∧(p2:Int)≤((mkS S).size:Int)∧(0:Int)≤(p:Int):=by
 have h2a:=h2.at_
 have h2b:=h.at_
 have hlen:=congrArg List.length hl
 rw[List.length_append] at hlen
 rw[e2] at h2a
 refine⟨piece_ S p p2 a l2 (by rw[←hl];exact h.cut.symm) (by omega),by omega,by rw[mkS_size];omega,by omega⟩
theorem row_bad (B g:Nat) (S:L) (σ:St) (hl:σ.l=[]) (W:World) (h:Mem W B g S σ):Calls Tryz.prog 115 #[.pointer (some ⟨g,0,none⟩)] W fun e W'=>e=.panicked (flt 20 σ.b)∧∃ m,W'=W.drewN m:=by
 have HL:=Lib.hid (left_v B g S σ W h)
 have hdec:decide (σ.l≠[])=false:=by rw[hl];rfl
 rw[hdec] at HL
 have HR:=Lib.hid (fun m=>refuse_v B g S σ (W.drewN m) (h.drewN m))
 clear h hdec hl
 go_enter Tryz.func115,Tryz.ntmps115
 go_wp2_with (first
  |(go_at_call 46;(with_reducible refine HL.out.mono ?_);rintro e w1 ⟨rfl,m,rfl⟩)
  |(go_at_call 45;(with_reducible refine(HR.out _).mono ?_);rintro e w1 ⟨rfl,rfl⟩))
 exact bodyPost_panic rfl ⟨rfl,_,rfl⟩
theorem row_x (B g:Nat) (S:L) (σ:St) (hl:σ.l≠[]) (W:World) (p n:Nat) (vt vh vx:Value) (ms mp:Nat) (h:MemX W B g S σ p n vt vh vx ms mp):Calls Tryz.prog 115 #[.pointer (some ⟨g,0,none⟩)] W fun e W'=>e=.returned (.string (mkS (cut σ.l).1))∧(∃ p' n',MemX W' B g S { σ with l:=(cut σ.l).2 } p' n' vt vh vx ms mp)∧W.grownBy W' (some g):=by
 have HL:=Lib.hid (left_v B g S σ W h.mem)
 have hdec:decide (σ.l≠[])=true:=decide_eq_true hl
 rw[hdec] at HL
 obtain⟨⟨c0,c1,_⟩,hz⟩:=h.facts
 have HR:=Lib.hid (fun m=>passRow_x B g S σ (W.drewN m) p n vt vh vx ms mp (h.drewN m))
 have hp:=h.small
 have H:=Lib.hid h
 obtain⟨hc1,hc2⟩:=cut_skip σ.l
 have HC1:=Lib.hid hc1
 clear h hdec hl hc1
 rcases hc2 with⟨hs,hc⟩ | hs
 ·have HS:=Lib.hid (And.intro hs hc)
  clear hs hc
  go_enter Tryz.func115,Tryz.ntmps115
  go_wp2_with (first
   |(go_at_call 46;(with_reducible refine HL.out.mono ?_);rintro e w1 ⟨rfl,m,rfl⟩)
   |(go_at_call 37;(with_reducible refine(HR.out _).mono ?_);rintro e w2 ⟨rfl,⟨p2,n2,hm2⟩,hb2⟩;obtain⟨⟨d0,d1,_⟩,dz⟩:=hm2.facts;have hp2:=hm2.small;have HM2:=Lib.hid hm2;have HB2:=Lib.hid hb2;obtain⟨hpc,hpp,hpq,hp0⟩:=MemX.piece H.out hm2 HC1.out rfl;clear hm2 hb2))
  go_quiet (fail)
  have hL2:=fun m=>left_v B g S { σ with l:=skip σ.l } (w2.drewN m) (HM2.out.mem.drewN m)
  rw[show decide (({ σ with l:=skip σ.l }:St).l≠[])=false by simp[HS.out.1]] at hL2
  have HL2:=Lib.hid hL2
  clear hL2
  go_wp2_with (first
   |(go_at_call 46;(with_reducible refine(HL2.out _).mono ?_);rintro e w5 ⟨rfl,m5,rfl⟩))
  go_ret
  refine⟨rfl,⟨p2,n2,?_⟩,only_trans (only_trans (only_drewN W g m) HB2.out) (only_drewN _ _ _)⟩
  have hm:=HM2.out
  rw[HS.out.1] at hm
  rw[HS.out.2]
  exact hm.drewN _
 ·have HS:=Lib.hid hs
  clear hs
  go_enter Tryz.func115,Tryz.ntmps115
  go_wp2_with (first
   |(go_at_call 46;(with_reducible refine HL.out.mono ?_);rintro e w1 ⟨rfl,m,rfl⟩)
   |(go_at_call 37;(with_reducible refine(HR.out _).mono ?_);rintro e w2 ⟨rfl,⟨p2,n2,hm2⟩,hb2⟩;obtain⟨⟨d0,d1,_⟩,dz⟩:=hm2.facts;have hp2:=hm2.small;have HM2:=Lib.hid hm2;have HB2:=Lib.hid hb2;obtain⟨hpc,hpp,hpq,hp0⟩:=MemX.piece H.out hm2 HC1.out rfl;clear hm2 hb2))
  go_quiet (fail)
  have hL2:=fun m=>left_v B g S { σ with l:=skip σ.l } (w2.drewN m) (HM2.out.mem.drewN m)
  rw[show decide (({ σ with l:=skip σ.l }:St).l≠[])=true by simp[HS.out]] at hL2
  have HL2:=Lib.hid hL2
  have HP:=Lib.hid (fun m=>pass_x B g S { σ with l:=skip σ.l } 10 (cut σ.l).2 HS.out (w2.drewN m) p2 n2 vt vh vx ms mp (HM2.out.drewN m))
  clear hL2
  go_wp2_with (first
   |(go_at_call 46;(with_reducible refine(HL2.out _).mono ?_);rintro e w5 ⟨rfl,m5,rfl⟩)
   |(go_at_call 39;(with_reducible refine(HP.out _).mono ?_);rintro e w6 ⟨rfl,⟨p6,n6,hm6⟩,hb6⟩))
  go_ret
  exact⟨rfl,⟨p6,n6,hm6⟩,only_trans (only_trans (only_drewN W g m) HB2.out) (only_trans (only_drewN _ _ _) hb6)⟩
def DocR (B g:Nat) (S:L) (σ:St) (W:World) (vt vh vx:Value) (ms mp:Nat) (x:Option (L×L)) (e:Ending) (W':World):Prop:=
 match x with
 | some (b,r)=>e=.returned (.string (mkS b))∧(∃ p' n',MemX W' B g S { σ with l:=r } p' n' vt vh vx ms mp)∧W.grownBy W' (some g)
 | none=>e=.panicked (flt 20 σ.b)∧W.grownBy W' (some g)
theorem body_x (B g:Nat) (S:L) (σ:St) (last:L) (W:World) (p n:Nat) (vt vh vx:Value) (ms mp:Nat) (h:MemX W B g S σ p n vt vh vx ms mp):Calls Tryz.prog 86 #[.pointer (some ⟨g,0,none⟩),.string (mkS last)] W (DocR B g S σ W vt vh vx ms mp (doc last σ.l)):=by
 obtain⟨⟨c0,c1,_⟩,hz⟩:=h.facts
 have hp:=h.small
 have H:=Lib.hid h
 clear h
 go_enter Tryz.func86,Tryz.ntmps86
 go_wp2
 go_loopw [] (fun wr=>∃ (l' t0:L),(l'≠[]→σ.l=t0++l')∧doc last σ.l=(doc last l').map (fun x=>(t0++x.1,x.2))∧(∃ p' n',MemX wr B g S { σ with l:=l' } p' n' vt vh vx ms mp)∧W.grownBy wr (some g)) (fun wr=>S.length-atOf g wr)
 case atStart=>exact⟨σ.l,[],fun _=>rfl,by simp,⟨p,n,H.out⟩,World.grownBy.refl _ _⟩
 case round=>
  obtain⟨l',t0,ht,hd,⟨p1,n1,hm⟩,hb⟩:=hrel
  have HT:=Lib.hid ht
  have HD:=Lib.hid hd
  have HM:=Lib.hid hm
  have HB:=Lib.hid hb
  obtain⟨⟨d0,d1,_⟩,dz⟩:=hm.facts
  have hp1:=hm.small
  clear ht hd hb
  by_cases hl:l'=[]
  ·have HR:=Lib.hid (row_bad B g S { σ with l:=l' } hl wr hm.mem)
   have HL:=Lib.hid hl
   clear hm hl
   go_wp2_with (first
    |(go_at_call 115;(with_reducible refine HR.out.mono ?_);rintro e w1 ⟨rfl,m,rfl⟩))
   refine bodyPost_panic rfl ?_
   rw[HD.out,Lx.doc_at,if_pos HL.out]
   exact⟨rfl,only_trans HB.out (only_drewN _ _ _)⟩
  ·have HR:=Lib.hid (row_x B g S { σ with l:=l' } hl wr p1 n1 vt vh vx ms mp hm)
   have HL:=Lib.hid hl
   have HDA:=Lib.hid (Lx.doc_at last l')
   clear hm hl
   by_cases hc:(cut l').1=last
   ·have he:((mkS (cut l').1).toList==(mkS last).toList)=true:=by rw[hc];exact beq_self_eq_true _
    go_wp2_with (first
     |(go_at_call 115;(with_reducible refine HR.out.mono ?_);rintro e w1 ⟨rfl,⟨p2,n2,hm2⟩,hb2⟩;obtain⟨⟨d0,d1,_⟩,dz⟩:=hm2.facts;have HM2:=Lib.hid hm2;have HB2:=Lib.hid hb2;obtain⟨hpc,hpp,hpq,hp0⟩:=MemX.piece H.out HM.out (HT.out HL.out) rfl;clear hm2 hb2))
    go_ret
    rw[HD.out,HDA.out,if_neg HL.out,if_pos hc]
    exact⟨by rw[List.append_nil];rfl,⟨p2,n2,HM2.out⟩,only_trans HB.out HB2.out⟩
   ·have he:((mkS (cut l').1).toList==(mkS last).toList)=false:=by rw[toList_mkS,toList_mkS];exact beq_eq_false_iff_ne.2 hc
    go_wp2_with (first
     |(go_at_call 115;(with_reducible refine HR.out.mono ?_);rintro e w1 ⟨rfl,⟨p2,n2,hm2⟩,hb2⟩;have HM2:=Lib.hid hm2;have HB2:=Lib.hid hb2;clear hm2 hb2))
    go_roundw
    case rel=>
     refine⟨(cut l').2,t0++((cut l').1++[10]),fun hne=>?_,?_,⟨p2,n2,HM2.out⟩,only_trans HB.out HB2.out⟩
     ·obtain⟨e1,e2⟩:=cut_skip l'
      rcases e2 with⟨_,e2⟩ | e2
      ·exact absurd e2 hne
      ·rw[HT.out HL.out]
       rw[e2] at e1
       conv=>lhs;rw[e1]
       simp
     ·rw[HD.out,HDA.out,if_neg HL.out,if_neg hc,Option.map_map]
      congr 1
      funext x
      simp
    case measure=>
     have h3:=Lx.cut_len l' HL.out
     rw[HM2.out.mem.left,HM.out.mem.left]
     exact h3
end Go.Proofs.YtkkchkkpnlnbgaaGreatDoor
namespace Go.Proofs.YtkkchkkpnlnbgaaGreatDoor
open Go.RowKit Go.Maps
open Lx (nl Tok lay)
theorem cellsT_lay (N:Nat) (b:L):∀ (ts:List Tok) (k:Nat),k<ts.length→cellsT N (lay k b ts)=(cellsT N ts).set (k*4+2) (.string (mkS b))
 | [],k,h=>by simp at h
 | z::ts,0,_=>by
  have e:cellsT N (z::ts)=(tcs N z).toList++cellsT N ts:=by simp[cellsT]
  have e2:cellsT N (lay 0 b (z::ts))=(tcs N { z with body:=b }).toList++cellsT N ts:=by simp[cellsT,lay]
  rw[e,e2,List.set_append_left _ _ (by simp[tcs])]
  rfl
 | z::ts,k+1,h=>by
  have e:cellsT N (z::ts)=(tcs N z).toList++cellsT N ts:=by simp[cellsT]
  have e2:cellsT N (lay (k+1) b (z::ts))=(tcs N z).toList++cellsT N (lay k b ts):=by simp[cellsT,lay]
  have hl:(tcs N z).toList.length=4:=rfl
  rw[e,e2,List.set_append_right _ _ (by omega),hl,show (k+1)*4+2-4=k*4+2 by omega,cellsT_lay N b ts k (by simpa using h)]
abbrev bodyAt (ad:Addr) (k:Nat):Addr:=⟨(ad.add (k*4)).block,(ad.add (k*4)).off+2,none⟩
section
variable {W W':World} {B g p n ms mp:Nat} {S:L} {σ:St} {vt vh vx:Value}
theorem MemX.body (h:MemX W B g S σ p n vt vh vx ms mp) {k:Nat} (hk:k<σ.ts.length) {ad:Addr} {c m:Nat} (hv:vt=.slice (some ad) m c) (b:L) :
  (∃ v0,W.cell? (bodyAt ad k)=some v0)∧W.frozen? (bodyAt ad k)=false∧MemX (W.setCell (bodyAt ad k) (.string (mkS b))) B g S { σ with ts:=lay k b σ.ts } p n vt vh vx ms mp∧B≤(bodyAt ad k).block∧(bodyAt ad k).block≠g:=by
 have ht:=h.tok
 rcases ht.2 with⟨h0,h1⟩ | ⟨gt,cap,cur,h0,hb,hh,hnc,hcm,hcs,htake⟩
 ·omega
 ·rw[hv] at h0
  simp only[Value.slice.injEq,Option.some.injEq] at h0
  obtain⟨rfl,rfl,rfl⟩:=h0
  have e1:bodyAt ⟨gt,0,none⟩ k=⟨gt,k*4+2,none⟩:=by unfold bodyAt;rw[add_lit0]
  rw[e1]
  have hne:gt≠g:=fun e=>by
   rw[e,h.box] at hh
   simp only[Option.some.injEq,Obj.cells.injEq] at hh
   exact absurd hh.2.1 (by decide)
  have hsz:k*4+2<cur.size:=by rw[hcs];have:σ.ts.length*4≤c*4:=Nat.mul_le_mul_right 4 hnc;omega
  have hg:=set_only W gt (k*4+2) (.string (mkS b))
  have hlen:(lay k b σ.ts).length=σ.ts.length:=by simp[lay]
  refine⟨⟨cur[k*4+2],by rw[(cell_row hh _).1];simp[hsz]⟩,(cell_row hh _).2,⟨by rw[hg.block g h.lt (fun e=>hne (Option.some.inj e).symm)];exact h.box,h.low,h.big,h.cut,h.at_,h.ln,?_,h.her.kept hg (.inr (apart_block h.her hh (by decide))),h.txt.kept hg (.inr (apart_block h.txt hh (by decide))),h.ls,h.lp,h.st.kept hg (fun e=>h.st.apart hh (Option.some.inj e)),h.pa.kept hg (fun e=>h.pa.apart hh (Option.some.inj e))⟩,hb,hne⟩
  show (W.setCell ⟨gt,k*4+2,none⟩ (.string (mkS b))).ownsRow B 63 4 vt (lay k b σ.ts).length (cellsT (nl S) (lay k b σ.ts))
  rw[hlen]
  refine⟨by rw[cellsT_lay _ _ _ _ hk,List.length_set];exact ht.1,.inr ⟨gt,c,_,hv,hb,set_row hh _ _,hnc,hcm,by simp[hcs],?_⟩⟩
  rw[cellsT_lay _ _ _ _ hk,←htake]
  simp only[Array.toList_setIfInBounds,List.take_set]
theorem MemX.noHeres (h:MemX W B g S σ p n vt vh vx ms mp):Mem (W.setCell ⟨g,5,none⟩ (.slice none 0 0)) B g S { σ with hs:=[] }:=by
 have hg:=set_only W g 5 (.slice none 0 0)
 exact⟨p,n,vt,.slice none 0 0,vx,ms,mp,by rw[set_row h.box 5 _];rfl,h.low,h.big,h.cut,h.at_,h.ln,h.tok.kept hg (.inr (apart_block h.tok h.box (by decide))),World.ownsRow_nil _ _ _ _,h.txt.kept hg (.inr (apart_block h.txt h.box (by decide))),h.ls,h.lp,h.st.kept hg (fun e=>h.st.apart h.box (Option.some.inj e)),h.pa.kept hg (fun e=>h.pa.apart h.box (Option.some.inj e))⟩
end
structure Bodied (W:World) (B g:Nat) (S:L) (σ:St) (vt vh vx:Value) (ms mp:Nat) (ad:Addr) (k:Nat) (b r:L) (C1:Value→World→Prop) (C2:World→Prop):Prop where
 c4:∀ w,(Later W w∨(∃ u,C1 u w)∨C2 w)→w.cell? ⟨g,4,none⟩=some vt
 l1:∀ u w w',C1 u w→Later w w'→C1 u w'
 l2:∀ w w',C2 w→Later w w'→C2 w'
 made:∀ w w',Later W w→(∃ p' n',MemX w' B g S { σ with l:=r } p' n' vt vh vx ms mp)→w.grownBy w' (some g)→C1 (.string (mkS b)) w'
 q:∀ w u,C1 u w→u=.string (mkS b)∧(∃ v0,w.cell? (bodyAt ad k)=some v0)∧w.frozen? (bodyAt ad k)=false
 c2:∀ w u,C1 u w→C2 (w.setCell (bodyAt ad k) (.string (mkS b)))
 ce:∀ w,C2 w→(∃ p' n',MemX w B g S { σ with l:=r,ts:=lay k b σ.ts } p' n' vt vh vx ms mp)∧Below B W w
theorem bodied {W:World} {B g p n ms mp:Nat} {S:L} {σ:St} {vt vh vx:Value} (h:MemX W B g S σ p n vt vh vx ms mp) {k:Nat} (hk:k<σ.ts.length) {ad:Addr} {c m:Nat} (hv:vt=.slice (some ad) m c) (b r:L):∃ C1 C2,Bodied W B g S σ vt vh vx ms mp ad k b r C1 C2:=by
 have hBW:B≤W.heap.size:=Nat.le_trans h.low (Nat.le_of_lt h.lt)
 refine⟨fun u w=>u=.string (mkS b)∧(∃ p' n',MemX w B g S { σ with l:=r } p' n' vt vh vx ms mp)∧Below B W w,fun w=>(∃ p' n',MemX w B g S { σ with l:=r,ts:=lay k b σ.ts } p' n' vt vh vx ms mp)∧Below B W w,?_,?_,?_,?_,?_,?_,fun w hc=>hc⟩
 ·rintro w (hw | ⟨u,_,⟨p',n',hw⟩,_⟩ | ⟨⟨p',n',hw⟩,_⟩)
  ·exact(cell_row ((hw.block g h.lt).trans h.box) 4).1
  ·exact(cell_row hw.box 4).1
  ·exact(cell_row hw.box 4).1
 ·rintro u w w' ⟨h1,⟨p',n',h2⟩,h3⟩ hl
  exact⟨h1,⟨p',n',h2.kept hl⟩,h3.trans (hl.mono (Nat.le_trans hBW h3.size))⟩
 ·rintro w w' ⟨⟨p',n',h2⟩,h3⟩ hl
  exact⟨⟨p',n',h2.kept hl⟩,h3.trans (hl.mono (Nat.le_trans hBW h3.size))⟩
 ·intro w w' hl hm hg
  exact⟨rfl,hm,(hl.mono hBW).trans (only_below hg h.low (Nat.le_trans hBW hl.size))⟩
 ·rintro w u ⟨h1,⟨p',n',h2⟩,h3⟩
  obtain⟨k1,k2,_⟩:=MemX.body (σ:={ σ with l:=r }) h2 hk hv b
  exact⟨h1,k1,k2⟩
 ·rintro w u ⟨h1,⟨p',n',h2⟩,h3⟩
  obtain⟨_,_,k3,k4,_⟩:=MemX.body (σ:={ σ with l:=r }) h2 hk hv b
  exact⟨⟨p',n',k3⟩,h3.setCell k4 _⟩
theorem wp_call_panics {P:Program} {o:Oper} {f:FuncId} {xs:Array Operand} {ats:Array TypeId} {a:Act} {w:World} {K:Act→World→Prop} {Q:Exit→Act→World→Prop} {fn:Func} {c:Code} {ch:List PanicEntry} {R:World→Prop} (vals:Array Value)
  (hop:o.op=.call { callee:=.value (.func f),args:=xs,argTypes:=ats }) (hf:P.funcs[f]?=some fn) (hname:(fn.name== "runtime.NumGoroutine")=false) (hb:fn.body=some c)
  (hv:xs.map a.eval=vals) (h:Calls P f vals w fun e w''=>e=.panicked ch∧R w'') (hQ:∀ w',R w'→Q (.panic ch) a w'):Oper.wp P o a w K Q:=by
 have e1:execOp a.eval o=callFunc f vals:=by
  subst hv
  unfold execOp
  simp[hop,resolve,Deferred.ofValue,invoke,Act.eval]
 unfold Oper.wp
 rw[e1,run_enter hf hname hb]
 refine h.mono ?_
 rintro e w' ⟨rfl,hr⟩
 exact hQ w' hr
end Go.Proofs.YtkkchkkpnlnbgaaGreatDoor
namespace Go.Proofs.YtkkchkkpnlnbgaaGreatDoor
open Go.RowKit Go.Maps
open Lx (nl Tok lay bodies doc bare)
def LineR (B g:Nat) (S:L) (σ:St) (W:World) (b:Nat) (x:Option (List Tok×L)) (e:Ending) (W':World):Prop:=
 match x with
 | some (o,r)=>e=.returned (.tuple #[])∧Mem W' B g S { σ with b:=b,l:=r,ts:=o,hs:=[] }∧Below B W W'
 | none=>e=.panicked (flt 20 b)∧Below B W W'
theorem bodies_at {hs:List Nat} {j k:Nat} (hj:hs[j]?=some k) (out:List Tok) (l:L) (t:Tok) (ht:out[k]?=some t):bodies (hs.drop j) out l=(match doc (bare t.text) l with | none=>none | some (b,r)=>bodies (hs.drop (j+1)) (lay k b out) r):=by
 obtain⟨hlt,e⟩:=List.getElem?_eq_some_iff.1 hj
 rw[List.drop_eq_getElem_cons hlt,bodies,e,ht]
 rfl
theorem MemX.tokRead {W:World} {B g p n ms mp:Nat} {S:L} {σ:St} {vt vh vx:Value} (h:MemX W B g S σ p n vt vh vx ms mp) {k:Nat} (hk:k<σ.ts.length):∃ ad ct t,vt=.slice (some ad) σ.ts.length ct∧σ.ts.length≤ct∧σ.ts[k]?=some t∧t∈σ.ts∧TokAt W (nl S) (ad.add (k*4)) t:=by
 obtain⟨ad,ct,h1,h2,_,_,h3⟩:=tok_at h.tok hk
 exact⟨ad,ct,σ.ts[k],h1,h2,List.getElem?_eq_getElem hk,List.getElem_mem _,h3 k hk⟩
theorem MemX.hereRead {W:World} {B g p n ms mp m c:Nat} {S:L} {σ:St} {vt vx:Value} {A:Option Addr} (h:MemX W B g S σ p n vt (.slice A m c) vx ms mp) {j:Nat} (hj:j<σ.hs.length):∃ (adh:Addr) (k:Nat),A=some adh∧W.cell? (adh.add j)=some (.int .i64 (k:Int))∧σ.hs[j]?=some k∧k∈σ.hs:=by
 obtain⟨A9,c9,e9,_,hrd,_⟩:=own_map h.her
 injection e9 with e9 _ _
 obtain⟨adh,hlj,hadh,_,hcell⟩:=hrd.at_map hj
 exact⟨adh,σ.hs[j],by rw[e9,hadh],hcell,List.getElem?_eq_getElem hj,List.getElem_mem _⟩
theorem newline_v (B g:Nat) (S:L) (σ:St) (r:L) (hl:σ.l=10::r) (b:Nat) (hb:b+nl σ.l=1+nl S) (hts:σ.ts.length≤4999) (hhs:∀ k∈σ.hs,k<σ.ts.length) (htx:∀ t∈σ.ts,t.text.length≤5000) (hhl:σ.hs.length≤5000) (W:World) (h:Mem W B g S σ):Calls Tryz.prog 38 #[.pointer (some ⟨g,0,none⟩)] W (LineR B g S σ W b (bodies σ.hs (σ.ts++[⟨3,[],[],nl σ.l⟩]) r)):=by
 have HG:=Lib.hid (begin_v B g S σ b hb W h)
 have HP:=Lib.hid (fun W hW=>pass_v B g S { σ with b:=b } 10 r hl W hW)
 have HTE:=Lib.hid (fun W hW=>tell_v B g S { σ with b:=b,l:=r } 3 ⟨#[]⟩ ⟨3,[],[],nl σ.l⟩ rfl rfl rfl (by show 1+nl S-nl σ.l=b;omega) (by show σ.ts.length≤5000;omega) W hW)
 obtain⟨o0,ho0⟩:∃ o0,o0=σ.ts++[⟨3,[],[],nl σ.l⟩]:=⟨_,rfl⟩
 have HO:=Lib.hid ho0
 have hol:o0.length=σ.ts.length+1:=by rw[ho0];simp
 have htx0:∀ t∈o0,t.text.length≤5000:=by
  rw[ho0]
  intro t ht
  rcases List.mem_append.1 ht with ht | ht
  ·exact htx t ht
  ·simp at ht;subst ht;simp
 rw[←ho0]
 have HOL:=Lib.hid hol
 have HTX:=Lib.hid htx0
 have HHS:=Lib.hid hhs
 have HHL:=Lib.hid hhl
 have HTS:=Lib.hid hts
 clear h hl hb hts hhs htx hhl ho0 hol htx0
 go_enter Tryz.func38,Tryz.ntmps38
 go_wp2_with (first
  |(go_at_call 49;(with_reducible refine HG.out.mono ?_);rintro e w1 ⟨rfl,hm1,hb1⟩;have HM1:=Lib.hid hm1;have HB1:=Lib.hid hb1;clear hm1 hb1)
  |(go_at_call 39;(with_reducible refine(HP.out _ HM1.out).mono ?_);rintro e w2 ⟨rfl,hm2,hb2⟩;have HM2:=Lib.hid hm2;have HB2:=Lib.hid (HB1.out.trans hb2);clear hm2 hb2)
  |(go_at_call 50;(with_reducible refine(HTE.out _ HM2.out).mono ?_);rintro e w3 ⟨rfl,hm3,hb3⟩;obtain⟨p,n,vt,vh,vx,ms,mp,hx⟩:=hm3;obtain⟨A,c,rfl,hcc,_⟩:=own_map hx.her;obtain⟨⟨_,_,_,_,_,c5,_⟩,hz⟩:=hx.facts;have HX:=Lib.hid hx;have HB3:=Lib.hid (HB2.out.trans hb3);clear hx hb3 hcc))
 have hmm:σ.hs.length≤5000:=HHL.out
 have HX2:Hid (MemX w3 B g S { σ with b:=b,l:=r,ts:=o0 } p n vt (.slice A σ.hs.length c) vx ms mp):=by rw[HO.out];exact HX.out
 clear HX
 go_wp2
 go_loopw [17] (fun i wr=>∃ (j:Nat) (out':List Tok) (l':L),j≤σ.hs.length∧i=.int .i64 (j:Int)∧bodies σ.hs o0 r=bodies (σ.hs.drop j) out' l'∧out'.length=o0.length∧(∀ t∈out',t.text.length≤5000)∧(∃ p' n',MemX wr B g S { σ with b:=b,l:=l',ts:=out' } p' n' vt (.slice A σ.hs.length c) vx ms mp)∧Below B W wr) (fun i _=>σ.hs.length-(intOf i).toNat)
 case atStart=>exact⟨0,o0,r,by omega,rfl,by simp,rfl,HTX.out,⟨p,n,HX2.out⟩,HB3.out⟩
 case round=>
  obtain⟨j,out',l',hj,rfl,hbd,hol',htx',⟨p1,n1,hm⟩,hb⟩:=hrel
  obtain⟨⟨_,_,_,_,d4,d5,_⟩,dz⟩:=hm.facts
  have HBD:=Lib.hid hbd
  have HOL':=Lib.hid hol'
  have HTX':=Lib.hid htx'
  have HM:=Lib.hid hm
  have HB:=Lib.hid hb
  clear hbd htx' hm hb
  by_cases hjn:j<σ.hs.length
  ·obtain⟨adh,k,rfl,hcell,hsk,hkm⟩:=HM.out.hereRead hjn
   have hkl:k<out'.length:=by rw[hol',HOL.out];have:=HHS.out k hkm;omega
   obtain⟨ad,ct,t,hvt,hct,htt,htm,htok⟩:=HM.out.tokRead hkl
   obtain⟨_,t1,_,_⟩:=htok
   have htl:t.text.length≤5000:=HTX'.out t htm
   have HBA:=Lib.hid (bodies_at hsk out' l' t htt)
   have HBR:=Lib.hid (bare_v t.text htl wr)
   have hk0:(0:Int)≤(k:Int):=by omega
   have hj0:(0:Int)≤(j:Int):=by omega
   have hj1:(j:Int)<(σ.hs.length:Int):=by omega
   have HKL:=Lib.hid hkl
   obtain⟨m9,hm9⟩:∃ m9,m9=out'.length:=⟨_,rfl⟩
   have hvt9:vt=.slice (some ad) m9 ct:=by rw[hvt,hm9]
   have hk1:(k:Int)<(m9:Int):=by omega
   have hm95:m9≤5000:=by rw[hm9,hol',HOL.out];have:=HTS.out;omega
   subst hvt9
   obtain⟨q,hq⟩:∃ q,q=bare t.text:=⟨_,rfl⟩
   rw[←hq] at HBR HBA
   clear hsk hkm hkl hvt hct htt htm htl hq hm9
   cases hdc:doc q l' with
   | none=>
    have HDC:=Lib.hid hdc
    clear hdc
    go_wp2_with (first
     |(go_at_call 85;(with_reducible refine HBR.out.mono ?_);rintro e w2 ⟨rfl,hl2⟩;have HL2:=Lib.hid hl2;have hm2:=HM.out.kept hl2;obtain⟨⟨_,_,_,_,d42,_⟩,dz2⟩:=hm2.facts;have HM2:=Lib.hid hm2;have HBB:=Lib.hid (HB.out.trans (hl2.mono HM.out.mem.base));clear hm2 hl2))
    have HBO:=Lib.hid (show ∀ w,Later w2 w→Calls Tryz.prog 86 #[.pointer (some ⟨g,0,none⟩),.string (mkS q)] w fun e w'=>e=.panicked (flt 20 b)∧w.grownBy w' (some g) from fun w hw=>by
     have h:=body_x B g S { σ with b:=b,l:=l',ts:=out' } q w p1 n1 _ _ vx ms mp (HM2.out.kept hw)
     rw[show ({ σ with b:=b,l:=l',ts:=out' }:St).l=l' from rfl,HDC.out] at h
     exact h)
    have HBW:=Lib.hid (show ∀ w w',Later w2 w→w.grownBy w' (some g)→Below B W w' from fun w w' hw hg=>HBB.out.trans ((hw.mono HM2.out.mem.base).trans (only_below hg HM2.out.low (Nat.le_trans HM2.out.mem.base hw.size))))
    have HC4:=Lib.hid (show ∀ w,(Later w2 w∨(∃ _:Value,False)∨False)→w.cell? ⟨g,4,none⟩=some (.slice (some ad) m9 ct) from fun w hw=>by
     rcases hw with hw | ⟨_,hw⟩ | hw
     ·exact(cell_row ((hw.block g HM2.out.lt).trans HM2.out.box) 4).1
     ·exact hw.elim
     ·exact hw.elim)
    refine wp_region_two (by kernel_rfl) 7 10 (Later w2) (fun _ _=>False) (fun _=>False) (fun _ _=>True) [Sp.val (.pointer (some ⟨g,0,none⟩)),Sp.val (.pointer (some ⟨g,0,none⟩)),Sp.val (.pointer (some ⟨g,4,none⟩)),Sp.val (.slice (some ad) m9 ct),Sp.val (.int .i64 (k:Int)),Sp.val (.pointer (some ⟨g,0,none⟩)),Sp.val (.string (mkS q)),Sp.any,Sp.val (.pointer (some (ad.add (k*4)))),Sp.val (.pointer (some ⟨(ad.add (k*4)).block,(ad.add (k*4)).off+2,none⟩)),Sp.any] (by decide) (by decide) (by decide) (by kernel_rfl) (by kernel_rfl) (by kernel_rfl) (Later.drew w2) (fun _ _ h hl=>Later.trans h hl) (fun _ _ _ h _=>h.elim) (fun _ _ h _=>h.elim) (fun _ _ _=>trivial) ?_ ?_
    ·refine⟨?_,?_,?_,?_,?_,?_,?_,?_,?_,?_,?_,trivial⟩
     ·
      unfold OwesT
      rw[if_neg (by decide),if_neg (by decide)]
      refine fun a w hD hC hs=>⟨?_,?_⟩
      ·rfl
      have e0:a.tmps.getD 0 undef=.pointer (some ⟨g,0,none⟩):=hs.free 0 rfl
      exact⟨e0,hC,Later.refl _⟩
     ·
      unfold OwesT
      rw[if_neg (by decide),if_neg (by decide)]
      refine fun a w hD hC hs=>⟨?_,?_⟩
      ·rfl
      have e33:a.tmps.getD 33 undef=.pointer (some ⟨g,0,none⟩):=hs.dep 0 _ rfl rfl
      refine ValWp.pure (v:=.pointer (some ⟨g,0,none⟩)) (fun K' hK'=>?_) ⟨rfl,hC,Later.refl _⟩
      simp only[ValWp,execOp,Act.eval,e33]
      go_simp
      all_goals exact hK'
     ·
      unfold OwesT
      rw[if_neg (by decide),if_neg (by decide)]
      refine fun a w hD hC hs=>⟨?_,?_⟩
      ·rfl
      have e34:a.tmps.getD 34 undef=.pointer (some ⟨g,0,none⟩):=hs.dep 1 _ rfl rfl
      refine ValWp.pure (v:=.pointer (some ⟨g,4,none⟩)) (fun K' hK'=>?_) ⟨rfl,hC,Later.refl _⟩
      simp only[ValWp,execOp,Act.eval,e34]
      go_simp
      all_goals exact hK'
     ·
      unfold OwesT
      rw[if_neg (by decide),if_neg (by decide)]
      refine fun a w hD hC hs=>⟨?_,?_⟩
      ·rfl
      have e35:a.tmps.getD 35 undef=.pointer (some ⟨g,4,none⟩):=hs.dep 2 _ rfl rfl
      have q4:=HC4.out w hC
      refine ValWp.pure (v:=.slice (some ad) m9 ct) (fun K' hK'=>?_) ⟨rfl,hC,Later.refl _⟩
      simp only[ValWp,execOp,Act.eval,e35]
      go_simp
      all_goals exact hK'
     ·
      unfold OwesT
      rw[if_neg (by decide),if_neg (by decide)]
      refine fun a w hD hC hs=>⟨?_,?_⟩
      ·rfl
      have e3:a.tmps.getD 3 undef=.int .i64 (k:Int):=hs.free 3 rfl
      exact⟨e3,hC,Later.refl _⟩
     ·
      unfold OwesT
      rw[if_neg (by decide),if_neg (by decide)]
      refine fun a w hD hC hs=>⟨?_,?_⟩
      ·rfl
      have e0:a.tmps.getD 0 undef=.pointer (some ⟨g,0,none⟩):=hs.free 0 rfl
      exact⟨e0,hC,Later.refl _⟩
     ·
      unfold OwesT
      rw[if_neg (by decide),if_neg (by decide)]
      refine fun a w hD hC hs=>⟨?_,?_⟩
      ·rfl
      have e4:a.tmps.getD 4 undef=.string (mkS q):=hs.free 4 rfl
      exact⟨e4,hC,Later.refl _⟩
     ·
      unfold OwesT
      rw[if_pos rfl]
      refine fun a w hC hs=>⟨?_,?_⟩
      ·rfl
      have e38:a.tmps.getD 38 undef=.pointer (some ⟨g,0,none⟩):=hs.dep 5 _ rfl rfl
      have e39:a.tmps.getD 39 undef=.string (mkS q):=hs.dep 6 _ rfl rfl
      intro K hK
      refine wp_call_panics #[.pointer (some ⟨g,0,none⟩),.string (mkS q)] rfl Tryz.func86 rfl rfl (by simp only[List.map_toArray,List.map_cons,List.map_nil,Act.eval,e38,e39]) (HBO.out w hC) ?_
      intro w' hg9
      refine bodyPost_panic (P:=Tryz.prog) (fn:=Tryz.f38) hs.defers ?_
      rw[HBD.out,HBA.out,HDC.out]
      exact⟨rfl,HBW.out w w' hC hg9⟩
     ·
      unfold OwesT
      rw[if_neg (by decide),if_neg (by decide)]
      refine fun a w hD hC hs=>⟨?_,?_⟩
      ·rfl
      have e36:a.tmps.getD 36 undef=.slice (some ad) m9 ct:=hs.dep 3 _ rfl rfl
      have e37:a.tmps.getD 37 undef=.int .i64 (k:Int):=hs.dep 4 _ rfl rfl
      refine ValWp.pure (v:=.pointer (some (ad.add (k*4)))) (fun K' hK'=>?_) ⟨rfl,hC,Later.refl _⟩
      simp only[ValWp,execOp,Act.eval,e36,e37]
      go_simp
      all_goals exact hK'
     ·
      unfold OwesT
      rw[if_neg (by decide),if_neg (by decide)]
      refine fun a w hD hC hs=>⟨?_,?_⟩
      ·rfl
      have e41:a.tmps.getD 41 undef=.pointer (some (ad.add (k*4))):=hs.dep 8 _ rfl rfl
      refine ValWp.pure (v:=.pointer (some ⟨(ad.add (k*4)).block,(ad.add (k*4)).off+2,none⟩)) (fun K' hK'=>?_) ⟨rfl,hC,Later.refl _⟩
      simp only[ValWp,execOp,Act.eval,e41]
      go_simp
      all_goals exact hK'
     ·
      unfold OwesT
      rw[if_neg (by decide),if_pos rfl]
      refine fun a w u hC hu hs=>⟨?_,?_⟩
      ·rfl
      have e42:a.tmps.getD 42 undef=.pointer (some ⟨(ad.add (k*4)).block,(ad.add (k*4)).off+2,none⟩):=hs.dep 9 _ rfl rfl
      have e40:a.tmps.getD 40 undef=u:=hu
      exact hC.elim
    ·intro a W9 hC
     exact hC.elim
   | some x=>
    obtain⟨b9,r9⟩:=x
    have HDC:=Lib.hid hdc
    clear hdc
    go_wp2_with (first
     |(go_at_call 85;(with_reducible refine HBR.out.mono ?_);rintro e w2 ⟨rfl,hl2⟩;have HL2:=Lib.hid hl2;have hm2:=HM.out.kept hl2;obtain⟨⟨_,_,_,_,d42,_⟩,dz2⟩:=hm2.facts;have HM2:=Lib.hid hm2;have HBB:=Lib.hid (HB.out.trans (hl2.mono HM.out.mem.base));clear hm2 hl2))
    have HBO:=Lib.hid (show ∀ w,Later w2 w→Calls Tryz.prog 86 #[.pointer (some ⟨g,0,none⟩),.string (mkS q)] w fun e w'=>e=.returned (.string (mkS b9))∧(∃ p' n',MemX w' B g S { σ with b:=b,l:=r9,ts:=out' } p' n' (.slice (some ad) m9 ct) (.slice (some adh) σ.hs.length c) vx ms mp)∧w.grownBy w' (some g) from fun w hw=>by
     have h:=body_x B g S { σ with b:=b,l:=l',ts:=out' } q w p1 n1 _ _ vx ms mp (HM2.out.kept hw)
     rw[show ({ σ with b:=b,l:=l',ts:=out' }:St).l=l' from rfl,HDC.out] at h
     exact h)
    obtain⟨C1,C2,hby⟩:=bodied HM2.out HKL.out rfl b9 r9
    have HBY:=Lib.hid hby
    have HC4:=Lib.hid hby.c4
    clear hby
    refine wp_region_two (by kernel_rfl) 7 10 (Later w2) (C1) (C2) (fun _ _=>True) [Sp.val (.pointer (some ⟨g,0,none⟩)),Sp.val (.pointer (some ⟨g,0,none⟩)),Sp.val (.pointer (some ⟨g,4,none⟩)),Sp.val (.slice (some ad) m9 ct),Sp.val (.int .i64 (k:Int)),Sp.val (.pointer (some ⟨g,0,none⟩)),Sp.val (.string (mkS q)),Sp.any,Sp.val (.pointer (some (ad.add (k*4)))),Sp.val (.pointer (some ⟨(ad.add (k*4)).block,(ad.add (k*4)).off+2,none⟩)),Sp.any] (by decide) (by decide) (by decide) (by kernel_rfl) (by kernel_rfl) (by kernel_rfl) (Later.drew w2) (fun _ _ h hl=>Later.trans h hl) (HBY.out.l1) (HBY.out.l2) (fun _ _ _=>trivial) ?_ ?_
    ·refine⟨?_,?_,?_,?_,?_,?_,?_,?_,?_,?_,?_,trivial⟩
     ·
      unfold OwesT
      rw[if_neg (by decide),if_neg (by decide)]
      refine fun a w hD hC hs=>⟨?_,?_⟩
      ·rfl
      have e0:a.tmps.getD 0 undef=.pointer (some ⟨g,0,none⟩):=hs.free 0 rfl
      exact⟨e0,hC,Later.refl _⟩
     ·
      unfold OwesT
      rw[if_neg (by decide),if_neg (by decide)]
      refine fun a w hD hC hs=>⟨?_,?_⟩
      ·rfl
      have e33:a.tmps.getD 33 undef=.pointer (some ⟨g,0,none⟩):=hs.dep 0 _ rfl rfl
      refine ValWp.pure (v:=.pointer (some ⟨g,0,none⟩)) (fun K' hK'=>?_) ⟨rfl,hC,Later.refl _⟩
      simp only[ValWp,execOp,Act.eval,e33]
      go_simp
      all_goals exact hK'
     ·
      unfold OwesT
      rw[if_neg (by decide),if_neg (by decide)]
      refine fun a w hD hC hs=>⟨?_,?_⟩
      ·rfl
      have e34:a.tmps.getD 34 undef=.pointer (some ⟨g,0,none⟩):=hs.dep 1 _ rfl rfl
      refine ValWp.pure (v:=.pointer (some ⟨g,4,none⟩)) (fun K' hK'=>?_) ⟨rfl,hC,Later.refl _⟩
      simp only[ValWp,execOp,Act.eval,e34]
      go_simp
      all_goals exact hK'
     ·
      unfold OwesT
      rw[if_neg (by decide),if_neg (by decide)]
      refine fun a w hD hC hs=>⟨?_,?_⟩
      ·rfl
      have e35:a.tmps.getD 35 undef=.pointer (some ⟨g,4,none⟩):=hs.dep 2 _ rfl rfl
      have q4:=HC4.out w hC
      refine ValWp.pure (v:=.slice (some ad) m9 ct) (fun K' hK'=>?_) ⟨rfl,hC,Later.refl _⟩
      simp only[ValWp,execOp,Act.eval,e35]
      go_simp
      all_goals exact hK'
     ·
      unfold OwesT
      rw[if_neg (by decide),if_neg (by decide)]
      refine fun a w hD hC hs=>⟨?_,?_⟩
      ·rfl
      have e3:a.tmps.getD 3 undef=.int .i64 (k:Int):=hs.free 3 rfl
      exact⟨e3,hC,Later.refl _⟩
     ·
      unfold OwesT
      rw[if_neg (by decide),if_neg (by decide)]
      refine fun a w hD hC hs=>⟨?_,?_⟩
      ·rfl
      have e0:a.tmps.getD 0 undef=.pointer (some ⟨g,0,none⟩):=hs.free 0 rfl
      exact⟨e0,hC,Later.refl _⟩
     ·
      unfold OwesT
      rw[if_neg (by decide),if_neg (by decide)]
      refine fun a w hD hC hs=>⟨?_,?_⟩
      ·rfl
      have e4:a.tmps.getD 4 undef=.string (mkS q):=hs.free 4 rfl
      exact⟨e4,hC,Later.refl _⟩
     ·
      unfold OwesT
      rw[if_pos rfl]
      refine fun a w hC hs=>⟨?_,?_⟩
      ·rfl
      have e38:a.tmps.getD 38 undef=.pointer (some ⟨g,0,none⟩):=hs.dep 5 _ rfl rfl
      have e39:a.tmps.getD 39 undef=.string (mkS q):=hs.dep 6 _ rfl rfl
      intro K hK
      refine wp_of_val (ValWp.call #[.pointer (some ⟨g,0,none⟩),.string (mkS q)] rfl rfl Tryz.func86 rfl rfl (by simp only[List.map_toArray,List.map_cons,List.map_nil,Act.eval,e38,e39]) ?_)
      refine(HBO.out w hC).mono ?_
      rintro r9 w' ⟨rfl,hm9,hg9⟩
      exact⟨_,rfl,hK _ w' trivial (HBY.out.made w w' hC hm9 hg9) trivial⟩
     ·
      unfold OwesT
      rw[if_neg (by decide),if_neg (by decide)]
      refine fun a w hD hC hs=>⟨?_,?_⟩
      ·rfl
      have e36:a.tmps.getD 36 undef=.slice (some ad) m9 ct:=hs.dep 3 _ rfl rfl
      have e37:a.tmps.getD 37 undef=.int .i64 (k:Int):=hs.dep 4 _ rfl rfl
      refine ValWp.pure (v:=.pointer (some (ad.add (k*4)))) (fun K' hK'=>?_) ⟨rfl,hC,Later.refl _⟩
      simp only[ValWp,execOp,Act.eval,e36,e37]
      go_simp
      all_goals exact hK'
     ·
      unfold OwesT
      rw[if_neg (by decide),if_neg (by decide)]
      refine fun a w hD hC hs=>⟨?_,?_⟩
      ·rfl
      have e41:a.tmps.getD 41 undef=.pointer (some (ad.add (k*4))):=hs.dep 8 _ rfl rfl
      refine ValWp.pure (v:=.pointer (some ⟨(ad.add (k*4)).block,(ad.add (k*4)).off+2,none⟩)) (fun K' hK'=>?_) ⟨rfl,hC,Later.refl _⟩
      simp only[ValWp,execOp,Act.eval,e41]
      go_simp
      all_goals exact hK'
     ·
      unfold OwesT
      rw[if_neg (by decide),if_pos rfl]
      refine fun a w u hC hu hs=>⟨?_,?_⟩
      ·rfl
      have e42:a.tmps.getD 42 undef=.pointer (some ⟨(ad.add (k*4)).block,(ad.add (k*4)).off+2,none⟩):=hs.dep 9 _ rfl rfl
      have e40:a.tmps.getD 40 undef=u:=hu
      obtain⟨rfl,⟨v0,q0⟩,qz⟩:=HBY.out.q w u hC
      have q00:w.cell? ⟨(ad.add (k*4)).block,(ad.add (k*4)).off+2,none⟩=some v0:=q0
      have qz0:w.frozen? ⟨(ad.add (k*4)).block,(ad.add (k*4)).off+2,none⟩=false:=qz
      refine ValWp.pure (v:=undef) (w':=w.setCell ⟨(ad.add (k*4)).block,(ad.add (k*4)).off+2,none⟩ (.string (mkS b9))) (fun K' hK'=>?_) ⟨trivial,HBY.out.c2 w _ hC,trivial⟩
      simp only[ValWp,execOp,Act.eval,e42,e40]
      go_simp
      all_goals exact hK'
    ·intro a W hC hd hsz hfree hs
     obtain⟨u3,hu3⟩:∃ u,u=a.tmps.getD 3 undef:=⟨_,rfl⟩
     obtain⟨u4,hu4⟩:∃ u,u=a.tmps.getD 4 undef:=⟨_,rfl⟩
     obtain⟨u5,hu5⟩:∃ u,u=a.tmps.getD 5 undef:=⟨_,rfl⟩
     obtain⟨u18,hu18⟩:∃ u,u=a.tmps.getD 18 undef:=⟨_,rfl⟩
     obtain⟨u19,hu19⟩:∃ u,u=a.tmps.getD 19 undef:=⟨_,rfl⟩
     obtain⟨u20,hu20⟩:∃ u,u=a.tmps.getD 20 undef:=⟨_,rfl⟩
     obtain⟨u21,hu21⟩:∃ u,u=a.tmps.getD 21 undef:=⟨_,rfl⟩
     obtain⟨u22,hu22⟩:∃ u,u=a.tmps.getD 22 undef:=⟨_,rfl⟩
     obtain⟨u23,hu23⟩:∃ u,u=a.tmps.getD 23 undef:=⟨_,rfl⟩
     obtain⟨u24,hu24⟩:∃ u,u=a.tmps.getD 24 undef:=⟨_,rfl⟩
     obtain⟨u25,hu25⟩:∃ u,u=a.tmps.getD 25 undef:=⟨_,rfl⟩
     obtain⟨u26,hu26⟩:∃ u,u=a.tmps.getD 26 undef:=⟨_,rfl⟩
     obtain⟨u27,hu27⟩:∃ u,u=a.tmps.getD 27 undef:=⟨_,rfl⟩
     obtain⟨u28,hu28⟩:∃ u,u=a.tmps.getD 28 undef:=⟨_,rfl⟩
     obtain⟨u29,hu29⟩:∃ u,u=a.tmps.getD 29 undef:=⟨_,rfl⟩
     obtain⟨u30,hu30⟩:∃ u,u=a.tmps.getD 30 undef:=⟨_,rfl⟩
     obtain⟨u31,hu31⟩:∃ u,u=a.tmps.getD 31 undef:=⟨_,rfl⟩
     obtain⟨u32,hu32⟩:∃ u,u=a.tmps.getD 32 undef:=⟨_,rfl⟩
     obtain⟨u33,hu33⟩:∃ u,u=a.tmps.getD 33 undef:=⟨_,rfl⟩
     obtain⟨u34,hu34⟩:∃ u,u=a.tmps.getD 34 undef:=⟨_,rfl⟩
     obtain⟨u35,hu35⟩:∃ u,u=a.tmps.getD 35 undef:=⟨_,rfl⟩
     obtain⟨u36,hu36⟩:∃ u,u=a.tmps.getD 36 undef:=⟨_,rfl⟩
     obtain⟨u37,hu37⟩:∃ u,u=a.tmps.getD 37 undef:=⟨_,rfl⟩
     obtain⟨u38,hu38⟩:∃ u,u=a.tmps.getD 38 undef:=⟨_,rfl⟩
     obtain⟨u39,hu39⟩:∃ u,u=a.tmps.getD 39 undef:=⟨_,rfl⟩
     obtain⟨u40,hu40⟩:∃ u,u=a.tmps.getD 40 undef:=⟨_,rfl⟩
     obtain⟨u41,hu41⟩:∃ u,u=a.tmps.getD 41 undef:=⟨_,rfl⟩
     obtain⟨u42,hu42⟩:∃ u,u=a.tmps.getD 42 undef:=⟨_,rfl⟩
     obtain⟨u43,hu43⟩:∃ u,u=a.tmps.getD 43 undef:=⟨_,rfl⟩
     have hal:AllAt a 0 [.pointer (some ⟨g,0,none⟩),undef,undef,u3,u4,u5,.pointer (some ⟨g,0,none⟩),.tuple #[],.pointer (some ⟨g,0,none⟩),.tuple #[],.pointer (some ⟨g,0,none⟩),.tuple #[],.pointer (some ⟨g,0,none⟩),.pointer (some ⟨g,0,none⟩),.pointer (some ⟨g,5,none⟩),.slice (some adh) σ.hs.length c,.int .i64 (σ.hs.length:Int),.int .i64 (j:Int),u18,u19,u20,u21,u22,u23,u24,u25,u26,u27,u28,u29,u30,u31,u32,u33,u34,u35,u36,u37,u38,u39,u40,u41,u42,u43,undef,undef,undef]:=⟨hfree 0 rfl,hfree 1 rfl,hfree 2 rfl,hu3.symm,hu4.symm,hu5.symm,hfree 6 rfl,hfree 7 rfl,hfree 8 rfl,hfree 9 rfl,hfree 10 rfl,hfree 11 rfl,hfree 12 rfl,hfree 13 rfl,hfree 14 rfl,hfree 15 rfl,hfree 16 rfl,hfree 17 rfl,hu18.symm,hu19.symm,hu20.symm,hu21.symm,hu22.symm,hu23.symm,hu24.symm,hu25.symm,hu26.symm,hu27.symm,hu28.symm,hu29.symm,hu30.symm,hu31.symm,hu32.symm,hu33.symm,hu34.symm,hu35.symm,hu36.symm,hu37.symm,hu38.symm,hu39.symm,hu40.symm,hu41.symm,hu42.symm,hu43.symm,hfree 44 rfl,hfree 45 rfl,hfree 46 rfl,trivial⟩
     have hlit:=fun h=>act_lit hd h hal
     rw[hlit hsz]
     clear hlit hal hd hsz hfree hs hu3 hu4 hu5 hu18 hu19 hu20 hu21 hu22 hu23 hu24 hu25 hu26 hu27 hu28 hu29 hu30 hu31 hu32 hu33 hu34 hu35 hu36 hu37 hu38 hu39 hu40 hu41 hu42 hu43
     obtain⟨⟨p9,n9,hm9⟩,hb9⟩:=HBY.out.ce _ hC
     have HM9:=Lib.hid hm9
     have HB9:=Lib.hid (HBB.out.trans hb9)
     clear hm9 hb9 hC
     go_wp2
     go_roundw
     case rel=>
      have hlay:(lay k b9 out').length=out'.length:=by simp[lay]
      refine⟨j+1,lay k b9 out',r9,by omega,by go_num,by rw[HBD.out,HBA.out,HDC.out],by rw[hlay];exact HOL'.out,?_,⟨p9,n9,HM9.out⟩,HB9.out⟩
      intro t ht
      rw[lay] at ht
      obtain⟨i,hi⟩:=List.mem_iff_getElem?.1 ht
      rw[List.getElem?_modify] at hi
      by_cases hki:k=i
      ·subst hki
       rw[Option.map_eq_map,Option.map_eq_some_iff] at hi
       obtain⟨t',ht',rfl⟩:=hi
       simp only[if_true]
       exact HTX'.out t' (List.mem_of_getElem? ht')
      ·rw[Option.map_eq_map,Option.map_eq_some_iff] at hi
       obtain⟨t',ht',rfl⟩:=hi
       rw[if_neg hki]
       exact HTX'.out t' (List.mem_of_getElem? ht')
     case measure=>simp[intOf];omega
  ·obtain hje:j=σ.hs.length:=by omega
   have HJE:=Lib.hid hje
   clear hje
   go_wp2
   go_end0
   rw[HBD.out,HJE.out,List.drop_length]
   exact⟨rfl,HM.out.noHeres,HB.out.setCell HM.out.low _⟩
end Go.Proofs.YtkkchkkpnlnbgaaGreatDoor
