/- The parser: n.Kids = append(n.Kids, p.add(p.branch())): the statement, whatever its order. No premises. -/
import Derived.Test.YtkkchkkpnlnbgaaGreatDoorNu
set_option maxRecDepth 100000
set_option maxHeartbeats 3200000
namespace Go.Proofs.YtkkchkkpnlnbgaaGreatDoor
open Go.RowKit Go.Maps
open Lx (Tok nl)
def opsB (pos:String) (rt:TypeId) (f:FuncId) (th s:Nat):List Oper:=
 [{ dst:=some s,op:=.fieldAddr 37 (.tmp th) 6,type:=0,pos:=pos,after:=#[],guard:=none },
  { dst:=some (s+1),op:=.load 35 (.tmp s),type:=35,pos:=pos,after:=#[da 0],guard:=none },
  { dst:=some (s+2),op:=.move (.tmp 0),type:=45,pos:=pos,after:=#[],guard:=none },
  { dst:=some (s+3),op:=.move (.tmp 0),type:=45,pos:=pos,after:=#[],guard:=none },
  { dst:=some (s+4),op:=.call { callee:=.value (.func f),args:=#[.tmp (s+3)],argTypes:=#[45] },type:=37,pos:=pos,after:=#[da 3],guard:=none },
  { dst:=some (s+5),op:=.call { callee:=.value (.func 67),args:=#[.tmp (s+2),.tmp (s+4)],argTypes:=#[45,37] },type:=rt,pos:=pos,after:=#[da 2,da 4,chn 4],guard:=none },
  { dst:=some (s+6),op:=.buildSlice 35 1 #[(0,.tmp (s+5))],type:=35,pos:=pos,after:=#[da 5],guard:=none },
  { dst:=some (s+7),op:=.call { callee:=.builtin .append,args:=#[.tmp (s+1),.tmp (s+6)],argTypes:=#[35,35] },type:=35,pos:=pos,after:=#[da 1,da 6,chn 5],guard:=none },
  { dst:=some (s+8),op:=.fieldAddr 37 (.tmp th) 6,type:=0,pos:=pos,after:=#[ph 0,ph 1,ph 2,ph 3,ph 4,ph 5,ph 6,ph 7],guard:=none },
  { dst:=none,op:=.store 35 (.tmp (s+8)) (.tmp (s+7)),type:=0,pos:=pos,after:=#[da 8,da 7,chn 7,ph 0,ph 1,ph 2,ph 3,ph 4,ph 5,ph 6,ph 7],guard:=none }]
theorem apB {Q:Exit→Act→World→Prop} {a0:Act} {id:Nat} {W0 w:World} {X:Nat→Prop} {g:Nat} {C:Ctx} {h:Nat} {ln:Value} {n:Sx.Node} {v:Vals} {σ:Sx.St} (pos:String) (rt:TypeId) (f:FuncId) (th s:Nat) (hp:PLoc W0 X g C h ln n v σ w) (hX:XL X W0) (hc:CtxX X C) (hent:∀ args w,(callFunc f args).run Tryz.prog w=.ok (.enter f args) w)
  (e0:a0.tmps.getD 0 undef=.pointer (some ⟨g,0,none⟩)) (eh:a0.tmps.getD th undef=.pointer (some ⟨h,0,none⟩)) (hok:softB (opsB pos rt f th s).toArray a0.tmps.size=true) (hf0:freeTmp (opsB pos rt f th s).toArray 0=true) (hfh:freeTmp (opsB pos rt f th s).toArray th=true) (hlen:n.kids.length≤100000)
  (m:Except Sx.Er (Sx.Node×Sx.St)) (hcall:Calls Tryz.prog f #[.pointer (some ⟨g,0,none⟩)] w.drew (NodeR (plus X (h::blks v)) w.drew g C m (fun nd l=>l=lnv C.N nd.left))) (hns:∀ nd σ2,m=.ok (nd,σ2)→σ2.ns.length≤100000)
  (hbad:∀ nn k w',m=.error (nn,k)→Fr X W0 w'→∀ a,a.defers=a0.defers→Q (.panic (Pz.pflt nn (lnv C.N k))) a w')
  (hgood:∀ nd σb,m=.ok (nd,σb)→∀ a w' v',PLoc W0 X g C h ln { n with kids:=n.kids++[σb.ns.length] } v' { σb with ns:=σb.ns++[nd] } w'→a.defers=a0.defers→a.tmps.size=a0.tmps.size→(∀ t,freeTmp (opsB pos rt f th s).toArray t=true→a.tmps.getD t undef=a0.tmps.getD t undef)→Q .normal a w') :
  (Code.region id (opsB pos rt f th s).toArray true).wp Tryz.prog Q a0 w:=by
 obtain⟨A,c,hvk,hmc⟩:=own_any hp.nest.k
 obtain⟨m0,hm0⟩:∃ m0,m0=n.kids.length:=⟨_,rfl⟩
 rw[←hm0] at hvk
 have hcellP:∀ {σ w},PLoc W0 X g C h ln n v σ w→w.cell? ⟨h,6,none⟩=some (.slice A m0 c):=fun hq=>by
  rw[(hq.cell 6).1,←hvk]
  rfl
 have hdr:=hp.later (Later.drew w)
 cases hm:m with
 | error er=>
  obtain⟨nn,k⟩:=er
  rw[hm] at hcall
  have HQ:=Lib.hid (show ∀ (j:Nat) (u:Value) (w9:World),(fun (j:Nat) (_:Value) (w9:World)=>j=0∧w9=w.drew) j u w9→w9.cell? ⟨h,6,none⟩=some (.slice A m0 c) from fun j u w9 hC=>by obtain⟨_,rfl⟩:=hC;exact hcellP hdr)
  have HCA:=Lib.hid hcall
  have HBD:=Lib.hid hbad
  have HFR:=Lib.hid hp.fr
  clear hcall hbad hgood hcellP hdr hvk hm0
  refine wp_region_seq (by kernel_rfl) [4,5,6,7,9] (fun j _ w9=>j=0∧w9=w.drew) [some (.pointer (some ⟨h,6,none⟩)),some (.slice A m0 c),some (.pointer (some ⟨g,0,none⟩)),some (.pointer (some ⟨g,0,none⟩)),none,none,none,none,some (.pointer (some ⟨h,6,none⟩)),none] (by intro p hp;simp[opsB] at hp⊢;omega) (by decide) rfl hok ⟨rfl,rfl⟩ ?_ (fun a w9 u hC=>by obtain⟨e,_⟩:=hC;simp at e)
  refine⟨?_,?_,?_,?_,?_,?_,?_,?_,?_,?_,trivial⟩
  ·refine OwesS.q rfl fun a w9 j u hC hb hs=>⟨rfl,?_⟩
   have e1:a.tmps.getD th undef=.pointer (some ⟨h,0,none⟩):=(hs.free th hfh).trans eh
   clear hC hb
   refine ValWp.pure (v:=.pointer (some ⟨h,6,none⟩)) (fun K' hK'=>?_) ⟨rfl,rfl⟩
   simp only[ValWp,execOp,Act.eval,e1]
   go_simp
   all_goals exact hK'
  ·refine OwesS.q rfl fun a w9 j u hC hb hs=>⟨rfl,?_⟩
   have e1:a.tmps.getD s undef=.pointer (some ⟨h,6,none⟩):=hs.dep 0 _ rfl rfl
   have q0:=HQ.out j u w9 hC
   clear hC hb
   refine ValWp.pure (v:=.slice A m0 c) (fun K' hK'=>?_) ⟨rfl,rfl⟩
   simp only[ValWp,execOp,Act.eval,e1]
   go_simp
   all_goals exact hK'
  ·refine OwesS.q rfl fun a w9 j u hC hb hs=>⟨rfl,?_⟩
   have e1:a.tmps.getD 0 undef=.pointer (some ⟨g,0,none⟩):=(hs.free 0 hf0).trans e0
   clear hC hb
   refine ValWp.pure (v:=.pointer (some ⟨g,0,none⟩)) (fun K' hK'=>?_) ⟨rfl,rfl⟩
   simp only[ValWp,execOp,Act.eval,e1]
   go_simp
   all_goals exact hK'
  ·refine OwesS.q rfl fun a w9 j u hC hb hs=>⟨rfl,?_⟩
   have e1:a.tmps.getD 0 undef=.pointer (some ⟨g,0,none⟩):=(hs.free 0 hf0).trans e0
   clear hC hb
   refine ValWp.pure (v:=.pointer (some ⟨g,0,none⟩)) (fun K' hK'=>?_) ⟨rfl,rfl⟩
   simp only[ValWp,execOp,Act.eval,e1]
   go_simp
   all_goals exact hK'
  ·refine OwesS.w rfl fun a w9 u hC hl hs=>⟨rfl,fun K hK=>?_⟩
   obtain⟨_,rfl⟩:=hC
   have e1:a.tmps.getD (s+3) undef=.pointer (some ⟨g,0,none⟩):=hs.dep 3 _ rfl rfl
   refine wp_callO f _ _ _ rfl rfl e1 hent (HCA.out.mono ?_)
   rintro e9 w9 ⟨rfl,hf⟩
   exact .inr ⟨_,rfl,HBD.out nn k w9 hm ((HFR.out.thenLater (Later.drew w)).trans hf.less) a hs.defers⟩
  ·refine OwesS.w rfl fun a w9 u hC hl hs=>?_
   obtain⟨e,_⟩:=hC
   cases e
  ·refine OwesS.w rfl fun a w9 u hC hl hs=>?_
   obtain⟨e,_⟩:=hC
   cases e
  ·refine OwesS.w rfl fun a w9 u hC hl hs=>?_
   obtain⟨e,_⟩:=hC
   cases e
  ·refine OwesS.q rfl fun a w9 j u hC hb hs=>⟨rfl,?_⟩
   have e1:a.tmps.getD th undef=.pointer (some ⟨h,0,none⟩):=(hs.free th hfh).trans eh
   clear hC hb
   refine ValWp.pure (v:=.pointer (some ⟨h,6,none⟩)) (fun K' hK'=>?_) ⟨rfl,rfl⟩
   simp only[ValWp,execOp,Act.eval,e1]
   go_simp
   all_goals exact hK'
  ·refine OwesS.w rfl fun a w9 u hC hl hs=>?_
   obtain⟨e,_⟩:=hC
   cases e
 | ok x=>
  obtain⟨nd,σb⟩:=x
  obtain⟨i,hi9⟩:∃ i,i=σb.ns.length:=⟨_,rfl⟩
  obtain⟨σ2,hσ2⟩:∃ σ2:Sx.St,σ2={ σb with ns:=σb.ns++[nd] }:=⟨_,rfl⟩
  have hns':=hns nd σb hm
  have hgood:=hgood nd σb hm
  rw[←hi9,←hσ2] at hgood
  rw[hm] at hcall
  obtain⟨i0,hi,hz0,hz1,hz2⟩:=info_parts info_int3
  let P3:Value→World→Prop:=fun (u:Value) (w9:World)=>∃ w1,PLoc W0 X g C h ln n v σ2 w1∧w9.ownsRow 0 3 1 u (n.kids.length+1) (n.kids.map iv++[.int .i64 (i:Int)])∧(w1.alloc (.cells #[.int .i64 (i:Int)] 3)).grownBy w9 v.k.ownBlock∧(u.ownBlock=v.k.ownBlock∨u.ownBlock=some (w1.alloc (.cells #[.int .i64 (i:Int)] 3)).heap.size)
  let PB:Value→World→Prop:=fun u w9=>∃ vb,u=.agg (ncs nd vb (lnv C.N nd.left)).toArray∧PLoc W0 X g C h ln n v σb w9∧PMem w9 (plus (plus X (h::blks v)) (blks vb)) g C σb∧Nest w9 nd vb∧∀ b∈blks vb,¬ plus X (h::blks v) b
  obtain⟨C0,hC0⟩:∃ C0:Nat→Value→World→Prop,C0=fun j u w9=>(j=0∧w9=w.drew)∨(j=1∧PB u w9)∨(j=2∧u=.int .i64 (i:Int)∧PLoc W0 X g C h ln n v σ2 w9)∨(j=3∧∃ w1,PLoc W0 X g C h ln n v σ2 w1∧u=.slice (some ⟨w1.heap.size,0,none⟩) 1 1∧w9=w1.alloc (.cells #[.int .i64 (i:Int)] 3))∨(j=4∧P3 u w9)∨(j=5∧∃ v',PLoc W0 X g C h ln { n with kids:=n.kids++[i] } v' σ2 w9):=⟨_,rfl⟩
  have HQ:=Lib.hid (show ∀ j u w9,C0 j u w9→j≤3→w9.cell? ⟨h,6,none⟩=some (.slice A m0 c) from fun j u w9 hC hj=>by
   rw[hC0] at hC
   rcases hC with⟨_,rfl⟩ | ⟨_,vb,_,hC,_⟩ | ⟨_,_,hC⟩ | ⟨_,w1,hC,_,rfl⟩ | ⟨e,_⟩ | ⟨e,_⟩
   ·exact hcellP hdr
   ·exact hcellP hC
   ·exact hcellP hC
   ·exact hcellP (hC.later (Later.alloc _ _))
   ·omega
   ·omega)
  have H0:=Lib.hid (show C0 0 undef w.drew by rw[hC0];exact .inl ⟨rfl,rfl⟩)
  have HA0:=Lib.hid (show ∀ u w9,C0 0 u w9→w9=w.drew from fun u w9 hC=>by
   rw[hC0] at hC
   rcases hC with⟨_,e⟩ | ⟨e,_⟩ | ⟨e,_⟩ | ⟨e,_⟩ | ⟨e,_⟩ | ⟨e,_⟩
   ·exact e
   all_goals cases e)
  have H1:=Lib.hid (show ∀ u w9,PB u w9→C0 1 u w9 from fun u w9 hq=>by rw[hC0];exact .inr (.inl ⟨rfl,hq⟩))
  have HA1:=Lib.hid (show ∀ u w9,C0 1 u w9→∃ NC,u=.agg NC∧Calls Tryz.prog 67 #[.pointer (some ⟨g,0,none⟩),.agg NC] w9 fun e w8=>e=.returned (.int .i64 (i:Int))∧PLoc W0 X g C h ln n v σ2 w8 from fun u w9 hC=>by
   rw[hC0] at hC
   rcases hC with⟨e,_⟩ | ⟨_,vb,rfl,hq,hq2,hq3,hq4⟩ | ⟨e,_⟩ | ⟨e,_⟩ | ⟨e,_⟩ | ⟨e,_⟩
   ·cases e
   ·refine⟨_,rfl,(Pz.add_v nd vb _ rfl hq2 (hc.more _) (hq.xl hX) hq3 hq4 hns').mono fun e w8 hh=>?_⟩
    obtain⟨h1,h2,h3⟩:=hh
    refine⟨by rw[h1,hi9],?_⟩
    rw[hσ2]
    exact hq.call h2 h3
   all_goals cases e)
  have HF1:=Lib.hid (show ∀ w9,PLoc W0 X g C h ln n v σ2 w9→C0 2 (.int .i64 (i:Int)) w9 from fun w9 hq=>by rw[hC0];exact .inr (.inr (.inl ⟨rfl,rfl,hq⟩)))
  have HF2:=Lib.hid (show ∀ u w9,C0 2 u w9→PLoc W0 X g C h ln n v σ2 w9 from fun u w9 hC=>by
   rw[hC0] at hC
   rcases hC with⟨e,_⟩ | ⟨e,_⟩ | ⟨_,_,e⟩ | ⟨e,_⟩ | ⟨e,_⟩ | ⟨e,_⟩
   ·cases e
   ·cases e
   ·exact e
   all_goals cases e)
  have H2:=Lib.hid (show ∀ w1,PLoc W0 X g C h ln n v σ2 w1→C0 3 (.slice (some ⟨w1.heap.size,0,none⟩) 1 1) (w1.alloc (.cells #[.int .i64 (i:Int)] 3)) from fun w1 hq=>by rw[hC0];exact .inr (.inr (.inr (.inl ⟨rfl,w1,hq,rfl,rfl⟩))))
  have HA2:=Lib.hid (show ∀ u w9,C0 3 u w9→∃ w1,PLoc W0 X g C h ln n v σ2 w1∧u=.slice (some ⟨w1.heap.size,0,none⟩) 1 1∧w9=w1.alloc (.cells #[.int .i64 (i:Int)] 3) from fun u w9 hC=>by
   rw[hC0] at hC
   rcases hC with⟨e,_⟩ | ⟨e,_⟩ | ⟨e,_⟩ | ⟨_,e⟩ | ⟨e,_⟩ | ⟨e,_⟩
   ·cases e
   ·cases e
   ·cases e
   ·exact e
   all_goals cases e)
  have HAP:=Lib.hid (show ∀ w1,PLoc W0 X g C h ln n v σ2 w1→∃ v' w',(Builtin.append_ #[35,35] 35 #[.slice A m0 c,.slice (some ⟨w1.heap.size,0,none⟩) 1 1]).run Tryz.prog (w1.alloc (.cells #[.int .i64 (i:Int)] 3))=.ok v' w'∧C0 4 v' w' from fun w1 hq=>by
   have hrow:=(hq.later (Later.alloc w1 (.cells #[.int .i64 (i:Int)] 3))).nest.k
   obtain⟨v',w',hrun,h2,h3,_,h5⟩:=run_append_own_at (P:=Tryz.prog) (w1.alloc (.cells #[.int .i64 (i:Int)] 3)) 0 35 35 3 i0 _ 1 8 Tryz.underlying35 hi hz0 hz1 hz2 rfl (by omega) v.k n.kids.length (n.kids.map iv) hrow ⟨w1.heap.size,0,none⟩ 1 1 [.int .i64 (i:Int)] rfl
    (fun j u hj=>by rw[add_lit0,(cell_row (heap_alloc_new w1 _) j).1];simpa using hj) (by intro u hu;simp at hu;subst hu;rfl) (by unfold maxLen;omega) (by omega) (Nat.zero_le _)
   rw[hvk] at hrun
   refine⟨v',w',hrun,?_⟩
   rw[hC0]
   exact .inr (.inr (.inr (.inr (.inl ⟨rfl,w1,hq,h2,h3,h5⟩)))))
  have HST:=Lib.hid (show ∀ u w9,C0 4 u w9→(∃ A4 n4 k4,u=.slice A4 n4 k4)∧w9.cell? ⟨h,6,none⟩=some (.slice A m0 c)∧w9.frozen? ⟨h,6,none⟩=false∧C0 5 undef (w9.setCell ⟨h,6,none⟩ u) from fun u w9 hC=>by
   rw[hC0] at hC
   rcases hC with⟨e,_⟩ | ⟨e,_⟩ | ⟨e,_⟩ | ⟨e,_⟩ | ⟨_,w1,hq,h2,h3,h5⟩ | ⟨e,_⟩
   ·cases e
   ·cases e
   ·cases e
   ·cases e
   ·obtain⟨q1,⟨A4,k4,q2⟩,q3,q4⟩:=hq.growK hX hc i (Later.alloc w1 (.cells #[.int .i64 (i:Int)] 3)) h2 h3 h5
    refine⟨⟨A4,_,k4,q2⟩,by rw[q3,hvk],q4,?_⟩
    rw[hC0]
    exact .inr (.inr (.inr (.inr (.inr ⟨rfl,_,q1⟩))))
   ·cases e)
  have HE:=Lib.hid (show ∀ u w9,C0 5 u w9→∃ v',PLoc W0 X g C h ln { n with kids:=n.kids++[i] } v' σ2 w9 from fun u w9 hC=>by
   rw[hC0] at hC
   rcases hC with⟨e,_⟩ | ⟨e,_⟩ | ⟨e,_⟩ | ⟨e,_⟩ | ⟨e,_⟩ | ⟨_,e⟩
   ·cases e
   ·cases e
   ·cases e
   ·cases e
   ·cases e
   ·exact e)
  have HCA:=Lib.hid (show Calls Tryz.prog f #[.pointer (some ⟨g,0,none⟩)] w.drew fun e w9=>∃ u,e=.returned u∧C0 1 u w9 from hcall.mono fun e w9 hh=>by
   obtain⟨vb,l,h1,h2,h3,h4,h5,h6⟩:=hh
   subst h2
   exact⟨_,h1,H1.out _ w9 ⟨vb,rfl,hdr.call (h5.less (hc.more _)) h6,h5,h3,fun b hb hx=>by have h7:=h4 b hb;have h8:=hdr.xl hX b hx;omega⟩⟩)
  have HGD:=Lib.hid hgood
  clear_value P3 PB
  clear hcall hbad hgood hcellP hdr hvk hm0 hC0 hi hz0 hz1 hz2 hp hi9 hσ2 hns hns'
  refine wp_region_seq (by kernel_rfl) [4,5,6,7,9] C0 [some (.pointer (some ⟨h,6,none⟩)),some (.slice A m0 c),some (.pointer (some ⟨g,0,none⟩)),some (.pointer (some ⟨g,0,none⟩)),none,some (.int .i64 (i:Int)),none,none,some (.pointer (some ⟨h,6,none⟩)),none] (by intro p hp;simp[opsB] at hp⊢;omega) (by decide) rfl hok H0.out ?_ (fun a w9 u hC _ hd hsz hfree _=>by obtain⟨v',hq⟩:=HE.out u w9 hC;exact HGD.out a w9 v' hq hd hsz hfree)
  refine⟨?_,?_,?_,?_,?_,?_,?_,?_,?_,?_,trivial⟩
  ·refine OwesS.q rfl fun a w9 j u hC hb hs=>⟨rfl,?_⟩
   have e1:a.tmps.getD th undef=.pointer (some ⟨h,0,none⟩):=(hs.free th hfh).trans eh
   clear hC hb
   refine ValWp.pure (v:=.pointer (some ⟨h,6,none⟩)) (fun K' hK'=>?_) ⟨rfl,rfl⟩
   simp only[ValWp,execOp,Act.eval,e1]
   go_simp
   all_goals exact hK'
  ·refine OwesS.q rfl fun a w9 j u hC hb hs=>⟨rfl,?_⟩
   have e1:a.tmps.getD s undef=.pointer (some ⟨h,6,none⟩):=hs.dep 0 _ rfl rfl
   have q0:=HQ.out j u w9 hC (hb 3 7 rfl rfl)
   clear hC hb
   refine ValWp.pure (v:=.slice A m0 c) (fun K' hK'=>?_) ⟨rfl,rfl⟩
   simp only[ValWp,execOp,Act.eval,e1]
   go_simp
   all_goals exact hK'
  ·refine OwesS.q rfl fun a w9 j u hC hb hs=>⟨rfl,?_⟩
   have e1:a.tmps.getD 0 undef=.pointer (some ⟨g,0,none⟩):=(hs.free 0 hf0).trans e0
   clear hC hb
   refine ValWp.pure (v:=.pointer (some ⟨g,0,none⟩)) (fun K' hK'=>?_) ⟨rfl,rfl⟩
   simp only[ValWp,execOp,Act.eval,e1]
   go_simp
   all_goals exact hK'
  ·refine OwesS.q rfl fun a w9 j u hC hb hs=>⟨rfl,?_⟩
   have e1:a.tmps.getD 0 undef=.pointer (some ⟨g,0,none⟩):=(hs.free 0 hf0).trans e0
   clear hC hb
   refine ValWp.pure (v:=.pointer (some ⟨g,0,none⟩)) (fun K' hK'=>?_) ⟨rfl,rfl⟩
   simp only[ValWp,execOp,Act.eval,e1]
   go_simp
   all_goals exact hK'
  ·refine OwesS.w rfl fun a w9 u hC hl hs=>⟨rfl,fun K hK=>?_⟩
   have hw:=HA0.out u w9 hC
   subst hw
   have e1:a.tmps.getD (s+3) undef=.pointer (some ⟨g,0,none⟩):=hs.dep 3 _ rfl rfl
   refine wp_callO f _ _ _ rfl rfl e1 hent (HCA.out.mono ?_)
   rintro e9 w9 ⟨u9,rfl,hq⟩
   exact .inl ⟨_,rfl,hK _ w9 trivial hq⟩
  ·refine OwesS.w rfl fun a w9 u hC hl hs=>⟨rfl,fun K hK=>?_⟩
   obtain⟨NC,hu,hcl⟩:=HA1.out u w9 hC
   subst hu
   have e1:a.tmps.getD (s+2) undef=.pointer (some ⟨g,0,none⟩):=hs.dep 2 _ rfl rfl
   have e2:a.tmps.getD (s+4) undef=.agg NC:=hl
   refine wp_of_val (ValWp.call #[.pointer (some ⟨g,0,none⟩),.agg NC] rfl rfl Tryz.func67 rfl rfl (by simp only[List.map_toArray,List.map_cons,List.map_nil,Act.eval,e1,e2]) ?_)
   refine hcl.mono ?_
   rintro e9 w8 ⟨rfl,hq⟩
   exact⟨_,rfl,hK _ w8 rfl (HF1.out w8 hq)⟩
  ·refine OwesS.w rfl fun a w9 u hC hl hs=>⟨rfl,fun K hK=>?_⟩
   have e1:a.tmps.getD (s+5) undef=.int .i64 (i:Int):=hs.dep 5 _ rfl rfl
   have hq:=HF2.out u w9 hC
   refine wp_of_val ?_
   refine ValWp.pure (v:=.slice (some ⟨w9.heap.size,0,none⟩) 1 1) (w':=w9.alloc (.cells #[.int .i64 (i:Int)] 3)) (fun K' hK'=>?_) (hK _ _ trivial (H2.out w9 hq))
   clear hq
   simp only[ValWp,execOp,Act.eval,List.map_toArray,List.map_cons,List.map_nil,e1]
   go_simp
   all_goals exact hK'
  ·refine OwesS.w rfl fun a w9 u hC hl hs=>⟨rfl,fun K hK=>?_⟩
   have e1:a.tmps.getD (s+1) undef=.slice A m0 c:=hs.dep 1 _ rfl rfl
   obtain⟨w1,hq,hu,hw⟩:=HA2.out u w9 hC
   subst hu
   subst hw
   have e2:a.tmps.getD (s+6) undef=.slice (some ⟨w1.heap.size,0,none⟩) 1 1:=hl
   obtain⟨v',w',hrun,h3⟩:=HAP.out w1 hq
   exact owes_append hrun rfl e1 e2 (hK v' w' trivial h3)
  ·refine OwesS.q rfl fun a w9 j u hC hb hs=>⟨rfl,?_⟩
   have e1:a.tmps.getD th undef=.pointer (some ⟨h,0,none⟩):=(hs.free th hfh).trans eh
   clear hC hb
   refine ValWp.pure (v:=.pointer (some ⟨h,6,none⟩)) (fun K' hK'=>?_) ⟨rfl,rfl⟩
   simp only[ValWp,execOp,Act.eval,e1]
   go_simp
   all_goals exact hK'
  ·refine OwesS.w rfl fun a w9 u hC hl hs=>⟨rfl,fun K hK=>?_⟩
   have e1:a.tmps.getD (s+8) undef=.pointer (some ⟨h,6,none⟩):=hs.dep 8 _ rfl rfl
   obtain⟨⟨A4,n4,k4,hu⟩,q1,q2,q3⟩:=HST.out u w9 hC
   subst hu
   have e2:a.tmps.getD (s+7) undef=.slice A4 n4 k4:=hl
   refine wp_of_val ?_
   refine ValWp.pure (v:=undef) (w':=w9.setCell ⟨h,6,none⟩ (.slice A4 n4 k4)) (fun K' hK'=>?_) (hK _ _ trivial q3)
   simp only[ValWp,execOp,Act.eval,e1,e2]
   go_simp
   all_goals exact hK'
end Go.Proofs.YtkkchkkpnlnbgaaGreatDoor
namespace Go.Proofs.YtkkchkkpnlnbgaaGreatDoor
open Go.RowKit Go.Maps
open Lx (Tok nl)
theorem passed_ne (t:Lx.L) (s:Sx.St) (e:Sx.Er):Sx.passed t s≠.error e:=by
 unfold Sx.passed
 split <;> nofun
theorem parted_ne (s:Sx.St) (e:Sx.Er):Sx.parted s≠.error e:=by
 unfold Sx.parted
 split <;> nofun
def exactLn (N:Nat) (nd:Sx.Node) (l:Value):Prop:=l=lnv N nd.left
namespace Pz
section
variable {W:World} {X:Nat→Prop} {g:Nat} {C:Ctx} {σ:Sx.St} {n:Nat} {a:Sx.M Nat}
theorem loop_v (hL:Lev g C n a) (h:PMem W X g C σ) (hX:XL X W) (hF:Fit σ) (hn:σ.r.length<n) (ht:(Sx.hd σ).text≠[]):Calls Tryz.prog 25 #[.pointer (some ⟨g,0,none⟩)] W (NodeR X W g C (Sx.loop a σ) anyLn):=by
 have HL:=Lib.hid hL
 have HN:=Lib.hid hn
 have HFT0:=Lib.hid hF
 have HXL0:=Lib.hid hX
 have HM0:=Lib.hid h
 have HC:=Lib.hid h.ctx
 have HFR0:=Lib.hid (Fr.refl X W)
 have HW0:=Lib.hid (Sx.Wk.refl hF.good)
 have hf0:=fld0
 have hf1:=fld1
 have hf3:=fld3
 have HLO:=Lib.hid h.low
 have HZ:=Lib.hid (h.more [W.heap.size] (by simp))
 have HT:=Lib.hid ht
 have hun:((mkS (Sx.hd σ).text).toList==[117,110,116,105,108])=Sx.isT Sx.kUNTIL σ:=txt_eq _ _
 clear hL hn hF hX h ht
 go_enter Tryz.func25,Tryz.ntmps25
 go_wp2_with (first
   |(refine wpList_allocO 2 rfl rfl 37 rfl _ _ info_node ?_;intro w0 hb hl hz;have HB1:=Lib.hid (hb);have HM1:=Lib.hid (HZ.out.later hl);have HFR1:=Lib.hid (Fr.later (X:=X) hl);have HXL1:=Lib.hid (XL.plus (l:=[W.heap.size]) (HXL0.out.mono hl.size) (by simp;omega));have HFT1:=Lib.hid (HFT0.out);have HW1:=Lib.hid (HW0.out);have HG1:=Lib.hid (Fr.refl (plus X [W.heap.size]) w0);have HL01:=Lib.hid (hl);have HZ0:=Lib.hid (show W.heap.size<w0.heap.size by omega);have HXB:=Lib.hid (XL.plus (l:=[W.heap.size]) (HXL0.out.mono hl.size) (by simp;omega));clear hb hl hz HM0 HFR0 HXL0)
   |(go_at_call 54;(with_reducible refine(next_v HM1.out HFT1.out.ne).mono ?_);rintro e w2 ⟨rfl,hm,hf⟩;have HW2:=Lib.hid (HW1.out.trans (Sx.Wk.go HFT1.out.good (.inl HT.out)) (k:=9) (by omega));have HM2:=Lib.hid (hm);have HFR2:=Lib.hid (HFR1.out.trans hf.less);have HB2:=Lib.hid (hf.cells HB1.out (.inr (by simp)));have HG2:=Lib.hid (HG1.out.trans hf);have HXL2:=Lib.hid (HXL1.out.mono hf.size);have HFT2:=Lib.hid (HFT0.out.wk HW2.out (by omega));clear hm hf;unfold tcs)
   |(go_at_call 52;(with_reducible refine(list_v HL.out HM2.out HXL2.out HFT2.out (by have h8:=HW2.out.len (by omega);have h9:=HN.out;omega)).mono ?_);intro e w3 hh;refine StR.cases hh (fun nn kk hx he hf=>by subst he;refine bodyPost_panic (P:=Tryz.prog) (fn:=Tryz.f25) rfl ?_;rw[show Sx.loop a σ=.error (nn,kk) by simp only[Sx.loop,Sx.bnd,hx]];exact⟨rfl,HFR2.out.trans hf.less⟩) (fun i σ3 hx he hm hf=>?_);subst he;clear hh;have HX3:=Lib.hid (hx);have HW3:=Lib.hid (HW2.out.trans (Sx.lst_un HL.out.un HFT2.out.good hx) (k:=8) (by omega));have HM3:=Lib.hid (hm);have HFR3:=Lib.hid (HFR2.out.trans hf.less);have HB3:=Lib.hid (hf.cells HB2.out (.inr (by simp)));have HG3:=Lib.hid (HG2.out.trans hf);have HXL3:=Lib.hid (HXL2.out.mono hf.size);have HFT3:=Lib.hid (HFT0.out.wk HW3.out (by omega));clear hx hm hf;unfold natV)
   |(go_at_call 55;(with_reducible refine(body_v HL.out HM3.out HXL3.out HFT3.out (by have h8:=HW3.out.len (by omega);have h9:=HN.out;omega)).mono ?_);intro e w4 hh;refine StR.cases hh (fun nn kk hx he hf=>by subst he;refine bodyPost_panic (P:=Tryz.prog) (fn:=Tryz.f25) rfl ?_;rw[show Sx.loop a σ=.error (nn,kk) by simp only[Sx.loop,Sx.bnd,HX3.out,hx]];exact⟨rfl,HFR3.out.trans hf.less⟩) (fun j σ4 hx he hm hf=>?_);subst he;clear hh;have HX4:=Lib.hid (hx);have HW4:=Lib.hid (HW3.out.trans (Sx.body_un HL.out.un HFT3.out.good hx) (k:=17) (by omega));have HM4:=Lib.hid (hm);have HFR4:=Lib.hid (HFR3.out.trans hf.less);have HB4:=Lib.hid (hf.cells HB3.out (.inr (by simp)));have HG4:=Lib.hid (HG3.out.trans hf);have HXL4:=Lib.hid (HXL3.out.mono hf.size);have HFT4:=Lib.hid (HFT0.out.wk HW4.out (by omega));clear hx hm hf;unfold natV)
   |(refine wpList_storeO rfl 37 (.tmp 2) (.tmp 16) rfl W.heap.size _ _ rfl rfl (later_cells (Later.alloc _ _) HB4.out) size_node rfl (by simp[Value.oneCell']) ?_;intro w9 hb9 hg9 hz9))
 have hlt:W.heap.size<w4.heap.size:=lt_of_block HB4.out
 obtain⟨q1,q2,q3,q4⟩:=node_lit ({ kind:=7,flag:=Sx.isT Sx.kUNTIL σ,kids:=[i,j] }:Sx.Node) [i,j] rfl rfl rfl (by simp) HM4.out HC.out HFR4.out HLO.out hlt hg9
 refine bodyPost_ret (results_node rfl _ _ W.heap.size _ (0,0) rfl hb9 rfl) rfl ?_
 rw[show Sx.loop a σ=.ok ({ kind:=7,flag:=Sx.isT Sx.kUNTIL σ,kids:=[i,j] },σ4) by simp only[Sx.loop,Sx.bnd,Sx.ret,HX3.out,HX4.out]]
 exact⟨_,.int .i64 0,rfl,⟨0,rfl⟩,q1,q2,q3,q4⟩
theorem branch_v (hL:Lev g C n a) (m:Nat) {W:World} {X:Nat→Prop} {σ:Sx.St} (h:PMem W X g C σ) (hX:XL X W) (hF:Fit σ) (hn:σ.r.length<n) (hm:σ.r.length<m) (ht:(Sx.hd σ).text≠[]):Calls Tryz.prog 53 #[.pointer (some ⟨g,0,none⟩)] W (NodeR X W g C (Sx.branchF a m σ) (exactLn C.N)):=by
 induction m generalizing W X σ with
 | zero=>omega
 | succ m ih=>
  have HL:=Lib.hid hL
  have HN:=Lib.hid hn
  have HFT0:=Lib.hid hF
  have HXL0:=Lib.hid hX
  have HM0:=Lib.hid h
  have HC:=Lib.hid h.ctx
  have HFR0:=Lib.hid (Fr.refl X W)
  have HW0:=Lib.hid (Sx.Wk.refl hF.good)
  have hf0:=fld0
  have hf1:=fld1
  have hf3:=fld3
  have HLO:=Lib.hid h.low
  have HZ:=Lib.hid (h.more [W.heap.size] (by simp))
  have HT:=Lib.hid ht
  have HIH:=Lib.hid (fun (W:World) (X:Nat→Prop) (σ:Sx.St)=>ih (W:=W) (X:=X) (σ:=σ))
  have HMM:=Lib.hid hm
  clear hL hn hF hX h ht hm ih
  go_enter Tryz.func53,Tryz.ntmps53
  go_wp2_with (first
   |(refine wpList_allocO 2 rfl rfl 37 rfl _ _ info_node ?_;intro w0 hb hl hz;have HB1:=Lib.hid (hb);have HM1:=Lib.hid (HZ.out.later hl);have HFR1:=Lib.hid (Fr.later (X:=X) hl);have HXL1:=Lib.hid (XL.plus (l:=[W.heap.size]) (HXL0.out.mono hl.size) (by simp;omega));have HFT1:=Lib.hid (HFT0.out);have HW1:=Lib.hid (HW0.out);have HG1:=Lib.hid (Fr.refl (plus X [W.heap.size]) w0);have HL01:=Lib.hid (hl);have HZ0:=Lib.hid (show W.heap.size<w0.heap.size by omega);have HXB:=Lib.hid (XL.plus (l:=[W.heap.size]) (HXL0.out.mono hl.size) (by simp;omega));clear hb hl hz HM0 HFR0 HXL0)
   |(go_at_call 54;(with_reducible refine(next_v HM1.out HFT1.out.ne).mono ?_);rintro e w2 ⟨rfl,hm,hf⟩;have HW2:=Lib.hid (HW1.out.trans (Sx.Wk.go HFT1.out.good (.inl HT.out)) (k:=9) (by omega));have HM2:=Lib.hid (hm);have HFR2:=Lib.hid (HFR1.out.trans hf.less);have HB2:=Lib.hid (hf.cells HB1.out (.inr (by simp)));have HG2:=Lib.hid (HG1.out.trans hf);have HXL2:=Lib.hid (HXL1.out.mono hf.size);have HFT2:=Lib.hid (HFT0.out.wk HW2.out (by omega));clear hm hf;unfold tcs)
   |(refine wpList_allocO 3 rfl rfl 37 rfl _ _ info_node ?_;intro w8 hb hl hz;have HB8:=Lib.hid (hb);have HL8:=Lib.hid (hl);clear hb hl hz)
   |(refine wpList_storeO rfl 37 (.tmp 3) (.tmp 8) rfl w2.heap.size _ (ncs ({ kind:=6,left:=(Sx.hd σ).left }:Sx.Node) v0 (lnv C.N (Sx.hd σ).left)).toArray rfl rfl HB8.out size_node rfl (ncs_all (Nest.v0 W _ rfl rfl rfl) rfl) ?_;intro w9 hb hg hz;have HP3:=Lib.hid (PLoc.made (W0:=w0) (X:=(plus X [W.heap.size])) (HM2.out.sub (Y:=plus (plus X [W.heap.size]) (blks v0)) (fun b hb=>hb.resolve_right (by simp[blks_v0])) (CtxX.more (HC.out.more _) _)) (HC.out.more _) HG2.out (Nest.v0 _ _ rfl rfl rfl) (by simp[blks_v0]) HL8.out hg hb);have HW3:=Lib.hid (HW2.out);have HFT3:=Lib.hid (HFT2.out);clear hb hg hz HB8 HL8)
   |(go_at_call 52;(with_reducible refine(list_v HL.out (HP3.out.mem) (HP3.out.xl HXB.out) HFT3.out (by have h8:=HW3.out.len (by omega);have h9:=HN.out;omega)).mono ?_);intro e w4 hh;refine StR.cases hh (fun nn kk hx he hf=>by subst he;refine bodyPost_panic (P:=Tryz.prog) (fn:=Tryz.f53) rfl ?_;rw[show Sx.branchF a (m+1) σ=.error (nn,kk) by simp only[Sx.branchF,Sx.bnd,hx]];exact⟨rfl,HFR1.out.trans (HP3.out.fr.trans hf.less).less⟩) (fun i σ4 hx he hm hf=>?_);subst he;clear hh;have HX4:=Lib.hid (hx);have HW4:=Lib.hid (HW3.out.trans (Sx.lst_un HL.out.un HFT3.out.good hx) (k:=8) (by omega));have HP4:=Lib.hid (HP3.out.call hm hf);have HFT4:=Lib.hid (HFT0.out.wk HW4.out (by omega));clear hx hm hf;unfold natV)
   |(go_at_call 51;(with_reducible refine(need_v ⟨#[116,104,101,110]⟩ Sx.kTHEN rfl (HP4.out.mem) HFT4.out.ne).mono ?_);intro e w5 hh;refine StR.cases hh (fun nn kk hx he hf=>by subst he;refine bodyPost_panic (P:=Tryz.prog) (fn:=Tryz.f53) rfl ?_;rw[show Sx.branchF a (m+1) σ=.error (nn,kk) by simp only[Sx.branchF,Sx.bnd,HX4.out,hx]];exact⟨rfl,HFR1.out.trans (HP4.out.fr.trans hf.less).less⟩) (fun x4 σ5 hx he hm hf=>?_);subst he;clear hh;have HX5:=Lib.hid (hx);have HW5:=Lib.hid (HW4.out.trans ((Sx.need_un (by decide) HFT4.out.good hx).2.2) (k:=16) (by omega));have HP5:=Lib.hid (HP4.out.call hm hf);have HFT5:=Lib.hid (HFT0.out.wk HW5.out (by omega));clear hx hm hf)
   |(go_at_call 52;(with_reducible refine(list_v HL.out (HP5.out.mem) (HP5.out.xl HXB.out) HFT5.out (by have h8:=HW5.out.len (by omega);have h9:=HN.out;omega)).mono ?_);intro e w6 hh;refine StR.cases hh (fun nn kk hx he hf=>by subst he;refine bodyPost_panic (P:=Tryz.prog) (fn:=Tryz.f53) rfl ?_;rw[show Sx.branchF a (m+1) σ=.error (nn,kk) by simp only[Sx.branchF,Sx.bnd,HX4.out,HX5.out,hx]];exact⟨rfl,HFR1.out.trans (HP5.out.fr.trans hf.less).less⟩) (fun j σ6 hx he hm hf=>?_);subst he;clear hh;have HX6:=Lib.hid (hx);have HW6:=Lib.hid (HW5.out.trans (Sx.lst_un HL.out.un HFT5.out.good hx) (k:=15) (by omega));have HP6:=Lib.hid (HP5.out.call hm hf);have HFT6:=Lib.hid (HFT0.out.wk HW6.out (by omega));clear hx hm hf;unfold natV;have HPL:=Lib.hid ((PLoc.growK2 HP6.out HXB.out (HC.out.more _) i j (Later.refl w6) (v':=.slice (some ⟨w6.heap.size,0,none⟩) 2 2) (w':=w6.alloc (.cells #[.int .i64 (i:Int),.int .i64 (j:Int)] 3)) (own_lit w6 3 [iv i,iv j] (by simp)) (grown_of_later (Later.alloc _ _) _) (.inr rfl)).1);obtain⟨q6,z6⟩:=(HP6.out.later (Later.alloc w6 (.cells #[.int .i64 (i:Int),.int .i64 (j:Int)] 3))).cell 6;simp only[ncs,List.getElem?_cons_succ,List.getElem?_cons_zero,v0,nilV] at q6)
   |(go_at_call 62;(with_reducible refine(is_v ⟨#[101,108,105,102]⟩ Sx.kELIF rfl HPL.out.mem HFT6.out.ne).mono ?_);rintro e w7 ⟨rfl,hl⟩;have HP7:=Lib.hid (HPL.out.later hl);have HW7:=Lib.hid HW6.out;have HFT7:=Lib.hid HFT6.out;clear hl HPL q6 z6;cases hq:Sx.isT Sx.kELIF σ6 <;> (have HEL:=Lib.hid hq;clear hq))
   |(go_at_call 57;(with_reducible refine(passed_v ⟨#[101,108,115,101]⟩ Sx.kELSE rfl (HP7.out.mem) HFT7.out.ne).mono ?_);intro e w8 hh;refine StR.cases hh (fun nn kk hx he hf=>by subst he;exact absurd hx (passed_ne _ _ _)) (fun b σ8 hx he hm hf=>?_);subst he;clear hh;have HX8:=Lib.hid (hx);have HW8:=Lib.hid (HW7.out.trans (Sx.passed_wk (by decide) HFT7.out.good hx) (k:=15) (by omega));have HP8:=Lib.hid (HP7.out.call hm hf);have HFT8:=Lib.hid (HFT0.out.wk HW8.out (by omega));clear hx hm hf;cases b)
   |(refine wpList_loadO rfl 37 (.tmp 3) rfl w2.heap.size _ _ rfl HP8.out.box Tryz.underlying37 rfl size_node ?_)
   |(refine wpList_storeO rfl 37 (.tmp 2) (.tmp 40) rfl W.heap.size _ _ rfl rfl (HP8.out.fr.cells HB1.out (.inr (by simp))) size_node rfl (ncs_all HP8.out.nest rfl) ?_;intro w9 hb9 hg9 hz9))
  ·
   obtain⟨q1,q2,q3,q4⟩:=PLoc.result HP8.out HC.out HLO.out HL01.out HZ0.out hg9
   refine bodyPost_ret (results_node rfl _ _ W.heap.size _ (0,0) rfl hb9 rfl) rfl ?_
   rw[show Sx.branchF a (m+1) σ=.ok (({ kind:=6,kids:=[i,j],left:=(Sx.hd σ).left }:Sx.Node),σ8) by simp only[Sx.branchF,Sx.bnd,Sx.ret,HX4.out,HX5.out,HX6.out,HX8.out,HEL.out,Bool.false_eq_true,if_false,if_true]]
   exact⟨_,_,rfl,rfl,q1,q2,q3,q4⟩
  ·
   have hpd:=HP8.out.later (Later.drew _)
   have hcl:=list_v HL.out hpd.mem (hpd.xl HXB.out) HFT8.out (by have h8:=HW8.out.len (by omega);have h9:=HN.out;omega)
   refine apK "syntax.go:413" 3 52 3 33 HP8.out HXB.out (HC.out.more _) (entO Tryz.func52 rfl rfl) rfl rfl (by kernel_rfl) rfl rfl (by simp) (Sx.lst a σ8) hcl (fun nn kk w' hm0 hf9 a9 hd9=>by refine bodyPost_panic (P:=Tryz.prog) (fn:=Tryz.f53) hd9 ?_;rw[show Sx.branchF a (m+1) σ=.error (nn,kk) by simp only[Sx.branchF,Sx.bnd,HX4.out,HX5.out,HX6.out,HX8.out,HEL.out,Bool.false_eq_true,if_false,if_true,hm0]];exact⟨rfl,HFR1.out.trans hf9.less⟩) ?_
   intro k σz hk a9 wz vz hp9 hd hsz hfree
   have HK:=Lib.hid hk
   clear hk hcl hpd
   obtain⟨z0,u1,z2,z3,u4,u5,u6,u7,u8,u9,u10,u11,u12,u13,u14,u15,u16,u17,u18,u19,u20,u21,u22,u23,u24,u25,u26,u27,u28,u29,u30,u31,u32,u33,u34,u35,u36,u37,u38,u39,u40,hal⟩:=lets a9 41 0
   obtain rfl:=hal.on (v:=.pointer (some ⟨g,0,none⟩)) 0 (hfree 0 rfl) rfl
   obtain rfl:=hal.on (v:=.pointer (some ⟨W.heap.size,0,none⟩)) 2 (hfree 2 rfl) rfl
   obtain rfl:=hal.on (v:=.pointer (some ⟨w2.heap.size,0,none⟩)) 3 (hfree 3 rfl) rfl
   have hlit:=fun h=>act_lit hd h hal
   rw[hlit hsz]
   clear hlit hal hd hsz hfree
   have HPZ:=Lib.hid hp9
   clear hp9
   go_wp2_with (first
    |(refine wpList_loadO rfl 37 (.tmp 3) rfl w2.heap.size _ _ rfl HPZ.out.box Tryz.underlying37 rfl size_node ?_)
    |(refine wpList_storeO rfl 37 (.tmp 2) (.tmp 40) rfl W.heap.size _ _ rfl rfl (HPZ.out.fr.cells HB1.out (.inr (by simp))) size_node rfl (ncs_all HPZ.out.nest rfl) ?_;intro w9 hb9 hg9 hz9))
   obtain⟨q1,q2,q3,q4⟩:=PLoc.result HPZ.out HC.out HLO.out HL01.out HZ0.out hg9
   refine bodyPost_ret (results_node rfl _ _ W.heap.size _ (0,0) rfl hb9 rfl) rfl ?_
   rw[show Sx.branchF a (m+1) σ=.ok (({ kind:=6,kids:=[i,j,k],left:=(Sx.hd σ).left }:Sx.Node),σz) by simp only[Sx.branchF,Sx.bnd,Sx.ret,HX4.out,HX5.out,HX6.out,HX8.out,HEL.out,Bool.false_eq_true,if_false,if_true,HK.out]]
   exact⟨_,_,rfl,rfl,q1,q2,q3,q4⟩
  ·
   have hun:=fun nd σb (hb:Sx.branchF a m σ6=.ok (nd,σb))=>(Sx.branchF_un HL.out.un m HFT7.out.good (Sx.isT_text HEL.out (by decide)) hb).1
   have hns:∀ nd σb,Sx.branchF a m σ6=.ok (nd,σb)→σb.ns.length≤100000:=fun nd σb hb=>(HFT7.out.wk (hun nd σb hb) (by omega)).nodes
   have hpd:=HP7.out.later (Later.drew _)
   have hcl:=HIH.out _ _ _ hpd.mem (hpd.xl HXB.out) HFT7.out (by have h8:=HW7.out.len (by omega);have h9:=HN.out;omega) (by have h8:=HW7.out.len (by omega);have h9:=HMM.out;omega) (Sx.isT_text HEL.out (by decide))
   refine apB "syntax.go:411" 3 53 3 21 HP7.out HXB.out (HC.out.more _) (entO Tryz.func53 rfl rfl) rfl rfl (by kernel_rfl) rfl rfl (by simp) (Sx.branchF a m σ6) hcl hns (fun nn kk w' hm0 hf9 a9 hd9=>by refine bodyPost_panic (P:=Tryz.prog) (fn:=Tryz.f53) hd9 ?_;rw[show Sx.branchF a (m+1) σ=.error (nn,kk) by simp only[Sx.branchF,Sx.bnd,HX4.out,HX5.out,HX6.out,HEL.out,Bool.false_eq_true,if_false,if_true,hm0]];exact⟨rfl,HFR1.out.trans hf9.less⟩) ?_
   intro nd σb hk a9 wz vz hp9 hd hsz hfree
   have HK:=Lib.hid hk
   clear hk hcl hun hns hpd
   obtain⟨z0,u1,z2,z3,u4,u5,u6,u7,u8,u9,u10,u11,u12,u13,u14,u15,u16,u17,u18,u19,u20,u21,u22,u23,u24,u25,u26,u27,u28,u29,u30,u31,u32,u33,u34,u35,u36,u37,u38,u39,u40,hal⟩:=lets a9 41 0
   obtain rfl:=hal.on (v:=.pointer (some ⟨g,0,none⟩)) 0 (hfree 0 rfl) rfl
   obtain rfl:=hal.on (v:=.pointer (some ⟨W.heap.size,0,none⟩)) 2 (hfree 2 rfl) rfl
   obtain rfl:=hal.on (v:=.pointer (some ⟨w2.heap.size,0,none⟩)) 3 (hfree 3 rfl) rfl
   have hlit:=fun h=>act_lit hd h hal
   rw[hlit hsz]
   clear hlit hal hd hsz hfree
   have HPZ:=Lib.hid hp9
   clear hp9
   go_wp2_with (first
    |(refine wpList_loadO rfl 37 (.tmp 3) rfl w2.heap.size _ _ rfl HPZ.out.box Tryz.underlying37 rfl size_node ?_)
    |(refine wpList_storeO rfl 37 (.tmp 2) (.tmp 40) rfl W.heap.size _ _ rfl rfl (HPZ.out.fr.cells HB1.out (.inr (by simp))) size_node rfl (ncs_all HPZ.out.nest rfl) ?_;intro w9 hb9 hg9 hz9))
   obtain⟨q1,q2,q3,q4⟩:=PLoc.result HPZ.out HC.out HLO.out HL01.out HZ0.out hg9
   refine bodyPost_ret (results_node rfl _ _ W.heap.size _ (0,0) rfl hb9 rfl) rfl ?_
   rw[show Sx.branchF a (m+1) σ=.ok (({ kind:=6,kids:=[i,j,σb.ns.length],left:=(Sx.hd σ).left }:Sx.Node),({ σb with ns:=σb.ns++[nd] }:Sx.St)) by simp only[Sx.branchF,Sx.bnd,Sx.ret,HX4.out,HX5.out,HX6.out,HEL.out,Bool.false_eq_true,if_false,if_true,HK.out,Sx.add]]
   exact⟨_,_,rfl,rfl,q1,q2,q3,q4⟩
end
end Pz
end Go.Proofs.YtkkchkkpnlnbgaaGreatDoor
