/- The parser: n.F = append(n.F, call): the statement, whatever its order. No premises. -/
import Derived.Test.YtkkchkkpnlnbgaaGreatDoorNr
set_option maxRecDepth 100000
set_option maxHeartbeats 1600000
namespace Go.Proofs.YtkkchkkpnlnbgaaGreatDoor
open Go.RowKit Go.Maps
open Lx (Tok nl)
theorem wp_callO {P:Program} {o:Oper} {a:Act} {w:World} {K:Act→World→Prop} {Q:Exit→Act→World→Prop} (f:FuncId) (x:Operand) (t:TypeId) (pv:Value) (hop:o.op=.call { callee:=.value (.func f),args:=#[x],argTypes:=#[t] }) (hρ:a.eval (.func f)=.func (.func f) #[] #[]) (hx:a.eval x=pv) (hent:∀ args w,(callFunc f args).run P w=.ok (.enter f args) w)
  (h:Calls P f #[pv] w fun e w'=>(∃ v,e=.returned v∧K (a.put o.dst v) w')∨(∃ ch,e=.panicked ch∧Q (.panic ch) a w')):Oper.wp P o a w K Q:=by
 have e1:execOp a.eval o=callFunc f #[pv]:=by
  unfold execOp
  simp[hop,resolve,Deferred.ofValue,invoke,hρ,hx]
 unfold Oper.wp
 rw[e1,hent]
 refine h.mono fun e w' hh=>?_
 rcases hh with⟨v,rfl,hk⟩ | ⟨ch,rfl,hq⟩
 ·exact hk
 ·exact hq
theorem entO {f:FuncId} {fn:Func} {c:Code} (hf:Tryz.prog.funcs[f]?=some fn) (hname:(fn.name== "runtime.NumGoroutine")=false) (hb:fn.body=some c):∀ args w,(callFunc f args).run Tryz.prog w=.ok (.enter f args) w:=fun args w=>run_enter hf hname hb args w
theorem info_int3:(Tryz.prog.info? 3).map (fun i=>(i.zero,i.size,i.bytes))=some (some (.int .i64 0),1,8):=by kernel_rfl
theorem info_string3:(Tryz.prog.info? 9).map (fun i=>(i.zero,i.size,i.bytes))=some (some (.string ⟨#[]⟩),1,16):=by kernel_rfl
theorem info_redir3:(Tryz.prog.info? 79).map (fun i=>(i.zero,i.size,i.bytes))=some (some (.agg #[.int .i64 0,.string ⟨#[]⟩,.string ⟨#[]⟩,.string ⟨#[]⟩]),4,56):=by kernel_rfl
abbrev ph (i:Nat):Edge:={ on:=i,ground:=.phase }
abbrev da (i:Nat):Edge:={ on:=i,ground:=.data }
abbrev chn (i:Nat):Edge:={ on:=i,ground:=.chain }
def opsK (pos:String) (rt:TypeId) (f:FuncId) (th s:Nat):List Oper:=
 [{ dst:=some s,op:=.fieldAddr 37 (.tmp th) 6,type:=0,pos:=pos,after:=#[],guard:=none },
  { dst:=some (s+1),op:=.load 35 (.tmp s),type:=35,pos:=pos,after:=#[da 0],guard:=none },
  { dst:=some (s+2),op:=.move (.tmp 0),type:=45,pos:=pos,after:=#[],guard:=none },
  { dst:=some (s+3),op:=.call { callee:=.value (.func f),args:=#[.tmp (s+2)],argTypes:=#[45] },type:=rt,pos:=pos,after:=#[da 2],guard:=none },
  { dst:=some (s+4),op:=.buildSlice 35 1 #[(0,.tmp (s+3))],type:=35,pos:=pos,after:=#[da 3],guard:=none },
  { dst:=some (s+5),op:=.call { callee:=.builtin .append,args:=#[.tmp (s+1),.tmp (s+4)],argTypes:=#[35,35] },type:=35,pos:=pos,after:=#[da 1,da 4,chn 3],guard:=none },
  { dst:=some (s+6),op:=.fieldAddr 37 (.tmp th) 6,type:=0,pos:=pos,after:=#[ph 0,ph 1,ph 2,ph 3,ph 4,ph 5],guard:=none },
  { dst:=none,op:=.store 35 (.tmp (s+6)) (.tmp (s+5)),type:=0,pos:=pos,after:=#[da 6,da 5,chn 5,ph 0,ph 1,ph 2,ph 3,ph 4,ph 5],guard:=none }]
theorem apK {Q:Exit→Act→World→Prop} {a0:Act} {id:Nat} {W0 w:World} {X:Nat→Prop} {g:Nat} {C:Ctx} {h:Nat} {ln:Value} {n:Sx.Node} {v:Vals} {σ:Sx.St} (pos:String) (rt:TypeId) (f:FuncId) (th s:Nat) (hp:PLoc W0 X g C h ln n v σ w) (hX:XL X W0) (hc:CtxX X C) (hent:∀ args w,(callFunc f args).run Tryz.prog w=.ok (.enter f args) w)
  (e0:a0.tmps.getD 0 undef=.pointer (some ⟨g,0,none⟩)) (eh:a0.tmps.getD th undef=.pointer (some ⟨h,0,none⟩)) (hok:softB (opsK pos rt f th s).toArray a0.tmps.size=true) (hf0:freeTmp (opsK pos rt f th s).toArray 0=true) (hfh:freeTmp (opsK pos rt f th s).toArray th=true) (hlen:n.kids.length≤100000)
  (m:Except Sx.Er (Nat×Sx.St)) (hcall:Calls Tryz.prog f #[.pointer (some ⟨g,0,none⟩)] w.drew (StR (plus X (h::blks v)) w.drew g C m (fun i:Nat=>.int .i64 (i:Int))))
  (hbad:∀ nn k w',m=.error (nn,k)→Fr X W0 w'→∀ a,a.defers=a0.defers→Q (.panic (Pz.pflt nn (lnv C.N k))) a w')
  (hgood:∀ i σ',m=.ok (i,σ')→∀ a w' v',PLoc W0 X g C h ln { n with kids:=n.kids++[i] } v' σ' w'→a.defers=a0.defers→a.tmps.size=a0.tmps.size→(∀ t,freeTmp (opsK pos rt f th s).toArray t=true→a.tmps.getD t undef=a0.tmps.getD t undef)→Q .normal a w') :
  (Code.region id (opsK pos rt f th s).toArray true).wp Tryz.prog Q a0 w:=by
 obtain⟨A,c,hvk,hmc⟩:=own_any hp.nest.k
 obtain⟨m0,hm0⟩:∃ m0,m0=n.kids.length:=⟨_,rfl⟩
 rw[←hm0] at hvk
 have hcellP:∀ {σ w},PLoc W0 X g C h ln n v σ w→w.cell? ⟨h,6,none⟩=some (.slice A m0 c):=fun hq=>by
  rw[(hq.cell 6).1,←hvk]
  rfl
 have hdr:=hp.later (Later.drew w)
 cases hm:m with
 | error er=>
  obtain⟨nn,k⟩:=er
  rw[hm] at hcall
  have HQ:=Lib.hid (show ∀ (j:Nat) (u:Value) (w9:World),(fun (j:Nat) (_:Value) (w9:World)=>j=0∧w9=w.drew) j u w9→w9.cell? ⟨h,6,none⟩=some (.slice A m0 c) from fun j u w9 hC=>by obtain⟨_,rfl⟩:=hC;exact hcellP hdr)
  have HCA:=Lib.hid hcall
  have HBD:=Lib.hid hbad
  have HFR:=Lib.hid hp.fr
  clear hcall hbad hgood hcellP hdr hvk hm0
  refine wp_region_seq (by kernel_rfl) [3,4,5,7] (fun j _ w9=>j=0∧w9=w.drew) [some (.pointer (some ⟨h,6,none⟩)),some (.slice A m0 c),some (.pointer (some ⟨g,0,none⟩)),none,none,none,some (.pointer (some ⟨h,6,none⟩)),none] (by intro p hp;simp[opsK] at hp⊢;omega) (by decide) rfl hok ⟨rfl,rfl⟩ ?_ (fun a w9 u hC=>by obtain⟨e,_⟩:=hC;simp at e)
  refine⟨?_,?_,?_,?_,?_,?_,?_,?_,trivial⟩
  ·refine OwesS.q rfl fun a w9 j u hC hb hs=>⟨rfl,?_⟩
   have e1:a.tmps.getD th undef=.pointer (some ⟨h,0,none⟩):=(hs.free th hfh).trans eh
   clear hC hb
   refine ValWp.pure (v:=.pointer (some ⟨h,6,none⟩)) (fun K' hK'=>?_) ⟨rfl,rfl⟩
   simp only[ValWp,execOp,Act.eval,e1]
   go_simp
   all_goals exact hK'
  ·refine OwesS.q rfl fun a w9 j u hC hb hs=>⟨rfl,?_⟩
   have e1:a.tmps.getD s undef=.pointer (some ⟨h,6,none⟩):=hs.dep 0 _ rfl rfl
   have q0:=HQ.out j u w9 hC
   clear hC hb
   refine ValWp.pure (v:=.slice A m0 c) (fun K' hK'=>?_) ⟨rfl,rfl⟩
   simp only[ValWp,execOp,Act.eval,e1]
   go_simp
   all_goals exact hK'
  ·refine OwesS.q rfl fun a w9 j u hC hb hs=>⟨rfl,?_⟩
   have e1:a.tmps.getD 0 undef=.pointer (some ⟨g,0,none⟩):=(hs.free 0 hf0).trans e0
   clear hC hb
   refine ValWp.pure (v:=.pointer (some ⟨g,0,none⟩)) (fun K' hK'=>?_) ⟨rfl,rfl⟩
   simp only[ValWp,execOp,Act.eval,e1]
   go_simp
   all_goals exact hK'
  ·refine OwesS.w rfl fun a w9 u hC hl hs=>⟨rfl,fun K hK=>?_⟩
   obtain⟨_,rfl⟩:=hC
   have e1:a.tmps.getD (s+2) undef=.pointer (some ⟨g,0,none⟩):=hs.dep 2 _ rfl rfl
   refine wp_callO f _ _ _ rfl rfl e1 hent (HCA.out.mono ?_)
   rintro e9 w9 ⟨rfl,hf⟩
   exact .inr ⟨_,rfl,HBD.out nn k w9 hm ((HFR.out.thenLater (Later.drew w)).trans hf.less) a hs.defers⟩
  ·refine OwesS.w rfl fun a w9 u hC hl hs=>?_
   obtain⟨e,_⟩:=hC
   cases e
  ·refine OwesS.w rfl fun a w9 u hC hl hs=>?_
   obtain⟨e,_⟩:=hC
   cases e
  ·refine OwesS.q rfl fun a w9 j u hC hb hs=>⟨rfl,?_⟩
   have e1:a.tmps.getD th undef=.pointer (some ⟨h,0,none⟩):=(hs.free th hfh).trans eh
   clear hC hb
   refine ValWp.pure (v:=.pointer (some ⟨h,6,none⟩)) (fun K' hK'=>?_) ⟨rfl,rfl⟩
   simp only[ValWp,execOp,Act.eval,e1]
   go_simp
   all_goals exact hK'
  ·refine OwesS.w rfl fun a w9 u hC hl hs=>?_
   obtain⟨e,_⟩:=hC
   cases e
 | ok x=>
  obtain⟨i,σ2⟩:=x
  rw[hm] at hcall
  obtain⟨i0,hi,hz0,hz1,hz2⟩:=info_parts info_int3
  let P3:Value→World→Prop:=fun (u:Value) (w9:World)=>∃ w1,PLoc W0 X g C h ln n v σ2 w1∧w9.ownsRow 0 3 1 u (n.kids.length+1) (n.kids.map iv++[.int .i64 (i:Int)])∧(w1.alloc (.cells #[.int .i64 (i:Int)] 3)).grownBy w9 v.k.ownBlock∧(u.ownBlock=v.k.ownBlock∨u.ownBlock=some (w1.alloc (.cells #[.int .i64 (i:Int)] 3)).heap.size)
  obtain⟨C0,hC0⟩:∃ C0:Nat→Value→World→Prop,C0=fun j u w9=>(j=0∧w9=w.drew)∨(j=1∧u=.int .i64 (i:Int)∧PLoc W0 X g C h ln n v σ2 w9)∨(j=2∧∃ w1,PLoc W0 X g C h ln n v σ2 w1∧u=.slice (some ⟨w1.heap.size,0,none⟩) 1 1∧w9=w1.alloc (.cells #[.int .i64 (i:Int)] 3))∨(j=3∧P3 u w9)∨(j=4∧∃ v',PLoc W0 X g C h ln { n with kids:=n.kids++[i] } v' σ2 w9):=⟨_,rfl⟩
  have HQ:=Lib.hid (show ∀ j u w9,C0 j u w9→j≤2→w9.cell? ⟨h,6,none⟩=some (.slice A m0 c) from fun j u w9 hC hj=>by
   rw[hC0] at hC
   rcases hC with⟨_,rfl⟩ | ⟨_,_,hC⟩ | ⟨_,w1,hC,_,rfl⟩ | ⟨e,_⟩ | ⟨e,_⟩
   ·exact hcellP hdr
   ·exact hcellP hC
   ·exact hcellP (hC.later (Later.alloc _ _))
   ·omega
   ·omega)
  have H0:=Lib.hid (show C0 0 undef w.drew by rw[hC0];exact .inl ⟨rfl,rfl⟩)
  have HA0:=Lib.hid (show ∀ u w9,C0 0 u w9→w9=w.drew from fun u w9 hC=>by
   rw[hC0] at hC
   rcases hC with⟨_,e⟩ | ⟨e,_⟩ | ⟨e,_⟩ | ⟨e,_⟩ | ⟨e,_⟩
   ·exact e
   all_goals cases e)
  have H1:=Lib.hid (show ∀ w9,PLoc W0 X g C h ln n v σ2 w9→C0 1 (.int .i64 (i:Int)) w9 from fun w9 hq=>by rw[hC0];exact .inr (.inl ⟨rfl,rfl,hq⟩))
  have HA1:=Lib.hid (show ∀ u w9,C0 1 u w9→PLoc W0 X g C h ln n v σ2 w9 from fun u w9 hC=>by
   rw[hC0] at hC
   rcases hC with⟨e,_⟩ | ⟨_,_,e⟩ | ⟨e,_⟩ | ⟨e,_⟩ | ⟨e,_⟩
   ·cases e
   ·exact e
   all_goals cases e)
  have H2:=Lib.hid (show ∀ w1,PLoc W0 X g C h ln n v σ2 w1→C0 2 (.slice (some ⟨w1.heap.size,0,none⟩) 1 1) (w1.alloc (.cells #[.int .i64 (i:Int)] 3)) from fun w1 hq=>by rw[hC0];exact .inr (.inr (.inl ⟨rfl,w1,hq,rfl,rfl⟩)))
  have HA2:=Lib.hid (show ∀ u w9,C0 2 u w9→∃ w1,PLoc W0 X g C h ln n v σ2 w1∧u=.slice (some ⟨w1.heap.size,0,none⟩) 1 1∧w9=w1.alloc (.cells #[.int .i64 (i:Int)] 3) from fun u w9 hC=>by
   rw[hC0] at hC
   rcases hC with⟨e,_⟩ | ⟨e,_⟩ | ⟨_,e⟩ | ⟨e,_⟩ | ⟨e,_⟩
   ·cases e
   ·cases e
   ·exact e
   all_goals cases e)
  have HAP:=Lib.hid (show ∀ w1,PLoc W0 X g C h ln n v σ2 w1→∃ v' w',(Builtin.append_ #[35,35] 35 #[.slice A m0 c,.slice (some ⟨w1.heap.size,0,none⟩) 1 1]).run Tryz.prog (w1.alloc (.cells #[.int .i64 (i:Int)] 3))=.ok v' w'∧C0 3 v' w' from fun w1 hq=>by
   have hrow:=(hq.later (Later.alloc w1 (.cells #[.int .i64 (i:Int)] 3))).nest.k
   obtain⟨v',w',hrun,h2,h3,_,h5⟩:=run_append_own_at (P:=Tryz.prog) (w1.alloc (.cells #[.int .i64 (i:Int)] 3)) 0 35 35 3 i0 _ 1 8 Tryz.underlying35 hi hz0 hz1 hz2 rfl (by omega) v.k n.kids.length (n.kids.map iv) hrow ⟨w1.heap.size,0,none⟩ 1 1 [.int .i64 (i:Int)] rfl
    (fun j u hj=>by rw[add_lit0,(cell_row (heap_alloc_new w1 _) j).1];simpa using hj) (by intro u hu;simp at hu;subst hu;rfl) (by unfold maxLen;omega) (by omega) (Nat.zero_le _)
   rw[hvk] at hrun
   refine⟨v',w',hrun,?_⟩
   rw[hC0]
   exact .inr (.inr (.inr (.inl ⟨rfl,w1,hq,h2,h3,h5⟩))))
  have HST:=Lib.hid (show ∀ u w9,C0 3 u w9→(∃ A4 n4 k4,u=.slice A4 n4 k4)∧w9.cell? ⟨h,6,none⟩=some (.slice A m0 c)∧w9.frozen? ⟨h,6,none⟩=false∧C0 4 undef (w9.setCell ⟨h,6,none⟩ u) from fun u w9 hC=>by
   rw[hC0] at hC
   rcases hC with⟨e,_⟩ | ⟨e,_⟩ | ⟨e,_⟩ | ⟨_,w1,hq,h2,h3,h5⟩ | ⟨e,_⟩
   ·cases e
   ·cases e
   ·cases e
   ·obtain⟨q1,⟨A4,k4,q2⟩,q3,q4⟩:=hq.growK hX hc i (Later.alloc w1 (.cells #[.int .i64 (i:Int)] 3)) h2 h3 h5
    refine⟨⟨A4,_,k4,q2⟩,by rw[q3,hvk],q4,?_⟩
    rw[hC0]
    exact .inr (.inr (.inr (.inr ⟨rfl,_,q1⟩)))
   ·cases e)
  have HE:=Lib.hid (show ∀ u w9,C0 4 u w9→∃ v',PLoc W0 X g C h ln { n with kids:=n.kids++[i] } v' σ2 w9 from fun u w9 hC=>by
   rw[hC0] at hC
   rcases hC with⟨e,_⟩ | ⟨e,_⟩ | ⟨e,_⟩ | ⟨e,_⟩ | ⟨_,e⟩
   ·cases e
   ·cases e
   ·cases e
   ·cases e
   ·exact e)
  have HCA:=Lib.hid (show Calls Tryz.prog f #[.pointer (some ⟨g,0,none⟩)] w.drew fun e w9=>e=.returned (.int .i64 (i:Int))∧PLoc W0 X g C h ln n v σ2 w9 from hcall.mono fun e w9 hh=>⟨hh.1,hdr.call hh.2.1 hh.2.2⟩)
  have HGD:=Lib.hid hgood
  clear_value P3
  clear hcall hbad hgood hcellP hdr hvk hm0 hC0 hi hz0 hz1 hz2 hp
  refine wp_region_seq (by kernel_rfl) [3,4,5,7] C0 [some (.pointer (some ⟨h,6,none⟩)),some (.slice A m0 c),some (.pointer (some ⟨g,0,none⟩)),some (.int .i64 (i:Int)),none,none,some (.pointer (some ⟨h,6,none⟩)),none] (by intro p hp;simp[opsK] at hp⊢;omega) (by decide) rfl hok H0.out ?_ (fun a w9 u hC _ hd hsz hfree _=>by obtain⟨v',hq⟩:=HE.out u w9 hC;exact HGD.out i σ2 hm a w9 v' hq hd hsz hfree)
  refine⟨?_,?_,?_,?_,?_,?_,?_,?_,trivial⟩
  ·refine OwesS.q rfl fun a w9 j u hC hb hs=>⟨rfl,?_⟩
   have e1:a.tmps.getD th undef=.pointer (some ⟨h,0,none⟩):=(hs.free th hfh).trans eh
   clear hC hb
   refine ValWp.pure (v:=.pointer (some ⟨h,6,none⟩)) (fun K' hK'=>?_) ⟨rfl,rfl⟩
   simp only[ValWp,execOp,Act.eval,e1]
   go_simp
   all_goals exact hK'
  ·refine OwesS.q rfl fun a w9 j u hC hb hs=>⟨rfl,?_⟩
   have e1:a.tmps.getD s undef=.pointer (some ⟨h,6,none⟩):=hs.dep 0 _ rfl rfl
   have q0:=HQ.out j u w9 hC (hb 2 5 rfl rfl)
   clear hC hb
   refine ValWp.pure (v:=.slice A m0 c) (fun K' hK'=>?_) ⟨rfl,rfl⟩
   simp only[ValWp,execOp,Act.eval,e1]
   go_simp
   all_goals exact hK'
  ·refine OwesS.q rfl fun a w9 j u hC hb hs=>⟨rfl,?_⟩
   have e1:a.tmps.getD 0 undef=.pointer (some ⟨g,0,none⟩):=(hs.free 0 hf0).trans e0
   clear hC hb
   refine ValWp.pure (v:=.pointer (some ⟨g,0,none⟩)) (fun K' hK'=>?_) ⟨rfl,rfl⟩
   simp only[ValWp,execOp,Act.eval,e1]
   go_simp
   all_goals exact hK'
  ·refine OwesS.w rfl fun a w9 u hC hl hs=>⟨rfl,fun K hK=>?_⟩
   have hw:=HA0.out u w9 hC
   subst hw
   have e1:a.tmps.getD (s+2) undef=.pointer (some ⟨g,0,none⟩):=hs.dep 2 _ rfl rfl
   refine wp_callO f _ _ _ rfl rfl e1 hent (HCA.out.mono ?_)
   rintro e9 w9 ⟨rfl,hq⟩
   exact .inl ⟨_,rfl,hK _ w9 rfl (H1.out w9 hq)⟩
  ·refine OwesS.w rfl fun a w9 u hC hl hs=>⟨rfl,fun K hK=>?_⟩
   have e1:a.tmps.getD (s+3) undef=.int .i64 (i:Int):=hs.dep 3 _ rfl rfl
   have hq:=HA1.out u w9 hC
   refine wp_of_val ?_
   refine ValWp.pure (v:=.slice (some ⟨w9.heap.size,0,none⟩) 1 1) (w':=w9.alloc (.cells #[.int .i64 (i:Int)] 3)) (fun K' hK'=>?_) (hK _ _ trivial (H2.out w9 hq))
   clear hq
   simp only[ValWp,execOp,Act.eval,List.map_toArray,List.map_cons,List.map_nil,e1]
   go_simp
   all_goals exact hK'
  ·refine OwesS.w rfl fun a w9 u hC hl hs=>⟨rfl,fun K hK=>?_⟩
   have e1:a.tmps.getD (s+1) undef=.slice A m0 c:=hs.dep 1 _ rfl rfl
   obtain⟨w1,hq,hu,hw⟩:=HA2.out u w9 hC
   subst hu
   subst hw
   have e2:a.tmps.getD (s+4) undef=.slice (some ⟨w1.heap.size,0,none⟩) 1 1:=hl
   obtain⟨v',w',hrun,h3⟩:=HAP.out w1 hq
   exact owes_append hrun rfl e1 e2 (hK v' w' trivial h3)
  ·refine OwesS.q rfl fun a w9 j u hC hb hs=>⟨rfl,?_⟩
   have e1:a.tmps.getD th undef=.pointer (some ⟨h,0,none⟩):=(hs.free th hfh).trans eh
   clear hC hb
   refine ValWp.pure (v:=.pointer (some ⟨h,6,none⟩)) (fun K' hK'=>?_) ⟨rfl,rfl⟩
   simp only[ValWp,execOp,Act.eval,e1]
   go_simp
   all_goals exact hK'
  ·refine OwesS.w rfl fun a w9 u hC hl hs=>⟨rfl,fun K hK=>?_⟩
   have e1:a.tmps.getD (s+6) undef=.pointer (some ⟨h,6,none⟩):=hs.dep 6 _ rfl rfl
   obtain⟨⟨A4,n4,k4,hu⟩,q1,q2,q3⟩:=HST.out u w9 hC
   subst hu
   have e2:a.tmps.getD (s+5) undef=.slice A4 n4 k4:=hl
   refine wp_of_val ?_
   refine ValWp.pure (v:=undef) (w':=w9.setCell ⟨h,6,none⟩ (.slice A4 n4 k4)) (fun K' hK'=>?_) (hK _ _ trivial q3)
   simp only[ValWp,execOp,Act.eval,e1,e2]
   go_simp
   all_goals exact hK'
def opsW (pos:String) (rt:TypeId) (f:FuncId) (th s:Nat):List Oper:=
 [{ dst:=some s,op:=.fieldAddr 37 (.tmp th) 3,type:=0,pos:=pos,after:=#[],guard:=none },
  { dst:=some (s+1),op:=.load 33 (.tmp s),type:=33,pos:=pos,after:=#[da 0],guard:=none },
  { dst:=some (s+2),op:=.move (.tmp 0),type:=45,pos:=pos,after:=#[],guard:=none },
  { dst:=some (s+3),op:=.call { callee:=.value (.func f),args:=#[.tmp (s+2)],argTypes:=#[45] },type:=rt,pos:=pos,after:=#[da 2],guard:=none },
  { dst:=some (s+4),op:=.field 63 (.tmp (s+3)) 1,type:=9,pos:=pos,after:=#[da 3],guard:=none },
  { dst:=some (s+5),op:=.buildSlice 33 1 #[(0,.tmp (s+4))],type:=33,pos:=pos,after:=#[da 4],guard:=none },
  { dst:=some (s+6),op:=.call { callee:=.builtin .append,args:=#[.tmp (s+1),.tmp (s+5)],argTypes:=#[33,33] },type:=33,pos:=pos,after:=#[da 1,da 5,chn 3],guard:=none },
  { dst:=some (s+7),op:=.fieldAddr 37 (.tmp th) 3,type:=0,pos:=pos,after:=#[ph 0,ph 1,ph 2,ph 3,ph 4,ph 5,ph 6],guard:=none },
  { dst:=none,op:=.store 33 (.tmp (s+7)) (.tmp (s+6)),type:=0,pos:=pos,after:=#[da 7,da 6,chn 6,ph 0,ph 1,ph 2,ph 3,ph 4,ph 5,ph 6],guard:=none }]
theorem apW {Q:Exit→Act→World→Prop} {a0:Act} {id:Nat} {W0 w:World} {X:Nat→Prop} {g:Nat} {C:Ctx} {h:Nat} {ln:Value} {n:Sx.Node} {v:Vals} {σ:Sx.St} (pos:String) (rt:TypeId) (f:FuncId) (th s:Nat) (hp:PLoc W0 X g C h ln n v σ w) (hX:XL X W0) (hc:CtxX X C) (hent:∀ args w,(callFunc f args).run Tryz.prog w=.ok (.enter f args) w)
  (e0:a0.tmps.getD 0 undef=.pointer (some ⟨g,0,none⟩)) (eh:a0.tmps.getD th undef=.pointer (some ⟨h,0,none⟩)) (hok:softB (opsW pos rt f th s).toArray a0.tmps.size=true) (hf0:freeTmp (opsW pos rt f th s).toArray 0=true) (hfh:freeTmp (opsW pos rt f th s).toArray th=true) (hlen:n.words.length≤100000)
  (m:Except Sx.Er (Tok×Sx.St)) (hcall:Calls Tryz.prog f #[.pointer (some ⟨g,0,none⟩)] w.drew (StR (plus X (h::blks v)) w.drew g C m (fun i=>.agg (tcs C.N i))))
  (hbad:∀ nn k w',m=.error (nn,k)→Fr X W0 w'→∀ a,a.defers=a0.defers→Q (.panic (Pz.pflt nn (lnv C.N k))) a w')
  (hgood:∀ i σ',m=.ok (i,σ')→∀ a w' v',PLoc W0 X g C h ln { n with words:=n.words++[i.text] } v' σ' w'→a.defers=a0.defers→a.tmps.size=a0.tmps.size→(∀ t,freeTmp (opsW pos rt f th s).toArray t=true→a.tmps.getD t undef=a0.tmps.getD t undef)→Q .normal a w') :
  (Code.region id (opsW pos rt f th s).toArray true).wp Tryz.prog Q a0 w:=by
 obtain⟨A,c,hvk,hmc⟩:=own_any hp.nest.w
 obtain⟨m0,hm0⟩:∃ m0,m0=n.words.length:=⟨_,rfl⟩
 rw[←hm0] at hvk
 have hcellP:∀ {σ w},PLoc W0 X g C h ln n v σ w→w.cell? ⟨h,3,none⟩=some (.slice A m0 c):=fun hq=>by
  rw[(hq.cell 3).1,←hvk]
  rfl
 have hdr:=hp.later (Later.drew w)
 cases hm:m with
 | error er=>
  obtain⟨nn,k⟩:=er
  rw[hm] at hcall
  have HQ:=Lib.hid (show ∀ (j:Nat) (u:Value) (w9:World),(fun (j:Nat) (_:Value) (w9:World)=>j=0∧w9=w.drew) j u w9→w9.cell? ⟨h,3,none⟩=some (.slice A m0 c) from fun j u w9 hC=>by obtain⟨_,rfl⟩:=hC;exact hcellP hdr)
  have HCA:=Lib.hid hcall
  have HBD:=Lib.hid hbad
  have HFR:=Lib.hid hp.fr
  clear hcall hbad hgood hcellP hdr hvk hm0
  refine wp_region_seq (by kernel_rfl) [3,4,5,6,8] (fun j _ w9=>j=0∧w9=w.drew) [some (.pointer (some ⟨h,3,none⟩)),some (.slice A m0 c),some (.pointer (some ⟨g,0,none⟩)),some (.agg (tcs C.N Sx.E)),some (.string (mkS Sx.E.text)),none,none,some (.pointer (some ⟨h,3,none⟩)),none] (by intro p hp;simp[opsW] at hp⊢;omega) (by decide) rfl hok ⟨rfl,rfl⟩ ?_ (fun a w9 u hC=>by obtain⟨e,_⟩:=hC;simp at e)
  refine⟨?_,?_,?_,?_,?_,?_,?_,?_,?_,trivial⟩
  ·refine OwesS.q rfl fun a w9 j u hC hb hs=>⟨rfl,?_⟩
   have e1:a.tmps.getD th undef=.pointer (some ⟨h,0,none⟩):=(hs.free th hfh).trans eh
   clear hC hb
   refine ValWp.pure (v:=.pointer (some ⟨h,3,none⟩)) (fun K' hK'=>?_) ⟨rfl,rfl⟩
   simp only[ValWp,execOp,Act.eval,e1]
   go_simp
   all_goals exact hK'
  ·refine OwesS.q rfl fun a w9 j u hC hb hs=>⟨rfl,?_⟩
   have e1:a.tmps.getD s undef=.pointer (some ⟨h,3,none⟩):=hs.dep 0 _ rfl rfl
   have q0:=HQ.out j u w9 hC
   clear hC hb
   refine ValWp.pure (v:=.slice A m0 c) (fun K' hK'=>?_) ⟨rfl,rfl⟩
   simp only[ValWp,execOp,Act.eval,e1]
   go_simp
   all_goals exact hK'
  ·refine OwesS.q rfl fun a w9 j u hC hb hs=>⟨rfl,?_⟩
   have e1:a.tmps.getD 0 undef=.pointer (some ⟨g,0,none⟩):=(hs.free 0 hf0).trans e0
   clear hC hb
   refine ValWp.pure (v:=.pointer (some ⟨g,0,none⟩)) (fun K' hK'=>?_) ⟨rfl,rfl⟩
   simp only[ValWp,execOp,Act.eval,e1]
   go_simp
   all_goals exact hK'
  ·refine OwesS.w rfl fun a w9 u hC hl hs=>⟨rfl,fun K hK=>?_⟩
   obtain⟨_,rfl⟩:=hC
   have e1:a.tmps.getD (s+2) undef=.pointer (some ⟨g,0,none⟩):=hs.dep 2 _ rfl rfl
   refine wp_callO f _ _ _ rfl rfl e1 hent (HCA.out.mono ?_)
   rintro e9 w9 ⟨rfl,hf⟩
   exact .inr ⟨_,rfl,HBD.out nn k w9 hm ((HFR.out.thenLater (Later.drew w)).trans hf.less) a hs.defers⟩
  ·refine OwesS.w rfl fun a w9 u hC hl hs=>?_
   obtain⟨e,_⟩:=hC
   cases e
  ·refine OwesS.w rfl fun a w9 u hC hl hs=>?_
   obtain⟨e,_⟩:=hC
   cases e
  ·refine OwesS.w rfl fun a w9 u hC hl hs=>?_
   obtain⟨e,_⟩:=hC
   cases e
  ·refine OwesS.q rfl fun a w9 j u hC hb hs=>⟨rfl,?_⟩
   have e1:a.tmps.getD th undef=.pointer (some ⟨h,0,none⟩):=(hs.free th hfh).trans eh
   clear hC hb
   refine ValWp.pure (v:=.pointer (some ⟨h,3,none⟩)) (fun K' hK'=>?_) ⟨rfl,rfl⟩
   simp only[ValWp,execOp,Act.eval,e1]
   go_simp
   all_goals exact hK'
  ·refine OwesS.w rfl fun a w9 u hC hl hs=>?_
   obtain⟨e,_⟩:=hC
   cases e
 | ok x=>
  obtain⟨i,σ2⟩:=x
  rw[hm] at hcall
  obtain⟨i0,hi,hz0,hz1,hz2⟩:=info_parts info_string3
  let P3:Value→World→Prop:=fun (u:Value) (w9:World)=>∃ w1,PLoc W0 X g C h ln n v σ2 w1∧w9.ownsRow 0 9 1 u (n.words.length+1) (n.words.map sv++[.string (mkS i.text)])∧(w1.alloc (.cells #[.string (mkS i.text)] 9)).grownBy w9 v.w.ownBlock∧(u.ownBlock=v.w.ownBlock∨u.ownBlock=some (w1.alloc (.cells #[.string (mkS i.text)] 9)).heap.size)
  obtain⟨C0,hC0⟩:∃ C0:Nat→Value→World→Prop,C0=fun j u w9=>(j=0∧w9=w.drew)∨(j=1∧u=.agg (tcs C.N i)∧PLoc W0 X g C h ln n v σ2 w9)∨(j=2∧u=.string (mkS i.text)∧PLoc W0 X g C h ln n v σ2 w9)∨(j=3∧∃ w1,PLoc W0 X g C h ln n v σ2 w1∧u=.slice (some ⟨w1.heap.size,0,none⟩) 1 1∧w9=w1.alloc (.cells #[.string (mkS i.text)] 9))∨(j=4∧P3 u w9)∨(j=5∧∃ v',PLoc W0 X g C h ln { n with words:=n.words++[i.text] } v' σ2 w9):=⟨_,rfl⟩
  have HQ:=Lib.hid (show ∀ j u w9,C0 j u w9→j≤3→w9.cell? ⟨h,3,none⟩=some (.slice A m0 c) from fun j u w9 hC hj=>by
   rw[hC0] at hC
   rcases hC with⟨_,rfl⟩ | ⟨_,_,hC⟩ | ⟨_,_,hC⟩ | ⟨_,w1,hC,_,rfl⟩ | ⟨e,_⟩ | ⟨e,_⟩
   ·exact hcellP hdr
   ·exact hcellP hC
   ·exact hcellP hC
   ·exact hcellP (hC.later (Later.alloc _ _))
   ·omega
   ·omega)
  have H0:=Lib.hid (show C0 0 undef w.drew by rw[hC0];exact .inl ⟨rfl,rfl⟩)
  have HA0:=Lib.hid (show ∀ u w9,C0 0 u w9→w9=w.drew from fun u w9 hC=>by
   rw[hC0] at hC
   rcases hC with⟨_,e⟩ | ⟨e,_⟩ | ⟨e,_⟩ | ⟨e,_⟩ | ⟨e,_⟩ | ⟨e,_⟩
   ·exact e
   all_goals cases e)
  have H1:=Lib.hid (show ∀ w9,PLoc W0 X g C h ln n v σ2 w9→C0 1 (.agg (tcs C.N i)) w9 from fun w9 hq=>by rw[hC0];exact .inr (.inl ⟨rfl,rfl,hq⟩))
  have HA1:=Lib.hid (show ∀ u w9,C0 1 u w9→PLoc W0 X g C h ln n v σ2 w9 from fun u w9 hC=>by
   rw[hC0] at hC
   rcases hC with⟨e,_⟩ | ⟨_,_,e⟩ | ⟨e,_⟩ | ⟨e,_⟩ | ⟨e,_⟩ | ⟨e,_⟩
   ·cases e
   ·exact e
   all_goals cases e)
  have HF1:=Lib.hid (show ∀ w9,PLoc W0 X g C h ln n v σ2 w9→C0 2 (.string (mkS i.text)) w9 from fun w9 hq=>by rw[hC0];exact .inr (.inr (.inl ⟨rfl,rfl,hq⟩)))
  have HF2:=Lib.hid (show ∀ u w9,C0 2 u w9→PLoc W0 X g C h ln n v σ2 w9 from fun u w9 hC=>by
   rw[hC0] at hC
   rcases hC with⟨e,_⟩ | ⟨e,_⟩ | ⟨_,_,e⟩ | ⟨e,_⟩ | ⟨e,_⟩ | ⟨e,_⟩
   ·cases e
   ·cases e
   ·exact e
   all_goals cases e)
  have H2:=Lib.hid (show ∀ w1,PLoc W0 X g C h ln n v σ2 w1→C0 3 (.slice (some ⟨w1.heap.size,0,none⟩) 1 1) (w1.alloc (.cells #[.string (mkS i.text)] 9)) from fun w1 hq=>by rw[hC0];exact .inr (.inr (.inr (.inl ⟨rfl,w1,hq,rfl,rfl⟩))))
  have HA2:=Lib.hid (show ∀ u w9,C0 3 u w9→∃ w1,PLoc W0 X g C h ln n v σ2 w1∧u=.slice (some ⟨w1.heap.size,0,none⟩) 1 1∧w9=w1.alloc (.cells #[.string (mkS i.text)] 9) from fun u w9 hC=>by
   rw[hC0] at hC
   rcases hC with⟨e,_⟩ | ⟨e,_⟩ | ⟨e,_⟩ | ⟨_,e⟩ | ⟨e,_⟩ | ⟨e,_⟩
   ·cases e
   ·cases e
   ·cases e
   ·exact e
   all_goals cases e)
  have HAP:=Lib.hid (show ∀ w1,PLoc W0 X g C h ln n v σ2 w1→∃ v' w',(Builtin.append_ #[33,33] 33 #[.slice A m0 c,.slice (some ⟨w1.heap.size,0,none⟩) 1 1]).run Tryz.prog (w1.alloc (.cells #[.string (mkS i.text)] 9))=.ok v' w'∧C0 4 v' w' from fun w1 hq=>by
   have hrow:=(hq.later (Later.alloc w1 (.cells #[.string (mkS i.text)] 9))).nest.w
   obtain⟨v',w',hrun,h2,h3,_,h5⟩:=run_append_own_at (P:=Tryz.prog) (w1.alloc (.cells #[.string (mkS i.text)] 9)) 0 33 33 9 i0 _ 1 16 Tryz.underlying33 hi hz0 hz1 hz2 rfl (by omega) v.w n.words.length (n.words.map sv) hrow ⟨w1.heap.size,0,none⟩ 1 1 [.string (mkS i.text)] rfl
    (fun j u hj=>by rw[add_lit0,(cell_row (heap_alloc_new w1 _) j).1];simpa using hj) (by intro u hu;simp at hu;subst hu;rfl) (by unfold maxLen;omega) (by omega) (Nat.zero_le _)
   rw[hvk] at hrun
   refine⟨v',w',hrun,?_⟩
   rw[hC0]
   exact .inr (.inr (.inr (.inr (.inl ⟨rfl,w1,hq,h2,h3,h5⟩)))))
  have HST:=Lib.hid (show ∀ u w9,C0 4 u w9→(∃ A4 n4 k4,u=.slice A4 n4 k4)∧w9.cell? ⟨h,3,none⟩=some (.slice A m0 c)∧w9.frozen? ⟨h,3,none⟩=false∧C0 5 undef (w9.setCell ⟨h,3,none⟩ u) from fun u w9 hC=>by
   rw[hC0] at hC
   rcases hC with⟨e,_⟩ | ⟨e,_⟩ | ⟨e,_⟩ | ⟨e,_⟩ | ⟨_,w1,hq,h2,h3,h5⟩ | ⟨e,_⟩
   ·cases e
   ·cases e
   ·cases e
   ·cases e
   ·obtain⟨q1,⟨A4,k4,q2⟩,q3,q4⟩:=hq.growW hX hc i.text (Later.alloc w1 (.cells #[.string (mkS i.text)] 9)) h2 h3 h5
    refine⟨⟨A4,_,k4,q2⟩,by rw[q3,hvk],q4,?_⟩
    rw[hC0]
    exact .inr (.inr (.inr (.inr (.inr ⟨rfl,_,q1⟩))))
   ·cases e)
  have HE:=Lib.hid (show ∀ u w9,C0 5 u w9→∃ v',PLoc W0 X g C h ln { n with words:=n.words++[i.text] } v' σ2 w9 from fun u w9 hC=>by
   rw[hC0] at hC
   rcases hC with⟨e,_⟩ | ⟨e,_⟩ | ⟨e,_⟩ | ⟨e,_⟩ | ⟨e,_⟩ | ⟨_,e⟩
   ·cases e
   ·cases e
   ·cases e
   ·cases e
   ·cases e
   ·exact e)
  have HCA:=Lib.hid (show Calls Tryz.prog f #[.pointer (some ⟨g,0,none⟩)] w.drew fun e w9=>e=.returned (.agg (tcs C.N i))∧PLoc W0 X g C h ln n v σ2 w9 from hcall.mono fun e w9 hh=>⟨hh.1,hdr.call hh.2.1 hh.2.2⟩)
  have HGD:=Lib.hid hgood
  clear_value P3
  clear hcall hbad hgood hcellP hdr hvk hm0 hC0 hi hz0 hz1 hz2 hp
  refine wp_region_seq (by kernel_rfl) [3,4,5,6,8] C0 [some (.pointer (some ⟨h,3,none⟩)),some (.slice A m0 c),some (.pointer (some ⟨g,0,none⟩)),some (.agg (tcs C.N i)),some (.string (mkS i.text)),none,none,some (.pointer (some ⟨h,3,none⟩)),none] (by intro p hp;simp[opsW] at hp⊢;omega) (by decide) rfl hok H0.out ?_ (fun a w9 u hC _ hd hsz hfree _=>by obtain⟨v',hq⟩:=HE.out u w9 hC;exact HGD.out i σ2 hm a w9 v' hq hd hsz hfree)
  refine⟨?_,?_,?_,?_,?_,?_,?_,?_,?_,trivial⟩
  ·refine OwesS.q rfl fun a w9 j u hC hb hs=>⟨rfl,?_⟩
   have e1:a.tmps.getD th undef=.pointer (some ⟨h,0,none⟩):=(hs.free th hfh).trans eh
   clear hC hb
   refine ValWp.pure (v:=.pointer (some ⟨h,3,none⟩)) (fun K' hK'=>?_) ⟨rfl,rfl⟩
   simp only[ValWp,execOp,Act.eval,e1]
   go_simp
   all_goals exact hK'
  ·refine OwesS.q rfl fun a w9 j u hC hb hs=>⟨rfl,?_⟩
   have e1:a.tmps.getD s undef=.pointer (some ⟨h,3,none⟩):=hs.dep 0 _ rfl rfl
   have q0:=HQ.out j u w9 hC (hb 3 6 rfl rfl)
   clear hC hb
   refine ValWp.pure (v:=.slice A m0 c) (fun K' hK'=>?_) ⟨rfl,rfl⟩
   simp only[ValWp,execOp,Act.eval,e1]
   go_simp
   all_goals exact hK'
  ·refine OwesS.q rfl fun a w9 j u hC hb hs=>⟨rfl,?_⟩
   have e1:a.tmps.getD 0 undef=.pointer (some ⟨g,0,none⟩):=(hs.free 0 hf0).trans e0
   clear hC hb
   refine ValWp.pure (v:=.pointer (some ⟨g,0,none⟩)) (fun K' hK'=>?_) ⟨rfl,rfl⟩
   simp only[ValWp,execOp,Act.eval,e1]
   go_simp
   all_goals exact hK'
  ·refine OwesS.w rfl fun a w9 u hC hl hs=>⟨rfl,fun K hK=>?_⟩
   have hw:=HA0.out u w9 hC
   subst hw
   have e1:a.tmps.getD (s+2) undef=.pointer (some ⟨g,0,none⟩):=hs.dep 2 _ rfl rfl
   refine wp_callO f _ _ _ rfl rfl e1 hent (HCA.out.mono ?_)
   rintro e9 w9 ⟨rfl,hq⟩
   exact .inl ⟨_,rfl,hK _ w9 rfl (H1.out w9 hq)⟩
  ·refine OwesS.w rfl fun a w9 u hC hl hs=>⟨rfl,fun K hK=>?_⟩
   have e1:a.tmps.getD (s+3) undef=.agg (tcs C.N i):=hs.dep 3 _ rfl rfl
   have q0:(Instr.field 63 (.agg (tcs C.N i)) 1).run Tryz.prog w9=.ok (.string (mkS i.text)) w9:=fld1 _ _ _ _ w9
   have hq:=HA1.out u w9 hC
   refine wp_of_val ?_
   refine ValWp.pure (v:=.string (mkS i.text)) (w':=w9) (fun K' hK'=>?_) (hK _ _ rfl (HF1.out w9 hq))
   clear hq hC hl
   simp only[ValWp,execOp,Act.eval,e1]
   go_simp
   all_goals exact hK'
  ·refine OwesS.w rfl fun a w9 u hC hl hs=>⟨rfl,fun K hK=>?_⟩
   have e1:a.tmps.getD (s+4) undef=.string (mkS i.text):=hs.dep 4 _ rfl rfl
   have hq:=HF2.out u w9 hC
   refine wp_of_val ?_
   refine ValWp.pure (v:=.slice (some ⟨w9.heap.size,0,none⟩) 1 1) (w':=w9.alloc (.cells #[.string (mkS i.text)] 9)) (fun K' hK'=>?_) (hK _ _ trivial (H2.out w9 hq))
   clear hq
   simp only[ValWp,execOp,Act.eval,List.map_toArray,List.map_cons,List.map_nil,e1]
   go_simp
   all_goals exact hK'
  ·refine OwesS.w rfl fun a w9 u hC hl hs=>⟨rfl,fun K hK=>?_⟩
   have e1:a.tmps.getD (s+1) undef=.slice A m0 c:=hs.dep 1 _ rfl rfl
   obtain⟨w1,hq,hu,hw⟩:=HA2.out u w9 hC
   subst hu
   subst hw
   have e2:a.tmps.getD (s+5) undef=.slice (some ⟨w1.heap.size,0,none⟩) 1 1:=hl
   obtain⟨v',w',hrun,h3⟩:=HAP.out w1 hq
   exact owes_append hrun rfl e1 e2 (hK v' w' trivial h3)
  ·refine OwesS.q rfl fun a w9 j u hC hb hs=>⟨rfl,?_⟩
   have e1:a.tmps.getD th undef=.pointer (some ⟨h,0,none⟩):=(hs.free th hfh).trans eh
   clear hC hb
   refine ValWp.pure (v:=.pointer (some ⟨h,3,none⟩)) (fun K' hK'=>?_) ⟨rfl,rfl⟩
   simp only[ValWp,execOp,Act.eval,e1]
   go_simp
   all_goals exact hK'
  ·refine OwesS.w rfl fun a w9 u hC hl hs=>⟨rfl,fun K hK=>?_⟩
   have e1:a.tmps.getD (s+7) undef=.pointer (some ⟨h,3,none⟩):=hs.dep 7 _ rfl rfl
   obtain⟨⟨A4,n4,k4,hu⟩,q1,q2,q3⟩:=HST.out u w9 hC
   subst hu
   have e2:a.tmps.getD (s+6) undef=.slice A4 n4 k4:=hl
   refine wp_of_val ?_
   refine ValWp.pure (v:=undef) (w':=w9.setCell ⟨h,3,none⟩ (.slice A4 n4 k4)) (fun K' hK'=>?_) (hK _ _ trivial q3)
   simp only[ValWp,execOp,Act.eval,e1,e2]
   go_simp
   all_goals exact hK'
def opsR (pos:String) (rt:TypeId) (f:FuncId) (th s:Nat):List Oper:=
 [{ dst:=some s,op:=.fieldAddr 37 (.tmp th) 5,type:=0,pos:=pos,after:=#[],guard:=none },
  { dst:=some (s+1),op:=.load 34 (.tmp s),type:=34,pos:=pos,after:=#[da 0],guard:=none },
  { dst:=some (s+2),op:=.move (.tmp 0),type:=45,pos:=pos,after:=#[],guard:=none },
  { dst:=some (s+3),op:=.call { callee:=.value (.func f),args:=#[.tmp (s+2)],argTypes:=#[45] },type:=rt,pos:=pos,after:=#[da 2],guard:=none },
  { dst:=some (s+4),op:=.buildSlice 34 1 #[(0,.tmp (s+3))],type:=34,pos:=pos,after:=#[da 3],guard:=none },
  { dst:=some (s+5),op:=.call { callee:=.builtin .append,args:=#[.tmp (s+1),.tmp (s+4)],argTypes:=#[34,34] },type:=34,pos:=pos,after:=#[da 1,da 4,chn 3],guard:=none },
  { dst:=some (s+6),op:=.fieldAddr 37 (.tmp th) 5,type:=0,pos:=pos,after:=#[ph 0,ph 1,ph 2,ph 3,ph 4,ph 5],guard:=none },
  { dst:=none,op:=.store 34 (.tmp (s+6)) (.tmp (s+5)),type:=0,pos:=pos,after:=#[da 6,da 5,chn 5,ph 0,ph 1,ph 2,ph 3,ph 4,ph 5],guard:=none }]
theorem apR {Q:Exit→Act→World→Prop} {a0:Act} {id:Nat} {W0 w:World} {X:Nat→Prop} {g:Nat} {C:Ctx} {h:Nat} {ln:Value} {n:Sx.Node} {v:Vals} {σ:Sx.St} (pos:String) (rt:TypeId) (f:FuncId) (th s:Nat) (hp:PLoc W0 X g C h ln n v σ w) (hX:XL X W0) (hc:CtxX X C) (hent:∀ args w,(callFunc f args).run Tryz.prog w=.ok (.enter f args) w)
  (e0:a0.tmps.getD 0 undef=.pointer (some ⟨g,0,none⟩)) (eh:a0.tmps.getD th undef=.pointer (some ⟨h,0,none⟩)) (hok:softB (opsR pos rt f th s).toArray a0.tmps.size=true) (hf0:freeTmp (opsR pos rt f th s).toArray 0=true) (hfh:freeTmp (opsR pos rt f th s).toArray th=true) (hlen:n.redirs.length≤100000)
  (m:Except Sx.Er (Sx.Arw×Sx.St)) (hcall:Calls Tryz.prog f #[.pointer (some ⟨g,0,none⟩)] w.drew (StR (plus X (h::blks v)) w.drew g C m (fun i:Sx.Arw=>.agg #[.int .i64 (i.fd:Int),.string (mkS i.op),.string (mkS i.word),.string (mkS i.body)])))
  (hbad:∀ nn k w',m=.error (nn,k)→Fr X W0 w'→∀ a,a.defers=a0.defers→Q (.panic (Pz.pflt nn (lnv C.N k))) a w')
  (hgood:∀ i σ',m=.ok (i,σ')→∀ a w' v',PLoc W0 X g C h ln { n with redirs:=n.redirs++[i] } v' σ' w'→a.defers=a0.defers→a.tmps.size=a0.tmps.size→(∀ t,freeTmp (opsR pos rt f th s).toArray t=true→a.tmps.getD t undef=a0.tmps.getD t undef)→Q .normal a w') :
  (Code.region id (opsR pos rt f th s).toArray true).wp Tryz.prog Q a0 w:=by
 obtain⟨A,c,hvk,hmc⟩:=own_any hp.nest.r
 obtain⟨m0,hm0⟩:∃ m0,m0=n.redirs.length:=⟨_,rfl⟩
 rw[←hm0] at hvk
 have hcellP:∀ {σ w},PLoc W0 X g C h ln n v σ w→w.cell? ⟨h,5,none⟩=some (.slice A m0 c):=fun hq=>by
  rw[(hq.cell 5).1,←hvk]
  rfl
 have hdr:=hp.later (Later.drew w)
 cases hm:m with
 | error er=>
  obtain⟨nn,k⟩:=er
  rw[hm] at hcall
  have HQ:=Lib.hid (show ∀ (j:Nat) (u:Value) (w9:World),(fun (j:Nat) (_:Value) (w9:World)=>j=0∧w9=w.drew) j u w9→w9.cell? ⟨h,5,none⟩=some (.slice A m0 c) from fun j u w9 hC=>by obtain⟨_,rfl⟩:=hC;exact hcellP hdr)
  have HCA:=Lib.hid hcall
  have HBD:=Lib.hid hbad
  have HFR:=Lib.hid hp.fr
  clear hcall hbad hgood hcellP hdr hvk hm0
  refine wp_region_seq (by kernel_rfl) [3,4,5,7] (fun j _ w9=>j=0∧w9=w.drew) [some (.pointer (some ⟨h,5,none⟩)),some (.slice A m0 c),some (.pointer (some ⟨g,0,none⟩)),none,none,none,some (.pointer (some ⟨h,5,none⟩)),none] (by intro p hp;simp[opsR] at hp⊢;omega) (by decide) rfl hok ⟨rfl,rfl⟩ ?_ (fun a w9 u hC=>by obtain⟨e,_⟩:=hC;simp at e)
  refine⟨?_,?_,?_,?_,?_,?_,?_,?_,trivial⟩
  ·refine OwesS.q rfl fun a w9 j u hC hb hs=>⟨rfl,?_⟩
   have e1:a.tmps.getD th undef=.pointer (some ⟨h,0,none⟩):=(hs.free th hfh).trans eh
   clear hC hb
   refine ValWp.pure (v:=.pointer (some ⟨h,5,none⟩)) (fun K' hK'=>?_) ⟨rfl,rfl⟩
   simp only[ValWp,execOp,Act.eval,e1]
   go_simp
   all_goals exact hK'
  ·refine OwesS.q rfl fun a w9 j u hC hb hs=>⟨rfl,?_⟩
   have e1:a.tmps.getD s undef=.pointer (some ⟨h,5,none⟩):=hs.dep 0 _ rfl rfl
   have q0:=HQ.out j u w9 hC
   clear hC hb
   refine ValWp.pure (v:=.slice A m0 c) (fun K' hK'=>?_) ⟨rfl,rfl⟩
   simp only[ValWp,execOp,Act.eval,e1]
   go_simp
   all_goals exact hK'
  ·refine OwesS.q rfl fun a w9 j u hC hb hs=>⟨rfl,?_⟩
   have e1:a.tmps.getD 0 undef=.pointer (some ⟨g,0,none⟩):=(hs.free 0 hf0).trans e0
   clear hC hb
   refine ValWp.pure (v:=.pointer (some ⟨g,0,none⟩)) (fun K' hK'=>?_) ⟨rfl,rfl⟩
   simp only[ValWp,execOp,Act.eval,e1]
   go_simp
   all_goals exact hK'
  ·refine OwesS.w rfl fun a w9 u hC hl hs=>⟨rfl,fun K hK=>?_⟩
   obtain⟨_,rfl⟩:=hC
   have e1:a.tmps.getD (s+2) undef=.pointer (some ⟨g,0,none⟩):=hs.dep 2 _ rfl rfl
   refine wp_callO f _ _ _ rfl rfl e1 hent (HCA.out.mono ?_)
   rintro e9 w9 ⟨rfl,hf⟩
   exact .inr ⟨_,rfl,HBD.out nn k w9 hm ((HFR.out.thenLater (Later.drew w)).trans hf.less) a hs.defers⟩
  ·refine OwesS.w rfl fun a w9 u hC hl hs=>?_
   obtain⟨e,_⟩:=hC
   cases e
  ·refine OwesS.w rfl fun a w9 u hC hl hs=>?_
   obtain⟨e,_⟩:=hC
   cases e
  ·refine OwesS.q rfl fun a w9 j u hC hb hs=>⟨rfl,?_⟩
   have e1:a.tmps.getD th undef=.pointer (some ⟨h,0,none⟩):=(hs.free th hfh).trans eh
   clear hC hb
   refine ValWp.pure (v:=.pointer (some ⟨h,5,none⟩)) (fun K' hK'=>?_) ⟨rfl,rfl⟩
   simp only[ValWp,execOp,Act.eval,e1]
   go_simp
   all_goals exact hK'
  ·refine OwesS.w rfl fun a w9 u hC hl hs=>?_
   obtain⟨e,_⟩:=hC
   cases e
 | ok x=>
  obtain⟨i,σ2⟩:=x
  rw[hm] at hcall
  obtain⟨i0,hi,hz0,hz1,hz2⟩:=info_parts info_redir3
  let P3:Value→World→Prop:=fun (u:Value) (w9:World)=>∃ w1,PLoc W0 X g C h ln n v σ2 w1∧w9.ownsRow 0 79 4 u (n.redirs.length+1) (n.redirs.flatMap rcs++[.int .i64 (i.fd:Int),.string (mkS i.op),.string (mkS i.word),.string (mkS i.body)])∧(w1.alloc (.cells #[.int .i64 (i.fd:Int),.string (mkS i.op),.string (mkS i.word),.string (mkS i.body)] 79)).grownBy w9 v.r.ownBlock∧(u.ownBlock=v.r.ownBlock∨u.ownBlock=some (w1.alloc (.cells #[.int .i64 (i.fd:Int),.string (mkS i.op),.string (mkS i.word),.string (mkS i.body)] 79)).heap.size)
  obtain⟨C0,hC0⟩:∃ C0:Nat→Value→World→Prop,C0=fun j u w9=>(j=0∧w9=w.drew)∨(j=1∧u=.agg #[.int .i64 (i.fd:Int),.string (mkS i.op),.string (mkS i.word),.string (mkS i.body)]∧PLoc W0 X g C h ln n v σ2 w9)∨(j=2∧∃ w1,PLoc W0 X g C h ln n v σ2 w1∧u=.slice (some ⟨w1.heap.size,0,none⟩) 1 1∧w9=w1.alloc (.cells #[.int .i64 (i.fd:Int),.string (mkS i.op),.string (mkS i.word),.string (mkS i.body)] 79))∨(j=3∧P3 u w9)∨(j=4∧∃ v',PLoc W0 X g C h ln { n with redirs:=n.redirs++[i] } v' σ2 w9):=⟨_,rfl⟩
  have HQ:=Lib.hid (show ∀ j u w9,C0 j u w9→j≤2→w9.cell? ⟨h,5,none⟩=some (.slice A m0 c) from fun j u w9 hC hj=>by
   rw[hC0] at hC
   rcases hC with⟨_,rfl⟩ | ⟨_,_,hC⟩ | ⟨_,w1,hC,_,rfl⟩ | ⟨e,_⟩ | ⟨e,_⟩
   ·exact hcellP hdr
   ·exact hcellP hC
   ·exact hcellP (hC.later (Later.alloc _ _))
   ·omega
   ·omega)
  have H0:=Lib.hid (show C0 0 undef w.drew by rw[hC0];exact .inl ⟨rfl,rfl⟩)
  have HA0:=Lib.hid (show ∀ u w9,C0 0 u w9→w9=w.drew from fun u w9 hC=>by
   rw[hC0] at hC
   rcases hC with⟨_,e⟩ | ⟨e,_⟩ | ⟨e,_⟩ | ⟨e,_⟩ | ⟨e,_⟩
   ·exact e
   all_goals cases e)
  have H1:=Lib.hid (show ∀ w9,PLoc W0 X g C h ln n v σ2 w9→C0 1 (.agg #[.int .i64 (i.fd:Int),.string (mkS i.op),.string (mkS i.word),.string (mkS i.body)]) w9 from fun w9 hq=>by rw[hC0];exact .inr (.inl ⟨rfl,rfl,hq⟩))
  have HA1:=Lib.hid (show ∀ u w9,C0 1 u w9→PLoc W0 X g C h ln n v σ2 w9 from fun u w9 hC=>by
   rw[hC0] at hC
   rcases hC with⟨e,_⟩ | ⟨_,_,e⟩ | ⟨e,_⟩ | ⟨e,_⟩ | ⟨e,_⟩
   ·cases e
   ·exact e
   all_goals cases e)
  have H2:=Lib.hid (show ∀ w1,PLoc W0 X g C h ln n v σ2 w1→C0 2 (.slice (some ⟨w1.heap.size,0,none⟩) 1 1) (w1.alloc (.cells #[.int .i64 (i.fd:Int),.string (mkS i.op),.string (mkS i.word),.string (mkS i.body)] 79)) from fun w1 hq=>by rw[hC0];exact .inr (.inr (.inl ⟨rfl,w1,hq,rfl,rfl⟩)))
  have HA2:=Lib.hid (show ∀ u w9,C0 2 u w9→∃ w1,PLoc W0 X g C h ln n v σ2 w1∧u=.slice (some ⟨w1.heap.size,0,none⟩) 1 1∧w9=w1.alloc (.cells #[.int .i64 (i.fd:Int),.string (mkS i.op),.string (mkS i.word),.string (mkS i.body)] 79) from fun u w9 hC=>by
   rw[hC0] at hC
   rcases hC with⟨e,_⟩ | ⟨e,_⟩ | ⟨_,e⟩ | ⟨e,_⟩ | ⟨e,_⟩
   ·cases e
   ·cases e
   ·exact e
   all_goals cases e)
  have HAP:=Lib.hid (show ∀ w1,PLoc W0 X g C h ln n v σ2 w1→∃ v' w',(Builtin.append_ #[34,34] 34 #[.slice A m0 c,.slice (some ⟨w1.heap.size,0,none⟩) 1 1]).run Tryz.prog (w1.alloc (.cells #[.int .i64 (i.fd:Int),.string (mkS i.op),.string (mkS i.word),.string (mkS i.body)] 79))=.ok v' w'∧C0 3 v' w' from fun w1 hq=>by
   have hrow:=(hq.later (Later.alloc w1 (.cells #[.int .i64 (i.fd:Int),.string (mkS i.op),.string (mkS i.word),.string (mkS i.body)] 79))).nest.r
   obtain⟨v',w',hrun,h2,h3,_,h5⟩:=run_append_own_at (P:=Tryz.prog) (w1.alloc (.cells #[.int .i64 (i.fd:Int),.string (mkS i.op),.string (mkS i.word),.string (mkS i.body)] 79)) 0 34 34 79 i0 _ 4 56 Tryz.underlying34 hi hz0 hz1 hz2 rfl (by omega) v.r n.redirs.length (n.redirs.flatMap rcs) hrow ⟨w1.heap.size,0,none⟩ 1 1 [.int .i64 (i.fd:Int),.string (mkS i.op),.string (mkS i.word),.string (mkS i.body)] rfl
    (fun j u hj=>by rw[add_lit0,(cell_row (heap_alloc_new w1 _) j).1];simpa using hj) (by intro u hu;simp at hu;rcases hu with rfl | rfl | rfl | rfl <;> rfl) (by unfold maxLen;omega) (by omega) (Nat.zero_le _)
   rw[hvk] at hrun
   refine⟨v',w',hrun,?_⟩
   rw[hC0]
   exact .inr (.inr (.inr (.inl ⟨rfl,w1,hq,h2,h3,h5⟩))))
  have HST:=Lib.hid (show ∀ u w9,C0 3 u w9→(∃ A4 n4 k4,u=.slice A4 n4 k4)∧w9.cell? ⟨h,5,none⟩=some (.slice A m0 c)∧w9.frozen? ⟨h,5,none⟩=false∧C0 4 undef (w9.setCell ⟨h,5,none⟩ u) from fun u w9 hC=>by
   rw[hC0] at hC
   rcases hC with⟨e,_⟩ | ⟨e,_⟩ | ⟨e,_⟩ | ⟨_,w1,hq,h2,h3,h5⟩ | ⟨e,_⟩
   ·cases e
   ·cases e
   ·cases e
   ·obtain⟨q1,⟨A4,k4,q2⟩,q3,q4⟩:=hq.growR hX hc i (Later.alloc w1 (.cells #[.int .i64 (i.fd:Int),.string (mkS i.op),.string (mkS i.word),.string (mkS i.body)] 79)) h2 h3 h5
    refine⟨⟨A4,_,k4,q2⟩,by rw[q3,hvk],q4,?_⟩
    rw[hC0]
    exact .inr (.inr (.inr (.inr ⟨rfl,_,q1⟩)))
   ·cases e)
  have HE:=Lib.hid (show ∀ u w9,C0 4 u w9→∃ v',PLoc W0 X g C h ln { n with redirs:=n.redirs++[i] } v' σ2 w9 from fun u w9 hC=>by
   rw[hC0] at hC
   rcases hC with⟨e,_⟩ | ⟨e,_⟩ | ⟨e,_⟩ | ⟨e,_⟩ | ⟨_,e⟩
   ·cases e
   ·cases e
   ·cases e
   ·cases e
   ·exact e)
  have HCA:=Lib.hid (show Calls Tryz.prog f #[.pointer (some ⟨g,0,none⟩)] w.drew fun e w9=>e=.returned (.agg #[.int .i64 (i.fd:Int),.string (mkS i.op),.string (mkS i.word),.string (mkS i.body)])∧PLoc W0 X g C h ln n v σ2 w9 from hcall.mono fun e w9 hh=>⟨hh.1,hdr.call hh.2.1 hh.2.2⟩)
  have HGD:=Lib.hid hgood
  clear_value P3
  clear hcall hbad hgood hcellP hdr hvk hm0 hC0 hi hz0 hz1 hz2 hp
  refine wp_region_seq (by kernel_rfl) [3,4,5,7] C0 [some (.pointer (some ⟨h,5,none⟩)),some (.slice A m0 c),some (.pointer (some ⟨g,0,none⟩)),some (.agg #[.int .i64 (i.fd:Int),.string (mkS i.op),.string (mkS i.word),.string (mkS i.body)]),none,none,some (.pointer (some ⟨h,5,none⟩)),none] (by intro p hp;simp[opsR] at hp⊢;omega) (by decide) rfl hok H0.out ?_ (fun a w9 u hC _ hd hsz hfree _=>by obtain⟨v',hq⟩:=HE.out u w9 hC;exact HGD.out i σ2 hm a w9 v' hq hd hsz hfree)
  refine⟨?_,?_,?_,?_,?_,?_,?_,?_,trivial⟩
  ·refine OwesS.q rfl fun a w9 j u hC hb hs=>⟨rfl,?_⟩
   have e1:a.tmps.getD th undef=.pointer (some ⟨h,0,none⟩):=(hs.free th hfh).trans eh
   clear hC hb
   refine ValWp.pure (v:=.pointer (some ⟨h,5,none⟩)) (fun K' hK'=>?_) ⟨rfl,rfl⟩
   simp only[ValWp,execOp,Act.eval,e1]
   go_simp
   all_goals exact hK'
  ·refine OwesS.q rfl fun a w9 j u hC hb hs=>⟨rfl,?_⟩
   have e1:a.tmps.getD s undef=.pointer (some ⟨h,5,none⟩):=hs.dep 0 _ rfl rfl
   have q0:=HQ.out j u w9 hC (hb 2 5 rfl rfl)
   clear hC hb
   refine ValWp.pure (v:=.slice A m0 c) (fun K' hK'=>?_) ⟨rfl,rfl⟩
   simp only[ValWp,execOp,Act.eval,e1]
   go_simp
   all_goals exact hK'
  ·refine OwesS.q rfl fun a w9 j u hC hb hs=>⟨rfl,?_⟩
   have e1:a.tmps.getD 0 undef=.pointer (some ⟨g,0,none⟩):=(hs.free 0 hf0).trans e0
   clear hC hb
   refine ValWp.pure (v:=.pointer (some ⟨g,0,none⟩)) (fun K' hK'=>?_) ⟨rfl,rfl⟩
   simp only[ValWp,execOp,Act.eval,e1]
   go_simp
   all_goals exact hK'
  ·refine OwesS.w rfl fun a w9 u hC hl hs=>⟨rfl,fun K hK=>?_⟩
   have hw:=HA0.out u w9 hC
   subst hw
   have e1:a.tmps.getD (s+2) undef=.pointer (some ⟨g,0,none⟩):=hs.dep 2 _ rfl rfl
   refine wp_callO f _ _ _ rfl rfl e1 hent (HCA.out.mono ?_)
   rintro e9 w9 ⟨rfl,hq⟩
   exact .inl ⟨_,rfl,hK _ w9 rfl (H1.out w9 hq)⟩
  ·refine OwesS.w rfl fun a w9 u hC hl hs=>⟨rfl,fun K hK=>?_⟩
   have e1:a.tmps.getD (s+3) undef=.agg #[.int .i64 (i.fd:Int),.string (mkS i.op),.string (mkS i.word),.string (mkS i.body)]:=hs.dep 3 _ rfl rfl
   have hq:=HA1.out u w9 hC
   refine wp_of_val ?_
   refine ValWp.pure (v:=.slice (some ⟨w9.heap.size,0,none⟩) 1 1) (w':=w9.alloc (.cells #[.int .i64 (i.fd:Int),.string (mkS i.op),.string (mkS i.word),.string (mkS i.body)] 79)) (fun K' hK'=>?_) (hK _ _ trivial (H2.out w9 hq))
   clear hq
   simp only[ValWp,execOp,Act.eval,List.map_toArray,List.map_cons,List.map_nil,e1]
   go_simp
   all_goals exact hK'
  ·refine OwesS.w rfl fun a w9 u hC hl hs=>⟨rfl,fun K hK=>?_⟩
   have e1:a.tmps.getD (s+1) undef=.slice A m0 c:=hs.dep 1 _ rfl rfl
   obtain⟨w1,hq,hu,hw⟩:=HA2.out u w9 hC
   subst hu
   subst hw
   have e2:a.tmps.getD (s+4) undef=.slice (some ⟨w1.heap.size,0,none⟩) 1 1:=hl
   obtain⟨v',w',hrun,h3⟩:=HAP.out w1 hq
   exact owes_append hrun rfl e1 e2 (hK v' w' trivial h3)
  ·refine OwesS.q rfl fun a w9 j u hC hb hs=>⟨rfl,?_⟩
   have e1:a.tmps.getD th undef=.pointer (some ⟨h,0,none⟩):=(hs.free th hfh).trans eh
   clear hC hb
   refine ValWp.pure (v:=.pointer (some ⟨h,5,none⟩)) (fun K' hK'=>?_) ⟨rfl,rfl⟩
   simp only[ValWp,execOp,Act.eval,e1]
   go_simp
   all_goals exact hK'
  ·refine OwesS.w rfl fun a w9 u hC hl hs=>⟨rfl,fun K hK=>?_⟩
   have e1:a.tmps.getD (s+6) undef=.pointer (some ⟨h,5,none⟩):=hs.dep 6 _ rfl rfl
   obtain⟨⟨A4,n4,k4,hu⟩,q1,q2,q3⟩:=HST.out u w9 hC
   subst hu
   have e2:a.tmps.getD (s+5) undef=.slice A4 n4 k4:=hl
   refine wp_of_val ?_
   refine ValWp.pure (v:=undef) (w':=w9.setCell ⟨h,5,none⟩ (.slice A4 n4 k4)) (fun K' hK'=>?_) (hK _ _ trivial q3)
   simp only[ValWp,execOp,Act.eval,e1,e2]
   go_simp
   all_goals exact hK'
end Go.Proofs.YtkkchkkpnlnbgaaGreatDoor
