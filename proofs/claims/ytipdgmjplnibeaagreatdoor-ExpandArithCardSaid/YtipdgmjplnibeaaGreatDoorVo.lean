import Derived.Test.YtipdgmjplnibeaaGreatDoorG38
import Derived.Test.YtipdgmjplnibeaaGreatDoorG27
set_option maxRecDepth 100000
set_option maxHeartbeats 12800000
namespace Go.Proofs.YtipdgmjplnibeaaGreatDoor
open Go.RowKit Go.Maps
set_option maxRecDepth 100000
theorem wp_call2 {P:Program} {o:Oper} {a:Act} {w:World} {K:Act→World→Prop} {Q:Exit→Act→World→Prop} (f:FuncId) (i j:Tmp) (ats:Array TypeId) (v1 v2:Value) (hop:o.op=.call { callee:=.value (.func f),args:=#[.tmp i,.tmp j],argTypes:=ats }) (hi:a.tmps.getD i undef=v1) (hj:a.tmps.getD j undef=v2) (hent:∀ args w,(callFunc f args).run P w=.ok (.enter f args) w)
  (h:Calls P f #[v1,v2] w fun e w'=>(∃ r,e=.returned r∧K (a.put o.dst r) w')∨(∃ ch,e=.panicked ch∧Q (.panic ch) a w')):Oper.wp P o a w K Q:=by
 have e1:execOp a.eval o=callFunc f #[v1,v2]:=by
  unfold execOp
  simp[hop,resolve,Deferred.ofValue,invoke,Act.eval,hi,hj]
 unfold Oper.wp
 rw[e1,hent]
 refine h.mono fun e w' hh=>?_
 rcases hh with⟨r,rfl,hk⟩ | ⟨ch,rfl,hq⟩
 ·exact hk
 ·exact hq
namespace Ey
open Jo (ft fm rows own_ge)
open En (E RdE Vd Rises FrE)
structure Fa (w:World) (bx g:Nat) (k:Nat) (t o:B) (q:Bool) (vw va aa:Value) (st:Int) (fl:ByteArray):Prop where
 b0:w.cell? ⟨bx,0,none⟩=some (.int .i64 (k:Int))
 b1:w.cell? ⟨bx,1,none⟩=some (.string (mkS t))
 b2:w.cell? ⟨bx,2,none⟩=some (.string (mkS o))
 b3:w.cell? ⟨bx,3,none⟩=some (.bool q)
 b4:w.cell? ⟨bx,4,none⟩=some vw
 rb:w.heap[bx+1]?=some (.cells #[.string ⟨#[]⟩,.string ⟨#[]⟩] 37 (0,0))
 c0:w.cell? ⟨g,0,none⟩=some va
 c1:w.cell? ⟨g,1,none⟩=some aa
 c2:w.cell? ⟨g,2,none⟩=some (.int .i64 st)
 c3:w.cell? ⟨g,3,none⟩=some (.string fl)
theorem Fa.ev {w:World} {bx g k:Nat} {t o:Ey.B} {q:Bool} {vw va aa:Value} {st:Int} {fl:ByteArray} (h:Fa w bx g k t o q vw va aa st fl):(Instr.loadAt 28 (.pointer (some ⟨g,0,none⟩))).run Tryz.prog w=.ok (.agg #[va,aa,.int .i64 st,.string fl]) w:=env_load h.c0 h.c1 h.c2 h.c3
theorem Fa.r0 {w:World} {bx g k:Nat} {t o:Ey.B} {q:Bool} {vw va aa:Value} {st:Int} {fl:ByteArray} (h:Fa w bx g k t o q vw va aa st fl):w.cell? ⟨bx+1,0,none⟩=some (.string ⟨#[]⟩):=(cell_row h.rb 0).1
theorem Fa.r1 {w:World} {bx g k:Nat} {t o:Ey.B} {q:Bool} {vw va aa:Value} {st:Int} {fl:ByteArray} (h:Fa w bx g k t o q vw va aa st fl):w.cell? ⟨bx+1,1,none⟩=some (.string ⟨#[]⟩):=(cell_row h.rb 1).1
theorem Fa.z {w:World} {bx g k:Nat} {t o:Ey.B} {q:Bool} {vw va aa:Value} {st:Int} {fl:ByteArray} (h:Fa w bx g k t o q vw va aa st fl):∀ i,w.frozen? ⟨bx+1,i,none⟩=false:=fun i=>(cell_row h.rb i).2
theorem Wt.ends' {W w w':World} {X:Nat→Prop} {g m b:Nat} {e:E} {cs:Array Value} {t:TypeId} {fr:Nat×Nat} (h0:Wt W X g m e) (hl:Later W w) (hb:W.heap.size≤b) (hx:w.heap[b]?=some (.cells cs t fr)) (hs:w.grownBy w' (some b)):Wt w' X g m e∧W.grownBy w' (some g):=
 h0.ends hl (h0.wide hl) (later_some (Later.refl w)) hb (lt_of_block hx) hx hs
theorem param_fault {W:World} {X:Nat→Prop} {g m:Nat} {e:E} {Aw:Option Addr} {cw:Nat} (k:Nat) (t o:B) (q:Bool) (l:List P) (h:Wt W X g m e) (ht:t.length≤100000) (ho:o.length≤100000) (ha:∀ x∈o,x.toNat<128) (hp:parted (.mk k t o q l)=false) (hs:(En.get Ar.nameB e t).2=false) (hn:need (.mk k t o q l)=true) (hu:e.flags.contains 117=true)  : Calls Tryz.prog 76 #[.pointer (some ⟨g,0,none⟩),.agg #[.int .i64 (k:Int),.string (mkS t),.string (mkS o),.bool q,.slice Aw l.length cw]] W fun x W'=>x=.panicked (flt 23 t)∧W.grownBy W' (some g):=by
 obtain⟨va,aa,hc⟩:=h.cells
 obtain⟨VAL,hVAL⟩:∃ v,v=(En.get Ar.nameB e t).1:=⟨_,rfl⟩
 obtain⟨SET,hSET⟩:∃ v,v=(En.get Ar.nameB e t).2:=⟨_,rfl⟩
 obtain⟨W1,hW1⟩:∃ W1,W1=(W.alloc (.cells #[.int .i64 (k:Int),.string (mkS t),.string (mkS o),.bool q,.slice Aw l.length cw] 105)).alloc (.cells #[.string ⟨#[]⟩,.string ⟨#[]⟩] 37):=⟨_,rfl⟩
 have hl:Later W W1:=by rw[hW1];exact(Later.alloc _ _).trans (Later.alloc _ _)
 obtain⟨st,hst⟩:∃ st:Int,st=e.status:=⟨_,rfl⟩
 obtain⟨fl,hfl⟩:∃ fl,fl=mkS e.flags:=⟨_,rfl⟩
 have HPF:=Lib.hid (show ∀ w,Later W1 w→Fa w W.heap.size g k t o q (.slice Aw l.length cw) va aa st fl from fun w hw=>by
  have hb:W1.heap[W.heap.size]?=some (.cells #[.int .i64 (k:Int),.string (mkS t),.string (mkS o),.bool q,.slice Aw l.length cw] 105 (0,0)):=by rw[hW1];exact later_cells (Later.alloc _ _) (heap_alloc_new _ _)
  have hr:W1.heap[W.heap.size+1]?=some (.cells #[.string ⟨#[]⟩,.string ⟨#[]⟩] 37 (0,0)):=by
   have:=heap_alloc_new (W.alloc (.cells #[.int .i64 (k:Int),.string (mkS t),.string (mkS o),.bool q,.slice Aw l.length cw] 105)) (.cells #[.string ⟨#[]⟩,.string ⟨#[]⟩] 37)
   rw[World.size_alloc] at this
   rw[hW1]
   exact this
  have hb2:=later_cells hw hb
  obtain⟨⟨c0,c1,c2,c3,_⟩,_⟩:=hc w (hl.trans hw)
  exact⟨(cell_row hb2 0).1,(cell_row hb2 1).1,(cell_row hb2 2).1,(cell_row hb2 3).1,(cell_row hb2 4).1,later_cells hw hr,c0,c1,by rw[hst];exact c2,by rw[hfl];exact c3⟩)
 have HG:=Lib.hid (show ∀ w,Later W1 w→Calls Tryz.prog 16 #[.agg #[va,aa,.int .i64 st,.string fl],.string (mkS t)] w fun x W''=>x=.returned (.tuple #[.string (mkS VAL),.bool SET])∧Later w W'' from fun w hw=>by rw[hst,hfl,hVAL,hSET];exact get_w (hc w (hl.trans hw)).2 (h.vd.later (hl.trans hw)) h.sm t ht)
 have HPA:=Lib.hid (show ∀ w,Calls Tryz.prog 106 #[.agg #[.int .i64 (k:Int),.string (mkS t),.string (mkS o),.bool q,.slice Aw l.length cw]] w fun e W'=>e=.returned (.bool false)∧Later w W' from fun w=>by have:=parted_v (.mk k t o q l) (.slice Aw l.length cw) w;rw[hp] at this;exact this)
 have HND:=Lib.hid (show ∀ w,Calls Tryz.prog 108 #[.agg #[.int .i64 (k:Int),.string (mkS t),.string (mkS o),.bool q,.slice Aw l.length cw]] w fun e W'=>e=.returned (.bool true)∧Later w W' from fun w=>by have:=needed_v (.mk k t o q l) (.slice Aw l.length cw) ho ha w;rw[hn] at this;exact this)
 have HHS:=Lib.hid (show ∀ w,Later W1 w→Calls Tryz.prog 42 #[.agg #[va,aa,.int .i64 st,.string fl],.int .u8 117] w fun x W''=>x=.returned (.bool true)∧Later w W'' from fun w hw=>by
  have:=En.has_v (.agg #[va,aa,.int .i64 (e.status:Int),.string (mkS e.flags)]) e 117 w (hc w (hl.trans hw)).2
  rw[hu] at this
  rw[hst,hfl]
  exact this)
 have HRB:=Lib.hid (show ∀ W,Calls Tryz.prog 46 #[.int .i64 23,.string (mkS t)] W fun e W'=>e=.panicked (flt 23 t)∧W'=W from fun W=>refuse_bad 23 (by decide) t W)
 have HEN:=Lib.hid (entO (c:=_) Tryz.func16 rfl rfl)
 have HLW:=Lib.hid hl
 have HH:=Lib.hid h
 have HRR:=Lib.hid (fun r:Rw=>show rv r=.agg #[.string (mkS (ft r)),.string (mkS (fm r))] from rfl)
 rw[hs] at hSET
 subst hSET
 have HW1:=Lib.hid hW1
 clear h hc hl hst hfl hVAL ht hp hs hW1 hn hu ho ha
 go_enter Tryz.func76,Tryz.ntmps76
 go_wp2_with (go_at_call 106;(with_reducible refine(HPA.out _).mono ?_);rintro e w1 ⟨rfl,hl1⟩;rw[←HW1.out] at hl1;(have HL1:=Lib.hid hl1);clear hl1;(have hf:=HPF.out w1 HL1.out);have b0:=hf.b0;have b1:=hf.b1;have b2:=hf.b2;have b3:=hf.b3;have b4:=hf.b4;have r0:=hf.r0;have r1:=hf.r1;have z:=hf.z;have c0:=hf.c0;have c1:=hf.c1;have c2:=hf.c2;have c3:=hf.c3;clear hf)
 obtain⟨C0,hC0⟩:∃ C0:Nat→Value→World→Prop,C0=fun j u w=>(j=0∧w=w1.drew)∨(j=1∧Later w1.drew w):=⟨_,rfl⟩
 have HA:=Lib.hid (show ∀ j u w,C0 j u w→j≤0→w=w1.drew from fun j u w hc hj=>by
  rw[hC0] at hc
  rcases hc with⟨_,e⟩ | ⟨e,_⟩
  ·exact e
  ·omega)
 have HLJ:=Lib.hid (show ∀ j u w,C0 j u w→Later W1 w from fun j u w hc=>by
  rw[hC0] at hc
  rcases hc with⟨_,rfl⟩ | ⟨_,h⟩
  ·exact HL1.out.trans (Later.drew _)
  ·exact(HL1.out.trans (Later.drew _)).trans h)
 have H0:=Lib.hid (show C0 0 undef w1.drew by rw[hC0];exact .inl ⟨rfl,rfl⟩)
 have H1:=Lib.hid (show ∀ u w,Later w1.drew w→C0 1 u w from fun u w h=>by rw[hC0];exact .inr ⟨rfl,h⟩)
 have HEV:=Lib.hid (show ∀ j u w,C0 j u w→(Instr.loadAt 28 (.pointer (some ⟨g,0,none⟩))).run Tryz.prog w=.ok (.agg #[va,aa,.int .i64 st,.string fl]) w from fun j u w hc=>(HPF.out w (HLJ.out j u w hc)).ev)
 have HTT:=Lib.hid (show ∀ j u w,C0 j u w→w.cell? ⟨W.heap.size,1,none⟩=some (.string (mkS t)) from fun j u w hc=>(HPF.out w (HLJ.out j u w hc)).b1)
 have HGET:=Lib.hid (HG.out w1.drew (HL1.out.trans (Later.drew _)))
 clear hC0
 refine wp_region_seq (by kernel_rfl) [6] (C0) [some (.pointer (some ⟨g,0,none⟩)),some (.pointer (some ⟨g,0,none⟩)),some (.pointer (some ⟨g,0,none⟩)),some (.agg #[va,aa,.int .i64 st,.string fl]),some (.pointer (some ⟨W.heap.size,1,none⟩)),some (.string (mkS t)),some (.tuple #[.string (mkS VAL),.bool false]),some (.tuple #[.string (mkS VAL),.bool false]),some (.string (mkS VAL)),some (.bool false),some (.string (mkS VAL)),some (.bool false)] (by decide) (by decide) (by kernel_rfl) (by kernel_rfl) (H0.out) ?_ ?_
 ·refine⟨?_,?_,?_,?_,?_,?_,?_,?_,?_,?_,?_,?_,trivial⟩
  ·
   refine OwesS.q rfl fun a w j u hC hb hs=>⟨rfl,?_⟩
   have e0:a.tmps.getD 0 undef=.pointer (some ⟨g,0,none⟩):=hs.free 0 rfl
   refine ValWp.pure (v:=.pointer (some ⟨g,0,none⟩)) (fun K' hK'=>?_) ⟨rfl,rfl⟩
   simp only[ValWp,execOp,Act.eval,e0]
   go_simp
   all_goals exact hK'
  ·
   refine OwesS.q rfl fun a w j u hC hb hs=>⟨rfl,?_⟩
   have e14:a.tmps.getD 14 undef=.pointer (some ⟨g,0,none⟩):=hs.dep 0 _ rfl rfl
   refine ValWp.pure (v:=.pointer (some ⟨g,0,none⟩)) (fun K' hK'=>?_) ⟨rfl,rfl⟩
   simp only[ValWp,execOp,Act.eval,e14]
   go_simp
   all_goals exact hK'
  ·
   refine OwesS.q rfl fun a w j u hC hb hs=>⟨rfl,?_⟩
   have e15:a.tmps.getD 15 undef=.pointer (some ⟨g,0,none⟩):=hs.dep 1 _ rfl rfl
   refine ValWp.pure (v:=.pointer (some ⟨g,0,none⟩)) (fun K' hK'=>?_) ⟨rfl,rfl⟩
   simp only[ValWp,execOp,Act.eval,e15]
   go_simp
   all_goals exact hK'
  ·
   refine OwesS.q rfl fun a w j u hC hb hs=>⟨rfl,?_⟩
   have e16:a.tmps.getD 16 undef=.pointer (some ⟨g,0,none⟩):=hs.dep 2 _ rfl rfl
   exact ValWp.loadR rfl e16 (HEV.out j u w hC) ⟨rfl,rfl⟩
  ·
   refine OwesS.q rfl fun a w j u hC hb hs=>⟨rfl,?_⟩
   have e3:a.tmps.getD 3 undef=.pointer (some ⟨W.heap.size,0,none⟩):=hs.free 3 rfl
   refine ValWp.pure (v:=.pointer (some ⟨W.heap.size,1,none⟩)) (fun K' hK'=>?_) ⟨rfl,rfl⟩
   simp only[ValWp,execOp,Act.eval,e3]
   go_simp
   all_goals exact hK'
  ·
   refine OwesS.q rfl fun a w j u hC hb hs=>⟨rfl,?_⟩
   have e18:a.tmps.getD 18 undef=.pointer (some ⟨W.heap.size,1,none⟩):=hs.dep 4 _ rfl rfl
   have q0:=HTT.out j u w hC
   refine ValWp.pure (v:=.string (mkS t)) (fun K' hK'=>?_) ⟨rfl,rfl⟩
   simp only[ValWp,execOp,Act.eval,e18]
   go_simp
   all_goals exact hK'
  ·
   refine OwesS.w rfl fun a w u hC hl hs=>⟨rfl,fun K hK=>?_⟩
   have e17:a.tmps.getD 17 undef=.agg #[va,aa,.int .i64 st,.string fl]:=hs.dep 3 _ rfl rfl
   have e19:a.tmps.getD 19 undef=.string (mkS t):=hs.dep 5 _ rfl rfl
   have hw:=HA.out 0 u w hC (Nat.le_refl _)
   subst hw
   refine wp_call2 16 17 19 _ _ _ rfl e17 e19 HEN.out (HGET.out.mono ?_)
   rintro e9 w9 ⟨rfl,hl9⟩
   exact .inl ⟨_,rfl,hK _ _ rfl (H1.out _ w9 hl9)⟩
  ·
   refine OwesS.q rfl fun a w j u hC hb hs=>⟨rfl,?_⟩
   have e20:a.tmps.getD 20 undef=.tuple #[.string (mkS VAL),.bool false]:=hs.dep 6 _ rfl rfl
   refine ValWp.pure (v:=.tuple #[.string (mkS VAL),.bool false]) (fun K' hK'=>?_) ⟨rfl,rfl⟩
   simp only[ValWp,execOp,Act.eval,e20]
   go_simp
   all_goals exact hK'
  ·
   refine OwesS.q rfl fun a w j u hC hb hs=>⟨rfl,?_⟩
   have e13:a.tmps.getD 13 undef=.tuple #[.string (mkS VAL),.bool false]:=hs.dep 7 _ rfl rfl
   refine ValWp.pure (v:=.string (mkS VAL)) (fun K' hK'=>?_) ⟨rfl,rfl⟩
   simp only[ValWp,execOp,Act.eval,e13]
   go_simp
   all_goals exact hK'
  ·
   refine OwesS.q rfl fun a w j u hC hb hs=>⟨rfl,?_⟩
   have e13:a.tmps.getD 13 undef=.tuple #[.string (mkS VAL),.bool false]:=hs.dep 7 _ rfl rfl
   refine ValWp.pure (v:=.bool false) (fun K' hK'=>?_) ⟨rfl,rfl⟩
   simp only[ValWp,execOp,Act.eval,e13]
   go_simp
   all_goals exact hK'
  ·
   refine OwesS.q rfl fun a w j u hC hb hs=>⟨rfl,?_⟩
   have e21:a.tmps.getD 21 undef=.string (mkS VAL):=hs.dep 8 _ rfl rfl
   refine ValWp.pure (v:=.string (mkS VAL)) (fun K' hK'=>?_) ⟨rfl,rfl⟩
   simp only[ValWp,execOp,Act.eval,e21]
   go_simp
   all_goals exact hK'
  ·
   refine OwesS.q rfl fun a w j u hC hb hs=>⟨rfl,?_⟩
   have e22:a.tmps.getD 22 undef=.bool false:=hs.dep 9 _ rfl rfl
   refine ValWp.pure (v:=.bool false) (fun K' hK'=>?_) ⟨rfl,rfl⟩
   simp only[ValWp,execOp,Act.eval,e22]
   go_simp
   all_goals exact hK'
 ·intro a w u hC hl hd hsz hfree hs
  obtain⟨u13,hu13⟩:∃ u,u=a.tmps.getD 13 undef:=⟨_,rfl⟩
  obtain⟨u14,hu14⟩:∃ u,u=a.tmps.getD 14 undef:=⟨_,rfl⟩
  obtain⟨u15,hu15⟩:∃ u,u=a.tmps.getD 15 undef:=⟨_,rfl⟩
  obtain⟨u16,hu16⟩:∃ u,u=a.tmps.getD 16 undef:=⟨_,rfl⟩
  obtain⟨u17,hu17⟩:∃ u,u=a.tmps.getD 17 undef:=⟨_,rfl⟩
  obtain⟨u18,hu18⟩:∃ u,u=a.tmps.getD 18 undef:=⟨_,rfl⟩
  obtain⟨u19,hu19⟩:∃ u,u=a.tmps.getD 19 undef:=⟨_,rfl⟩
  obtain⟨u20,hu20⟩:∃ u,u=a.tmps.getD 20 undef:=⟨_,rfl⟩
  obtain⟨u21,hu21⟩:∃ u,u=a.tmps.getD 21 undef:=⟨_,rfl⟩
  obtain⟨u22,hu22⟩:∃ u,u=a.tmps.getD 22 undef:=⟨_,rfl⟩
  have hal:AllAt a 0 [_,_,_,_,_,.string (mkS VAL),.bool false,_,_,_,_,_,_,u13,u14,u15,u16,u17,u18,u19,u20,u21,u22,_,_,_,_,_,_,_,_,_,_,_,_,_,_,_,_,_,_,_,_,_,_,_,_,_,_,_,_,_,_,_,_,_,_,_,_,_,_,_,_,_,_,_,_,_,_,_,_,_,_,_,_,_,_,_,_,_,_,_]:=⟨hfree 0 rfl,hfree 1 rfl,hfree 2 rfl,hfree 3 rfl,hfree 4 rfl,hs 10 _ rfl,hs 11 _ rfl,hfree 7 rfl,hfree 8 rfl,hfree 9 rfl,hfree 10 rfl,hfree 11 rfl,hfree 12 rfl,hu13.symm,hu14.symm,hu15.symm,hu16.symm,hu17.symm,hu18.symm,hu19.symm,hu20.symm,hu21.symm,hu22.symm,hfree 23 rfl,hfree 24 rfl,hfree 25 rfl,hfree 26 rfl,hfree 27 rfl,hfree 28 rfl,hfree 29 rfl,hfree 30 rfl,hfree 31 rfl,hfree 32 rfl,hfree 33 rfl,hfree 34 rfl,hfree 35 rfl,hfree 36 rfl,hfree 37 rfl,hfree 38 rfl,hfree 39 rfl,hfree 40 rfl,hfree 41 rfl,hfree 42 rfl,hfree 43 rfl,hfree 44 rfl,hfree 45 rfl,hfree 46 rfl,hfree 47 rfl,hfree 48 rfl,hfree 49 rfl,hfree 50 rfl,hfree 51 rfl,hfree 52 rfl,hfree 53 rfl,hfree 54 rfl,hfree 55 rfl,hfree 56 rfl,hfree 57 rfl,hfree 58 rfl,hfree 59 rfl,hfree 60 rfl,hfree 61 rfl,hfree 62 rfl,hfree 63 rfl,hfree 64 rfl,hfree 65 rfl,hfree 66 rfl,hfree 67 rfl,hfree 68 rfl,hfree 69 rfl,hfree 70 rfl,hfree 71 rfl,hfree 72 rfl,hfree 73 rfl,hfree 74 rfl,hfree 75 rfl,hfree 76 rfl,hfree 77 rfl,hfree 78 rfl,hfree 79 rfl,hfree 80 rfl,hfree 81 rfl,trivial⟩
  have hlit:=fun h=>act_lit hd h hal
  rw[hlit hsz]
  simp only[Array.getD_eq_getD_getElem?,List.getElem?_toArray,List.getElem?_cons_zero,List.getElem?_cons_succ,Option.getD_some]
  clear hlit hal hd hsz hfree hs hu13 hu14 hu15 hu16 hu17 hu18 hu19 hu20 hu21 hu22
  have HL3:=Lib.hid (HLJ.out _ _ _ hC)
  clear hC hl
  (have hf:=HPF.out w HL3.out)
  have b0:=hf.b0
  have b1:=hf.b1
  have b2:=hf.b2
  have b3:=hf.b3
  have b4:=hf.b4
  have r0:=hf.r0
  have r1:=hf.r1
  have z:=hf.z
  have c0:=hf.c0
  have c1:=hf.c1
  have c2:=hf.c2
  have c3:=hf.c3
  clear hf
  go_wp2_with (first
   |(go_at_call 108;(with_reducible refine(HND.out _).mono ?_);rintro e w4 ⟨rfl,hl4⟩;(have HL4:=Lib.hid (HL3.out.trans hl4));clear hl4;(have hf:=HPF.out w4 HL4.out);have b0:=hf.b0;have b1:=hf.b1;have b2:=hf.b2;have b3:=hf.b3;have b4:=hf.b4;have r0:=hf.r0;have r1:=hf.r1;have z:=hf.z;have c0:=hf.c0;have c1:=hf.c1;have c2:=hf.c2;have c3:=hf.c3;clear hf)
   |(go_at_call 42;(with_reducible refine(HHS.out _ HL4.out).mono ?_);rintro e w5 ⟨rfl,hl5⟩;(have HL5:=Lib.hid (HL4.out.trans hl5));clear hl5;(have hf:=HPF.out w5 HL5.out);have b0:=hf.b0;have b1:=hf.b1;have b2:=hf.b2;have b3:=hf.b3;have b4:=hf.b4;have r0:=hf.r0;have r1:=hf.r1;have z:=hf.z;have c0:=hf.c0;have c1:=hf.c1;have c2:=hf.c2;have c3:=hf.c3;clear hf)
   |(go_at_call 46;(with_reducible refine(HRB.out _).mono ?_);rintro e w7 ⟨rfl,rfl⟩))
  exact⟨rfl,rfl,later_some (HLW.out.trans HL5.out)⟩
end Ey
end Go.Proofs.YtipdgmjplnibeaaGreatDoor
