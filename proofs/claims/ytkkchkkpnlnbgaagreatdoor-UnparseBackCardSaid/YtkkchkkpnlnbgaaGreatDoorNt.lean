/- The parser: a redirection. No premises. -/
import Derived.Test.YtkkchkkpnlnbgaaGreatDoorNs
set_option maxRecDepth 100000
set_option maxHeartbeats 1600000
namespace Go.Proofs.YtkkchkkpnlnbgaaGreatDoor
open Go.RowKit Go.Maps
open Lx (Tok nl)
theorem storeO_run {P:Program} {w:World} (ty:TypeId) (b:Nat) (c c':Array Value) (hb:w.heap[b]?=some (.cells c ty (0,0))) (hi:(P.info? ty).map (·.size)=some c'.size) (hs:c.size=c'.size) (h1:c'.all (·.oneCell')=true) :
  ∃ w8,(Instr.storeAt ty (.pointer (some ⟨b,0,none⟩)) (.agg c')).run P w=.ok () w8∧w8.heap[b]?=some (.cells c' ty (0,0))∧w.grownBy w8 (some b):=by
 refine⟨w.setRow b c',?_,setRow_heap w b c c' ty (0,0) hb,⟨rfl,rfl,rfl,by simp,fun k _ hk=>setRow_other w b k c' (fun e=>hk (by rw[e]))⟩⟩
 simp only[Instr.storeAt,Instr.sureAddr,Sem.run_bind,Sem.run_pure,Result.andThen]
 exact run_storeVar_row _ _ ty ty c c' hb hi hs h1
namespace Pz
section
variable {W:World} {X:Nat→Prop} {g:Nat} {C:Ctx} {σ:Sx.St}
theorem redir_v (h:PMem W X g C σ) (hg:Sx.good σ.r=true) (hr:Sx.atRedir σ=true):Calls Tryz.prog 137 #[.pointer (some ⟨g,0,none⟩)] W (StR X W g C (Sx.redir σ) fun x=>.agg #[.int .i64 (x.fd:Int),.string (mkS x.op),.string (mkS x.word),.string (mkS x.body)]):=by
 obtain⟨hw1,hw2⟩:=Sx.atRedir_go hg hr
 have hne:=Sx.good_ne hg
 have HLO:=Lib.hid h.low
 have HCX:=Lib.hid h.ctx
 have HM:=Lib.hid (h.more [W.heap.size] (by simp))
 have HNE:=Lib.hid hne
 have HP:=Lib.hid (fun w (hl:Later W w)=>peek_v (h.later hl) hne)
 have hsm:=small_v h _ (hd_mem hne)
 have hf0:=fld0
 have hf1:=fld1
 unfold Sx.redir
 by_cases hk:(Sx.hd σ).kind=5
 ·rw[if_pos hk]
  have HN1:=Lib.hid (Sx.good_ne hw1.gd)
  have HN2:=Lib.hid (Sx.good_ne (hw2 hk).gd)
  have HK:=Lib.hid (show ((Sx.hd σ).kind:Int)=5 by omega)
  have HIL:=Lib.hid hsm
  clear hk h hg hr hw1 hw2 hne hsm
  have HWD:=Lib.hid (fun w (hm:PMem w (plus X [W.heap.size]) g C (Sx.go (Sx.go σ)))=>word_v hm HN2.out)
  cases hx:Sx.word (Sx.go (Sx.go σ)) with
  | error er=>
   obtain⟨nn,k⟩:=er
   rw[hx] at HWD
   have HE:=Lib.hid (show Sx.bnd Sx.word (fun w=>Sx.ret (⟨Sx.file (Sx.hd σ).text (Sx.hd (Sx.go σ)).text,(Sx.hd (Sx.go σ)).text,w.text,w.body⟩:Sx.Arw)) (Sx.go (Sx.go σ))=.error (nn,k) from Sx.bnd_error hx)
   clear hx
   rw[HE.out]
   go_enter Tryz.func137,Tryz.ntmps137
   go_wp2_with (first
    |(refine wpList_allocO 2 rfl rfl 79 rfl _ _ info_redir ?_;intro w1 hb1 hl1 hz1;have HB1:=Lib.hid hb1;have HL1:=Lib.hid hl1;have HZ1:=Lib.hid hz1;clear hb1 hl1 hz1)
    |(go_at_call 29;(with_reducible refine(HP.out _ HL1.out).mono ?_);rintro e w2 ⟨rfl,hl2⟩;have HB2:=Lib.hid (later_cells hl2 HB1.out);have HL2:=Lib.hid (HL1.out.trans hl2);clear hl2;unfold tcs;rw[HK.out])
    |(go_at_call 54;first | ((with_reducible refine(next_v (HM.out.later HL2.out) HNE.out).mono ?_);rintro e w3 ⟨rfl,hm3,hf3⟩;have HM3:=Lib.hid hm3;have HB3:=Lib.hid (hf3.cells HB2.out (.inr (by simp)));have HF3:=Lib.hid ((Fr.later HL2.out).trans hf3.less);clear hm3 hf3;unfold tcs) | ((with_reducible refine(next_v HM3.out HN1.out).mono ?_);rintro e w4 ⟨rfl,hm4,hf4⟩;have HM4:=Lib.hid hm4;have HB4:=Lib.hid (hf4.cells HB3.out (.inr (by simp)));have HF4:=Lib.hid (HF3.out.trans hf4.less);clear hm4 hf4;unfold tcs))
    |(go_at_call 61;(with_reducible refine(HWD.out _ HM4.out).mono ?_);rintro e w5 ⟨rfl,hf5⟩))
   exact bodyPost_panic rfl ⟨rfl,HF4.out.trans hf5.less⟩
  | ok x=>
   obtain⟨t,σ3⟩:=x
   rw[hx] at HWD
   have HE:=Lib.hid (show Sx.bnd Sx.word (fun w=>Sx.ret (⟨Sx.file (Sx.hd σ).text (Sx.hd (Sx.go σ)).text,(Sx.hd (Sx.go σ)).text,w.text,w.body⟩:Sx.Arw)) (Sx.go (Sx.go σ))=.ok ((⟨Sx.file (Sx.hd σ).text (Sx.hd (Sx.go σ)).text,(Sx.hd (Sx.go σ)).text,t.text,t.body⟩:Sx.Arw),σ3) from(Sx.bnd_ok hx).trans rfl)
   clear hx
   rw[HE.out]
   obtain⟨O,hO⟩:∃ O,O=(Sx.hd (Sx.go σ)).text:=⟨_,rfl⟩
   rw[←hO]
   obtain⟨T,hT⟩:∃ T,T=t.text:=⟨_,rfl⟩
   obtain⟨Bd,hBd⟩:∃ Bd,Bd=t.body:=⟨_,rfl⟩
   rw[←hT,←hBd]
   have HT:=Lib.hid (show tcs C.N t=#[.int .i64 (t.kind:Int),.string (mkS T),.string (mkS Bd),.int .i64 ((1+C.N-t.left:Nat):Int)] by rw[hT,hBd];rfl)
   have HZ:=Lib.hid (show (tcs C.N t).size=4 from rfl)
   have HO1:=Lib.hid (tcs_one C.N t)
   have HO:=Lib.hid (show tcs C.N (Sx.hd (Sx.go σ))=#[.int .i64 ((Sx.hd (Sx.go σ)).kind:Int),.string (mkS O),.string (mkS (Sx.hd (Sx.go σ)).body),.int .i64 ((1+C.N-(Sx.hd (Sx.go σ)).left:Nat):Int)] by rw[hO];rfl)
   obtain⟨IO,hIO⟩:∃ IO,IO=(Sx.hd σ).text:=⟨_,rfl⟩
   have HIO:=Lib.hid (show tcs C.N (Sx.hd σ)=#[.int .i64 ((Sx.hd σ).kind:Int),.string (mkS IO),.string (mkS (Sx.hd σ).body),.int .i64 ((1+C.N-(Sx.hd σ).left:Nat):Int)] by rw[hIO];rfl)
   rw[←hIO] at HIL⊢
   clear hIO
   obtain⟨F,hF⟩:∃ F,F=Sx.file IO O:=⟨_,rfl⟩
   have HFI:=Lib.hid (file_v IO O HIL.out)
   rw[←hF] at HFI⊢
   clear hO hT hBd hF
   go_enter Tryz.func137,Tryz.ntmps137
   go_wp2_with (first
    |(refine wpList_allocO 2 rfl rfl 79 rfl _ _ info_redir ?_;intro w1 hb1 hl1 hz1;have HB1:=Lib.hid hb1;have HL1:=Lib.hid hl1;have HZ1:=Lib.hid hz1;clear hb1 hl1 hz1)
    |(go_at_call 29;(with_reducible refine(HP.out _ HL1.out).mono ?_);rintro e w2 ⟨rfl,hl2⟩;have HB2:=Lib.hid (later_cells hl2 HB1.out);have HL2:=Lib.hid (HL1.out.trans hl2);clear hl2;unfold tcs;rw[HK.out])
    |(go_at_call 54;first | ((with_reducible refine(next_v (HM.out.later HL2.out) HNE.out).mono ?_);rintro e w3 ⟨rfl,hm3,hf3⟩;have HM3:=Lib.hid hm3;have HB3:=Lib.hid (hf3.cells HB2.out (.inr (by simp)));have HF3:=Lib.hid ((Fr.later HL2.out).trans hf3.less);clear hm3 hf3;rw[HIO.out]) | ((with_reducible refine(next_v HM3.out HN1.out).mono ?_);rintro e w4 ⟨rfl,hm4,hf4⟩;have HM4:=Lib.hid hm4;have HB4:=Lib.hid (hf4.cells HB3.out (.inr (by simp)));have HF4:=Lib.hid (HF3.out.trans hf4.less);clear hm4 hf4;rw[HO.out]))
    |(go_at_call 61;(with_reducible refine(HWD.out _ HM4.out).mono ?_);rintro e w5 ⟨rfl,hm5,hf5⟩;have HM5:=Lib.hid hm5;have HB5:=Lib.hid (hf5.cells HB4.out (.inr (by simp)));have HF5:=Lib.hid (HF4.out.trans hf5.less);clear hm5 hf5)
    |(refine wpList_allocO 5 rfl rfl 63 rfl _ _ info_tok2 ?_;intro w6 hb6 hl6 hz6;have HB6:=Lib.hid hb6;have HL6:=Lib.hid hl6;clear hb6 hl6 hz6)
    |(refine wpList_storeO rfl 63 (.tmp 5) (.tmp 17) rfl w5.heap.size _ (tcs C.N t) rfl rfl HB6.out (by rw[HZ.out];exact size_tok) HZ.out.symm HO1.out ?_;intro w7 hb7 hg7 hz7;have HB7:=Lib.hid hb7;have hl57:=later_of_new HL6.out hg7 (Nat.le_refl _);have HM7:=Lib.hid (HM5.out.later hl57);have HB8:=Lib.hid (later_cells hl57 HB5.out);have HF7:=Lib.hid (HF5.out.thenLater hl57);clear hb7 hg7 hz7 hl57))
   obtain⟨N5,hN5⟩:∃ N5,N5=w5.heap.size:=⟨_,rfl⟩
   rw[←hN5] at HB7⊢
   have HLT:=Lib.hid (show W.heap.size<N5 by have:=HF5.out.size;have:=lt_of_block HB5.out;omega)
   clear hN5
   obtain⟨C0,hC0⟩:∃ C0:Nat→Value→World→Prop,C0=fun j _ w9=>(j=0∧w9=w7.drew)∨(j=1∧Later w7 w9)∨(j=2∧∃ w',Later w7 w'∧w9.heap[W.heap.size]?=some (.cells #[.int .i64 (F:Int),.string (mkS O),.string (mkS T),.string (mkS Bd)] 79 (0,0))∧w'.grownBy w9 (some W.heap.size)):=⟨_,rfl⟩
   have HC5:=Lib.hid (show ∀ j u w9,C0 j u w9→w9.cell? ⟨N5,1,none⟩=some (.string (mkS T))∧w9.cell? ⟨N5,2,none⟩=some (.string (mkS Bd)) from fun j u w9 hc=>by
    have hb7:=HB7.out
    rw[HT.out] at hb7
    have key:w9.heap[N5]?=some (.cells #[.int .i64 (t.kind:Int),.string (mkS T),.string (mkS Bd),.int .i64 ((1+C.N-t.left:Nat):Int)] 63 (0,0)):=by
     rw[hC0] at hc
     rcases hc with⟨_,rfl⟩ | ⟨_,hl⟩ | ⟨_,w',hl,_,hg⟩
     ·exact later_cells (Later.drew w7) hb7
     ·exact later_cells hl hb7
     ·exact grown_cells hg (later_cells hl hb7) (by have:=HLT.out;omega)
    exact⟨(cell_row key 1).1,(cell_row key 2).1⟩)
   have H0:=Lib.hid (show C0 0 undef w7.drew by rw[hC0];exact .inl ⟨rfl,rfl⟩)
   have H1:=Lib.hid (show ∀ u w9,C0 0 u w9→w9=w7.drew from fun u w9 hc=>by
    rw[hC0] at hc
    rcases hc with⟨_,e⟩ | ⟨e,_⟩ | ⟨e,_⟩
    ·exact e
    all_goals cases e)
   have H2:=Lib.hid (show ∀ w9,Later w7.drew w9→C0 1 (.int .i64 (F:Int)) w9 from fun w9 hl=>by rw[hC0];exact .inr (.inl ⟨rfl,(Later.drew w7).trans hl⟩))
   have HST:=Lib.hid (show ∀ u w9,C0 1 u w9→∃ w8,(Instr.storeAt 79 (.pointer (some ⟨W.heap.size,0,none⟩)) (.agg #[.int .i64 (F:Int),.string (mkS O),.string (mkS T),.string (mkS Bd)])).run Tryz.prog w9=.ok () w8∧C0 2 undef w8 from fun u w9 hc=>by
    rw[hC0] at hc
    rcases hc with⟨e,_⟩ | ⟨_,hl⟩ | ⟨e,_⟩
    ·cases e
    ·have hb:=later_cells hl HB8.out
     obtain⟨w8,h1,h2,h3⟩:=storeO_run (P:=Tryz.prog) 79 W.heap.size _ #[.int .i64 (F:Int),.string (mkS O),.string (mkS T),.string (mkS Bd)] hb size_redir rfl (by simp[Value.oneCell'])
     refine⟨w8,h1,?_⟩
     rw[hC0]
     exact .inr (.inr ⟨rfl,w9,hl,h2,h3⟩)
    ·cases e)
   have HEN:=Lib.hid (show ∀ u w9,C0 2 u w9→∃ w',Later w7 w'∧w9.heap[W.heap.size]?=some (.cells #[.int .i64 (F:Int),.string (mkS O),.string (mkS T),.string (mkS Bd)] 79 (0,0))∧w'.grownBy w9 (some W.heap.size) from fun u w9 hc=>by
    rw[hC0] at hc
    rcases hc with⟨e,_⟩ | ⟨e,_⟩ | ⟨_,e⟩
    ·cases e
    ·cases e
    ·exact e)
   clear hC0
   refine wp_region_seq (by kernel_rfl) [2,9] (C0) [some (.string (mkS IO)),some (.string (mkS O)),some (.int .i64 (F:Int)),some (.string (mkS O)),some (.pointer (some ⟨N5,1,none⟩)),some (.string (mkS T)),some (.pointer (some ⟨N5,2,none⟩)),some (.string (mkS Bd)),some (.agg #[.int .i64 (F:Int),.string (mkS O),.string (mkS T),.string (mkS Bd)]),none] (by decide) (by decide) (by kernel_rfl) (by kernel_rfl) (H0.out) ?_ ?_
   ·refine⟨?_,?_,?_,?_,?_,?_,?_,?_,?_,?_,trivial⟩
    ·
     refine OwesS.q rfl fun a w j u hC hb hs=>⟨rfl,?_⟩
     have e3:a.tmps.getD 3 undef=.string (mkS IO):=hs.free 3 rfl
     refine ValWp.pure (v:=.string (mkS IO)) (fun K' hK'=>?_) ⟨rfl,rfl⟩
     simp only[ValWp,execOp,Act.eval,e3]
     go_simp
     all_goals exact hK'
    ·
     refine OwesS.q rfl fun a w j u hC hb hs=>⟨rfl,?_⟩
     have e4:a.tmps.getD 4 undef=.string (mkS O):=hs.free 4 rfl
     refine ValWp.pure (v:=.string (mkS O)) (fun K' hK'=>?_) ⟨rfl,rfl⟩
     simp only[ValWp,execOp,Act.eval,e4]
     go_simp
     all_goals exact hK'
    ·
     refine OwesS.w rfl fun a w u hC hl hs=>⟨rfl,fun K hK=>?_⟩
     have e18:a.tmps.getD 18 undef=.string (mkS IO):=hs.dep 0 _ rfl rfl
     have e19:a.tmps.getD 19 undef=.string (mkS O):=hs.dep 1 _ rfl rfl
     have hw:=H1.out u w hC
     subst hw
     refine wp_of_val (ValWp.call #[.string (mkS IO),.string (mkS O)] rfl rfl Tryz.func142 rfl rfl (by simp only[List.map_toArray,List.map_cons,List.map_nil,Act.eval,e18,e19]) ?_)
     refine(HFI.out _).mono ?_
     rintro e9 w9 ⟨rfl,hl9⟩
     exact⟨_,rfl,hK _ w9 rfl (H2.out w9 hl9)⟩
    ·
     refine OwesS.q rfl fun a w j u hC hb hs=>⟨rfl,?_⟩
     have e4:a.tmps.getD 4 undef=.string (mkS O):=hs.free 4 rfl
     refine ValWp.pure (v:=.string (mkS O)) (fun K' hK'=>?_) ⟨rfl,rfl⟩
     simp only[ValWp,execOp,Act.eval,e4]
     go_simp
     all_goals exact hK'
    ·
     refine OwesS.q rfl fun a w j u hC hb hs=>⟨rfl,?_⟩
     have e5:a.tmps.getD 5 undef=.pointer (some ⟨N5,0,none⟩):=hs.free 5 rfl
     refine ValWp.pure (v:=.pointer (some ⟨N5,1,none⟩)) (fun K' hK'=>?_) ⟨rfl,rfl⟩
     simp only[ValWp,execOp,Act.eval,e5]
     go_simp
     all_goals exact hK'
    ·
     refine OwesS.q rfl fun a w j u hC hb hs=>⟨rfl,?_⟩
     have e22:a.tmps.getD 22 undef=.pointer (some ⟨N5,1,none⟩):=hs.dep 4 _ rfl rfl
     have q0:=(HC5.out j u w hC).1
     refine ValWp.pure (v:=.string (mkS T)) (fun K' hK'=>?_) ⟨rfl,rfl⟩
     simp only[ValWp,execOp,Act.eval,e22]
     go_simp
     all_goals exact hK'
    ·
     refine OwesS.q rfl fun a w j u hC hb hs=>⟨rfl,?_⟩
     have e5:a.tmps.getD 5 undef=.pointer (some ⟨N5,0,none⟩):=hs.free 5 rfl
     refine ValWp.pure (v:=.pointer (some ⟨N5,2,none⟩)) (fun K' hK'=>?_) ⟨rfl,rfl⟩
     simp only[ValWp,execOp,Act.eval,e5]
     go_simp
     all_goals exact hK'
    ·
     refine OwesS.q rfl fun a w j u hC hb hs=>⟨rfl,?_⟩
     have e24:a.tmps.getD 24 undef=.pointer (some ⟨N5,2,none⟩):=hs.dep 6 _ rfl rfl
     have q0:=(HC5.out j u w hC).2
     refine ValWp.pure (v:=.string (mkS Bd)) (fun K' hK'=>?_) ⟨rfl,rfl⟩
     simp only[ValWp,execOp,Act.eval,e24]
     go_simp
     all_goals exact hK'
    ·
     refine OwesS.q rfl fun a w j u hC hb hs=>⟨rfl,?_⟩
     have e20:a.tmps.getD 20 undef=.int .i64 (F:Int):=hs.dep 2 _ rfl rfl
     have e21:a.tmps.getD 21 undef=.string (mkS O):=hs.dep 3 _ rfl rfl
     have e23:a.tmps.getD 23 undef=.string (mkS T):=hs.dep 5 _ rfl rfl
     have e25:a.tmps.getD 25 undef=.string (mkS Bd):=hs.dep 7 _ rfl rfl
     refine ValWp.pure (v:=.agg #[.int .i64 (F:Int),.string (mkS O),.string (mkS T),.string (mkS Bd)]) (fun K' hK'=>?_) ⟨rfl,rfl⟩
     simp only[ValWp,execOp,Act.eval,List.map_toArray,List.map_cons,List.map_nil,e20,e21,e23,e25]
     go_simp
     all_goals exact hK'
    ·
     refine OwesS.w rfl fun a w u hC hl hs=>⟨rfl,fun K hK=>?_⟩
     have e2:a.tmps.getD 2 undef=.pointer (some ⟨W.heap.size,0,none⟩):=hs.free 2 rfl
     have e26:a.tmps.getD 26 undef=.agg #[.int .i64 (F:Int),.string (mkS O),.string (mkS T),.string (mkS Bd)]:=hs.dep 8 _ rfl rfl
     obtain⟨w9,hrun,h9⟩:=HST.out u w hC
     exact wp_of_val (ValWp.storeR rfl e2 e26 hrun (hK _ _ trivial h9))
   ·intro a w u hC hl hd hsz hfree hs
    obtain⟨z0,u1,z2,u3,u4,u5,u6,u7,u8,u9,u10,u11,u12,u13,u14,u15,u16,u17,u18,u19,u20,u21,u22,u23,u24,u25,u26,hal⟩:=lets a 27 0
    obtain rfl:=hal.on (v:=.pointer (some ⟨g,0,none⟩)) 0 (hfree 0 rfl) rfl
    obtain rfl:=hal.on (v:=.pointer (some ⟨W.heap.size,0,none⟩)) 2 (hfree 2 rfl) rfl
    have hlit:=fun h=>act_lit hd h hal
    rw[hlit hsz]
    clear hlit hal hd hsz hfree hs
    obtain⟨w',hl',hb',hg'⟩:=HEN.out u w hC
    go_wp2
    refine bodyPost_ret (results_redir rfl _ _ W.heap.size _ (0,0) rfl hb' rfl) rfl ?_
    refine⟨rfl,?_,(HF7.out.thenLater hl').new hg' (Nat.le_refl _)⟩
    exact((HM7.out.later hl').other hg' (.inr (by simp)) (fun e=>by have:=HLO.out.1 _ e;omega) (fun e=>by have:=HLO.out.2;omega)).less HCX.out
 ·rw[if_neg hk]
  have HN2:=Lib.hid (Sx.good_ne hw1.gd)
  have hk9:(((Sx.hd σ).kind:Int)==5)=false:=by simp;omega
  have HIL:=Lib.hid (show ([]:Lx.L).length≤5000 by simp)
  clear hk h hg hr hw1 hw2 hne hsm
  have HWD:=Lib.hid (fun w (hm:PMem w (plus X [W.heap.size]) g C (Sx.go σ))=>word_v hm HN2.out)
  cases hx:Sx.word (Sx.go σ) with
  | error er=>
   obtain⟨nn,k⟩:=er
   rw[hx] at HWD
   have HE:=Lib.hid (show Sx.bnd Sx.word (fun w=>Sx.ret (⟨Sx.file [] (Sx.hd σ).text,(Sx.hd σ).text,w.text,w.body⟩:Sx.Arw)) (Sx.go σ)=.error (nn,k) from Sx.bnd_error hx)
   clear hx
   rw[HE.out]
   go_enter Tryz.func137,Tryz.ntmps137
   go_wp2_with (first
    |(refine wpList_allocO 2 rfl rfl 79 rfl _ _ info_redir ?_;intro w1 hb1 hl1 hz1;have HB1:=Lib.hid hb1;have HL1:=Lib.hid hl1;have HZ1:=Lib.hid hz1;clear hb1 hl1 hz1)
    |(go_at_call 29;(with_reducible refine(HP.out _ HL1.out).mono ?_);rintro e w2 ⟨rfl,hl2⟩;have HB2:=Lib.hid (later_cells hl2 HB1.out);have HL2:=Lib.hid (HL1.out.trans hl2);clear hl2;unfold tcs)
    |(go_at_call 54;((with_reducible refine(next_v (HM.out.later HL2.out) HNE.out).mono ?_);rintro e w4 ⟨rfl,hm4,hf4⟩;have HM4:=Lib.hid hm4;have HB4:=Lib.hid (hf4.cells HB2.out (.inr (by simp)));have HF4:=Lib.hid ((Fr.later HL2.out).trans hf4.less);clear hm4 hf4;unfold tcs))
    |(go_at_call 61;(with_reducible refine(HWD.out _ HM4.out).mono ?_);rintro e w5 ⟨rfl,hf5⟩))
   exact bodyPost_panic rfl ⟨rfl,HF4.out.trans hf5.less⟩
  | ok x=>
   obtain⟨t,σ3⟩:=x
   rw[hx] at HWD
   have HE:=Lib.hid (show Sx.bnd Sx.word (fun w=>Sx.ret (⟨Sx.file [] (Sx.hd σ).text,(Sx.hd σ).text,w.text,w.body⟩:Sx.Arw)) (Sx.go σ)=.ok ((⟨Sx.file [] (Sx.hd σ).text,(Sx.hd σ).text,t.text,t.body⟩:Sx.Arw),σ3) from(Sx.bnd_ok hx).trans rfl)
   clear hx
   rw[HE.out]
   obtain⟨O,hO⟩:∃ O,O=(Sx.hd σ).text:=⟨_,rfl⟩
   rw[←hO]
   obtain⟨T,hT⟩:∃ T,T=t.text:=⟨_,rfl⟩
   obtain⟨Bd,hBd⟩:∃ Bd,Bd=t.body:=⟨_,rfl⟩
   rw[←hT,←hBd]
   have HT:=Lib.hid (show tcs C.N t=#[.int .i64 (t.kind:Int),.string (mkS T),.string (mkS Bd),.int .i64 ((1+C.N-t.left:Nat):Int)] by rw[hT,hBd];rfl)
   have HZ:=Lib.hid (show (tcs C.N t).size=4 from rfl)
   have HO1:=Lib.hid (tcs_one C.N t)
   have HO:=Lib.hid (show tcs C.N (Sx.hd σ)=#[.int .i64 ((Sx.hd σ).kind:Int),.string (mkS O),.string (mkS (Sx.hd σ).body),.int .i64 ((1+C.N-(Sx.hd σ).left:Nat):Int)] by rw[hO];rfl)
   obtain⟨F,hF⟩:∃ F,F=Sx.file [] O:=⟨_,rfl⟩
   have HFI:=Lib.hid (file_v [] O HIL.out)
   rw[←hF] at HFI⊢
   clear hO hT hBd hF
   go_enter Tryz.func137,Tryz.ntmps137
   go_wp2_with (first
    |(refine wpList_allocO 2 rfl rfl 79 rfl _ _ info_redir ?_;intro w1 hb1 hl1 hz1;have HB1:=Lib.hid hb1;have HL1:=Lib.hid hl1;have HZ1:=Lib.hid hz1;clear hb1 hl1 hz1)
    |(go_at_call 29;(with_reducible refine(HP.out _ HL1.out).mono ?_);rintro e w2 ⟨rfl,hl2⟩;have HB2:=Lib.hid (later_cells hl2 HB1.out);have HL2:=Lib.hid (HL1.out.trans hl2);clear hl2;unfold tcs)
    |(go_at_call 54;((with_reducible refine(next_v (HM.out.later HL2.out) HNE.out).mono ?_);rintro e w4 ⟨rfl,hm4,hf4⟩;have HM4:=Lib.hid hm4;have HB4:=Lib.hid (hf4.cells HB2.out (.inr (by simp)));have HF4:=Lib.hid ((Fr.later HL2.out).trans hf4.less);clear hm4 hf4;rw[HO.out]))
    |(go_at_call 61;(with_reducible refine(HWD.out _ HM4.out).mono ?_);rintro e w5 ⟨rfl,hm5,hf5⟩;have HM5:=Lib.hid hm5;have HB5:=Lib.hid (hf5.cells HB4.out (.inr (by simp)));have HF5:=Lib.hid (HF4.out.trans hf5.less);clear hm5 hf5)
    |(refine wpList_allocO 5 rfl rfl 63 rfl _ _ info_tok2 ?_;intro w6 hb6 hl6 hz6;have HB6:=Lib.hid hb6;have HL6:=Lib.hid hl6;clear hb6 hl6 hz6)
    |(refine wpList_storeO rfl 63 (.tmp 5) (.tmp 17) rfl w5.heap.size _ (tcs C.N t) rfl rfl HB6.out (by rw[HZ.out];exact size_tok) HZ.out.symm HO1.out ?_;intro w7 hb7 hg7 hz7;have HB7:=Lib.hid hb7;have hl57:=later_of_new HL6.out hg7 (Nat.le_refl _);have HM7:=Lib.hid (HM5.out.later hl57);have HB8:=Lib.hid (later_cells hl57 HB5.out);have HF7:=Lib.hid (HF5.out.thenLater hl57);clear hb7 hg7 hz7 hl57))
   obtain⟨N5,hN5⟩:∃ N5,N5=w5.heap.size:=⟨_,rfl⟩
   rw[←hN5] at HB7⊢
   have HLT:=Lib.hid (show W.heap.size<N5 by have:=HF5.out.size;have:=lt_of_block HB5.out;omega)
   clear hN5
   obtain⟨C0,hC0⟩:∃ C0:Nat→Value→World→Prop,C0=fun j _ w9=>(j=0∧w9=w7.drew)∨(j=1∧Later w7 w9)∨(j=2∧∃ w',Later w7 w'∧w9.heap[W.heap.size]?=some (.cells #[.int .i64 (F:Int),.string (mkS O),.string (mkS T),.string (mkS Bd)] 79 (0,0))∧w'.grownBy w9 (some W.heap.size)):=⟨_,rfl⟩
   have HC5:=Lib.hid (show ∀ j u w9,C0 j u w9→w9.cell? ⟨N5,1,none⟩=some (.string (mkS T))∧w9.cell? ⟨N5,2,none⟩=some (.string (mkS Bd)) from fun j u w9 hc=>by
    have hb7:=HB7.out
    rw[HT.out] at hb7
    have key:w9.heap[N5]?=some (.cells #[.int .i64 (t.kind:Int),.string (mkS T),.string (mkS Bd),.int .i64 ((1+C.N-t.left:Nat):Int)] 63 (0,0)):=by
     rw[hC0] at hc
     rcases hc with⟨_,rfl⟩ | ⟨_,hl⟩ | ⟨_,w',hl,_,hg⟩
     ·exact later_cells (Later.drew w7) hb7
     ·exact later_cells hl hb7
     ·exact grown_cells hg (later_cells hl hb7) (by have:=HLT.out;omega)
    exact⟨(cell_row key 1).1,(cell_row key 2).1⟩)
   have H0:=Lib.hid (show C0 0 undef w7.drew by rw[hC0];exact .inl ⟨rfl,rfl⟩)
   have H1:=Lib.hid (show ∀ u w9,C0 0 u w9→w9=w7.drew from fun u w9 hc=>by
    rw[hC0] at hc
    rcases hc with⟨_,e⟩ | ⟨e,_⟩ | ⟨e,_⟩
    ·exact e
    all_goals cases e)
   have H2:=Lib.hid (show ∀ w9,Later w7.drew w9→C0 1 (.int .i64 (F:Int)) w9 from fun w9 hl=>by rw[hC0];exact .inr (.inl ⟨rfl,(Later.drew w7).trans hl⟩))
   have HST:=Lib.hid (show ∀ u w9,C0 1 u w9→∃ w8,(Instr.storeAt 79 (.pointer (some ⟨W.heap.size,0,none⟩)) (.agg #[.int .i64 (F:Int),.string (mkS O),.string (mkS T),.string (mkS Bd)])).run Tryz.prog w9=.ok () w8∧C0 2 undef w8 from fun u w9 hc=>by
    rw[hC0] at hc
    rcases hc with⟨e,_⟩ | ⟨_,hl⟩ | ⟨e,_⟩
    ·cases e
    ·have hb:=later_cells hl HB8.out
     obtain⟨w8,h1,h2,h3⟩:=storeO_run (P:=Tryz.prog) 79 W.heap.size _ #[.int .i64 (F:Int),.string (mkS O),.string (mkS T),.string (mkS Bd)] hb size_redir rfl (by simp[Value.oneCell'])
     refine⟨w8,h1,?_⟩
     rw[hC0]
     exact .inr (.inr ⟨rfl,w9,hl,h2,h3⟩)
    ·cases e)
   have HEN:=Lib.hid (show ∀ u w9,C0 2 u w9→∃ w',Later w7 w'∧w9.heap[W.heap.size]?=some (.cells #[.int .i64 (F:Int),.string (mkS O),.string (mkS T),.string (mkS Bd)] 79 (0,0))∧w'.grownBy w9 (some W.heap.size) from fun u w9 hc=>by
    rw[hC0] at hc
    rcases hc with⟨e,_⟩ | ⟨e,_⟩ | ⟨_,e⟩
    ·cases e
    ·cases e
    ·exact e)
   clear hC0
   refine wp_region_seq (by kernel_rfl) [2,9] (C0) [some (.string (mkS [])),some (.string (mkS O)),some (.int .i64 (F:Int)),some (.string (mkS O)),some (.pointer (some ⟨N5,1,none⟩)),some (.string (mkS T)),some (.pointer (some ⟨N5,2,none⟩)),some (.string (mkS Bd)),some (.agg #[.int .i64 (F:Int),.string (mkS O),.string (mkS T),.string (mkS Bd)]),none] (by decide) (by decide) (by kernel_rfl) (by kernel_rfl) (H0.out) ?_ ?_
   ·refine⟨?_,?_,?_,?_,?_,?_,?_,?_,?_,?_,trivial⟩
    ·
     refine OwesS.q rfl fun a w j u hC hb hs=>⟨rfl,?_⟩
     have e3:a.tmps.getD 3 undef=.string (mkS []):=hs.free 3 rfl
     refine ValWp.pure (v:=.string (mkS [])) (fun K' hK'=>?_) ⟨rfl,rfl⟩
     simp only[ValWp,execOp,Act.eval,e3]
     go_simp
     all_goals exact hK'
    ·
     refine OwesS.q rfl fun a w j u hC hb hs=>⟨rfl,?_⟩
     have e4:a.tmps.getD 4 undef=.string (mkS O):=hs.free 4 rfl
     refine ValWp.pure (v:=.string (mkS O)) (fun K' hK'=>?_) ⟨rfl,rfl⟩
     simp only[ValWp,execOp,Act.eval,e4]
     go_simp
     all_goals exact hK'
    ·
     refine OwesS.w rfl fun a w u hC hl hs=>⟨rfl,fun K hK=>?_⟩
     have e18:a.tmps.getD 18 undef=.string (mkS []):=hs.dep 0 _ rfl rfl
     have e19:a.tmps.getD 19 undef=.string (mkS O):=hs.dep 1 _ rfl rfl
     have hw:=H1.out u w hC
     subst hw
     refine wp_of_val (ValWp.call #[.string (mkS []),.string (mkS O)] rfl rfl Tryz.func142 rfl rfl (by simp only[List.map_toArray,List.map_cons,List.map_nil,Act.eval,e18,e19]) ?_)
     refine(HFI.out _).mono ?_
     rintro e9 w9 ⟨rfl,hl9⟩
     exact⟨_,rfl,hK _ w9 rfl (H2.out w9 hl9)⟩
    ·
     refine OwesS.q rfl fun a w j u hC hb hs=>⟨rfl,?_⟩
     have e4:a.tmps.getD 4 undef=.string (mkS O):=hs.free 4 rfl
     refine ValWp.pure (v:=.string (mkS O)) (fun K' hK'=>?_) ⟨rfl,rfl⟩
     simp only[ValWp,execOp,Act.eval,e4]
     go_simp
     all_goals exact hK'
    ·
     refine OwesS.q rfl fun a w j u hC hb hs=>⟨rfl,?_⟩
     have e5:a.tmps.getD 5 undef=.pointer (some ⟨N5,0,none⟩):=hs.free 5 rfl
     refine ValWp.pure (v:=.pointer (some ⟨N5,1,none⟩)) (fun K' hK'=>?_) ⟨rfl,rfl⟩
     simp only[ValWp,execOp,Act.eval,e5]
     go_simp
     all_goals exact hK'
    ·
     refine OwesS.q rfl fun a w j u hC hb hs=>⟨rfl,?_⟩
     have e22:a.tmps.getD 22 undef=.pointer (some ⟨N5,1,none⟩):=hs.dep 4 _ rfl rfl
     have q0:=(HC5.out j u w hC).1
     refine ValWp.pure (v:=.string (mkS T)) (fun K' hK'=>?_) ⟨rfl,rfl⟩
     simp only[ValWp,execOp,Act.eval,e22]
     go_simp
     all_goals exact hK'
    ·
     refine OwesS.q rfl fun a w j u hC hb hs=>⟨rfl,?_⟩
     have e5:a.tmps.getD 5 undef=.pointer (some ⟨N5,0,none⟩):=hs.free 5 rfl
     refine ValWp.pure (v:=.pointer (some ⟨N5,2,none⟩)) (fun K' hK'=>?_) ⟨rfl,rfl⟩
     simp only[ValWp,execOp,Act.eval,e5]
     go_simp
     all_goals exact hK'
    ·
     refine OwesS.q rfl fun a w j u hC hb hs=>⟨rfl,?_⟩
     have e24:a.tmps.getD 24 undef=.pointer (some ⟨N5,2,none⟩):=hs.dep 6 _ rfl rfl
     have q0:=(HC5.out j u w hC).2
     refine ValWp.pure (v:=.string (mkS Bd)) (fun K' hK'=>?_) ⟨rfl,rfl⟩
     simp only[ValWp,execOp,Act.eval,e24]
     go_simp
     all_goals exact hK'
    ·
     refine OwesS.q rfl fun a w j u hC hb hs=>⟨rfl,?_⟩
     have e20:a.tmps.getD 20 undef=.int .i64 (F:Int):=hs.dep 2 _ rfl rfl
     have e21:a.tmps.getD 21 undef=.string (mkS O):=hs.dep 3 _ rfl rfl
     have e23:a.tmps.getD 23 undef=.string (mkS T):=hs.dep 5 _ rfl rfl
     have e25:a.tmps.getD 25 undef=.string (mkS Bd):=hs.dep 7 _ rfl rfl
     refine ValWp.pure (v:=.agg #[.int .i64 (F:Int),.string (mkS O),.string (mkS T),.string (mkS Bd)]) (fun K' hK'=>?_) ⟨rfl,rfl⟩
     simp only[ValWp,execOp,Act.eval,List.map_toArray,List.map_cons,List.map_nil,e20,e21,e23,e25]
     go_simp
     all_goals exact hK'
    ·
     refine OwesS.w rfl fun a w u hC hl hs=>⟨rfl,fun K hK=>?_⟩
     have e2:a.tmps.getD 2 undef=.pointer (some ⟨W.heap.size,0,none⟩):=hs.free 2 rfl
     have e26:a.tmps.getD 26 undef=.agg #[.int .i64 (F:Int),.string (mkS O),.string (mkS T),.string (mkS Bd)]:=hs.dep 8 _ rfl rfl
     obtain⟨w9,hrun,h9⟩:=HST.out u w hC
     exact wp_of_val (ValWp.storeR rfl e2 e26 hrun (hK _ _ trivial h9))
   ·intro a w u hC hl hd hsz hfree hs
    obtain⟨z0,u1,z2,u3,u4,u5,u6,u7,u8,u9,u10,u11,u12,u13,u14,u15,u16,u17,u18,u19,u20,u21,u22,u23,u24,u25,u26,hal⟩:=lets a 27 0
    obtain rfl:=hal.on (v:=.pointer (some ⟨g,0,none⟩)) 0 (hfree 0 rfl) rfl
    obtain rfl:=hal.on (v:=.pointer (some ⟨W.heap.size,0,none⟩)) 2 (hfree 2 rfl) rfl
    have hlit:=fun h=>act_lit hd h hal
    rw[hlit hsz]
    clear hlit hal hd hsz hfree hs
    obtain⟨w',hl',hb',hg'⟩:=HEN.out u w hC
    go_wp2
    refine bodyPost_ret (results_redir rfl _ _ W.heap.size _ (0,0) rfl hb' rfl) rfl ?_
    refine⟨rfl,?_,(HF7.out.thenLater hl').new hg' (Nat.le_refl _)⟩
    exact((HM7.out.later hl').other hg' (.inr (by simp)) (fun e=>by have:=HLO.out.1 _ e;omega) (fun e=>by have:=HLO.out.2;omega)).less HCX.out
end
end Pz
end Go.Proofs.YtkkchkkpnlnbgaaGreatDoor
namespace Go.Proofs.YtkkchkkpnlnbgaaGreatDoor
open Go.RowKit Go.Maps
open Lx (Tok nl)
theorem PMem.few {W:World} {X:Nat→Prop} {g:Nat} {C:Ctx} {σ:Sx.St} (h:PMem W X g C σ):σ.r.length≤5000:=by
 obtain⟨p,vn,nd,h⟩:=h
 have:=h.len
 have:=h.big
 omega
theorem PMem.grew {w ws w':World} {X:Nat→Prop} {g:Nat} {C:Ctx} {σ:Sx.St} {v v':Value} {n:Nat} {xs:List Value} {e:TypeId} {size:Nat} (h:PMem w (plus X v.ownBlock.toList) g C σ) (hc:CtxX X C) (hls:Later w ws) (hown:ws.ownsRow 0 e size v n xs) (he:e≠63) (hg:ws.grownBy w' v.ownBlock) (hm:v'.ownBlock=v.ownBlock∨∃ k,v'.ownBlock=some k∧w.heap.size≤k):PMem w' (plus X v'.ownBlock.toList) g C σ:=by
 have key:∀ l:List Nat,(∀ b∈l,w.heap.size≤b)→PMem w' (plus (plus X v.ownBlock.toList) l) g C σ:=fun l hl=>by
  have h1:=(h.more l hl).later hls
  cases e1:v.ownBlock with
  | none=>
   rw[e1] at hg h1
   exact h1.later ⟨hg.os,hg.tape,hg.output,hg.size,fun k hk=>hg.block k hk (by nofun)⟩
  | some b=>
   obtain⟨cs,hb⟩:=own_type hown e1
   rw[e1] at hg h1
   exact h1.otherT hg (.inl (.inr (by simp))) hb he
 rcases hm with hm | ⟨k,hm,hk⟩
 ·refine(key [] (by simp)).sub (fun b hb=>?_) (hc.more _)
  rw[hm] at hb
  exact .inl hb
 ·refine(key [k] (by simp;omega)).sub (fun b hb=>?_) (hc.more _)
  rw[hm] at hb
  rcases hb with hb | hb
  ·exact .inl (.inl hb)
  ·exact .inr (by simpa using hb)
namespace Pz
section
variable {W:World} {X:Nat→Prop} {g:Nat} {C:Ctx} {σ:Sx.St}
theorem words_v (h:PMem W X g C σ) (hXL:XL X W) (hg:Sx.good σ.r=true):Calls Tryz.prog 59 #[.pointer (some ⟨g,0,none⟩)] W fun e W'=>∃ A m c,e=.returned (.slice A m c)∧W'.ownsRow 0 9 1 (.slice A m c) (Sx.wordsL σ.r).1.length ((Sx.wordsL σ.r).1.map sv)∧(∀ b,(Value.slice A m c).ownBlock=some b→W.heap.size≤b)∧PMem W' (plus X (Value.slice A m c).ownBlock.toList) g C { σ with r:=(Sx.wordsL σ.r).2 }∧Fr X W W'∧(Sx.wordsL σ.r).1.length≤5000:=by
 obtain⟨i0,hi,hz0,hz1,hz2⟩:=info_parts info_string3
 have HM:=Lib.hid h
 have HG:=Lib.hid hg
 have HC:=Lib.hid h.ctx
 have HFW:=Lib.hid h.few
 have HXL:=Lib.hid hXL
 have hf0:=fld0
 have hf1:=fld1
 clear h hg hXL
 go_enter Tryz.func59,Tryz.ntmps59
 go_wp2
 go_loopw [3] (fun v wr=>∃ (A:Option Addr) (m c:Nat) (ws:List Lx.L) (r':List Tok),v=.slice A m c∧(Sx.wordsL σ.r).1=ws++(Sx.wordsL r').1∧(Sx.wordsL σ.r).2=(Sx.wordsL r').2∧Sx.good r'=true∧ws.length+r'.length≤5000∧wr.ownsRow 0 9 1 (.slice A m c) (ws.map sv).length (ws.map sv)∧(∀ b,(Value.slice A m c).ownBlock=some b→W.heap.size≤b)∧PMem wr (plus X (Value.slice A m c).ownBlock.toList) g C { σ with r:=r' }∧Fr X W wr) (fun _ wr=>C.TS.length-atP g wr)
 case atStart=>exact⟨none,0,0,[],σ.r,rfl,rfl,rfl,HG.out,by simpa using HFW.out,World.ownsRow_nil _ _ _ _,by simp[Value.ownBlock],HM.out.sub (by intro b hb;rcases hb with hb | hb;exact hb;simp[Value.ownBlock] at hb) (HC.out.more _),Fr.refl _ _⟩
 case round=>
  obtain⟨A,m,c,ws,r',rfl,hw1,hw2,hg',hfw,ho,hnew,hm',hf'⟩:=hrel
  have HW1:=Lib.hid hw1
  have HW2:=Lib.hid hw2
  have HG':=Lib.hid hg'
  have HFW':=Lib.hid hfw
  have HO:=Lib.hid ho
  have HNEW:=Lib.hid hnew
  have HM':=Lib.hid hm'
  have HF':=Lib.hid hf'
  clear hw1 hw2 hg' hfw ho hnew hm' hf'
  obtain⟨t,r,hr⟩:∃ t r,r'=t::r:=by cases e:r' with
   | nil=>exact absurd e (Sx.good_ne HG'.out)
   | cons t r=>exact⟨t,r,rfl⟩
  subst hr
  have hhd:Sx.hd { σ with r:=t::r }=t:=rfl
  have HP:=Lib.hid (peek_v HM'.out (by simp))
  rw[hhd] at HP
  by_cases hk:t.kind=1
  ·have HK:=Lib.hid (show (t.kind:Int)=1 by omega)
   have HWL:=Lib.hid (show Sx.wordsL (t::r)=(t.text::(Sx.wordsL r).1,(Sx.wordsL r).2) by simp only[Sx.wordsL,if_pos hk])
   have HGR:=Lib.hid (Sx.good_tail HG'.out (.inr (by rw[hk];decide)))
   have HT:=Lib.hid (show tcs C.N t=#[.int .i64 (t.kind:Int),.string (mkS t.text),.string (mkS t.body),.int .i64 ((1+C.N-t.left:Nat):Int)] from rfl)
   clear hk hhd
   go_wp2_with (first
    |(go_at_call 29;(with_reducible refine HP.out.mono ?_);rintro e w1 ⟨rfl,hl1⟩;have HL1:=Lib.hid hl1;clear hl1;unfold tcs;rw[HK.out])
    |(go_at_call 54;(with_reducible refine(next_v (HM'.out.later HL1.out) (by simp)).mono ?_);rintro e w2 ⟨rfl,hm2,hf2⟩;have HM2:=Lib.hid hm2;have HF2:=Lib.hid ((Fr.later HL1.out).trans hf2);clear hm2 hf2;rw[show Sx.hd { σ with r:=t::r }=t from rfl,HT.out])
    |(at_builtin;refine wpList_app1 _ (.string (mkS t.text)) rfl (.tmp 8) (.tmp 12) _ rfl 0 9 i0 (.string ⟨#[]⟩) 16 Tryz.underlying33 hi hz0 hz1 hz2 rfl rfl (.slice A m c) (ws.map sv) rfl (HF2.out.row HO.out (fun i e=>.inr (by simp[e]))) rfl ?hby ?hle (Nat.zero_le _) ?_;(case hby=>have:=HFW'.out;rw[List.length_map];simp at this;omega);(case hle=>have:=HFW'.out;rw[List.length_map];simp at this;omega);intro v2 w3 hg3;obtain⟨A2,k2,e2,_⟩:=own_any hg3.own;rw[e2] at hg3⊢;have HG3:=Lib.hid hg3;clear hg3 e2))
   have ho3:=HG3.out.own
   have HM3:=Lib.hid (PMem.grew HM2.out HC.out (Later.refl _) (HF2.out.row HO.out (fun i e=>.inr (by simp[e]))) (by decide) HG3.out.grown HG3.out.moved)
   have HN3:=Lib.hid (show ∀ b,(Value.slice A2 (ws.map sv++[Value.string (mkS t.text)]).length k2).ownBlock=some b→W.heap.size≤b from fun b e=>by
    rcases HG3.out.moved with h1 | ⟨k,h1,h2⟩
    ·exact HNEW.out b (h1.symm.trans e)
    ·rw[h1] at e
     injection e with e
     have:=HF'.out.size
     have:=HF2.out.size
     omega)
   have HF3:=Lib.hid (show Fr X W w3 from(HF'.out.trans HF2.out.less).trans (Fr.grown HG3.out.grown fun x e hx=>by
    have h1:=HNEW.out x e
    have h2:=HXL.out x hx
    omega))
   have hl3:(ws.map sv++[Value.string (mkS t.text)]).length=ws.length+1:=by simp
   have hl4:ws.map sv++[Value.string (mkS t.text)]=(ws++[t.text]).map sv:=by simp[sv]
   rw[hl3] at HM3 HN3 ho3
   rw[hl4] at ho3
   have HO3:=Lib.hid ho3
   clear ho3 hl3 hl4 HG3
   go_roundw
   case rel=>
    refine⟨A2,ws.length+1,k2,ws++[t.text],r,rfl,?_,?_,HGR.out,?_,?_,HN3.out,HM3.out,HF3.out⟩
    ·rw[HW1.out,HWL.out];simp
    ·rw[HW2.out,HWL.out]
    ·have:=HFW'.out;simp at this⊢;omega
    ·rw[show ((ws++[t.text]).map sv).length=ws.length+1 by simp];exact HO3.out
   case measure=>
    rw[HM3.out.left,HM'.out.left]
    simp[Sx.go]
  ·have HK:=Lib.hid (show ((t.kind:Int)==1)=false by simp;omega)
   have hk9:=HK.out
   have HWL:=Lib.hid (show Sx.wordsL (t::r)=([],t::r) by simp only[Sx.wordsL,if_neg hk])
   clear hk hhd
   go_wp2_with (first
    |(go_at_call 29;(with_reducible refine HP.out.mono ?_);rintro e w1 ⟨rfl,hl1⟩;have HL1:=Lib.hid hl1;clear hl1;unfold tcs))
   go_ret
   have hw1:=HW1.out
   have hw2:=HW2.out
   rw[HWL.out] at hw1 hw2
   simp only[List.append_nil] at hw1
   rw[hw1,hw2]
   have ho:=own_below HO.out HL1.out
   rw[List.length_map] at ho
   exact⟨A,m,c,rfl,ho,HNEW.out,HM'.out.later HL1.out,HF'.out.thenLater HL1.out,by have:=HFW'.out;simp at this;omega⟩
end
end Pz
end Go.Proofs.YtkkchkkpnlnbgaaGreatDoor
namespace Go.Proofs.YtkkchkkpnlnbgaaGreatDoor
open Go.RowKit Go.Maps
open Lx (Tok nl)
structure Fit (σ:Sx.St):Prop where
 good:Sx.good σ.r=true
 pot:σ.ns.length+8*σ.r.length≤60000
 d:σ.d≤40
theorem Fit.wk {σ σ':Sx.St} {k:Nat} {ks:List Nat} (h:Fit σ) (w:Sx.Wk k σ σ' ks) (hk:1≤k):Fit σ':=⟨w.gd,by have:=h.pot;have:=w.pot;omega,by rw[w.d];exact h.d⟩
theorem Fit.ne {σ:Sx.St} (h:Fit σ):σ.r≠[]:=Sx.good_ne h.good
theorem Fit.nodes {σ:Sx.St} (h:Fit σ):σ.ns.length≤100000:=by have:=h.pot;omega
def natV (i:Nat):Value:=.int .i64 (i:Int)
structure Lev (g:Nat) (C:Ctx) (n:Nat) (a:Sx.M Nat):Prop where
 un:Sx.UnA a
 calls:∀ (W:World) (X:Nat→Prop) (σ:Sx.St),PMem W X g C σ→XL X W→Fit σ→σ.r.length+1<n→Calls Tryz.prog 28 #[.pointer (some ⟨g,0,none⟩)] W (StR X W g C (a σ) natV)
def NodeR (X:Nat→Prop) (W:World) (g:Nat) (C:Ctx) (x:Except Sx.Er (Sx.Node×Sx.St)) (lv:Sx.Node→Value→Prop) (e:Ending) (W':World):Prop:=
 match x with
 | .ok (nd,σ')=>∃ v l,e=.returned (.agg (ncs nd v l).toArray)∧lv nd l∧Nest W' nd v∧(∀ b∈blks v,W.heap.size≤b)∧PMem W' (plus X (blks v)) g C σ'∧Fr X W W'
 | .error (n,k)=>e=.panicked (Pz.pflt n (lnv C.N k))∧Fr X W W'
theorem StR.cases {α:Type} {X:Nat→Prop} {W W':World} {g:Nat} {C:Ctx} {x:Except Sx.Er (α×Sx.St)} {val:α→Value} {e:Ending} {P:Prop} (hh:StR X W g C x val e W') (hbad:∀ nn kk,x=.error (nn,kk)→e=.panicked (Pz.pflt nn (lnv C.N kk))→Fr X W W'→P) (hok:∀ a σ',x=.ok (a,σ')→e=.returned (val a)→PMem W' X g C σ'→Fr X W W'→P):P:=by
 match x,hh with
 | .error (nn,kk),hh=>exact hbad nn kk rfl hh.1 hh.2
 | .ok (a,σ'),hh=>exact hok a σ' rfl hh.1 hh.2.1 hh.2.2
theorem NodeR.cases {X:Nat→Prop} {W W':World} {g:Nat} {C:Ctx} {x:Except Sx.Er (Sx.Node×Sx.St)} {lv:Sx.Node→Value→Prop} {e:Ending} {P:Prop} (hh:NodeR X W g C x lv e W') (hbad:∀ nn kk,x=.error (nn,kk)→e=.panicked (Pz.pflt nn (lnv C.N kk))→Fr X W W'→P) (hok:∀ nd σ' v l,x=.ok (nd,σ')→e=.returned (.agg (ncs nd v l).toArray)→lv nd l→Nest W' nd v→(∀ b∈blks v,W.heap.size≤b)→PMem W' (plus X (blks v)) g C σ'→Fr X W W'→P):P:=by
 match x,hh with
 | .error (nn,kk),hh=>exact hbad nn kk rfl hh.1 hh.2
 | .ok (nd,σ'),hh=>obtain⟨v,l,h1,h2,h3,h4,h5,h6⟩:=hh;exact hok nd σ' v l rfl h1 h2 h3 h4 h5 h6
def anyLn (_:Sx.Node) (l:Value):Prop:=∃ k:Int,l=.int .i64 k
def nilV:Value:=.slice none 0 0
def v0:Vals:=⟨nilV,nilV,nilV⟩
theorem blks_v0:blks v0=[]:=rfl
theorem Nest.v0 (W:World) (n:Sx.Node) (h1:n.words=[]) (h2:n.redirs=[]) (h3:n.kids=[]):Nest W n v0:=
 ⟨by rw[h1];exact World.ownsRow_nil _ _ _ _,by rw[h2];exact World.ownsRow_nil _ _ _ _,by rw[h3];exact World.ownsRow_nil _ _ _ _⟩
section
variable {W0 w w1 w2:World} {X:Nat→Prop} {g:Nat} {C:Ctx} {h:Nat} {ln:Value} {n:Sx.Node} {v:Vals} {σ:Sx.St}
theorem PLoc.made (hm:PMem w (plus X (blks v)) g C σ) (hc:CtxX X C) (hf:Fr X W0 w) (hn:Nest w n v) (hb:∀ b∈blks v,W0.heap.size≤b) (hl:Later w w1) (hg:w1.grownBy w2 (some w.heap.size)) (hbox:w2.heap[w.heap.size]?=some (.cells (ncs n v ln).toArray 37 (0,0))):PLoc W0 X g C w.heap.size ln n v σ w2:=by
 have hl2:Later w w2:=later_of_new hl hg (Nat.le_refl _)
 refine⟨?_,hbox,hn.later hl2,fun b hb'=>?_,hf.thenLater hl2⟩
 ·have h1:=((hm.more [w.heap.size] (by simp)).later hl).other hg (.inr (by simp)) (fun e=>by have:=hm.low.1 _ e;omega) (fun e=>by have:=hm.low.2;omega)
  refine h1.sub (fun b hb'=>?_) (hc.more _)
  rcases hb' with hb' | hb'
  ·exact .inl (.inl hb')
  ·rcases List.mem_cons.1 hb' with rfl | hb'
   ·exact .inr (by simp)
   ·exact .inl (.inr hb')
 ·rcases List.mem_cons.1 hb' with rfl | hb'
  ·exact hf.size
  ·exact hb b hb'
theorem PLoc.addable (hp:PLoc W0 X g C h ln n v σ w) (hc:CtxX X C):PMem w (plus X (blks v)) g C σ:=hp.mem.sub (fun b hb=>by
 rcases hb with hb | hb
 ·exact .inl hb
 ·exact .inr (List.mem_cons_of_mem _ hb)) (hc.more _)
theorem PLoc.low (hp:PLoc W0 X g C h ln n v σ w):h<w.heap.size:=lt_of_block hp.box
theorem PLoc.xl (hp:PLoc W0 X g C h ln n v σ w) (hX:XL X W0):XL (plus X (h::blks v)) w:=fun b hb=>by
 rcases hb with hb | hb
 ·exact Nat.lt_of_lt_of_le (hX b hb) hp.fr.size
 ·rcases List.mem_cons.1 hb with rfl | hb
  ·exact hp.low
  ·exact hp.nest.lt hb
theorem XL.plus {l:List Nat} (hX:XL X w) (hl:∀ b∈l,b<w.heap.size):XL (plus X l) w:=fun b hb=>by
 rcases hb with hb | hb
 ·exact hX b hb
 ·exact hl b hb
theorem own_lit (w:World) (e:TypeId) (l:List Value) (h:l.length≤5000):(w.alloc (.cells l.toArray e)).ownsRow 0 e 1 (.slice (some ⟨w.heap.size,0,none⟩) l.length l.length) l.length l:=
 ⟨by simp,.inr ⟨w.heap.size,l.length,l.toArray,rfl,Nat.zero_le _,heap_alloc_new w _,Nat.le_refl _,by unfold maxLen;omega,by simp,by simp⟩⟩
end
end Go.Proofs.YtkkchkkpnlnbgaaGreatDoor
