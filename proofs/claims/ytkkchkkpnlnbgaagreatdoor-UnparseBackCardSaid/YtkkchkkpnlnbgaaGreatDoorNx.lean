/- The parser: compound. No premises. -/
import Derived.Test.YtkkchkkpnlnbgaaGreatDoorNw
set_option maxRecDepth 100000
set_option maxHeartbeats 3200000
namespace Go.Proofs.YtkkchkkpnlnbgaaGreatDoor
open Go.RowKit Go.Maps
open Lx (Tok nl)
namespace Sx
theorem branchF_redirs (a:M Nat) (m:Nat) {s s':St} {nd:Node} (h:branchF a m s=.ok (nd,s')):nd.redirs=[]:=by
 cases m with
 | zero=>cases h
 | succ m=>
  unfold branchF at h
  obtain⟨i,s1,_,h⟩:=bnd_inv h
  obtain⟨_,s2,_,h⟩:=bnd_inv h
  obtain⟨j,s3,_,h⟩:=bnd_inv h
  by_cases e:isT kELIF s3=true
  ·simp only[if_pos e] at h
   obtain⟨_,s4,_,h⟩:=bnd_inv h
   obtain⟨k,s5,_,h⟩:=bnd_inv h
   cases h;rfl
  ·simp only[if_neg e] at h
   obtain⟨b,s4,_,h⟩:=bnd_inv h
   cases b with
   | true=>simp only[if_true] at h;obtain⟨k,s5,_,h⟩:=bnd_inv h;cases h;rfl
   | false=>simp only[Bool.false_eq_true,if_false] at h;cases h;rfl
theorem each2_redirs (a:M Nat) {t:L} {f:Bool} {ws:List L} {s s':St} {nd:Node} (h:each2 a t f ws s=.ok (nd,s')):nd.redirs=[]:=by
 unfold each2 at h
 obtain⟨_,s1,_,h⟩:=bnd_inv h
 obtain⟨i,s2,_,h⟩:=bnd_inv h
 cases h;rfl
theorem read_redirs (a:M Nat) (n:Nat) {t:L} {s s':St} {nd:Node} (h:read a n t s=.ok (nd,s')):nd.redirs=[]:=by
 unfold read at h
 split at h
 ·unfold group at h
  obtain⟨_,s1,_,h⟩:=bnd_inv h
  obtain⟨_,s1,_,h⟩:=bnd_inv h
  obtain⟨_,s1,_,h⟩:=bnd_inv h
  cases h;rfl
 split at h
 ·unfold sub at h
  obtain⟨_,s1,_,h⟩:=bnd_inv h
  obtain⟨_,s1,_,h⟩:=bnd_inv h
  obtain⟨_,s1,_,h⟩:=bnd_inv h
  cases h;rfl
 split at h
 ·unfold choice at h
  obtain⟨nd1,s1,h1,h⟩:=bnd_inv h
  obtain⟨_,s2,_,h⟩:=bnd_inv h
  cases h;exact branchF_redirs a n h1
 have hloop:∀ {s s':St} {nd:Node},loop a s=.ok (nd,s')→nd.redirs=[]:=fun h=>by
  unfold loop at h
  obtain⟨_,s1,_,h⟩:=bnd_inv h
  obtain⟨_,s1,_,h⟩:=bnd_inv h
  cases h;rfl
 split at h
 ·exact hloop h
 split at h
 ·exact hloop h
 split at h
 ·unfold each at h
  obtain⟨_,s1,_,h⟩:=bnd_inv h
  obtain⟨_,s1,_,h⟩:=bnd_inv h
  obtain⟨b,s1,_,h⟩:=bnd_inv h
  cases b with
  | true=>rw[if_pos rfl] at h;exact each2_redirs a h
  | false=>
   rw[if_neg (by decide)] at h
   obtain⟨_,s1,_,h⟩:=bnd_inv h
   obtain⟨c,s1,_,h⟩:=bnd_inv h
   cases c with
   | true=>
    rw[if_pos rfl] at h
    obtain⟨_,s1,_,h⟩:=bnd_inv h
    obtain⟨p,s1,_,h⟩:=bnd_inv h
    cases p with
    | true=>rw[if_pos rfl] at h;exact each2_redirs a h
    | false=>rw[if_neg (by decide)] at h;cases h
   | false=>rw[if_neg (by decide)] at h;exact each2_redirs a h
 ·unfold mtch at h
  obtain⟨_,s1,_,h⟩:=bnd_inv h
  obtain⟨_,s1,_,h⟩:=bnd_inv h
  obtain⟨_,s1,_,h⟩:=bnd_inv h
  obtain⟨_,s1,_,h⟩:=bnd_inv h
  obtain⟨_,s1,_,h⟩:=bnd_inv h
  obtain⟨_,s1,_,h⟩:=bnd_inv h
  obtain⟨_,s1,_,h⟩:=bnd_inv h
  cases h;rfl
end Sx
namespace Pz
section
variable {W:World} {X:Nat→Prop} {g:Nat} {C:Ctx} {σ:Sx.St} {n:Nat} {a:Sx.M Nat}
theorem read_v (hL:Lev g C n a) (T:Lx.L) (hT:Sx.isComp T=true):∃ f,compT T=some (fnS f)∧(∀ args w,(callFunc f args).run Tryz.prog w=.ok (.enter f args) w)∧∀ (W:World) (X:Nat→Prop) (σ:Sx.St),PMem W X g C σ→XL X W→Fit σ→σ.r.length<n→(Sx.hd σ).text=T→Calls Tryz.prog f #[.pointer (some ⟨g,0,none⟩)] W (NodeR X W g C (Sx.read a n T σ) anyLn):=by
 have hne:∀ σ:Sx.St,(Sx.hd σ).text=T→(Sx.hd σ).text≠[]:=fun σ e=>by rw[e];exact Sx.isComp_ne hT
 unfold compT
 by_cases h1:T=[123]
 ·refine⟨22,by rw[if_pos h1],fun _ _=>run_enter Tryz.func22 rfl rfl _ _,fun W X σ h hX hF hn ht=>?_⟩
  rw[show Sx.read a n T σ=Sx.group a σ by unfold Sx.read;rw[if_pos h1]]
  exact group_v hL h hX hF hn
 by_cases h2:T=[40]
 ·refine⟨23,by rw[if_neg h1,if_pos h2],fun _ _=>run_enter Tryz.func23 rfl rfl _ _,fun W X σ h hX hF hn ht=>?_⟩
  rw[show Sx.read a n T σ=Sx.sub a σ by unfold Sx.read;rw[if_neg h1,if_pos h2]]
  exact sub_v hL h hX hF hn
 by_cases h3:T=Sx.kIF
 ·refine⟨24,by rw[if_neg h1,if_neg h2,if_pos h3],fun _ _=>run_enter Tryz.func24 rfl rfl _ _,fun W X σ h hX hF hn ht=>?_⟩
  rw[show Sx.read a n T σ=Sx.choice a n σ by unfold Sx.read;rw[if_neg h1,if_neg h2,if_pos h3]]
  exact choice_v hL h hX hF hn (hne σ ht)
 by_cases h4:T=Sx.kWHILE
 ·refine⟨25,by rw[if_neg h1,if_neg h2,if_neg h3,if_pos h4],fun _ _=>run_enter Tryz.func25 rfl rfl _ _,fun W X σ h hX hF hn ht=>?_⟩
  rw[show Sx.read a n T σ=Sx.loop a σ by unfold Sx.read;rw[if_neg h1,if_neg h2,if_neg h3,if_pos h4]]
  exact loop_v hL h hX hF hn (hne σ ht)
 by_cases h5:T=Sx.kUNTIL
 ·refine⟨25,by rw[if_neg h1,if_neg h2,if_neg h3,if_neg h4,if_pos h5],fun _ _=>run_enter Tryz.func25 rfl rfl _ _,fun W X σ h hX hF hn ht=>?_⟩
  rw[show Sx.read a n T σ=Sx.loop a σ by unfold Sx.read;rw[if_neg h1,if_neg h2,if_neg h3,if_neg h4,if_pos h5]]
  exact loop_v hL h hX hF hn (hne σ ht)
 by_cases h6:T=Sx.kFOR
 ·refine⟨26,by rw[if_neg h1,if_neg h2,if_neg h3,if_neg h4,if_neg h5,if_pos h6],fun _ _=>run_enter Tryz.func26 rfl rfl _ _,fun W X σ h hX hF hn ht=>?_⟩
  rw[show Sx.read a n T σ=Sx.each a σ by unfold Sx.read;rw[if_neg h1,if_neg h2,if_neg h3,if_neg h4,if_neg h5,if_pos h6]]
  exact each_v hL h hX hF hn
 by_cases h7:T=Sx.kCASE
 ·refine⟨27,by rw[if_neg h1,if_neg h2,if_neg h3,if_neg h4,if_neg h5,if_neg h6,if_pos h7],fun _ _=>run_enter Tryz.func27 rfl rfl _ _,fun W X σ h hX hF hn ht=>?_⟩
  rw[show Sx.read a n T σ=Sx.mtch a n σ by unfold Sx.read;rw[if_neg h1,if_neg h2,if_neg h3,if_neg h4,if_neg h5,if_neg h6]]
  exact match_v hL h hX hF hn
 exfalso
 have:=compT_isSome T
 rw[hT] at this
 unfold compT at this
 rw[if_neg h1,if_neg h2,if_neg h3,if_neg h4,if_neg h5,if_neg h6,if_neg h7] at this
 cases this
theorem compound_v (hL:Lev g C n a) (h:PMem W X g C σ) (hX:XL X W) (hF:Fit σ) (hn:σ.r.length<n):Calls Tryz.prog 131 #[.pointer (some ⟨g,0,none⟩)] W (StR X W g C (Sx.compound a n σ) natV):=by
 have HPK:=Lib.hid (peek_v (h.later (Later.drew W)) hF.ne)
 have hsm:=small_v h _ (hd_mem hF.ne)
 obtain⟨T,hT⟩:∃ T,T=(Sx.hd σ).text:=⟨_,rfl⟩
 rw[←hT] at hsm
 have HFD:=Lib.hid (show ∀ w,(Instr.field 63 (.agg (tcs C.N (Sx.hd σ))) 1).run Tryz.prog w=.ok (.string (mkS T)) w from fun w=>by rw[hT];exact fld1 _ _ _ _ w)
 obtain⟨TK,hTK⟩:∃ TK,TK=tcs C.N (Sx.hd σ):=⟨_,rfl⟩
 rw[←hTK] at HPK HFD
 have HM:=Lib.hid h
 have HL:=Lib.hid hL
 have HN:=Lib.hid hn
 have HF:=Lib.hid hF
 have HXB:=Lib.hid hX
 have HC:=Lib.hid h.ctx
 obtain⟨p,vn,nd0,h⟩:=h
 have HC4:=Lib.hid (show ∀ w,Later W w→w.cell? ⟨g,4,none⟩=some (.map (some C.ms)) from fun w hw=>(h.later hw).facts.1.2.2.2.2)
 have HLK:=Lib.hid (show ∀ w,Later W w→(Instr.lookup 46 (.map (some C.ms)) (.string (mkS T)) true).run Tryz.prog w=.ok (.tuple #[(compT T).getD .nilFunc,.bool (compT T).isSome]) w from fun w hw=>(h.later hw).tab.look T hsm)
 obtain⟨C0,hC0⟩:∃ C0:Nat→Value→World→Prop,C0=fun j _ w=>(j=0∧w=W.drew)∨(j=1∧Later W w):=⟨_,rfl⟩
 have HLT:=Lib.hid (show ∀ j u w,C0 j u w→Later W w from fun j u w hc=>by
  rw[hC0] at hc
  rcases hc with⟨_,rfl⟩ | ⟨_,hc⟩
  ·exact Later.drew _
  ·exact hc)
 have H0:=Lib.hid (show C0 0 undef W.drew by rw[hC0];exact .inl ⟨rfl,rfl⟩)
 have H1:=Lib.hid (show ∀ u w,C0 0 u w→w=W.drew from fun u w hc=>by
  rw[hC0] at hc
  rcases hc with⟨_,e⟩ | ⟨e,_⟩
  ·exact e
  ·cases e)
 have H2:=Lib.hid (show ∀ w,Later W.drew w→C0 1 (.agg TK) w from fun w hl=>by rw[hC0];exact .inr ⟨rfl,(Later.drew W).trans hl⟩)
 have HT:=Lib.hid hT
 clear h hTK hsm hC0 hn hF hX hL hT
 by_cases hcp:Sx.isComp T=true
 ·obtain⟨f,hcf,hent,hcl⟩:=read_v HL.out T hcp
  have HCL:=Lib.hid hcl
  have hun:Sx.compound a n σ=(if σ.d=40 then .error (21,(Sx.hd σ).left) else Sx.bnd (Sx.read a n T) (fun nd s2=>Sx.bnd (Sx.redF n []) (fun rs=>Sx.add { nd with redirs:=rs,left:=(Sx.hd σ).left }) { s2 with d:=s2.d-1 }) { σ with d:=σ.d+1 }):=by
   unfold Sx.compound
   rw[←HT.out,if_pos hcp]
  have HUN:=Lib.hid hun
  clear hcl hcp hun
  have HSM:=Lib.hid (show (compT T).isSome=true by rw[hcf];rfl)
  by_cases hd4:σ.d=40
  ·rw[HUN.out,if_pos hd4]
   have HD:=Lib.hid hd4
   clear hd4 hcf
   go_enter Tryz.func131,Tryz.ntmps131
   go_wp2
   refine wp_region_seq (by kernel_rfl) [5] (C0) [some (.pointer (some ⟨g,0,none⟩)),some (.pointer (some ⟨g,0,none⟩)),some (.pointer (some ⟨g,4,none⟩)),some (.map (some C.ms)),some (.pointer (some ⟨g,0,none⟩)),some (.agg TK),some (.string (mkS T)),some (.tuple #[(compT T).getD .nilFunc,.bool (compT T).isSome]),some (.tuple #[(compT T).getD .nilFunc,.bool (compT T).isSome]),some ((compT T).getD .nilFunc),some (.bool (compT T).isSome),some ((compT T).getD .nilFunc),some (.bool (compT T).isSome)] (by decide) (by decide) (by kernel_rfl) (by kernel_rfl) (H0.out) ?_ ?_
   ·refine⟨?_,?_,?_,?_,?_,?_,?_,?_,?_,?_,?_,?_,?_,trivial⟩
    ·
     refine OwesS.q rfl fun a w j u hC hb hs=>⟨rfl,?_⟩
     have e0:a.tmps.getD 0 undef=.pointer (some ⟨g,0,none⟩):=hs.free 0 rfl
     refine ValWp.pure (v:=.pointer (some ⟨g,0,none⟩)) (fun K' hK'=>?_) ⟨rfl,rfl⟩
     simp only[ValWp,execOp,Act.eval,e0]
     go_simp
     all_goals exact hK'
    ·
     refine OwesS.q rfl fun a w j u hC hb hs=>⟨rfl,?_⟩
     have e8:a.tmps.getD 8 undef=.pointer (some ⟨g,0,none⟩):=hs.dep 0 _ rfl rfl
     refine ValWp.pure (v:=.pointer (some ⟨g,0,none⟩)) (fun K' hK'=>?_) ⟨rfl,rfl⟩
     simp only[ValWp,execOp,Act.eval,e8]
     go_simp
     all_goals exact hK'
    ·
     refine OwesS.q rfl fun a w j u hC hb hs=>⟨rfl,?_⟩
     have e9:a.tmps.getD 9 undef=.pointer (some ⟨g,0,none⟩):=hs.dep 1 _ rfl rfl
     refine ValWp.pure (v:=.pointer (some ⟨g,4,none⟩)) (fun K' hK'=>?_) ⟨rfl,rfl⟩
     simp only[ValWp,execOp,Act.eval,e9]
     go_simp
     all_goals exact hK'
    ·
     refine OwesS.q rfl fun a w j u hC hb hs=>⟨rfl,?_⟩
     have e10:a.tmps.getD 10 undef=.pointer (some ⟨g,4,none⟩):=hs.dep 2 _ rfl rfl
     have q0:=HC4.out w (HLT.out j u w hC)
     refine ValWp.pure (v:=.map (some C.ms)) (fun K' hK'=>?_) ⟨rfl,rfl⟩
     simp only[ValWp,execOp,Act.eval,e10]
     go_simp
     all_goals exact hK'
    ·
     refine OwesS.q rfl fun a w j u hC hb hs=>⟨rfl,?_⟩
     have e0:a.tmps.getD 0 undef=.pointer (some ⟨g,0,none⟩):=hs.free 0 rfl
     refine ValWp.pure (v:=.pointer (some ⟨g,0,none⟩)) (fun K' hK'=>?_) ⟨rfl,rfl⟩
     simp only[ValWp,execOp,Act.eval,e0]
     go_simp
     all_goals exact hK'
    ·
     refine OwesS.w rfl fun a w u hC hl hs=>⟨rfl,fun K hK=>?_⟩
     have e12:a.tmps.getD 12 undef=.pointer (some ⟨g,0,none⟩):=hs.dep 4 _ rfl rfl
     have hw:=H1.out u w hC
     subst hw
     refine wp_of_val (ValWp.call #[.pointer (some ⟨g,0,none⟩)] rfl rfl Tryz.func29 rfl rfl (by simp only[List.map_toArray,List.map_cons,List.map_nil,Act.eval,e12]) ?_)
     refine HPK.out.mono ?_
     rintro e9 w9 ⟨rfl,hl9⟩
     exact⟨_,rfl,hK _ w9 rfl (H2.out w9 hl9)⟩
    ·
     refine OwesS.q rfl fun a w j u hC hb hs=>⟨rfl,?_⟩
     have e13:a.tmps.getD 13 undef=.agg TK:=hs.dep 5 _ rfl rfl
     have q0:=HFD.out w
     refine ValWp.pure (v:=.string (mkS T)) (fun K' hK'=>?_) ⟨rfl,rfl⟩
     simp only[ValWp,execOp,Act.eval,e13]
     go_simp
     all_goals exact hK'
    ·
     refine OwesS.q rfl fun a w j u hC hb hs=>⟨rfl,?_⟩
     have e11:a.tmps.getD 11 undef=.map (some C.ms):=hs.dep 3 _ rfl rfl
     have e14:a.tmps.getD 14 undef=.string (mkS T):=hs.dep 6 _ rfl rfl
     have q0:=HLK.out w (HLT.out j u w hC)
     refine ValWp.pure (v:=.tuple #[(compT T).getD .nilFunc,.bool (compT T).isSome]) (fun K' hK'=>?_) ⟨rfl,rfl⟩
     simp only[ValWp,execOp,Act.eval,e11,e14]
     go_simp
     all_goals exact hK'
    ·
     refine OwesS.q rfl fun a w j u hC hb hs=>⟨rfl,?_⟩
     have e15:a.tmps.getD 15 undef=.tuple #[(compT T).getD .nilFunc,.bool (compT T).isSome]:=hs.dep 7 _ rfl rfl
     refine ValWp.pure (v:=.tuple #[(compT T).getD .nilFunc,.bool (compT T).isSome]) (fun K' hK'=>?_) ⟨rfl,rfl⟩
     simp only[ValWp,execOp,Act.eval,e15]
     go_simp
     all_goals exact hK'
    ·
     refine OwesS.q rfl fun a w j u hC hb hs=>⟨rfl,?_⟩
     have e7:a.tmps.getD 7 undef=.tuple #[(compT T).getD .nilFunc,.bool (compT T).isSome]:=hs.dep 8 _ rfl rfl
     refine ValWp.pure (v:=(compT T).getD .nilFunc) (fun K' hK'=>?_) ⟨rfl,rfl⟩
     simp only[ValWp,execOp,Act.eval,e7]
     go_simp
     all_goals exact hK'
    ·
     refine OwesS.q rfl fun a w j u hC hb hs=>⟨rfl,?_⟩
     have e7:a.tmps.getD 7 undef=.tuple #[(compT T).getD .nilFunc,.bool (compT T).isSome]:=hs.dep 8 _ rfl rfl
     refine ValWp.pure (v:=.bool (compT T).isSome) (fun K' hK'=>?_) ⟨rfl,rfl⟩
     simp only[ValWp,execOp,Act.eval,e7]
     go_simp
     all_goals exact hK'
    ·
     refine OwesS.q rfl fun a w j u hC hb hs=>⟨rfl,?_⟩
     have e16:a.tmps.getD 16 undef=(compT T).getD .nilFunc:=hs.dep 9 _ rfl rfl
     refine ValWp.pure (v:=(compT T).getD .nilFunc) (fun K' hK'=>?_) ⟨rfl,rfl⟩
     simp only[ValWp,execOp,Act.eval,e16]
     go_simp
     all_goals exact hK'
    ·
     refine OwesS.q rfl fun a w j u hC hb hs=>⟨rfl,?_⟩
     have e17:a.tmps.getD 17 undef=.bool (compT T).isSome:=hs.dep 10 _ rfl rfl
     refine ValWp.pure (v:=.bool (compT T).isSome) (fun K' hK'=>?_) ⟨rfl,rfl⟩
     simp only[ValWp,execOp,Act.eval,e17]
     go_simp
     all_goals exact hK'
   ·intro a w u hC hl hd hsz hfree hs
    obtain⟨z0,u1,z2,z3,z4,u5,u6,u7,u8,u9,u10,u11,u12,u13,u14,u15,u16,u17,u18,u19,u20,u21,u22,u23,u24,u25,u26,u27,u28,u29,u30,u31,u32,u33,u34,u35,u36,u37,u38,u39,u40,u41,u42,u43,u44,hal⟩:=lets a 45 0
    obtain rfl:=hal.on (v:=.pointer (some ⟨g,0,none⟩)) 0 (hfree 0 rfl) rfl
    obtain rfl:=hal.on (v:=.int .i64 0) 2 (hfree 2 rfl) rfl
    obtain rfl:=hal.on (v:=(compT T).getD .nilFunc) 3 (hs 11 _ rfl) rfl
    obtain rfl:=hal.on (v:=.bool (compT T).isSome) 4 (hs 12 _ rfl) rfl
    have hlit:=fun h=>act_lit hd h hal
    rw[hlit hsz]
    have hl9:=HLT.out _ u w hC
    clear hlit hal hd hsz hfree hs
    have HL9:=Lib.hid hl9
    clear hl9 hC hl
    rw[HSM.out]
    go_wp2_with (first
     |(go_at_call 135;(with_reducible refine(enter_bad (HM.out.later HL9.out) HF.out.ne HD.out).mono ?_);rintro e wz ⟨rfl,hlz⟩))
    exact bodyPost_panic rfl ⟨rfl,Fr.later (HL9.out.trans hlz)⟩
  ·have HD:=Lib.hid (show σ.d<40 by have:=HF.out.d;omega)
   rw[HUN.out,if_neg hd4]
   have HCG:=Lib.hid (show (compT T).getD .nilFunc=Value.func (.func f) #[] #[] by rw[hcf];rfl)
   have HNE:=Lib.hid (show T≠[] from fun e=>by rw[e] at hcf;cases hcf)
   clear hd4 hcf HUN
   go_enter Tryz.func131,Tryz.ntmps131
   go_wp2
   refine wp_region_seq (by kernel_rfl) [5] (C0) [some (.pointer (some ⟨g,0,none⟩)),some (.pointer (some ⟨g,0,none⟩)),some (.pointer (some ⟨g,4,none⟩)),some (.map (some C.ms)),some (.pointer (some ⟨g,0,none⟩)),some (.agg TK),some (.string (mkS T)),some (.tuple #[(compT T).getD .nilFunc,.bool (compT T).isSome]),some (.tuple #[(compT T).getD .nilFunc,.bool (compT T).isSome]),some ((compT T).getD .nilFunc),some (.bool (compT T).isSome),some ((compT T).getD .nilFunc),some (.bool (compT T).isSome)] (by decide) (by decide) (by kernel_rfl) (by kernel_rfl) (H0.out) ?_ ?_
   ·refine⟨?_,?_,?_,?_,?_,?_,?_,?_,?_,?_,?_,?_,?_,trivial⟩
    ·
     refine OwesS.q rfl fun a w j u hC hb hs=>⟨rfl,?_⟩
     have e0:a.tmps.getD 0 undef=.pointer (some ⟨g,0,none⟩):=hs.free 0 rfl
     refine ValWp.pure (v:=.pointer (some ⟨g,0,none⟩)) (fun K' hK'=>?_) ⟨rfl,rfl⟩
     simp only[ValWp,execOp,Act.eval,e0]
     go_simp
     all_goals exact hK'
    ·
     refine OwesS.q rfl fun a w j u hC hb hs=>⟨rfl,?_⟩
     have e8:a.tmps.getD 8 undef=.pointer (some ⟨g,0,none⟩):=hs.dep 0 _ rfl rfl
     refine ValWp.pure (v:=.pointer (some ⟨g,0,none⟩)) (fun K' hK'=>?_) ⟨rfl,rfl⟩
     simp only[ValWp,execOp,Act.eval,e8]
     go_simp
     all_goals exact hK'
    ·
     refine OwesS.q rfl fun a w j u hC hb hs=>⟨rfl,?_⟩
     have e9:a.tmps.getD 9 undef=.pointer (some ⟨g,0,none⟩):=hs.dep 1 _ rfl rfl
     refine ValWp.pure (v:=.pointer (some ⟨g,4,none⟩)) (fun K' hK'=>?_) ⟨rfl,rfl⟩
     simp only[ValWp,execOp,Act.eval,e9]
     go_simp
     all_goals exact hK'
    ·
     refine OwesS.q rfl fun a w j u hC hb hs=>⟨rfl,?_⟩
     have e10:a.tmps.getD 10 undef=.pointer (some ⟨g,4,none⟩):=hs.dep 2 _ rfl rfl
     have q0:=HC4.out w (HLT.out j u w hC)
     refine ValWp.pure (v:=.map (some C.ms)) (fun K' hK'=>?_) ⟨rfl,rfl⟩
     simp only[ValWp,execOp,Act.eval,e10]
     go_simp
     all_goals exact hK'
    ·
     refine OwesS.q rfl fun a w j u hC hb hs=>⟨rfl,?_⟩
     have e0:a.tmps.getD 0 undef=.pointer (some ⟨g,0,none⟩):=hs.free 0 rfl
     refine ValWp.pure (v:=.pointer (some ⟨g,0,none⟩)) (fun K' hK'=>?_) ⟨rfl,rfl⟩
     simp only[ValWp,execOp,Act.eval,e0]
     go_simp
     all_goals exact hK'
    ·
     refine OwesS.w rfl fun a w u hC hl hs=>⟨rfl,fun K hK=>?_⟩
     have e12:a.tmps.getD 12 undef=.pointer (some ⟨g,0,none⟩):=hs.dep 4 _ rfl rfl
     have hw:=H1.out u w hC
     subst hw
     refine wp_of_val (ValWp.call #[.pointer (some ⟨g,0,none⟩)] rfl rfl Tryz.func29 rfl rfl (by simp only[List.map_toArray,List.map_cons,List.map_nil,Act.eval,e12]) ?_)
     refine HPK.out.mono ?_
     rintro e9 w9 ⟨rfl,hl9⟩
     exact⟨_,rfl,hK _ w9 rfl (H2.out w9 hl9)⟩
    ·
     refine OwesS.q rfl fun a w j u hC hb hs=>⟨rfl,?_⟩
     have e13:a.tmps.getD 13 undef=.agg TK:=hs.dep 5 _ rfl rfl
     have q0:=HFD.out w
     refine ValWp.pure (v:=.string (mkS T)) (fun K' hK'=>?_) ⟨rfl,rfl⟩
     simp only[ValWp,execOp,Act.eval,e13]
     go_simp
     all_goals exact hK'
    ·
     refine OwesS.q rfl fun a w j u hC hb hs=>⟨rfl,?_⟩
     have e11:a.tmps.getD 11 undef=.map (some C.ms):=hs.dep 3 _ rfl rfl
     have e14:a.tmps.getD 14 undef=.string (mkS T):=hs.dep 6 _ rfl rfl
     have q0:=HLK.out w (HLT.out j u w hC)
     refine ValWp.pure (v:=.tuple #[(compT T).getD .nilFunc,.bool (compT T).isSome]) (fun K' hK'=>?_) ⟨rfl,rfl⟩
     simp only[ValWp,execOp,Act.eval,e11,e14]
     go_simp
     all_goals exact hK'
    ·
     refine OwesS.q rfl fun a w j u hC hb hs=>⟨rfl,?_⟩
     have e15:a.tmps.getD 15 undef=.tuple #[(compT T).getD .nilFunc,.bool (compT T).isSome]:=hs.dep 7 _ rfl rfl
     refine ValWp.pure (v:=.tuple #[(compT T).getD .nilFunc,.bool (compT T).isSome]) (fun K' hK'=>?_) ⟨rfl,rfl⟩
     simp only[ValWp,execOp,Act.eval,e15]
     go_simp
     all_goals exact hK'
    ·
     refine OwesS.q rfl fun a w j u hC hb hs=>⟨rfl,?_⟩
     have e7:a.tmps.getD 7 undef=.tuple #[(compT T).getD .nilFunc,.bool (compT T).isSome]:=hs.dep 8 _ rfl rfl
     refine ValWp.pure (v:=(compT T).getD .nilFunc) (fun K' hK'=>?_) ⟨rfl,rfl⟩
     simp only[ValWp,execOp,Act.eval,e7]
     go_simp
     all_goals exact hK'
    ·
     refine OwesS.q rfl fun a w j u hC hb hs=>⟨rfl,?_⟩
     have e7:a.tmps.getD 7 undef=.tuple #[(compT T).getD .nilFunc,.bool (compT T).isSome]:=hs.dep 8 _ rfl rfl
     refine ValWp.pure (v:=.bool (compT T).isSome) (fun K' hK'=>?_) ⟨rfl,rfl⟩
     simp only[ValWp,execOp,Act.eval,e7]
     go_simp
     all_goals exact hK'
    ·
     refine OwesS.q rfl fun a w j u hC hb hs=>⟨rfl,?_⟩
     have e16:a.tmps.getD 16 undef=(compT T).getD .nilFunc:=hs.dep 9 _ rfl rfl
     refine ValWp.pure (v:=(compT T).getD .nilFunc) (fun K' hK'=>?_) ⟨rfl,rfl⟩
     simp only[ValWp,execOp,Act.eval,e16]
     go_simp
     all_goals exact hK'
    ·
     refine OwesS.q rfl fun a w j u hC hb hs=>⟨rfl,?_⟩
     have e17:a.tmps.getD 17 undef=.bool (compT T).isSome:=hs.dep 10 _ rfl rfl
     refine ValWp.pure (v:=.bool (compT T).isSome) (fun K' hK'=>?_) ⟨rfl,rfl⟩
     simp only[ValWp,execOp,Act.eval,e17]
     go_simp
     all_goals exact hK'
   ·intro a w u hC hl hd hsz hfree hs
    obtain⟨z0,u1,z2,z3,z4,u5,u6,u7,u8,u9,u10,u11,u12,u13,u14,u15,u16,u17,u18,u19,u20,u21,u22,u23,u24,u25,u26,u27,u28,u29,u30,u31,u32,u33,u34,u35,u36,u37,u38,u39,u40,u41,u42,u43,u44,hal⟩:=lets a 45 0
    obtain rfl:=hal.on (v:=.pointer (some ⟨g,0,none⟩)) 0 (hfree 0 rfl) rfl
    obtain rfl:=hal.on (v:=.int .i64 0) 2 (hfree 2 rfl) rfl
    obtain rfl:=hal.on (v:=(compT T).getD .nilFunc) 3 (hs 11 _ rfl) rfl
    obtain rfl:=hal.on (v:=.bool (compT T).isSome) 4 (hs 12 _ rfl) rfl
    have hlit:=fun h=>act_lit hd h hal
    rw[hlit hsz]
    have hl9:=HLT.out _ u w hC
    clear hlit hal hd hsz hfree hs
    have HL9:=Lib.hid hl9
    have HF1:=Lib.hid (show Fit ({ σ with d:=σ.d+1 }:Sx.St) from⟨HF.out.good,HF.out.pot,by have:=HD.out;show σ.d+1≤40;omega⟩)
    clear hl9 hC hl
    rw[show (compT T).getD .nilFunc=Value.func (.func f) #[] #[] from HCG.out,HSM.out]
    go_wp2_with (first
      |(go_at_call 135;(with_reducible refine(enter_v (HM.out.later HL9.out) HD.out).mono ?_);rintro e w1 ⟨rfl,hm,hf⟩;have HM1:=Lib.hid (hm);have HFR1:=Lib.hid ((Fr.later HL9.out).trans hf);clear hm hf)
      |(go_at_call 64;(with_reducible refine(line_v HM1.out HF1.out.ne).mono ?_);rintro e w2 ⟨rfl,hl⟩;have HM2:=Lib.hid (HM1.out.later hl);have HFR2:=Lib.hid (HFR1.out.thenLater hl);clear hl;unfold lnv))
    refine(HCL.out _ X ({ σ with d:=σ.d+1 }:Sx.St) HM2.out (HXB.out.mono HFR2.out.size) HF1.out HN.out HT.out.symm).mono ?_
    intro e w3 hh
    refine NodeR.cases hh (fun nn kk hx he hf=>by subst he;refine bodyPost_panic (P:=Tryz.prog) (fn:=Tryz.f131) rfl ?_;rw[Sx.bnd_error hx];exact⟨rfl,HFR2.out.trans hf⟩) (fun nd σ2 v2 l2 hx he hlv hnst hnew hm hf=>?_)
    subst he
    obtain⟨k2,rfl⟩:=hlv
    have HUN2:=Lib.hid (Sx.read_un HL.out.un n (s:=({ σ with d:=σ.d+1 }:Sx.St)) HF1.out.good (by rw[show (Sx.hd ({ σ with d:=σ.d+1 }:Sx.St)).text=T from HT.out.symm];exact HNE.out) (by rw[show (Sx.hd ({ σ with d:=σ.d+1 }:Sx.St)).text=T from HT.out.symm];exact hx))
    have HRD:=Lib.hid (Sx.read_redirs _ n hx)
    have HX2:=Lib.hid hx
    have HNM:=Lib.hid hm
    have HNN:=Lib.hid hnst
    have HNW:=Lib.hid (show ∀ b∈blks v2,W.heap.size≤b from fun b hb=>Nat.le_trans HFR2.out.size (hnew b hb))
    have HNF:=Lib.hid (HFR2.out.trans hf)
    have HAL:=Lib.hid (ncs_all hnst (l:=.int .i64 k2) rfl)
    have HWK:=Lib.hid (HUN2.out.1.deep (s:=σ) (σ2.d-1) (by have:=HUN2.out.1.d;simp only at this;omega))
    have HFT3:=Lib.hid (HF.out.wk HWK.out (by omega))
    have HD2:=Lib.hid (show σ2.d=σ.d+1 from HUN2.out.1.d)
    clear hx hm hnst hnew hf hh
    go_wp2_with (first
      |(refine wpList_allocO 6 rfl rfl 37 rfl _ _ info_node ?_;intro w8 hb hl hz;have HB8:=Lib.hid (hb);have HL8:=Lib.hid (hl);clear hb hl hz)
      |(refine wpList_storeO rfl 37 (.tmp 6) (.tmp 28) rfl w3.heap.size _ (ncs nd v2 (.int .i64 k2)).toArray rfl rfl HB8.out size_node rfl HAL.out ?_;intro w9 hb hg hz;have HP3:=Lib.hid (PLoc.made (W0:=W) (X:=X) HNM.out HC.out HNF.out HNN.out HNW.out HL8.out hg hb);have HPS:=Lib.hid (HP3.out.set HXB.out 7 (.int .i64 ((1+C.N-(Sx.hd ({ σ with d:=σ.d+1 }:Sx.St)).left:Nat):Int)) (n':=({ nd with left:=(Sx.hd σ).left }:Sx.Node)) (ln':=lnv C.N (Sx.hd σ).left) rfl rfl rfl rfl);obtain⟨q7,z7⟩:=HP3.out.cell 7;simp only[ncs,List.getElem?_cons_succ,List.getElem?_cons_zero] at q7;clear hb hg hz HB8 HL8)
      |(go_at_call 136;(with_reducible refine(leave_v (σ:=σ2) HPS.out.mem (by have:=HD2.out;omega) (by have:=HD2.out;have:=HD.out;omega)).mono ?_);rintro e w4 ⟨rfl,hm,hf⟩;have HP4:=Lib.hid (HPS.out.call hm hf);clear hm hf q7 z7))
    go_loopw [] (fun wr=>∃ (σr:Sx.St) (rs:List Sx.Arw) (v:Vals) (m:Nat),Sx.redF n [] ({ σ2 with d:=σ2.d-1 }:Sx.St)=Sx.redF m rs σr∧σr.r.length<m∧Sx.Wk 10 σ σr nd.kids∧rs.length+σr.r.length≤5000∧PLoc W X g C w3.heap.size (lnv C.N (Sx.hd σ).left) ({ nd with redirs:=rs,left:=(Sx.hd σ).left }:Sx.Node) v σr wr) (fun wr=>C.TS.length-atP g wr)
    case atStart=>exact⟨_,[],_,n,rfl,by have h1:=HWK.out.len (by omega);have h2:=HN.out;simp only at h1⊢;omega,HWK.out,by have:=HP4.out.mem.few;simp at this⊢;omega,by have h:=HP4.out;rw[show ({ nd with redirs:=[],left:=(Sx.hd σ).left }:Sx.Node)={ nd with left:=(Sx.hd σ).left } by rw[←HRD.out]];exact h⟩
    case round=>
     obtain⟨σr,rs,v,m,hq,hm,hw,hfw,hp⟩:=hrel
     have HQ:=Lib.hid hq
     have HMM:=Lib.hid hm
     have HWR:=Lib.hid hw
     have HFW:=Lib.hid hfw
     have HPR:=Lib.hid hp
     have HFTR:=Lib.hid (HF.out.wk HWR.out (by omega))
     clear hq hm hw hfw hp
     go_wp2_with (first
      |(go_at_call 120;(with_reducible refine(atRedir_v HPR.out.mem HFTR.out.ne).mono ?_);rintro e w5 ⟨rfl,hl⟩;have HP5:=Lib.hid (HPR.out.later hl);clear hl;cases hq:Sx.atRedir σr <;> (have HAR:=Lib.hid hq;clear hq))
      |(refine wpList_loadO rfl 37 (.tmp 6) rfl w3.heap.size _ _ rfl HP5.out.box Tryz.underlying37 rfl size_node ?_)
      |(go_at_call 67;(refine(add_v ({ nd with redirs:=rs,left:=(Sx.hd σ).left }:Sx.Node) _ _ rfl (HP5.out.addable HC.out) HC.out (HXB.out.mono HP5.out.fr.size) HP5.out.nest (fun b hb=>HP5.out.notX HXB.out b (List.mem_cons_of_mem _ hb)) HFTR.out.nodes).mono ?_);rintro e wz ⟨rfl,hmz,hfz⟩))
     ·
      have HE:=Lib.hid (show Sx.redF n [] ({ σ2 with d:=σ2.d-1 }:Sx.St)=.ok (rs,σr) by rw[HQ.out];obtain⟨m2,rfl⟩:∃ m2,m=m2+1:=⟨m-1,by have:=HMM.out;omega⟩;simp only[Sx.redF,HAR.out,Bool.false_eq_true,if_false])
      go_ret
      rw[Sx.bnd_ok HX2.out,Sx.bnd_ok HE.out]
      exact⟨rfl,hmz,HP5.out.fr.trans hfz⟩
     ·
      have hpd:=HP5.out.later (Later.drew _)
      have hcl:=redir_v hpd.mem HFTR.out.good HAR.out
      refine apR "syntax.go:375" 79 137 6 35 HP5.out HXB.out HC.out (entO Tryz.func137 rfl rfl) rfl rfl (by kernel_rfl) rfl rfl (by have:=HFW.out;simp only;omega) (Sx.redir σr) hcl (fun nn kk w' hm0 hf9 a9 hd9=>?_) ?_
      ·refine bodyPost_panic (P:=Tryz.prog) (fn:=Tryz.f131) hd9 ?_
       have he:Sx.redF n [] ({ σ2 with d:=σ2.d-1 }:Sx.St)=.error (nn,kk):=by rw[HQ.out];obtain⟨m2,rfl⟩:∃ m2,m=m2+1:=⟨m-1,by have:=HMM.out;omega⟩;simp only[Sx.redF,HAR.out,if_true];exact Sx.bnd_error hm0
       rw[Sx.bnd_ok HX2.out,Sx.bnd_error he]
       exact⟨rfl,hf9⟩
      intro y σz hk a9 wz vz hp9 hd hsz hfree
      have HK:=Lib.hid hk
      have HPZ:=Lib.hid hp9
      have HU:=Lib.hid (Sx.redir_un HFTR.out.good HAR.out hk)
      have HWZ:=Lib.hid (HWR.out.trans HU.out (k:=18) (by omega))
      clear hk hcl hpd hp9
      obtain⟨u35,hu35⟩:∃ u,u=a9.tmps.getD 35 undef:=⟨_,rfl⟩
      obtain⟨u36,hu36⟩:∃ u,u=a9.tmps.getD 36 undef:=⟨_,rfl⟩
      obtain⟨u37,hu37⟩:∃ u,u=a9.tmps.getD 37 undef:=⟨_,rfl⟩
      obtain⟨u38,hu38⟩:∃ u,u=a9.tmps.getD 38 undef:=⟨_,rfl⟩
      obtain⟨u39,hu39⟩:∃ u,u=a9.tmps.getD 39 undef:=⟨_,rfl⟩
      obtain⟨u40,hu40⟩:∃ u,u=a9.tmps.getD 40 undef:=⟨_,rfl⟩
      obtain⟨u41,hu41⟩:∃ u,u=a9.tmps.getD 41 undef:=⟨_,rfl⟩
      have hal:AllAt a9 0 [.pointer (some ⟨g,0,none⟩),_,_,_,_,_,.pointer (some ⟨w3.heap.size,0,none⟩),_,_,_,_,_,_,_,_,_,_,_,_,_,_,_,_,_,_,_,_,_,_,_,_,_,_,_,_,u35,u36,u37,u38,u39,u40,u41,_,_,_]:=⟨hfree 0 rfl,hfree 1 rfl,hfree 2 rfl,hfree 3 rfl,hfree 4 rfl,hfree 5 rfl,hfree 6 rfl,hfree 7 rfl,hfree 8 rfl,hfree 9 rfl,hfree 10 rfl,hfree 11 rfl,hfree 12 rfl,hfree 13 rfl,hfree 14 rfl,hfree 15 rfl,hfree 16 rfl,hfree 17 rfl,hfree 18 rfl,hfree 19 rfl,hfree 20 rfl,hfree 21 rfl,hfree 22 rfl,hfree 23 rfl,hfree 24 rfl,hfree 25 rfl,hfree 26 rfl,hfree 27 rfl,hfree 28 rfl,hfree 29 rfl,hfree 30 rfl,hfree 31 rfl,hfree 32 rfl,hfree 33 rfl,hfree 34 rfl,hu35.symm,hu36.symm,hu37.symm,hu38.symm,hu39.symm,hu40.symm,hu41.symm,hfree 42 rfl,hfree 43 rfl,hfree 44 rfl,trivial⟩
      have hlit:=fun h=>act_lit hd h hal
      rw[hlit hsz]
      clear hlit hal hd hsz hfree hu35 hu36 hu37 hu38 hu39 hu40 hu41
      go_wp2
      go_roundw
      case rel=>
       obtain⟨m2,hm2⟩:∃ m2,m=m2+1:=⟨m-1,by have:=HMM.out;omega⟩
       have h2:=HU.out.len (by omega)
       refine⟨σz,rs++[y],vz,m2,?_,by have:=HMM.out;omega,by have:=HWZ.out.weak (k':=10) (by omega);rwa[List.append_nil] at this,by have:=HFW.out;simp;omega,HPZ.out⟩
       rw[HQ.out,hm2]
       simp only[Sx.redF,HAR.out,if_true]
       exact Sx.bnd_ok HK.out
      case measure=>
       rw[HPZ.out.mem.left,HPR.out.mem.left]
       exact HU.out.len (by omega)
 ·have hcn:Sx.isComp T=false:=by simpa using hcp
  have HNC:=Lib.hid (show (compT T).isSome=false by rw[compT_isSome];exact hcn)
  rw[show Sx.compound a n σ=.error (20,(Sx.hd σ).left) by unfold Sx.compound;rw[←HT.out,if_neg hcp]]
  clear hcp hcn
  go_enter Tryz.func131,Tryz.ntmps131
  go_wp2
  refine wp_region_seq (by kernel_rfl) [5] (C0) [some (.pointer (some ⟨g,0,none⟩)),some (.pointer (some ⟨g,0,none⟩)),some (.pointer (some ⟨g,4,none⟩)),some (.map (some C.ms)),some (.pointer (some ⟨g,0,none⟩)),some (.agg TK),some (.string (mkS T)),some (.tuple #[(compT T).getD .nilFunc,.bool (compT T).isSome]),some (.tuple #[(compT T).getD .nilFunc,.bool (compT T).isSome]),some ((compT T).getD .nilFunc),some (.bool (compT T).isSome),some ((compT T).getD .nilFunc),some (.bool (compT T).isSome)] (by decide) (by decide) (by kernel_rfl) (by kernel_rfl) (H0.out) ?_ ?_
  ·refine⟨?_,?_,?_,?_,?_,?_,?_,?_,?_,?_,?_,?_,?_,trivial⟩
   ·
    refine OwesS.q rfl fun a w j u hC hb hs=>⟨rfl,?_⟩
    have e0:a.tmps.getD 0 undef=.pointer (some ⟨g,0,none⟩):=hs.free 0 rfl
    refine ValWp.pure (v:=.pointer (some ⟨g,0,none⟩)) (fun K' hK'=>?_) ⟨rfl,rfl⟩
    simp only[ValWp,execOp,Act.eval,e0]
    go_simp
    all_goals exact hK'
   ·
    refine OwesS.q rfl fun a w j u hC hb hs=>⟨rfl,?_⟩
    have e8:a.tmps.getD 8 undef=.pointer (some ⟨g,0,none⟩):=hs.dep 0 _ rfl rfl
    refine ValWp.pure (v:=.pointer (some ⟨g,0,none⟩)) (fun K' hK'=>?_) ⟨rfl,rfl⟩
    simp only[ValWp,execOp,Act.eval,e8]
    go_simp
    all_goals exact hK'
   ·
    refine OwesS.q rfl fun a w j u hC hb hs=>⟨rfl,?_⟩
    have e9:a.tmps.getD 9 undef=.pointer (some ⟨g,0,none⟩):=hs.dep 1 _ rfl rfl
    refine ValWp.pure (v:=.pointer (some ⟨g,4,none⟩)) (fun K' hK'=>?_) ⟨rfl,rfl⟩
    simp only[ValWp,execOp,Act.eval,e9]
    go_simp
    all_goals exact hK'
   ·
    refine OwesS.q rfl fun a w j u hC hb hs=>⟨rfl,?_⟩
    have e10:a.tmps.getD 10 undef=.pointer (some ⟨g,4,none⟩):=hs.dep 2 _ rfl rfl
    have q0:=HC4.out w (HLT.out j u w hC)
    refine ValWp.pure (v:=.map (some C.ms)) (fun K' hK'=>?_) ⟨rfl,rfl⟩
    simp only[ValWp,execOp,Act.eval,e10]
    go_simp
    all_goals exact hK'
   ·
    refine OwesS.q rfl fun a w j u hC hb hs=>⟨rfl,?_⟩
    have e0:a.tmps.getD 0 undef=.pointer (some ⟨g,0,none⟩):=hs.free 0 rfl
    refine ValWp.pure (v:=.pointer (some ⟨g,0,none⟩)) (fun K' hK'=>?_) ⟨rfl,rfl⟩
    simp only[ValWp,execOp,Act.eval,e0]
    go_simp
    all_goals exact hK'
   ·
    refine OwesS.w rfl fun a w u hC hl hs=>⟨rfl,fun K hK=>?_⟩
    have e12:a.tmps.getD 12 undef=.pointer (some ⟨g,0,none⟩):=hs.dep 4 _ rfl rfl
    have hw:=H1.out u w hC
    subst hw
    refine wp_of_val (ValWp.call #[.pointer (some ⟨g,0,none⟩)] rfl rfl Tryz.func29 rfl rfl (by simp only[List.map_toArray,List.map_cons,List.map_nil,Act.eval,e12]) ?_)
    refine HPK.out.mono ?_
    rintro e9 w9 ⟨rfl,hl9⟩
    exact⟨_,rfl,hK _ w9 rfl (H2.out w9 hl9)⟩
   ·
    refine OwesS.q rfl fun a w j u hC hb hs=>⟨rfl,?_⟩
    have e13:a.tmps.getD 13 undef=.agg TK:=hs.dep 5 _ rfl rfl
    have q0:=HFD.out w
    refine ValWp.pure (v:=.string (mkS T)) (fun K' hK'=>?_) ⟨rfl,rfl⟩
    simp only[ValWp,execOp,Act.eval,e13]
    go_simp
    all_goals exact hK'
   ·
    refine OwesS.q rfl fun a w j u hC hb hs=>⟨rfl,?_⟩
    have e11:a.tmps.getD 11 undef=.map (some C.ms):=hs.dep 3 _ rfl rfl
    have e14:a.tmps.getD 14 undef=.string (mkS T):=hs.dep 6 _ rfl rfl
    have q0:=HLK.out w (HLT.out j u w hC)
    refine ValWp.pure (v:=.tuple #[(compT T).getD .nilFunc,.bool (compT T).isSome]) (fun K' hK'=>?_) ⟨rfl,rfl⟩
    simp only[ValWp,execOp,Act.eval,e11,e14]
    go_simp
    all_goals exact hK'
   ·
    refine OwesS.q rfl fun a w j u hC hb hs=>⟨rfl,?_⟩
    have e15:a.tmps.getD 15 undef=.tuple #[(compT T).getD .nilFunc,.bool (compT T).isSome]:=hs.dep 7 _ rfl rfl
    refine ValWp.pure (v:=.tuple #[(compT T).getD .nilFunc,.bool (compT T).isSome]) (fun K' hK'=>?_) ⟨rfl,rfl⟩
    simp only[ValWp,execOp,Act.eval,e15]
    go_simp
    all_goals exact hK'
   ·
    refine OwesS.q rfl fun a w j u hC hb hs=>⟨rfl,?_⟩
    have e7:a.tmps.getD 7 undef=.tuple #[(compT T).getD .nilFunc,.bool (compT T).isSome]:=hs.dep 8 _ rfl rfl
    refine ValWp.pure (v:=(compT T).getD .nilFunc) (fun K' hK'=>?_) ⟨rfl,rfl⟩
    simp only[ValWp,execOp,Act.eval,e7]
    go_simp
    all_goals exact hK'
   ·
    refine OwesS.q rfl fun a w j u hC hb hs=>⟨rfl,?_⟩
    have e7:a.tmps.getD 7 undef=.tuple #[(compT T).getD .nilFunc,.bool (compT T).isSome]:=hs.dep 8 _ rfl rfl
    refine ValWp.pure (v:=.bool (compT T).isSome) (fun K' hK'=>?_) ⟨rfl,rfl⟩
    simp only[ValWp,execOp,Act.eval,e7]
    go_simp
    all_goals exact hK'
   ·
    refine OwesS.q rfl fun a w j u hC hb hs=>⟨rfl,?_⟩
    have e16:a.tmps.getD 16 undef=(compT T).getD .nilFunc:=hs.dep 9 _ rfl rfl
    refine ValWp.pure (v:=(compT T).getD .nilFunc) (fun K' hK'=>?_) ⟨rfl,rfl⟩
    simp only[ValWp,execOp,Act.eval,e16]
    go_simp
    all_goals exact hK'
   ·
    refine OwesS.q rfl fun a w j u hC hb hs=>⟨rfl,?_⟩
    have e17:a.tmps.getD 17 undef=.bool (compT T).isSome:=hs.dep 10 _ rfl rfl
    refine ValWp.pure (v:=.bool (compT T).isSome) (fun K' hK'=>?_) ⟨rfl,rfl⟩
    simp only[ValWp,execOp,Act.eval,e17]
    go_simp
    all_goals exact hK'
  ·intro a w u hC hl hd hsz hfree hs
   obtain⟨z0,u1,z2,z3,z4,u5,u6,u7,u8,u9,u10,u11,u12,u13,u14,u15,u16,u17,u18,u19,u20,u21,u22,u23,u24,u25,u26,u27,u28,u29,u30,u31,u32,u33,u34,u35,u36,u37,u38,u39,u40,u41,u42,u43,u44,hal⟩:=lets a 45 0
   obtain rfl:=hal.on (v:=.pointer (some ⟨g,0,none⟩)) 0 (hfree 0 rfl) rfl
   obtain rfl:=hal.on (v:=.int .i64 0) 2 (hfree 2 rfl) rfl
   obtain rfl:=hal.on (v:=(compT T).getD .nilFunc) 3 (hs 11 _ rfl) rfl
   obtain rfl:=hal.on (v:=.bool (compT T).isSome) 4 (hs 12 _ rfl) rfl
   have hlit:=fun h=>act_lit hd h hal
   rw[hlit hsz]
   have hl9:=HLT.out _ u w hC
   clear hlit hal hd hsz hfree hs
   rw[HNC.out]
   have HL9:=Lib.hid hl9
   clear hl9 hC hl
   go_wp2_with (first
    |(go_at_call 30;(with_reducible refine(refuse_v (HM.out.later HL9.out) HF.out.ne).mono ?_);rintro e wz ⟨rfl,hlz⟩))
   exact bodyPost_panic rfl ⟨rfl,(Fr.later HL9.out).thenLater hlz⟩
end
end Pz
end Go.Proofs.YtkkchkkpnlnbgaaGreatDoor
