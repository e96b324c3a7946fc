/- The parser's tests: atRedir, atSimple, atCompound, atFunc, atAndOr. No premises. -/
import Derived.Test.YtkkchkkpnlnbgaaGreatDoorNp
import Derived.Test.YtkkchkkpnlnbgaaGreatDoorNh
set_option maxRecDepth 100000
set_option maxHeartbeats 1600000
namespace Go.Proofs.YtkkchkkpnlnbgaaGreatDoor
open Go.RowKit Go.Maps
open Lx (Tok nl)
namespace Pz
section
variable {W:World} {X:Nat→Prop} {g:Nat} {C:Ctx} {σ:Sx.St}
theorem small_v (h:PMem W X g C σ):∀ t∈σ.r,t.text.length≤5000:=by
 obtain⟨p,vn,nd,h⟩:=h
 intro t ht
 have h1:=h.sml t (by rw[h.rest] at ht;exact List.mem_of_mem_drop ht)
 omega
theorem hd_mem (hne:σ.r≠[]):Sx.hd σ∈σ.r:=by
 cases hr:σ.r with
 | nil=>exact absurd hr hne
 | cons t r=>rw[Sx.hd_cons hr];simp
theorem atRedir_v (h:PMem W X g C σ) (hne:σ.r≠[]):Calls Tryz.prog 120 #[.pointer (some ⟨g,0,none⟩)] W fun e W'=>e=.returned (.bool (Sx.atRedir σ))∧Later W W':=by
 have HP:=Lib.hid (peek_v h hne)
 have H1:=Lib.hid (fun w (hl:Later W w)=>is_v ⟨#[60]⟩ [60] rfl (h.later hl) hne)
 have H2:=Lib.hid (fun w (hl:Later W w)=>is_v ⟨#[62]⟩ [62] rfl (h.later hl) hne)
 have H3:=Lib.hid (fun w (hl:Later W w)=>is_v ⟨#[62,62]⟩ [62,62] rfl (h.later hl) hne)
 have H4:=Lib.hid (fun w (hl:Later W w)=>is_v ⟨#[60,60]⟩ [60,60] rfl (h.later hl) hne)
 have hf0:=fld0
 have HV:=Lib.hid (show Sx.atRedir σ=((Sx.hd σ).kind==5 || (Sx.isT [60] σ || Sx.isT [62] σ || Sx.isT [62,62] σ || Sx.isT [60,60] σ)) from rfl)
 generalize Sx.isT [60] σ=b1 at *
 generalize Sx.isT [62] σ=b2 at *
 generalize Sx.isT [62,62] σ=b3 at *
 generalize Sx.isT [60,60] σ=b4 at *
 rw[HV.out]
 clear h hne HV
 by_cases hk:(Sx.hd σ).kind=5
 ·have HK:=Lib.hid (show ((Sx.hd σ).kind:Int)=5 by omega)
  have HR:=Lib.hid (show ((Sx.hd σ).kind==5 || (b1 || b2 || b3 || b4))=true by rw[hk];rfl)
  clear hk
  go_enter Tryz.func120,Tryz.ntmps120
  go_wp2_with (first
   |(go_at_call 29;(with_reducible refine HP.out.mono ?_);rintro e w1 ⟨rfl,hl1⟩;have HL1:=Lib.hid hl1;clear hl1;unfold tcs;rw[HK.out]))
  go_ret
  exact⟨by rw[HR.out];rfl,HL1.out⟩
 ·have hk9:(((Sx.hd σ).kind:Int)==5)=false:=by simp;omega
  have HR:=Lib.hid (show ((Sx.hd σ).kind==5 || (b1 || b2 || b3 || b4))=(b1 || b2 || b3 || b4) by rw[show ((Sx.hd σ).kind==5)=false by simpa using hk];rfl)
  clear hk
  cases b1 <;> cases b2 <;> cases b3
  all_goals
   go_enter Tryz.func120,Tryz.ntmps120
   go_wp2_with (first
    |(go_at_call 29;(with_reducible refine HP.out.mono ?_);rintro e w1 ⟨rfl,hl1⟩;have HL1:=Lib.hid hl1;clear hl1;unfold tcs)
    |(go_at_call 62;first
     |((with_reducible refine(H1.out _ HL1.out).mono ?_);rintro e w2 ⟨rfl,hl2⟩;have HL2:=Lib.hid (HL1.out.trans hl2);clear hl2)
     |((with_reducible refine(H2.out _ HL2.out).mono ?_);rintro e w3 ⟨rfl,hl3⟩;have HL3:=Lib.hid (HL2.out.trans hl3);clear hl3)
     |((with_reducible refine(H3.out _ HL3.out).mono ?_);rintro e w4 ⟨rfl,hl4⟩;have HL4:=Lib.hid (HL3.out.trans hl4);clear hl4)
     |((with_reducible refine(H4.out _ HL4.out).mono ?_);rintro e w5 ⟨rfl,hl5⟩;have HL5:=Lib.hid (HL4.out.trans hl5);clear hl5)))
   go_ret
   rw[HR.out]
   first | exact⟨rfl,HL5.out⟩ | exact⟨rfl,HL4.out⟩ | exact⟨rfl,HL3.out⟩ | exact⟨rfl,HL2.out⟩
theorem atSimple_v (h:PMem W X g C σ) (hne:σ.r≠[]):Calls Tryz.prog 98 #[.pointer (some ⟨g,0,none⟩)] W fun e W'=>e=.returned (.bool (Sx.atSimple σ))∧Later W W':=by
 have HP:=Lib.hid (peek_v h hne)
 have HA:=Lib.hid (fun w (hl:Later W w)=>atRedir_v (h.later hl) hne)
 have HRS:=Lib.hid (fun w=>isReserved_v (Sx.hd σ).text w)
 have HZ:=Lib.hid (show (tcs C.N (Sx.hd σ)).size=4 from rfl)
 have HO:=Lib.hid (tcs_one C.N (Sx.hd σ))
 have HV:=Lib.hid (show Sx.atSimple σ=(((Sx.hd σ).kind==1 && !Sx.isRes (Sx.hd σ).text) || Sx.atRedir σ) from rfl)
 generalize Sx.isRes (Sx.hd σ).text=b1 at *
 generalize Sx.atRedir σ=b2 at *
 rw[HV.out]
 clear h hne HV
 have HT:=Lib.hid (show (tcs C.N (Sx.hd σ))=#[.int .i64 ((Sx.hd σ).kind:Int),.string (mkS (Sx.hd σ).text),.string (mkS (Sx.hd σ).body),.int .i64 ((1+C.N-(Sx.hd σ).left:Nat):Int)] from rfl)
 by_cases hk:(Sx.hd σ).kind=1
 ·have HK:=Lib.hid (show ((Sx.hd σ).kind:Int)=1 by omega)
  have HR:=Lib.hid (show ((Sx.hd σ).kind==1 && !b1 || b2)=(!b1 || b2) by rw[hk];rfl)
  clear hk
  cases b1
  all_goals
   go_enter Tryz.func98,Tryz.ntmps98
   go_wp2_with (first
    |(go_at_call 29;(with_reducible refine HP.out.mono ?_);rintro e w1 ⟨rfl,hl1⟩;have HL1:=Lib.hid hl1;clear hl1)
    |(refine wpList_allocO 3 rfl rfl 63 rfl _ _ info_tok2 ?_;intro w2 hb2 hl2 hz2;have HB2:=Lib.hid hb2;have HL2:=Lib.hid (HL1.out.trans hl2);have HZ2:=Lib.hid hz2;clear hb2 hl2 hz2)
    |(refine wpList_storeO rfl 63 (.tmp 3) (.tmp 5) rfl w1.heap.size _ (tcs C.N (Sx.hd σ)) rfl rfl HB2.out (by rw[HZ.out];exact size_tok) HZ.out.symm HO.out ?_;intro w3 hb3 hg3 hz3;have HL3:=Lib.hid (later_of_new HL2.out hg3 HL1.out.size);rw[HT.out] at hb3;have q0:=(cell_row hb3 0).1;have q1:=(cell_row hb3 1).1;simp only[List.getElem?_toArray,List.getElem?_cons_zero,List.getElem?_cons_succ] at q0 q1;rw[HK.out] at q0;clear hb3 hg3 hz3)
    |(go_at_call 119;(with_reducible refine(HRS.out _).mono ?_);rintro e w4 ⟨rfl,rfl⟩)
    |(go_at_call 120;(with_reducible refine(HA.out _ HL3.out).mono ?_);rintro e w5 ⟨rfl,hl5⟩;have HL5:=Lib.hid (HL3.out.trans hl5);clear hl5))
   go_ret
   rw[HR.out]
   first | exact⟨rfl,HL5.out⟩ | exact⟨rfl,HL3.out⟩
 ·have hk9:(((Sx.hd σ).kind:Int)==1)=false:=by simp;omega
  have HR:=Lib.hid (show ((Sx.hd σ).kind==1 && !b1 || b2)=b2 by rw[show ((Sx.hd σ).kind==1)=false by simpa using hk];rfl)
  clear hk
  go_enter Tryz.func98,Tryz.ntmps98
  go_wp2_with (first
   |(go_at_call 29;(with_reducible refine HP.out.mono ?_);rintro e w1 ⟨rfl,hl1⟩;have HL1:=Lib.hid hl1;clear hl1)
   |(refine wpList_allocO 3 rfl rfl 63 rfl _ _ info_tok2 ?_;intro w2 hb2 hl2 hz2;have HB2:=Lib.hid hb2;have HL2:=Lib.hid (HL1.out.trans hl2);have HZ2:=Lib.hid hz2;clear hb2 hl2 hz2)
   |(refine wpList_storeO rfl 63 (.tmp 3) (.tmp 5) rfl w1.heap.size _ (tcs C.N (Sx.hd σ)) rfl rfl HB2.out (by rw[HZ.out];exact size_tok) HZ.out.symm HO.out ?_;intro w3 hb3 hg3 hz3;have HL3:=Lib.hid (later_of_new HL2.out hg3 HL1.out.size);rw[HT.out] at hb3;have q0:=(cell_row hb3 0).1;have q1:=(cell_row hb3 1).1;simp only[List.getElem?_toArray,List.getElem?_cons_zero,List.getElem?_cons_succ] at q0 q1;clear hb3 hg3 hz3)
   |(go_at_call 120;(with_reducible refine(HA.out _ HL3.out).mono ?_);rintro e w5 ⟨rfl,hl5⟩;have HL5:=Lib.hid (HL3.out.trans hl5);clear hl5))
  go_ret
  rw[HR.out]
  exact⟨rfl,HL5.out⟩
theorem atCompound_v (h:PMem W X g C σ) (hne:σ.r≠[]):Calls Tryz.prog 99 #[.pointer (some ⟨g,0,none⟩)] W fun e W'=>e=.returned (.bool (Sx.isComp (Sx.hd σ).text))∧Later W W':=by
 have HPK:=Lib.hid (peek_v (h.later (Later.drew W)) hne)
 have hsm:=small_v h _ (hd_mem hne)
 obtain⟨T,hT⟩:∃ T,T=(Sx.hd σ).text:=⟨_,rfl⟩
 rw[←hT,←compT_isSome]
 have HFD:=Lib.hid (show ∀ w,(Instr.field 63 (.agg (tcs C.N (Sx.hd σ))) 1).run Tryz.prog w=.ok (.string (mkS T)) w from fun w=>by rw[hT];exact fld1 _ _ _ _ w)
 obtain⟨TK,hTK⟩:∃ TK,TK=tcs C.N (Sx.hd σ):=⟨_,rfl⟩
 rw[←hTK] at HPK HFD
 rw[←hT] at hsm
 obtain⟨p,vn,nd,h⟩:=h
 have HC4:=Lib.hid (show ∀ w,Later W w→w.cell? ⟨g,4,none⟩=some (.map (some C.ms)) from fun w hw=>(h.later hw).facts.1.2.2.2.2)
 have HLK:=Lib.hid (show ∀ w,Later W w→(Instr.lookup 46 (.map (some C.ms)) (.string (mkS T)) true).run Tryz.prog w=.ok (.tuple #[(compT T).getD .nilFunc,.bool (compT T).isSome]) w from fun w hw=>(h.later hw).tab.look T hsm)
 obtain⟨C0,hC0⟩:∃ C0:Nat→Value→World→Prop,C0=fun j _ w=>(j=0∧w=W.drew)∨(j=1∧Later W w):=⟨_,rfl⟩
 have HL:=Lib.hid (show ∀ j u w,C0 j u w→Later W w from fun j u w hc=>by
  rw[hC0] at hc
  rcases hc with⟨_,rfl⟩ | ⟨_,hc⟩
  ·exact Later.drew _
  ·exact hc)
 have H0:=Lib.hid (show C0 0 undef W.drew by rw[hC0];exact .inl ⟨rfl,rfl⟩)
 have H1:=Lib.hid (show ∀ u w,C0 0 u w→w=W.drew from fun u w hc=>by
  rw[hC0] at hc
  rcases hc with⟨_,e⟩ | ⟨e,_⟩
  ·exact e
  ·cases e)
 have H2:=Lib.hid (show ∀ w,Later W.drew w→C0 1 (.agg TK) w from fun w hl=>by rw[hC0];exact .inr ⟨rfl,(Later.drew W).trans hl⟩)
 clear h hne hT hTK hsm hC0
 go_enter Tryz.func99,Tryz.ntmps99
 go_wp2
 refine wp_region_seq (by kernel_rfl) [5] (C0) [some (.pointer (some ⟨g,0,none⟩)),some (.pointer (some ⟨g,0,none⟩)),some (.pointer (some ⟨g,4,none⟩)),some (.map (some C.ms)),some (.pointer (some ⟨g,0,none⟩)),some (.agg TK),some (.string (mkS T)),some (.tuple #[(compT T).getD .nilFunc,.bool (compT T).isSome]),some (.tuple #[(compT T).getD .nilFunc,.bool (compT T).isSome]),some ((compT T).getD .nilFunc),some (.bool (compT T).isSome),some ((compT T).getD .nilFunc),some (.bool (compT T).isSome)] (by decide) (by decide) (by kernel_rfl) (by kernel_rfl) (H0.out) ?_ ?_
 ·refine⟨?_,?_,?_,?_,?_,?_,?_,?_,?_,?_,?_,?_,?_,trivial⟩
  ·
   refine OwesS.q rfl fun a w j u hC hb hs=>⟨rfl,?_⟩
   have e0:a.tmps.getD 0 undef=.pointer (some ⟨g,0,none⟩):=hs.free 0 rfl
   refine ValWp.pure (v:=.pointer (some ⟨g,0,none⟩)) (fun K' hK'=>?_) ⟨rfl,rfl⟩
   simp only[ValWp,execOp,Act.eval,e0]
   go_simp
   all_goals exact hK'
  ·
   refine OwesS.q rfl fun a w j u hC hb hs=>⟨rfl,?_⟩
   have e6:a.tmps.getD 6 undef=.pointer (some ⟨g,0,none⟩):=hs.dep 0 _ rfl rfl
   refine ValWp.pure (v:=.pointer (some ⟨g,0,none⟩)) (fun K' hK'=>?_) ⟨rfl,rfl⟩
   simp only[ValWp,execOp,Act.eval,e6]
   go_simp
   all_goals exact hK'
  ·
   refine OwesS.q rfl fun a w j u hC hb hs=>⟨rfl,?_⟩
   have e7:a.tmps.getD 7 undef=.pointer (some ⟨g,0,none⟩):=hs.dep 1 _ rfl rfl
   refine ValWp.pure (v:=.pointer (some ⟨g,4,none⟩)) (fun K' hK'=>?_) ⟨rfl,rfl⟩
   simp only[ValWp,execOp,Act.eval,e7]
   go_simp
   all_goals exact hK'
  ·
   refine OwesS.q rfl fun a w j u hC hb hs=>⟨rfl,?_⟩
   have e8:a.tmps.getD 8 undef=.pointer (some ⟨g,4,none⟩):=hs.dep 2 _ rfl rfl
   have q0:=HC4.out w (HL.out j u w hC)
   refine ValWp.pure (v:=.map (some C.ms)) (fun K' hK'=>?_) ⟨rfl,rfl⟩
   simp only[ValWp,execOp,Act.eval,e8]
   go_simp
   all_goals exact hK'
  ·
   refine OwesS.q rfl fun a w j u hC hb hs=>⟨rfl,?_⟩
   have e0:a.tmps.getD 0 undef=.pointer (some ⟨g,0,none⟩):=hs.free 0 rfl
   refine ValWp.pure (v:=.pointer (some ⟨g,0,none⟩)) (fun K' hK'=>?_) ⟨rfl,rfl⟩
   simp only[ValWp,execOp,Act.eval,e0]
   go_simp
   all_goals exact hK'
  ·
   refine OwesS.w rfl fun a w u hC hl hs=>⟨rfl,fun K hK=>?_⟩
   have e10:a.tmps.getD 10 undef=.pointer (some ⟨g,0,none⟩):=hs.dep 4 _ rfl rfl
   have hw:=H1.out u w hC
   subst hw
   refine wp_of_val (ValWp.call #[.pointer (some ⟨g,0,none⟩)] rfl rfl Tryz.func29 rfl rfl (by simp only[List.map_toArray,List.map_cons,List.map_nil,Act.eval,e10]) ?_)
   refine HPK.out.mono ?_
   rintro e9 w9 ⟨rfl,hl9⟩
   exact⟨_,rfl,hK _ w9 rfl (H2.out w9 hl9)⟩
  ·
   refine OwesS.q rfl fun a w j u hC hb hs=>⟨rfl,?_⟩
   have e11:a.tmps.getD 11 undef=.agg TK:=hs.dep 5 _ rfl rfl
   have q0:=HFD.out w
   refine ValWp.pure (v:=.string (mkS T)) (fun K' hK'=>?_) ⟨rfl,rfl⟩
   simp only[ValWp,execOp,Act.eval,e11]
   go_simp
   all_goals exact hK'
  ·
   refine OwesS.q rfl fun a w j u hC hb hs=>⟨rfl,?_⟩
   have e9:a.tmps.getD 9 undef=.map (some C.ms):=hs.dep 3 _ rfl rfl
   have e12:a.tmps.getD 12 undef=.string (mkS T):=hs.dep 6 _ rfl rfl
   have q0:=HLK.out w (HL.out j u w hC)
   refine ValWp.pure (v:=.tuple #[(compT T).getD .nilFunc,.bool (compT T).isSome]) (fun K' hK'=>?_) ⟨rfl,rfl⟩
   simp only[ValWp,execOp,Act.eval,e9,e12]
   go_simp
   all_goals exact hK'
  ·
   refine OwesS.q rfl fun a w j u hC hb hs=>⟨rfl,?_⟩
   have e13:a.tmps.getD 13 undef=.tuple #[(compT T).getD .nilFunc,.bool (compT T).isSome]:=hs.dep 7 _ rfl rfl
   refine ValWp.pure (v:=.tuple #[(compT T).getD .nilFunc,.bool (compT T).isSome]) (fun K' hK'=>?_) ⟨rfl,rfl⟩
   simp only[ValWp,execOp,Act.eval,e13]
   go_simp
   all_goals exact hK'
  ·
   refine OwesS.q rfl fun a w j u hC hb hs=>⟨rfl,?_⟩
   have e5:a.tmps.getD 5 undef=.tuple #[(compT T).getD .nilFunc,.bool (compT T).isSome]:=hs.dep 8 _ rfl rfl
   refine ValWp.pure (v:=(compT T).getD .nilFunc) (fun K' hK'=>?_) ⟨rfl,rfl⟩
   simp only[ValWp,execOp,Act.eval,e5]
   go_simp
   all_goals exact hK'
  ·
   refine OwesS.q rfl fun a w j u hC hb hs=>⟨rfl,?_⟩
   have e5:a.tmps.getD 5 undef=.tuple #[(compT T).getD .nilFunc,.bool (compT T).isSome]:=hs.dep 8 _ rfl rfl
   refine ValWp.pure (v:=.bool (compT T).isSome) (fun K' hK'=>?_) ⟨rfl,rfl⟩
   simp only[ValWp,execOp,Act.eval,e5]
   go_simp
   all_goals exact hK'
  ·
   refine OwesS.q rfl fun a w j u hC hb hs=>⟨rfl,?_⟩
   have e14:a.tmps.getD 14 undef=(compT T).getD .nilFunc:=hs.dep 9 _ rfl rfl
   refine ValWp.pure (v:=(compT T).getD .nilFunc) (fun K' hK'=>?_) ⟨rfl,rfl⟩
   simp only[ValWp,execOp,Act.eval,e14]
   go_simp
   all_goals exact hK'
  ·
   refine OwesS.q rfl fun a w j u hC hb hs=>⟨rfl,?_⟩
   have e15:a.tmps.getD 15 undef=.bool (compT T).isSome:=hs.dep 10 _ rfl rfl
   refine ValWp.pure (v:=.bool (compT T).isSome) (fun K' hK'=>?_) ⟨rfl,rfl⟩
   simp only[ValWp,execOp,Act.eval,e15]
   go_simp
   all_goals exact hK'
 ·intro a w u hC hl hd hsz hfree hs
  obtain⟨z0,u1,z2,u3,z4,u5,u6,u7,u8,u9,u10,u11,u12,u13,u14,u15,u16,hal⟩:=lets a 17 0
  obtain rfl:=hal.on (v:=.pointer (some ⟨g,0,none⟩)) 0 (hfree 0 rfl) rfl
  obtain rfl:=hal.on (v:=.bool false) 2 (hfree 2 rfl) rfl
  obtain rfl:=hal.on (v:=.bool (compT T).isSome) 4 (hs 12 _ rfl) rfl
  have hlit:=fun h=>act_lit hd h hal
  rw[hlit hsz]
  clear hlit hal hd hsz hfree hs
  have hl9:=HL.out _ u w hC
  go_wp2
  go_ret
  exact⟨rfl,hl9⟩
theorem atAndOr_v (h:PMem W X g C σ) (hne:σ.r≠[]):Calls Tryz.prog 65 #[.pointer (some ⟨g,0,none⟩)] W fun e W'=>e=.returned (.bool (Sx.atAndOr σ))∧Later W W':=by
 have HI:=Lib.hid (is_v ⟨#[33]⟩ [33] rfl h hne)
 have HA:=Lib.hid (fun w (hl:Later W w)=>atSimple_v (h.later hl) hne)
 have HB:=Lib.hid (fun w (hl:Later W w)=>atCompound_v (h.later hl) hne)
 have HV:=Lib.hid (show Sx.atAndOr σ=(Sx.isT [33] σ || Sx.atSimple σ || Sx.isComp (Sx.hd σ).text) from rfl)
 generalize Sx.isT [33] σ=b1 at *
 generalize Sx.atSimple σ=b2 at *
 generalize Sx.isComp (Sx.hd σ).text=b3 at *
 rw[HV.out]
 clear h hne HV
 cases b1 <;> cases b2
 all_goals
  go_enter Tryz.func65,Tryz.ntmps65
  go_wp2_with (first
   |(go_at_call 62;(with_reducible refine HI.out.mono ?_);rintro e w1 ⟨rfl,hl1⟩;have HL1:=Lib.hid hl1;clear hl1)
   |(go_at_call 98;(with_reducible refine(HA.out _ HL1.out).mono ?_);rintro e w2 ⟨rfl,hl2⟩;have HL2:=Lib.hid (HL1.out.trans hl2);clear hl2)
   |(go_at_call 99;(with_reducible refine(HB.out _ HL2.out).mono ?_);rintro e w3 ⟨rfl,hl3⟩;have HL3:=Lib.hid (HL2.out.trans hl3);clear hl3))
  go_ret
  first | exact⟨rfl,HL3.out⟩ | exact⟨rfl,HL2.out⟩ | exact⟨rfl,HL1.out⟩
theorem good_go2 (hg:Sx.good σ.r=true) (hb:nameB (Sx.hd σ).text=true):(Sx.go σ).r≠[]:=Sx.good_ne (Sx.Wk.go hg (.inl (fun e=>by rw[e,Sx.nameB_nil] at hb;cases hb))).gd
theorem atFunc_v (h:PMem W X g C σ) (hg:Sx.good σ.r=true):Calls Tryz.prog 128 #[.pointer (some ⟨g,0,none⟩)] W fun e W'=>e=.returned (.bool (Sx.atFunc σ))∧Later W W':=by
 have hne:=Sx.good_ne hg
 have HP:=Lib.hid (peek_v h hne)
 have HRS:=Lib.hid (fun w=>isReserved_v (Sx.hd σ).text w)
 have HNM:=Lib.hid (name_v (Sx.hd σ).text (small_v h _ (hd_mem hne)))
 have HZ:=Lib.hid (show (tcs C.N (Sx.hd σ)).size=4 from rfl)
 have HO:=Lib.hid (tcs_one C.N (Sx.hd σ))
 have HV:=Lib.hid (show Sx.atFunc σ=(nameB (Sx.hd σ).text && !Sx.isRes (Sx.hd σ).text && ((Sx.hd (Sx.go σ)).text==[40])) from rfl)
 have HT:=Lib.hid (show (tcs C.N (Sx.hd σ))=#[.int .i64 ((Sx.hd σ).kind:Int),.string (mkS (Sx.hd σ).text),.string (mkS (Sx.hd σ).body),.int .i64 ((1+C.N-(Sx.hd σ).left:Nat):Int)] from rfl)
 have hg2:=good_go2 (σ:=σ) hg
 obtain⟨TK,hTK⟩:∃ TK,TK=tcs C.N (Sx.hd σ):=⟨_,rfl⟩
 rw[←hTK] at HP HZ HO HT
 obtain⟨T2,hT2⟩:∃ T2,T2=(Sx.hd (Sx.go σ)).text:=⟨_,rfl⟩
 rw[←hT2] at HV
 obtain⟨T,hT⟩:∃ T,T=(Sx.hd σ).text:=⟨_,rfl⟩
 rw[←hT] at HRS HNM HV HT hg2
 rw[HV.out]
 by_cases hb1:nameB T=true
 ·by_cases hb2:Sx.isRes T=true
  ·rw[hb1,hb2]
   rw[hb1] at HNM
   rw[hb2] at HRS
   clear h hne HV hg2 hT hT2 hTK hb1 hb2 hg
   go_enter Tryz.func128,Tryz.ntmps128
   go_wp2_with (first
    |(go_at_call 29;(with_reducible refine HP.out.mono ?_);rintro e w1 ⟨rfl,hl1⟩;have HL1:=Lib.hid hl1;clear hl1)
    |(refine wpList_allocO 3 rfl rfl 63 rfl _ _ info_tok2 ?_;intro w2 hb2 hl2 hz2;have HB2:=Lib.hid hb2;have HL2:=Lib.hid (HL1.out.trans hl2);have HZ2:=Lib.hid hz2;clear hb2 hl2 hz2)
    |(refine wpList_storeO rfl 63 (.tmp 3) (.tmp 5) rfl w1.heap.size _ TK rfl rfl HB2.out (by rw[HZ.out];exact size_tok) HZ.out.symm HO.out ?_;intro w3 hb3 hg3 hz3;have HL3:=Lib.hid (later_of_new HL2.out hg3 HL1.out.size);rw[HT.out] at hb3;have HB3:=Lib.hid hb3;clear hb3 hg3 hz3))
   obtain⟨N,hN⟩:∃ N,N=w1.heap.size:=⟨_,rfl⟩
   rw[←hN] at HB3⊢
   have HTX:=Lib.hid (show ∀ w,Later w3 w→w.cell? ⟨N,1,none⟩=some (.string (mkS T)) from fun w hw=>(cell_row (later_cells hw HB3.out) 1).1)
   clear hN HB2
   refine wp_region_owes (by kernel_rfl) (Later w3) (Later) (Later.refl) [Sp.val (.pointer (some ⟨N,1,none⟩)),Sp.val (.string (mkS T)),Sp.val (.bool true),Sp.val (.bool true),Sp.val (.pointer (some ⟨N,1,none⟩)),Sp.val (.string (mkS T)),Sp.val (.bool true),Sp.val (.bool false),Sp.val (.bool false),Sp.val (.bool false),Sp.val (undef),Sp.val (undef),Sp.val (undef),Sp.val (undef),Sp.val (undef),Sp.val (undef),Sp.val (undef),Sp.val (undef),Sp.val (undef),Sp.val (undef),Sp.val (undef),Sp.val (undef),Sp.val (undef),Sp.val (.bool false),Sp.val (.bool false)] (by kernel_rfl) (Later.drew w3) ?_ ?_
   ·refine⟨?_,?_,?_,?_,?_,?_,?_,?_,?_,?_,?_,?_,?_,?_,?_,?_,?_,?_,?_,?_,?_,?_,?_,?_,?_,trivial⟩
    ·
     refine fun a w hC hs=>.inl ⟨?_,?_⟩
     ·rfl
     have e3:a.tmps.getD 3 undef=.pointer (some ⟨N,0,none⟩):=hs.free 3 rfl
     refine ValWp.pure (v:=.pointer (some ⟨N,1,none⟩)) (fun K' hK'=>?_) ⟨rfl,hC,Later.refl _⟩
     simp only[ValWp,execOp,Act.eval,e3]
     go_simp
     all_goals exact hK'
    ·
     refine fun a w hC hs=>.inl ⟨?_,?_⟩
     ·rfl
     have e6:a.tmps.getD 6 undef=.pointer (some ⟨N,1,none⟩):=hs.dep 0 _ rfl rfl
     have q4:=HTX.out w hC
     refine ValWp.pure (v:=.string (mkS T)) (fun K' hK'=>?_) ⟨rfl,hC,Later.refl _⟩
     simp only[ValWp,execOp,Act.eval,e6]
     go_simp
     all_goals exact hK'
    ·
     refine fun a w hC hs=>.inl ⟨?_,?_⟩
     ·rfl
     have e7:a.tmps.getD 7 undef=.string (mkS T):=hs.dep 1 _ rfl rfl
     refine ValWp.call #[.string (mkS T)] rfl rfl Tryz.func97 rfl rfl (by simp only[List.map_toArray,List.map_cons,List.map_nil,Act.eval,e7]) ?_
     refine(HNM.out w).mono ?_
     rintro r9 w' ⟨rfl,hl9⟩
     exact⟨_,rfl,rfl,Later.trans hC hl9,hl9⟩
    ·
     refine fun a w hC hs=>.inl ⟨?_,?_⟩
     ·rfl
     have e8:a.tmps.getD 8 undef=.bool true:=hs.dep 2 _ rfl rfl
     exact⟨e8,hC,Later.refl _⟩
    ·
     refine fun a w hC hs=>.inl ⟨?_,?_⟩
     ·exact(by unfold Region.wanted;dsimp only;rw[yielded_bool (d:=9) rfl (hs.dep 3 _ rfl rfl)];rfl)
     have e3:a.tmps.getD 3 undef=.pointer (some ⟨N,0,none⟩):=hs.free 3 rfl
     refine ValWp.pure (v:=.pointer (some ⟨N,1,none⟩)) (fun K' hK'=>?_) ⟨rfl,hC,Later.refl _⟩
     simp only[ValWp,execOp,Act.eval,e3]
     go_simp
     all_goals exact hK'
    ·
     refine fun a w hC hs=>.inl ⟨?_,?_⟩
     ·exact(by unfold Region.wanted;dsimp only;rw[yielded_bool (d:=9) rfl (hs.dep 3 _ rfl rfl)];rfl)
     have e10:a.tmps.getD 10 undef=.pointer (some ⟨N,1,none⟩):=hs.dep 4 _ rfl rfl
     have q4:=HTX.out w hC
     refine ValWp.pure (v:=.string (mkS T)) (fun K' hK'=>?_) ⟨rfl,hC,Later.refl _⟩
     simp only[ValWp,execOp,Act.eval,e10]
     go_simp
     all_goals exact hK'
    ·
     refine fun a w hC hs=>.inl ⟨?_,?_⟩
     ·exact(by unfold Region.wanted;dsimp only;rw[yielded_bool (d:=9) rfl (hs.dep 3 _ rfl rfl)];rfl)
     have e11:a.tmps.getD 11 undef=.string (mkS T):=hs.dep 5 _ rfl rfl
     refine ValWp.call #[.string (mkS T)] rfl rfl Tryz.func119 rfl rfl (by simp only[List.map_toArray,List.map_cons,List.map_nil,Act.eval,e11]) ?_
     refine(HRS.out w).mono ?_
     rintro r9 w' ⟨rfl,rfl⟩
     exact⟨_,rfl,rfl,hC,Later.refl _⟩
    ·
     refine fun a w hC hs=>.inl ⟨?_,?_⟩
     ·exact(by unfold Region.wanted;dsimp only;rw[yielded_bool (d:=9) rfl (hs.dep 3 _ rfl rfl)];rfl)
     have e12:a.tmps.getD 12 undef=.bool true:=hs.dep 6 _ rfl rfl
     refine ValWp.pure (v:=.bool false) (fun K' hK'=>?_) ⟨rfl,hC,Later.refl _⟩
     simp only[ValWp,execOp,Act.eval,e12]
     go_simp
     all_goals exact hK'
    ·
     refine fun a w hC hs=>.inl ⟨?_,?_⟩
     ·rfl
     have e9:a.tmps.getD 9 undef=.bool true:=hs.dep 3 _ rfl rfl
     have e13:a.tmps.getD 13 undef=.bool false:=hs.dep 7 _ rfl rfl
     refine ValWp.pure (v:=.bool false) (fun K' hK'=>?_) ⟨rfl,hC,Later.refl _⟩
     simp only[ValWp,execOp,Act.eval,e9,e13]
     go_simp
     all_goals exact hK'
    ·
     refine fun a w hC hs=>.inl ⟨?_,?_⟩
     ·rfl
     have e14:a.tmps.getD 14 undef=.bool false:=hs.dep 8 _ rfl rfl
     exact⟨e14,hC,Later.refl _⟩
    ·
     exact fun a w hC hs=>.inr ⟨(by unfold Region.wanted;dsimp only;rw[yielded_bool (d:=15) rfl (hs.dep 9 _ rfl rfl)];rfl),rfl⟩
    ·
     exact fun a w hC hs=>.inr ⟨(by unfold Region.wanted;dsimp only;rw[yielded_bool (d:=15) rfl (hs.dep 9 _ rfl rfl)];rfl),rfl⟩
    ·
     exact fun a w hC hs=>.inr ⟨(by unfold Region.wanted;dsimp only;rw[yielded_bool (d:=15) rfl (hs.dep 9 _ rfl rfl)];rfl),rfl⟩
    ·
     exact fun a w hC hs=>.inr ⟨(by unfold Region.wanted;dsimp only;rw[yielded_bool (d:=15) rfl (hs.dep 9 _ rfl rfl)];rfl),rfl⟩
    ·
     exact fun a w hC hs=>.inr ⟨(by unfold Region.wanted;dsimp only;rw[yielded_bool (d:=15) rfl (hs.dep 9 _ rfl rfl)];rfl),rfl⟩
    ·
     exact fun a w hC hs=>.inr ⟨(by unfold Region.wanted;dsimp only;rw[yielded_bool (d:=15) rfl (hs.dep 9 _ rfl rfl)];rfl),rfl⟩
    ·
     exact fun a w hC hs=>.inr ⟨(by unfold Region.wanted;dsimp only;rw[yielded_bool (d:=15) rfl (hs.dep 9 _ rfl rfl)];rfl),rfl⟩
    ·
     exact fun a w hC hs=>.inr ⟨(by unfold Region.wanted;dsimp only;rw[yielded_bool (d:=15) rfl (hs.dep 9 _ rfl rfl)];rfl),rfl⟩
    ·
     exact fun a w hC hs=>.inr ⟨(by unfold Region.wanted;dsimp only;rw[yielded_bool (d:=15) rfl (hs.dep 9 _ rfl rfl)];rfl),rfl⟩
    ·
     exact fun a w hC hs=>.inr ⟨(by unfold Region.wanted;dsimp only;rw[yielded_bool (d:=15) rfl (hs.dep 9 _ rfl rfl)];rfl),rfl⟩
    ·
     exact fun a w hC hs=>.inr ⟨(by unfold Region.wanted;dsimp only;rw[yielded_bool (d:=15) rfl (hs.dep 9 _ rfl rfl)];rfl),rfl⟩
    ·
     exact fun a w hC hs=>.inr ⟨(by unfold Region.wanted;dsimp only;rw[yielded_bool (d:=15) rfl (hs.dep 9 _ rfl rfl)];rfl),rfl⟩
    ·
     exact fun a w hC hs=>.inr ⟨(by unfold Region.wanted;dsimp only;rw[yielded_bool (d:=15) rfl (hs.dep 9 _ rfl rfl)];rfl),rfl⟩
    ·
     refine fun a w hC hs=>.inl ⟨?_,?_⟩
     ·rfl
     have e15:a.tmps.getD 15 undef=.bool false:=hs.dep 9 _ rfl rfl
     have e28:a.tmps.getD 28 undef=undef:=hs.dep 22 _ rfl rfl
     refine ValWp.pure (v:=.bool false) (fun K' hK'=>?_) ⟨rfl,hC,Later.refl _⟩
     simp only[ValWp,execOp,Act.eval,e15,e28]
     go_simp
     all_goals exact hK'
    ·
     refine fun a w hC hs=>.inl ⟨?_,?_⟩
     ·rfl
     have e29:a.tmps.getD 29 undef=.bool false:=hs.dep 23 _ rfl rfl
     exact⟨e29,hC,Later.refl _⟩
   intro a W9 hC hd hsz hfree hs
   have hr:a.tmps.getD 2 undef=.bool false:=hs 24 _ rfl
   go_wp2
   refine bodyPost_ret (results_tmp rfl _ _ _) hd ?_
   rw[hr]
   exact⟨rfl,HL3.out.trans hC⟩
  ·have hb2':Sx.isRes T=false:=by simpa using hb2
   rw[hb1,hb2']
   rw[hb2'] at HRS
   have hg3:=hg2 hb1
   rw[hb1] at HNM
   obtain⟨p,vn,nd,h⟩:=h
   have hlen:=h.len
   have hlg:1<σ.r.length:=by
    have:0<(Sx.go σ).r.length:=List.length_pos_iff.2 hg3
    simp only[Sx.go,List.length_tail] at this
    omega
   have hbig:=h.big
   obtain⟨q,hq⟩:∃ q,q=p+1:=⟨_,rfl⟩
   have hqT:q<C.TS.length:=by omega
   have hhd:Sx.hd (Sx.go σ)=C.TS[q]:=by
    unfold Sx.hd Sx.go
    simp only
    rw[h.rest,List.tail_drop,←hq,List.drop_eq_getElem_cons hqT]
    rfl
   obtain⟨ad,ct,hvt,hct,_,_,_⟩:=tok_at h.tok hqT
   obtain⟨m,hm⟩:∃ m,m=C.TS.length:=⟨_,rfl⟩
   have HCL':=Lib.hid (show ∀ w,Later W w→w.cell? ⟨g,0,none⟩=some (.slice (some ad) m ct)∧w.cell? ⟨g,1,none⟩=some (.int .i64 (p:Int))∧w.cell? ⟨(ad.add (q*4)).block,(ad.add (q*4)).off+1,none⟩=some (.string (mkS T2)) from fun w hw=>by
    have hx:=h.later hw
    refine⟨by rw[hm,←hvt];exact hx.facts.1.1,hx.facts.1.2.1,?_⟩
    obtain⟨ad',ct',hvt',_,_,_,hat⟩:=tok_at hx.tok hqT
    rw[hvt] at hvt'
    injection hvt' with e1 _ _
    injection e1 with e1
    subst e1
    have:=(hat q hqT).c1
    rw[hT2,hhd]
    exact this)
   have HWR:=Lib.hid (show IntKind.i64.wrap ((p:Int)+1)=(p:Int)+1 by rw[IntKind.wrap_i64];omega)
   have HQ:=Lib.hid (show (p:Int)≤5000∧(0:Int)≤(q:Int)∧(q:Int)<(m:Int)∧((p:Int)+1)=(q:Int) from⟨by omega,by omega,by omega,by omega⟩)
   clear h hne HV hg2 hg3 hT hT2 hTK hb1 hb2 hb2' hlen hlg hbig hq hqT hhd hvt hct hm hg
   go_enter Tryz.func128,Tryz.ntmps128
   go_wp2_with (first
    |(go_at_call 29;(with_reducible refine HP.out.mono ?_);rintro e w1 ⟨rfl,hl1⟩;have HL1:=Lib.hid hl1;clear hl1)
    |(refine wpList_allocO 3 rfl rfl 63 rfl _ _ info_tok2 ?_;intro w2 hb2 hl2 hz2;have HB2:=Lib.hid hb2;have HL2:=Lib.hid (HL1.out.trans hl2);have HZ2:=Lib.hid hz2;clear hb2 hl2 hz2)
    |(refine wpList_storeO rfl 63 (.tmp 3) (.tmp 5) rfl w1.heap.size _ TK rfl rfl HB2.out (by rw[HZ.out];exact size_tok) HZ.out.symm HO.out ?_;intro w3 hb3 hg3 hz3;have HL3:=Lib.hid (later_of_new HL2.out hg3 HL1.out.size);rw[HT.out] at hb3;have HB3:=Lib.hid hb3;clear hb3 hg3 hz3))
   obtain⟨N,hN⟩:∃ N,N=w1.heap.size:=⟨_,rfl⟩
   rw[←hN] at HB3⊢
   have HTX:=Lib.hid (show ∀ w,Later w3 w→w.cell? ⟨N,1,none⟩=some (.string (mkS T)) from fun w hw=>(cell_row (later_cells hw HB3.out) 1).1)
   have HCL:=Lib.hid (fun w (hw:Later w3 w)=>HCL'.out w (HL3.out.trans hw))
   clear hN HB2 HCL'
   refine wp_region_owes (by kernel_rfl) (Later w3) (Later) (Later.refl) [Sp.val (.pointer (some ⟨N,1,none⟩)),Sp.val (.string (mkS T)),Sp.val (.bool true),Sp.val (.bool true),Sp.val (.pointer (some ⟨N,1,none⟩)),Sp.val (.string (mkS T)),Sp.val (.bool false),Sp.val (.bool true),Sp.val (.bool true),Sp.val (.bool true),Sp.val (.pointer (some ⟨g,0,none⟩)),Sp.val (.pointer (some ⟨g,0,none⟩)),Sp.val (.pointer (some ⟨g,0,none⟩)),Sp.val (.slice (some ad) m ct),Sp.val (.pointer (some ⟨g,0,none⟩)),Sp.val (.pointer (some ⟨g,0,none⟩)),Sp.val (.pointer (some ⟨g,1,none⟩)),Sp.val (.int .i64 (p:Int)),Sp.val (.int .i64 ((p:Int)+1)),Sp.val (.pointer (some (ad.add (q*4)))),Sp.val (.pointer (some ⟨(ad.add (q*4)).block,(ad.add (q*4)).off+1,none⟩)),Sp.val (.string (mkS T2)),Sp.val (.bool (T2==[40])),Sp.val (.bool (T2==[40])),Sp.val (.bool (T2==[40]))] (by kernel_rfl) (Later.drew w3) ?_ ?_
   ·refine⟨?_,?_,?_,?_,?_,?_,?_,?_,?_,?_,?_,?_,?_,?_,?_,?_,?_,?_,?_,?_,?_,?_,?_,?_,?_,trivial⟩
    ·
     refine fun a w hC hs=>.inl ⟨?_,?_⟩
     ·rfl
     have e3:a.tmps.getD 3 undef=.pointer (some ⟨N,0,none⟩):=hs.free 3 rfl
     refine ValWp.pure (v:=.pointer (some ⟨N,1,none⟩)) (fun K' hK'=>?_) ⟨rfl,hC,Later.refl _⟩
     simp only[ValWp,execOp,Act.eval,e3]
     go_simp
     all_goals exact hK'
    ·
     refine fun a w hC hs=>.inl ⟨?_,?_⟩
     ·rfl
     have e6:a.tmps.getD 6 undef=.pointer (some ⟨N,1,none⟩):=hs.dep 0 _ rfl rfl
     have q4:=HTX.out w hC
     refine ValWp.pure (v:=.string (mkS T)) (fun K' hK'=>?_) ⟨rfl,hC,Later.refl _⟩
     simp only[ValWp,execOp,Act.eval,e6]
     go_simp
     all_goals exact hK'
    ·
     refine fun a w hC hs=>.inl ⟨?_,?_⟩
     ·rfl
     have e7:a.tmps.getD 7 undef=.string (mkS T):=hs.dep 1 _ rfl rfl
     refine ValWp.call #[.string (mkS T)] rfl rfl Tryz.func97 rfl rfl (by simp only[List.map_toArray,List.map_cons,List.map_nil,Act.eval,e7]) ?_
     refine(HNM.out w).mono ?_
     rintro r9 w' ⟨rfl,hl9⟩
     exact⟨_,rfl,rfl,Later.trans hC hl9,hl9⟩
    ·
     refine fun a w hC hs=>.inl ⟨?_,?_⟩
     ·rfl
     have e8:a.tmps.getD 8 undef=.bool true:=hs.dep 2 _ rfl rfl
     exact⟨e8,hC,Later.refl _⟩
    ·
     refine fun a w hC hs=>.inl ⟨?_,?_⟩
     ·exact(by unfold Region.wanted;dsimp only;rw[yielded_bool (d:=9) rfl (hs.dep 3 _ rfl rfl)];rfl)
     have e3:a.tmps.getD 3 undef=.pointer (some ⟨N,0,none⟩):=hs.free 3 rfl
     refine ValWp.pure (v:=.pointer (some ⟨N,1,none⟩)) (fun K' hK'=>?_) ⟨rfl,hC,Later.refl _⟩
     simp only[ValWp,execOp,Act.eval,e3]
     go_simp
     all_goals exact hK'
    ·
     refine fun a w hC hs=>.inl ⟨?_,?_⟩
     ·exact(by unfold Region.wanted;dsimp only;rw[yielded_bool (d:=9) rfl (hs.dep 3 _ rfl rfl)];rfl)
     have e10:a.tmps.getD 10 undef=.pointer (some ⟨N,1,none⟩):=hs.dep 4 _ rfl rfl
     have q4:=HTX.out w hC
     refine ValWp.pure (v:=.string (mkS T)) (fun K' hK'=>?_) ⟨rfl,hC,Later.refl _⟩
     simp only[ValWp,execOp,Act.eval,e10]
     go_simp
     all_goals exact hK'
    ·
     refine fun a w hC hs=>.inl ⟨?_,?_⟩
     ·exact(by unfold Region.wanted;dsimp only;rw[yielded_bool (d:=9) rfl (hs.dep 3 _ rfl rfl)];rfl)
     have e11:a.tmps.getD 11 undef=.string (mkS T):=hs.dep 5 _ rfl rfl
     refine ValWp.call #[.string (mkS T)] rfl rfl Tryz.func119 rfl rfl (by simp only[List.map_toArray,List.map_cons,List.map_nil,Act.eval,e11]) ?_
     refine(HRS.out w).mono ?_
     rintro r9 w' ⟨rfl,rfl⟩
     exact⟨_,rfl,rfl,hC,Later.refl _⟩
    ·
     refine fun a w hC hs=>.inl ⟨?_,?_⟩
     ·exact(by unfold Region.wanted;dsimp only;rw[yielded_bool (d:=9) rfl (hs.dep 3 _ rfl rfl)];rfl)
     have e12:a.tmps.getD 12 undef=.bool false:=hs.dep 6 _ rfl rfl
     refine ValWp.pure (v:=.bool true) (fun K' hK'=>?_) ⟨rfl,hC,Later.refl _⟩
     simp only[ValWp,execOp,Act.eval,e12]
     go_simp
     all_goals exact hK'
    ·
     refine fun a w hC hs=>.inl ⟨?_,?_⟩
     ·rfl
     have e9:a.tmps.getD 9 undef=.bool true:=hs.dep 3 _ rfl rfl
     have e13:a.tmps.getD 13 undef=.bool true:=hs.dep 7 _ rfl rfl
     refine ValWp.pure (v:=.bool true) (fun K' hK'=>?_) ⟨rfl,hC,Later.refl _⟩
     simp only[ValWp,execOp,Act.eval,e9,e13]
     go_simp
     all_goals exact hK'
    ·
     refine fun a w hC hs=>.inl ⟨?_,?_⟩
     ·rfl
     have e14:a.tmps.getD 14 undef=.bool true:=hs.dep 8 _ rfl rfl
     exact⟨e14,hC,Later.refl _⟩
    ·
     refine fun a w hC hs=>.inl ⟨?_,?_⟩
     ·exact(by unfold Region.wanted;dsimp only;rw[yielded_bool (d:=15) rfl (hs.dep 9 _ rfl rfl)];rfl)
     have e0:a.tmps.getD 0 undef=.pointer (some ⟨g,0,none⟩):=hs.free 0 rfl
     exact⟨e0,hC,Later.refl _⟩
    ·
     refine fun a w hC hs=>.inl ⟨?_,?_⟩
     ·exact(by unfold Region.wanted;dsimp only;rw[yielded_bool (d:=15) rfl (hs.dep 9 _ rfl rfl)];rfl)
     have e16:a.tmps.getD 16 undef=.pointer (some ⟨g,0,none⟩):=hs.dep 10 _ rfl rfl
     refine ValWp.pure (v:=.pointer (some ⟨g,0,none⟩)) (fun K' hK'=>?_) ⟨rfl,hC,Later.refl _⟩
     simp only[ValWp,execOp,Act.eval,e16]
     go_simp
     all_goals exact hK'
    ·
     refine fun a w hC hs=>.inl ⟨?_,?_⟩
     ·exact(by unfold Region.wanted;dsimp only;rw[yielded_bool (d:=15) rfl (hs.dep 9 _ rfl rfl)];rfl)
     have e17:a.tmps.getD 17 undef=.pointer (some ⟨g,0,none⟩):=hs.dep 11 _ rfl rfl
     refine ValWp.pure (v:=.pointer (some ⟨g,0,none⟩)) (fun K' hK'=>?_) ⟨rfl,hC,Later.refl _⟩
     simp only[ValWp,execOp,Act.eval,e17]
     go_simp
     all_goals exact hK'
    ·
     refine fun a w hC hs=>.inl ⟨?_,?_⟩
     ·exact(by unfold Region.wanted;dsimp only;rw[yielded_bool (d:=15) rfl (hs.dep 9 _ rfl rfl)];rfl)
     have e18:a.tmps.getD 18 undef=.pointer (some ⟨g,0,none⟩):=hs.dep 12 _ rfl rfl
     have q4:=(HCL.out w hC).1
     refine ValWp.pure (v:=.slice (some ad) m ct) (fun K' hK'=>?_) ⟨rfl,hC,Later.refl _⟩
     simp only[ValWp,execOp,Act.eval,e18]
     go_simp
     all_goals exact hK'
    ·
     refine fun a w hC hs=>.inl ⟨?_,?_⟩
     ·exact(by unfold Region.wanted;dsimp only;rw[yielded_bool (d:=15) rfl (hs.dep 9 _ rfl rfl)];rfl)
     have e0:a.tmps.getD 0 undef=.pointer (some ⟨g,0,none⟩):=hs.free 0 rfl
     exact⟨e0,hC,Later.refl _⟩
    ·
     refine fun a w hC hs=>.inl ⟨?_,?_⟩
     ·exact(by unfold Region.wanted;dsimp only;rw[yielded_bool (d:=15) rfl (hs.dep 9 _ rfl rfl)];rfl)
     have e20:a.tmps.getD 20 undef=.pointer (some ⟨g,0,none⟩):=hs.dep 14 _ rfl rfl
     refine ValWp.pure (v:=.pointer (some ⟨g,0,none⟩)) (fun K' hK'=>?_) ⟨rfl,hC,Later.refl _⟩
     simp only[ValWp,execOp,Act.eval,e20]
     go_simp
     all_goals exact hK'
    ·
     refine fun a w hC hs=>.inl ⟨?_,?_⟩
     ·exact(by unfold Region.wanted;dsimp only;rw[yielded_bool (d:=15) rfl (hs.dep 9 _ rfl rfl)];rfl)
     have e21:a.tmps.getD 21 undef=.pointer (some ⟨g,0,none⟩):=hs.dep 15 _ rfl rfl
     refine ValWp.pure (v:=.pointer (some ⟨g,1,none⟩)) (fun K' hK'=>?_) ⟨rfl,hC,Later.refl _⟩
     simp only[ValWp,execOp,Act.eval,e21]
     go_simp
     all_goals exact hK'
    ·
     refine fun a w hC hs=>.inl ⟨?_,?_⟩
     ·exact(by unfold Region.wanted;dsimp only;rw[yielded_bool (d:=15) rfl (hs.dep 9 _ rfl rfl)];rfl)
     have e22:a.tmps.getD 22 undef=.pointer (some ⟨g,1,none⟩):=hs.dep 16 _ rfl rfl
     have q4:=(HCL.out w hC).2.1
     refine ValWp.pure (v:=.int .i64 (p:Int)) (fun K' hK'=>?_) ⟨rfl,hC,Later.refl _⟩
     simp only[ValWp,execOp,Act.eval,e22]
     go_simp
     all_goals exact hK'
    ·
     refine fun a w hC hs=>.inl ⟨?_,?_⟩
     ·exact(by unfold Region.wanted;dsimp only;rw[yielded_bool (d:=15) rfl (hs.dep 9 _ rfl rfl)];rfl)
     have e23:a.tmps.getD 23 undef=.int .i64 (p:Int):=hs.dep 17 _ rfl rfl
     have q4:=HWR.out
     refine ValWp.pure (v:=.int .i64 ((p:Int)+1)) (fun K' hK'=>?_) ⟨rfl,hC,Later.refl _⟩
     simp only[ValWp,execOp,Act.eval,e23]
     go_simp
     all_goals exact hK'
    ·
     refine fun a w hC hs=>.inl ⟨?_,?_⟩
     ·exact(by unfold Region.wanted;dsimp only;rw[yielded_bool (d:=15) rfl (hs.dep 9 _ rfl rfl)];rfl)
     have e19:a.tmps.getD 19 undef=.slice (some ad) m ct:=hs.dep 13 _ rfl rfl
     have e24:a.tmps.getD 24 undef=.int .i64 ((p:Int)+1):=hs.dep 18 _ rfl rfl
     have q4:=HQ.out.2.1
     have q5:=HQ.out.2.2.1
     have q6:=HQ.out.2.2.2
     refine ValWp.pure (v:=.pointer (some (ad.add (q*4)))) (fun K' hK'=>?_) ⟨rfl,hC,Later.refl _⟩
     simp only[ValWp,execOp,Act.eval,e19,e24]
     go_simp
     all_goals exact hK'
    ·
     refine fun a w hC hs=>.inl ⟨?_,?_⟩
     ·exact(by unfold Region.wanted;dsimp only;rw[yielded_bool (d:=15) rfl (hs.dep 9 _ rfl rfl)];rfl)
     have e25:a.tmps.getD 25 undef=.pointer (some (ad.add (q*4))):=hs.dep 19 _ rfl rfl
     refine ValWp.pure (v:=.pointer (some ⟨(ad.add (q*4)).block,(ad.add (q*4)).off+1,none⟩)) (fun K' hK'=>?_) ⟨rfl,hC,Later.refl _⟩
     simp only[ValWp,execOp,Act.eval,e25]
     go_simp
     all_goals exact hK'
    ·
     refine fun a w hC hs=>.inl ⟨?_,?_⟩
     ·exact(by unfold Region.wanted;dsimp only;rw[yielded_bool (d:=15) rfl (hs.dep 9 _ rfl rfl)];rfl)
     have e26:a.tmps.getD 26 undef=.pointer (some ⟨(ad.add (q*4)).block,(ad.add (q*4)).off+1,none⟩):=hs.dep 20 _ rfl rfl
     have q4:=(HCL.out w hC).2.2
     refine ValWp.pure (v:=.string (mkS T2)) (fun K' hK'=>?_) ⟨rfl,hC,Later.refl _⟩
     simp only[ValWp,execOp,Act.eval,e26]
     go_simp
     all_goals exact hK'
    ·
     refine fun a w hC hs=>.inl ⟨?_,?_⟩
     ·exact(by unfold Region.wanted;dsimp only;rw[yielded_bool (d:=15) rfl (hs.dep 9 _ rfl rfl)];rfl)
     have e27:a.tmps.getD 27 undef=.string (mkS T2):=hs.dep 21 _ rfl rfl
     have q4:=txt_eq T2 [40]
     refine ValWp.pure (v:=.bool (T2==[40])) (fun K' hK'=>?_) ⟨rfl,hC,Later.refl _⟩
     simp only[ValWp,execOp,Act.eval,e27]
     go_simp
     all_goals exact hK'
    ·
     refine fun a w hC hs=>.inl ⟨?_,?_⟩
     ·rfl
     have e15:a.tmps.getD 15 undef=.bool true:=hs.dep 9 _ rfl rfl
     have e28:a.tmps.getD 28 undef=.bool (T2==[40]):=hs.dep 22 _ rfl rfl
     refine ValWp.pure (v:=.bool (T2==[40])) (fun K' hK'=>?_) ⟨rfl,hC,Later.refl _⟩
     simp only[ValWp,execOp,Act.eval,e15,e28]
     go_simp
     all_goals exact hK'
    ·
     refine fun a w hC hs=>.inl ⟨?_,?_⟩
     ·rfl
     have e29:a.tmps.getD 29 undef=.bool (T2==[40]):=hs.dep 23 _ rfl rfl
     exact⟨e29,hC,Later.refl _⟩
   intro a W9 hC hd hsz hfree hs
   have hr:a.tmps.getD 2 undef=.bool (T2==[40]):=hs 24 _ rfl
   go_wp2
   refine bodyPost_ret (results_tmp rfl _ _ _) hd ?_
   rw[hr]
   exact⟨rfl,HL3.out.trans hC⟩
 ·have hb1':nameB T=false:=by simpa using hb1
  rw[hb1']
  rw[hb1'] at HNM
  clear h hne HV hg2 hT hT2 hTK hb1 hb1' hg
  go_enter Tryz.func128,Tryz.ntmps128
  go_wp2_with (first
   |(go_at_call 29;(with_reducible refine HP.out.mono ?_);rintro e w1 ⟨rfl,hl1⟩;have HL1:=Lib.hid hl1;clear hl1)
   |(refine wpList_allocO 3 rfl rfl 63 rfl _ _ info_tok2 ?_;intro w2 hb2 hl2 hz2;have HB2:=Lib.hid hb2;have HL2:=Lib.hid (HL1.out.trans hl2);have HZ2:=Lib.hid hz2;clear hb2 hl2 hz2)
   |(refine wpList_storeO rfl 63 (.tmp 3) (.tmp 5) rfl w1.heap.size _ TK rfl rfl HB2.out (by rw[HZ.out];exact size_tok) HZ.out.symm HO.out ?_;intro w3 hb3 hg3 hz3;have HL3:=Lib.hid (later_of_new HL2.out hg3 HL1.out.size);rw[HT.out] at hb3;have HB3:=Lib.hid hb3;clear hb3 hg3 hz3))
  obtain⟨N,hN⟩:∃ N,N=w1.heap.size:=⟨_,rfl⟩
  rw[←hN] at HB3⊢
  have HTX:=Lib.hid (show ∀ w,Later w3 w→w.cell? ⟨N,1,none⟩=some (.string (mkS T)) from fun w hw=>(cell_row (later_cells hw HB3.out) 1).1)
  clear hN HB2
  refine wp_region_owes (by kernel_rfl) (Later w3) (Later) (Later.refl) [Sp.val (.pointer (some ⟨N,1,none⟩)),Sp.val (.string (mkS T)),Sp.val (.bool false),Sp.val (.bool false),Sp.val (undef),Sp.val (undef),Sp.val (undef),Sp.val (undef),Sp.val (.bool false),Sp.val (.bool false),Sp.val (undef),Sp.val (undef),Sp.val (undef),Sp.val (undef),Sp.val (undef),Sp.val (undef),Sp.val (undef),Sp.val (undef),Sp.val (undef),Sp.val (undef),Sp.val (undef),Sp.val (undef),Sp.val (undef),Sp.val (.bool false),Sp.val (.bool false)] (by kernel_rfl) (Later.drew w3) ?_ ?_
  ·refine⟨?_,?_,?_,?_,?_,?_,?_,?_,?_,?_,?_,?_,?_,?_,?_,?_,?_,?_,?_,?_,?_,?_,?_,?_,?_,trivial⟩
   ·
    refine fun a w hC hs=>.inl ⟨?_,?_⟩
    ·rfl
    have e3:a.tmps.getD 3 undef=.pointer (some ⟨N,0,none⟩):=hs.free 3 rfl
    refine ValWp.pure (v:=.pointer (some ⟨N,1,none⟩)) (fun K' hK'=>?_) ⟨rfl,hC,Later.refl _⟩
    simp only[ValWp,execOp,Act.eval,e3]
    go_simp
    all_goals exact hK'
   ·
    refine fun a w hC hs=>.inl ⟨?_,?_⟩
    ·rfl
    have e6:a.tmps.getD 6 undef=.pointer (some ⟨N,1,none⟩):=hs.dep 0 _ rfl rfl
    have q4:=HTX.out w hC
    refine ValWp.pure (v:=.string (mkS T)) (fun K' hK'=>?_) ⟨rfl,hC,Later.refl _⟩
    simp only[ValWp,execOp,Act.eval,e6]
    go_simp
    all_goals exact hK'
   ·
    refine fun a w hC hs=>.inl ⟨?_,?_⟩
    ·rfl
    have e7:a.tmps.getD 7 undef=.string (mkS T):=hs.dep 1 _ rfl rfl
    refine ValWp.call #[.string (mkS T)] rfl rfl Tryz.func97 rfl rfl (by simp only[List.map_toArray,List.map_cons,List.map_nil,Act.eval,e7]) ?_
    refine(HNM.out w).mono ?_
    rintro r9 w' ⟨rfl,hl9⟩
    exact⟨_,rfl,rfl,Later.trans hC hl9,hl9⟩
   ·
    refine fun a w hC hs=>.inl ⟨?_,?_⟩
    ·rfl
    have e8:a.tmps.getD 8 undef=.bool false:=hs.dep 2 _ rfl rfl
    exact⟨e8,hC,Later.refl _⟩
   ·
    exact fun a w hC hs=>.inr ⟨(by unfold Region.wanted;dsimp only;rw[yielded_bool (d:=9) rfl (hs.dep 3 _ rfl rfl)];rfl),rfl⟩
   ·
    exact fun a w hC hs=>.inr ⟨(by unfold Region.wanted;dsimp only;rw[yielded_bool (d:=9) rfl (hs.dep 3 _ rfl rfl)];rfl),rfl⟩
   ·
    exact fun a w hC hs=>.inr ⟨(by unfold Region.wanted;dsimp only;rw[yielded_bool (d:=9) rfl (hs.dep 3 _ rfl rfl)];rfl),rfl⟩
   ·
    exact fun a w hC hs=>.inr ⟨(by unfold Region.wanted;dsimp only;rw[yielded_bool (d:=9) rfl (hs.dep 3 _ rfl rfl)];rfl),rfl⟩
   ·
    refine fun a w hC hs=>.inl ⟨?_,?_⟩
    ·rfl
    have e9:a.tmps.getD 9 undef=.bool false:=hs.dep 3 _ rfl rfl
    have e13:a.tmps.getD 13 undef=undef:=hs.dep 7 _ rfl rfl
    refine ValWp.pure (v:=.bool false) (fun K' hK'=>?_) ⟨rfl,hC,Later.refl _⟩
    simp only[ValWp,execOp,Act.eval,e9,e13]
    go_simp
    all_goals exact hK'
   ·
    refine fun a w hC hs=>.inl ⟨?_,?_⟩
    ·rfl
    have e14:a.tmps.getD 14 undef=.bool false:=hs.dep 8 _ rfl rfl
    exact⟨e14,hC,Later.refl _⟩
   ·
    exact fun a w hC hs=>.inr ⟨(by unfold Region.wanted;dsimp only;rw[yielded_bool (d:=15) rfl (hs.dep 9 _ rfl rfl)];rfl),rfl⟩
   ·
    exact fun a w hC hs=>.inr ⟨(by unfold Region.wanted;dsimp only;rw[yielded_bool (d:=15) rfl (hs.dep 9 _ rfl rfl)];rfl),rfl⟩
   ·
    exact fun a w hC hs=>.inr ⟨(by unfold Region.wanted;dsimp only;rw[yielded_bool (d:=15) rfl (hs.dep 9 _ rfl rfl)];rfl),rfl⟩
   ·
    exact fun a w hC hs=>.inr ⟨(by unfold Region.wanted;dsimp only;rw[yielded_bool (d:=15) rfl (hs.dep 9 _ rfl rfl)];rfl),rfl⟩
   ·
    exact fun a w hC hs=>.inr ⟨(by unfold Region.wanted;dsimp only;rw[yielded_bool (d:=15) rfl (hs.dep 9 _ rfl rfl)];rfl),rfl⟩
   ·
    exact fun a w hC hs=>.inr ⟨(by unfold Region.wanted;dsimp only;rw[yielded_bool (d:=15) rfl (hs.dep 9 _ rfl rfl)];rfl),rfl⟩
   ·
    exact fun a w hC hs=>.inr ⟨(by unfold Region.wanted;dsimp only;rw[yielded_bool (d:=15) rfl (hs.dep 9 _ rfl rfl)];rfl),rfl⟩
   ·
    exact fun a w hC hs=>.inr ⟨(by unfold Region.wanted;dsimp only;rw[yielded_bool (d:=15) rfl (hs.dep 9 _ rfl rfl)];rfl),rfl⟩
   ·
    exact fun a w hC hs=>.inr ⟨(by unfold Region.wanted;dsimp only;rw[yielded_bool (d:=15) rfl (hs.dep 9 _ rfl rfl)];rfl),rfl⟩
   ·
    exact fun a w hC hs=>.inr ⟨(by unfold Region.wanted;dsimp only;rw[yielded_bool (d:=15) rfl (hs.dep 9 _ rfl rfl)];rfl),rfl⟩
   ·
    exact fun a w hC hs=>.inr ⟨(by unfold Region.wanted;dsimp only;rw[yielded_bool (d:=15) rfl (hs.dep 9 _ rfl rfl)];rfl),rfl⟩
   ·
    exact fun a w hC hs=>.inr ⟨(by unfold Region.wanted;dsimp only;rw[yielded_bool (d:=15) rfl (hs.dep 9 _ rfl rfl)];rfl),rfl⟩
   ·
    exact fun a w hC hs=>.inr ⟨(by unfold Region.wanted;dsimp only;rw[yielded_bool (d:=15) rfl (hs.dep 9 _ rfl rfl)];rfl),rfl⟩
   ·
    refine fun a w hC hs=>.inl ⟨?_,?_⟩
    ·rfl
    have e15:a.tmps.getD 15 undef=.bool false:=hs.dep 9 _ rfl rfl
    have e28:a.tmps.getD 28 undef=undef:=hs.dep 22 _ rfl rfl
    refine ValWp.pure (v:=.bool false) (fun K' hK'=>?_) ⟨rfl,hC,Later.refl _⟩
    simp only[ValWp,execOp,Act.eval,e15,e28]
    go_simp
    all_goals exact hK'
   ·
    refine fun a w hC hs=>.inl ⟨?_,?_⟩
    ·rfl
    have e29:a.tmps.getD 29 undef=.bool false:=hs.dep 23 _ rfl rfl
    exact⟨e29,hC,Later.refl _⟩
  intro a W9 hC hd hsz hfree hs
  have hr:a.tmps.getD 2 undef=.bool false:=hs 24 _ rfl
  go_wp2
  refine bodyPost_ret (results_tmp rfl _ _ _) hd ?_
  rw[hr]
  exact⟨rfl,HL3.out.trans hC⟩
end
end Pz
end Go.Proofs.YtkkchkkpnlnbgaaGreatDoor
namespace Go.Proofs.YtkkchkkpnlnbgaaGreatDoor
open Go.RowKit Go.Maps
open Lx (Tok nl)
namespace Pz
theorem num_snoc (l:Lx.L) (c:UInt8):Sx.num (l++[c])=min (Sx.num l*10+(c-48).toNat) 99:=by
 unfold Sx.num
 rw[List.foldl_append]
 rfl
theorem num_le (l:Lx.L):Sx.num l≤99:=by
 rcases List.eq_nil_or_concat l with rfl | ⟨m,c,rfl⟩
 ·simp[Sx.num]
 ·rw[List.concat_eq_append,num_snoc];omega
theorem sub48 (c:UInt8):IntKind.u8.wrap ((c.toNat:Int)-48)=(((c-48).toNat:Nat):Int):=by
 have h:=c.toNat_lt
 rw[UInt8.toNat_sub]
 simp only[IntKind.wrap,IntKind.bits,IntKind.signed]
 simp
 omega
theorem number_v (l:Lx.L) (hl:l.length≤5000) (W:World):Calls Tryz.prog 148 #[.string (mkS l)] W fun e W'=>e=.returned (.int .i64 (Sx.num l:Int))∧Later W W':=by
 obtain⟨c,W2,hcv,hl2,hr2⟩:=conv_str W l W.heap.size rfl
 obtain⟨n,hn⟩:∃ n,n=l.length:=⟨_,rfl⟩
 rw[←hn] at hcv hr2 hl
 have HL2:=Lib.hid hl2
 have HR:=Lib.hid hr2
 have HN:=Lib.hid hn
 clear hl2 hr2 hn
 go_enter Tryz.func148,Tryz.ntmps148
 go_wp2
 go_loopw [3,9] (fun v i wr=>∃ (k:Nat),k≤n∧i=.int .i64 (k:Int)∧v=.int .i64 (Sx.num (l.take k):Int)∧Later W2 wr) (fun _ i _=>n-(intOf i).toNat)
 case atStart=>exact⟨0,by omega,rfl,rfl,Later.refl _⟩
 case round=>
  obtain⟨k,hk,rfl,rfl,hlt⟩:=hrel
  have HLT:=Lib.hid hlt
  clear hlt
  obtain⟨q,hq⟩:∃ q,q=Sx.num (l.take k):=⟨_,rfl⟩
  have hq99:=num_le (l.take k)
  rw[←hq] at hq99⊢
  by_cases hkn:k<n
  ·obtain⟨ad,hlk,had,_,hcell⟩:=(HR.out.keep (fun p hp=>HLT.out.cell hp)).byte hkn
   obtain⟨x,hx⟩:∃ x,x=l[k]:=⟨_,rfl⟩
   rw[←hx] at hcell
   injection had with had
   have hcell2:wr.cell? ((⟨W.heap.size,0,none⟩:Addr).add k)=some (.int .u8 (x.toNat:Int)):=by rw[had];exact hcell
   rw[add_lit0] at hcell2
   have hk0:(0:Int)≤(k:Int):=by omega
   have hk1:(k:Int)<(n:Int):=by omega
   have hs:=sub48 x
   have hx2:=(x-48).toNat_lt
   obtain⟨y,hy⟩:∃ y,y=(x-48).toNat:=⟨_,rfl⟩
   obtain⟨m,hm⟩:∃ m,m=Sx.num (l.take (k+1)):=⟨_,rfl⟩
   have hmq:m=min (q*10+y) 99:=by rw[hm,List.take_succ_eq_append_getElem hlk,num_snoc,hq,hy,hx]
   rw[←hy] at hs hx2
   have HMN:=Lib.hid hm
   have hmin:(if (99:Int)<(q:Int)*10+(y:Int) then (99:Int) else (q:Int)*10+(y:Int))=(m:Int):=by rw[hmq];split <;> omega
   have hq0:(q:Int)≤99:=by omega
   have hy0:(y:Int)≤255:=by omega
   clear hx hcell had hlk hy hm hmq hq hq99 hx2
   go_wp2
   go_roundw
   case rel=>exact⟨k+1,by omega,by go_num,by rw[←HMN.out],HLT.out⟩
   case measure=>simp[intOf];omega
  ·obtain hke:k=n:=by omega
   have HQ:=Lib.hid (show q=Sx.num l by rw[hq,hke,HN.out,List.take_length])
   clear hq hke
   go_wp2
   go_ret
   exact⟨by rw[←HQ.out];rfl,HL2.out.trans HLT.out⟩
theorem file_v (io op:Lx.L) (hl:io.length≤5000) (W:World):Calls Tryz.prog 142 #[.string (mkS io),.string (mkS op)] W fun e W'=>e=.returned (.int .i64 (Sx.file io op:Int))∧Later W W':=by
 have HN:=Lib.hid (number_v io hl W)
 have e0:=txt_eq io []
 have e1:=txt_eq op [60]
 have e2:=txt_eq op [60,60]
 by_cases h0:io=[]
 ·have HF:=Lib.hid (show Sx.file io op=if op=[60]∨op=[60,60] then 0 else 1 by unfold Sx.file;rw[if_neg (by simpa using h0)])
  have h00:((mkS io).toList==([]:List UInt8))=true:=by rw[e0,h0];rfl
  have h01:(mkS io).toList=[]:=by simpa using h00
  by_cases h1:op=[60]
  ·have h10:((mkS op).toList==[60])=true:=by rw[e1,h1];rfl
   have HG:=Lib.hid (show Sx.file io op=0 by rw[HF.out,if_pos (.inl h1)])
   clear e0 e1 e2 h0 h1
   go_enter Tryz.func142,Tryz.ntmps142
   go_wp2
   go_ret
   exact⟨by rw[HG.out];rfl,Later.refl _⟩
  ·have h10:((mkS op).toList==[60])=false:=by rw[e1];simpa using h1
   by_cases h2:op=[60,60]
   ·have h20:((mkS op).toList==[60,60])=true:=by rw[e2,h2];rfl
    have HG:=Lib.hid (show Sx.file io op=0 by rw[HF.out,if_pos (.inr h2)])
    clear e0 e1 e2 h0 h1 h2
    go_enter Tryz.func142,Tryz.ntmps142
    go_wp2
    go_ret
    exact⟨by rw[HG.out];rfl,Later.refl _⟩
   ·have h20:((mkS op).toList==[60,60])=false:=by rw[e2];simpa using h2
    have HG:=Lib.hid (show Sx.file io op=1 by rw[HF.out,if_neg (by rintro(e | e);exact h1 e;exact h2 e)])
    clear e0 e1 e2 h0 h1 h2
    go_enter Tryz.func142,Tryz.ntmps142
    go_wp2
    go_ret
    exact⟨by rw[HG.out];rfl,Later.refl _⟩
 ·have HG:=Lib.hid (show Sx.file io op=Sx.num io by unfold Sx.file;rw[if_pos h0])
  have h01:(mkS io).toList.isEmpty=false:=by rw[toList_mkS];simpa using h0
  clear e0 e1 e2 h0
  go_enter Tryz.func142,Tryz.ntmps142
  go_wp2_with (first
   |(go_at_call 148;(with_reducible refine HN.out.mono ?_);rintro e w1 ⟨rfl,hl1⟩))
  go_ret
  exact⟨by rw[HG.out];rfl,hl1⟩
theorem row_at {w:World} {B n:Nat} {e:TypeId} {v:Value} {ws:List Lx.L} (h:w.ownsRow B e 1 v n (ws.map sv)) {k:Nat} (hk:k<ws.length):∃ g c,v=.slice (some ⟨g,0,none⟩) n c∧n≤c∧g<w.heap.size∧w.cell? ⟨g,k,none⟩=some (sv ws[k]):=by
 rcases h.2 with⟨rfl,h0⟩ | ⟨g,cap,cur,rfl,hb,hh,hnc,hcm,hcs,htake⟩
 ·have:=h.1;simp at this;omega
 ·refine⟨g,cap,rfl,hnc,lt_of_block hh,?_⟩
  have:=h.cells (g:=g) rfl k (sv ws[k]) (by simp[hk])
  rwa[add_lit0] at this
theorem sets_take (ws:List Lx.L) (k:Nat) (hk:k<ws.length) (h:∀ j,j<k→∀ hj:j<ws.length,(setsM ws[j]).2.2=true) (hf:(setsM ws[k]).2.2=false):Sx.sets ws=k:=by
 induction ws generalizing k with
 | nil=>simp at hk
 | cons w ws ih=>
  cases k with
  | zero=>simp only[List.getElem_cons_zero] at hf;simp[Sx.sets,hf]
  | succ k=>
   have h0:=h 0 (by omega) (by simp)
   simp only[List.getElem_cons_zero] at h0
   have:=ih k (by simpa using hk) (fun j hj hl=>by have:=h (j+1) (by omega) (by simpa using hl);simpa using this) (by simpa using hf)
   simp[Sx.sets,h0,this]
theorem sets_all (ws:List Lx.L) (h:∀ j,∀ hj:j<ws.length,(setsM ws[j]).2.2=true):Sx.sets ws=ws.length:=by
 induction ws with
 | nil=>rfl
 | cons w ws ih=>
  have h0:=h 0 (by simp)
  simp only[List.getElem_cons_zero] at h0
  have:=ih fun j hj=>by have:=h (j+1) (by simpa using hj);simpa using this
  simp[Sx.sets,h0,this]
theorem setsOf_v (ws:List Lx.L) (hs:∀ w∈ws,w.length≤5000) (A:Option Addr) (n c:Nat) (hn:n=ws.length) (hn5:n≤100000) (W:World) (h:W.ownsRow 0 9 1 (.slice A n c) n (ws.map sv)):Calls Tryz.prog 138 #[.slice A n c] W fun e W'=>e=.returned (.int .i64 (Sx.sets ws:Int))∧Later W W':=by
 have H:=Lib.hid h
 have HS:=Lib.hid hs
 have HN:=Lib.hid hn
 clear h hs hn
 go_enter Tryz.func138,Tryz.ntmps138
 go_wp2
 go_loopw [10] (fun i wr=>∃ (k:Nat),k≤n∧i=.int .i64 (k:Int)∧(∀ j,j<k→∀ hj:j<ws.length,(setsM ws[j]).2.2=true)∧Later W wr) (fun i _=>n-(intOf i).toNat)
 case atStart=>exact⟨0,by omega,rfl,fun j hj=>by omega,Later.refl _⟩
 case round=>
  obtain⟨k,hk,rfl,hall,hlt⟩:=hrel
  have HLT:=Lib.hid hlt
  have HALL:=Lib.hid hall
  clear hlt hall
  by_cases hkn:k<n
  ·have hkl:k<ws.length:=by rw[←HN.out];exact hkn
   obtain⟨b,cc,e1,hnc,hlb,hc⟩:=row_at (own_below H.out HLT.out) hkl
   injection e1 with e1 e2 e3
   subst e1
   subst e3
   unfold sv at hc
   obtain⟨wk,hwk⟩:∃ wk,wk=ws[k]:=⟨_,rfl⟩
   rw[←hwk] at hc
   have HSV:=Lib.hid (fun W=>sets_v wk (HS.out wk (by rw[hwk];exact List.getElem_mem _)) W)
   have hk0:(0:Int)≤(k:Int):=by omega
   have hk1:(k:Int)<(n:Int):=by omega
   by_cases hb:(setsM wk).2.2=true
   ·have hb9:=hb
    have HNX:=Lib.hid (show ∀ j,j<k+1→∀ hj:j<ws.length,(setsM ws[j]).2.2=true from fun j hj hl=>by
     by_cases hjk:j=k
     ·subst hjk;rw[←hwk];exact hb
     ·exact HALL.out j (by omega) hl)
    rw[hb] at HSV
    clear hwk hb hb9
    go_wp2_with (first
     |(go_at_call 143;(with_reducible refine(HSV.out _).mono ?_);rintro e w1 ⟨rfl,hl1⟩;have HL1:=Lib.hid (HLT.out.trans hl1);clear hl1))
    go_roundw
    case rel=>exact⟨k+1,by omega,by go_num,HNX.out,HL1.out⟩
    case measure=>simp[intOf];omega
   ·have hb2:(setsM wk).2.2=false:=by simpa using hb
    have HR:=Lib.hid (sets_take ws k hkl HALL.out (by rw[←hwk];exact hb2))
    rw[hb2] at HSV
    clear hwk hb hb2
    go_wp2_with (first
     |(go_at_call 143;(with_reducible refine(HSV.out _).mono ?_);rintro e w1 ⟨rfl,hl1⟩;have HL1:=Lib.hid (HLT.out.trans hl1);clear hl1))
    go_ret
    exact⟨by rw[HR.out];rfl,HL1.out⟩
  ·obtain hke:k=n:=by omega
   have HR:=Lib.hid (show Sx.sets ws=n by rw[HN.out];exact sets_all ws fun j hj=>HALL.out j (by have:=HN.out;omega) hj)
   clear hke
   go_wp2
   go_ret
   exact⟨by rw[HR.out];rfl,HLT.out⟩
end Pz
end Go.Proofs.YtkkchkkpnlnbgaaGreatDoor
namespace Go.Proofs.YtkkchkkpnlnbgaaGreatDoor
open Go.RowKit Go.Maps
open Lx (Tok nl)
theorem info_node3:(Tryz.prog.info? 37).map (fun i=>(i.zero,i.size,i.bytes))=some (some (.agg #[.int .i64 0,.string ⟨#[]⟩,.bool false,.slice none 0 0,.int .i64 0,.slice none 0 0,.slice none 0 0,.int .i64 0]),8,120):=by kernel_rfl
theorem own_any {w:World} {base size n:Nat} {e:TypeId} {v:Value} {xs:List Value} (h:w.ownsRow base e size v n xs):∃ A c,v=.slice A n c∧n≤c:=by
 rcases h.2 with⟨rfl,rfl⟩ | ⟨g,cap,cur,rfl,_,_,hnc,_⟩
 ·exact⟨none,0,rfl,Nat.le_refl _⟩
 ·exact⟨_,_,rfl,hnc⟩
theorem ncs_one {W:World} {n:Sx.Node} {v:Vals} (h:Nest W n v) (N k:Nat):∀ u∈ncs n v (lnv N k),u.oneCell'=true:=by
 obtain⟨_,_,e1,_⟩:=own_any h.w
 obtain⟨_,_,e2,_⟩:=own_any h.r
 obtain⟨_,_,e3,_⟩:=own_any h.k
 intro u hu
 unfold ncs at hu
 rw[e1,e2,e3] at hu
 simp only[List.mem_cons,List.not_mem_nil,or_false] at hu
 rcases hu with rfl | rfl | rfl | rfl | rfl | rfl | rfl | rfl <;> rfl
def XL (X:Nat→Prop) (W:World):Prop:=∀ b,X b→b<W.heap.size
theorem XL.mono {X:Nat→Prop} {W W':World} (h:XL X W) (hs:W.heap.size≤W'.heap.size):XL X W':=fun b hb=>Nat.lt_of_lt_of_le (h b hb) hs
theorem PMemX.added {W W':World} {X:Nat→Prop} {g p:Nat} {C:Ctx} {σ:Sx.St} {vn:Value} {nd:List (Sx.Node×Vals)} {n:Sx.Node} {v:Vals} (h:PMemX W (plus X (blks v)) g C σ p vn nd) (hc:CtxX X C) (hXL:XL X W) (hn:Nest W n v) (hx:∀ b∈blks v,¬ X b) {v':Value}
  (ho:W'.ownsRow 0 37 8 v' (nd.length+1) (cellsN C.N nd++ncs n v (lnv C.N n.left))) (hg:W.grownBy W' vn.ownBlock) (hm:v'.ownBlock=vn.ownBlock∨∃ b,v'.ownBlock=some b∧W.heap.size≤b) :
  PMem (W'.setCell ⟨g,3,none⟩ v') X g C { σ with ns:=σ.ns++[n] }:=by
 have hgv:vn.ownBlock≠some g:=fun e=>by
  obtain⟨cs,hb⟩:=own_type h.row e
  rw[h.box] at hb
  injection hb with hb
  injection hb with _ hb _
  revert hb
  decide
 have hbx:W'.heap[g]?=some (.cells (PC C p σ.d vn) 49 (0,0)):=(hg.block g h.lt (fun e=>hgv e.symm)).trans h.box
 have hs:=set_only W' g 3 v'
 have hgt:∀ b cs t,W'.heap[b]?=some (.cells cs t (0,0))→t≠49→b≠g:=fun b cs t hb ht e=>by
  rw[e,hbx] at hb
  injection hb with hb
  injection hb with _ hb _
  exact ht hb.symm
 have hvt:∀ b cs t,W.heap[b]?=some (.cells cs t (0,0))→t≠37→some b≠vn.ownBlock:=fun b cs t hb ht e=>by
  obtain⟨cs',hb'⟩:=own_type h.row e.symm
  rw[hb] at hb'
  injection hb' with hb'
  injection hb' with _ hb' _
  exact ht hb'
 have hnest:∀ x:Sx.Node×Vals,Nest W x.1 x.2→Nest (W'.setCell ⟨g,3,none⟩ v') x.1 x.2:=fun x hx1=>by
  have h1:=hx1.grown hg fun b hb=>by
   obtain⟨cs,t,hb1,ht⟩:=hx1.types hb
   refine hvt b cs t hb1 ?_
   rcases ht with rfl | rfl | rfl <;> decide
  exact h1.grown hs fun b hb e=>by
   injection e with e
   obtain⟨cs,t,hb1,ht⟩:=h1.types hb
   refine hgt b cs t hb1 ?_ e
   rcases ht with rfl | rfl | rfl <;> decide
 have htok:W'.ownsRow 0 63 4 C.vt C.TS.length (cellsT C.N C.TS):=by
  refine h.tok.kept hg ?_
  cases e:C.vt.ownBlock with
  | none=>exact .inl rfl
  | some b=>
   obtain⟨cs,hb⟩:=own_type h.tok e
   exact .inr (hvt b cs _ hb (by decide))
 have htab:TabS W' C.ms 30 compT:=h.tab.kept hg fun e=>by
  obtain⟨es,cl,h1⟩:=h.tab.is_map
  obtain⟨cs',hb'⟩:=own_type h.row e.symm
  rw[h1] at hb'
  cases hb'
 refine⟨p,v',nd++[(n,v)],set_row hbx 3 v',fun e=>h.gX (.inl e),h.rest,h.len,htok.kept hs (.inr fun e=>?_),hc.1,htab.kept hs (fun e=>?_),hc.2,by rw[List.map_append,h.ns];rfl,?_,fun b e e2=>?_,h.big,h.sml,fun x hx'=>?_⟩
 ·obtain⟨cs,hb⟩:=own_type htok e;exact hgt g cs _ hb (by decide) rfl
 ·injection e with e;obtain⟨es,cl,hb⟩:=htab.is_map;rw[e,hbx] at hb;cases hb
 ·rw[show (nd++[(n,v)]).length=nd.length+1 by simp]
  have:cellsN C.N (nd++[(n,v)])=cellsN C.N nd++ncs n v (lnv C.N n.left):=by simp[cellsN]
  rw[this]
  exact ho.kept hs (.inr fun e=>by obtain⟨cs,hb⟩:=own_type ho e;exact hgt g cs _ hb (by decide) rfl)
 ·rcases hm with h1 | ⟨b',h1,h2⟩
  ·exact h.rX b (h1.symm.trans e) (.inl e2)
  ·have h3:=hXL b e2
   rw[h1] at e
   injection e with e
   omega
 ·rcases List.mem_append.1 hx' with h1 | h1
  ·exact⟨hnest x (h.nest x h1).1,fun b hb e=>(h.nest x h1).2 b hb (.inl e)⟩
  ·simp only[List.mem_singleton] at h1
   subst h1
   exact⟨hnest _ hn,hx⟩
namespace Pz
section
variable {W:World} {X:Nat→Prop} {g:Nat} {C:Ctx} {σ:Sx.St}
theorem add_v (n:Sx.Node) (v:Vals) (NC:Array Value) (hNC:NC=(ncs n v (lnv C.N n.left)).toArray) (h:PMem W (plus X (blks v)) g C σ) (hc:CtxX X C) (hXL:XL X W) (hn:Nest W n v) (hx:∀ b∈blks v,¬ X b) (hlen:σ.ns.length≤100000):Calls Tryz.prog 67 #[.pointer (some ⟨g,0,none⟩),.agg NC] W (StR X W g C (Sx.add n σ) fun i=>.int .i64 (i:Int)):=by
 obtain⟨i0,hi,hz0,hz1,hz2⟩:=info_parts info_node3
 have hone:=ncs_one hn C.N n.left
 obtain⟨p,vn,nd,h⟩:=h
 have hndl:nd.length=σ.ns.length:=by rw[←h.ns];simp
 obtain⟨A0,k0,rfl,hk0⟩:=own_any h.row
 obtain⟨a1,a2,a3,a4,a5,a6,a7,a8,hcs⟩:∃ a1 a2 a3 a4 a5 a6 a7 a8,ncs n v (lnv C.N n.left)=[a1,a2,a3,a4,a5,a6,a7,a8]:=⟨_,_,_,_,_,_,_,_,rfl⟩
 rw[hcs] at hNC hone
 subst hNC
 obtain⟨m0,hm0⟩:∃ m0,m0=nd.length:=⟨_,rfl⟩
 have hm1:m0≤100000:=by omega
 have hall:(#[a1,a2,a3,a4,a5,a6,a7,a8]:Array Value).all (·.oneCell')=true:=Array.all_eq_true_iff_forall_mem.2 fun u hu=>hone u (by simpa using hu)
 obtain⟨w1,hw1⟩:∃ w1,w1=W.alloc (.cells #[a1,a2,a3,a4,a5,a6,a7,a8] 37):=⟨_,rfl⟩
 have hl1:Later W w1:=by rw[hw1];exact Later.alloc _ _
 have hb1:w1.heap[W.heap.size]?=some (.cells #[a1,a2,a3,a4,a5,a6,a7,a8] 37 (0,0)):=by rw[hw1];exact heap_alloc_new W _
 have hz1':w1.heap.size=W.heap.size+1:=by rw[hw1];simp
 obtain⟨wa,hwa⟩:∃ wa,wa=w1.drew.alloc (.cells #[a1,a2,a3,a4,a5,a6,a7,a8] 37):=⟨_,rfl⟩
 have hla:Later W wa:=by rw[hwa];exact(hl1.trans (Later.drew _)).trans (Later.alloc _ _)
 have hba:wa.heap[w1.drew.heap.size]?=some (.cells #[a1,a2,a3,a4,a5,a6,a7,a8] 37 (0,0)):=by rw[hwa];exact heap_alloc_new w1.drew _
 let P3:Value→World→Prop:=fun v' w'=>w'.ownsRow 0 37 8 v' (m0+1) (cellsN C.N nd++[a1,a2,a3,a4,a5,a6,a7,a8])∧W.grownBy w' (Value.slice A0 nd.length k0).ownBlock∧(v'.ownBlock=(Value.slice A0 nd.length k0).ownBlock∨∃ b,v'.ownBlock=some b∧W.heap.size≤b)
 have HAP0:∃ v' w',(Builtin.append_ #[23,23] 23 #[.slice A0 nd.length k0,.slice (some ⟨w1.drew.heap.size,0,none⟩) 1 1]).run Tryz.prog wa=.ok v' w'∧P3 v' w':=by
  obtain⟨v',w',hrun,h2,h3,_,h5⟩:=run_append_own_at (P:=Tryz.prog) wa 0 23 23 37 i0 _ 8 120 Tryz.underlying23 hi hz0 hz1 hz2 rfl (by omega) (.slice A0 nd.length k0) nd.length (cellsN C.N nd) (own_below h.row hla) ⟨w1.drew.heap.size,0,none⟩ 1 1 [a1,a2,a3,a4,a5,a6,a7,a8] rfl
   (fun j u hj=>by rw[add_lit0,(cell_row hba j).1];simpa using hj) hone (by unfold maxLen;omega) (by omega) (Nat.zero_le _)
  refine⟨v',w',hrun,by rw[hm0];exact h2,later_grown hla h3,?_⟩
  rcases h5 with h5 | h5
  ·exact .inl h5
  ·exact .inr ⟨_,h5,hla.size⟩
 have HU0:∀ v' w',P3 v' w'→(∃ A4 n4 k4,v'=.slice A4 n4 k4∧w'.cell? ⟨g,3,none⟩=some (.slice A0 nd.length k0)∧w'.frozen? ⟨g,3,none⟩=false)∧PMem (w'.setCell ⟨g,3,none⟩ v') X g C { σ with ns:=σ.ns++[n] }∧Fr X W (w'.setCell ⟨g,3,none⟩ v')∧(∃ A4 k4,v'=.slice A4 (m0+1) k4):=by
  intro v' w' hp
  obtain⟨A4,k4,e4,_⟩:=own_any hp.1
  have hgb:w'.heap[g]?=W.heap[g]?:=hp.2.1.block g h.lt fun e=>by
   obtain⟨cs,hb⟩:=own_type h.row e.symm
   rw[h.box] at hb
   injection hb with hb
   injection hb with _ hb _
   revert hb
   decide
  refine⟨⟨A4,_,k4,e4,(cell_row (hgb.trans h.box) 3).1,(cell_row (hgb.trans h.box) 3).2⟩,h.added hc hXL hn hx (by rw[hcs,←hm0];exact hp.1) hp.2.1 hp.2.2,?_,A4,k4,e4⟩
  exact(Fr.grown hp.2.1 fun x e e2=>h.rX x e (.inl e2)).trans (Fr.grown (set_only w' g 3 v') (by rintro x ⟨⟩;exact fun e=>h.gX (.inl e)))
 have hfc:=fun w (hw:Later W w)=>((h.later hw).facts).1.2.2.2.1
 rw[←hm0] at HAP0 HU0 hfc
 obtain⟨C0,hC0⟩:∃ C0:Nat→Value→World→Prop,C0=fun j u w=>(j=0∧w=w1.drew)∨(j=1∧u=.slice (some ⟨w1.drew.heap.size,0,none⟩) 1 1∧w=wa)∨(j=2∧P3 u w)∨(j=3∧∃ v' w',P3 v' w'∧w=w'.setCell ⟨g,3,none⟩ v'):=⟨_,rfl⟩
 have HC3:=Lib.hid (show ∀ j u w,C0 j u w→j≤1→w.cell? ⟨g,3,none⟩=some (.slice A0 m0 k0) from fun j u w hc hj=>by
  rw[hC0] at hc
  rcases hc with⟨_,rfl⟩ | ⟨_,_,rfl⟩ | ⟨e,_⟩ | ⟨e,_⟩
  ·exact hfc _ (hl1.trans (Later.drew _))
  ·exact hfc _ hla
  ·omega
  ·omega)
 have HB:=Lib.hid (show ∀ j u w,C0 j u w→j≤0→(Instr.loadAt 37 (.pointer (some ⟨W.heap.size,0,none⟩))).run Tryz.prog w=.ok (.agg #[a1,a2,a3,a4,a5,a6,a7,a8]) w from fun j u w hc hj=>by
  rw[hC0] at hc
  rcases hc with⟨_,rfl⟩ | ⟨e,_⟩ | ⟨e,_⟩ | ⟨e,_⟩
  ·exact loadO_run _ _ _ _ hb1 Tryz.underlying37 rfl size_node
  ·omega
  ·omega
  ·omega)
 have H0:=Lib.hid (show C0 0 undef w1.drew by rw[hC0];exact .inl ⟨rfl,rfl⟩)
 have HA:=Lib.hid (show ∀ u w,C0 0 u w→w=w1.drew from fun u w hc=>by
  rw[hC0] at hc
  rcases hc with⟨_,e⟩ | ⟨e,_⟩ | ⟨e,_⟩ | ⟨e,_⟩
  ·exact e
  all_goals cases e)
 have H1:=Lib.hid (show C0 1 (.slice (some ⟨w1.drew.heap.size,0,none⟩) 1 1) (w1.drew.alloc (.cells #[a1,a2,a3,a4,a5,a6,a7,a8] 37)) by rw[hC0,←hwa];exact .inr (.inl ⟨rfl,rfl,rfl⟩))
 have HA1:=Lib.hid (show ∀ u w,C0 1 u w→u=.slice (some ⟨w1.drew.heap.size,0,none⟩) 1 1∧w=wa from fun u w hc=>by
  rw[hC0] at hc
  rcases hc with⟨e,_⟩ | ⟨_,e1,e2⟩ | ⟨e,_⟩ | ⟨e,_⟩
  ·cases e
  ·exact⟨e1,e2⟩
  all_goals cases e)
 have HAP:=Lib.hid HAP0
 have H2:=Lib.hid (show ∀ v' w',P3 v' w'→C0 2 v' w' from fun v' w' hp=>by rw[hC0];exact .inr (.inr (.inl ⟨rfl,hp⟩)))
 have hA2:∀ u w,C0 2 u w→P3 u w:=fun u w hc=>by
  rw[hC0] at hc
  rcases hc with⟨e,_⟩ | ⟨e,_⟩ | ⟨_,e⟩ | ⟨e,_⟩
  ·cases e
  ·cases e
  ·exact e
  ·cases e
 have HU:=Lib.hid (show ∀ u w,C0 2 u w→∃ A4 n4 k4,u=.slice A4 n4 k4∧w.cell? ⟨g,3,none⟩=some (.slice A0 m0 k0)∧w.frozen? ⟨g,3,none⟩=false from fun u w hc=>(HU0 u w (hA2 u w hc)).1)
 have H3:=Lib.hid (show ∀ u w,C0 2 u w→C0 3 undef (w.setCell ⟨g,3,none⟩ u) from fun u w hc=>by have:=hA2 u w hc;rw[hC0];exact .inr (.inr (.inr ⟨rfl,u,w,this,rfl⟩)))
 have HE:=Lib.hid (show ∀ u w,C0 3 u w→∃ A4 k4,PMem w X g C { σ with ns:=σ.ns++[n] }∧Fr X W w∧w.cell? ⟨g,3,none⟩=some (.slice A4 (m0+1) k4) from fun u w hc=>by
  rw[hC0] at hc
  rcases hc with⟨e,_⟩ | ⟨e,_⟩ | ⟨e,_⟩ | ⟨_,v',w',hp,rfl⟩
  ·cases e
  ·cases e
  ·cases e
  ·obtain⟨⟨_,_,_,_,q1,q2⟩,q3,q4,A4,k4,q5⟩:=HU0 v' w' hp
   refine⟨A4,k4,q3,q4,?_⟩
   rw[←q5]
   have hgb:w'.heap[g]?=W.heap[g]?:=hp.2.1.block g h.lt fun e=>by
    obtain⟨cs,hb⟩:=own_type h.row e.symm
    rw[h.box] at hb
    injection hb with hb
    injection hb with _ hb _
    revert hb
    decide
   exact(cell_row (set_row (hgb.trans h.box) 3 v') 3).1)
 have HM:=Lib.hid (show m0=σ.ns.length by omega)
 have HALL:=Lib.hid hall
 clear_value P3
 clear hA2 HU0 HAP0 hC0 hfc hwa hla hba hl1 hb1 hz1' hall hone hcs hn hx hXL hc h hk0 hndl hi hz0 hz1 hz2 hlen hm0
 go_enter Tryz.func67,Tryz.ntmps67
 go_wp2
 rw[←hw1]
 clear hw1
 refine wp_region_seq (by kernel_rfl) [6,7,10] (C0) [some (.pointer (some ⟨g,0,none⟩)),some (.pointer (some ⟨g,0,none⟩)),some (.pointer (some ⟨g,0,none⟩)),some (.pointer (some ⟨g,3,none⟩)),some (.slice A0 m0 k0),some (.agg #[a1,a2,a3,a4,a5,a6,a7,a8]),none,none,some (.pointer (some ⟨g,0,none⟩)),some (.pointer (some ⟨g,3,none⟩)),none] (by decide) (by decide) (by kernel_rfl) (by kernel_rfl) (H0.out) ?_ ?_
 ·refine⟨?_,?_,?_,?_,?_,?_,?_,?_,?_,?_,?_,trivial⟩
  ·
   refine OwesS.q rfl fun a w j u hC hb hs=>⟨rfl,?_⟩
   have e0:a.tmps.getD 0 undef=.pointer (some ⟨g,0,none⟩):=hs.free 0 rfl
   refine ValWp.pure (v:=.pointer (some ⟨g,0,none⟩)) (fun K' hK'=>?_) ⟨rfl,rfl⟩
   simp only[ValWp,execOp,Act.eval,e0]
   go_simp
   all_goals exact hK'
  ·
   refine OwesS.q rfl fun a w j u hC hb hs=>⟨rfl,?_⟩
   have e0:a.tmps.getD 0 undef=.pointer (some ⟨g,0,none⟩):=hs.free 0 rfl
   refine ValWp.pure (v:=.pointer (some ⟨g,0,none⟩)) (fun K' hK'=>?_) ⟨rfl,rfl⟩
   simp only[ValWp,execOp,Act.eval,e0]
   go_simp
   all_goals exact hK'
  ·
   refine OwesS.q rfl fun a w j u hC hb hs=>⟨rfl,?_⟩
   have e6:a.tmps.getD 6 undef=.pointer (some ⟨g,0,none⟩):=hs.dep 1 _ rfl rfl
   refine ValWp.pure (v:=.pointer (some ⟨g,0,none⟩)) (fun K' hK'=>?_) ⟨rfl,rfl⟩
   simp only[ValWp,execOp,Act.eval,e6]
   go_simp
   all_goals exact hK'
  ·
   refine OwesS.q rfl fun a w j u hC hb hs=>⟨rfl,?_⟩
   have e7:a.tmps.getD 7 undef=.pointer (some ⟨g,0,none⟩):=hs.dep 2 _ rfl rfl
   refine ValWp.pure (v:=.pointer (some ⟨g,3,none⟩)) (fun K' hK'=>?_) ⟨rfl,rfl⟩
   simp only[ValWp,execOp,Act.eval,e7]
   go_simp
   all_goals exact hK'
  ·
   refine OwesS.q rfl fun a w j u hC hb hs=>⟨rfl,?_⟩
   have e8:a.tmps.getD 8 undef=.pointer (some ⟨g,3,none⟩):=hs.dep 3 _ rfl rfl
   have hj:=hb 1 7 rfl rfl
   have q0:=HC3.out j u w hC hj
   refine ValWp.pure (v:=.slice A0 m0 k0) (fun K' hK'=>?_) ⟨rfl,rfl⟩
   simp only[ValWp,execOp,Act.eval,e8]
   go_simp
   all_goals exact hK'
  ·
   refine OwesS.q rfl fun a w j u hC hb hs=>⟨rfl,?_⟩
   have e3:a.tmps.getD 3 undef=.pointer (some ⟨W.heap.size,0,none⟩):=hs.free 3 rfl
   have hj:=hb 0 6 rfl rfl
   exact ValWp.loadR rfl e3 (HB.out j u w hC hj) ⟨rfl,rfl⟩
  ·
   refine OwesS.w rfl fun a w u hC hl hs=>⟨rfl,fun K hK=>?_⟩
   have e10:a.tmps.getD 10 undef=.agg #[a1,a2,a3,a4,a5,a6,a7,a8]:=hs.dep 5 _ rfl rfl
   have hw:=HA.out u w hC
   subst hw
   refine wp_of_val ?_
   refine ValWp.pure (v:=.slice (some ⟨w1.drew.heap.size,0,none⟩) 1 1) (w':=w1.drew.alloc (.cells #[a1,a2,a3,a4,a5,a6,a7,a8] 37)) (fun K' hK'=>?_) (hK _ _ trivial H1.out)
   simp only[ValWp,execOp,Act.eval,List.map_toArray,List.map_cons,List.map_nil,e10]
   go_simp
   all_goals exact hK'
  ·
   refine OwesS.w rfl fun a w u hC hl hs=>⟨rfl,fun K hK=>?_⟩
   have e9:a.tmps.getD 9 undef=.slice A0 m0 k0:=hs.dep 4 _ rfl rfl
   have e11:a.tmps.getD 11 undef=u:=hl
   obtain⟨hu,hw⟩:=HA1.out u w hC
   subst hu
   subst hw
   obtain⟨v',w',hrun,h3⟩:=HAP.out
   exact owes_append hrun rfl e9 e11 (hK v' w' trivial (H2.out v' w' h3))
  ·
   refine OwesS.q rfl fun a w j u hC hb hs=>⟨rfl,?_⟩
   have e5:a.tmps.getD 5 undef=.pointer (some ⟨g,0,none⟩):=hs.dep 0 _ rfl rfl
   refine ValWp.pure (v:=.pointer (some ⟨g,0,none⟩)) (fun K' hK'=>?_) ⟨rfl,rfl⟩
   simp only[ValWp,execOp,Act.eval,e5]
   go_simp
   all_goals exact hK'
  ·
   refine OwesS.q rfl fun a w j u hC hb hs=>⟨rfl,?_⟩
   have e13:a.tmps.getD 13 undef=.pointer (some ⟨g,0,none⟩):=hs.dep 8 _ rfl rfl
   refine ValWp.pure (v:=.pointer (some ⟨g,3,none⟩)) (fun K' hK'=>?_) ⟨rfl,rfl⟩
   simp only[ValWp,execOp,Act.eval,e13]
   go_simp
   all_goals exact hK'
  ·
   refine OwesS.w rfl fun a w u hC hl hs=>⟨rfl,fun K hK=>?_⟩
   have e14:a.tmps.getD 14 undef=.pointer (some ⟨g,3,none⟩):=hs.dep 9 _ rfl rfl
   have e12:a.tmps.getD 12 undef=u:=hl
   obtain⟨A4,n4,k4,hu,q4,qz⟩:=HU.out u w hC
   subst hu
   refine wp_of_val ?_
   refine ValWp.pure (v:=undef) (w':=w.setCell ⟨g,3,none⟩ (.slice A4 n4 k4)) (fun K' hK'=>?_) (hK _ _ trivial (H3.out _ w hC))
   simp only[ValWp,execOp,Act.eval,e14,e12]
   go_simp
   all_goals exact hK'
 ·intro a w u hC hl hd hsz hfree hs
  obtain⟨z0,u1,u2,u3,z4,u5,u6,u7,u8,u9,u10,u11,u12,u13,u14,u15,u16,u17,u18,u19,u20,hal⟩:=lets a 21 0
  obtain rfl:=hal.on (v:=.pointer (some ⟨g,0,none⟩)) 0 (hfree 0 rfl) rfl
  obtain rfl:=hal.on (v:=.int .i64 0) 4 (hfree 4 rfl) rfl
  have hlit:=fun h=>act_lit hd h hal
  rw[hlit hsz]
  clear hlit hal hd hsz hfree hs
  obtain⟨A4,k4,q3,q4,q5⟩:=HE.out u w hC
  have HQ3:=Lib.hid q3
  have HQ4:=Lib.hid q4
  have hm2:(m0:Int)+1-1=(m0:Int):=by omega
  clear q3 q4 hC hl
  go_wp2
  go_ret
  refine⟨?_,HQ3.out,HQ4.out⟩
  show Ending.returned _=Ending.returned (.int .i64 ((σ.ns.length:Nat):Int))
  rw[←HM.out]
  refine ret_int ?_
  omega
end
end Pz
end Go.Proofs.YtkkchkkpnlnbgaaGreatDoor
