/- The lexer's reader: a word. No premises. -/
import Derived.Test.YtkkchkkpnlnbgaaGreatDoorNh
set_option maxRecDepth 100000
set_option maxHeartbeats 1600000
namespace Go.Proofs.YtkkchkkpnlnbgaaGreatDoor
open Go.RowKit Go.Maps
open Lx (nl Tok R sq ar up pre stop)
theorem io_eq {σ1:St} {k:Nat} {l' t0:L} (hk:l'.length+t0.length≤k) (hq:σ1.q=[]:=by rfl):(Lx.digits (σ1.to k l' t0).q && (!(σ1.to k l' t0).j && ((σ1.to k l' t0).l.head?==some 60 || (σ1.to k l' t0).l.head?==some 62)))=Lx.io t0 (k-l'.length) l':=by
 unfold St.to Lx.io
 rw[hq]
 simp only[List.nil_append]
 have:(!decide (l'.length+t0.length≠k))=(k-l'.length==t0.length):=by
  rw[Bool.eq_iff_iff]
  simp
  omega
 rw[this,Bool.and_assoc]
def WordR (B g:Nat) (S:L) (σ:St) (W:World) (b:Nat) (x:R) (e:Ending) (W':World):Prop:=
 match x with
 | .ok (t,r)=>e=.returned (.tuple #[])∧Mem W' B g S (if Lx.io t (σ.l.length-r.length) r=true then { St.to { σ with b:=b,q:=[],j:=false } σ.l.length r t with ts:=σ.ts++[⟨5,t,[],nl σ.l⟩] }
   else if Lx.hung σ.ts=true then { St.to { σ with b:=b,q:=[],j:=false } σ.l.length r t with hs:=σ.hs++[σ.ts.length],ts:=σ.ts++[⟨1,t,[],nl σ.l⟩] }
   else { St.to { σ with b:=b,q:=[],j:=false } σ.l.length r t with ts:=σ.ts++[⟨1,t,[],nl σ.l⟩] })∧Below B W W'∧t.length≤4096
 | .error n=>e=.panicked (flt n b)∧Below B W W'
theorem word_v (B g:Nat) (S:L) (σ:St) (b:Nat) (hb:b+nl σ.l=1+nl S) (hd:σ.d=0) (hts:σ.ts.length≤5000) (hhs:σ.hs.length≤5000) (W:World) (h:Mem W B g S σ):Calls Tryz.prog 48 #[.pointer (some ⟨g,0,none⟩)] W (WordR B g S σ W b (Lx.word σ.l)):=by
 obtain⟨k,hk⟩:∃ k,k=σ.l.length:=⟨_,rfl⟩
 have hk4:k≤4096:=by
  obtain⟨p,n,vt,vh,vx,ms,mp,h⟩:=h
  have:=h.at_;have:=h.big;omega
 obtain⟨σ1,hs1⟩:∃ σ1:St,σ1={ σ with b:=b,q:=[],j:=false }:=⟨_,rfl⟩
 have HSF:=Lib.hid (show ∀ r t,(σ1.to k r t).q=t∧(σ1.to k r t).b=b∧(σ1.to k r t).ts=σ.ts∧(σ1.to k r t).hs=σ.hs∧(σ1.to k r t).d=0 by rw[hs1];exact fun _ _=>⟨rfl,rfl,rfl,rfl,hd⟩)
 have HNM:=Lib.hid (show ∀ r t,r.length+t.length≤k→Nm k (σ1.to k r t) by rw[hs1];exact fun r t h=>⟨rfl,h,hk4⟩)
 have HG:=Lib.hid (begin_v B g S σ b hb W h)
 have HK1:=Lib.hid hk
 have HS1:=Lib.hid hs1
 have HD:=Lib.hid hd
 have HTS:=Lib.hid hts
 have HHS:=Lib.hid hhs
 have HLN:=Lib.hid (show 1+nl S-nl σ.l=b by omega)
 clear h hk hs1 hd hb hts hhs
 go_enter Tryz.func48,Tryz.ntmps48
 go_wp2_with (first
  |(go_at_call 49;(with_reducible refine HG.out.mono ?_);rintro e w1 ⟨rfl,⟨p,n,vt,vh,vx,ms,mp,hx⟩,hb1⟩;obtain⟨⟨_,_,_,_,_,_,c6,c7,_⟩,hz⟩:=hx.facts;have HX:=Lib.hid hx;have HB1:=Lib.hid hb1;clear hx hb1))
 go_loopw [] (fun wr=>∃ (l' t0:L),Lx.word σ.l=pre t0 (Lx.word l')∧Mem wr B g S (σ1.to k l' t0)∧Below B W wr∧l'.length+t0.length≤k) (fun wr=>S.length-atOf g wr)
 case atStart=>
  refine⟨σ.l,[],by cases Lx.word σ.l <;> rfl,?_,(HB1.out.setCell HX.out.low _).setCell HX.out.low _,by rw[HK1.out];simp⟩
  have e1:σ1.to k σ.l []={ σ with b:=b,q:=[],j:=false }:=by
   rw[HS1.out,HK1.out]
   simp[St.to]
  rw[e1]
  exact HX.out.reset
 case round=>
  obtain⟨l',t0,hs,hm,hb,hk⟩:=hrel
  have HS:=Lib.hid hs
  have HM:=Lib.hid hm
  have HB:=Lib.hid hb
  have HK:=Lib.hid hk
  have HQL:=Lib.hid (show t0.length≤5000 by omega)
  have hl:=left_v B g S (σ1.to k l' t0) wr hm
  have el:(σ1.to k l' t0).l=l':=rfl
  rw[el] at hl
  clear hs hb hm hk el
  by_cases he:Lx.ends l'=true
  ·have HWD:=Lib.hid (show Lx.word σ.l=.ok (t0,l') by rw[HS.out,Lx.word_at,if_pos he];simp)
   cases l' with
   | nil=>
    obtain⟨l',hnil⟩:∃ l':L,l'=[]:=⟨_,rfl⟩
    have HL:=Lib.hid hl
    rw[←hnil] at HS HM HK HWD
    clear hl he hnil
    have hq1:=(HSF.out l' t0).1
    have hIo:=fun m=>isIo_v B g S (σ1.to k l' t0) (by rw[hq1];exact HQL.out) (wr.drewN m) (HM.out.drewN m)
    have hio:(Lx.digits (σ1.to k l' t0).q && (!(σ1.to k l' t0).j && ((σ1.to k l' t0).l.head?==some 60 || (σ1.to k l' t0).l.head?==some 62)))=Lx.io t0 (k-l'.length) l':=io_eq HK.out (by rw[HS1.out])
    rw[hio] at hIo
    by_cases hi:Lx.io t0 (k-l'.length) l'=true
    ·rw[hi] at hIo
     have HI:=Lib.hid hIo
     have HTE:=Lib.hid (fun W hW=>tell_v B g S (σ1.to k l' t0) 5 (mkS t0) ⟨5,t0,[],nl σ.l⟩ rfl rfl rfl (by rw[(HSF.out l' t0).2.1];exact HLN.out) (by rw[(HSF.out l' t0).2.2.1];exact HTS.out) W hW)
     have HII:=Lib.hid hi
     clear hIo hio hq1 hi
     obtain⟨p,n,vt,vh,vx,ms,mp,hx⟩:=HM.out
     have hq9:=(HSF.out l' t0).1
     obtain⟨⟨_,_,_,_,_,_,c6,_⟩,_⟩:=hx.facts
     obtain⟨A,cc,rfl,_,hrd,_⟩:=own_map hx.txt
     rw[hq9] at hrd c6
     have hstr:∀ m,(convert 70 9 (.slice A t0.length cc)).run Tryz.prog (wr.drewN m)=.ok (.string (mkS t0)) (wr.drewN m):=fun m=>run_str_of (w:=wr.drewN m) (B:=wr.heap.size) (show Rd (wr.drewN m) wr.heap.size A t0.length (t0.map bv) from hrd) _ _ 5 Tryz.underlying70 Tryz.underlying5 Tryz.underlying9 cc
     have c66:wr.cell? ⟨g,6,none⟩=some (.slice A t0.length cc):=c6
     clear c6 hx hrd hq9
     go_wp2_with (first
      |(go_at_call 46;(with_reducible refine HL.out.mono ?_);rintro e w2 ⟨rfl,m,rfl⟩)
      |(go_at_call 95;(with_reducible refine(HI.out _).mono ?_);rintro e w2 ⟨rfl,m2,rfl⟩)
      |(go_at_call 50;(with_reducible refine(HTE.out _ (HM.out.drewN _)).mono ?_);rintro e w3 ⟨rfl,hm3,hb3⟩))
     go_end0
     rw[HWD.out]
     rw[HS1.out] at hm3
     exact⟨rfl,by rw[←HK1.out,if_pos HII.out];exact hm3,(HB.out.trans (Below.drewN _ _ _)).trans hb3,by have:=HK.out;omega⟩
    ·have hi:Lx.io t0 (k-l'.length) l'=false:=by simpa using hi
     rw[hi] at hIo
     have HI:=Lib.hid hIo
     have HII:=Lib.hid hi
     have hHe:=fun m=>isHere_v B g S (σ1.to k l' t0) (by rw[(HSF.out l' t0).2.2.1];exact HTS.out) (wr.drewN m) (HM.out.drewN m)
     have hts:=(HSF.out l' t0).2.2.1
     rw[hts] at hHe
     by_cases hh:Lx.hung σ.ts=true
     ·rw[hh] at hHe
      have HHE:=Lib.hid hHe
      have HH:=Lib.hid hh
      clear hIo hio hq1 hi hHe hh hts
      go_wp2_with (first
       |(go_at_call 46;(with_reducible refine HL.out.mono ?_);rintro e w2 ⟨rfl,m,rfl⟩)
       |(go_at_call 95;(with_reducible refine(HI.out _).mono ?_);rintro e w2 ⟨rfl,m2,rfl⟩)
       |(go_at_call 96;(with_reducible refine(HHE.out _).mono ?_);rintro e w3 ⟨rfl,rfl⟩))
      obtain⟨w1,hw1⟩:∃ w1,w1=wr.drewN (m+m2):=⟨_,rfl⟩
      rw[←hw1]
      have hm1:Mem w1 B g S (σ1.to k l' t0):=by rw[hw1];exact HM.out.drewN _
      have HB1:=Lib.hid (show Below B W w1 by rw[hw1];exact HB.out.trans (Below.drewN _ _ _))
      obtain⟨A0,n0,k0,A1,n1,k1,C1,C2,hnt⟩:=noted B g S (σ1.to k l' t0) (by rw[(HSF.out l' t0).2.2.2.1];exact HHS.out) w1 hm1
      have HN:=Lib.hid hnt
      clear hnt hm1 hw1
      refine wp_region_two (by kernel_rfl) 11 14 (Later w1) (C1) (C2) (High w1.heap.size) [Sp.val (.pointer (some ⟨g,0,none⟩)),Sp.val (.pointer (some ⟨g,0,none⟩)),Sp.val (.pointer (some ⟨g,0,none⟩)),Sp.val (.pointer (some ⟨g,5,none⟩)),Sp.val (.slice A0 n0 k0),Sp.val (.pointer (some ⟨g,0,none⟩)),Sp.val (.pointer (some ⟨g,0,none⟩)),Sp.val (.pointer (some ⟨g,4,none⟩)),Sp.val (.slice A1 n1 k1),Sp.val (.int .i64 (n1:Int)),spLit w1.heap.size #[.int .i64 (n1:Int)] 3,Sp.any,Sp.val (.pointer (some ⟨g,0,none⟩)),Sp.val (.pointer (some ⟨g,5,none⟩)),Sp.any] (by decide) (by decide) (by decide) (by kernel_rfl) (by kernel_rfl) (by kernel_rfl) (Later.drew w1) (fun _ _ h hl=>Later.trans h hl) (HN.out.l1) (HN.out.l2) (fun _ _ h=>High.later h) ?_ ?_
      ·refine⟨?_,?_,?_,?_,?_,?_,?_,?_,?_,?_,?_,?_,?_,?_,?_,trivial⟩
       ·
        unfold OwesT
        rw[if_neg (by decide),if_neg (by decide)]
        refine fun a w hD hC hs=>⟨?_,?_⟩
        ·rfl
        have e0:a.tmps.getD 0 undef=.pointer (some ⟨g,0,none⟩):=hs.free 0 rfl
        exact⟨e0,hC,Later.refl _⟩
       ·
        unfold OwesT
        rw[if_neg (by decide),if_neg (by decide)]
        refine fun a w hD hC hs=>⟨?_,?_⟩
        ·rfl
        have e0:a.tmps.getD 0 undef=.pointer (some ⟨g,0,none⟩):=hs.free 0 rfl
        exact⟨e0,hC,Later.refl _⟩
       ·
        unfold OwesT
        rw[if_neg (by decide),if_neg (by decide)]
        refine fun a w hD hC hs=>⟨?_,?_⟩
        ·rfl
        have e32:a.tmps.getD 32 undef=.pointer (some ⟨g,0,none⟩):=hs.dep 1 _ rfl rfl
        refine ValWp.pure (v:=.pointer (some ⟨g,0,none⟩)) (fun K' hK'=>?_) ⟨rfl,hC,Later.refl _⟩
        simp only[ValWp,execOp,Act.eval,e32]
        go_simp
        all_goals exact hK'
       ·
        unfold OwesT
        rw[if_neg (by decide),if_neg (by decide)]
        refine fun a w hD hC hs=>⟨?_,?_⟩
        ·rfl
        have e33:a.tmps.getD 33 undef=.pointer (some ⟨g,0,none⟩):=hs.dep 2 _ rfl rfl
        refine ValWp.pure (v:=.pointer (some ⟨g,5,none⟩)) (fun K' hK'=>?_) ⟨rfl,hC,Later.refl _⟩
        simp only[ValWp,execOp,Act.eval,e33]
        go_simp
        all_goals exact hK'
       ·
        unfold OwesT
        rw[if_neg (by decide),if_neg (by decide)]
        refine fun a w hD hC hs=>⟨?_,?_⟩
        ·rfl
        have e34:a.tmps.getD 34 undef=.pointer (some ⟨g,5,none⟩):=hs.dep 3 _ rfl rfl
        have q5:=HN.out.c5 w (hD (by kernel_rfl))
        refine ValWp.pure (v:=.slice A0 n0 k0) (fun K' hK'=>?_) ⟨rfl,hC,Later.refl _⟩
        simp only[ValWp,execOp,Act.eval,e34]
        go_simp
        all_goals exact hK'
       ·
        unfold OwesT
        rw[if_neg (by decide),if_neg (by decide)]
        refine fun a w hD hC hs=>⟨?_,?_⟩
        ·rfl
        have e0:a.tmps.getD 0 undef=.pointer (some ⟨g,0,none⟩):=hs.free 0 rfl
        exact⟨e0,hC,Later.refl _⟩
       ·
        unfold OwesT
        rw[if_neg (by decide),if_neg (by decide)]
        refine fun a w hD hC hs=>⟨?_,?_⟩
        ·rfl
        have e36:a.tmps.getD 36 undef=.pointer (some ⟨g,0,none⟩):=hs.dep 5 _ rfl rfl
        refine ValWp.pure (v:=.pointer (some ⟨g,0,none⟩)) (fun K' hK'=>?_) ⟨rfl,hC,Later.refl _⟩
        simp only[ValWp,execOp,Act.eval,e36]
        go_simp
        all_goals exact hK'
       ·
        unfold OwesT
        rw[if_neg (by decide),if_neg (by decide)]
        refine fun a w hD hC hs=>⟨?_,?_⟩
        ·rfl
        have e37:a.tmps.getD 37 undef=.pointer (some ⟨g,0,none⟩):=hs.dep 6 _ rfl rfl
        refine ValWp.pure (v:=.pointer (some ⟨g,4,none⟩)) (fun K' hK'=>?_) ⟨rfl,hC,Later.refl _⟩
        simp only[ValWp,execOp,Act.eval,e37]
        go_simp
        all_goals exact hK'
       ·
        unfold OwesT
        rw[if_neg (by decide),if_neg (by decide)]
        refine fun a w hD hC hs=>⟨?_,?_⟩
        ·rfl
        have e38:a.tmps.getD 38 undef=.pointer (some ⟨g,4,none⟩):=hs.dep 7 _ rfl rfl
        have q4:=HN.out.c4 w hC
        refine ValWp.pure (v:=.slice A1 n1 k1) (fun K' hK'=>?_) ⟨rfl,hC,Later.refl _⟩
        simp only[ValWp,execOp,Act.eval,e38]
        go_simp
        all_goals exact hK'
       ·
        unfold OwesT
        rw[if_neg (by decide),if_neg (by decide)]
        refine fun a w hD hC hs=>⟨?_,?_⟩
        ·rfl
        have e39:a.tmps.getD 39 undef=.slice A1 n1 k1:=hs.dep 8 _ rfl rfl
        refine ValWp.pure (v:=.int .i64 (n1:Int)) (fun K' hK'=>?_) ⟨rfl,hC,Later.refl _⟩
        simp only[ValWp,execOp]
        go_simp
        all_goals exact hK'
       ·
        unfold OwesT
        rw[if_neg (by decide),if_neg (by decide)]
        refine fun a w hD hC hs=>⟨?_,?_⟩
        ·rfl
        have e40:a.tmps.getD 40 undef=.int .i64 (n1:Int):=hs.dep 9 _ rfl rfl
        refine ValWp.pure (v:=.slice (some ⟨w.heap.size,0,none⟩) 1 1) (w':=w.alloc (.cells #[.int .i64 (n1:Int)] 3)) (fun K' hK'=>?_) ⟨⟨w.heap.size,rfl,HN.out.sz w hC,heap_alloc_new w _⟩,HN.out.or w _ hC (Later.alloc w _),Later.alloc w _⟩
        simp only[ValWp,execOp,Act.eval,List.map_toArray,List.map_cons,List.map_nil,e40]
        go_simp
        all_goals exact hK'
       ·
        unfold OwesT
        rw[if_pos rfl]
        refine fun a w hC hs=>⟨?_,?_⟩
        ·rfl
        have e35:a.tmps.getD 35 undef=.slice A0 n0 k0:=hs.dep 4 _ rfl rfl
        obtain⟨N41,e41,hN41,hb41⟩:=hs.dep 10 _ rfl rfl
        change a.tmps.getD 41 undef=_ at e41
        intro K hK
        obtain⟨v',w',hrun,ho,hg⟩:=HN.out.ap w hC N41 hb41
        exact owes_append hrun rfl e35 e41 (hK v' w' trivial ho hg)
       ·
        unfold OwesT
        rw[if_neg (by decide),if_neg (by decide)]
        refine fun a w hD hC hs=>⟨?_,?_⟩
        ·rfl
        have e31:a.tmps.getD 31 undef=.pointer (some ⟨g,0,none⟩):=hs.dep 0 _ rfl rfl
        refine ValWp.pure (v:=.pointer (some ⟨g,0,none⟩)) (fun K' hK'=>?_) ⟨rfl,hC,Later.refl _⟩
        simp only[ValWp,execOp,Act.eval,e31]
        go_simp
        all_goals exact hK'
       ·
        unfold OwesT
        rw[if_neg (by decide),if_neg (by decide)]
        refine fun a w hD hC hs=>⟨?_,?_⟩
        ·rfl
        have e43:a.tmps.getD 43 undef=.pointer (some ⟨g,0,none⟩):=hs.dep 12 _ rfl rfl
        refine ValWp.pure (v:=.pointer (some ⟨g,5,none⟩)) (fun K' hK'=>?_) ⟨rfl,hC,Later.refl _⟩
        simp only[ValWp,execOp,Act.eval,e43]
        go_simp
        all_goals exact hK'
       ·
        unfold OwesT
        rw[if_neg (by decide),if_pos rfl]
        refine fun a w u hC hu hs=>⟨?_,?_⟩
        ·rfl
        have e44:a.tmps.getD 44 undef=.pointer (some ⟨g,5,none⟩):=hs.dep 13 _ rfl rfl
        have e42:a.tmps.getD 42 undef=u:=hu
        obtain⟨A4,n4,k4,rfl⟩:=HN.out.u w u hC
        obtain⟨q5,qz⟩:=HN.out.q5 w _ hC
        refine ValWp.pure (v:=undef) (w':=w.setCell ⟨g,5,none⟩ (.slice A4 n4 k4)) (fun K' hK'=>?_) ⟨trivial,HN.out.c2 w _ hC,HN.out.gq w _ hC⟩
        simp only[ValWp,execOp,Act.eval,e44,e42]
        go_simp
        all_goals exact hK'
      ·intro a W9 hC hd hsz hfree hs
       obtain⟨z0,u1,u2,u3,u4,u5,u6,u7,u8,u9,u10,u11,u12,u13,u14,u15,u16,u17,u18,u19,u20,u21,u22,u23,u24,u25,u26,u27,u28,u29,u30,u31,u32,u33,u34,u35,u36,u37,u38,u39,u40,u41,u42,u43,u44,u45,u46,u47,u48,u49,u50,u51,hal⟩:=lets a 52 0
       obtain rfl:=hal.on (v:=.pointer (some ⟨g,0,none⟩)) 0 (hfree 0 rfl) rfl
       have hlit:=fun h=>act_lit hd h hal
       rw[hlit hsz]
       clear hlit hal hd hsz hfree hs
       obtain⟨hm9,hb9⟩:=HN.out.ce _ hC
       have HB9:=Lib.hid (HB1.out.trans hb9)
       have HTE:=Lib.hid (fun W hW=>tell_v B g S { σ1.to k l' t0 with hs:=(σ1.to k l' t0).hs++[(σ1.to k l' t0).ts.length] } 1 (mkS t0) ⟨1,t0,[],nl σ.l⟩ rfl rfl rfl (by rw[(HSF.out l' t0).2.1];exact HLN.out) (by rw[(HSF.out l' t0).2.2.1];exact HTS.out) W hW)
       obtain⟨p,n,vt,vh,vx,ms,mp,hx⟩:=hm9
       have hq9:=(HSF.out l' t0).1
       obtain⟨⟨_,_,_,_,_,_,c6,_⟩,_⟩:=hx.facts
       obtain⟨A,cc,rfl,_,hrd,_⟩:=own_map hx.txt
       rw[hq9] at hrd c6
       have hstr:=run_str_of hrd _ _ 5 Tryz.underlying70 Tryz.underlying5 Tryz.underlying9 cc
       have c66:W9.cell? ⟨g,6,none⟩=some (.slice A t0.length cc):=c6
       have hstr2:(convert 70 9 (.slice A t0.length cc)).run Tryz.prog W9=.ok (.string (mkS t0)) W9:=hstr
       have HX9:=Lib.hid hx.mem
       clear c6 hx hrd hq9 hb9 hC hstr
       go_wp2_with (first
        |(go_at_call 50;(with_reducible refine(HTE.out _ HX9.out).mono ?_);rintro e w3 ⟨rfl,hm3,hb3⟩))
       go_end0
       rw[HWD.out]
       rw[HS1.out] at hm3
       exact⟨rfl,by rw[←HK1.out,if_neg (by rw[HII.out];exact Bool.false_ne_true),if_pos HH.out];exact hm3,HB9.out.trans hb3,by have:=HK.out;omega⟩
     ·have hh:Lx.hung σ.ts=false:=by simpa using hh
      rw[hh] at hHe
      have HHE:=Lib.hid hHe
      have HH:=Lib.hid hh
      have HTE:=Lib.hid (fun W hW=>tell_v B g S (σ1.to k l' t0) 1 (mkS t0) ⟨1,t0,[],nl σ.l⟩ rfl rfl rfl (by rw[(HSF.out l' t0).2.1];exact HLN.out) (by rw[(HSF.out l' t0).2.2.1];exact HTS.out) W hW)
      clear hIo hio hq1 hi hHe hh hts
      obtain⟨p,n,vt,vh,vx,ms,mp,hx⟩:=HM.out
      have hq9:=(HSF.out l' t0).1
      obtain⟨⟨_,_,_,_,_,_,c6,_⟩,_⟩:=hx.facts
      obtain⟨A,cc,rfl,_,hrd,_⟩:=own_map hx.txt
      rw[hq9] at hrd c6
      have hstr:∀ m,(convert 70 9 (.slice A t0.length cc)).run Tryz.prog (wr.drewN m)=.ok (.string (mkS t0)) (wr.drewN m):=fun m=>run_str_of (w:=wr.drewN m) (B:=wr.heap.size) (show Rd (wr.drewN m) wr.heap.size A t0.length (t0.map bv) from hrd) _ _ 5 Tryz.underlying70 Tryz.underlying5 Tryz.underlying9 cc
      have c66:wr.cell? ⟨g,6,none⟩=some (.slice A t0.length cc):=c6
      clear c6 hx hrd hq9
      go_wp2_with (first
       |(go_at_call 46;(with_reducible refine HL.out.mono ?_);rintro e w2 ⟨rfl,m,rfl⟩)
       |(go_at_call 95;(with_reducible refine(HI.out _).mono ?_);rintro e w2 ⟨rfl,m2,rfl⟩)
       |(go_at_call 96;(with_reducible refine(HHE.out _).mono ?_);rintro e w3 ⟨rfl,rfl⟩)
       |(go_at_call 50;(with_reducible refine(HTE.out _ (HM.out.drewN _)).mono ?_);rintro e w3 ⟨rfl,hm3,hb3⟩))
      go_end0
      rw[HWD.out]
      rw[HS1.out] at hm3
      exact⟨rfl,by rw[←HK1.out,if_neg (by rw[HII.out];exact Bool.false_ne_true),if_neg (by rw[HH.out];exact Bool.false_ne_true)];exact hm3,(HB.out.trans (Below.drewN _ _ _)).trans hb3,by have:=HK.out;omega⟩
   | cons c r=>
    have HL:=Lib.hid hl
    have HP:=Lib.hid (fun m=>peek_v B g S (σ1.to k (c::r) t0) c r rfl (wr.drewN m) (HM.out.drewN m))
    have hst:stop c=true:=he
    obtain⟨v,hv⟩:∃ v,v=Lib.indexByte [32,9,10,59,38,124,40,41,60,62] c:=⟨_,rfl⟩
    have hv0:¬ v<0:=by rw[hv,idx_stop,hst];simp
    have HX:=Lib.hid (fun W=>idxStr_v ⟨#[32,9,10,59,38,124,40,41,60,62]⟩ c v hv W)
    obtain⟨l',hnil⟩:∃ l':L,l'=c::r:=⟨_,rfl⟩
    rw[←hnil] at HS HM HK HWD
    clear hl he hnil hv hst
    have hq1:=(HSF.out l' t0).1
    have hIo:=fun m=>isIo_v B g S (σ1.to k l' t0) (by rw[hq1];exact HQL.out) (wr.drewN m) (HM.out.drewN m)
    have hio:(Lx.digits (σ1.to k l' t0).q && (!(σ1.to k l' t0).j && ((σ1.to k l' t0).l.head?==some 60 || (σ1.to k l' t0).l.head?==some 62)))=Lx.io t0 (k-l'.length) l':=io_eq HK.out (by rw[HS1.out])
    rw[hio] at hIo
    by_cases hi:Lx.io t0 (k-l'.length) l'=true
    ·rw[hi] at hIo
     have HI:=Lib.hid hIo
     have HTE:=Lib.hid (fun W hW=>tell_v B g S (σ1.to k l' t0) 5 (mkS t0) ⟨5,t0,[],nl σ.l⟩ rfl rfl rfl (by rw[(HSF.out l' t0).2.1];exact HLN.out) (by rw[(HSF.out l' t0).2.2.1];exact HTS.out) W hW)
     have HII:=Lib.hid hi
     clear hIo hio hq1 hi
     obtain⟨p,n,vt,vh,vx,ms,mp,hx⟩:=HM.out
     have hq9:=(HSF.out l' t0).1
     obtain⟨⟨_,_,_,_,_,_,c6,_⟩,_⟩:=hx.facts
     obtain⟨A,cc,rfl,_,hrd,_⟩:=own_map hx.txt
     rw[hq9] at hrd c6
     have hstr:∀ m,(convert 70 9 (.slice A t0.length cc)).run Tryz.prog (wr.drewN m)=.ok (.string (mkS t0)) (wr.drewN m):=fun m=>run_str_of (w:=wr.drewN m) (B:=wr.heap.size) (show Rd (wr.drewN m) wr.heap.size A t0.length (t0.map bv) from hrd) _ _ 5 Tryz.underlying70 Tryz.underlying5 Tryz.underlying9 cc
     have c66:wr.cell? ⟨g,6,none⟩=some (.slice A t0.length cc):=c6
     clear c6 hx hrd hq9
     go_wp2_with (first
      |(go_at_call 46;(with_reducible refine HL.out.mono ?_);rintro e w2 ⟨rfl,m,rfl⟩)
      |(go_at_call 47;(with_reducible refine(HP.out _).mono ?_);rintro e w2 ⟨rfl,m5,rfl⟩)
      |(go_at_call 94;(with_reducible refine(HX.out _).mono ?_);rintro e w2 ⟨rfl,rfl⟩)
      |(go_at_call 95;(with_reducible refine(HI.out _).mono ?_);rintro e w2 ⟨rfl,m2,rfl⟩)
      |(go_at_call 50;(with_reducible refine(HTE.out _ (HM.out.drewN _)).mono ?_);rintro e w3 ⟨rfl,hm3,hb3⟩))
     go_end0
     rw[HWD.out]
     rw[HS1.out] at hm3
     exact⟨rfl,by rw[←HK1.out,if_pos HII.out];exact hm3,(HB.out.trans (Below.drewN _ _ _)).trans hb3,by have:=HK.out;omega⟩
    ·have hi:Lx.io t0 (k-l'.length) l'=false:=by simpa using hi
     rw[hi] at hIo
     have HI:=Lib.hid hIo
     have HII:=Lib.hid hi
     have hHe:=fun m=>isHere_v B g S (σ1.to k l' t0) (by rw[(HSF.out l' t0).2.2.1];exact HTS.out) (wr.drewN m) (HM.out.drewN m)
     have hts:=(HSF.out l' t0).2.2.1
     rw[hts] at hHe
     by_cases hh:Lx.hung σ.ts=true
     ·rw[hh] at hHe
      have HHE:=Lib.hid hHe
      have HH:=Lib.hid hh
      clear hIo hio hq1 hi hHe hh hts
      go_wp2_with (first
       |(go_at_call 46;(with_reducible refine HL.out.mono ?_);rintro e w2 ⟨rfl,m,rfl⟩)
       |(go_at_call 47;(with_reducible refine(HP.out _).mono ?_);rintro e w2 ⟨rfl,m5,rfl⟩)
       |(go_at_call 94;(with_reducible refine(HX.out _).mono ?_);rintro e w2 ⟨rfl,rfl⟩)
       |(go_at_call 95;(with_reducible refine(HI.out _).mono ?_);rintro e w2 ⟨rfl,m2,rfl⟩)
       |(go_at_call 96;(with_reducible refine(HHE.out _).mono ?_);rintro e w3 ⟨rfl,rfl⟩))
      obtain⟨w1,hw1⟩:∃ w1,w1=wr.drewN (m+m5+m2):=⟨_,rfl⟩
      rw[←hw1]
      have hm1:Mem w1 B g S (σ1.to k l' t0):=by rw[hw1];exact HM.out.drewN _
      have HB1:=Lib.hid (show Below B W w1 by rw[hw1];exact HB.out.trans (Below.drewN _ _ _))
      obtain⟨A0,n0,k0,A1,n1,k1,C1,C2,hnt⟩:=noted B g S (σ1.to k l' t0) (by rw[(HSF.out l' t0).2.2.2.1];exact HHS.out) w1 hm1
      have HN:=Lib.hid hnt
      clear hnt hm1 hw1
      refine wp_region_two (by kernel_rfl) 11 14 (Later w1) (C1) (C2) (High w1.heap.size) [Sp.val (.pointer (some ⟨g,0,none⟩)),Sp.val (.pointer (some ⟨g,0,none⟩)),Sp.val (.pointer (some ⟨g,0,none⟩)),Sp.val (.pointer (some ⟨g,5,none⟩)),Sp.val (.slice A0 n0 k0),Sp.val (.pointer (some ⟨g,0,none⟩)),Sp.val (.pointer (some ⟨g,0,none⟩)),Sp.val (.pointer (some ⟨g,4,none⟩)),Sp.val (.slice A1 n1 k1),Sp.val (.int .i64 (n1:Int)),spLit w1.heap.size #[.int .i64 (n1:Int)] 3,Sp.any,Sp.val (.pointer (some ⟨g,0,none⟩)),Sp.val (.pointer (some ⟨g,5,none⟩)),Sp.any] (by decide) (by decide) (by decide) (by kernel_rfl) (by kernel_rfl) (by kernel_rfl) (Later.drew w1) (fun _ _ h hl=>Later.trans h hl) (HN.out.l1) (HN.out.l2) (fun _ _ h=>High.later h) ?_ ?_
      ·refine⟨?_,?_,?_,?_,?_,?_,?_,?_,?_,?_,?_,?_,?_,?_,?_,trivial⟩
       ·
        unfold OwesT
        rw[if_neg (by decide),if_neg (by decide)]
        refine fun a w hD hC hs=>⟨?_,?_⟩
        ·rfl
        have e0:a.tmps.getD 0 undef=.pointer (some ⟨g,0,none⟩):=hs.free 0 rfl
        exact⟨e0,hC,Later.refl _⟩
       ·
        unfold OwesT
        rw[if_neg (by decide),if_neg (by decide)]
        refine fun a w hD hC hs=>⟨?_,?_⟩
        ·rfl
        have e0:a.tmps.getD 0 undef=.pointer (some ⟨g,0,none⟩):=hs.free 0 rfl
        exact⟨e0,hC,Later.refl _⟩
       ·
        unfold OwesT
        rw[if_neg (by decide),if_neg (by decide)]
        refine fun a w hD hC hs=>⟨?_,?_⟩
        ·rfl
        have e32:a.tmps.getD 32 undef=.pointer (some ⟨g,0,none⟩):=hs.dep 1 _ rfl rfl
        refine ValWp.pure (v:=.pointer (some ⟨g,0,none⟩)) (fun K' hK'=>?_) ⟨rfl,hC,Later.refl _⟩
        simp only[ValWp,execOp,Act.eval,e32]
        go_simp
        all_goals exact hK'
       ·
        unfold OwesT
        rw[if_neg (by decide),if_neg (by decide)]
        refine fun a w hD hC hs=>⟨?_,?_⟩
        ·rfl
        have e33:a.tmps.getD 33 undef=.pointer (some ⟨g,0,none⟩):=hs.dep 2 _ rfl rfl
        refine ValWp.pure (v:=.pointer (some ⟨g,5,none⟩)) (fun K' hK'=>?_) ⟨rfl,hC,Later.refl _⟩
        simp only[ValWp,execOp,Act.eval,e33]
        go_simp
        all_goals exact hK'
       ·
        unfold OwesT
        rw[if_neg (by decide),if_neg (by decide)]
        refine fun a w hD hC hs=>⟨?_,?_⟩
        ·rfl
        have e34:a.tmps.getD 34 undef=.pointer (some ⟨g,5,none⟩):=hs.dep 3 _ rfl rfl
        have q5:=HN.out.c5 w (hD (by kernel_rfl))
        refine ValWp.pure (v:=.slice A0 n0 k0) (fun K' hK'=>?_) ⟨rfl,hC,Later.refl _⟩
        simp only[ValWp,execOp,Act.eval,e34]
        go_simp
        all_goals exact hK'
       ·
        unfold OwesT
        rw[if_neg (by decide),if_neg (by decide)]
        refine fun a w hD hC hs=>⟨?_,?_⟩
        ·rfl
        have e0:a.tmps.getD 0 undef=.pointer (some ⟨g,0,none⟩):=hs.free 0 rfl
        exact⟨e0,hC,Later.refl _⟩
       ·
        unfold OwesT
        rw[if_neg (by decide),if_neg (by decide)]
        refine fun a w hD hC hs=>⟨?_,?_⟩
        ·rfl
        have e36:a.tmps.getD 36 undef=.pointer (some ⟨g,0,none⟩):=hs.dep 5 _ rfl rfl
        refine ValWp.pure (v:=.pointer (some ⟨g,0,none⟩)) (fun K' hK'=>?_) ⟨rfl,hC,Later.refl _⟩
        simp only[ValWp,execOp,Act.eval,e36]
        go_simp
        all_goals exact hK'
       ·
        unfold OwesT
        rw[if_neg (by decide),if_neg (by decide)]
        refine fun a w hD hC hs=>⟨?_,?_⟩
        ·rfl
        have e37:a.tmps.getD 37 undef=.pointer (some ⟨g,0,none⟩):=hs.dep 6 _ rfl rfl
        refine ValWp.pure (v:=.pointer (some ⟨g,4,none⟩)) (fun K' hK'=>?_) ⟨rfl,hC,Later.refl _⟩
        simp only[ValWp,execOp,Act.eval,e37]
        go_simp
        all_goals exact hK'
       ·
        unfold OwesT
        rw[if_neg (by decide),if_neg (by decide)]
        refine fun a w hD hC hs=>⟨?_,?_⟩
        ·rfl
        have e38:a.tmps.getD 38 undef=.pointer (some ⟨g,4,none⟩):=hs.dep 7 _ rfl rfl
        have q4:=HN.out.c4 w hC
        refine ValWp.pure (v:=.slice A1 n1 k1) (fun K' hK'=>?_) ⟨rfl,hC,Later.refl _⟩
        simp only[ValWp,execOp,Act.eval,e38]
        go_simp
        all_goals exact hK'
       ·
        unfold OwesT
        rw[if_neg (by decide),if_neg (by decide)]
        refine fun a w hD hC hs=>⟨?_,?_⟩
        ·rfl
        have e39:a.tmps.getD 39 undef=.slice A1 n1 k1:=hs.dep 8 _ rfl rfl
        refine ValWp.pure (v:=.int .i64 (n1:Int)) (fun K' hK'=>?_) ⟨rfl,hC,Later.refl _⟩
        simp only[ValWp,execOp]
        go_simp
        all_goals exact hK'
       ·
        unfold OwesT
        rw[if_neg (by decide),if_neg (by decide)]
        refine fun a w hD hC hs=>⟨?_,?_⟩
        ·rfl
        have e40:a.tmps.getD 40 undef=.int .i64 (n1:Int):=hs.dep 9 _ rfl rfl
        refine ValWp.pure (v:=.slice (some ⟨w.heap.size,0,none⟩) 1 1) (w':=w.alloc (.cells #[.int .i64 (n1:Int)] 3)) (fun K' hK'=>?_) ⟨⟨w.heap.size,rfl,HN.out.sz w hC,heap_alloc_new w _⟩,HN.out.or w _ hC (Later.alloc w _),Later.alloc w _⟩
        simp only[ValWp,execOp,Act.eval,List.map_toArray,List.map_cons,List.map_nil,e40]
        go_simp
        all_goals exact hK'
       ·
        unfold OwesT
        rw[if_pos rfl]
        refine fun a w hC hs=>⟨?_,?_⟩
        ·rfl
        have e35:a.tmps.getD 35 undef=.slice A0 n0 k0:=hs.dep 4 _ rfl rfl
        obtain⟨N41,e41,hN41,hb41⟩:=hs.dep 10 _ rfl rfl
        change a.tmps.getD 41 undef=_ at e41
        intro K hK
        obtain⟨v',w',hrun,ho,hg⟩:=HN.out.ap w hC N41 hb41
        exact owes_append hrun rfl e35 e41 (hK v' w' trivial ho hg)
       ·
        unfold OwesT
        rw[if_neg (by decide),if_neg (by decide)]
        refine fun a w hD hC hs=>⟨?_,?_⟩
        ·rfl
        have e31:a.tmps.getD 31 undef=.pointer (some ⟨g,0,none⟩):=hs.dep 0 _ rfl rfl
        refine ValWp.pure (v:=.pointer (some ⟨g,0,none⟩)) (fun K' hK'=>?_) ⟨rfl,hC,Later.refl _⟩
        simp only[ValWp,execOp,Act.eval,e31]
        go_simp
        all_goals exact hK'
       ·
        unfold OwesT
        rw[if_neg (by decide),if_neg (by decide)]
        refine fun a w hD hC hs=>⟨?_,?_⟩
        ·rfl
        have e43:a.tmps.getD 43 undef=.pointer (some ⟨g,0,none⟩):=hs.dep 12 _ rfl rfl
        refine ValWp.pure (v:=.pointer (some ⟨g,5,none⟩)) (fun K' hK'=>?_) ⟨rfl,hC,Later.refl _⟩
        simp only[ValWp,execOp,Act.eval,e43]
        go_simp
        all_goals exact hK'
       ·
        unfold OwesT
        rw[if_neg (by decide),if_pos rfl]
        refine fun a w u hC hu hs=>⟨?_,?_⟩
        ·rfl
        have e44:a.tmps.getD 44 undef=.pointer (some ⟨g,5,none⟩):=hs.dep 13 _ rfl rfl
        have e42:a.tmps.getD 42 undef=u:=hu
        obtain⟨A4,n4,k4,rfl⟩:=HN.out.u w u hC
        obtain⟨q5,qz⟩:=HN.out.q5 w _ hC
        refine ValWp.pure (v:=undef) (w':=w.setCell ⟨g,5,none⟩ (.slice A4 n4 k4)) (fun K' hK'=>?_) ⟨trivial,HN.out.c2 w _ hC,HN.out.gq w _ hC⟩
        simp only[ValWp,execOp,Act.eval,e44,e42]
        go_simp
        all_goals exact hK'
      ·intro a W9 hC hd hsz hfree hs
       obtain⟨z0,u1,u2,u3,u4,u5,u6,u7,u8,u9,u10,u11,u12,u13,u14,u15,u16,u17,u18,u19,u20,u21,u22,u23,u24,u25,u26,u27,u28,u29,u30,u31,u32,u33,u34,u35,u36,u37,u38,u39,u40,u41,u42,u43,u44,u45,u46,u47,u48,u49,u50,u51,hal⟩:=lets a 52 0
       obtain rfl:=hal.on (v:=.pointer (some ⟨g,0,none⟩)) 0 (hfree 0 rfl) rfl
       have hlit:=fun h=>act_lit hd h hal
       rw[hlit hsz]
       clear hlit hal hd hsz hfree hs
       obtain⟨hm9,hb9⟩:=HN.out.ce _ hC
       have HB9:=Lib.hid (HB1.out.trans hb9)
       have HTE:=Lib.hid (fun W hW=>tell_v B g S { σ1.to k l' t0 with hs:=(σ1.to k l' t0).hs++[(σ1.to k l' t0).ts.length] } 1 (mkS t0) ⟨1,t0,[],nl σ.l⟩ rfl rfl rfl (by rw[(HSF.out l' t0).2.1];exact HLN.out) (by rw[(HSF.out l' t0).2.2.1];exact HTS.out) W hW)
       obtain⟨p,n,vt,vh,vx,ms,mp,hx⟩:=hm9
       have hq9:=(HSF.out l' t0).1
       obtain⟨⟨_,_,_,_,_,_,c6,_⟩,_⟩:=hx.facts
       obtain⟨A,cc,rfl,_,hrd,_⟩:=own_map hx.txt
       rw[hq9] at hrd c6
       have hstr:=run_str_of hrd _ _ 5 Tryz.underlying70 Tryz.underlying5 Tryz.underlying9 cc
       have c66:W9.cell? ⟨g,6,none⟩=some (.slice A t0.length cc):=c6
       have hstr2:(convert 70 9 (.slice A t0.length cc)).run Tryz.prog W9=.ok (.string (mkS t0)) W9:=hstr
       have HX9:=Lib.hid hx.mem
       clear c6 hx hrd hq9 hb9 hC hstr
       go_wp2_with (first
        |(go_at_call 50;(with_reducible refine(HTE.out _ HX9.out).mono ?_);rintro e w3 ⟨rfl,hm3,hb3⟩))
       go_end0
       rw[HWD.out]
       rw[HS1.out] at hm3
       exact⟨rfl,by rw[←HK1.out,if_neg (by rw[HII.out];exact Bool.false_ne_true),if_pos HH.out];exact hm3,HB9.out.trans hb3,by have:=HK.out;omega⟩
     ·have hh:Lx.hung σ.ts=false:=by simpa using hh
      rw[hh] at hHe
      have HHE:=Lib.hid hHe
      have HH:=Lib.hid hh
      have HTE:=Lib.hid (fun W hW=>tell_v B g S (σ1.to k l' t0) 1 (mkS t0) ⟨1,t0,[],nl σ.l⟩ rfl rfl rfl (by rw[(HSF.out l' t0).2.1];exact HLN.out) (by rw[(HSF.out l' t0).2.2.1];exact HTS.out) W hW)
      clear hIo hio hq1 hi hHe hh hts
      obtain⟨p,n,vt,vh,vx,ms,mp,hx⟩:=HM.out
      have hq9:=(HSF.out l' t0).1
      obtain⟨⟨_,_,_,_,_,_,c6,_⟩,_⟩:=hx.facts
      obtain⟨A,cc,rfl,_,hrd,_⟩:=own_map hx.txt
      rw[hq9] at hrd c6
      have hstr:∀ m,(convert 70 9 (.slice A t0.length cc)).run Tryz.prog (wr.drewN m)=.ok (.string (mkS t0)) (wr.drewN m):=fun m=>run_str_of (w:=wr.drewN m) (B:=wr.heap.size) (show Rd (wr.drewN m) wr.heap.size A t0.length (t0.map bv) from hrd) _ _ 5 Tryz.underlying70 Tryz.underlying5 Tryz.underlying9 cc
      have c66:wr.cell? ⟨g,6,none⟩=some (.slice A t0.length cc):=c6
      clear c6 hx hrd hq9
      go_wp2_with (first
       |(go_at_call 46;(with_reducible refine HL.out.mono ?_);rintro e w2 ⟨rfl,m,rfl⟩)
       |(go_at_call 47;(with_reducible refine(HP.out _).mono ?_);rintro e w2 ⟨rfl,m5,rfl⟩)
       |(go_at_call 94;(with_reducible refine(HX.out _).mono ?_);rintro e w2 ⟨rfl,rfl⟩)
       |(go_at_call 95;(with_reducible refine(HI.out _).mono ?_);rintro e w2 ⟨rfl,m2,rfl⟩)
       |(go_at_call 96;(with_reducible refine(HHE.out _).mono ?_);rintro e w3 ⟨rfl,rfl⟩)
       |(go_at_call 50;(with_reducible refine(HTE.out _ (HM.out.drewN _)).mono ?_);rintro e w3 ⟨rfl,hm3,hb3⟩))
      go_end0
      rw[HWD.out]
      rw[HS1.out] at hm3
      exact⟨rfl,by rw[←HK1.out,if_neg (by rw[HII.out];exact Bool.false_ne_true),if_neg (by rw[HH.out];exact Bool.false_ne_true)];exact hm3,(HB.out.trans (Below.drewN _ _ _)).trans hb3,by have:=HK.out;omega⟩
  ·cases l' with
   | nil=>exact absurd rfl he
   | cons c r=>
    have HL:=Lib.hid hl
    have HP:=Lib.hid (fun m=>peek_v B g S (σ1.to k (c::r) t0) c r rfl (wr.drewN m) (HM.out.drewN m))
    have hst:stop c=false:=by
     have h9:¬ stop c=true:=he
     simpa using h9
    obtain⟨v,hv⟩:∃ v,v=Lib.indexByte [32,9,10,59,38,124,40,41,60,62] c:=⟨_,rfl⟩
    have hv0:v<0:=by rw[hv,idx_stop,hst]
    have HX:=Lib.hid (fun W=>idxStr_v ⟨#[32,9,10,59,38,124,40,41,60,62]⟩ c v hv W)
    have hpart:=fun m=>parts_all B g S k _ (σ1.to k (c::r) t0) (wr.drewN m) (Nat.lt_succ_self _) (by simp[St.to]) (HNM.out _ _ HK.out) (by rw[(HSF.out _ _).2.2.2.2];omega) (HM.out.drewN m)
    have e1:(σ1.to k (c::r) t0).l=c::r:=rfl
    rw[e1,(HSF.out _ _).2.2.2.2] at hpart
    have HWA:=Lib.hid (Lx.word_at (c::r))
    have HEN:=Lib.hid he
    clear hl hv hst he
    cases hpt:Lx.part 0 (c::r) with
    | error n=>
     rw[hpt] at hpart
     have HPT:=Lib.hid hpart
     have HEQ:=Lib.hid hpt
     clear hpart hpt e1
     go_wp2_with (first
      |(go_at_call 46;(with_reducible refine HL.out.mono ?_);rintro e w2 ⟨rfl,m,rfl⟩)
      |(go_at_call 47;(with_reducible refine(HP.out _).mono ?_);rintro e w2 ⟨rfl,m,rfl⟩)
      |(go_at_call 94;(with_reducible refine(HX.out _).mono ?_);rintro e w2 ⟨rfl,rfl⟩)
      |(go_at_call 90;(with_reducible refine(HPT.out _).mono ?_);rintro e w2 ⟨rfl,hb2⟩;have HB2:=Lib.hid hb2;clear hb2))
     refine bodyPost_panic rfl ?_
     rw[HS.out,HWA.out,if_neg HEN.out,HEQ.out]
     exact⟨by rw[(HSF.out _ _).2.1],HB.out.trans ((Below.drewN _ _ _).trans HB2.out)⟩
    | ok x=>
     obtain⟨t,r'⟩:=x
     rw[hpt] at hpart
     have HPT:=Lib.hid hpart
     have HEQ:=Lib.hid hpt
     clear hpart hpt e1
     go_wp2_with (first
      |(go_at_call 46;(with_reducible refine HL.out.mono ?_);rintro e w2 ⟨rfl,m,rfl⟩)
      |(go_at_call 47;(with_reducible refine(HP.out _).mono ?_);rintro e w2 ⟨rfl,m,rfl⟩)
      |(go_at_call 94;(with_reducible refine(HX.out _).mono ?_);rintro e w2 ⟨rfl,rfl⟩)
      |(go_at_call 90;(with_reducible refine(HPT.out _).mono ?_);rintro e w2 ⟨rfl,hm2,hb2,hk2⟩;have HM2:=Lib.hid hm2;have HB2:=Lib.hid hb2;have HK2:=Lib.hid hk2;clear hm2 hb2 hk2))
     go_roundw
     case rel=>
      have hm:=HM2.out
      rw[St.to_to] at hm
      have hk:=HK2.out
      rw[(HSF.out _ _).1,List.length_append] at hk
      refine⟨r',t0++t,?_,hm,HB.out.trans ((Below.drewN _ _ _).trans HB2.out),by rw[List.length_append];exact hk⟩
      rw[HS.out,HWA.out,if_neg HEN.out,HEQ.out,pre_pre]
     case measure=>
      have h3:=Lx.part_len 0 _ _ _ HEQ.out
      rw[HM2.out.left,HM.out.left];simpa [St.to] using h3
end Go.Proofs.YtkkchkkpnlnbgaaGreatDoor
