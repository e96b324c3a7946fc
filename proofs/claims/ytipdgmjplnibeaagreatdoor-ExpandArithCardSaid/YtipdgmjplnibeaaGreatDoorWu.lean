import Derived.Test.YtipdgmjplnibeaaGreatDoorG31
set_option maxRecDepth 100000
set_option maxHeartbeats 1600000
namespace Go.Proofs.YtipdgmjplnibeaaGreatDoor
open Go.RowKit Go.Maps
set_option maxRecDepth 100000
namespace Ws
section
variable {W W':World} {X T:Nat→Prop} {g s dp:Nat} {raw:L} {r:Wd.R} {x:Wd.S}
def RowR (W:World) (X T:Nat→Prop) (g s:Nat) (raw:L) (dp:Nat) (r:Wd.R) (x:Wd.S) (e:Ending) (W':World):Prop:=e=.returned (.tuple #[])∧RMT W' X T g s raw dp r x∧Fr (un X T) W W'
theorem sv_def (l:L):sv l=.string (mkS l):=rfl
theorem close_v (h:RMT W X T g s raw dp r x) (hlen:r.ps.length≤100000000):Calls Tryz.prog 80 #[.pointer (some ⟨g,0,none⟩)] W (RowR W X T g s raw dp (Wd.close r) x):=by
 obtain⟨vp,vt,nd,h⟩:=h
 by_cases hk:0<r.k
 ·have e1:Wd.close r=⟨r.ps++[.mk r.k r.t [] false []],0,[]⟩:=by unfold Wd.close;rw[if_pos hk]
  rw[e1]
  obtain⟨v',b,C,hp⟩:=push h (.mk r.k r.t [] false [],.slice none 0 0) (.nil _ _) (by rw[h.len];omega)
  obtain⟨k4,hv4,hk4⟩:=hp.v
  obtain⟨A0,k0,rfl,hk0⟩:=own_any h.row
  obtain⟨A1,k1,rfl,hk1⟩:=own_any h.txt
  have hlen2:=h.len
  obtain⟨m0,hm0⟩:∃ m0,m0=nd.length:=⟨_,rfl⟩
  obtain⟨n1,hn1⟩:∃ n1,n1=r.t.length:=⟨_,rfl⟩
  obtain⟨kk,hkk⟩:∃ kk,kk=r.k:=⟨_,rfl⟩
  subst hv4
  have hrd:Rd W W.heap.size A1 r.t.length (r.t.map bv):=Rd.of_own (h.txt)
  obtain⟨w1,hw1⟩:∃ w1,w1=W:=⟨_,rfl⟩
  have HS:=Lib.hid (show ∀ w,Later w1 w→(convert 81 9 (.slice A1 n1 k1)).run Tryz.prog w=.ok (.string (mkS r.t)) w from fun w hl=>by
   rw[hn1]
   rw[hw1] at hl
   exact run_str_of ((hrd.below hl).more hl.size) _ _ 5 Tryz.underlying81 Tryz.underlying5 Tryz.underlying9 k1)
  have HF:=Lib.hid (show ∀ w,Later w1 w→w.cell? ⟨g,0,none⟩=some (.slice A0 m0 k0)∧w.cell? ⟨g,1,none⟩=some (.int .i64 (kk:Int))∧w.cell? ⟨g,2,none⟩=some (.slice A1 n1 k1) from fun w hl=>by
   rw[hw1] at hl
   have:=(h.later hl).facts.1
   rw[hm0,hn1,hkk]
   exact⟨this.1,this.2.1,this.2.2.1⟩)
  have c1:=(HF.out w1 (Later.refl w1)).2.1
  rw[hw1] at c1
  rw[←hm0] at hp
  obtain⟨PC,hPC⟩:∃ PC:Array Value,PC=#[.int .i64 (kk:Int),.string (mkS r.t),.string ⟨#[]⟩,.bool false,.slice none 0 0]:=⟨_,rfl⟩
  have HONE:=Lib.hid (show PC.all (·.oneCell')=true by rw[hPC];simp[Value.oneCell'])
  have hpc:pcs (.mk r.k r.t [] false [],.slice none 0 0)=PC.toList:=by rw[hPC,hkk];rfl
  rw[hpc] at hp
  have hps:PC.size=5:=by rw[hPC];rfl
  rw[←hw1] at hp
  have HP:=Lib.hid hp
  have HM:=Lib.hid (show (0:Int)≤(m0:Int)∧(m0:Int)<(m0:Int)+1 by omega)
  have hkp:(0:Int)<(kk:Int):=by omega
  have HW:=Lib.hid hw1
  have HPC:=Lib.hid hPC
  clear hw1 h hp hk hk0 hk1 hk4 hm0 hn1 hkk hlen hlen2 hrd e1 hpc hPC
  go_enter Tryz.func80,Tryz.ntmps80
  go_wp2
  rw[←HW.out]
  refine wp_region_bits (by kernel_rfl) [15,16,18,21] (C) [some (.pointer (some ⟨g,0,none⟩)),some (.pointer (some ⟨g,0,none⟩)),some (.pointer (some ⟨g,0,none⟩)),some (.slice A0 m0 k0),some (.pointer (some ⟨g,0,none⟩)),some (.pointer (some ⟨g,0,none⟩)),some (.pointer (some ⟨g,1,none⟩)),some (.int .i64 (kk:Int)),some (.pointer (some ⟨g,0,none⟩)),some (.pointer (some ⟨g,0,none⟩)),some (.pointer (some ⟨g,2,none⟩)),some (.slice A1 n1 k1),some (.string (mkS r.t)),some (.agg PC),some (.int .i64 (m0:Int)),some (.slice (some ⟨w1.drew.heap.size,0,none⟩) 1 1),some (.slice (some ⟨b,0,none⟩) (m0+1) k4),some (.pointer (some ⟨b,m0*5,none⟩)),none,some (.pointer (some ⟨g,0,none⟩)),some (.pointer (some ⟨g,0,none⟩)),none] (by decide) (by decide) (by kernel_rfl) (HP.out.c0) ?_ ?_
  ·refine⟨?_,?_,?_,?_,?_,?_,?_,?_,?_,?_,?_,?_,?_,?_,?_,?_,?_,?_,?_,?_,?_,?_,trivial⟩
   ·
    refine OwesB.q rfl fun a w bits hC hd hu hs=>⟨rfl,?_⟩
    have e0:a.tmps.getD 0 undef=.pointer (some ⟨g,0,none⟩):=hs.free 0 rfl
    refine ValWp.pure (v:=.pointer (some ⟨g,0,none⟩)) (fun K' hK'=>?_) ⟨rfl,rfl⟩
    simp only[ValWp,execOp,Act.eval,e0]
    go_simp
    all_goals exact hK'
   ·
    refine OwesB.q rfl fun a w bits hC hd hu hs=>⟨rfl,?_⟩
    have e7:a.tmps.getD 7 undef=.pointer (some ⟨g,0,none⟩):=hs.dep 0 _ rfl rfl
    refine ValWp.pure (v:=.pointer (some ⟨g,0,none⟩)) (fun K' hK'=>?_) ⟨rfl,rfl⟩
    simp only[ValWp,execOp,Act.eval,e7]
    go_simp
    all_goals exact hK'
   ·
    refine OwesB.q rfl fun a w bits hC hd hu hs=>⟨rfl,?_⟩
    have e8:a.tmps.getD 8 undef=.pointer (some ⟨g,0,none⟩):=hs.dep 1 _ rfl rfl
    refine ValWp.pure (v:=.pointer (some ⟨g,0,none⟩)) (fun K' hK'=>?_) ⟨rfl,rfl⟩
    simp only[ValWp,execOp,Act.eval,e8]
    go_simp
    all_goals exact hK'
   ·
    refine OwesB.q rfl fun a w bits hC hd hu hs=>⟨rfl,?_⟩
    have e9:a.tmps.getD 9 undef=.pointer (some ⟨g,0,none⟩):=hs.dep 2 _ rfl rfl
    have q9:=HF.out w (HP.out.q bits w hC (hu 1 16 rfl (.inr rfl)))
    obtain⟨q0,q1,q2⟩:=q9
    refine ValWp.pure (v:=.slice A0 m0 k0) (fun K' hK'=>?_) ⟨rfl,rfl⟩
    simp only[ValWp,execOp,Act.eval,e9]
    go_simp
    all_goals exact hK'
   ·
    refine OwesB.q rfl fun a w bits hC hd hu hs=>⟨rfl,?_⟩
    have e0:a.tmps.getD 0 undef=.pointer (some ⟨g,0,none⟩):=hs.free 0 rfl
    refine ValWp.pure (v:=.pointer (some ⟨g,0,none⟩)) (fun K' hK'=>?_) ⟨rfl,rfl⟩
    simp only[ValWp,execOp,Act.eval,e0]
    go_simp
    all_goals exact hK'
   ·
    refine OwesB.q rfl fun a w bits hC hd hu hs=>⟨rfl,?_⟩
    have e11:a.tmps.getD 11 undef=.pointer (some ⟨g,0,none⟩):=hs.dep 4 _ rfl rfl
    refine ValWp.pure (v:=.pointer (some ⟨g,0,none⟩)) (fun K' hK'=>?_) ⟨rfl,rfl⟩
    simp only[ValWp,execOp,Act.eval,e11]
    go_simp
    all_goals exact hK'
   ·
    refine OwesB.q rfl fun a w bits hC hd hu hs=>⟨rfl,?_⟩
    have e12:a.tmps.getD 12 undef=.pointer (some ⟨g,0,none⟩):=hs.dep 5 _ rfl rfl
    refine ValWp.pure (v:=.pointer (some ⟨g,1,none⟩)) (fun K' hK'=>?_) ⟨rfl,rfl⟩
    simp only[ValWp,execOp,Act.eval,e12]
    go_simp
    all_goals exact hK'
   ·
    refine OwesB.q rfl fun a w bits hC hd hu hs=>⟨rfl,?_⟩
    have e13:a.tmps.getD 13 undef=.pointer (some ⟨g,1,none⟩):=hs.dep 6 _ rfl rfl
    have q9:=HF.out w (HP.out.q bits w hC (hu 1 16 rfl (.inr rfl)))
    obtain⟨q0,q1,q2⟩:=q9
    refine ValWp.pure (v:=.int .i64 (kk:Int)) (fun K' hK'=>?_) ⟨rfl,rfl⟩
    simp only[ValWp,execOp,Act.eval,e13]
    go_simp
    all_goals exact hK'
   ·
    refine OwesB.q rfl fun a w bits hC hd hu hs=>⟨rfl,?_⟩
    have e0:a.tmps.getD 0 undef=.pointer (some ⟨g,0,none⟩):=hs.free 0 rfl
    refine ValWp.pure (v:=.pointer (some ⟨g,0,none⟩)) (fun K' hK'=>?_) ⟨rfl,rfl⟩
    simp only[ValWp,execOp,Act.eval,e0]
    go_simp
    all_goals exact hK'
   ·
    refine OwesB.q rfl fun a w bits hC hd hu hs=>⟨rfl,?_⟩
    have e15:a.tmps.getD 15 undef=.pointer (some ⟨g,0,none⟩):=hs.dep 8 _ rfl rfl
    refine ValWp.pure (v:=.pointer (some ⟨g,0,none⟩)) (fun K' hK'=>?_) ⟨rfl,rfl⟩
    simp only[ValWp,execOp,Act.eval,e15]
    go_simp
    all_goals exact hK'
   ·
    refine OwesB.q rfl fun a w bits hC hd hu hs=>⟨rfl,?_⟩
    have e16:a.tmps.getD 16 undef=.pointer (some ⟨g,0,none⟩):=hs.dep 9 _ rfl rfl
    refine ValWp.pure (v:=.pointer (some ⟨g,2,none⟩)) (fun K' hK'=>?_) ⟨rfl,rfl⟩
    simp only[ValWp,execOp,Act.eval,e16]
    go_simp
    all_goals exact hK'
   ·
    refine OwesB.q rfl fun a w bits hC hd hu hs=>⟨rfl,?_⟩
    have e17:a.tmps.getD 17 undef=.pointer (some ⟨g,2,none⟩):=hs.dep 10 _ rfl rfl
    have q9:=HF.out w (HP.out.q bits w hC (hu 1 16 rfl (.inr rfl)))
    obtain⟨q0,q1,q2⟩:=q9
    refine ValWp.pure (v:=.slice A1 n1 k1) (fun K' hK'=>?_) ⟨rfl,rfl⟩
    simp only[ValWp,execOp,Act.eval,e17]
    go_simp
    all_goals exact hK'
   ·
    refine OwesB.q rfl fun a w bits hC hd hu hs=>⟨rfl,?_⟩
    have e18:a.tmps.getD 18 undef=.slice A1 n1 k1:=hs.dep 11 _ rfl rfl
    have q9:=HS.out w (HP.out.q bits w hC (hu 1 16 rfl (.inr rfl)))
    refine ValWp.pure (v:=.string (mkS r.t)) (fun K' hK'=>?_) ⟨rfl,rfl⟩
    simp only[ValWp,execOp,Act.eval,e18]
    simp only[Sem.run_bind,q9,Result.andThen_ok,Sem.run_pure]
    exact hK'
   ·
    refine OwesB.q rfl fun a w bits hC hd hu hs=>⟨rfl,?_⟩
    have e14:a.tmps.getD 14 undef=.int .i64 (kk:Int):=hs.dep 7 _ rfl rfl
    have e19:a.tmps.getD 19 undef=.string (mkS r.t):=hs.dep 12 _ rfl rfl
    refine ValWp.pure (v:=.agg PC) (fun K' hK'=>?_) ⟨rfl,rfl⟩
    rw[HPC.out] at hK'
    simp only[ValWp,execOp,Act.eval,List.map_toArray,List.map_cons,List.map_nil,e14,e19]
    go_simp
    all_goals exact hK'
   ·
    refine OwesB.q rfl fun a w bits hC hd hu hs=>⟨rfl,?_⟩
    have e10:a.tmps.getD 10 undef=.slice A0 m0 k0:=hs.dep 3 _ rfl rfl
    refine ValWp.pure (v:=.int .i64 (m0:Int)) (fun K' hK'=>?_) ⟨rfl,rfl⟩
    simp only[ValWp,execOp,Act.eval,e10]
    go_simp
    all_goals exact hK'
   ·
    refine fun a w bits hC hd hu hs=>⟨rfl,fun K hK=>?_⟩
    obtain⟨b0,b1,b2,b3,rfl,i2,i3,i1⟩:=HP.out.len bits w hC
    have h0:=hu 0 15 rfl (.inl rfl)
    simp only[List.getElem?_cons_zero,Option.some.injEq] at h0
    subst h0
    have h1:b1=false:=by cases b1 with | false=>rfl | true=>exact absurd (i1 rfl) (by simp)
    subst h1
    have h2:b2=false:=by cases b2 with | false=>rfl | true=>exact absurd (i2 rfl) (by simp)
    subst h2
    have h3:b3=false:=by cases b3 with | false=>rfl | true=>exact absurd (i3 rfl) (by simp)
    subst h3
    have hw:=HP.out.a0 w hC
    subst hw
    refine wp_of_val ?_
    refine ValWp.pure (v:=.slice (some ⟨w1.drew.heap.size,0,none⟩) 1 1) (w':=w1.drew.alloc (.cells zp.toArray 105)) (fun K' hK'=>?_) (hK _ _ rfl HP.out.c1)
    simp only[ValWp,execOp,Act.eval,List.map_toArray,List.map_cons,List.map_nil]
    go_simp
    all_goals exact hK'
   ·
    refine fun a w bits hC hd hu hs=>⟨rfl,fun K hK=>?_⟩
    have e10:a.tmps.getD 10 undef=.slice A0 m0 k0:=hs.dep 3 _ rfl rfl
    have e22:a.tmps.getD 22 undef=.slice (some ⟨w1.drew.heap.size,0,none⟩) 1 1:=hs.dep 15 _ rfl rfl
    obtain⟨b0,b1,b2,b3,rfl,i2,i3,i1⟩:=HP.out.len bits w hC
    have h0:=hd 0 15 rfl rfl
    have h1:=hu 1 16 rfl (.inl rfl)
    simp only[List.getElem?_cons_zero,List.getElem?_cons_succ,Option.some.injEq] at h0 h1
    subst h0 h1
    have h2:b2=false:=by cases b2 with | false=>rfl | true=>exact absurd (i2 rfl) (by simp)
    subst h2
    have h3:b3=false:=by cases b3 with | false=>rfl | true=>exact absurd (i3 rfl) (by simp)
    subst h3
    obtain⟨w',hrun,h4⟩:=HP.out.a1 w hC
    exact owes_append hrun rfl e10 e22 (hK _ w' rfl h4)
   ·
    refine OwesB.q rfl fun a w bits hC hd hu hs=>⟨rfl,?_⟩
    have e23:a.tmps.getD 23 undef=.slice (some ⟨b,0,none⟩) (m0+1) k4:=hs.dep 16 _ rfl rfl
    have e21:a.tmps.getD 21 undef=.int .i64 (m0:Int):=hs.dep 14 _ rfl rfl
    have g1:=HM.out
    refine ValWp.pure (v:=.pointer (some ⟨b,m0*5,none⟩)) (fun K' hK'=>?_) ⟨rfl,rfl⟩
    simp only[ValWp,execOp,Act.eval,e23,e21]
    go_simp
    all_goals exact hK'
   ·
    refine fun a w bits hC hd hu hs=>⟨rfl,fun K hK=>?_⟩
    have e24:a.tmps.getD 24 undef=.pointer (some ⟨b,m0*5,none⟩):=hs.dep 17 _ rfl rfl
    have e20:a.tmps.getD 20 undef=.agg PC:=hs.dep 13 _ rfl rfl
    obtain⟨b0,b1,b2,b3,rfl,i2,i3,i1⟩:=HP.out.len bits w hC
    have h1:=hd 1 16 rfl rfl
    have h2:=hu 2 18 rfl (.inl rfl)
    simp only[List.getElem?_cons_zero,List.getElem?_cons_succ,Option.some.injEq] at h1 h2
    subst h1 h2
    have h0:=i1 rfl
    subst h0
    obtain⟨hth,h4⟩:=HP.out.s2 w b3 hC
    refine wp_store_mid 105 (.tmp 24) (.tmp 20) rfl b (m0*5) PC e24 e20 (by rw[hps];exact hth) (by rw[hps];exact size_part) HONE.out ?_
    exact hK undef _ trivial h4
   ·
    refine OwesB.q rfl fun a w bits hC hd hu hs=>⟨rfl,?_⟩
    have e7:a.tmps.getD 7 undef=.pointer (some ⟨g,0,none⟩):=hs.dep 0 _ rfl rfl
    refine ValWp.pure (v:=.pointer (some ⟨g,0,none⟩)) (fun K' hK'=>?_) ⟨rfl,rfl⟩
    simp only[ValWp,execOp,Act.eval,e7]
    go_simp
    all_goals exact hK'
   ·
    refine OwesB.q rfl fun a w bits hC hd hu hs=>⟨rfl,?_⟩
    have e25:a.tmps.getD 25 undef=.pointer (some ⟨g,0,none⟩):=hs.dep 19 _ rfl rfl
    refine ValWp.pure (v:=.pointer (some ⟨g,0,none⟩)) (fun K' hK'=>?_) ⟨rfl,rfl⟩
    simp only[ValWp,execOp,Act.eval,e25]
    go_simp
    all_goals exact hK'
   ·
    refine fun a w bits hC hd hu hs=>⟨rfl,fun K hK=>?_⟩
    have e26:a.tmps.getD 26 undef=.pointer (some ⟨g,0,none⟩):=hs.dep 20 _ rfl rfl
    have e23:a.tmps.getD 23 undef=.slice (some ⟨b,0,none⟩) (m0+1) k4:=hs.dep 16 _ rfl rfl
    obtain⟨b0,b1,b2,b3,rfl,i2,i3,i1⟩:=HP.out.len bits w hC
    have h1:=hd 1 16 rfl rfl
    have h3:=hu 3 21 rfl (.inl rfl)
    simp only[List.getElem?_cons_zero,List.getElem?_cons_succ,Option.some.injEq] at h1 h3
    subst h1 h3
    have h0:=i1 rfl
    subst h0
    obtain⟨⟨q4,qz⟩,h4⟩:=HP.out.s3 w b2 hC
    refine wp_of_val ?_
    refine ValWp.pure (v:=undef) (w':=w.setCell ⟨g,0,none⟩ (.slice (some ⟨b,0,none⟩) (m0+1) k4)) (fun K' hK'=>?_) (hK _ _ trivial h4)
    simp only[ValWp,execOp,Act.eval,e26,e23]
    go_simp
    all_goals exact hK'
  ·intro a w hC hd hsz hfree hs
   obtain⟨z0,u1,u2,u3,u4,u5,u6,u7,u8,u9,u10,u11,u12,u13,u14,u15,u16,u17,u18,u19,u20,u21,u22,u23,u24,u25,u26,u27,u28,u29,u30,u31,u32,hal⟩:=lets a 33 0
   obtain rfl:=hal.on (v:=.pointer (some ⟨g,0,none⟩)) 0 (hfree 0 rfl) rfl
   have hlit:=fun h=>act_lit hd h hal
   rw[hlit hsz]
   clear hlit hal hd hsz hfree hs
   obtain⟨hm1,hf1⟩:=HP.out.f w hC
   obtain⟨⟨d0,d1,d2,d3,d4⟩,dz⟩:=hm1.facts
   have HM1:=Lib.hid hm1
   have HF1:=Lib.hid hf1
   clear hm1 hf1 hC
   go_wp2
   go_end0
   have q1:=HM1.out.kind 0 (by omega)
   have q2:=q1.1.drop
   exact⟨rfl,⟨_,_,_,q2.1⟩,by rw[←HW.out];exact HF1.out.trans (q1.2.trans q2.2)⟩
 ·have e1:Wd.close r=⟨r.ps,0,[]⟩:=by unfold Wd.close;rw[if_neg hk]
  rw[e1]
  have hk0:r.k=0:=by omega
  obtain⟨⟨c0,c1,c2,c3,c4⟩,hz⟩:=h.facts
  rw[hk0] at c1
  have H:=Lib.hid h
  clear h e1 hk hk0
  go_enter Tryz.func80,Tryz.ntmps80
  go_wp2
  go_end0
  have q1:=H.out.kind 0 (by omega)
  have q2:=q1.1.drop
  exact⟨rfl,⟨_,_,_,q2.1⟩,q1.2.trans q2.2⟩
theorem add_v (h:RMT W X T g s raw dp r x) (p:Wd.P) (vw:Value) (hv:PsAt W T vw p.w) (hlen:r.ps.length≤10000000):Calls Tryz.prog 52 #[.pointer (some ⟨g,0,none⟩),.agg #[.int .i64 (p.k:Int),.string (mkS p.t),.string (mkS p.o),.bool p.q,vw]] W (RowR W X T g s raw dp (Wd.add p r) x):=by
 obtain⟨vp,vt,nd,h⟩:=h
 obtain⟨PC,hPC⟩:∃ PC:Array Value,PC=#[.int .i64 (p.k:Int),.string (mkS p.t),.string (mkS p.o),.bool p.q,vw]:=⟨_,rfl⟩
 have hone:PC.all (·.oneCell')=true:=by
  obtain⟨_,A,c,e⟩:=hv.one
  rw[hPC,e];simp[Value.oneCell']
 have hps:PC.size=5:=by rw[hPC];rfl
 have hpc:pcs (p,vw)=PC.toList:=by rw[hPC];rfl
 obtain⟨wp,hwp⟩:∃ wp,wp=W.alloc (.cells PC 105):=⟨_,rfl⟩
 obtain⟨pb,hpb⟩:∃ pb,pb=W.heap.size:=⟨_,rfl⟩
 have hl:Later W wp:=by rw[hwp];exact Later.alloc _ _
 have hb:wp.heap[pb]?=some (.cells PC 105 (0,0)):=by rw[hwp,hpb];exact heap_alloc_new W _
 have h1:=h.more hl [pb] (by intro b hb2;simp at hb2;subst hb2;exact⟨by omega,lt_of_block hb⟩)
 have hcl:=close_v ⟨_,_,_,h1⟩ (by omega)
 have hvp:PsAt wp T vw p.w:=hv.kept hl.size (fun b _ hlt=>hl.block b hlt) fun _ hb=>hb
 rw[←hPC]
 have HCL:=Lib.hid hcl
 have HV:=Lib.hid hvp
 have HL:=Lib.hid hl
 have HBB:=Lib.hid hb
 have HWP:=Lib.hid hwp
 have HPB:=Lib.hid hpb
 have HONE:=Lib.hid hone
 have HOG:=Lib.hid h.og
 have hcp:(Wd.close r).ps.length≤100000000:=by unfold Wd.close;split <;> simp <;> omega
 clear hcl hvp hl hb h1 hPC hv h hone hwp hpb
 go_enter Tryz.func52,Tryz.ntmps52
 go_wp2_with (go_at_call 80;rw[←HWP.out,←HPB.out];(with_reducible refine HCL.out.mono ?_);rintro e w1 ⟨rfl,h2,hf1⟩)
 obtain⟨vp1,vt1,nd1,h2⟩:=h2
 have hvk:=HV.out.kept hf1.size (fun b hT hlt=>hf1.block b hlt (.inr hT)) fun _ hb=>hb
 obtain⟨v',b,C,hp⟩:=push h2 (p,vw) hvk (by rw[h2.len];omega)
 obtain⟨k4,hv4,hk4⟩:=hp.v
 obtain⟨A0,k0,rfl,hk0⟩:=own_any h2.row
 have hb1:w1.heap[pb]?=some (.cells PC 105 (0,0)):=(hf1.block pb (lt_of_block HBB.out) (.inl (.inr (by simp)))).trans HBB.out
 obtain⟨m0,hm0⟩:∃ m0,m0=nd1.length:=⟨_,rfl⟩
 subst hv4
 have HF:=Lib.hid (show ∀ w,Later w1 w→w.cell? ⟨g,0,none⟩=some (.slice A0 m0 k0)∧True∧True from fun w hl=>by
  have:=(h2.later hl).facts.1
  rw[hm0]
  exact⟨this.1,trivial,trivial⟩)
 have HB:=Lib.hid (show ∀ w,Later w1 w→(Instr.loadAt 105 (.pointer (some ⟨pb,0,none⟩))).run Tryz.prog w=.ok (.agg PC) w from fun w hl=>loadO_run _ _ _ _ (later_cells hl hb1) Tryz.underlying105 rfl (by rw[hps];exact size_part))
 rw[←hm0,hpc] at hp
 have HP:=Lib.hid hp
 have HM:=Lib.hid (show (0:Int)≤(m0:Int)∧(m0:Int)<(m0:Int)+1 by omega)
 have HF1:=Lib.hid hf1
 clear h2 hp hvk hb1 hm0 hk0 hk4 hf1
 refine wp_region_bits (by kernel_rfl) [6,7,9,12] (C) [some (.pointer (some ⟨g,0,none⟩)),some (.pointer (some ⟨g,0,none⟩)),some (.pointer (some ⟨g,0,none⟩)),some (.slice A0 m0 k0),some (.agg PC),some (.int .i64 (m0:Int)),some (.slice (some ⟨w1.drew.heap.size,0,none⟩) 1 1),some (.slice (some ⟨b,0,none⟩) (m0+1) k4),some (.pointer (some ⟨b,m0*5,none⟩)),none,some (.pointer (some ⟨g,0,none⟩)),some (.pointer (some ⟨g,0,none⟩)),none] (by decide) (by decide) (by kernel_rfl) (HP.out.c0) ?_ ?_
 ·refine⟨?_,?_,?_,?_,?_,?_,?_,?_,?_,?_,?_,?_,?_,trivial⟩
  ·
   refine OwesB.q rfl fun a w bits hC hd hu hs=>⟨rfl,?_⟩
   have e0:a.tmps.getD 0 undef=.pointer (some ⟨g,0,none⟩):=hs.free 0 rfl
   refine ValWp.pure (v:=.pointer (some ⟨g,0,none⟩)) (fun K' hK'=>?_) ⟨rfl,rfl⟩
   simp only[ValWp,execOp,Act.eval,e0]
   go_simp
   all_goals exact hK'
  ·
   refine OwesB.q rfl fun a w bits hC hd hu hs=>⟨rfl,?_⟩
   have e6:a.tmps.getD 6 undef=.pointer (some ⟨g,0,none⟩):=hs.dep 0 _ rfl rfl
   refine ValWp.pure (v:=.pointer (some ⟨g,0,none⟩)) (fun K' hK'=>?_) ⟨rfl,rfl⟩
   simp only[ValWp,execOp,Act.eval,e6]
   go_simp
   all_goals exact hK'
  ·
   refine OwesB.q rfl fun a w bits hC hd hu hs=>⟨rfl,?_⟩
   have e7:a.tmps.getD 7 undef=.pointer (some ⟨g,0,none⟩):=hs.dep 1 _ rfl rfl
   refine ValWp.pure (v:=.pointer (some ⟨g,0,none⟩)) (fun K' hK'=>?_) ⟨rfl,rfl⟩
   simp only[ValWp,execOp,Act.eval,e7]
   go_simp
   all_goals exact hK'
  ·
   refine OwesB.q rfl fun a w bits hC hd hu hs=>⟨rfl,?_⟩
   have e8:a.tmps.getD 8 undef=.pointer (some ⟨g,0,none⟩):=hs.dep 2 _ rfl rfl
   have q9:=HF.out w (HP.out.q bits w hC (hu 1 7 rfl (.inr rfl)))
   obtain⟨q0,q1,q2⟩:=q9
   refine ValWp.pure (v:=.slice A0 m0 k0) (fun K' hK'=>?_) ⟨rfl,rfl⟩
   simp only[ValWp,execOp,Act.eval,e8]
   go_simp
   all_goals exact hK'
  ·
   refine OwesB.q rfl fun a w bits hC hd hu hs=>⟨rfl,?_⟩
   have e3:a.tmps.getD 3 undef=.pointer (some ⟨pb,0,none⟩):=hs.free 3 rfl
   exact ValWp.loadR rfl e3 (HB.out w (HP.out.q bits w hC (hu 1 7 rfl (.inr rfl)))) ⟨rfl,rfl⟩
  ·
   refine OwesB.q rfl fun a w bits hC hd hu hs=>⟨rfl,?_⟩
   have e9:a.tmps.getD 9 undef=.slice A0 m0 k0:=hs.dep 3 _ rfl rfl
   refine ValWp.pure (v:=.int .i64 (m0:Int)) (fun K' hK'=>?_) ⟨rfl,rfl⟩
   simp only[ValWp,execOp,Act.eval,e9]
   go_simp
   all_goals exact hK'
  ·
   refine fun a w bits hC hd hu hs=>⟨rfl,fun K hK=>?_⟩
   obtain⟨b0,b1,b2,b3,rfl,i2,i3,i1⟩:=HP.out.len bits w hC
   have h0:=hu 0 6 rfl (.inl rfl)
   simp only[List.getElem?_cons_zero,Option.some.injEq] at h0
   subst h0
   have h1:b1=false:=by cases b1 with | false=>rfl | true=>exact absurd (i1 rfl) (by simp)
   subst h1
   have h2:b2=false:=by cases b2 with | false=>rfl | true=>exact absurd (i2 rfl) (by simp)
   subst h2
   have h3:b3=false:=by cases b3 with | false=>rfl | true=>exact absurd (i3 rfl) (by simp)
   subst h3
   have hw:=HP.out.a0 w hC
   subst hw
   refine wp_of_val ?_
   refine ValWp.pure (v:=.slice (some ⟨w1.drew.heap.size,0,none⟩) 1 1) (w':=w1.drew.alloc (.cells zp.toArray 105)) (fun K' hK'=>?_) (hK _ _ rfl HP.out.c1)
   simp only[ValWp,execOp,Act.eval,List.map_toArray,List.map_cons,List.map_nil]
   go_simp
   all_goals exact hK'
  ·
   refine fun a w bits hC hd hu hs=>⟨rfl,fun K hK=>?_⟩
   have e9:a.tmps.getD 9 undef=.slice A0 m0 k0:=hs.dep 3 _ rfl rfl
   have e12:a.tmps.getD 12 undef=.slice (some ⟨w1.drew.heap.size,0,none⟩) 1 1:=hs.dep 6 _ rfl rfl
   obtain⟨b0,b1,b2,b3,rfl,i2,i3,i1⟩:=HP.out.len bits w hC
   have h0:=hd 0 6 rfl rfl
   have h1:=hu 1 7 rfl (.inl rfl)
   simp only[List.getElem?_cons_zero,List.getElem?_cons_succ,Option.some.injEq] at h0 h1
   subst h0 h1
   have h2:b2=false:=by cases b2 with | false=>rfl | true=>exact absurd (i2 rfl) (by simp)
   subst h2
   have h3:b3=false:=by cases b3 with | false=>rfl | true=>exact absurd (i3 rfl) (by simp)
   subst h3
   obtain⟨w',hrun,h4⟩:=HP.out.a1 w hC
   exact owes_append hrun rfl e9 e12 (hK _ w' rfl h4)
  ·
   refine OwesB.q rfl fun a w bits hC hd hu hs=>⟨rfl,?_⟩
   have e13:a.tmps.getD 13 undef=.slice (some ⟨b,0,none⟩) (m0+1) k4:=hs.dep 7 _ rfl rfl
   have e11:a.tmps.getD 11 undef=.int .i64 (m0:Int):=hs.dep 5 _ rfl rfl
   have g1:=HM.out
   refine ValWp.pure (v:=.pointer (some ⟨b,m0*5,none⟩)) (fun K' hK'=>?_) ⟨rfl,rfl⟩
   simp only[ValWp,execOp,Act.eval,e13,e11]
   go_simp
   all_goals exact hK'
  ·
   refine fun a w bits hC hd hu hs=>⟨rfl,fun K hK=>?_⟩
   have e14:a.tmps.getD 14 undef=.pointer (some ⟨b,m0*5,none⟩):=hs.dep 8 _ rfl rfl
   have e10:a.tmps.getD 10 undef=.agg PC:=hs.dep 4 _ rfl rfl
   obtain⟨b0,b1,b2,b3,rfl,i2,i3,i1⟩:=HP.out.len bits w hC
   have h1:=hd 1 7 rfl rfl
   have h2:=hu 2 9 rfl (.inl rfl)
   simp only[List.getElem?_cons_zero,List.getElem?_cons_succ,Option.some.injEq] at h1 h2
   subst h1 h2
   have h0:=i1 rfl
   subst h0
   obtain⟨hth,h4⟩:=HP.out.s2 w b3 hC
   refine wp_store_mid 105 (.tmp 14) (.tmp 10) rfl b (m0*5) PC e14 e10 (by rw[hps];exact hth) (by rw[hps];exact size_part) HONE.out ?_
   exact hK undef _ trivial h4
  ·
   refine OwesB.q rfl fun a w bits hC hd hu hs=>⟨rfl,?_⟩
   have e6:a.tmps.getD 6 undef=.pointer (some ⟨g,0,none⟩):=hs.dep 0 _ rfl rfl
   refine ValWp.pure (v:=.pointer (some ⟨g,0,none⟩)) (fun K' hK'=>?_) ⟨rfl,rfl⟩
   simp only[ValWp,execOp,Act.eval,e6]
   go_simp
   all_goals exact hK'
  ·
   refine OwesB.q rfl fun a w bits hC hd hu hs=>⟨rfl,?_⟩
   have e15:a.tmps.getD 15 undef=.pointer (some ⟨g,0,none⟩):=hs.dep 10 _ rfl rfl
   refine ValWp.pure (v:=.pointer (some ⟨g,0,none⟩)) (fun K' hK'=>?_) ⟨rfl,rfl⟩
   simp only[ValWp,execOp,Act.eval,e15]
   go_simp
   all_goals exact hK'
  ·
   refine fun a w bits hC hd hu hs=>⟨rfl,fun K hK=>?_⟩
   have e16:a.tmps.getD 16 undef=.pointer (some ⟨g,0,none⟩):=hs.dep 11 _ rfl rfl
   have e13:a.tmps.getD 13 undef=.slice (some ⟨b,0,none⟩) (m0+1) k4:=hs.dep 7 _ rfl rfl
   obtain⟨b0,b1,b2,b3,rfl,i2,i3,i1⟩:=HP.out.len bits w hC
   have h1:=hd 1 7 rfl rfl
   have h3:=hu 3 12 rfl (.inl rfl)
   simp only[List.getElem?_cons_zero,List.getElem?_cons_succ,Option.some.injEq] at h1 h3
   subst h1 h3
   have h0:=i1 rfl
   subst h0
   obtain⟨⟨q4,qz⟩,h4⟩:=HP.out.s3 w b2 hC
   refine wp_of_val ?_
   refine ValWp.pure (v:=undef) (w':=w.setCell ⟨g,0,none⟩ (.slice (some ⟨b,0,none⟩) (m0+1) k4)) (fun K' hK'=>?_) (hK _ _ trivial h4)
   simp only[ValWp,execOp,Act.eval,e16,e13]
   go_simp
   all_goals exact hK'
 ·intro a w hC hd hsz hfree hs
  obtain⟨z0,u1,u2,z3,u4,u5,u6,u7,u8,u9,u10,u11,u12,u13,u14,u15,u16,hal⟩:=lets a 17 0
  obtain rfl:=hal.on (v:=.pointer (some ⟨g,0,none⟩)) 0 (hfree 0 rfl) rfl
  obtain rfl:=hal.on (v:=.pointer (some ⟨pb,0,none⟩)) 3 (hfree 3 rfl) rfl
  have hlit:=fun h=>act_lit hd h hal
  rw[hlit hsz]
  clear hlit hal hd hsz hfree hs
  obtain⟨hm1,hf2⟩:=HP.out.f w hC
  have hm2:=hm1.less HOG.out
  have HM1:=Lib.hid hm2
  have HF2:=Lib.hid (hf2.sub (Y:=un X T) fun b hb=>hb.elim (fun e=>.inl (.inl e)) .inr)
  clear hm1 hm2 hf2 hC
  go_wp2
  go_end0
  exact⟨rfl,⟨_,_,_,by
   have h9:=HM1.out
   have e2:Wd.add p r=⟨(Wd.close r).ps++[p],(Wd.close r).k,(Wd.close r).t⟩:=by unfold Wd.add Wd.close;split <;> rfl
   rw[e2]
   exact h9⟩,(Fr.later HL.out).trans ((HF1.out.sub fun b hb=>hb.elim (fun e=>.inl (.inl e)) .inr).trans HF2.out)⟩
end
end Ws
end Go.Proofs.YtipdgmjplnibeaaGreatDoor
