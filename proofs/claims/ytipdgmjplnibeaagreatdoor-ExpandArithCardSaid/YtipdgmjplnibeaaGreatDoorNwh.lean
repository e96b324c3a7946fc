import Derived.Test.YtipdgmjplnibeaaGreatDoorG25
set_option maxRecDepth 100000
set_option maxHeartbeats 6400000
namespace Go.Proofs.YtipdgmjplnibeaaGreatDoor
open Go.RowKit Go.Maps
namespace En
theorem get_v (va:Value) (e:E) (s:B) (W:World) (h:RdE W va e) (hd:Vd W) (hs:s.length≤2000000) (hal:e.args.length≤1000000) (hst:e.status≤1000000) (hif:(ifs e.vars).length≤9223372036854775807) (hjl:(joined ((ifs e.vars).take 1) e.args).length≤20000000000000):Calls Tryz.prog 16 #[va,.string (mkS s)] W fun x W'=>x=.returned (tellV (get nm e s))∧Later W W':=by
 have HVA:=Lib.hid (show ∀ W',Later W W'→Calls Tryz.prog 37 #[va,.string (mkS s)] W' fun x W''=>x=.returned (tellV (told (var e.vars s)))∧Later W' W'' from fun W' hl=>value_v va e s W' (h.later hl))
 have HAR:=Lib.hid (show ∀ W',Later W W'→Calls Tryz.prog 38 #[va,.string (mkS s)] W' fun x W''=>x=.returned (tellV (told (arg e.args s)))∧Later W' W'' from fun W' hl=>argument_v va e s W' (h.later hl) (hd.later hl) hs (by omega))
 have HBT:=Lib.hid (show ∀ W',Later W W'→Calls Tryz.prog 36 #[va] W' fun x W''=>x=.returned (.string (mkS ((ifs e.vars).take 1)))∧Later W' W'' from fun W' hl=>between_v va e W' (h.later hl) hif)
 have HNM:=Lib.hid (fun W=>Ar.name_v s hs W)
 have hget:get nm e s=get nm e s:=rfl
 obtain⟨v0,A,n,c,rfl,hv,hr,hc1,hc2⟩:=h
 have HJN:=Lib.hid (show ∀ W',Later W W'→Calls Tryz.prog 35 #[.slice A n c,.string (mkS ((ifs e.vars).take 1))] W' fun x W''=>x=.returned (.string (mkS (joined ((ifs e.vars).take 1) e.args)))∧Later W' W'' from fun W' hl=>join_v e.args _ ((hr.below hl).more hl.size) hc1 (by have:=hr.len_map;omega) hjl)
 have hnl:e.args.length=n:=hr.len_map
 have HIS:=Lib.hid (show ∀ W',Later W W'→Calls Tryz.prog 34 #[.int .i64 (e.status:Int)] W' fun x W''=>x=.returned (.string (mkS (Lib.decDigits e.status)))∧Later W' W'' from fun W' hl=>itoa_v _ (by omega) W' (hd.later hl))
 have HIN:=Lib.hid (show ∀ W',Later W W'→Calls Tryz.prog 34 #[.int .i64 (n:Int)] W' fun x W''=>x=.returned (.string (mkS (Lib.decDigits n)))∧Later W' W'' from fun W' hl=>itoa_v _ (by omega) W' (hd.later hl))
 obtain⟨Av,cv,rfl,hcv,hcw,_⟩:=hv.le
 obtain⟨n0,hn0⟩:∃ n0,n0=e.vars.length:=⟨_,rfl⟩
 obtain⟨st,hst2⟩:∃ st:Int,st=(e.status:Int):=⟨_,rfl⟩
 obtain⟨fl,hfl⟩:∃ fl,fl=mkS e.flags:=⟨_,rfl⟩
 obtain⟨f1,hf1⟩:∃ f1,f1=(ifs e.vars).take 1:=⟨_,rfl⟩
 rw[←hn0,←hst2,←hfl] at HVA HAR HBT
 rw[←hf1] at HBT HJN
 rw[←hst2] at HIS
 obtain⟨J,hJ⟩:∃ J,J=joined f1 e.args:=⟨_,rfl⟩
 rw[←hJ] at HJN
 rw[←hn0,←hst2,←hfl]
 obtain⟨W1,hW1⟩:∃ W1,W1=W.alloc (.cells #[.slice Av n0 cv,.slice A n c,.int .i64 st,.string fl] 28):=⟨_,rfl⟩
 have HLA:=Lib.hid (show Later W W1 by rw[hW1];exact Later.alloc _ _)
 have hna:W1.heap[W.heap.size]?=some (.cells #[.slice Av n0 cv,.slice A n c,.int .i64 st,.string fl] 28 (0,0)):=by rw[hW1];exact heap_alloc_new W _
 have HBX:=Lib.hid (show ∀ W',Later W1 W'→W'.cell? ⟨W.heap.size,0,none⟩=some (.slice Av n0 cv)∧W'.cell? ⟨W.heap.size,1,none⟩=some (.slice A n c)∧W'.cell? ⟨W.heap.size,2,none⟩=some (.int .i64 st)∧W'.cell? ⟨W.heap.size,3,none⟩=some (.string fl) from fun W' hl=>
  ⟨(cell_row (later_cells hl hna) 0).1,(cell_row (later_cells hl hna) 1).1,(cell_row (later_cells hl hna) 2).1,(cell_row (later_cells hl hna) 3).1⟩)
 have HVA:=Lib.hid (fun W' (hl:Later W1 W')=>HVA.out W' (HLA.out.trans hl))
 have HAR:=Lib.hid (fun W' (hl:Later W1 W')=>HAR.out W' (HLA.out.trans hl))
 have HBT:=Lib.hid (fun W' (hl:Later W1 W')=>HBT.out W' (HLA.out.trans hl))
 have HJN:=Lib.hid (fun W' (hl:Later W1 W')=>HJN.out W' (HLA.out.trans hl))
 have HIS:=Lib.hid (fun W' (hl:Later W1 W')=>HIS.out W' (HLA.out.trans hl))
 have HIN:=Lib.hid (fun W' (hl:Later W1 W')=>HIN.out W' (HLA.out.trans hl))
 have HW1:=Lib.hid hW1
 have HJ:=Lib.hid (show J=joined ((ifs e.vars).take 1) e.args by rw[hJ,hf1])
 have HN:=Lib.hid hnl
 have HFL:=Lib.hid hfl
 have htl:∀ l:B,(mkS l).toList=l:=toList_mkS
 obtain⟨b0,b1,b2,b3⟩:=HBX.out W1 (Later.refl _)
 clear hv hr hc1 hc2 hcv hcw hn0 hst2 hfl hf1 hJ hna hnl hd hst hif hjl hget hal
 rw[hW1] at b0 b1 b2 b3
 by_cases s0:s=[48]
 ·subst s0
  have HG:=Lib.hid (show get nm e [48]=([115,104],true) by unfold get;rw[if_neg (by decide)];rw[if_pos (by decide)])
  have k0:(([48]:List UInt8)==[48])=true:=by decide
  go_enter Tryz.func16,Tryz.ntmps16
  go_wp2
  go_ret2
  exact⟨by rw[HG.out];rfl,by rw[←HW1.out];exact HLA.out⟩
 by_cases s1:s=[63]
 ·subst s1
  have HG:=Lib.hid (show get nm e [63]=(Lib.decDigits e.status,true) by unfold get;rw[if_neg (by decide)];rw[if_neg (by decide)];rw[if_pos (by decide)])
  have k0:(([63]:List UInt8)==[48])=false:=by decide
  have k1:(([63]:List UInt8)==[63])=true:=by decide
  go_enter Tryz.func16,Tryz.ntmps16
  go_wp2_with (go_at_call 34;(with_reducible refine(HIS.out _ (by rw[HW1.out];exact Later.refl _)).mono ?_);rintro x w3 ⟨rfl,hl3⟩;(have HL3:=Lib.hid (HLA.out.trans (by rw[HW1.out];exact hl3)));clear hl3)
  go_ret2
  exact⟨by rw[HG.out];rfl,HL3.out⟩
 by_cases s2:s=[35]
 ·subst s2
  have HG:=Lib.hid (show get nm e [35]=(Lib.decDigits e.args.length,true) by unfold get;rw[if_neg (by decide)];rw[if_neg (by decide)];rw[if_neg (by decide)];rw[if_pos (by decide)])
  have k0:(([35]:List UInt8)==[48])=false:=by decide
  have k1:(([35]:List UInt8)==[63])=false:=by decide
  have k2:(([35]:List UInt8)==[35])=true:=by decide
  go_enter Tryz.func16,Tryz.ntmps16
  go_wp2_with (go_at_call 34;(with_reducible refine(HIN.out _ (by rw[HW1.out];exact Later.refl _)).mono ?_);rintro x w3 ⟨rfl,hl3⟩;(have HL3:=Lib.hid (HLA.out.trans (by rw[HW1.out];exact hl3)));clear hl3)
  go_ret2
  exact⟨by rw[HG.out,HN.out];rfl,HL3.out⟩
 by_cases s3:s=[45]
 ·subst s3
  have HG:=Lib.hid (show get nm e [45]=(e.flags,true) by unfold get;rw[if_neg (by decide)];rw[if_neg (by decide)];rw[if_neg (by decide)];rw[if_neg (by decide)];rw[if_pos (by decide)])
  have k0:(([45]:List UInt8)==[48])=false:=by decide
  have k1:(([45]:List UInt8)==[63])=false:=by decide
  have k2:(([45]:List UInt8)==[35])=false:=by decide
  have k3:(([45]:List UInt8)==[45])=true:=by decide
  go_enter Tryz.func16,Tryz.ntmps16
  go_wp2
  go_ret2
  exact⟨by rw[HG.out,HFL.out];rfl,by rw[←HW1.out];exact HLA.out⟩
 by_cases s4:s=[64]
 ·subst s4
  have HG:=Lib.hid (show get nm e [64]=(joined ((ifs e.vars).take 1) e.args,!e.args.isEmpty) by unfold get;rw[if_neg (by decide)];rw[if_neg (by decide)];rw[if_neg (by decide)];rw[if_neg (by decide)];rw[if_neg (by decide)];rw[if_pos (by decide)])
  have k0:(([64]:List UInt8)==[48])=false:=by decide
  have k1:(([64]:List UInt8)==[63])=false:=by decide
  have k2:(([64]:List UInt8)==[35])=false:=by decide
  have k3:(([64]:List UInt8)==[45])=false:=by decide
  have k4:(([64]:List UInt8)==[64])=true:=by decide
  have HEM:=Lib.hid (show (decide (0<n))=!e.args.isEmpty by rw[←HN.out];cases e.args <;> simp)
  go_enter Tryz.func16,Tryz.ntmps16
  go_wp2
  rw[←HW1.out]
  clear b0 b1 b2 b3
  refine wp_region_owes (by kernel_rfl) (fun W'=>Later W1 W') (Later) (Later.refl) [Sp.val (.pointer (some ⟨W.heap.size,1,none⟩)),Sp.val (.slice A n c),Sp.val (.agg #[.slice Av n0 cv,.slice A n c,.int .i64 st,.string fl]),Sp.val (.string (mkS f1)),Sp.val (.string (mkS J)),Sp.val (.pointer (some ⟨W.heap.size,1,none⟩)),Sp.val (.slice A n c),Sp.val (.int .i64 (n:Int)),Sp.val (.bool (decide (0<n))),Sp.val (.string (mkS J)),Sp.val (.bool (decide (0<n)))] (by kernel_rfl) (Later.drew W1) ?_ ?_
  ·refine⟨?_,?_,?_,?_,?_,?_,?_,?_,?_,?_,?_,trivial⟩
   ·
    refine fun a w hC hs=>.inl ⟨?_,?_⟩
    ·rfl
    have e2:a.tmps.getD 2 undef=.pointer (some ⟨W.heap.size,0,none⟩):=hs.free 2 rfl
    refine ValWp.pure (v:=.pointer (some ⟨W.heap.size,1,none⟩)) (fun K' hK'=>?_) ⟨rfl,hC,Later.refl _⟩
    simp only[ValWp,execOp,Act.eval,e2]
    go_simp
    all_goals exact hK'
   ·
    refine fun a w hC hs=>.inl ⟨?_,?_⟩
    ·rfl
    have e27:a.tmps.getD 27 undef=.pointer (some ⟨W.heap.size,1,none⟩):=hs.dep 0 _ rfl rfl
    obtain⟨k0,k1,k2,k3⟩:=HBX.out w hC
    refine ValWp.pure (v:=.slice A n c) (fun K' hK'=>?_) ⟨rfl,hC,Later.refl _⟩
    simp only[ValWp,execOp,Act.eval,e27]
    go_simp
    all_goals exact hK'
   ·
    refine fun a w hC hs=>.inl ⟨?_,?_⟩
    ·rfl
    have e2:a.tmps.getD 2 undef=.pointer (some ⟨W.heap.size,0,none⟩):=hs.free 2 rfl
    obtain⟨k0,k1,k2,k3⟩:=HBX.out w hC
    refine ValWp.pure (v:=.agg #[.slice Av n0 cv,.slice A n c,.int .i64 st,.string fl]) (fun K' hK'=>?_) ⟨rfl,hC,Later.refl _⟩
    simp only[ValWp,execOp,Act.eval,e2]
    go_simp
    all_goals exact hK'
   ·
    refine fun a w hC hs=>.inl ⟨?_,?_⟩
    ·rfl
    have e29:a.tmps.getD 29 undef=.agg #[.slice Av n0 cv,.slice A n c,.int .i64 st,.string fl]:=hs.dep 2 _ rfl rfl
    refine ValWp.call #[.agg #[.slice Av n0 cv,.slice A n c,.int .i64 st,.string fl]] rfl rfl Tryz.func36 rfl rfl (by simp only[List.map_toArray,List.map_cons,List.map_nil,Act.eval,e29]) ?_
    refine(HBT.out w hC).mono ?_
    rintro e w' ⟨rfl,hb⟩
    exact⟨_,rfl,rfl,Later.trans hC hb,hb⟩
   ·
    refine fun a w hC hs=>.inl ⟨?_,?_⟩
    ·rfl
    have e28:a.tmps.getD 28 undef=.slice A n c:=hs.dep 1 _ rfl rfl
    have e30:a.tmps.getD 30 undef=.string (mkS f1):=hs.dep 3 _ rfl rfl
    refine ValWp.call #[.slice A n c,.string (mkS f1)] rfl rfl Tryz.func35 rfl rfl (by simp only[List.map_toArray,List.map_cons,List.map_nil,Act.eval,e28,e30]) ?_
    refine(HJN.out w hC).mono ?_
    rintro e w' ⟨rfl,hb⟩
    exact⟨_,rfl,rfl,Later.trans hC hb,hb⟩
   ·
    refine fun a w hC hs=>.inl ⟨?_,?_⟩
    ·rfl
    have e2:a.tmps.getD 2 undef=.pointer (some ⟨W.heap.size,0,none⟩):=hs.free 2 rfl
    refine ValWp.pure (v:=.pointer (some ⟨W.heap.size,1,none⟩)) (fun K' hK'=>?_) ⟨rfl,hC,Later.refl _⟩
    simp only[ValWp,execOp,Act.eval,e2]
    go_simp
    all_goals exact hK'
   ·
    refine fun a w hC hs=>.inl ⟨?_,?_⟩
    ·rfl
    have e32:a.tmps.getD 32 undef=.pointer (some ⟨W.heap.size,1,none⟩):=hs.dep 5 _ rfl rfl
    obtain⟨k0,k1,k2,k3⟩:=HBX.out w hC
    refine ValWp.pure (v:=.slice A n c) (fun K' hK'=>?_) ⟨rfl,hC,Later.refl _⟩
    simp only[ValWp,execOp,Act.eval,e32]
    go_simp
    all_goals exact hK'
   ·
    refine fun a w hC hs=>.inl ⟨?_,?_⟩
    ·rfl
    have e33:a.tmps.getD 33 undef=.slice A n c:=hs.dep 6 _ rfl rfl
    refine ValWp.pure (v:=.int .i64 (n:Int)) (fun K' hK'=>?_) ⟨rfl,hC,Later.refl _⟩
    simp only[ValWp,execOp,Act.eval,e33]
    go_simp
    all_goals exact hK'
   ·
    refine fun a w hC hs=>.inl ⟨?_,?_⟩
    ·rfl
    have e34:a.tmps.getD 34 undef=.int .i64 (n:Int):=hs.dep 7 _ rfl rfl
    refine ValWp.pure (v:=.bool (decide (0<n))) (fun K' hK'=>?_) ⟨rfl,hC,Later.refl _⟩
    simp only[ValWp,execOp,Act.eval,e34]
    go_simp
    all_goals exact hK'
   ·
    refine fun a w hC hs=>.inl ⟨?_,?_⟩
    ·rfl
    have e31:a.tmps.getD 31 undef=.string (mkS J):=hs.dep 4 _ rfl rfl
    exact⟨e31,hC,Later.refl _⟩
   ·
    refine fun a w hC hs=>.inl ⟨?_,?_⟩
    ·rfl
    have e35:a.tmps.getD 35 undef=.bool (decide (0<n)):=hs.dep 8 _ rfl rfl
    exact⟨e35,hC,Later.refl _⟩
  ·intro a W hC hd hsz hfree hs
   obtain⟨u27,hu27⟩:∃ u,u=a.tmps.getD 27 undef:=⟨_,rfl⟩
   obtain⟨u28,hu28⟩:∃ u,u=a.tmps.getD 28 undef:=⟨_,rfl⟩
   obtain⟨u29,hu29⟩:∃ u,u=a.tmps.getD 29 undef:=⟨_,rfl⟩
   obtain⟨u30,hu30⟩:∃ u,u=a.tmps.getD 30 undef:=⟨_,rfl⟩
   obtain⟨u31,hu31⟩:∃ u,u=a.tmps.getD 31 undef:=⟨_,rfl⟩
   obtain⟨u32,hu32⟩:∃ u,u=a.tmps.getD 32 undef:=⟨_,rfl⟩
   obtain⟨u33,hu33⟩:∃ u,u=a.tmps.getD 33 undef:=⟨_,rfl⟩
   obtain⟨u34,hu34⟩:∃ u,u=a.tmps.getD 34 undef:=⟨_,rfl⟩
   obtain⟨u35,hu35⟩:∃ u,u=a.tmps.getD 35 undef:=⟨_,rfl⟩
   have hal:AllAt a 0 [_,_,_,_,.string (mkS J),.bool (decide (0<n)),_,_,_,_,_,_,_,_,_,_,_,_,_,_,_,_,_,_,_,_,_,u27,u28,u29,u30,u31,u32,u33,u34,u35,_,_,_,_,_,_,_,_,_,_,_,_]:=⟨hfree 0 rfl,hfree 1 rfl,hfree 2 rfl,hfree 3 rfl,hs 9 _ rfl,hs 10 _ rfl,hfree 6 rfl,hfree 7 rfl,hfree 8 rfl,hfree 9 rfl,hfree 10 rfl,hfree 11 rfl,hfree 12 rfl,hfree 13 rfl,hfree 14 rfl,hfree 15 rfl,hfree 16 rfl,hfree 17 rfl,hfree 18 rfl,hfree 19 rfl,hfree 20 rfl,hfree 21 rfl,hfree 22 rfl,hfree 23 rfl,hfree 24 rfl,hfree 25 rfl,hfree 26 rfl,hu27.symm,hu28.symm,hu29.symm,hu30.symm,hu31.symm,hu32.symm,hu33.symm,hu34.symm,hu35.symm,hfree 36 rfl,hfree 37 rfl,hfree 38 rfl,hfree 39 rfl,hfree 40 rfl,hfree 41 rfl,hfree 42 rfl,hfree 43 rfl,hfree 44 rfl,hfree 45 rfl,hfree 46 rfl,hfree 47 rfl,trivial⟩
   have hlit:=fun h=>act_lit hd h hal
   rw[hlit hsz]
   simp only[Array.getD_eq_getD_getElem?,List.getElem?_toArray,List.getElem?_cons_zero,List.getElem?_cons_succ,Option.getD_some]
   clear hlit hal hd hsz hfree hs hu27 hu28 hu29 hu30 hu31 hu32 hu33 hu34 hu35
   go_wp2
   go_ret2
   exact⟨by rw[HG.out,HJ.out,HEM.out];rfl,HLA.out.trans hC⟩
 by_cases s5:s=[42]
 ·subst s5
  have HG:=Lib.hid (show get nm e [42]=(joined ((ifs e.vars).take 1) e.args,!e.args.isEmpty) by unfold get;rw[if_neg (by decide)];rw[if_neg (by decide)];rw[if_neg (by decide)];rw[if_neg (by decide)];rw[if_neg (by decide)];rw[if_pos (by decide)])
  have k0:(([42]:List UInt8)==[48])=false:=by decide
  have k1:(([42]:List UInt8)==[63])=false:=by decide
  have k2:(([42]:List UInt8)==[35])=false:=by decide
  have k3:(([42]:List UInt8)==[45])=false:=by decide
  have k4:(([42]:List UInt8)==[64])=false:=by decide
  have k5:(([42]:List UInt8)==[42])=true:=by decide
  have HEM:=Lib.hid (show (decide (0<n))=!e.args.isEmpty by rw[←HN.out];cases e.args <;> simp)
  go_enter Tryz.func16,Tryz.ntmps16
  go_wp2
  rw[←HW1.out]
  clear b0 b1 b2 b3
  refine wp_region_owes (by kernel_rfl) (fun W'=>Later W1 W') (Later) (Later.refl) [Sp.val (.pointer (some ⟨W.heap.size,1,none⟩)),Sp.val (.slice A n c),Sp.val (.agg #[.slice Av n0 cv,.slice A n c,.int .i64 st,.string fl]),Sp.val (.string (mkS f1)),Sp.val (.string (mkS J)),Sp.val (.pointer (some ⟨W.heap.size,1,none⟩)),Sp.val (.slice A n c),Sp.val (.int .i64 (n:Int)),Sp.val (.bool (decide (0<n))),Sp.val (.string (mkS J)),Sp.val (.bool (decide (0<n)))] (by kernel_rfl) (Later.drew W1) ?_ ?_
  ·refine⟨?_,?_,?_,?_,?_,?_,?_,?_,?_,?_,?_,trivial⟩
   ·
    refine fun a w hC hs=>.inl ⟨?_,?_⟩
    ·rfl
    have e2:a.tmps.getD 2 undef=.pointer (some ⟨W.heap.size,0,none⟩):=hs.free 2 rfl
    refine ValWp.pure (v:=.pointer (some ⟨W.heap.size,1,none⟩)) (fun K' hK'=>?_) ⟨rfl,hC,Later.refl _⟩
    simp only[ValWp,execOp,Act.eval,e2]
    go_simp
    all_goals exact hK'
   ·
    refine fun a w hC hs=>.inl ⟨?_,?_⟩
    ·rfl
    have e27:a.tmps.getD 27 undef=.pointer (some ⟨W.heap.size,1,none⟩):=hs.dep 0 _ rfl rfl
    obtain⟨k0,k1,k2,k3⟩:=HBX.out w hC
    refine ValWp.pure (v:=.slice A n c) (fun K' hK'=>?_) ⟨rfl,hC,Later.refl _⟩
    simp only[ValWp,execOp,Act.eval,e27]
    go_simp
    all_goals exact hK'
   ·
    refine fun a w hC hs=>.inl ⟨?_,?_⟩
    ·rfl
    have e2:a.tmps.getD 2 undef=.pointer (some ⟨W.heap.size,0,none⟩):=hs.free 2 rfl
    obtain⟨k0,k1,k2,k3⟩:=HBX.out w hC
    refine ValWp.pure (v:=.agg #[.slice Av n0 cv,.slice A n c,.int .i64 st,.string fl]) (fun K' hK'=>?_) ⟨rfl,hC,Later.refl _⟩
    simp only[ValWp,execOp,Act.eval,e2]
    go_simp
    all_goals exact hK'
   ·
    refine fun a w hC hs=>.inl ⟨?_,?_⟩
    ·rfl
    have e29:a.tmps.getD 29 undef=.agg #[.slice Av n0 cv,.slice A n c,.int .i64 st,.string fl]:=hs.dep 2 _ rfl rfl
    refine ValWp.call #[.agg #[.slice Av n0 cv,.slice A n c,.int .i64 st,.string fl]] rfl rfl Tryz.func36 rfl rfl (by simp only[List.map_toArray,List.map_cons,List.map_nil,Act.eval,e29]) ?_
    refine(HBT.out w hC).mono ?_
    rintro e w' ⟨rfl,hb⟩
    exact⟨_,rfl,rfl,Later.trans hC hb,hb⟩
   ·
    refine fun a w hC hs=>.inl ⟨?_,?_⟩
    ·rfl
    have e28:a.tmps.getD 28 undef=.slice A n c:=hs.dep 1 _ rfl rfl
    have e30:a.tmps.getD 30 undef=.string (mkS f1):=hs.dep 3 _ rfl rfl
    refine ValWp.call #[.slice A n c,.string (mkS f1)] rfl rfl Tryz.func35 rfl rfl (by simp only[List.map_toArray,List.map_cons,List.map_nil,Act.eval,e28,e30]) ?_
    refine(HJN.out w hC).mono ?_
    rintro e w' ⟨rfl,hb⟩
    exact⟨_,rfl,rfl,Later.trans hC hb,hb⟩
   ·
    refine fun a w hC hs=>.inl ⟨?_,?_⟩
    ·rfl
    have e2:a.tmps.getD 2 undef=.pointer (some ⟨W.heap.size,0,none⟩):=hs.free 2 rfl
    refine ValWp.pure (v:=.pointer (some ⟨W.heap.size,1,none⟩)) (fun K' hK'=>?_) ⟨rfl,hC,Later.refl _⟩
    simp only[ValWp,execOp,Act.eval,e2]
    go_simp
    all_goals exact hK'
   ·
    refine fun a w hC hs=>.inl ⟨?_,?_⟩
    ·rfl
    have e32:a.tmps.getD 32 undef=.pointer (some ⟨W.heap.size,1,none⟩):=hs.dep 5 _ rfl rfl
    obtain⟨k0,k1,k2,k3⟩:=HBX.out w hC
    refine ValWp.pure (v:=.slice A n c) (fun K' hK'=>?_) ⟨rfl,hC,Later.refl _⟩
    simp only[ValWp,execOp,Act.eval,e32]
    go_simp
    all_goals exact hK'
   ·
    refine fun a w hC hs=>.inl ⟨?_,?_⟩
    ·rfl
    have e33:a.tmps.getD 33 undef=.slice A n c:=hs.dep 6 _ rfl rfl
    refine ValWp.pure (v:=.int .i64 (n:Int)) (fun K' hK'=>?_) ⟨rfl,hC,Later.refl _⟩
    simp only[ValWp,execOp,Act.eval,e33]
    go_simp
    all_goals exact hK'
   ·
    refine fun a w hC hs=>.inl ⟨?_,?_⟩
    ·rfl
    have e34:a.tmps.getD 34 undef=.int .i64 (n:Int):=hs.dep 7 _ rfl rfl
    refine ValWp.pure (v:=.bool (decide (0<n))) (fun K' hK'=>?_) ⟨rfl,hC,Later.refl _⟩
    simp only[ValWp,execOp,Act.eval,e34]
    go_simp
    all_goals exact hK'
   ·
    refine fun a w hC hs=>.inl ⟨?_,?_⟩
    ·rfl
    have e31:a.tmps.getD 31 undef=.string (mkS J):=hs.dep 4 _ rfl rfl
    exact⟨e31,hC,Later.refl _⟩
   ·
    refine fun a w hC hs=>.inl ⟨?_,?_⟩
    ·rfl
    have e35:a.tmps.getD 35 undef=.bool (decide (0<n)):=hs.dep 8 _ rfl rfl
    exact⟨e35,hC,Later.refl _⟩
  ·intro a W hC hd hsz hfree hs
   obtain⟨u27,hu27⟩:∃ u,u=a.tmps.getD 27 undef:=⟨_,rfl⟩
   obtain⟨u28,hu28⟩:∃ u,u=a.tmps.getD 28 undef:=⟨_,rfl⟩
   obtain⟨u29,hu29⟩:∃ u,u=a.tmps.getD 29 undef:=⟨_,rfl⟩
   obtain⟨u30,hu30⟩:∃ u,u=a.tmps.getD 30 undef:=⟨_,rfl⟩
   obtain⟨u31,hu31⟩:∃ u,u=a.tmps.getD 31 undef:=⟨_,rfl⟩
   obtain⟨u32,hu32⟩:∃ u,u=a.tmps.getD 32 undef:=⟨_,rfl⟩
   obtain⟨u33,hu33⟩:∃ u,u=a.tmps.getD 33 undef:=⟨_,rfl⟩
   obtain⟨u34,hu34⟩:∃ u,u=a.tmps.getD 34 undef:=⟨_,rfl⟩
   obtain⟨u35,hu35⟩:∃ u,u=a.tmps.getD 35 undef:=⟨_,rfl⟩
   have hal:AllAt a 0 [_,_,_,_,.string (mkS J),.bool (decide (0<n)),_,_,_,_,_,_,_,_,_,_,_,_,_,_,_,_,_,_,_,_,_,u27,u28,u29,u30,u31,u32,u33,u34,u35,_,_,_,_,_,_,_,_,_,_,_,_]:=⟨hfree 0 rfl,hfree 1 rfl,hfree 2 rfl,hfree 3 rfl,hs 9 _ rfl,hs 10 _ rfl,hfree 6 rfl,hfree 7 rfl,hfree 8 rfl,hfree 9 rfl,hfree 10 rfl,hfree 11 rfl,hfree 12 rfl,hfree 13 rfl,hfree 14 rfl,hfree 15 rfl,hfree 16 rfl,hfree 17 rfl,hfree 18 rfl,hfree 19 rfl,hfree 20 rfl,hfree 21 rfl,hfree 22 rfl,hfree 23 rfl,hfree 24 rfl,hfree 25 rfl,hfree 26 rfl,hu27.symm,hu28.symm,hu29.symm,hu30.symm,hu31.symm,hu32.symm,hu33.symm,hu34.symm,hu35.symm,hfree 36 rfl,hfree 37 rfl,hfree 38 rfl,hfree 39 rfl,hfree 40 rfl,hfree 41 rfl,hfree 42 rfl,hfree 43 rfl,hfree 44 rfl,hfree 45 rfl,hfree 46 rfl,hfree 47 rfl,trivial⟩
   have hlit:=fun h=>act_lit hd h hal
   rw[hlit hsz]
   simp only[Array.getD_eq_getD_getElem?,List.getElem?_toArray,List.getElem?_cons_zero,List.getElem?_cons_succ,Option.getD_some]
   clear hlit hal hd hsz hfree hs hu27 hu28 hu29 hu30 hu31 hu32 hu33 hu34 hu35
   go_wp2
   go_ret2
   exact⟨by rw[HG.out,HJ.out,HEM.out];rfl,HLA.out.trans hC⟩
 have k0:(s==[48])=false:=by simpa using s0
 have k1:(s==[63])=false:=by simpa using s1
 have k2:(s==[35])=false:=by simpa using s2
 have k3:(s==[45])=false:=by simpa using s3
 have k4:(s==[64])=false:=by simpa using s4
 have k5:(s==[42])=false:=by simpa using s5
 have HG:=Lib.hid (show get nm e s=if nm s=true then told (var e.vars s) else told (arg e.args s) by
  unfold get
  by_cases hnm:nm s=true
  ·rw[if_pos hnm,if_pos hnm]
  ·rw[if_neg hnm,if_neg hnm,if_neg s0,if_neg s1,if_neg s2,if_neg s3,if_neg (fun h=>h.elim s4 s5)])
 clear s0 s1 s2 s3 s4 s5
 obtain⟨b,hb⟩:∃ b,b=Ar.nameB s:=⟨_,rfl⟩
 rw[←hb] at HNM
 have HB:=Lib.hid (show nm s=b from hb.symm)
 clear hb
 cases b with
 | true=>
  go_enter Tryz.func16,Tryz.ntmps16
  go_wp2_with fail
  go_at_call 28
  with_reducible refine(HNM.out _).mono ?_
  rintro x w3 ⟨rfl,hl3⟩
  have HL3:=Lib.hid (show Later W1 w3 by rw[HW1.out];exact hl3)
  clear hl3 b0 b1 b2 b3
  obtain⟨b0,b1,b2,b3⟩:=HBX.out w3 HL3.out
  go_wp2_with (go_at_call 37;(with_reducible refine(HVA.out _ HL3.out).mono ?_);rintro x w4 ⟨rfl,hl4⟩;(have HL4:=Lib.hid (HLA.out.trans (HL3.out.trans hl4)));unfold tellV;dsimp only;clear hl4)
  go_ret2
  exact⟨by rw[HG.out,if_pos HB.out];rfl,HL4.out⟩
 | false=>
  go_enter Tryz.func16,Tryz.ntmps16
  go_wp2_with fail
  go_at_call 28
  with_reducible refine(HNM.out _).mono ?_
  rintro x w3 ⟨rfl,hl3⟩
  have HL3:=Lib.hid (show Later W1 w3 by rw[HW1.out];exact hl3)
  clear hl3 b0 b1 b2 b3
  obtain⟨b0,b1,b2,b3⟩:=HBX.out w3 HL3.out
  go_wp2_with (go_at_call 38;(with_reducible refine(HAR.out _ HL3.out).mono ?_);rintro x w4 ⟨rfl,hl4⟩;(have HL4:=Lib.hid (HLA.out.trans (HL3.out.trans hl4)));unfold tellV;dsimp only;clear hl4)
  go_ret2
  exact⟨by rw[HG.out,if_neg (by rw[HB.out];decide)];rfl,HL4.out⟩
end En
end Go.Proofs.YtipdgmjplnibeaaGreatDoor
