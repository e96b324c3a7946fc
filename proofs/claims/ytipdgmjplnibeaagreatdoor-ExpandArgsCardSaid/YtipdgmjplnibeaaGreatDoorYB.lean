import Derived.Test.YtipdgmjplnibeaaGreatDoorYA
set_option maxRecDepth 100000
set_option maxHeartbeats 25600000
namespace Go.Proofs.YtipdgmjplnibeaaGreatDoor
open Go.RowKit Go.Maps
set_option maxRecDepth 100000
namespace Ex
open Jo (ft fm rows)
open En (E Vs RdE RdP Vd Rises FrE)
abbrev neB (x:B):Bool:=!x.isEmpty
theorem fil_take {l:List B} {i:Nat} (h:i<l.length):(l.take (i+1)).filter neB=(l.take i).filter neB++if neB l[i]=true then [l[i]] else []:=by
 rw[List.take_succ_eq_append_getElem h,List.filter_append]
 by_cases e:neB l[i]=true
 ·rw[if_pos e,List.filter_cons,if_pos e];rfl
 ·rw[if_neg e,List.filter_cons,if_neg e];rfl
theorem fil_at {l:List B} {i:Nat} (h:i<l.length) (hn:neB l[i]=true):((l.take i).filter neB).length<(l.filter neB).length∧(l.filter neB).getD ((l.take i).filter neB).length []=l[i]:=by
 have e:l.filter neB=(l.take i).filter neB++l[i]::(l.drop (i+1)).filter neB:=by
  conv=>lhs;rw[←List.take_append_drop i l,List.drop_eq_getElem_cons h]
  rw[List.filter_append,List.filter_cons,if_pos hn]
 rw[e]
 refine⟨by rw[List.length_append,List.length_cons];omega,?_⟩
 rw[List.getD_eq_getElem?_getD,List.getElem?_append_right (Nat.le_refl _),Nat.sub_self]
 rfl
theorem args_v (W:World) (hg:Gw W) (lv:Value) (l:Vs) (A:Option Addr) (n c:Nat) (xs:List B) (h:RdP W W.heap.size lv l) (ha:Rd W W.heap.size A n (xs.map fun x=>.string (mkS x))) (hnc:n≤c) (hcm:c≤9223372036854775807):Calls Tryz.prog 4 #[lv,.slice A n c] W fun x W'=>x=.returned (.bool true)∧Later W W':=by
 have HAW:=Lib.hid (awake_v W hg)
 have HGW:=Lib.hid hg
 have HRD:=Lib.hid ha
 have hln:xs.length=n:=ha.len_map
 have HLN:=Lib.hid hln
 have HFEW:=Lib.hid (show ∀ w,Later W w→Calls Tryz.prog 10 #[lv,.slice A n c,.string ⟨#[]⟩] w fun x W'=>x=.returned (.bool (fewB l xs))∧Later w W' from fun w hl=>few_v lv l A n c xs w (h.later hl) ((ha.below hl).more hl.size) (by omega))
 have HMADE:=Lib.hid (show fewB l xs=true→∀ w,Later W w→Calls Tryz.prog 11 #[lv,.slice A n c,.int .u8 0,.int .u8 0] w _ from fun hf w hl=>made_v lv l A n c xs 0 0 w (by omega) (by omega) (h.later hl) ((ha.below hl).more hl.size) hnc hcm (few_at hf).1 (few_at hf).2.2.1 (few_at hf).2.2.2)
 clear hg h ha hln hnc hcm
 obtain⟨fb,hfb⟩:∃ fb,fb=fewB l xs:=⟨_,rfl⟩
 rw[←hfb] at HFEW
 by_cases hfw:fb=true
 case neg=>
  have hfw:fb=false:=by simpa using hfw
  subst hfw
  clear hfb HMADE
  go_enter Tryz.func4,Tryz.ntmps4
  go_wp2_with (first
   |(go_at_call 9;(with_reducible refine HAW.out.mono ?_);rintro e w1 ⟨rfl,hb1⟩;have L1:=Lib.hid hb1;clear hb1)
   |(go_at_call 10;(with_reducible refine(HFEW.out _ L1.out).mono ?_);rintro e w2 ⟨rfl,hb2⟩;have L2:=Lib.hid hb2;clear hb2))
  go_ret
  exact⟨rfl,L1.out.trans L2.out⟩
 case pos=>
 subst hfw
 obtain⟨hk1,hk2,hk3,hk4⟩:=few_at hfb.symm
 have HM1:=Lib.hid (HMADE.out hfb.symm)
 obtain⟨e,he⟩:∃ e,e=madeE l xs 0 0:=⟨_,rfl⟩
 have hmd:Md xs 0 l.length e:=by rw[he];exact madeE_md hk1 xs 0 0
 have hfl:e.flags.length≤4:=by rw[he];exact madeE_fl _ _ _ _
 obtain⟨e2,he2⟩:∃ e2,e2=En.set Ar.nameB e En.IFS []:=⟨_,rfl⟩
 have hmd2:Md xs 0 (l.length+1) e2:=by rw[he2];exact hmd.set (by simp)
 have hfl2:e2.flags.length≤4:=by rw[he2,(set_keep e En.IFS []).2.2];exact hfl
 have hif2:En.ifs e2.vars=[]:=by rw[he2];exact ifs_none e
 have hx8:xs.length≤8:=hk4
 have hn8:n≤8:=by rw[←HLN.out];exact hx8
 obtain⟨ys,hys⟩:∃ ys,ys=xs.filter neB:=⟨_,rfl⟩
 obtain⟨m,hm⟩:∃ m,m=ys.length:=⟨_,rfl⟩
 have HYS:=Lib.hid (And.intro hys hm)
 have HF1:=Lib.hid (show FieldsTo W e e ⟨#[34,36,64,34]⟩ n fun k=>xs.getD k [] by
  have h:=fields_aq (e:=e) HGW.out (sm_of hmd hfl (by omega) hx8 hk2 (by omega)) hmd.up (by rw[hmd.args];exact hk2) (by rw[hmd.args];exact hx8)
  rw[hmd.args,HLN.out] at h
  exact h)
 have HF2:=Lib.hid (show FieldsTo W e2 e2 ⟨#[36,64]⟩ m fun k=>ys.getD k [] by
  have h:=fields_ab (e:=e2) hif2 HGW.out (sm_of hmd2 hfl2 (by omega) hx8 hk2 (by omega)) hmd2.up (by rw[hmd2.args];exact hk2) (by rw[hmd2.args];exact hx8)
  rw[hmd2.args,show (xs.filter fun x=>!x.isEmpty)=ys from hys.symm,←hm] at h
  exact h)
 have HST:=Lib.hid (show ∀ w va,RdE w va e→Calls Tryz.prog 14 #[va,.string ⟨#[73,70,83]⟩,.string ⟨#[]⟩] w fun x W'=>(∃ Av nv cv A na c st fl,x=.returned (.agg #[.slice Av nv cv,.slice A na c,.int .i64 st,.string fl])∧RdE W' (.agg #[.slice Av nv cv,.slice A na c,.int .i64 st,.string fl]) e2)∧Later w W' from fun w va hr=>by
  have h:=set_any En.IFS [] hr hmd.up (by have:=hmd.len;omega) (by rw[hmd.args];omega) (by decide)
  rw[←he2] at h
  exact h)
 rw[←he] at HM1
 clear HMADE hfb hk1 hk2 hk3 hk4 he hmd hfl he2 hmd2 hfl2 hif2 hx8 hys hm
 go_enter Tryz.func4,Tryz.ntmps4
 go_wp2_with (first
  |(go_at_call 9;(with_reducible refine HAW.out.mono ?_);rintro e0 w1 ⟨rfl,hb1⟩;have L1:=Lib.hid hb1;clear hb1)
  |(go_at_call 10;(with_reducible refine(HFEW.out _ L1.out).mono ?_);rintro e0 w2 ⟨rfl,hb2⟩;have L2:=Lib.hid (L1.out.trans hb2);clear hb2))
 go_at_call 11
 with_reducible refine(HM1.out _ L2.out).mono ?_
 rintro e0 k1 ⟨⟨Av1,nv1,cv1,A1,na1,c1,st1,fl1,rfl,hf1⟩,hl1⟩
 have HR1:=Lib.hid hf1
 have K1:=Lib.hid (L2.out.trans hl1)
 have HX1:=Lib.hid (heap_alloc_new k1 (.cells #[.slice Av1 nv1 cv1,.slice A1 na1 c1,.int .i64 st1,.string fl1] 28))
 have b0:=(cell_row HX1.out 0).1
 have b1:=(cell_row HX1.out 1).1
 have b2:=(cell_row HX1.out 2).1
 have b3:=(cell_row HX1.out 3).1
 clear hf1 hl1
 go_wp2_with fail
 go_at_call 12
 with_reducible refine(HF1.out _ _ (K1.out.trans (Later.alloc _ _)) (HR1.out.later (Later.alloc _ _))).mono ?_
 rintro e0 k2 ⟨⟨Bu,cu,Av2,nv2,cv2,A2,na2,c2,st2,fl2,rfl,hc2,hr2⟩,hl2⟩
 have HC2:=Lib.hid hc2
 have K2:=Lib.hid ((Later.alloc _ _).trans hl2)
 have HX2:=Lib.hid (later_cells hl2 HX1.out)
 have hbx:=fun o o'=>later_cells ((Later.alloc k2 o).trans (Later.alloc _ o')) HX2.out
 clear b0 b1 b2 b3
 have b0:=fun o o'=>(cell_row (hbx o o') 0).1
 have b1:=fun o o'=>(cell_row (hbx o o') 1).1
 have b2:=fun o o'=>(cell_row (hbx o o') 2).1
 have b3:=fun o o'=>(cell_row (hbx o o') 3).1
 clear hbx hc2 hr2 hl2
 go_wp2_with fail
 go_at_call 14
 with_reducible refine(HST.out _ _ (HR1.out.later (K2.out.trans ((Later.alloc _ _).trans (Later.alloc _ _))))).mono ?_
 rintro e0 k3 ⟨⟨Av3,nv3,cv3,A3,na3,c3,st3,fl3,rfl,hr3⟩,hl3⟩
 have HR3:=Lib.hid hr3
 have T2:=Lib.hid (two_boxes hl3)
 have K3:=Lib.hid (((Later.alloc _ _).trans (Later.alloc _ _)).trans hl3)
 clear b0 b1 b2 b3 hr3 hl3
 go_wp2_with fail
 go_at_call 12
 with_reducible refine(HF2.out _ _ (K1.out.trans (K2.out.trans K3.out)) HR3.out).mono ?_
 rintro e0 k4 ⟨⟨Bv,cw,Av4,nv4,cv4,A4,na4,c4,st4,fl4,rfl,hc4,_⟩,hl4⟩
 have HC4:=Lib.hid hc4
 have hla:=fun o o'=>(Later.alloc k4 o).trans (Later.alloc _ o')
 have qa:=fun o o'=>(cell_row (later_cells (hl4.trans (hla o o')) T2.out.2) 0).1
 have hnn:((n:Int)==(n:Int))=true:=beq_self_eq_true _
 have K4:=Lib.hid hl4
 clear hla hc4 hl4
 go_wp2_with fail
 clear qa hnn
 go_loopw [14,15] (fun s14 s15 wr=>∃ i k:Nat,s15=.int .i64 (i:Int)∧i≤n∧s14=.int .i64 (k:Int)∧Hid (k=((xs.take i).filter neB).length∧Later k4 wr)) (fun _ i _=>n-(intOf i).toNat)
 case atStart=>exact⟨0,0,rfl,Nat.zero_le _,rfl,Lib.hid ⟨rfl,(Later.alloc _ _).trans (Later.alloc _ _)⟩⟩
 case round=>
  obtain⟨i,k,rfl,hi,rfl,HK⟩:=hrel
  have hi0:(0:Int)≤(i:Int):=by omega
  have hk0:(0:Int)≤(k:Int):=by omega
  have hk8:k≤8:=by
   have h1:=List.length_filter_le neB (xs.take i)
   rw[←HK.out.1,List.length_take] at h1
   omega
  have HLL:=Lib.hid (K1.out.trans (K2.out.trans (K3.out.trans (K4.out.trans HK.out.2))))
  by_cases hlk:i<n
  ·have hlk1:(i:Int)<(n:Int):=by omega
   obtain⟨ad,hil,hA,hab,hcell⟩:=HRD.out.at_map hlk
   subst hA
   obtain⟨x,hx⟩:∃ x,x=xs[i]:=⟨_,rfl⟩
   rw[←hx] at hcell
   have c0:=(HLL.out.cell (p:=ad.add i) (by rw[block_add];exact hab)).trans hcell
   obtain⟨bu,hbu,hcells⟩:=HC2.out (by omega)
   subst hbu
   have ct:=cell_keeps' (K3.out.trans (K4.out.trans HK.out.2)) (hcells i hlk)
   rw[show xs.getD i []=x by rw[List.getD_eq_getElem?_getD,List.getElem?_eq_getElem hil,hx];rfl] at ct
   have htw:((mkS x).toList==(mkS x).toList)=true:=beq_self_eq_true _
   have hft:=fil_take hil
   rw[←hx] at hft
   by_cases hxn:x=[]
   ·have g2:((mkS x).toList==[])=true:=by rw[hxn,Pm.is_nil];rfl
    have g3:(mkS x).toList.isEmpty=true:=by rw[hxn,Pm.is_nil];rfl
    have HK1:=Lib.hid (show k=((xs.take (i+1)).filter neB).length by rw[hft,hxn,if_neg (by decide),List.append_nil];exact HK.out.1)
    clear hx hcell hab hil hcells hft hxn
    go_wp2_with fail
    go_region
    go_wp2
    go_roundw
    case rel=>exact⟨i+1,k,by go_num,by omega,rfl,Lib.hid ⟨HK1.out,HK.out.2.trans (Later.drew _)⟩⟩
    case measure=>simp[intOf];omega
   ·have g2:¬ (mkS x).toList=[]:=Pm.ne_nil hxn
    have g3:(mkS x).toList.isEmpty=false:=by rw[List.isEmpty_eq_false_iff];exact g2
    have hnb:neB x=true:=by cases x with | nil=>exact absurd rfl hxn | cons a t=>rfl
    have HK1:=Lib.hid (show k+1=((xs.take (i+1)).filter neB).length by rw[hft,if_pos hnb,List.length_append,HK.out.1];rfl)
    have hfa:=fil_at hil (by rw[←hx];exact hnb)
    rw[←HYS.out.1,←HYS.out.2,←HK.out.1,←hx] at hfa
    obtain⟨bv,hbv,hcells2⟩:=HC4.out (by omega)
    subst hbv
    have cv:=cell_keeps' HK.out.2 (hcells2 k hfa.1)
    rw[hfa.2] at cv
    have hkm:(k:Int)<(m:Int):=by omega
    have hkm2:¬ (m:Int)≤(k:Int):=by omega
    have hkm3:decide (m≤k)=false:=decide_eq_false (by omega)
    clear hx hcell hab hil hcells hft hxn hfa hcells2 hnb
    go_wp2_with fail
    go_region
    go_wp2_with fail
    go_quiet (fail)
    go_wp2
    go_roundw
    case rel=>exact⟨i+1,k+1,by go_num,by omega,by go_num,Lib.hid ⟨HK1.out,HK.out.2.trans ⟨rfl,rfl,rfl,Nat.le_refl _,fun _ _=>rfl⟩⟩⟩
    case measure=>simp[intOf];omega
  ·have hlk1:¬ (i:Int)<(n:Int):=by omega
   have hkm:k=m:=by
    have h:=HK.out.1
    rw[List.take_of_length_le (by rw[HLN.out];omega),←HYS.out.1,←HYS.out.2] at h
    exact h
   subst hkm
   have hkk:((k:Int)==(k:Int))=true:=beq_self_eq_true _
   go_wp2
   go_ret
   exact⟨rfl,HLL.out⟩
end Ex
end Go.Proofs.YtipdgmjplnibeaaGreatDoor
namespace Go.Proofs.YtipdgmjplnibeaaGreatDoor
open Go.RowKit Go.Maps
namespace expandArgs
theorem walk (W:World) (hg:Ex.Gw W) (A0:Option Addr) (n0 c0:Nat) (l:En.Vs) (h0:En.RdP W W.heap.size (.slice A0 n0 c0) l∧l.length=n0∧n0≤c0∧c0≤maxLen) (A:Option Addr) (n c:Nat) (xs:List ByteArray) (h:Rd W W.heap.size A n (xs.map Value.string)∧(∀ s∈xs,s.size≤maxLen)∧n≤c∧c≤maxLen):Calls Tryz.prog 4 #[.slice A0 n0 c0,.slice A n c] W fun x W'=>x=.returned (.bool true)∧Below W.heap.size W W':=by
 have e:xs.map Value.string=(xs.map fun s=>s.data.toList).map fun x=>.string (mkS x):=by
  rw[List.map_map]
  exact List.map_congr_left fun s _=>by simp[mkS_of]
 have h1:=h.1
 rw[e] at h1
 exact Ex.args_v W hg _ l A n c _ h0.1 h1 h.2.2.1 (by have:=h.2.2.2;simp only[maxLen] at this;omega)
end expandArgs
end Go.Proofs.YtipdgmjplnibeaaGreatDoor
