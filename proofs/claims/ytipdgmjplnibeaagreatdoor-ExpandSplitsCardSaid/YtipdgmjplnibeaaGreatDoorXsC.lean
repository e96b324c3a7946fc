import Derived.Test.YtipdgmjplnibeaaGreatDoorXsA
set_option maxRecDepth 100000
set_option maxHeartbeats 25600000
namespace Go.Proofs.YtipdgmjplnibeaaGreatDoor
open Go.RowKit Go.Maps
set_option maxRecDepth 100000
namespace Ex
open Jo (ft fm rows)
open En (E RdE RdP Vd Rises FrE)
theorem good_take {l:List B} {i:Nat} (h:Good (l.take i)) (hi:i<l.length) (h1:lowc l[i]∧l[i]≠[]∧l[i].length≤20):Good (l.take (i+1)):=by
 intro x hx
 rw[List.take_succ_eq_append_getElem hi] at hx
 rcases List.mem_append.1 hx with hx | hx
 ·exact h x hx
 ·rw[List.mem_singleton.1 hx];exact h1
theorem jn_take {g:B} {l:List B} {i:Nat} (hi:i<l.length):jn g (l.take (i+1))=(if i=0 then [] else jn g (l.take i)++g)++l[i]:=by
 rw[List.take_succ_eq_append_getElem hi,jn_snoc]
 by_cases h0:i=0
 ·subst h0;simp
 ·have hne:¬ l.take i=[]:=by
   intro h
   have h2:(l.take i).length=0:=by rw[h];rfl
   rw[List.length_take] at h2
   omega
  rw[if_neg hne,if_neg h0]
theorem splits_v (W:World) (hg:Gw W) (A:Option Addr) (n c:Nat) (l:List B) (hl:Rd W W.heap.size A n (l.map fun x=>.string (mkS x))) (how:Nat) (hh:how<256):Calls Tryz.prog 7 #[.slice A n c,.int .u8 (how:Int)] W fun x W'=>x=.returned (.bool true)∧Later W W':=by
 have HAW:=Lib.hid (awake_v W hg)
 have HGW:=Lib.hid hg
 have HRD:=Lib.hid hl
 have hln:l.length=n:=hl.len_map
 have HLN:=Lib.hid hln
 clear hg hl hln
 by_cases hbig:9<n
 ·have hb1:(9:Int)<(n:Int):=by omega
  go_enter Tryz.func7,Tryz.ntmps7
  go_wp2_with (go_at_call 9;(with_reducible refine HAW.out.mono ?_);rintro e w1 ⟨rfl,hb1⟩;have L1:=Lib.hid hb1;clear hb1)
  go_ret
  exact⟨rfl,L1.out⟩
 have hb1:¬ (9:Int)<(n:Int):=by omega
 by_cases hn0:n=0
 ·subst hn0
  go_enter Tryz.func7,Tryz.ntmps7
  go_wp2_with (go_at_call 9;(with_reducible refine HAW.out.mono ?_);rintro e w1 ⟨rfl,hb1⟩;have L1:=Lib.hid hb1;clear hb1)
  go_ret
  exact⟨rfl,L1.out⟩
 have hn9:n≤9:=by omega
 have hb2:decide ((9:Int)<(n:Int))=false:=decide_eq_false hb1
 have hnz:((n:Int)==0)=false:=by rw[beq_eq_false_iff_ne];omega
 have hn1:0<n:=by omega
 obtain⟨q,hq⟩:∃ q,q=how % 4:=⟨_,rfl⟩
 have hq4:q<4:=by omega
 have hwh:wrap64 (how:Int)=(how:Int):=by unfold wrap64;omega
 have hqr:(wrap64 (how:Int)).tmod 4=(q:Int):=by rw[hwh,hq];rfl
 have HQ:=Lib.hid hqr
 clear hbig hn0 hq hqr hh hwh
 go_enter Tryz.func7,Tryz.ntmps7
 go_wp2_with (go_at_call 9;(with_reducible refine HAW.out.mono ?_);rintro e w1 ⟨rfl,hb1⟩;have L1:=Lib.hid hb1;clear hb1)
 go_loopw [6,7] (fun s6 s7 wr=>∃ i:Nat,s7=.int .i64 (i:Int)∧i≤n∧s6=.string (mkS (jn (gap q) (l.take i)))∧Hid (Good (l.take i)∧Later W wr)) (fun _ i _=>n-(intOf i).toNat)
 case atStart=>exact⟨0,rfl,Nat.zero_le _,rfl,Lib.hid ⟨fun x hx=>(by cases hx),L1.out⟩⟩
 case round=>
  obtain⟨i,rfl,hi,rfl,HR⟩:=hrel
  obtain⟨wo,hwo⟩:∃ wo,wo=wr:=⟨_,rfl⟩
  subst hwo
  have hi0:(0:Int)≤(i:Int):=by omega
  by_cases hlt:i<n
  ·have hlt1:(i:Int)<(n:Int):=by omega
   obtain⟨ad,hil,hA,hab,hcell⟩:=HRD.out.at_map hlt
   subst hA
   obtain⟨x,hx⟩:∃ x,x=l[i]:=⟨_,rfl⟩
   rw[←hx] at hcell
   have HCX:=Lib.hid (show ∀ w,Later wo w→w.cell? (ad.add i)=some (.string (mkS x)) from fun w hl=>((HR.out.2.trans hl).cell (by rw[block_add];exact hab)).trans hcell)
   have c0:=HCX.out wo (Later.refl _)
   obtain⟨mx,hmx⟩:∃ mx,mx=x.length:=⟨_,rfl⟩
   have hzx:((mkS x).size:Int)=(mx:Int):=by rw[mkS_size,hmx]
   have hzn:(mkS x).size=mx:=by rw[mkS_size,hmx]
   have HX:=Lib.hid (And.intro hx hmx)
   have HIL:=Lib.hid hil
   clear hab hcell hx hmx
   by_cases h20:20<mx
   ·have g1:(20:Int)<(mx:Int):=by omega
    go_wp2
    go_ret
    exact⟨rfl,HR.out.2⟩
   have g1:¬ (20:Int)<(mx:Int):=by omega
   by_cases hxn:x=[]
   ·have g2:((mkS x).toList==[])=true:=by rw[hxn,Pm.is_nil];rfl
    have g3:(mkS x).toList.isEmpty=true:=by rw[hxn,Pm.is_nil];rfl
    have g4:(mkS x).toList=[]:=by rw[hxn];exact Pm.is_nil
    clear hxn
    go_wp2
    go_ret
    exact⟨rfl,HR.out.2⟩
   have g2:¬ (mkS x).toList=[]:=Pm.ne_nil hxn
   have g3:(mkS x).toList.isEmpty=false:=by rw[List.isEmpty_eq_false_iff];exact g2
   have HNE:=Lib.hid hxn
   clear hxn h20
   go_wp2_with fail
   go_loopw [8] (fun s8 wr=>∃ k:Nat,s8=.int .i64 (k:Int)∧k≤mx∧Hid (lowc (x.take k))∧wr=wo) (fun k _=>mx-(intOf k).toNat)
   case atStart=>exact⟨0,rfl,Nat.zero_le _,Lib.hid (fun c hc=>(by cases hc)),rfl⟩
   case round=>
    obtain⟨k,rfl,hk,HLO,hw⟩:=hrel
    have hw:=hw.symm
    subst hw
    have hk0:(0:Int)≤(k:Int):=by omega
    by_cases hlk:k<mx
    ·have hlk1:(k:Int)<(mx:Int):=by omega
     have hkx:k<x.length:=by rw[←HX.out.2];exact hlk
     obtain⟨cc,hcc⟩:∃ cc,cc=x[k]:=⟨_,rfl⟩
     have hgx:∀ h,(mkS x)[k]'h=cc:=by rw[hcc];intro _;rfl
     have HTK:=Lib.hid (show x.take (k+1)=x.take k++[cc] by rw[hcc];exact List.take_succ_eq_append_getElem hkx)
     clear hcc hkx
     by_cases hlo:cc.toNat<97
     ·have r1:(cc.toNat:Int)<97:=by omega
      go_wp2
      go_ret
      exact⟨rfl,HR.out.2⟩
     have r1:¬ (cc.toNat:Int)<97:=by omega
     by_cases hhi:122<cc.toNat
     ·have r2:(122:Int)<(cc.toNat:Int):=by omega
      go_wp2
      go_ret
      exact⟨rfl,HR.out.2⟩
     have r2:¬ (122:Int)<(cc.toNat:Int):=by omega
     go_wp2
     go_roundw
     case rel=>
      refine⟨k+1,by go_num,by omega,Lib.hid ?_,by first | rfl | trivial⟩
      intro y hy
      rw[HTK.out] at hy
      rcases List.mem_append.1 hy with hy | hy
      ·exact HLO.out y hy
      ·rw[List.mem_singleton.1 hy];omega
     case measure=>simp[intOf];omega
    ·have hlk1:¬ (k:Int)<(mx:Int):=by omega
     have HGD:=Lib.hid (show Good (l.take (i+1)) from good_take HR.out.1 HIL.out (by
      have h:=HLO.out
      rw[List.take_of_length_le (by rw[←HX.out.2];omega)] at h
      rw[←HX.out.1]
      exact⟨h,HNE.out,by rw[←HX.out.2];omega⟩))
     obtain⟨cv,hcv⟩:∃ cv,cv=jn (gap q) (l.take i):=⟨_,rfl⟩
     have HCL:=Lib.hid (show cv.length≤200 by rw[hcv];exact HR.out.1.len (by rw[List.length_take];omega) q)
     have hjt:=jn_take (g:=gap q) HIL.out
     rw[←hcv,←HX.out.1] at hjt
     rw[←hcv]
     have HXL:=Lib.hid (show x.length≤20 by rw[←HX.out.2];omega)
     by_cases h0:i=0
     ·have hgt:¬ (0:Int)<(i:Int):=by omega
      rw[if_pos h0,List.nil_append] at hjt
      have hcn:cv=[]:=by rw[hcv,h0];rfl
      have HJT:=Lib.hid (show (mkS cv++mkS x)=mkS (jn (gap q) (l.take (i+1))) by rw[hjt,hcn,mkS_add];rfl)
      have hcat:=HJT.out
      have hz4:¬ 9223372036854775807<(mkS cv).size+mx:=by rw[mkS_size];have:=HCL.out;omega
      clear h0 hjt hcn hcv
      go_wp2
      go_roundw
      case rel=>exact⟨i+1,by go_num,by omega,rfl,Lib.hid ⟨HGD.out,HR.out.2⟩⟩
      case measure=>simp[intOf];omega
     ·have hgt:(0:Int)<(i:Int):=by omega
      rw[if_neg h0] at hjt
      obtain⟨wl,hwl⟩:∃ wl,wl=wo.alloc (.cells #[.string ⟨#[32]⟩,.string ⟨#[32,32]⟩,.string ⟨#[9]⟩,.string ⟨#[10,32]⟩] 9):=⟨_,rfl⟩
      have c1:wl.cell? (ad.add i)=some (.string (mkS x)):=by rw[hwl];exact HCX.out _ (Later.alloc _ _)
      have c2:wl.cell? ⟨wo.heap.size,q,none⟩=some (.string (mkS (gap q))):=by
       rw[hwl,(cell_row (heap_alloc_new wo _) q).1]
       match q,hq4 with
       | 0,_=>rfl
       | 1,_=>rfl
       | 2,_=>rfl
       | 3,_=>rfl
      have HWL:=Lib.hid (show Later wo wl by rw[hwl];exact Later.alloc _ _)
      rw[hwl] at c1 c2
      obtain⟨c3,hc3⟩:∃ c3,c3=cv++gap q:=⟨_,rfl⟩
      have hcat:=mkS_add cv (gap q)
      rw[←hc3] at hcat hjt
      have HJT:=Lib.hid (show (mkS c3++mkS x)=mkS (jn (gap q) (l.take (i+1))) by rw[hjt,mkS_add])
      have hcat2:=HJT.out
      have hg2:=gap_len q
      have hz4:¬ 9223372036854775807<(mkS cv).size+(mkS (gap q)).size:=by rw[mkS_size,mkS_size];have:=HCL.out;omega
      have hz5:¬ 9223372036854775807<(mkS c3).size+mx:=by rw[mkS_size,hc3,List.length_append];have:=HCL.out;omega
      have hq0:(0:Int)≤(q:Int):=by omega
      have hq1:(q:Int)<4:=by omega
      have hqr:=HQ.out
      have hlq:∀ h,([.string ⟨#[32]⟩,.string ⟨#[32,32]⟩,.string ⟨#[9]⟩,.string ⟨#[10,32]⟩]:List Value)[q]'h=.string (mkS (gap q)):=by
       intro h
       match q,hq4 with
       | 0,_=>rfl
       | 1,_=>rfl
       | 2,_=>rfl
       | 3,_=>rfl
      clear h0 hjt hcv hc3 hg2
      go_wp2
      rw[←hwl]
      go_roundw
      case rel=>exact⟨i+1,by go_num,by omega,rfl,Lib.hid ⟨HGD.out,HR.out.2.trans HWL.out⟩⟩
      case measure=>simp[intOf];omega
  ·have hlt1:¬ (i:Int)<(n:Int):=by omega
   have hall:l.take i=l:=List.take_of_length_le (by rw[HLN.out];omega)
   have hgood:Good l:=by rw[←hall];exact HR.out.1
   rw[hall]
   obtain⟨vv,hvv⟩:∃ vv,vv=jn (gap q) l:=⟨_,rfl⟩
   have HVL:=Lib.hid (show vv.length≤200 by rw[hvv];exact hgood.len (by rw[HLN.out];exact hn9) q)
   have HGO:=Lib.hid (HGW.out.later HR.out.2)
   have HF1:=Lib.hid (show FieldsTo wo (X1 (jn (gap q) l)) (X1 (jn (gap q) l)) ⟨#[65,36,120,34,66,34]⟩ l.length fun k=>wantS l.length k (l.getD k []) from fields_s hgood (by rw[HLN.out];exact hn9) (by rw[HLN.out];exact hn1) q HGO.out)
   have HF2:=Lib.hid (show FieldsTo wo (XI (jn (gap q) l)) (XI (jn (gap q) l)) ⟨#[65,36,120,34,66,34]⟩ 1 fun _=>65::(jn (gap q) l++[66]) from fields_i hgood (by rw[HLN.out];exact hn9) q HGO.out)
   rw[HLN.out,←hvv] at HF1
   rw[←hvv] at HF2⊢
   have HS:=Lib.hid (fun k=>set_to k vv)
   have HLW:=Lib.hid HR.out.2
   have HGA:=Lib.hid hgood
   clear hall hgood hvv
   go_wp2_with fail
   go_at_call 14
   with_reducible refine(HS.out _).mono ?_
   rintro e0 k1 ⟨⟨Av1,nv1,cv1,A1,na1,c1,st1,fl1,rfl,hf1⟩,hl1⟩
   have HR1:=Lib.hid hf1.rd
   have K1:=Lib.hid hl1
   have HX1:=Lib.hid (heap_alloc_new k1 (.cells #[.slice Av1 nv1 cv1,.slice A1 na1 c1,.int .i64 st1,.string fl1] 28))
   have b0:=(cell_row HX1.out 0).1
   have b1:=(cell_row HX1.out 1).1
   have b2:=(cell_row HX1.out 2).1
   have b3:=(cell_row HX1.out 3).1
   clear hf1 hl1
   go_wp2_with fail
   go_at_call 12
   with_reducible refine(HF1.out _ _ (K1.out.trans (Later.alloc _ _)) (HR1.out.later (Later.alloc _ _))).mono ?_
   rintro e0 k2 ⟨⟨Bu,cu,Av2,nv2,cv2,A2,na2,c2,st2,fl2,rfl,hc2,hr2⟩,hl2⟩
   obtain⟨bu,hbu,hcells⟩:=hc2 hn1
   subst hbu
   have HC2:=Lib.hid hcells
   have K2:=Lib.hid ((Later.alloc _ _).trans hl2)
   have HX2:=Lib.hid (later_cells hl2 HX1.out)
   have hbx:=fun o o'=>later_cells ((Later.alloc k2 o).trans (Later.alloc _ o')) HX2.out
   clear b0 b1 b2 b3
   have b0:=fun o o'=>(cell_row (hbx o o') 0).1
   have b1:=fun o o'=>(cell_row (hbx o o') 1).1
   have b2:=fun o o'=>(cell_row (hbx o o') 2).1
   have b3:=fun o o'=>(cell_row (hbx o o') 3).1
   clear hbx hc2 hcells hr2 hl2
   go_wp2_with fail
   go_at_call 14
   with_reducible refine(set_ifs_to (HR1.out.later (K2.out.trans ((Later.alloc _ _).trans (Later.alloc _ _))))).mono ?_
   rintro e0 k3 ⟨⟨Av3,nv3,cv3,A3,na3,c3,st3,fl3,rfl,hr3⟩,hl3⟩
   have HR3:=Lib.hid hr3
   have T2:=Lib.hid (two_boxes hl3)
   have K3:=Lib.hid (((Later.alloc _ _).trans (Later.alloc _ _)).trans hl3)
   clear b0 b1 b2 b3 hr3 hl3
   go_wp2_with fail
   go_at_call 12
   with_reducible refine(HF2.out _ _ (K1.out.trans (K2.out.trans K3.out)) HR3.out).mono ?_
   rintro e0 k4 ⟨⟨Bv,cw,Av4,nv4,cv4,A4,na4,c4,st4,fl4,rfl,hc4,_⟩,hl4⟩
   obtain⟨bv,hbv,hcells⟩:=hc4 (by omega)
   subst hbv
   have hla:=fun o o'=>(Later.alloc k4 o).trans (Later.alloc _ o')
   have qa:=fun o o'=>(cell_row (later_cells (hl4.trans (hla o o')) T2.out.2) 0).1
   obtain⟨ta,hta⟩:∃ ta:B,ta=65::(vv++[66]):=⟨_,rfl⟩
   have qb:=fun o o'=>cell_keeps' (hla o o') (hcells 0 (by omega))
   rw[←hta] at qb
   simp only[Nat.zero_mul] at qb
   obtain⟨tb,htb⟩:∃ tb:B,tb=65::vv:=⟨_,rfl⟩
   have hcat:(⟨#[65]⟩:ByteArray)++mkS vv=mkS tb:=by rw[htb];exact mkS_add [65] vv
   have hcat2:mkS tb++(⟨#[66]⟩:ByteArray)=mkS ta:=by rw[htb,hta];exact mkS_add (65::vv) [66]
   have hz4:¬ 9223372036854775807<1+(mkS vv).size:=by rw[mkS_size];have:=HVL.out;omega
   have hz5:¬ 9223372036854775807<(mkS tb).size+1:=by rw[mkS_size,htb];have:=HVL.out;simp;omega
   have htt:((mkS ta).toList==(mkS ta).toList)=true:=beq_self_eq_true _
   have hnn:((n:Int)==(n:Int))=true:=beq_self_eq_true _
   have K4:=Lib.hid hl4
   clear hla hta htb hc4 hcells hl4
   go_wp2_with fail
   clear qa qb hcat hcat2 hz4 hz5 htt hnn
   go_loopw [17] (fun s17 wr=>∃ k:Nat,s17=.int .i64 (k:Int)∧k≤n∧Hid (Later k4 wr)) (fun k _=>n-(intOf k).toNat)
   case atStart=>exact⟨0,rfl,Nat.zero_le _,Lib.hid ((Later.alloc _ _).trans (Later.alloc _ _))⟩
   case round=>
    obtain⟨k,rfl,hk,HK⟩:=hrel
    have hk0:(0:Int)≤(k:Int):=by omega
    have HLL:=Lib.hid (HLW.out.trans (K1.out.trans (K2.out.trans (K3.out.trans (K4.out.trans HK.out)))))
    by_cases hlk:k<n
    ·have hlk1:(k:Int)<(n:Int):=by omega
     obtain⟨ad,hkl,hA,hab,hcell⟩:=HRD.out.at_map hlk
     subst hA
     obtain⟨x,hx⟩:∃ x,x=l[k]:=⟨_,rfl⟩
     rw[←hx] at hcell
     have c0:=(HLL.out.cell (p:=ad.add k) (by rw[block_add];exact hab)).trans hcell
     have hxl:x.length≤20:=by rw[hx];exact(HGA.out _ (List.getElem_mem hkl)).2.2
     obtain⟨ws,hws0⟩:∃ ws,ws=wantS n k x:=⟨_,rfl⟩
     have ct:=cell_keeps' (K3.out.trans (K4.out.trans HK.out)) (HC2.out k hlk)
     rw[show l.getD k []=x by rw[List.getD_eq_getElem?_getD,List.getElem?_eq_getElem hkl,hx];rfl,←hws0] at ct
     have htw:((mkS ws).toList==(mkS ws).toList)=true:=beq_self_eq_true _
     have hw1:IntKind.i64.wrap ((n:Int)-1)=(n:Int)-1:=by rw[IntKind.wrap_i64];omega
     clear hx hcell hab hkl
     by_cases hf:k=0
     ·by_cases hl:k+1=n
      ·skip
       have hk2:((k:Int)==0)=true:=by rw[beq_iff_eq];omega
       have hk3:((k:Int)==(n:Int)-1)=true:=by rw[beq_iff_eq];omega
       obtain⟨a1,ha1⟩:∃ a1:B,a1=65::x:=⟨_,rfl⟩
       have hws:ws=a1++[66]:=by rw[hws0];unfold wantS;rw[if_pos hf,if_pos hl,ha1]
       have hcat:(⟨#[65]⟩:ByteArray)++mkS x=mkS a1:=by rw[ha1];exact mkS_add [65] x
       have hz4:¬ 9223372036854775807<1+(mkS x).size:=by rw[mkS_size];omega
       have hcat2:mkS a1++(⟨#[66]⟩:ByteArray)=mkS ws:=by rw[hws];exact mkS_add a1 [66]
       have hz5:¬ 9223372036854775807<(mkS a1).size+1:=by rw[mkS_size,ha1];simp;omega
       clear hws hws0 ha1 hf hl
       go_wp2
       go_roundw
       case rel=>exact⟨k+1,by go_num,by omega,HK⟩
       case measure=>simp[intOf];omega
      ·skip
       have hk2:((k:Int)==0)=true:=by rw[beq_iff_eq];omega
       have hk3:((k:Int)==(n:Int)-1)=false:=by rw[beq_eq_false_iff_ne];omega
       obtain⟨a1,ha1⟩:∃ a1:B,a1=65::x:=⟨_,rfl⟩
       have hws:ws=a1:=by rw[hws0];unfold wantS;rw[if_pos hf,if_neg hl,ha1];simp
       have hcat:(⟨#[65]⟩:ByteArray)++mkS x=mkS a1:=by rw[ha1];exact mkS_add [65] x
       have hz4:¬ 9223372036854775807<1+(mkS x).size:=by rw[mkS_size];omega
       rw[hws] at ct htw
       clear hws hws0 ha1 hf hl
       go_wp2
       go_roundw
       case rel=>exact⟨k+1,by go_num,by omega,HK⟩
       case measure=>simp[intOf];omega
     ·by_cases hl:k+1=n
      ·skip
       have hk2:((k:Int)==0)=false:=by rw[beq_eq_false_iff_ne];omega
       have hk3:((k:Int)==(n:Int)-1)=true:=by rw[beq_iff_eq];omega
       obtain⟨a1,ha1⟩:∃ a1:B,a1=x:=⟨_,rfl⟩
       have hws:ws=a1++[66]:=by rw[hws0];unfold wantS;rw[if_neg hf,if_pos hl,ha1]
       have hcat2:mkS a1++(⟨#[66]⟩:ByteArray)=mkS ws:=by rw[hws];exact mkS_add a1 [66]
       have hz5:¬ 9223372036854775807<(mkS a1).size+1:=by rw[mkS_size,ha1];simp;omega
       rw[ha1] at hcat2 hz5
       clear hws hws0 ha1 hf hl
       go_wp2
       go_roundw
       case rel=>exact⟨k+1,by go_num,by omega,HK⟩
       case measure=>simp[intOf];omega
      ·skip
       have hk2:((k:Int)==0)=false:=by rw[beq_eq_false_iff_ne];omega
       have hk3:((k:Int)==(n:Int)-1)=false:=by rw[beq_eq_false_iff_ne];omega
       obtain⟨a1,ha1⟩:∃ a1:B,a1=x:=⟨_,rfl⟩
       have hws:ws=a1:=by rw[hws0];unfold wantS;rw[if_neg hf,if_neg hl,ha1];simp
       rw[hws] at ct htw
       rw[ha1] at ct htw
       clear hws hws0 ha1 hf hl
       go_wp2
       go_roundw
       case rel=>exact⟨k+1,by go_num,by omega,HK⟩
       case measure=>simp[intOf];omega
    ·have hlk1:¬ (k:Int)<(n:Int):=by omega
     go_wp2
     go_ret
     exact⟨rfl,HLL.out⟩
end Ex
end Go.Proofs.YtipdgmjplnibeaaGreatDoor
namespace Go.Proofs.YtipdgmjplnibeaaGreatDoor
open Go.RowKit Go.Maps
namespace expandSplits
theorem walk (W:World) (hg:Ex.Gw W) (A:Option Addr) (n c:Nat) (l:List ByteArray) (h:Rd W W.heap.size A n (l.map Value.string)∧(∀ s∈l,s.size≤maxLen)∧n≤c∧c≤maxLen) (how:Int) (hh:(Lit.int .u8 how).wf=true):Calls Tryz.prog 7 #[.slice A n c,.int .u8 how] W fun x W'=>x=.returned (.bool true)∧Below W.heap.size W W':=by
 have hb:=bounds_u8 hh
 obtain⟨k,rfl⟩:∃ k:Nat,how=(k:Int):=⟨how.toNat,by omega⟩
 have e:l.map Value.string=(l.map fun s=>s.data.toList).map fun x=>.string (mkS x):=by
  rw[List.map_map]
  exact List.map_congr_left fun s _=>by simp[mkS_of]
 have h1:=h.1
 rw[e] at h1
 exact Ex.splits_v W hg A n c _ h1 k (by omega)
end expandSplits
end Go.Proofs.YtipdgmjplnibeaaGreatDoor
