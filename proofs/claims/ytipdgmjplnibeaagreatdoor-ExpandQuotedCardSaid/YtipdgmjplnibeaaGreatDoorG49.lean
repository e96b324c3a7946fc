import Derived.Test.YtipdgmjplnibeaaGreatDoorXda
import Derived.Test.YtipdgmjplnibeaaGreatDoorNwh
set_option maxRecDepth 100000
set_option maxHeartbeats 12800000
namespace Go.Proofs.YtipdgmjplnibeaaGreatDoor
open Go.RowKit Go.Maps
set_option maxRecDepth 100000
namespace Ex
open En (E RdE RdP Vd Rises FrE)
theorem put4 {w:World} {b:Nat} {a0 a1 a2 a3:Value} {t:TypeId} (h:w.heap[b]?=some (.cells #[a0,a1,a2,a3] t (0,0))) (x0 x1 x2 x3:Value) :
  ∃ w',w'=(((w.setCell ⟨b,0,none⟩ x0).setCell ⟨b,1,none⟩ x1).setCell ⟨b,2,none⟩ x2).setCell ⟨b,3,none⟩ x3∧w'.heap[b]?=some (.cells #[x0,x1,x2,x3] t (0,0))∧w.grownBy w' (some b):=by
 have g1:=set_only w b 0 x0
 have g2:=set_only (w.setCell ⟨b,0,none⟩ x0) b 1 x1
 have g3:=set_only ((w.setCell ⟨b,0,none⟩ x0).setCell ⟨b,1,none⟩ x1) b 2 x2
 have g4:=set_only (((w.setCell ⟨b,0,none⟩ x0).setCell ⟨b,1,none⟩ x1).setCell ⟨b,2,none⟩ x2) b 3 x3
 have s1:=g1.size
 have s2:=g2.size
 have s3:=g3.size
 refine⟨_,rfl,set_row (set_row (set_row (set_row h 0 x0) 1 x1) 2 x2) 3 x3,⟨g4.os.trans (g3.os.trans (g2.os.trans g1.os)),g4.tape.trans (g3.tape.trans (g2.tape.trans g1.tape)),g4.output.trans (g3.output.trans (g2.output.trans g1.output)),Nat.le_trans s1 (Nat.le_trans s2 (Nat.le_trans s3 g4.size)),fun k hk hne=>?_⟩⟩
 exact(g4.block k (by omega) hne).trans ((g3.block k (by omega) hne).trans ((g2.block k (by omega) hne).trans (g1.block k hk hne)))
theorem one_to {W:World} {va:Value} {e e2:E} {raw T:B} (hw:∃ r,word e raw=.ok r e2∧flat r=T) (h:RdE W va e) (hg:Gw W) (hs:Sm e=true) (hu:Rises e.vars) (hr:raw.length≤100000):Calls Tryz.prog 15 #[va,.string (mkS raw)] W fun x W'=>(∃ Av nv cv A na c st fl,x=.returned (.tuple #[.string (mkS T),.agg #[.slice Av nv cv,.slice A na c,.int .i64 st,.string fl],.agg #[.int .i64 0,.string ⟨#[]⟩]])∧RdE W' (.agg #[.slice Av nv cv,.slice A na c,.int .i64 st,.string fl]) e2)∧Later W W':=by
 obtain⟨r,hw,rfl⟩:=hw
 refine(one_ok hw h hg hs hu hr).mono ?_
 rintro x w' ⟨⟨v,rfl,hf⟩,hl⟩
 have hr:=hf.rd
 obtain⟨Av,nv,cv,A,na,c,st,fl,rfl⟩:=rd_shape hr
 exact⟨⟨Av,nv,cv,A,na,c,st,fl,rfl,hr⟩,hl⟩
theorem one_not {W:World} {va:Value} {e:E} {raw t:B} {n:Nat} (hw:word e raw=.bad n t) (h:RdE W va e) (hg:Gw W) (hs:Sm e=true) (hu:Rises e.vars) (hr:raw.length≤100000):Calls Tryz.prog 15 #[va,.string (mkS raw)] W fun x W'=>(∃ Av nv cv A na c st fl,x=.returned (.tuple #[.string ⟨#[]⟩,.agg #[.slice Av nv cv,.slice A na c,.int .i64 st,.string fl],.agg #[.int .i64 (n:Int),.string (mkS t)]]))∧Later W W':=by
 refine(one_bad hw h hg hs hu hr).mono ?_
 rintro x w' ⟨⟨v,rfl,hf⟩,hl⟩
 obtain⟨Av,nv,cv,A,na,c,st,fl,rfl⟩:=rd_shape hf.rd
 exact⟨⟨Av,nv,cv,A,na,c,st,fl,rfl⟩,hl⟩
theorem up_x0:Rises X0.vars:=Rises.nil
theorem up_x1 (v:B):Rises (X1 v).vars:=by unfold Rises X1;simp
def rawN:B:=[36,123,120,58,63,125]
theorem parse_n:Wd.parse rawN=([.mk 3 [120] [58,63] false []],0):=by kernel_rfl
theorem not_n0:word X0 rawN=.bad 23 [120]:=by unfold word;rw[parse_n];kernel_rfl
theorem not_n1:word (X1 []) rawN=.bad 23 [120]:=by unfold word;rw[parse_n];kernel_rfl
theorem told_n {v:B} (hv:v.length≤30) (hn:v≠[]):∃ r,word (X1 v) rawN=.ok r (X1 v)∧flat r=v:=by
 have l1:=pt_len v 115
 refine⟨pt v 115,?_,flat_pt v 115 (by decide)⟩
 unfold word
 rw[parse_n]
 show (if (0:Nat)≠0 then _ else rowD 10 (X1 v) [.mk 3 [120] [58,63] false []])=_
 rw[if_neg (by decide)]
 refine row_one ?_ (by omega)
 show (if ([120]:B).length≤100000∧([58,63]:B).length≤100000∧(([58,63]:B).all fun x=>decide (x.toNat<128))=true then parF (rowD 9) (X1 v) (.mk 3 [120] [58,63] false []) else .big)=_
 rw[if_pos ⟨by simp,by simp,rfl⟩,par_go (p:=.mk 3 [120] [58,63] false []) (n:=1) rfl (get_x1 v) (by simp) (by intro h;cases h) (does_ne (o:=[58,63]) hn),if_pos rfl,if_neg (by intro h;rcases h with h | h <;> cases h),ptR_30 hv]
 rfl
theorem get_to {W:World} {va:Value} {w:B} (h:RdE W va (X1 w)) (hg:Gw W):Calls Tryz.prog 16 #[va,.string ⟨#[120]⟩] W fun x W'=>x=.returned (.tuple #[.string (mkS w),.bool true])∧Later W W':=
 En.get_v va (X1 w) [120] W h hg.vd (by decide) (by simp[X1]) (by simp[X1]) (by show (En.ifs (X1 w).vars).length≤_;exact Nat.le_trans (show _≤3 from Nat.le_refl 3) (by decide)) (by show (En.joined _ []).length≤_;simp[En.joined])
theorem txt_of (o w:B):mkS (36::123::120::o)++(mkS (39::(w++[39])))++mkS [125]=mkS (txtD o w):=by
 rw[mkS_add,mkS_add]
 unfold txtD
 simp
theorem set_to (k:World) (v:B):Calls Tryz.prog 14 #[.agg #[.slice none 0 0,.slice none 0 0,.int .i64 0,.string ⟨#[]⟩],.string ⟨#[120]⟩,.string (mkS v)] k fun x W'=>(∃ Av nv cv A na c st fl,x=.returned (.agg #[.slice Av nv cv,.slice A na c,.int .i64 st,.string fl])∧FrE k.heap.size W' (.agg #[.slice Av nv cv,.slice A na c,.int .i64 st,.string fl]) (X1 v))∧Later k W':=by
 have h:=En.set_v (.agg #[.slice none 0 0,.slice none 0 0,.int .i64 0,.string ⟨#[]⟩]) ⟨[],[],0,[]⟩ [120] v k (RdE.zero k) Rises.nil (by decide) (by decide) (by decide)
 rw[show En.set En.nm ⟨[],[],0,[]⟩ [120] v=X1 v from set_x0 v] at h
 refine h.mono ?_
 rintro x w' ⟨⟨u,rfl,hf⟩,hl⟩
 obtain⟨Av,nv,cv,A,na,c,st,fl,rfl⟩:=rd_shape hf.rd
 exact⟨⟨Av,nv,cv,A,na,c,st,fl,rfl,hf⟩,hl⟩
theorem put_env {W k:World} {base b:Nat} {a0 a1 a2 a3 x0 x1 x2 x3:Value} {t:TypeId} {e:E} (hl:Later W k) (hb:k.heap[b]?=some (.cells #[a0,a1,a2,a3] t (0,0))) (hW:W.heap.size≤b) (hbb:b<base) (hf:FrE base k (.agg #[x0,x1,x2,x3]) e) :
  ∃ w',w'=(((k.setCell ⟨b,0,none⟩ x0).setCell ⟨b,1,none⟩ x1).setCell ⟨b,2,none⟩ x2).setCell ⟨b,3,none⟩ x3∧w'.heap[b]?=some (.cells #[x0,x1,x2,x3] t (0,0))∧Later W w'∧RdE w' (.agg #[x0,x1,x2,x3]) e:=by
 obtain⟨w',e1,h1,h2⟩:=put4 hb x0 x1 x2 x3
 exact⟨w',e1,h1,later_of_new hl h2 hW,(hf.set h2 hbb).rd⟩
end Ex
end Go.Proofs.YtipdgmjplnibeaaGreatDoor
namespace Go.Proofs.YtipdgmjplnibeaaGreatDoor
open Go.RowKit Go.Maps
set_option maxRecDepth 100000
namespace Ex
open En (E RdE RdP Vd Rises FrE)
abbrev OneTo (W:World) (e e2:E) (raw T:ByteArray):Prop:=∀ w va,Later W w→RdE w va e→Calls Tryz.prog 15 #[va,.string raw] w fun x W'=>(∃ Av nv cv A na c st fl,x=.returned (.tuple #[.string T,.agg #[.slice Av nv cv,.slice A na c,.int .i64 st,.string fl],.agg #[.int .i64 0,.string ⟨#[]⟩]])∧RdE W' (.agg #[.slice Av nv cv,.slice A na c,.int .i64 st,.string fl]) e2)∧Later w W'
theorem OneTo.of {W:World} {e e2:E} {raw T:B} (hw:∃ r,word e raw=.ok r e2∧flat r=T) (hg:Gw W) (hs:Sm e=true) (hu:Rises e.vars) (hr:raw.length≤100000):OneTo W e e2 (mkS raw) (mkS T):=fun _ _ hl h=>one_to hw h (hg.later hl) hs hu hr
theorem txt_len {o w:B} (ho:Wd.isOp o) (hw:w.length≤30):(txtD o w).length≤100:=by
 have:o.length≤2:=by rcases ho with rfl | rfl | rfl | rfl | rfl | rfl <;> simp
 unfold txtD
 simp
 omega
theorem walk0 (W:World) (hg:Gw W) (v w:B) (hv:v.length≤30) (hw:w.length≤30) (hq:(39:UInt8)∉w):Calls Tryz.prog 5 #[.string (mkS v),.string (mkS w),.bool false] W fun x W'=>x=.returned (.bool true)∧Later W W':=by
 have HAW:=Lib.hid (awake_v W hg)
 have HQ:=Lib.hid hq
 have HW:=Lib.hid hw
 obtain⟨ra,hra⟩:∃ r,r=mkS (txtD [58,45] w):=⟨_,rfl⟩
 obtain⟨rb,hrb⟩:∃ r,r=mkS (txtD [45] w):=⟨_,rfl⟩
 obtain⟨rc,hrc⟩:∃ r,r=mkS (txtD [58,61] w):=⟨_,rfl⟩
 obtain⟨rd,hrd⟩:∃ r,r=mkS (txtD [58,43] w):=⟨_,rfl⟩
 obtain⟨rk,hrk⟩:∃ r,r=mkS (txtD [43] w):=⟨_,rfl⟩
 have o1:isD [58,45]:=.inl rfl
 have o2:isD [45]:=.inr (.inl rfl)
 have o3:isD [58,61]:=.inr (.inr (.inl rfl))
 have o4:isD [58,43]:=.inr (.inr (.inr (.inl rfl)))
 have o5:isD [43]:=.inr (.inr (.inr (.inr rfl)))
 have HA:=Lib.hid (show OneTo W X0 X0 ra (mkS w) from hra ▸ OneTo.of (told_a false hv hw hq) hg sm_x0 up_x0 (Nat.le_trans (txt_len o1.op hw) (by decide)))
 have HB:=Lib.hid (show OneTo W X0 X0 rb (mkS w) from hrb ▸ OneTo.of (told_b false hv hw hq) hg sm_x0 up_x0 (Nat.le_trans (txt_len o2.op hw) (by decide)))
 have HC:=Lib.hid (show OneTo W X0 (X1 w) rc (mkS w) from hrc ▸ OneTo.of (told_c false hv hw hq) hg sm_x0 up_x0 (Nat.le_trans (txt_len o3.op hw) (by decide)))
 have HD:=Lib.hid (show OneTo W X0 X0 rd ⟨#[]⟩ from hrd ▸ OneTo.of (told_d false hv hw hq) hg sm_x0 up_x0 (Nat.le_trans (txt_len o4.op hw) (by decide)))
 have HK:=Lib.hid (show OneTo W X0 X0 rk ⟨#[]⟩ from hrk ▸ OneTo.of (told_k false hv hw hq) hg sm_x0 up_x0 (Nat.le_trans (txt_len o5.op hw) (by decide)))
 have HN:=Lib.hid (show ∀ w1 va,Later W w1→RdE w1 va X0→Calls Tryz.prog 15 #[va,.string ⟨#[36,123,120,58,63,125]⟩] w1 fun x W'=>(∃ Av nv cv A na c st fl,x=.returned (.tuple #[.string ⟨#[]⟩,.agg #[.slice Av nv cv,.slice A na c,.int .i64 st,.string fl],.agg #[.int .i64 23,.string (mkS [120])]]))∧Later w1 W' from fun w1 va hl h=>one_not not_n0 h (hg.later hl) sm_x0 up_x0 (by decide))
 have HG:=Lib.hid (show ∀ w1 va,Later W w1→RdE w1 va (X1 w)→Calls Tryz.prog 16 #[va,.string ⟨#[120]⟩] w1 fun x W'=>x=.returned (.tuple #[.string (mkS w),.bool true])∧Later w1 W' from fun w1 va hl h=>get_to h (hg.later hl))
 obtain⟨q1,hq1⟩:∃ q,q=mkS (39::w):=⟨_,rfl⟩
 obtain⟨q2,hq2⟩:∃ q,q=mkS (39::(w++[39])):=⟨_,rfl⟩
 obtain⟨pa,hpa⟩:∃ q,q=mkS (36::123::120::[58,45])++q2:=⟨_,rfl⟩
 obtain⟨pb,hpb⟩:∃ q,q=mkS (36::123::120::[45])++q2:=⟨_,rfl⟩
 obtain⟨pc,hpc⟩:∃ q,q=mkS (36::123::120::[58,61])++q2:=⟨_,rfl⟩
 obtain⟨pd,hpd⟩:∃ q,q=mkS (36::123::120::[58,43])++q2:=⟨_,rfl⟩
 obtain⟨pk,hpk⟩:∃ q,q=mkS (36::123::120::[43])++q2:=⟨_,rfl⟩
 have z0:(mkS w).size≤30:=by rw[mkS_size];exact hw
 have z1:q1.size≤31:=by rw[hq1,mkS_size,List.length_cons];omega
 have z2:q2.size≤32:=by rw[hq2,mkS_size,List.length_cons,List.length_append];simp;omega
 have za:pa.size≤40:=by rw[hpa,ByteArray.size_append,mkS_size];simp;omega
 have zb:pb.size≤40:=by rw[hpb,ByteArray.size_append,mkS_size];simp;omega
 have zc:pc.size≤40:=by rw[hpc,ByteArray.size_append,mkS_size];simp;omega
 have zd:pd.size≤40:=by rw[hpd,ByteArray.size_append,mkS_size];simp;omega
 have zk:pk.size≤40:=by rw[hpk,ByteArray.size_append,mkS_size];simp;omega
 have a1:(⟨#[39]⟩:ByteArray)++mkS w=q1:=by rw[hq1];exact mkS_add [39] w
 have a2:q1++(⟨#[39]⟩:ByteArray)=q2:=by rw[hq1,hq2];exact mkS_add (39::w) [39]
 have aa:(⟨#[36,123,120,58,45]⟩:ByteArray)++q2=pa:=hpa.symm
 have ab:(⟨#[36,123,120,45]⟩:ByteArray)++q2=pb:=hpb.symm
 have ac:(⟨#[36,123,120,58,61]⟩:ByteArray)++q2=pc:=hpc.symm
 have ad:(⟨#[36,123,120,58,43]⟩:ByteArray)++q2=pd:=hpd.symm
 have ak:(⟨#[36,123,120,43]⟩:ByteArray)++q2=pk:=hpk.symm
 have ba:pa++(⟨#[125]⟩:ByteArray)=ra:=by rw[hpa,hq2,hra];exact txt_of _ w
 have bb:pb++(⟨#[125]⟩:ByteArray)=rb:=by rw[hpb,hq2,hrb];exact txt_of _ w
 have bc:pc++(⟨#[125]⟩:ByteArray)=rc:=by rw[hpc,hq2,hrc];exact txt_of _ w
 have bd:pd++(⟨#[125]⟩:ByteArray)=rd:=by rw[hpd,hq2,hrd];exact txt_of _ w
 have bk:pk++(⟨#[125]⟩:ByteArray)=rk:=by rw[hpk,hq2,hrk];exact txt_of _ w
 have RZ:=Lib.hid (fun k=>RdE.zero k)
 obtain⟨m,hm⟩:∃ m,m=w.length:=⟨_,rfl⟩
 have hz:(mkS w).size=m:=by rw[mkS_size,hm]
 obtain⟨mv,hmv⟩:∃ m,m=v.length:=⟨_,rfl⟩
 have hzv:(mkS v).size=mv:=by rw[mkS_size,hmv]
 have hmv30:¬ (30:Int)<(mv:Int):=by omega
 have hm30:¬ (30:Int)<(m:Int):=by omega
 have HM:=Lib.hid hm
 have hww:((mkS w).toList==(mkS w).toList)=true:=beq_self_eq_true _
 have hwn:((mkS w).toList != (mkS w).toList)=false:=by simp
 clear hm hmv hq1 hq2 hpa hpb hpc hpd hpk hra hrb hrc hrd hrk hq hw hv hg o1 o2 o3 o4 o5
 go_enter Tryz.func5,Tryz.ntmps5
 go_wp2_with (go_at_call 9;(with_reducible refine HAW.out.mono ?_);rintro e w1 ⟨rfl,hb1⟩;have L1:=Lib.hid hb1;clear hb1)
 go_loopw [8] (fun k wx=>∃ i:Nat,i≤m∧k=.int .i64 (i:Int)∧wx=w1) (fun k _=>m-(intOf k).toNat)
 case atStart=>exact⟨0,by omega,rfl,by first | rfl | trivial⟩
 case round=>
  obtain⟨i,hi,rfl,hw⟩:=hrel
  subst hw
  by_cases him:i<m
  ·have hil:i<w.length:=by rw[←HM.out];exact him
   have hi0:(0:Int)≤(i:Int):=by omega
   have hi2:(i:Int)<(m:Int):=by omega
   obtain⟨c,hcx⟩:∃ c,c=w[i]:=⟨_,rfl⟩
   have hgx:∀ h,(mkS w)[i]'h=c:=by rw[hcx];intro _;rfl
   have h39:c≠39:=fun e=>HQ.out (by rw[←e,hcx];exact List.getElem_mem hil)
   have hq:((c.toNat:Int)==39)=false:=by
    rw[beq_eq_false_iff_ne]
    intro e
    exact h39 (UInt8.toNat_inj.1 (by have:(39:UInt8).toNat=39:=rfl;omega))
   clear h39 hcx hil
   go_wp2
   go_roundw
   case rel=>exact⟨i+1,by omega,by go_num,by first | rfl | trivial⟩
   case measure=>simp[intOf];omega
  ·have hie:¬ (i:Int)<(m:Int):=by omega
   go_wp2_with (first
    |(go_at_call 15;(with_reducible refine(HA.out _ _ (L1.out.trans (Later.alloc _ _)) (RZ.out _)).mono ?_);rintro e0 k2 ⟨⟨Av2,nv2,cv2,A2,na2,c2,st2,fl2,rfl,hr2⟩,hl2⟩;(have HB1:=Lib.hid (later_cells hl2 (heap_alloc_new _ _)));(have L2:=Lib.hid ((Later.alloc _ _).trans hl2));(have bx:=fun o o'=>later_cells ((Later.refl _).trans ((Later.alloc _ o).trans (Later.alloc _ o'))) HB1.out);have b0:=fun o o'=>(cell_row (bx o o') 0).1;have b1:=fun o o'=>(cell_row (bx o o') 1).1;have b2:=fun o o'=>(cell_row (bx o o') 2).1;have b3:=fun o o'=>(cell_row (bx o o') 3).1;clear bx;clear hl2 hr2)
    |(go_at_call 15;(with_reducible refine(HB.out _ _ (L1.out.trans (L2.out.trans ((Later.alloc _ _).trans (Later.alloc _ _)))) (RZ.out _)).mono ?_);rintro e0 k3 ⟨⟨Av3,nv3,cv3,A3,na3,c3,st3,fl3,rfl,hr3⟩,hl3⟩;(have T2:=Lib.hid (two_boxes hl3));(have L23:=Lib.hid (((Later.alloc _ _).trans (Later.alloc _ _)).trans hl3));(have bx:=fun o o'=>later_cells (L23.out.trans ((Later.alloc _ o).trans (Later.alloc _ o'))) HB1.out);have b0:=fun o o'=>(cell_row (bx o o') 0).1;have b1:=fun o o'=>(cell_row (bx o o') 1).1;have b2:=fun o o'=>(cell_row (bx o o') 2).1;have b3:=fun o o'=>(cell_row (bx o o') 3).1;clear bx;clear hl3 hr3)
    |(go_at_call 15;(with_reducible refine(HC.out _ _ (L1.out.trans (L2.out.trans (L23.out.trans ((Later.alloc _ _).trans (Later.alloc _ _))))) (RZ.out _)).mono ?_);rintro e0 k4 ⟨⟨Av4,nv4,cv4,A4,na4,c4,st4,fl4,rfl,hr4⟩,hl4⟩;(have T3:=Lib.hid (two_boxes hl4));(have L34:=Lib.hid (((Later.alloc _ _).trans (Later.alloc _ _)).trans hl4));(have bx:=fun o o'=>later_cells ((L23.out.trans L34.out).trans ((Later.alloc _ o).trans (Later.alloc _ o'))) HB1.out);have b0:=fun o o'=>(cell_row (bx o o') 0).1;have b1:=fun o o'=>(cell_row (bx o o') 1).1;have b2:=fun o o'=>(cell_row (bx o o') 2).1;have b3:=fun o o'=>(cell_row (bx o o') 3).1;clear bx;(have HR4:=Lib.hid hr4);clear hl4 hr4)
    |(go_at_call 15;(with_reducible refine(HD.out _ _ (L1.out.trans (L2.out.trans (L23.out.trans (L34.out.trans ((Later.alloc _ _).trans (Later.alloc _ _)))))) (RZ.out _)).mono ?_);rintro e0 k5 ⟨⟨Av5,nv5,cv5,A5,na5,c5,st5,fl5,rfl,hr5⟩,hl5⟩;(have T4:=Lib.hid (two_boxes hl5));(have L45:=Lib.hid (((Later.alloc _ _).trans (Later.alloc _ _)).trans hl5));(have bx:=fun o o'=>later_cells ((L23.out.trans (L34.out.trans L45.out)).trans ((Later.alloc _ o).trans (Later.alloc _ o'))) HB1.out);have b0:=fun o o'=>(cell_row (bx o o') 0).1;have b1:=fun o o'=>(cell_row (bx o o') 1).1;have b2:=fun o o'=>(cell_row (bx o o') 2).1;have b3:=fun o o'=>(cell_row (bx o o') 3).1;clear bx;clear hl5 hr5)
    |(go_at_call 15;(with_reducible refine(HK.out _ _ (L1.out.trans (L2.out.trans (L23.out.trans (L34.out.trans (L45.out.trans ((Later.alloc _ _).trans (Later.alloc _ _))))))) (RZ.out _)).mono ?_);rintro e0 k6 ⟨⟨Av6,nv6,cv6,A6,na6,c6,st6,fl6,rfl,hr6⟩,hl6⟩;(have T5:=Lib.hid (two_boxes hl6));(have L56:=Lib.hid (((Later.alloc _ _).trans (Later.alloc _ _)).trans hl6));(have bx:=fun o o'=>later_cells ((L23.out.trans (L34.out.trans (L45.out.trans L56.out))).trans ((Later.alloc _ o).trans (Later.alloc _ o'))) HB1.out);have b0:=fun o o'=>(cell_row (bx o o') 0).1;have b1:=fun o o'=>(cell_row (bx o o') 1).1;have b2:=fun o o'=>(cell_row (bx o o') 2).1;have b3:=fun o o'=>(cell_row (bx o o') 3).1;clear bx;clear hl6 hr6)
    |(go_at_call 15;(with_reducible refine(HN.out _ _ (L1.out.trans (L2.out.trans (L23.out.trans (L34.out.trans (L45.out.trans (L56.out.trans ((Later.alloc _ _).trans (Later.alloc _ _)))))))) (RZ.out _)).mono ?_);rintro e0 k7 ⟨⟨Av7,nv7,cv7,A7,na7,c7,st7,fl7,rfl⟩,hl7⟩;(have T6:=Lib.hid (two_boxes hl7));(have L67:=Lib.hid (((Later.alloc _ _).trans (Later.alloc _ _)).trans hl7));(have hla:=fun o o'=>L67.out.trans ((Later.alloc k7 o).trans (Later.alloc _ o')));(have qa:=fun o o'=>(cell_row (later_cells (L34.out.trans (L45.out.trans (L56.out.trans (hla o o')))) T2.out.2) 0).1);(have qb:=fun o o'=>(cell_row (later_cells (L45.out.trans (L56.out.trans (hla o o'))) T3.out.2) 0).1);(have qe0:=fun o o'=>(cell_row (later_cells (L56.out.trans (hla o o')) T4.out.1) 0).1);(have qe1:=fun o o'=>(cell_row (later_cells (L56.out.trans (hla o o')) T4.out.1) 1).1);(have qe2:=fun o o'=>(cell_row (later_cells (L56.out.trans (hla o o')) T4.out.1) 2).1);(have qe3:=fun o o'=>(cell_row (later_cells (L56.out.trans (hla o o')) T4.out.1) 3).1);(have qc:=fun o o'=>(cell_row (later_cells (L56.out.trans (hla o o')) T4.out.2) 0).1);(have qd:=fun o o'=>(cell_row (later_cells (hla o o') T5.out.2) 0).1);(have qk:=fun o o'=>(cell_row (later_cells ((Later.alloc k7 o).trans (Later.alloc _ o')) T6.out.2) 0).1);clear hl7 hla)
    |(go_at_call 16;(with_reducible refine(HG.out _ _ (L1.out.trans (L2.out.trans (L23.out.trans (L34.out.trans (L45.out.trans (L56.out.trans (L67.out.trans ((Later.alloc _ _).trans (Later.alloc _ _))))))))) (HR4.out.later (L45.out.trans (L56.out.trans (L67.out.trans ((Later.alloc _ _).trans (Later.alloc _ _))))))).mono ?_);rintro e0 k8 ⟨rfl,hl8⟩;(have L78:=Lib.hid (((Later.alloc _ _).trans (Later.alloc _ _)).trans hl8));clear hl8))
   go_ret
   exact⟨rfl,(L1.out.trans (L2.out.trans (L23.out.trans (L34.out.trans (L45.out.trans (L56.out.trans (L67.out.trans L78.out)))))))⟩
end Ex
end Go.Proofs.YtipdgmjplnibeaaGreatDoor
