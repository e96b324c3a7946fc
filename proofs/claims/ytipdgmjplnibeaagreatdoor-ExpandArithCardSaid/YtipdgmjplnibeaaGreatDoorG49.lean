import Derived.Test.YtipdgmjplnibeaaGreatDoorG48
import Derived.Test.YtipdgmjplnibeaaGreatDoorG27
import Derived.Test.YtipdgmjplnibeaaGreatDoorG29
import Derived.Test.YtipdgmjplnibeaaGreatDoorG12
set_option maxRecDepth 100000
set_option maxHeartbeats 12800000
namespace Go.Proofs.YtipdgmjplnibeaaGreatDoor
open Go.RowKit Go.Maps
set_option maxRecDepth 100000
namespace Ey
open Jo (ft fm rows own_ge)
open En (E RdE RdP Vd Rises FrE)
structure Gw (W:World):Prop where
 vd:Vd W
 op:Ops W
 lt:4<W.heap.size
 ta:Ar.Tb0 W
theorem Gw.later {W W':World} (h:Gw W) (hl:Later W W'):Gw W':=⟨h.vd.later hl,h.op.kept (hl.block _ h.lt),Nat.lt_of_lt_of_le h.lt hl.size,h.ta.later hl⟩
theorem rd_shape {W:World} {va:Value} {e:E} (h:RdE W va e):∃ Av nv cv A na c st fl,va=.agg #[.slice Av nv cv,.slice A na c,.int .i64 st,.string fl]:=by
 obtain⟨v0,A,n,c,rfl,hv,_⟩:=h
 obtain⟨Av,cv,rfl,_⟩:=hv.le
 exact⟨_,_,_,_,_,_,_,_,rfl⟩
theorem word_sm {e:E} {raw:B} {r:Rw} {e2:E} (h:word e raw=.ok r e2):r.length≤100000:=by
 unfold word told at h
 split at h
 ·cases h
 ·exact rowD_sm 10 _ _ _ _ h
section
variable {W:World} {va:Value} {e:E} {raw:B}
theorem expanded_ok {r:Rw} {e2:E} (hw:word e raw=.ok r e2) (h:RdE W va e) (hg:Gw W) (hs:Sm e=true) (hu:Rises e.vars) (hr:raw.length≤100000):∀ w,Later W w→Calls Tryz.prog 21 #[va,.string (mkS raw),.func (.func 22) #[] #[]] w fun x W'=>(∃ v,x=.returned (.tuple #[rv r,v,.agg #[.int .i64 0,.string ⟨#[]⟩]])∧FrE w.heap.size W' v e2)∧Later w W':=fun w hl=>by
 have hg':=hg.later hl
 have hc:=expanded_v va e raw w (h.later hl) hs hu hg'.vd hg'.ta hg'.op hg'.lt hr (by rw[hw];nofun)
 rw[hw] at hc
 exact hc.mono fun x w' ⟨⟨v,h1,h2,_⟩,h3⟩=>⟨⟨v,h1,h2⟩,h3⟩
theorem expanded_bad {n:Nat} {t:B} (hw:word e raw=.bad n t) (h:RdE W va e) (hg:Gw W) (hs:Sm e=true) (hu:Rises e.vars) (hr:raw.length≤100000):∀ w,Later W w→Calls Tryz.prog 21 #[va,.string (mkS raw),.func (.func 22) #[] #[]] w fun x W'=>(∃ v,x=.returned (.tuple #[rv [],v,.agg #[.int .i64 (n:Int),.string (mkS t)]])∧FrE w.heap.size W' v e)∧Later w W':=fun w hl=>by
 have hg':=hg.later hl
 have hc:=expanded_v va e raw w (h.later hl) hs hu hg'.vd hg'.ta hg'.op hg'.lt hr (by rw[hw];nofun)
 rw[hw] at hc
 exact hc
theorem one_ok {r:Rw} {e2:E} (hw:word e raw=.ok r e2) (h:RdE W va e) (hg:Gw W) (hs:Sm e=true) (hu:Rises e.vars) (hr:raw.length≤100000):Calls Tryz.prog 15 #[va,.string (mkS raw)] W fun x W'=>(∃ v,x=.returned (.tuple #[.string (mkS (flat r)),v,.agg #[.int .i64 0,.string ⟨#[]⟩]])∧FrE W.heap.size W' v e2)∧Later W W':=
 one_of va raw W r (word_sm hw) 0 ⟨#[]⟩ e2 (rd_shape h) (expanded_ok hw h hg hs hu hr)
theorem one_bad {n:Nat} {t:B} (hw:word e raw=.bad n t) (h:RdE W va e) (hg:Gw W) (hs:Sm e=true) (hu:Rises e.vars) (hr:raw.length≤100000):Calls Tryz.prog 15 #[va,.string (mkS raw)] W fun x W'=>(∃ v,x=.returned (.tuple #[.string ⟨#[]⟩,v,.agg #[.int .i64 (n:Int),.string (mkS t)]])∧FrE W.heap.size W' v e)∧Later W W':=
 one_of va raw W [] (by simp) n (mkS t) e (rd_shape h) (expanded_bad hw h hg hs hu hr)
theorem fields_ok {r:Rw} {e2:E} (hw:word e raw=.ok r e2) (h:RdE W va e) (hg:Gw W) (hs:Sm e=true) (hu:Rises e.vars) (hr:raw.length≤100000):Calls Tryz.prog 12 #[va,.string (mkS raw)] W fun x W'=>(∃ u v,x=.returned (.tuple #[u,v,.agg #[.int .i64 0,.string ⟨#[]⟩]])∧W'.ownsRow W.heap.size 37 2 u (Jo.split (En.ifs e2.vars) r).length (rows (Jo.split (En.ifs e2.vars) r))∧FrE W.heap.size W' v e2)∧Later W W':=
 fields_of va raw W r (word_sm hw) 0 ⟨#[]⟩ e2 (rd_shape h) (expanded_ok hw h hg hs hu hr)
end
def PX (t:B) (q:Bool):P:=.mk 3 t [] q []
theorem parse_x:Wd.parse [36,120]=([PX [120] false],0):=by kernel_rfl
theorem parse_qx:Wd.parse [34,36,120,34]=([PX [120] true],0):=by kernel_rfl
theorem parse_z:Wd.parse [36,122]=([PX [122] false],0):=by kernel_rfl
theorem parse_y:Wd.parse [36,123,121,58,61,49,125,36,121]=([.mk 3 [121] [58,61] false [.mk 1 [49] [] false []],PX [121] false],0):=by kernel_rfl
end Ey
end Go.Proofs.YtipdgmjplnibeaaGreatDoor
namespace Go.Proofs.YtipdgmjplnibeaaGreatDoor
open Go.RowKit Go.Maps
set_option maxRecDepth 100000
namespace Ey
open Jo (ft fm rows own_ge)
open En (E RdE RdP Vd Rises FrE)
def E1:E:=⟨[([120],[97,32,98])],[],0,[]⟩
def E3:E:=⟨[([120],[97,32,98]),([121],[49])],[],0,[]⟩
def E2:E:=⟨[([120],[97,32,98])],[],0,[117]⟩
theorem w1:word E1 [36,120]=.ok [(97,115),(32,115),(98,115)] E1:=by unfold word;rw[parse_x];kernel_rfl
theorem w2:word E1 [34,36,120,34]=.ok [(97,113),(32,113),(98,113)] E1:=by unfold word;rw[parse_qx];kernel_rfl
theorem w3:word E1 [36,123,121,58,61,49,125,36,121]=.ok [(49,115),(49,115)] E3:=by unfold word;rw[parse_y];kernel_rfl
theorem w4:word E2 [36,122]=.bad 23 [122]:=by unfold word;rw[parse_z];kernel_rfl
theorem s1:Jo.split (En.ifs E1.vars) [(97,115),(32,115),(98,115)]=[[(97,115)],[(98,115)]]:=by kernel_rfl
theorem s2:Jo.split (En.ifs E1.vars) [(97,113),(32,113),(98,113)]=[[(97,113),(32,113),(98,113)]]:=by kernel_rfl
theorem z1:En.set Ar.nameB ⟨[],[],0,[]⟩ [120] [97,32,98]=E1:=by kernel_rfl
theorem z2:({ E1 with flags:=En.flag E1.flags 117 true }:E)=E2:=by kernel_rfl
theorem sm1:Sm E1=true:=by kernel_rfl
theorem sm2:Sm E2=true:=by kernel_rfl
theorem up1:Rises E1.vars:=by unfold Rises E1;simp
theorem up2:Rises E2.vars:=by unfold Rises E2;simp
theorem own_first {w:World} {base:Nat} {v:Value} {l:List Rw} {f:Rw} (h:w.ownsRow base 37 2 v (f::l).length (rows (f::l))) (_h:True):∃ b c,v=.slice (some ⟨b,0,none⟩) (f::l).length c∧w.cell? ⟨b,0,none⟩=some (.string (mkS (ft f))):=by
 obtain⟨g,c,e,_,hc⟩:=(Jo.RdR.of_own h).at_ (by simp)
 refine⟨g,c,by rw[e,List.length_map],?_⟩
 have:=(hc 0 (by simp)).1
 simpa [Jo.pr] using this
theorem two_boxes {w k:World} {c d:Array Value} {t u:TypeId} (h:Later ((w.alloc (.cells c t)).alloc (.cells d u)) k):k.heap[w.heap.size]?=some (.cells c t (0,0))∧k.heap[w.heap.size+1]?=some (.cells d u (0,0)):=by
 have h1:=heap_alloc_new w (.cells c t)
 have h2:=heap_alloc_new (w.alloc (.cells c t)) (.cells d u)
 rw[World.size_alloc] at h2
 exact⟨later_cells h (later_cells (Later.alloc _ _) h1),later_cells h h2⟩
theorem cell_keeps' {w w':World} {a:Addr} {v:Value} (hl:Later w w') (h:w.cell? a=some v):w'.cell? a=some v:=by
 have:=World.block_lt_of_cell? w _ h
 rw[←h]
 unfold World.cell?
 rw[hl.block _ this]
theorem set0 (w:World):Calls Tryz.prog 14 #[.agg #[.slice none 0 0,.slice none 0 0,.int .i64 0,.string ⟨#[]⟩],.string ⟨#[120]⟩,.string ⟨#[97,32,98]⟩] w fun x W'=>En.Told w W' x E1:=by
 have h:=En.set_v (.agg #[.slice none 0 0,.slice none 0 0,.int .i64 0,.string ⟨#[]⟩]) ⟨[],[],0,[]⟩ [120] [97,32,98] w (RdE.zero w) Rises.nil (by decide) (by decide) (by decide)
 rw[show En.set En.nm ⟨[],[],0,[]⟩ [120] [97,32,98]=E1 from z1] at h
 exact h
theorem awake_v (W:World) (hg:Gw W):Calls Tryz.prog 9 #[] W fun x W'=>x=.returned (.bool true)∧Later W W':=by
 have HG:=Lib.hid hg
 have HS:=Lib.hid (fun w=>set0 w)
 have HF1:=Lib.hid (show ∀ w va,Later W w→RdE w va E1→Calls Tryz.prog 12 #[va,.string ⟨#[36,120]⟩] w fun x W'=>(∃ A c v,x=.returned (.tuple #[.slice A 2 c,v,.agg #[.int .i64 0,.string ⟨#[]⟩]])∧RdE W' v E1)∧Later w W' from fun w va hl h=>by
  refine(fields_ok w1 h (hg.later hl) sm1 up1 (by decide)).mono ?_
  rintro x w' ⟨⟨u,v,rfl,ho,hf⟩,hl'⟩
  rw[s1] at ho
  obtain⟨A,c,rfl,_⟩:=own_any ho
  exact⟨⟨A,c,v,rfl,hf.rd⟩,hl'⟩)
 have HF2:=Lib.hid (show ∀ w va,Later W w→RdE w va E1→Calls Tryz.prog 12 #[va,.string ⟨#[34,36,120,34]⟩] w fun x W'=>(∃ b c v,x=.returned (.tuple #[.slice (some ⟨b,0,none⟩) 1 c,v,.agg #[.int .i64 0,.string ⟨#[]⟩]])∧(∀ w'',Later W' w''→w''.cell? ⟨b,0,none⟩=some (.string ⟨#[97,32,98]⟩))∧RdE W' v E1)∧Later w W' from fun w va hl h=>by
  refine(fields_ok w2 h (hg.later hl) sm1 up1 (by decide)).mono ?_
  rintro x w' ⟨⟨u,v,rfl,ho,hf⟩,hl'⟩
  rw[s2] at ho
  obtain⟨b,c,rfl,hc⟩:=own_first ho (by simp)
  exact⟨⟨b,c,v,rfl,fun w'' hl''=>(cell_keeps' hl'' hc),hf.rd⟩,hl'⟩)
 have HO1:=Lib.hid (show ∀ w va,Later W w→RdE w va E1→Calls Tryz.prog 15 #[va,.string ⟨#[36,123,121,58,61,49,125,36,121]⟩] w fun x W'=>(∃ A c B n k,x=.returned (.tuple #[.string ⟨#[49,49]⟩,.agg #[.slice A 2 c,.slice B n k,.int .i64 0,.string ⟨#[]⟩],.agg #[.int .i64 0,.string ⟨#[]⟩]]))∧Later w W' from fun w va hl h=>by
  refine(one_ok w3 h (hg.later hl) sm1 up1 (by decide)).mono ?_
  rintro x w' ⟨⟨v,rfl,hf⟩,hl'⟩
  obtain⟨va',A,n,c,rfl,hp,_⟩:=hf.rd
  obtain⟨A1,c1,rfl,_⟩:=hp.le
  exact⟨⟨A1,c1,A,n,c,rfl⟩,hl'⟩)
 have HFL:=Lib.hid (show ∀ w va,Later W w→RdE w va E1→Calls Tryz.prog 20 #[va,.int .u8 117,.bool true] w fun x W'=>(∃ v,x=.returned v∧RdE W' v E2)∧Later w W' from fun w va hl h=>by
  refine(En.flag_v va E1 117 true w h (by decide) (by decide)).mono ?_
  rintro x w' ⟨⟨v,rfl,hf⟩,hl'⟩
  exact⟨⟨v,rfl,hf.rd⟩,hl'⟩)
 have HO2:=Lib.hid (show ∀ w va,Later W w→RdE w va E2→Calls Tryz.prog 15 #[va,.string ⟨#[36,122]⟩] w fun x W'=>(∃ A a c B n k,x=.returned (.tuple #[.string ⟨#[]⟩,.agg #[.slice A a c,.slice B n k,.int .i64 0,.string ⟨#[117]⟩],.agg #[.int .i64 23,.string ⟨#[122]⟩]]))∧Later w W' from fun w va hl h=>by
  refine(one_bad w4 h (hg.later hl) sm2 up2 (by decide)).mono ?_
  rintro x w' ⟨⟨v,rfl,hf⟩,hl'⟩
  obtain⟨va',A,n,c,rfl,hp,_⟩:=hf.rd
  obtain⟨A1,c1,rfl,_⟩:=hp.le
  exact⟨⟨A1,_,c1,A,n,c,rfl⟩,hl'⟩)
 clear hg
 go_enter Tryz.func9,Tryz.ntmps9
 go_wp2_with (first
  |(go_at_call 14;(with_reducible refine(HS.out _).mono ?_);rintro e0 k1 ⟨⟨x1,rfl,hf1⟩,hk1⟩;obtain⟨va1,A1,n1,c1,rfl,hp1,_⟩:=hf1.rd;obtain⟨Av1,cv1,rfl,_⟩:=hp1.le;have R1:=Lib.hid hf1.rd;have L1:=Lib.hid hk1;clear hf1 hk1 hp1)
  |(go_at_call 12;(with_reducible refine(HF1.out _ _ (L1.out.trans (Later.alloc _ _)) (R1.out.later (Later.alloc _ _))).mono ?_);rintro e0 k2 ⟨⟨A2,c2,v2,rfl,hr2⟩,hl2⟩;(have HB1:=Lib.hid (later_cells hl2 (heap_alloc_new _ _)));obtain⟨Av2,nv2,cv2,A2',na2,c2',st2,fl2,rfl⟩:=rd_shape hr2;(have L2:=Lib.hid ((Later.alloc _ _).trans hl2));(have bx:=fun o o'=>later_cells ((Later.refl _).trans ((Later.alloc _ o).trans (Later.alloc _ o'))) HB1.out);have b0:=fun o o'=>(cell_row (bx o o') 0).1;have b1:=fun o o'=>(cell_row (bx o o') 1).1;have b2:=fun o o'=>(cell_row (bx o o') 2).1;have b3:=fun o o'=>(cell_row (bx o o') 3).1;clear bx;clear hr2 hl2)
  |(go_at_call 12;(with_reducible refine(HF2.out _ _ (L1.out.trans (L2.out.trans ((Later.alloc _ _).trans (Later.alloc _ _)))) (R1.out.later (L2.out.trans ((Later.alloc _ _).trans (Later.alloc _ _))))).mono ?_);rintro e0 k3 ⟨⟨g3,c3,v3,rfl,hm3,hr3⟩,hl3⟩;(have T2:=Lib.hid (two_boxes hl3));obtain⟨Av3,nv3,cv3,A3,na3,c3',st3,fl3,rfl⟩:=rd_shape hr3;(have L23:=Lib.hid (((Later.alloc _ _).trans (Later.alloc _ _)).trans hl3));(have HM3:=Lib.hid hm3);(have bx:=fun o o'=>later_cells (L23.out.trans ((Later.alloc _ o).trans (Later.alloc _ o'))) HB1.out);have b0:=fun o o'=>(cell_row (bx o o') 0).1;have b1:=fun o o'=>(cell_row (bx o o') 1).1;have b2:=fun o o'=>(cell_row (bx o o') 2).1;have b3:=fun o o'=>(cell_row (bx o o') 3).1;clear bx;clear hr3 hl3 hm3)
  |(go_at_call 15;(with_reducible refine(HO1.out _ _ (L1.out.trans (L2.out.trans (L23.out.trans ((Later.alloc _ _).trans (Later.alloc _ _))))) (R1.out.later (L2.out.trans (L23.out.trans ((Later.alloc _ _).trans (Later.alloc _ _)))))).mono ?_);rintro e0 k4 ⟨⟨A4,c4,B4,n4,m4,rfl⟩,hl4⟩;(have T3:=Lib.hid (two_boxes hl4));(have L34:=Lib.hid (((Later.alloc _ _).trans (Later.alloc _ _)).trans hl4));(have bx:=fun o o'=>later_cells ((L23.out.trans L34.out).trans ((Later.alloc _ o).trans (Later.alloc _ o'))) HB1.out);have b0:=fun o o'=>(cell_row (bx o o') 0).1;have b1:=fun o o'=>(cell_row (bx o o') 1).1;have b2:=fun o o'=>(cell_row (bx o o') 2).1;have b3:=fun o o'=>(cell_row (bx o o') 3).1;clear bx;clear hl4)
  |(go_at_call 20;(with_reducible refine(HFL.out _ _ (L1.out.trans (L2.out.trans (L23.out.trans (L34.out.trans ((Later.alloc _ _).trans (Later.alloc _ _)))))) (R1.out.later (L2.out.trans (L23.out.trans (L34.out.trans ((Later.alloc _ _).trans (Later.alloc _ _))))))).mono ?_);rintro e0 k5 ⟨⟨v5,rfl,hr5⟩,hl5⟩;(have T4:=Lib.hid (two_boxes hl5));(have L45:=Lib.hid (((Later.alloc _ _).trans (Later.alloc _ _)).trans hl5));(have R5:=Lib.hid hr5);clear hl5 hr5)
  |(go_at_call 15;(with_reducible refine(HO2.out _ _ (L1.out.trans (L2.out.trans (L23.out.trans (L34.out.trans L45.out)))) R5.out).mono ?_);rintro e0 k6 ⟨⟨A6,a6,c6,B6,n6,m6,rfl⟩,hl6⟩;(have L56:=Lib.hid hl6);(have hla:=fun o o'=>hl6.trans ((Later.alloc k6 o).trans (Later.alloc _ o')));(have q4:=fun o o'=>(cell_row (later_cells (L34.out.trans (L45.out.trans (hla o o'))) T2.out.2) 0).1);(have q7:=fun o o'=>(cell_row (later_cells (L45.out.trans (hla o o')) T3.out.2) 0).1);(have q9:=fun o o'=>(cell_row (later_cells (hla o o') T4.out.1) 0).1);(have q10:=fun o o'=>(cell_row (later_cells (hla o o') T4.out.2) 0).1);(have qm:=fun o o'=>HM3.out _ (L34.out.trans (L45.out.trans (hla o o'))));clear hl6 hla))
 go_ret
 exact⟨rfl,L1.out.trans (L2.out.trans (L23.out.trans (L34.out.trans (L45.out.trans (L56.out.trans ((Later.alloc _ _).trans (Later.alloc _ _)))))))⟩
end Ey
end Go.Proofs.YtipdgmjplnibeaaGreatDoor
namespace Go.Proofs.YtipdgmjplnibeaaGreatDoor
open Go.RowKit Go.Maps
set_option maxRecDepth 100000
namespace Ar
def decL (n:Nat):L:=if n<10 then [UInt8.ofNat (48+n)] else decL (n / 10)++[UInt8.ofNat (48+n % 10)]
theorem dec_small {n:Nat} (h:n<10):decL n=[UInt8.ofNat (48+n)]:=by rw[decL,if_pos h]
theorem dec_big {n:Nat} (h:¬ n<10):decL n=decL (n / 10)++[UInt8.ofNat (48+n % 10)]:=by rw[decL,if_neg h]
def numT (x:Int):L:=if x<0 then 45::decL (-x).toNat else decL x.toNat
theorem byte_of (n:Nat) (h:n<10):((UInt8.ofNat (48+n)).toNat:Int)=48+(n:Int):=by
 have:(UInt8.ofNat (48+n)).toNat=(48+n) % 256:=rfl
 rw[this]
 omega
abbrev NumOk (x:Int) (t:L):Prop:=∀ W,Calls Tryz.prog 18 #[.int .i64 x] W fun e W'=>e=.returned (.string (mkS t))∧Later W W'
theorem digit_is:∀ d:Fin 10,isD 10 (UInt8.ofNat (48+d.1))=true∧dv (UInt8.ofNat (48+d.1))=d.1∧nm (UInt8.ofNat (48+d.1))=true∧blank (UInt8.ofNat (48+d.1))=false:=by decide
theorem dec_ind {p:Nat→L→Prop} (h0:∀ n,n<10→p n [UInt8.ofNat (48+n)]) (h1:∀ n,¬ n<10→p (n / 10) (decL (n / 10))→p n (decL (n / 10)++[UInt8.ofNat (48+n % 10)])):∀ n,p n (decL n):=by
 intro n
 induction n using Nat.strongRecOn with
 | ind n ih=>
  by_cases h:n<10
  ·rw[dec_small h];exact h0 n h
  ·rw[dec_big h];exact h1 n h (ih (n / 10) (by omega))
theorem dec_all {q:UInt8→Bool} (hq:∀ d:Fin 10,q (UInt8.ofNat (48+d.1))=true) (n:Nat):(decL n).all q=true:=
 dec_ind (p:=fun _ l=>l.all q=true) (fun n h=>by rw[List.all_cons,show q (UInt8.ofNat (48+n))=true from hq ⟨n,h⟩];rfl) (fun n _ ih=>by rw[List.all_append,ih,List.all_cons,show q (UInt8.ofNat (48+n % 10))=true from hq ⟨n % 10,Nat.mod_lt _ (by omega)⟩];rfl) n
theorem dec_val (n:Nat):val 10 (decL n)=n:=
 dec_ind (p:=fun n l=>val 10 l=n) (fun n h=>by unfold val;simp only[List.foldl_cons,List.foldl_nil];rw[(digit_is ⟨n,h⟩).2.1];simp) (fun n _ ih=>by rw[val_snoc,ih,(digit_is ⟨n % 10,Nat.mod_lt _ (by omega)⟩).2.1];dsimp only;omega) n
theorem dec_head (n:Nat):∃ c r,decL n=c::r∧48≤c.toNat∧c.toNat≤57∧(1≤n→49≤c.toNat):=
 dec_ind (p:=fun n l=>∃ c r,l=c::r∧48≤c.toNat∧c.toNat≤57∧(1≤n→49≤c.toNat)) (fun n h=>by
  have:=byte_of n h
  exact⟨_,_,rfl,by omega,by omega,fun _=>by omega⟩) (fun n h ih=>by
  obtain⟨c,r,e,h1,h2,h3⟩:=ih
  exact⟨c,r++[_],by rw[e];rfl,h1,h2,fun _=>h3 (by omega)⟩) n
theorem num_dec (a:Nat) (ha:a<9223372036854775808):num (decL a)=some a:=by
 by_cases h0:a=0
 ·subst h0
  rw[dec_small (by omega)]
  decide
 ·obtain⟨c,r,e,h1,h2,h3⟩:=dec_head a
  have h3:=h3 (by omega)
  have hc:(48:UInt8)≠c:=fun e=>by rw[←e] at h3;exact absurd h3 (by decide)
  have p0:∀ u,Lib.hasPrefix (decL a) (48::u)=false:=fun u=>by
   rw[e]
   unfold Lib.hasPrefix
   rw[List.isPrefixOf_cons_cons,show ((48:UInt8)==c)=false from beq_eq_false_iff_ne.2 hc]
   rfl
  unfold num
  rw[p0,p0,p0]
  simp only[Bool.or_false,Bool.false_eq_true,if_false]
  rw[if_pos ⟨by rw[e];simp,dec_all (fun d=>(digit_is d).1) a,by rw[dec_val];exact ha⟩,dec_val]
theorem trim_pad (p l q:L) (hp:p.all blank=true) (hq:q.all blank=true) (hl:l.all (fun c=>!blank c)=true) (h0:l≠[]):trim (p++l++q)=l:=by
 have hall:=List.all_eq_true.1 hl
 have e:trim (p++l++q)=(((p++l++q).reverse.dropWhile blank).reverse).dropWhile blank:=rfl
 rw[e,List.reverse_append,List.reverse_append]
 have h1:(q.reverse++(l.reverse++p.reverse)).dropWhile blank=l.reverse++p.reverse:=by
  rw[List.dropWhile_append_of_pos (fun a ha=>List.all_eq_true.1 hq a (List.mem_reverse.1 ha))]
  cases hr:l.reverse with
  | nil=>rw[List.reverse_eq_nil_iff] at hr;exact absurd hr h0
  | cons c r=>
   have hc:blank c=false:=by
    have:=hall c (by rw[←List.mem_reverse,hr];simp)
    simpa using this
   rw[List.cons_append,List.dropWhile_cons,hc]
   rfl
 rw[h1,List.reverse_append,List.reverse_reverse,List.reverse_reverse]
 rw[List.dropWhile_append_of_pos (fun a ha=>List.all_eq_true.1 hp a ha)]
 cases l with
 | nil=>exact absurd rfl h0
 | cons c r=>
  have hc:blank c=false:=by simpa using hall c (by simp)
  rw[List.dropWhile_cons,hc]
  rfl
theorem numT_plain (x:Int):(numT x).all (fun c=>!blank c)=true∧numT x≠[]:=by
 have hd:∀ n,(decL n).all (fun c=>!blank c)=true:=fun n=>dec_all (fun d=>by rw[(digit_is d).2.2.2];rfl) n
 unfold numT
 split
 ·exact⟨by rw[List.all_cons,hd];decide,by simp⟩
 ·obtain⟨c,r,e,_⟩:=dec_head x.toNat
  exact⟨hd _,by rw[e];simp⟩
theorem numV_numT (x:Int) (h0:-9223372036854775808<x) (h1:x<9223372036854775808) (p q:L) (hp:p.all blank=true) (hq:q.all blank=true):numV (p++numT x++q)=some x:=by
 have ht:=trim_pad p (numT x) q hp hq (numT_plain x).1 (numT_plain x).2
 unfold numV
 rw[ht]
 dsimp only
 rw[if_neg (numT_plain x).2]
 unfold numT
 by_cases hx:x<0
 ·rw[if_pos hx]
  have hpre:Lib.hasPrefix (45::decL (-x).toNat) [45]=true:=rfl
  rw[if_pos hpre]
  have htr:Lib.trimPrefix (45::decL (-x).toNat) [45]=decL (-x).toNat:=by unfold Lib.trimPrefix;rw[if_pos hpre];rfl
  rw[htr,num_dec _ (by omega)]
  simp only[Option.map_some]
  rw[w64 _ (by omega)]
  congr 1
  omega
 ·rw[if_neg hx]
  obtain⟨c,r,e,h2,h3,_⟩:=dec_head x.toNat
  have hn:∀ k:UInt8,k.toNat<48→Lib.hasPrefix (decL x.toNat) [k]=false:=fun k hk=>by
   rw[e]
   unfold Lib.hasPrefix
   rw[List.isPrefixOf_cons_cons,show (k==c)=false from beq_eq_false_iff_ne.2 (fun e=>by rw[e] at hk;omega)]
   rfl
  rw[hn 45 (by decide)]
  simp only[Bool.false_eq_true,if_false]
  have htr:Lib.trimPrefix (decL x.toNat) [43]=decL x.toNat:=by unfold Lib.trimPrefix;rw[hn 43 (by decide)];rfl
  rw[htr,num_dec _ (by omega)]
  simp only[Option.map_some]
  congr 1
  omega
theorem numV_own (x:Int) (h0:-9223372036854775808<x) (h1:x<9223372036854775808):numV (numT x)=some x:=by
 have:=numV_numT x h0 h1 [] [] rfl rfl
 rwa[List.nil_append,List.append_nil] at this
theorem number_pos (a:Nat) (x:Int) (h:x=(a:Int)) (h10:10≤a) (ha:a<9223372036854775808) (tq:L) (htq:tq.length≤100) (hn:NumOk ((a / 10:Nat):Int) tq):NumOk x (tq++[UInt8.ofNat (48+a % 10)]):=by
 intro W
 obtain⟨q,hq⟩:∃ q:Int,q=((a / 10:Nat):Int):=⟨_,rfl⟩
 obtain⟨r,hr⟩:∃ r:Int,r=((a % 10:Nat):Int):=⟨_,rfl⟩
 obtain⟨d,hd⟩:∃ d:Int,d=48+((a % 10:Nat):Int):=⟨_,rfl⟩
 obtain⟨c,hc⟩:∃ c,c=UInt8.ofNat (48+a % 10):=⟨_,rfl⟩
 rw[←hc]
 rw[←hq] at hn
 have HCS:=Lib.hid (show ¬ 9223372036854775807<(mkS tq).size+(mkS [c]).size by rw[mkS_size,mkS_size];simp;omega)
 clear htq
 have HN:=Lib.hid hn
 have hxt:x.tdiv 10=q:=by rw[h,hq];rfl
 have hxm:x.tmod 10=r:=by rw[h,hr];rfl
 have HQ:=Lib.hid (show IntKind.i64.wrap (x.tdiv 10)=q by rw[hxt,IntWalk.i64_left];exact w64 _ (by omega))
 have HR:=Lib.hid hxm
 have HD:=Lib.hid (show IntKind.i64.wrap (48+r)=d by rw[IntWalk.i64_left,w64 _ (by omega)];omega)
 have HC:=Lib.hid (show d % 256=(c.toNat:Int) by rw[hc,byte_of _ (by omega),hd];omega)
 have hx10:10≤x:=by omega
 have hxz:¬ x=-9223372036854775808:=by omega
 have hxe:(x==-9223372036854775808)=false:=by rw[beq_eq_false_iff_ne];omega
 have hxn:¬ x<0:=by omega
 have hx0:x<9223372036854775808:=by omega
 have hr0:0≤r:=by omega
 have hr1:r≤9:=by omega
 have hd0:48≤d:=by omega
 have hd1:d≤57:=by omega
 clear h hq hr hd hc hn hxt hxm ha h10
 go_enter Tryz.func18,Tryz.ntmps18
 go_wp2_with (fail)
 refine wp_region_owes (by kernel_rfl) (fun w=>Later W w) (Later) (Later.refl) [Sp.val (.int .i64 x),Sp.val (.int .i64 q),Sp.val (.string (mkS tq)),Sp.val (.int .i64 x),Sp.val (.int .i64 r),Sp.val (.int .i64 d),Sp.val (.int .u8 (c.toNat:Int)),spBytes 1 [c],Sp.val (.string (mkS [c])),Sp.val (.string (mkS (tq++[c]))),Sp.val (.string (mkS (tq++[c])))] (by kernel_rfl) (Later.drew W) ?_ ?_
 ·refine⟨?_,?_,?_,?_,?_,?_,?_,?_,?_,?_,?_,trivial⟩
  ·
   refine fun a w hC hs=>.inl ⟨?_,?_⟩
   ·rfl
   have e0:a.tmps.getD 0 undef=.int .i64 x:=hs.free 0 rfl
   exact⟨e0,hC,Later.refl _⟩
  ·
   refine fun a w hC hs=>.inl ⟨?_,?_⟩
   ·rfl
   have e13:a.tmps.getD 13 undef=.int .i64 x:=hs.dep 0 _ rfl rfl
   refine ValWp.pure (v:=.int .i64 q) (fun K' hK'=>?_) ⟨rfl,hC,Later.refl _⟩
   rw[←HQ.out] at hK'
   simp only[ValWp,execOp,Act.eval,e13]
   go_simp
   all_goals exact hK'
  ·
   refine fun a w hC hs=>.inl ⟨?_,?_⟩
   ·rfl
   have e14:a.tmps.getD 14 undef=.int .i64 q:=hs.dep 1 _ rfl rfl
   refine ValWp.call #[.int .i64 q] rfl rfl Tryz.func18 rfl rfl (by simp only[List.map_toArray,List.map_cons,List.map_nil,Act.eval,e14]) ?_
   refine(HN.out w).mono ?_
   rintro e w' ⟨rfl,hl⟩
   exact⟨_,rfl,rfl,hC.trans hl,hl⟩
  ·
   refine fun a w hC hs=>.inl ⟨?_,?_⟩
   ·rfl
   have e0:a.tmps.getD 0 undef=.int .i64 x:=hs.free 0 rfl
   exact⟨e0,hC,Later.refl _⟩
  ·
   refine fun a w hC hs=>.inl ⟨?_,?_⟩
   ·rfl
   have e16:a.tmps.getD 16 undef=.int .i64 x:=hs.dep 3 _ rfl rfl
   refine ValWp.pure (v:=.int .i64 r) (fun K' hK'=>?_) ⟨rfl,hC,Later.refl _⟩
   rw[←HR.out] at hK'
   simp only[ValWp,execOp,Act.eval,e16]
   go_simp
   all_goals exact hK'
  ·
   refine fun a w hC hs=>.inl ⟨?_,?_⟩
   ·rfl
   have e17:a.tmps.getD 17 undef=.int .i64 r:=hs.dep 4 _ rfl rfl
   refine ValWp.pure (v:=.int .i64 d) (fun K' hK'=>?_) ⟨rfl,hC,Later.refl _⟩
   rw[←HD.out] at hK'
   simp only[ValWp,execOp,Act.eval,e17]
   go_simp
   all_goals exact hK'
  ·
   refine fun a w hC hs=>.inl ⟨?_,?_⟩
   ·rfl
   have e18:a.tmps.getD 18 undef=.int .i64 d:=hs.dep 5 _ rfl rfl
   refine ValWp.pure (v:=.int .u8 (c.toNat:Int)) (fun K' hK'=>?_) ⟨rfl,hC,Later.refl _⟩
   rw[←HC.out] at hK'
   simp only[ValWp,execOp,Act.eval,e18]
   go_simp
   all_goals exact hK'
  ·
   refine fun a w hC hs=>.inl ⟨?_,?_⟩
   ·rfl
   have e19:a.tmps.getD 19 undef=.int .u8 (c.toNat:Int):=hs.dep 6 _ rfl rfl
   refine ValWp.pure (v:=.slice (some ⟨w.heap.size,0,none⟩) 1 1) (w':=w.alloc (.cells #[.int .u8 (c.toNat:Int)] 5)) (fun K' hK'=>?_) ⟨⟨_,_,rfl,by rw[World.size_alloc];exact Rd.lit w 5 [bv c]⟩,Later.trans hC (Later.alloc _ _),Later.alloc _ _⟩
   simp only[ValWp,execOp,Act.eval,List.map_toArray,List.map_cons,List.map_nil,e19]
   go_simp
   all_goals exact hK'
  ·
   refine fun a w hC hs=>.inl ⟨?_,?_⟩
   ·rfl
   obtain⟨A20,c20,e20,h20⟩:=hs.dep 7 _ rfl rfl
   change a.tmps.getD 20 undef=_ at e20
   have hcv:=run_str_of (P:=Tryz.prog) h20 81 9 5 Tryz.underlying81 Tryz.underlying5 Tryz.underlying9 c20
   refine ValWp.pure (v:=.string (mkS [c])) (fun K' hK'=>?_) ⟨rfl,hC,Later.refl _⟩
   simp only[ValWp,execOp,Act.eval,e20]
   go_simp
   all_goals exact hK'
  ·
   refine fun a w hC hs=>.inl ⟨?_,?_⟩
   ·rfl
   have e15:a.tmps.getD 15 undef=.string (mkS tq):=hs.dep 2 _ rfl rfl
   have e21:a.tmps.getD 21 undef=.string (mkS [c]):=hs.dep 8 _ rfl rfl
   refine ValWp.pure (v:=.string (mkS (tq++[c]))) (fun K' hK'=>?_) ⟨rfl,hC,Later.refl _⟩
   rw[←mkS_add] at hK'
   have hcs:=HCS.out
   simp only[ValWp,execOp,Act.eval,e15,e21]
   go_simp
   all_goals exact hK'
  ·
   refine fun a w hC hs=>.inl ⟨?_,?_⟩
   ·rfl
   have e22:a.tmps.getD 22 undef=.string (mkS (tq++[c])):=hs.dep 9 _ rfl rfl
   exact⟨e22,hC,Later.refl _⟩
 ·intro a W hC hd hsz hfree hs
  obtain⟨u0,u1,z2,u3,u4,u5,u6,u7,u8,u9,u10,u11,u12,u13,u14,u15,u16,u17,u18,u19,u20,u21,u22,u23,u24,u25,u26,u27,hal⟩:=lets a 28 0
  obtain rfl:=hal.on (v:=.string (mkS (tq++[c]))) 2 (hs 10 _ rfl) rfl
  have hlit:=fun h=>act_lit hd h hal
  rw[hlit hsz]
  clear hlit hal hd hsz hfree hs
  go_wp2
  go_ret
  exact⟨rfl,hC⟩
theorem dec_len:∀ (k n:Nat),n<10 ^ (k+1)→(decL n).length≤k+1∧decL n≠[]
 | 0,n,h=>by rw[dec_small (by omega)];simp
 | k+1,n,h=>by
  by_cases h10:n<10
  ·rw[dec_small h10];simp
  ·rw[dec_big h10]
   have:=dec_len k (n / 10) (by rw[Nat.pow_succ] at h;omega)
   simp
   omega
theorem number_one (a:Nat) (h10:a<10):NumOk (a:Int) [UInt8.ofNat (48+a)]:=by
 obtain⟨c,hc⟩:∃ c,c=UInt8.ofNat (48+a):=⟨_,rfl⟩
 have hcn:=byte_of a h10
 rw[←hc] at hcn⊢
 intro W
 ·obtain⟨x,hx⟩:∃ x:Int,x=(a:Int):=⟨_,rfl⟩
  rw[←hx] at hcn⊢
  have g1:¬ x=-9223372036854775808:=by omega
  have g0:(x==-9223372036854775808)=false:=by rw[beq_eq_false_iff_ne];omega
  have g2:¬ x<0:=by omega
  have g3:¬ 10≤x:=by omega
  have g4:x≤9:=by omega
  have g5:0≤x:=by omega
  obtain⟨d,hd⟩:∃ d:Int,d=(c.toNat:Int):=⟨_,rfl⟩
  have hdx:d=48+x:=by omega
  have HST:=Lib.hid (show ∀ w:World,(convert 81 9 (.slice (some ⟨w.heap.size,0,none⟩) 1 1)).run Tryz.prog (w.alloc (.cells #[.int .u8 (48+x)] 5))=.ok (.string (mkS [c])) (w.alloc (.cells #[.int .u8 (48+x)] 5)) from fun w=>by
   rw[←hdx,hd]
   exact run_str_of (P:=Tryz.prog) (Rd.lit w 5 [bv c]) 81 9 5 Tryz.underlying81 Tryz.underlying5 Tryz.underlying9 1)
  clear hx hc hcn hd hdx h10
  have hst:=HST.out
  go_enter Tryz.func18,Tryz.ntmps18
  go_wp2
  go_ret
  exact⟨rfl,Later.alloc _ _⟩
theorem number_neg (a:Nat) (h1:1≤a) (ha:a<9223372036854775808) (t:L) (ht:t.length≤100) (hn:NumOk (a:Int) t):NumOk (-(a:Int)) (45::t):=by
 intro W
 obtain⟨x,hx⟩:∃ x:Int,x=-(a:Int):=⟨_,rfl⟩
 obtain⟨y,hy⟩:∃ y:Int,y=(a:Int):=⟨_,rfl⟩
 rw[←hx]
 rw[←hy] at hn
 have HN:=Lib.hid hn
 have hw:IntKind.i64.wrap (-x)=y:=by rw[IntKind.wrap_i64];omega
 have hw2:wrap64 (-x)=y:=by unfold wrap64;omega
 have g1:¬ x=-9223372036854775808:=by omega
 have g0:(x==-9223372036854775808)=false:=by rw[beq_eq_false_iff_ne];omega
 have g2:x<0:=by omega
 have hcat:(⟨#[45]⟩:ByteArray)++mkS t=mkS (45::t):=mkS_add [45] t
 have hz:¬ 9223372036854775807<1+(mkS t).size:=by rw[mkS_size];omega
 clear hx hy hn ha h1 ht
 go_enter Tryz.func18,Tryz.ntmps18
 go_wp2_with (go_at_call 18;(with_reducible refine(HN.out _).mono ?_);rintro e w1 ⟨rfl,hl1⟩;(have HL1:=Lib.hid hl1);clear hl1)
 go_ret
 exact⟨rfl,HL1.out⟩
theorem number_all (a:Nat) (ha:a<9223372036854775808):NumOk (a:Int) (decL a):=by
 induction a using Nat.strongRecOn with
 | ind a ih=>
  by_cases h10:a<10
  ·rw[dec_small h10]
   exact number_one a h10
  ·rw[dec_big h10]
   have hd:=ih (a / 10) (by omega) (by omega)
   have hl:=(dec_len 30 (a / 10) (Nat.lt_of_lt_of_le (show a / 10<9223372036854775808 by omega) (by decide))).1
   exact number_pos a _ rfl (by omega) ha _ (by omega) hd
theorem numT_ok (x:Int) (h0:-9223372036854775808<x) (h1:x<9223372036854775808):NumOk x (numT x)∧(numT x).length≤40:=by
 unfold numT
 split
 ·next h=>
  obtain⟨a,ha⟩:∃ a,a=(-x).toNat:=⟨_,rfl⟩
  have hx:x=-(a:Int):=by omega
  rw[←ha,hx]
  have hl:=(dec_len 30 a (Nat.lt_of_lt_of_le (show a<9223372036854775808 by omega) (by decide))).1
  exact⟨number_neg a (by omega) (by omega) _ (by omega) (number_all a (by omega)),by simp;omega⟩
 ·next h=>
  obtain⟨a,ha⟩:∃ a,a=x.toNat:=⟨_,rfl⟩
  have hx:x=(a:Int):=by omega
  rw[←ha,hx]
  have hl:=(dec_len 30 a (Nat.lt_of_lt_of_le (show a<9223372036854775808 by omega) (by decide))).1
  exact⟨number_all a (by omega),by omega⟩
end Ar
end Go.Proofs.YtipdgmjplnibeaaGreatDoor
