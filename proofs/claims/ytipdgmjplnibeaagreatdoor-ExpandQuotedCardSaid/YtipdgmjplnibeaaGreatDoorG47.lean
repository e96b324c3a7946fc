import Derived.Test.YtipdgmjplnibeaaGreatDoorXv
import Derived.Test.YtipdgmjplnibeaaGreatDoorG23
import Derived.Test.YtipdgmjplnibeaaGreatDoorWzb
set_option maxRecDepth 100000
set_option maxHeartbeats 12800000
namespace Go.Proofs.YtipdgmjplnibeaaGreatDoor
open Go.RowKit Go.Maps
set_option maxRecDepth 100000
namespace Ex
open Jo (ft fm rows own_ge)
open En (E RdE RdP Vd Rises FrE)
structure Gw (W:World):Prop where
 vd:Vd W
 op:Ops W
 lt:4<W.heap.size
theorem Gw.later {W W':World} (h:Gw W) (hl:Later W W'):Gw W':=⟨h.vd.later hl,h.op.kept (hl.block _ h.lt),Nat.lt_of_lt_of_le h.lt hl.size⟩
theorem rd_shape {W:World} {va:Value} {e:E} (h:RdE W va e):∃ Av nv cv A na c st fl,va=.agg #[.slice Av nv cv,.slice A na c,.int .i64 st,.string fl]:=by
 obtain⟨v0,A,n,c,rfl,hv,_⟩:=h
 obtain⟨Av,cv,rfl,_⟩:=hv.le
 exact⟨_,_,_,_,_,_,_,_,rfl⟩
theorem word_sm {e:E} {raw:B} {r:Rw} {e2:E} (h:word e raw=.ok r e2):r.length≤100000:=by
 unfold word told at h
 split at h
 ·cases h
 ·exact rowD_sm 10 _ _ _ _ h
section
variable {W:World} {va:Value} {e:E} {raw:B}
theorem expanded_ok {r:Rw} {e2:E} (hw:word e raw=.ok r e2) (h:RdE W va e) (hg:Gw W) (hs:Sm e=true) (hu:Rises e.vars) (hr:raw.length≤100000):∀ w,Later W w→Calls Tryz.prog 21 #[va,.string (mkS raw),.func (.func 22) #[] #[]] w fun x W'=>(∃ v,x=.returned (.tuple #[rv r,v,.agg #[.int .i64 0,.string ⟨#[]⟩]])∧FrE w.heap.size W' v e2)∧Later w W':=fun w hl=>by
 have hg':=hg.later hl
 have hc:=expanded_v va e raw w (h.later hl) hs hu hg'.vd hg'.op hg'.lt hr (by rw[hw];nofun)
 rw[hw] at hc
 exact hc.mono fun x w' ⟨⟨v,h1,h2,_⟩,h3⟩=>⟨⟨v,h1,h2⟩,h3⟩
theorem expanded_bad {n:Nat} {t:B} (hw:word e raw=.bad n t) (h:RdE W va e) (hg:Gw W) (hs:Sm e=true) (hu:Rises e.vars) (hr:raw.length≤100000):∀ w,Later W w→Calls Tryz.prog 21 #[va,.string (mkS raw),.func (.func 22) #[] #[]] w fun x W'=>(∃ v,x=.returned (.tuple #[rv [],v,.agg #[.int .i64 (n:Int),.string (mkS t)]])∧FrE w.heap.size W' v e)∧Later w W':=fun w hl=>by
 have hg':=hg.later hl
 have hc:=expanded_v va e raw w (h.later hl) hs hu hg'.vd hg'.op hg'.lt hr (by rw[hw];nofun)
 rw[hw] at hc
 exact hc
theorem one_ok {r:Rw} {e2:E} (hw:word e raw=.ok r e2) (h:RdE W va e) (hg:Gw W) (hs:Sm e=true) (hu:Rises e.vars) (hr:raw.length≤100000):Calls Tryz.prog 15 #[va,.string (mkS raw)] W fun x W'=>(∃ v,x=.returned (.tuple #[.string (mkS (flat r)),v,.agg #[.int .i64 0,.string ⟨#[]⟩]])∧FrE W.heap.size W' v e2)∧Later W W':=
 one_of va raw W r (word_sm hw) 0 ⟨#[]⟩ e2 (rd_shape h) (expanded_ok hw h hg hs hu hr)
theorem one_bad {n:Nat} {t:B} (hw:word e raw=.bad n t) (h:RdE W va e) (hg:Gw W) (hs:Sm e=true) (hu:Rises e.vars) (hr:raw.length≤100000):Calls Tryz.prog 15 #[va,.string (mkS raw)] W fun x W'=>(∃ v,x=.returned (.tuple #[.string ⟨#[]⟩,v,.agg #[.int .i64 (n:Int),.string (mkS t)]])∧FrE W.heap.size W' v e)∧Later W W':=
 one_of va raw W [] (by simp) n (mkS t) e (rd_shape h) (expanded_bad hw h hg hs hu hr)
theorem fields_ok {r:Rw} {e2:E} (hw:word e raw=.ok r e2) (h:RdE W va e) (hg:Gw W) (hs:Sm e=true) (hu:Rises e.vars) (hr:raw.length≤100000):Calls Tryz.prog 12 #[va,.string (mkS raw)] W fun x W'=>(∃ u v,x=.returned (.tuple #[u,v,.agg #[.int .i64 0,.string ⟨#[]⟩]])∧W'.ownsRow W.heap.size 37 2 u (Jo.split (En.ifs e2.vars) r).length (rows (Jo.split (En.ifs e2.vars) r))∧FrE W.heap.size W' v e2)∧Later W W':=
 fields_of va raw W r (word_sm hw) 0 ⟨#[]⟩ e2 (rd_shape h) (expanded_ok hw h hg hs hu hr)
end
def PX (t:B) (q:Bool):P:=.mk 3 t [] q []
theorem parse_x:Wd.parse [36,120]=([PX [120] false],0):=by kernel_rfl
theorem parse_qx:Wd.parse [34,36,120,34]=([PX [120] true],0):=by kernel_rfl
theorem parse_z:Wd.parse [36,122]=([PX [122] false],0):=by kernel_rfl
theorem parse_y:Wd.parse [36,123,121,58,61,49,125,36,121]=([.mk 3 [121] [58,61] false [.mk 1 [49] [] false []],PX [121] false],0):=by kernel_rfl
end Ex
end Go.Proofs.YtipdgmjplnibeaaGreatDoor
namespace Go.Proofs.YtipdgmjplnibeaaGreatDoor
open Go.RowKit Go.Maps
set_option maxRecDepth 100000
namespace Ex
open Jo (ft fm rows own_ge)
open En (E RdE RdP Vd Rises FrE)
def E1:E:=⟨[([120],[97,32,98])],[],0,[]⟩
def E3:E:=⟨[([120],[97,32,98]),([121],[49])],[],0,[]⟩
def E2:E:=⟨[([120],[97,32,98])],[],0,[117]⟩
theorem w1:word E1 [36,120]=.ok [(97,115),(32,115),(98,115)] E1:=by unfold word;rw[parse_x];kernel_rfl
theorem w2:word E1 [34,36,120,34]=.ok [(97,113),(32,113),(98,113)] E1:=by unfold word;rw[parse_qx];kernel_rfl
theorem w3:word E1 [36,123,121,58,61,49,125,36,121]=.ok [(49,115),(49,115)] E3:=by unfold word;rw[parse_y];kernel_rfl
theorem w4:word E2 [36,122]=.bad 23 [122]:=by unfold word;rw[parse_z];kernel_rfl
theorem s1:Jo.split (En.ifs E1.vars) [(97,115),(32,115),(98,115)]=[[(97,115)],[(98,115)]]:=by kernel_rfl
theorem s2:Jo.split (En.ifs E1.vars) [(97,113),(32,113),(98,113)]=[[(97,113),(32,113),(98,113)]]:=by kernel_rfl
theorem z1:En.set Ar.nameB ⟨[],[],0,[]⟩ [120] [97,32,98]=E1:=by kernel_rfl
theorem z2:({ E1 with flags:=En.flag E1.flags 117 true }:E)=E2:=by kernel_rfl
theorem sm1:Sm E1=true:=by kernel_rfl
theorem sm2:Sm E2=true:=by kernel_rfl
theorem up1:Rises E1.vars:=by unfold Rises E1;simp
theorem up2:Rises E2.vars:=by unfold Rises E2;simp
theorem own_first {w:World} {base:Nat} {v:Value} {l:List Rw} {f:Rw} (h:w.ownsRow base 37 2 v (f::l).length (rows (f::l))) (_h:True):∃ b c,v=.slice (some ⟨b,0,none⟩) (f::l).length c∧w.cell? ⟨b,0,none⟩=some (.string (mkS (ft f))):=by
 obtain⟨g,c,e,_,hc⟩:=(Jo.RdR.of_own h).at_ (by simp)
 refine⟨g,c,by rw[e,List.length_map],?_⟩
 have:=(hc 0 (by simp)).1
 simpa [Jo.pr] using this
theorem two_boxes {w k:World} {c d:Array Value} {t u:TypeId} (h:Later ((w.alloc (.cells c t)).alloc (.cells d u)) k):k.heap[w.heap.size]?=some (.cells c t (0,0))∧k.heap[w.heap.size+1]?=some (.cells d u (0,0)):=by
 have h1:=heap_alloc_new w (.cells c t)
 have h2:=heap_alloc_new (w.alloc (.cells c t)) (.cells d u)
 rw[World.size_alloc] at h2
 exact⟨later_cells h (later_cells (Later.alloc _ _) h1),later_cells h h2⟩
theorem cell_keeps' {w w':World} {a:Addr} {v:Value} (hl:Later w w') (h:w.cell? a=some v):w'.cell? a=some v:=by
 have:=World.block_lt_of_cell? w _ h
 rw[←h]
 unfold World.cell?
 rw[hl.block _ this]
theorem set0 (w:World):Calls Tryz.prog 14 #[.agg #[.slice none 0 0,.slice none 0 0,.int .i64 0,.string ⟨#[]⟩],.string ⟨#[120]⟩,.string ⟨#[97,32,98]⟩] w fun x W'=>En.Told w W' x E1:=by
 have h:=En.set_v (.agg #[.slice none 0 0,.slice none 0 0,.int .i64 0,.string ⟨#[]⟩]) ⟨[],[],0,[]⟩ [120] [97,32,98] w (RdE.zero w) Rises.nil (by decide) (by decide) (by decide)
 rw[show En.set En.nm ⟨[],[],0,[]⟩ [120] [97,32,98]=E1 from z1] at h
 exact h
theorem awake_v (W:World) (hg:Gw W):Calls Tryz.prog 9 #[] W fun x W'=>x=.returned (.bool true)∧Later W W':=by
 have HG:=Lib.hid hg
 have HS:=Lib.hid (fun w=>set0 w)
 have HF1:=Lib.hid (show ∀ w va,Later W w→RdE w va E1→Calls Tryz.prog 12 #[va,.string ⟨#[36,120]⟩] w fun x W'=>(∃ A c v,x=.returned (.tuple #[.slice A 2 c,v,.agg #[.int .i64 0,.string ⟨#[]⟩]])∧RdE W' v E1)∧Later w W' from fun w va hl h=>by
  refine(fields_ok w1 h (hg.later hl) sm1 up1 (by decide)).mono ?_
  rintro x w' ⟨⟨u,v,rfl,ho,hf⟩,hl'⟩
  rw[s1] at ho
  obtain⟨A,c,rfl,_⟩:=own_any ho
  exact⟨⟨A,c,v,rfl,hf.rd⟩,hl'⟩)
 have HF2:=Lib.hid (show ∀ w va,Later W w→RdE w va E1→Calls Tryz.prog 12 #[va,.string ⟨#[34,36,120,34]⟩] w fun x W'=>(∃ b c v,x=.returned (.tuple #[.slice (some ⟨b,0,none⟩) 1 c,v,.agg #[.int .i64 0,.string ⟨#[]⟩]])∧(∀ w'',Later W' w''→w''.cell? ⟨b,0,none⟩=some (.string ⟨#[97,32,98]⟩))∧RdE W' v E1)∧Later w W' from fun w va hl h=>by
  refine(fields_ok w2 h (hg.later hl) sm1 up1 (by decide)).mono ?_
  rintro x w' ⟨⟨u,v,rfl,ho,hf⟩,hl'⟩
  rw[s2] at ho
  obtain⟨b,c,rfl,hc⟩:=own_first ho (by simp)
  exact⟨⟨b,c,v,rfl,fun w'' hl''=>(cell_keeps' hl'' hc),hf.rd⟩,hl'⟩)
 have HO1:=Lib.hid (show ∀ w va,Later W w→RdE w va E1→Calls Tryz.prog 15 #[va,.string ⟨#[36,123,121,58,61,49,125,36,121]⟩] w fun x W'=>(∃ A c B n k,x=.returned (.tuple #[.string ⟨#[49,49]⟩,.agg #[.slice A 2 c,.slice B n k,.int .i64 0,.string ⟨#[]⟩],.agg #[.int .i64 0,.string ⟨#[]⟩]]))∧Later w W' from fun w va hl h=>by
  refine(one_ok w3 h (hg.later hl) sm1 up1 (by decide)).mono ?_
  rintro x w' ⟨⟨v,rfl,hf⟩,hl'⟩
  obtain⟨va',A,n,c,rfl,hp,_⟩:=hf.rd
  obtain⟨A1,c1,rfl,_⟩:=hp.le
  exact⟨⟨A1,c1,A,n,c,rfl⟩,hl'⟩)
 have HFL:=Lib.hid (show ∀ w va,Later W w→RdE w va E1→Calls Tryz.prog 20 #[va,.int .u8 117,.bool true] w fun x W'=>(∃ v,x=.returned v∧RdE W' v E2)∧Later w W' from fun w va hl h=>by
  refine(En.flag_v va E1 117 true w h (by decide) (by decide)).mono ?_
  rintro x w' ⟨⟨v,rfl,hf⟩,hl'⟩
  exact⟨⟨v,rfl,hf.rd⟩,hl'⟩)
 have HO2:=Lib.hid (show ∀ w va,Later W w→RdE w va E2→Calls Tryz.prog 15 #[va,.string ⟨#[36,122]⟩] w fun x W'=>(∃ A a c B n k,x=.returned (.tuple #[.string ⟨#[]⟩,.agg #[.slice A a c,.slice B n k,.int .i64 0,.string ⟨#[117]⟩],.agg #[.int .i64 23,.string ⟨#[122]⟩]]))∧Later w W' from fun w va hl h=>by
  refine(one_bad w4 h (hg.later hl) sm2 up2 (by decide)).mono ?_
  rintro x w' ⟨⟨v,rfl,hf⟩,hl'⟩
  obtain⟨va',A,n,c,rfl,hp,_⟩:=hf.rd
  obtain⟨A1,c1,rfl,_⟩:=hp.le
  exact⟨⟨A1,_,c1,A,n,c,rfl⟩,hl'⟩)
 clear hg
 go_enter Tryz.func9,Tryz.ntmps9
 go_wp2_with (first
  |(go_at_call 14;(with_reducible refine(HS.out _).mono ?_);rintro e0 k1 ⟨⟨x1,rfl,hf1⟩,hk1⟩;obtain⟨va1,A1,n1,c1,rfl,hp1,_⟩:=hf1.rd;obtain⟨Av1,cv1,rfl,_⟩:=hp1.le;have R1:=Lib.hid hf1.rd;have L1:=Lib.hid hk1;clear hf1 hk1 hp1)
  |(go_at_call 12;(with_reducible refine(HF1.out _ _ (L1.out.trans (Later.alloc _ _)) (R1.out.later (Later.alloc _ _))).mono ?_);rintro e0 k2 ⟨⟨A2,c2,v2,rfl,hr2⟩,hl2⟩;(have HB1:=Lib.hid (later_cells hl2 (heap_alloc_new _ _)));obtain⟨Av2,nv2,cv2,A2',na2,c2',st2,fl2,rfl⟩:=rd_shape hr2;(have L2:=Lib.hid ((Later.alloc _ _).trans hl2));(have bx:=fun o o'=>later_cells ((Later.refl _).trans ((Later.alloc _ o).trans (Later.alloc _ o'))) HB1.out);have b0:=fun o o'=>(cell_row (bx o o') 0).1;have b1:=fun o o'=>(cell_row (bx o o') 1).1;have b2:=fun o o'=>(cell_row (bx o o') 2).1;have b3:=fun o o'=>(cell_row (bx o o') 3).1;clear bx;clear hr2 hl2)
  |(go_at_call 12;(with_reducible refine(HF2.out _ _ (L1.out.trans (L2.out.trans ((Later.alloc _ _).trans (Later.alloc _ _)))) (R1.out.later (L2.out.trans ((Later.alloc _ _).trans (Later.alloc _ _))))).mono ?_);rintro e0 k3 ⟨⟨g3,c3,v3,rfl,hm3,hr3⟩,hl3⟩;(have T2:=Lib.hid (two_boxes hl3));obtain⟨Av3,nv3,cv3,A3,na3,c3',st3,fl3,rfl⟩:=rd_shape hr3;(have L23:=Lib.hid (((Later.alloc _ _).trans (Later.alloc _ _)).trans hl3));(have HM3:=Lib.hid hm3);(have bx:=fun o o'=>later_cells (L23.out.trans ((Later.alloc _ o).trans (Later.alloc _ o'))) HB1.out);have b0:=fun o o'=>(cell_row (bx o o') 0).1;have b1:=fun o o'=>(cell_row (bx o o') 1).1;have b2:=fun o o'=>(cell_row (bx o o') 2).1;have b3:=fun o o'=>(cell_row (bx o o') 3).1;clear bx;clear hr3 hl3 hm3)
  |(go_at_call 15;(with_reducible refine(HO1.out _ _ (L1.out.trans (L2.out.trans (L23.out.trans ((Later.alloc _ _).trans (Later.alloc _ _))))) (R1.out.later (L2.out.trans (L23.out.trans ((Later.alloc _ _).trans (Later.alloc _ _)))))).mono ?_);rintro e0 k4 ⟨⟨A4,c4,B4,n4,m4,rfl⟩,hl4⟩;(have T3:=Lib.hid (two_boxes hl4));(have L34:=Lib.hid (((Later.alloc _ _).trans (Later.alloc _ _)).trans hl4));(have bx:=fun o o'=>later_cells ((L23.out.trans L34.out).trans ((Later.alloc _ o).trans (Later.alloc _ o'))) HB1.out);have b0:=fun o o'=>(cell_row (bx o o') 0).1;have b1:=fun o o'=>(cell_row (bx o o') 1).1;have b2:=fun o o'=>(cell_row (bx o o') 2).1;have b3:=fun o o'=>(cell_row (bx o o') 3).1;clear bx;clear hl4)
  |(go_at_call 20;(with_reducible refine(HFL.out _ _ (L1.out.trans (L2.out.trans (L23.out.trans (L34.out.trans ((Later.alloc _ _).trans (Later.alloc _ _)))))) (R1.out.later (L2.out.trans (L23.out.trans (L34.out.trans ((Later.alloc _ _).trans (Later.alloc _ _))))))).mono ?_);rintro e0 k5 ⟨⟨v5,rfl,hr5⟩,hl5⟩;(have T4:=Lib.hid (two_boxes hl5));(have L45:=Lib.hid (((Later.alloc _ _).trans (Later.alloc _ _)).trans hl5));(have R5:=Lib.hid hr5);clear hl5 hr5)
  |(go_at_call 15;(with_reducible refine(HO2.out _ _ (L1.out.trans (L2.out.trans (L23.out.trans (L34.out.trans L45.out)))) R5.out).mono ?_);rintro e0 k6 ⟨⟨A6,a6,c6,B6,n6,m6,rfl⟩,hl6⟩;(have L56:=Lib.hid hl6);(have hla:=fun o o'=>hl6.trans ((Later.alloc k6 o).trans (Later.alloc _ o')));(have q4:=fun o o'=>(cell_row (later_cells (L34.out.trans (L45.out.trans (hla o o'))) T2.out.2) 0).1);(have q7:=fun o o'=>(cell_row (later_cells (L45.out.trans (hla o o')) T3.out.2) 0).1);(have q9:=fun o o'=>(cell_row (later_cells (hla o o') T4.out.1) 0).1);(have q10:=fun o o'=>(cell_row (later_cells (hla o o') T4.out.2) 0).1);(have qm:=fun o o'=>HM3.out _ (L34.out.trans (L45.out.trans (hla o o'))));clear hl6 hla))
 go_ret
 exact⟨rfl,L1.out.trans (L2.out.trans (L23.out.trans (L34.out.trans (L45.out.trans (L56.out.trans ((Later.alloc _ _).trans (Later.alloc _ _)))))))⟩
end Ex
end Go.Proofs.YtipdgmjplnibeaaGreatDoor
namespace Go.Proofs.YtipdgmjplnibeaaGreatDoor
open Go.RowKit Go.Maps
set_option maxRecDepth 100000
theorem PAt.later {W W':World} {T:Nat→Prop} {b o:Nat} {p:Wd.P} {vw:Value} (h:PAt W T b o p vw) (hl:Later W W'):PAt W' T b o p vw:=⟨cell_keeps hl h.c0,cell_keeps hl h.c1,cell_keeps hl h.c2,cell_keeps hl h.c3,cell_keeps hl h.c4,h.w.kept hl.size (fun b _ hlt=>hl.block b hlt) fun _ hb=>hb⟩
namespace Ws
abbrev Ps (W:World) (v:Value) (ps:List Wd.P):Prop:=PsAt W (fun _=>True) v ps
theorem Ps.later {W W':World} {v:Value} {ps:List Wd.P} (h:Ps W v ps) (hl:Later W W'):Ps W' v ps:=h.kept hl.size (fun b _ hlt=>hl.block b hlt) fun _ hb=>hb
theorem Ops.later {W W':World} (h:Ops W) (ho:4<W.heap.size) (hl:Later W W'):Ops W':=h.kept (hl.block _ ho)
theorem Ops.pos {W:World} (h:Ops W):4<W.heap.size:=World.block_lt_of_cell? W _ (h 0 (by omega))
theorem parse_t {W:World} (hO:Ops W) (raw:L) (ts:ByteArray) (ht:ts=mkS raw) (y:List Wd.P×Nat) (hy:Wd.parse raw=y) (hr:raw.length≤100000):Calls Tryz.prog 22 #[.string ts] W (Pg W y):=by
 subst ht hy
 exact parse_v raw hr hO (Ops.pos hO)
theorem aw1:Wd.parse [97,34,36,120,34,39,98,39]=([.mk 1 [97] [] false [],.mk 3 [120] [] true [],.mk 2 [98] [] false []],0):=by kernel_rfl
theorem aw2:Wd.parse [36,123,120]=([],11):=by kernel_rfl
theorem aw3:Wd.body [97,34,36,120]=([.mk 2 [97,34] [] false [],.mk 3 [120] [] true []],0):=by kernel_rfl
end Ws
end Go.Proofs.YtipdgmjplnibeaaGreatDoor
namespace Go.Proofs.YtipdgmjplnibeaaGreatDoor
open Ws
namespace Wd
theorem put_put (k:Nat) (a b:B) (r:R):put k a (put k b r)=put k (b++a) r:=by
 unfold put
 by_cases h:k=r.k
 ·simp[h]
 ·simp[h]
theorem put_R0 {k:Nat} (hk:k≠0) (t:B):put k t R0=⟨[],k,t⟩:=by
 unfold put R0 close
 simp[hk]
theorem all_put {k:Nat} (hk:0<k) (t:B):all (⟨[],k,t⟩:R)=[.mk k t [] false []]:=by
 unfold all close
 simp[hk]
def plainB (c:UInt8):Bool:=c != 92 && c != 39 && c != 34 && c != 36 && c != 126 && c != 96
theorem plain_ne {c:UInt8} (h:plainB c=true):c≠92∧c≠39∧c≠34∧c≠36∧c≠126∧c≠96:=by
 unfold plainB at h
 simp only[Bool.and_eq_true,bne_iff_ne,ne_eq] at h
 exact⟨h.1.1.1.1.1,h.1.1.1.1.2,h.1.1.1.2,h.1.1.2,h.1.2,h.2⟩
theorem loop_plain (br:S→P×S) (e:Nat):∀ (s:B) (n:Nat) (r:R),s.all plainB=true→s.length≤n→loop left (part br) n (r,⟨s,e⟩)=(if s=[] then r else put 1 s r,⟨[],e⟩)
 | [],n,r,_,_=>loop_stop rfl
 | c::s,0,r,_,hn=>by simp at hn
 | c::s,n+1,r,hp,hn=>by
  rw[List.all_cons,Bool.and_eq_true] at hp
  obtain⟨h1,h2,h3,h4,_,h6⟩:=plain_ne hp.1
  rw[loop,show left (⟨c::s,e⟩:S)=true from rfl,if_pos rfl,part_el (x:=⟨c::s,e⟩) rfl h1 h2 h3 h4 h6,loop_plain br e s n _ hp.2 (by simpa using hn)]
  by_cases hs:s=[]
  ·subst hs;rfl
  ·rw[if_neg hs,if_neg (by simp),put_put];rfl
theorem start_ne {s:B} (h:s.head?≠some 126):start s=(R0,⟨s,0⟩):=by
 unfold start
 rw[if_neg]
 rintro(e | e)
 ·rw[e] at h;simp at h
 ·cases s with
  | nil=>simp[Lib.hasPrefix] at e
  | cons c t=>
   unfold Lib.hasPrefix at e
   simp only[List.isPrefixOf,Bool.and_eq_true,beq_iff_eq] at e
   rw[←e.1] at h
   simp at h
theorem parse_plain {s:B} (hp:s.all plainB=true):parse s=if s=[] then ([],0) else ([.mk 1 s [] false []],0):=by
 have hst:start s=(R0,⟨s,0⟩):=start_ne fun e=>by
  cases s with
  | nil=>cases e
  | cons c t=>
   rw[List.all_cons,Bool.and_eq_true] at hp
   simp only[List.head?_cons,Option.some.injEq] at e
   exact(plain_ne hp.1).2.2.2.2.1 e
 unfold parse
 rw[hst,loop_plain (brace 8) 0 s s.length R0 hp (Nat.le_refl _)]
 by_cases hs:s=[]
 ·rw[if_pos hs,if_pos hs];rfl
 ·rw[if_neg hs,if_neg hs,put_R0 (by omega)]
  unfold told
  rw[if_neg (by simp),all_put (by omega)]
theorem index_at:∀ (s t:B) (c:UInt8),c∉s→Lib.indexByte (s++c::t) c=s.length
 | [],t,c,_=>by simp[Lib.indexByte]
 | b::s,t,c,h=>by
  have h1:(b==c)=false:=beq_eq_false_iff_ne.2 fun e=>h (by simp[e])
  have ih:=index_at s t c (fun e=>h (by simp[e]))
  rw[List.cons_append,Lib.indexByte,h1,ih]
  have:((s.length:Int)==-1)=false:=by simp
  rw[this]
  simp
theorem upTo_at {s t:B} {c:UInt8} (h:c∉s) (e:Nat):upTo c ⟨s++c::t,e⟩=(s,⟨t,e⟩):=by
 unfold upTo
 rw[index_at s t c h,if_neg (by omega)]
 simp[skip]
theorem parse_single {s:B} (h:(39:UInt8)∉s):parse ([39]++s++[39])=([.mk 2 s [] false []],0):=by
 have hst:start ([39]++s++[39])=(R0,⟨[39]++s++[39],0⟩):=start_ne (by simp)
 unfold parse
 rw[hst]
 have hl:([39]++s++[39]:B).length=(s.length+1)+1:=by simp
 rw[hl,loop,show left (⟨[39]++s++[39],0⟩:S)=true from rfl,if_pos rfl,part_sq (x:=⟨[39]++s++[39],0⟩) (t:=s++[39]) (by simp),upTo_at h,loop_stop rfl,put_R0 (by omega)]
 unfold told
 rw[if_neg (by simp),all_put (by omega)]
def spec (c:UInt8):Bool:=c==34 || c==92 || c==36 || c==96
def escB (c:UInt8):B:=if spec c then [92,c] else [c]
def esc (s:B):B:=s.flatMap escB
theorem esc_len (s:B):(esc s).length≤2*s.length:=by
 induction s with
 | nil=>simp[esc]
 | cons c s ih=>
  unfold esc at ih⊢
  rw[List.flatMap_cons,List.length_append]
  have:(escB c).length≤2:=by unfold escB;split <;> simp
  simp only[List.length_cons]
  omega
theorem spec_bare {c:UInt8} (h:spec c=true):bare inQuotes [c]=true:=by
 unfold spec at h
 unfold bare inQuotes
 simp only[Bool.or_eq_true,beq_iff_eq] at h
 rcases h with((rfl | rfl) | rfl) | rfl <;> decide
theorem more_q {c:UInt8} {t:B} {e:Nat} (h:c≠34):more [34] ⟨c::t,e⟩=true:=by
 have h1:((34:UInt8)==c)=false:=beq_eq_false_iff_ne.2 fun e=>h e.symm
 exact more_a (x:=⟨c::t,e⟩) rfl ((ahead_one 34 c t e).trans h1)
theorem loop_esc (br:S→P×S) (e:Nat):∀ (s:B) (n:Nat) (r:R),s.length≤n→loop (more [34]) (content br inQuotes) n (r,⟨esc s++[34],e⟩)=(if s=[] then r else put 2 s r,⟨[34],e⟩)
 | [],n,r,_=>loop_stop (y:=(r,⟨[34],e⟩)) (more_a (x:=⟨[34],e⟩) rfl rfl)
 | c::s,0,r,hn=>by simp at hn
 | c::s,n+1,r,hn=>by
  have he:esc (c::s)++[34]=escB c++(esc s++[34]):=by unfold esc;rw[List.flatMap_cons,List.append_assoc]
  have ih:=fun r=>loop_esc br e s n r (by simpa using hn)
  have fin:∀ r,(if s=[] then put 2 [c] r else put 2 s (put 2 [c] r))=put 2 (c::s) r:=fun r=>by
   by_cases hs:s=[]
   ·subst hs;rfl
   ·rw[if_neg hs,put_put];rfl
  rw[he,if_neg (by simp)]
  unfold escB
  cases hs:spec c with
  | true=>
   rw[if_pos rfl,show ([92,c]:B)++(esc s++[34])=92::c::(esc s++[34]) from rfl,loop,if_pos (more_q (by decide)),content_bs (x:=⟨92::c::(esc s++[34]),e⟩) rfl,next_cons (x:=⟨c::(esc s++[34]),e⟩) rfl,if_pos (spec_bare hs),ih,fin]
  | false=>
   unfold spec at hs
   simp only[Bool.or_eq_false_iff,beq_eq_false_iff_ne] at hs
   rw[if_neg (by simp),show ([c]:B)++(esc s++[34])=c::(esc s++[34]) from rfl,loop,if_pos (more_q hs.1.1.1),content_el (x:=⟨c::(esc s++[34]),e⟩) rfl hs.1.1.2 hs.1.2 hs.2,ih,fin]
theorem parse_double (s:B):parse ([34]++esc s++[34])=([.mk 2 s [] false []],0):=by
 have hst:start ([34]++esc s++[34])=(R0,⟨[34]++esc s++[34],0⟩):=start_ne (by simp)
 have hel:s.length≤(esc s++[34]).length:=by
  have:s.length≤(esc s).length:=by
   induction s with
   | nil=>simp
   | cons c s ih=>
    unfold esc at ih⊢
    rw[List.flatMap_cons,List.length_append]
    have h1:1≤(escB c).length:=by unfold escB;split <;> simp
    have:=ih (start_ne (by simp))
    simp only[List.length_cons]
    omega
  simp;omega
 unfold parse
 rw[hst]
 have hl:([34]++esc s++[34]:B).length=((esc s).length+1)+1:=by simp
 rw[hl,loop,show left (⟨[34]++esc s++[34],0⟩:S)=true from rfl,if_pos rfl,part_dq (x:=⟨[34]++esc s++[34],0⟩) (t:=esc s++[34]) (by simp)]
 have hd:double (brace 8) (R0,⟨esc s++[34],0⟩)=(⟨[],2,s⟩,⟨[],0⟩):=by
  unfold double
  dsimp only
  by_cases hs:s=[]
  ·subst hs;rfl
  ·have ha:ahead [34] ⟨esc s++[34],0⟩=false:=by
    cases s with
    | nil=>exact absurd rfl hs
    | cons c s=>
     have he:esc (c::s)++[34]=escB c++(esc s++[34]):=by unfold esc;rw[List.flatMap_cons,List.append_assoc]
     rw[he]
     unfold escB
     cases h1:spec c with
     | true=>rw[if_pos rfl];exact ahead_one 34 92 _ 0
     | false=>
      rw[if_neg (by simp)]
      refine(ahead_one 34 c _ 0).trans (beq_eq_false_iff_ne.2 fun e=>?_)
      rw[←e] at h1
      cases h1
   rw[ha]
   simp only[Bool.false_eq_true,if_false]
   rw[loop_esc (brace 8) 0 s _ R0 hel,if_neg hs,put_R0 (by omega)]
   rfl
 rw[hd,loop_stop rfl]
 unfold told
 rw[if_neg (by simp),all_put (by omega)]
end Wd
end Go.Proofs.YtipdgmjplnibeaaGreatDoor
namespace Go.Proofs.YtipdgmjplnibeaaGreatDoor
set_option maxRecDepth 100000
namespace Wd
theorem word_q (br:S→P×S) {w:B} (h:(39:UInt8)∉w):word br ⟨39::(w++[39,125]),0⟩=([.mk 2 w [] false []],⟨[],0⟩):=by
 have hu:upTo 39 ⟨w++39::[125],0⟩=(w,⟨[125],0⟩):=upTo_at h 0
 have hw:wordIn br ⟨39::(w++[39,125]),0⟩=(put 2 w ⟨[],0,[]⟩,⟨[125],0⟩):=by
  unfold wordIn
  have hl:(S.mk (39::(w++[39,125])) 0).l.length=(w.length+1)+1+1:=by simp
  rw[hl]
  have h1:part br (⟨[],0,[]⟩,⟨39::(w++[39,125]),0⟩)=(put 2 w ⟨[],0,[]⟩,⟨[125],0⟩):=by
   have e:part br (⟨[],0,[]⟩,⟨39::(w++[39,125]),0⟩)=(put 2 (upTo 39 ⟨w++39::[125],0⟩).1 ⟨[],0,[]⟩,(upTo 39 ⟨w++39::[125],0⟩).2):=rfl
   rw[e,hu]
  rw[loop,if_pos (by rfl),h1,loop,if_neg (by intro e;cases e)]
 unfold word
 rw[hw]
 rfl
def isOp (o:B):Prop:=o=[58,45]∨o=[45]∨o=[58,61]∨o=[58,43]∨o=[43]∨o=[37]
theorem brace_q (d:Nat) {o w:B} (ho:isOp o) (h:(39:UInt8)∉w):brace (d+1) ⟨120::(o++39::(w++[39,125])),0⟩=(.mk 3 [120] o false [.mk 2 w [] false []],⟨[],0⟩):=by
 have hw:=word_q (brace d) h
 show braceF (word (brace d)) _=_
 rcases ho with rfl | rfl | rfl | rfl | rfl | rfl
 all_goals
  unfold braceF
  rw[if_neg (by intro e;exact e rfl),if_neg (by intro e;cases e)]
 ·exact congrArg (fun y:List P×S=>(P.mk 3 [120] [58,45] false y.1,y.2)) hw
 ·exact congrArg (fun y:List P×S=>(P.mk 3 [120] [45] false y.1,y.2)) hw
 ·exact congrArg (fun y:List P×S=>(P.mk 3 [120] [58,61] false y.1,y.2)) hw
 ·exact congrArg (fun y:List P×S=>(P.mk 3 [120] [58,43] false y.1,y.2)) hw
 ·exact congrArg (fun y:List P×S=>(P.mk 3 [120] [43] false y.1,y.2)) hw
 ·exact congrArg (fun y:List P×S=>(P.mk 3 [120] [37] false y.1,y.2)) hw
theorem parse_q {o w:B} (ho:isOp o) (h:(39:UInt8)∉w):parse (36::123::120::(o++39::(w++[39,125])))=([.mk 3 [120] o false [.mk 2 w [] false []]],0):=by
 have hb:=brace_q 7 ho h
 unfold parse
 have hs:start (36::123::120::(o++39::(w++[39,125])))=(R0,⟨36::123::120::(o++39::(w++[39,125])),0⟩):=start_ne (by simp)
 rw[hs]
 have hl:(36::123::120::(o++39::(w++[39,125]))).length=(o.length+w.length+4)+1+1:=by simp;omega
 rw[hl]
 have h1:part (brace 8) (R0,⟨36::123::120::(o++39::(w++[39,125])),0⟩)=(add (.mk 3 [120] o false [.mk 2 w [] false []]) R0,⟨[],0⟩):=by
  have e:part (brace 8) (R0,⟨36::123::120::(o++39::(w++[39,125])),0⟩)=(fun v:P×S=>if v.1.k=0 then (put 1 [36] R0,v.2) else (add (.mk v.1.k v.1.t v.1.o (decide (1=2)) v.1.w) R0,v.2)) (brace 8 ⟨120::(o++39::(w++[39,125])),0⟩):=rfl
  rw[e,hb]
  rfl
 rw[loop,if_pos (by rfl),h1,loop,if_neg (by intro e;cases e)]
 rfl
end Wd
end Go.Proofs.YtipdgmjplnibeaaGreatDoor
