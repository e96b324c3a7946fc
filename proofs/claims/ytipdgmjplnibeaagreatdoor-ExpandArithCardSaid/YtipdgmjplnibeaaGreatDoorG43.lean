import Derived.Test.YtipdgmjplnibeaaGreatDoorVp
import Derived.Test.YtipdgmjplnibeaaGreatDoorVzb
import Derived.Test.YtipdgmjplnibeaaGreatDoorG12
set_option maxRecDepth 100000
set_option maxHeartbeats 12800000
namespace Go.Proofs.YtipdgmjplnibeaaGreatDoor
open Go.RowKit Go.Maps
set_option maxRecDepth 100000
namespace Ey
open Jo (ft fm rows own_ge)
open En (E RdE Vd Rises FrE)
theorem param_args {W:World} {X:Nat→Prop} {g m:Nat} {e:E} {Aw:Option Addr} {cw:Nat} (k:Nat) (t o:B) (q:Bool) (l:List P) (h:Wt W X g m e) (hp:parted (.mk k t o q l)=true) (hr:(args (lt q) e.args).length≤100000):Calls Tryz.prog 76 #[.pointer (some ⟨g,0,none⟩),.agg #[.int .i64 (k:Int),.string (mkS t),.string (mkS o),.bool q,.slice Aw l.length cw]] W (RowR W X g m (.ok (args (lt q) e.args) e)):=by
 obtain⟨W1,hW1⟩:∃ W1,W1=(W.alloc (.cells #[.int .i64 (k:Int),.string (mkS t),.string (mkS o),.bool q,.slice Aw l.length cw] 105)).alloc (.cells #[.string ⟨#[]⟩,.string ⟨#[]⟩] 37):=⟨_,rfl⟩
 have hl:Later W W1:=by rw[hW1];exact(Later.alloc _ _).trans (Later.alloc _ _)
 have HLW:=Lib.hid hl
 have HBX:=Lib.hid (show W1.heap[W.heap.size]?=some (.cells #[.int .i64 (k:Int),.string (mkS t),.string (mkS o),.bool q,.slice Aw l.length cw] 105 (0,0)) by rw[hW1];exact later_cells (Later.alloc _ _) (heap_alloc_new _ _))
 have HRX:=Lib.hid (show W1.heap[W.heap.size+1]?=some (.cells #[.string ⟨#[]⟩,.string ⟨#[]⟩] 37 (0,0)) by
  have:=heap_alloc_new (W.alloc (.cells #[.int .i64 (k:Int),.string (mkS t),.string (mkS o),.bool q,.slice Aw l.length cw] 105)) (.cells #[.string ⟨#[]⟩,.string ⟨#[]⟩] 37)
  rw[World.size_alloc] at this
  rw[hW1]
  exact this)
 have HPA:=Lib.hid (show ∀ w,Calls Tryz.prog 106 #[.agg #[.int .i64 (k:Int),.string (mkS t),.string (mkS o),.bool q,.slice Aw l.length cw]] w fun e W'=>e=.returned (.bool true)∧Later w W' from fun w=>by have:=parted_v (.mk k t o q l) (.slice Aw l.length cw) w;rw[hp] at this;exact this)
 obtain⟨cq,hcq⟩:∃ cq:Int,cq=((lt q).toNat:Int):=⟨_,rfl⟩
 have HLT:=Lib.hid (show ∀ w,Calls Tryz.prog 105 #[.agg #[.int .i64 (k:Int),.string (mkS t),.string (mkS o),.bool q,.slice Aw l.length cw]] w fun e w'=>e=.returned (.int .u8 cq)∧Later w w' from fun w=>by rw[hcq];exact letter_v (.mk k t o q l) (.slice Aw l.length cw) w)
 obtain⟨RR,hRR⟩:∃ RR,RR=args (lt q) e.args:=⟨_,rfl⟩
 have HAR:=Lib.hid (show ∀ w,Later W1 w→Calls Tryz.prog 107 #[.pointer (some ⟨g,0,none⟩),.int .u8 cq] w fun x w'=>x=.returned (.agg #[.string (mkS (ft RR)),.string (mkS (fm RR))])∧Later w w' from fun w hw=>by rw[hcq,hRR];exact arguments_v (h.later (hl.trans hw)) (lt q) hr)
 have HH:=Lib.hid h
 have HW1:=Lib.hid hW1
 have HRQ:=Lib.hid hRR
 rw[←hRR]
 clear h hl hp hcq hW1 hr hRR
 go_enter Tryz.func76,Tryz.ntmps76
 go_wp2_with (first
  |(go_at_call 106;(with_reducible refine(HPA.out _).mono ?_);rintro e w1 ⟨rfl,hl1⟩;rw[←HW1.out] at hl1;(have HL1:=Lib.hid hl1);(have hb:=later_cells hl1 HBX.out);(have b0:=(cell_row hb 0).1);(have b1:=(cell_row hb 1).1);(have b2:=(cell_row hb 2).1);(have b3:=(cell_row hb 3).1);(have b4:=(cell_row hb 4).1);clear hl1 hb)
  |(go_at_call 105;(with_reducible refine(HLT.out _).mono ?_);rintro e w2 ⟨rfl,hl2⟩;(have HL2:=Lib.hid (HL1.out.trans hl2));clear hl2)
  |(go_at_call 107;(with_reducible refine(HAR.out _ HL2.out).mono ?_);rintro e w3 ⟨rfl,hl3⟩;(have HL3:=Lib.hid (HL2.out.trans hl3));(have hr:=later_cells HL3.out HRX.out);(have r0:=(cell_row hr 0).1);(have r1:=(cell_row hr 1).1);(have z:=fun i=>(cell_row hr i).2);clear hl3 hr))
 refine end_row rfl rfl (later_cells HL3.out HRX.out) rfl rfl fun w9 h9=>?_
 exact⟨rfl,HH.out.ends' (HLW.out.trans HL3.out) (by omega) (later_cells HL3.out HRX.out) h9⟩
theorem asg_then (row:E→List P→Res) (e:E) (p:P):(row e p.w).then (fun r e'=>if Sm (En.set Ar.nameB e' p.t (flat r))=true then ptR (flat r) (lt p.q) (En.set Ar.nameB e' p.t (flat r)) else .big)=(asgR row e p).then fun r e3=>ptR (flat r) (lt p.q) e3:=by
 unfold asgR
 cases row e p.w with
 | ok r e'=>
  simp only[Res.then]
  split <;> rfl
 | bad n t=>rfl
 | big=>rfl
theorem parF_eq (row:E→List P→Res) (e:E) (k:Nat) (t o:B) (q:Bool) (l:List P):parF row e (.mk k t o q l) =
  (if parted (.mk k t o q l)=true then (if (args (lt q) e.args).length≤100000 then .ok (args (lt q) e.args) e else .big)
  else if (En.get Ar.nameB e t).2=false∧need (.mk k t o q l)=true then (if e.flags.contains 117=true then .bad 23 t else .big)
  else if o=LEN then .big
  else if Pm.does o (En.get Ar.nameB e t).1 (En.get Ar.nameB e t).2=1 then (if Pm.trims o=true∨(En.get Ar.nameB e t).2=false then .big else ptR (En.get Ar.nameB e t).1 (lt q) e)
  else if Pm.does o (En.get Ar.nameB e t).1 (En.get Ar.nameB e t).2=3 then (if Ar.nameB t=true∧(En.get Ar.nameB e t).2=false then (asgR row e (.mk k t o q l)).then fun r e3=>ptR (flat r) (lt q) e3 else .big)
  else .big):=by
 rw[show (asgR row e (.mk k t o q l)).then (fun r e3=>ptR (flat r) (lt q) e3)=_ from(asg_then row e (.mk k t o q l)).symm]
 rfl
theorem param_v {row:E→List P→Res} (hR:RowOk row) (hS:RowSm row) {W:World} {X:Nat→Prop} {g m:Nat} {e:E} {vw:Value} (p:P) (h:Wt W X g m e) (hv:PsAt W (Nb g) vw p.w) (ht:p.t.length≤100000) (ho:p.o.length≤100000) (ha:∀ x∈p.o,x.toNat<128) (hb:parF row e p≠.big):Calls Tryz.prog 76 #[.pointer (some ⟨g,0,none⟩),pv p vw] W (RowR W X g m (parF row e p)):=by
 obtain⟨Aw,cw,rfl⟩:=hv.one.2
 obtain⟨k,t,o,q,l⟩:=p
 show Calls Tryz.prog 76 #[.pointer (some ⟨g,0,none⟩),.agg #[.int .i64 (k:Int),.string (mkS t),.string (mkS o),.bool q,.slice Aw l.length cw]] W _
 replace ht:t.length≤100000:=ht
 replace ho:o.length≤100000:=ho
 replace ha:∀ x∈o,x.toNat<128:=ha
 replace hv:PsAt W (Nb g) (.slice Aw l.length cw) l:=hv
 rw[parF_eq] at hb⊢
 by_cases hp:parted (.mk k t o q l)=true
 ·rw[if_pos hp] at hb⊢
  by_cases hr:(args (lt q) e.args).length≤100000
  ·rw[if_pos hr]
   exact param_args k t o q l h hp hr
  ·exact absurd (if_neg hr) hb
 have hp':parted (.mk k t o q l)=false:=by simpa using hp
 rw[if_neg hp] at hb⊢
 by_cases hf:(En.get Ar.nameB e t).2=false∧need (.mk k t o q l)=true
 ·rw[if_pos hf] at hb⊢
  by_cases hu:e.flags.contains 117=true
  ·rw[if_pos hu]
   exact param_fault k t o q l h ht ho ha hp' hf.1 hf.2 hu
  ·exact absurd (if_neg hu) hb
 rw[if_neg hf] at hb⊢
 have hsn:(En.get Ar.nameB e t).2=true∨((En.get Ar.nameB e t).2=false∧need (.mk k t o q l)=false):=by
  cases hs:(En.get Ar.nameB e t).2 with
  | true=>exact .inl rfl
  | false=>exact .inr ⟨rfl,by cases hn:need (.mk k t o q l) with | true=>exact absurd ⟨hs,hn⟩ hf | false=>rfl⟩
 clear hf hp
 by_cases hL:o=LEN
 ·rw[if_pos hL] at hb;exact absurd rfl hb
 rw[if_neg hL] at hb⊢
 by_cases h1:Pm.does o (En.get Ar.nameB e t).1 (En.get Ar.nameB e t).2=1
 ·rw[if_pos h1] at hb⊢
  by_cases h9:Pm.trims o=true∨(En.get Ar.nameB e t).2=false
  ·rw[if_pos h9] at hb;exact absurd rfl hb
  ·rw[if_neg h9] at hb⊢
   have hsz:(En.get Ar.nameB e t).1.length≤100000:=by
    by_cases h8:(En.get Ar.nameB e t).1.length≤100000
    ·exact h8
    ·exact absurd (if_neg h8) hb
   have hst:(En.get Ar.nameB e t).2=true:=by
    cases hs:(En.get Ar.nameB e t).2 with
    | true=>rfl
    | false=>exact absurd (.inr hs) h9
   have htr:Pm.trims o=false:=by
    cases hs:Pm.trims o with
    | true=>exact absurd (.inl hs) h9
    | false=>rfl
   exact param_value k t o q l h ht hp' hst hL h1 htr hsz
 rw[if_neg h1] at hb⊢
 by_cases h3:Pm.does o (En.get Ar.nameB e t).1 (En.get Ar.nameB e t).2=3
 ·rw[if_pos h3] at hb⊢
  by_cases hnm:Ar.nameB t=true∧(En.get Ar.nameB e t).2=false
  ·rw[if_pos hnm] at hb⊢
   have hb2:asgR row e (.mk k t o q l)≠.big:=fun e9=>hb (by rw[e9];rfl)
   rcases hsn with hs | ⟨hs,hn⟩
   ·rw[hs] at hnm;exact absurd hnm.2 (by decide)
   ·exact param_asg_n k t o q l h ht ho ha hp' hs hn hL h3 hR hS hv hnm.1 hb2
  ·exact absurd (if_neg hnm) hb
 rw[if_neg h3] at hb
 exact absurd rfl hb
theorem part_ok {row:E→List P→Res} (hR:RowOk row) (hS:RowSm row):PartOk (partF row):=fun W X g m e vw p f h hv hb hf=>by
 unfold partF at hb⊢
 have h0:p.t.length≤100000∧p.o.length≤100000∧(p.o.all fun x=>decide (x.toNat<128))=true:=by
  by_cases h0:p.t.length≤100000∧p.o.length≤100000∧(p.o.all fun x=>decide (x.toNat<128))=true
  ·exact h0
  ·rw[if_neg h0] at hb;exact absurd rfl hb
 rw[if_pos h0] at hb⊢
 obtain⟨ht,ho,ha⟩:=h0
 have ha2:∀ x∈p.o,x.toNat<128:=fun x hx=>by have:=List.all_eq_true.1 ha x hx;simpa using this
 have fin:∀ (ff:Nat) (r:Rw),putsT g p.k=some (fnv ff g)→(Calls Tryz.prog ff #[.pointer (some ⟨g,0,none⟩),pv p vw] W fun x W'=>x=.returned (rv r)∧Later W W')→Calls Tryz.prog f #[.pointer (some ⟨g,0,none⟩),pv p vw] W (RowR W X g m (.ok r e)):=fun ff r h1 hc=>by
  rw[h1] at hf
  have e1:ff=f:=by
   injection hf with hf
   unfold fnv at hf
   injection hf with hf
   injection hf
  subst e1
  exact hc.mono fun x w' ⟨hx,hl⟩=>⟨hx,h.later hl,later_some hl⟩
 by_cases k1:p.k=1
 ·rw[if_pos k1]
  exact fin _ _ (by unfold putsT;rw[if_pos k1]) (lit_v g p vw ht W)
 rw[if_neg k1] at hb⊢
 by_cases k2:p.k=2
 ·rw[if_pos k2]
  exact fin _ _ (by unfold putsT;rw[if_neg k1,if_pos k2]) (quo_v g p vw ht W)
 rw[if_neg k2] at hb⊢
 by_cases k3:p.k=3
 ·rw[if_pos k3] at hb⊢
  have e1:76=f:=by
   have:putsT g p.k=some (fnv 76 g):=by unfold putsT;rw[k3];rfl
   rw[this] at hf
   injection hf with hf
   unfold fnv at hf
   injection hf with hf
   injection hf
  subst e1
  exact param_v hR hS p h hv ht ho ha2 hb
 rw[if_neg k3] at hb⊢
 by_cases k4:p.k=4
 ·rw[if_pos k4] at hb⊢
  have hpt:putsT g p.k=some (fnv 75 g):=by unfold putsT;rw[k4];rfl
  unfold arithR at hb⊢
  by_cases hc:(p.t=sumT∨p.t=gtT)∧has2 e=true
  ·rw[if_pos hc] at hb⊢
   have hsz:(Lib.itoa (arithN e p.t)).length≤100000:=by
    by_cases h8:(Lib.itoa (arithN e p.t)).length≤100000
    ·exact h8
    ·exact absurd (if_neg h8) hb
   rw[ptR_ok hsz]
   exact fin _ _ hpt (arith_v h p vw hc.1 hc.2 hsz)
  ·rw[if_neg hc] at hb;exact absurd rfl hb
 rw[if_neg k4] at hb⊢
 by_cases k5:p.k=5
 ·rw[if_pos k5] at hb⊢
  have hpt:putsT g p.k=some (fnv 74 g):=by unfold putsT;rw[k5];rfl
  by_cases hh:(En.get Ar.nameB e HOME).2=true
  ·rw[if_pos hh] at hb⊢
   have hsz:(En.get Ar.nameB e HOME).1.length≤100000:=by
    by_cases h8:(En.get Ar.nameB e HOME).1.length≤100000
    ·exact h8
    ·exact absurd (if_neg h8) hb
   rw[ptR_ok hsz]
   have:=tilde_v h p vw hsz
   rw[if_pos hh] at this
   exact fin _ _ hpt this
  ·rw[if_neg hh]
   have hsz:(En.get Ar.nameB e HOME).1.length≤100000:=by
    unfold En.get at hh⊢
    rw[if_pos (by decide)] at hh⊢
    cases hv:En.var e.vars HOME with
    | none=>simp[En.told]
    | some v=>rw[hv] at hh;exact absurd rfl hh
   have:=tilde_v h p vw hsz
   rw[if_neg hh] at this
   exact fin _ _ hpt this
 ·rw[if_neg k5] at hb;exact absurd rfl hb
theorem part_k {row:E→List P→Res} (e:E) (p:P) (hb:partF row e p≠.big):1≤p.k∧p.k≤5:=by
 unfold partF at hb
 by_cases h0:p.t.length≤100000∧p.o.length≤100000∧(p.o.all fun x=>decide (x.toNat<128))=true
 ·rw[if_pos h0] at hb
  by_cases k1:p.k=1
  ·omega
  rw[if_neg k1] at hb
  by_cases k2:p.k=2
  ·omega
  rw[if_neg k2] at hb
  by_cases k3:p.k=3
  ·omega
  rw[if_neg k3] at hb
  by_cases k4:p.k=4
  ·omega
  rw[if_neg k4] at hb
  by_cases k5:p.k=5
  ·omega
  rw[if_neg k5] at hb
  exact absurd rfl hb
 ·rw[if_neg h0] at hb;exact absurd rfl hb
theorem rowF_sm (part:E→P→Res):∀ (ps:List P) (e:E) (r0 r:Rw) (e':E),r0.length≤100000→rowF part e ps r0=.ok r e'→r.length≤100000
 | [],e,r0,r,e',h0,h=>by unfold rowF at h;injection h with h _;subst h;exact h0
 | p::ps,e,r0,r,e',h0,h=>by
  unfold rowF at h
  cases hp:part e p with
  | ok r1 e1=>
   rw[hp] at h
   simp only[Res.then] at h
   by_cases h9:(r0++r1).length≤100000
   ·rw[if_pos h9] at h;exact rowF_sm part ps e1 _ r e' h9 h
   ·rw[if_neg h9] at h;cases h
  | bad n t=>rw[hp] at h;cases h
  | big=>rw[hp] at h;cases h
theorem rowD_sm (d:Nat):RowSm (rowD d):=fun e ps r e' h=>by
 cases d with
 | zero=>cases h
 | succ d=>
  unfold rowD at h
  by_cases h9:ps.length≤1000
  ·rw[if_pos h9] at h;exact rowF_sm _ ps e [] r e' (by simp) h
  ·rw[if_neg h9] at h;cases h
theorem row_ok:∀ d,RowOk (rowD d)
 | 0=>fun W X g m e v ps h hv hb=>absurd rfl hb
 | d+1=>fun W X g m e v ps h hv hb=>by
  unfold rowD at hb⊢
  by_cases h9:ps.length≤1000
  ·rw[if_pos h9] at hb⊢
   exact row_of (part_ok (row_ok d) (rowD_sm d)) (fun e p=>part_k e p) W X g m e v ps h hv h9 hb
  ·rw[if_neg h9] at hb;exact absurd rfl hb
end Ey
end Go.Proofs.YtipdgmjplnibeaaGreatDoor
namespace Go.Proofs.YtipdgmjplnibeaaGreatDoor
open Go.RowKit Go.Maps
set_option maxRecDepth 100000
namespace Ey
open Jo (ft fm rows own_ge)
open En (E RdE Vd Rises FrE)
def TabN (W:World) (m k:Nat) (f:Nat→Option Value):Prop:=
 ∃ D n,W.ownsMap Tryz.prog 3 heldR m n D∧n≤k∧∀ c,Maps.has D (kl c)=(f c).isSome∧∀ z,D.atKey (kl c) (.held z)=.held ((f c).getD z)
theorem TabN.made (W:World):TabN (W.alloc (.map #[] 0)) W.heap.size 0 fun _=>none:=
 ⟨.map [],0,World.ownsMap_made W _ _ _,by omega,fun c=>⟨rfl,fun z=>rfl⟩⟩
def putN (f:Nat→Option Value) (c:Nat) (v:Value):Nat→Option Value:=fun x=>if x=c then some v else f x
theorem TabN.put {W:World} {m k:Nat} {f:Nat→Option Value} (h:TabN W m k f) (hk:k≤29) (c:Nat) (hc:c≤100) (v:Value):∃ W',(Instr.mapUpdate 92 (.map (some m)) (.int .i64 (c:Int)) v).run Tryz.prog W=.ok () W'∧TabN W' m (k+1) (putN f c v)∧W.grownBy W' (some m):=by
 obtain⟨D,n,h1,h2,h3⟩:=h
 obtain⟨W',hr,h4,h5⟩:=h1.update int_keyed' Tryz.underlying92 (by unfold maxLen;omega) (keyOf_i64 c hc) (val:=v) (d:=.held v) (ps:=[]) rfl
 refine⟨W',hr,⟨_,n+1,h4,by omega,fun x=>?_⟩,h5⟩
 unfold putN
 by_cases hx:x=c
 ·subst hx
  rw[if_pos rfl]
  exact⟨has_put_same h1.isMap (show WideAt.IsKeyLit (kl x) from trivial) _,fun z=>atKey_put_same h1.isMap (show WideAt.IsKeyLit (kl x) from trivial) _ _⟩
 ·rw[if_neg hx,has_put_other (kl_ne hx)]
  exact⟨(h3 x).1,fun z=>by rw[atKey_put_other (kl_ne hx)];exact(h3 x).2 z⟩
section
variable {ops:Array Oper} {rest:List Oper} {o:Oper} {a:Act} {Q:Exit→Act→World→Prop}
theorem wpList_tabIns (w:World) (hgd:o.guard=none) (mo xo vo:Operand) (hop:o.op=.insert 92 mo xo vo) (m k:Nat) (f:Nat→Option Value) (c:Nat) (hc:c≤100) (v:Value) (hm:a.eval mo=.map (some m)) (hx:a.eval xo=.int .i64 (c:Int)) (hv:a.eval vo=v)
  (h:TabN w m k f) (hk:k≤29) (hK:∀ w',TabN w' m (k+1) (putN f c v)→w.grownBy w' (some m)→wpList Tryz.prog ops Q rest (a.put o.dst undef) w'):wpList Tryz.prog ops Q (o::rest) a w:=by
 refine wpList_plain hgd fun K' hK'=>?_
 obtain⟨w',hrun,r1,r2⟩:=h.put hk c hc v
 unfold Oper.wp
 simp[execOp,hop,hm,hx,hv,hrun,Result.andThen]
 exact hK' _ _ (hK w' r1 r2)
end
theorem puts_eq (g c:Nat):putN (putN (putN (putN (putN (fun _=>none) 1 (fnv 72 g)) 2 (fnv 73 g)) 5 (fnv 74 g)) 4 (fnv 75 g)) 3 (fnv 76 g) c=putsT g c:=by
 simp only[putN,putsT]
 by_cases h1:c=1
 ·subst h1;rfl
 by_cases h2:c=2
 ·subst h2;rfl
 by_cases h3:c=3
 ·subst h3;rfl
 by_cases h4:c=4
 ·subst h4;rfl
 by_cases h5:c=5
 ·subst h5;rfl
 simp[h1,h2,h3,h4,h5]
theorem TabN.tab {W:World} {m k:Nat} {f f':Nat→Option Value} (h:TabN W m k f) (hk:k≤30) (he:∀ c,f c=f' c):Tab W m f':=by
 obtain⟨D,n,h1,h2,h3⟩:=h
 exact⟨D,n,h1,by omega,fun c=>by rw[←he c];exact h3 c⟩
theorem TabN.kept {W W':World} {m k:Nat} {f:Nat→Option Value} {row:Option Nat} (h:TabN W m k f) (hg:W.grownBy W' row) (hne:some m≠row):TabN W' m k f:=by
 obtain⟨D,n,h1,h2,h3⟩:=h
 exact⟨D,n,h1.kept hg hne,h2,h3⟩
def On (W w:World) (cs:Array Value):Prop:=w.heap[W.heap.size+1]?=some (.cells cs 94 (0,0))∧Later W w
theorem On.grown {W w w':World} {cs:Array Value} {m:Nat} (h:On W w cs) (hg:w.grownBy w' (some m)) (hm:W.heap.size+1<m):On W w' cs:=
 ⟨grown_cells hg h.1 (by omega),later_of_new h.2 hg (by omega)⟩
theorem open_v (X0:Nat→Prop) (va:Value) (e:E) (W:World) (h:Ap X0 W va e) (hx0:∀ k,X0 k→k<W.heap.size) (hs:Sm e=true) (hu:Rises e.vars) (hd:Vd W) (hT0:Ar.Tb0 W):Calls Tryz.prog 47 #[va] W fun x W'=>∃ g m,x=.returned (.pointer (some ⟨g,0,none⟩))∧W.heap.size≤g∧Wt W' (fun k=>X0 k∨(W.heap.size≤k∧k<W'.heap.size)) g m e∧Later W W':=by
 have HRD:=Lib.hid h
 have HX0:=Lib.hid hx0
 obtain⟨v0,A,n,c,rfl,hv,_⟩:=h.rd
 obtain⟨Av,cv,rfl,_⟩:=hv.le
 have HSU:=Lib.hid (And.intro hs (And.intro hu hd))
 have HTB0:=Lib.hid hT0
 clear hT0
 have hmf:∀ (fn:Fn) (first cap:Array Value) (w:World),(Instr.makeFunc fn first cap).run Tryz.prog w=.ok (.func fn first cap) w:=fun _ _ _ _=>rfl
 have hmm:=@run_makeMap Tryz.prog
 obtain⟨st,hst⟩:∃ st:Int,st=e.status:=⟨_,rfl⟩
 obtain⟨fl,hfl⟩:∃ fl,fl=mkS e.flags:=⟨_,rfl⟩
 obtain⟨nv,hnv⟩:∃ nv,nv=e.vars.length:=⟨_,rfl⟩
 have HST:=Lib.hid hst
 have HFL:=Lib.hid hfl
 have HNV:=Lib.hid hnv
 rw[←hst,←hfl,←hnv]
 have h0:On W ((((W.alloc (.cells #[.slice Av nv cv,.slice A n c,.int .i64 st,.string fl] 28)).alloc (.cells #[.slice Av nv cv,.slice A n c,.int .i64 st,.string fl,.map none] 94)).alloc (.map #[] 0))) (#[.slice Av nv cv,.slice A n c,.int .i64 st,.string fl,.map none]):=by
  have h1:=heap_alloc_new (W.alloc (.cells #[.slice Av nv cv,.slice A n c,.int .i64 st,.string fl] 28)) (.cells #[.slice Av nv cv,.slice A n c,.int .i64 st,.string fl,.map none] 94)
  rw[World.size_alloc] at h1
  exact⟨later_cells (Later.alloc _ _) h1,((Later.alloc _ _).trans (Later.alloc _ _)).trans (Later.alloc _ _)⟩
 have HO0:=Lib.hid h0
 have ht0:=TabN.made ((W.alloc (.cells #[.slice Av nv cv,.slice A n c,.int .i64 st,.string fl] 28)).alloc (.cells #[.slice Av nv cv,.slice A n c,.int .i64 st,.string fl,.map none] 94))
 rw[World.size_alloc,World.size_alloc] at ht0
 have HT0:=Lib.hid ht0
 clear h hx0 hv hs hu hd hst hfl hnv h0 ht0
 go_enter Tryz.func47,Tryz.ntmps47
 go_wp2_with (first
  |(refine wpList_tabIns _ rfl (.tmp 8) (.const (.int .i64 1)) (.tmp 10) rfl (W.heap.size+1+1) 0 _ 1 (by omega) (fnv 72 (W.heap.size+1)) rfl rfl rfl HT0.out (by omega) ?_;intro w1 ht hg;(have HT1:=Lib.hid ht);(have HO1:=Lib.hid (HO0.out.grown hg (by omega)));clear ht hg)
  |(refine wpList_tabIns _ rfl (.tmp 8) (.const (.int .i64 2)) (.tmp 12) rfl (W.heap.size+1+1) 1 _ 2 (by omega) (fnv 73 (W.heap.size+1)) rfl rfl rfl HT1.out (by omega) ?_;intro w2 ht hg;(have HT2:=Lib.hid ht);(have HO2:=Lib.hid (HO1.out.grown hg (by omega)));clear ht hg)
  |(refine wpList_tabIns _ rfl (.tmp 8) (.const (.int .i64 5)) (.tmp 14) rfl (W.heap.size+1+1) 2 _ 5 (by omega) (fnv 74 (W.heap.size+1)) rfl rfl rfl HT2.out (by omega) ?_;intro w3 ht hg;(have HT3:=Lib.hid ht);(have HO3:=Lib.hid (HO2.out.grown hg (by omega)));clear ht hg)
  |(refine wpList_tabIns _ rfl (.tmp 8) (.const (.int .i64 4)) (.tmp 16) rfl (W.heap.size+1+1) 3 _ 4 (by omega) (fnv 75 (W.heap.size+1)) rfl rfl rfl HT3.out (by omega) ?_;intro w4 ht hg;(have HT4:=Lib.hid ht);(have HO4:=Lib.hid (HO3.out.grown hg (by omega)));clear ht hg)
  |(refine wpList_tabIns _ rfl (.tmp 8) (.const (.int .i64 3)) (.tmp 18) rfl (W.heap.size+1+1) 4 _ 3 (by omega) (fnv 76 (W.heap.size+1)) rfl rfl rfl HT4.out (by omega) ?_;intro w5 ht hg;(have HT5:=Lib.hid ht);(have HO5:=Lib.hid (HO4.out.grown hg (by omega)));clear ht hg;have q4:=(cell_row HO5.out.1 4).1;have z4:=fun i=>(cell_row HO5.out.1 i).2))
 have hs1:=set_only w5 (W.heap.size+1) 4 (.map (some (W.heap.size+1+1)))
 have hb5:=set_row HO5.out.1 4 (.map (some (W.heap.size+1+1)))
 obtain⟨w6,hw6⟩:∃ w6,w6=w5.setCell ⟨W.heap.size+1,4,none⟩ (.map (some (W.heap.size+1+1))):=⟨_,rfl⟩
 rw[←hw6] at hs1 hb5⊢
 clear hw6
 have HL6:=Lib.hid (later_of_new HO5.out.2 hs1 (by omega))
 have HB6:=Lib.hid hb5
 have HT6:=Lib.hid (HT5.out.kept hs1 (fun e=>by have:=Option.some.inj e;omega))
 have hlt6:=lt_of_block hb5
 clear hs1 hb5
 go_wp2
 go_ret
 obtain⟨hs,hu,hd⟩:=HSU.out
 have hv:=vd_lt hd
 refine⟨W.heap.size+1,W.heap.size+1+1,rfl,by omega,⟨⟨.slice Av nv cv,.slice A n c,by rw[wc,←HST.out,←HFL.out];exact HB6.out,?_⟩,(.inr ⟨by omega,hlt6⟩),(fun k hk=>by rcases hk with hk | hk;exact Nat.lt_of_lt_of_le (HX0.out k hk) HL6.out.size;exact hk.2),HT6.out.tab (by omega) (puts_eq _),hs,hu,hd.later HL6.out,⟨by omega,by omega,by omega⟩,(HTB0.out.at_ (g:=W.heap.size+1) (by omega)).kept (grown_of_later HL6.out _)⟩,HL6.out⟩
 have hrd:=HRD.out
 rw[HNV.out]
 exact hrd.wide HL6.out
end Ey
end Go.Proofs.YtipdgmjplnibeaaGreatDoor
