import Derived.Test.YtipdgmjplnibeaaGreatDoorAt
set_option maxRecDepth 100000
set_option maxHeartbeats 3200000
namespace Go.Proofs.YtipdgmjplnibeaaGreatDoor
open Go.RowKit Go.Maps
namespace Ar
theorem all_ok (k:Nat):ExOk k∧BtOk k∧SgOk k:=by
 induction k using Nat.strongRecOn with
 | ind k ih=>exact⟨expression_v fun j hj=>⟨(ih j hj).1,(ih j hj).2.1⟩,between_v fun j hj=>(ih j hj).2,single_v fun j hj=>⟨(ih j hj).1,(ih j hj).2.2⟩⟩
theorem TabS.made (W:World):TabS (W.alloc (.map #[] 0)) W.heap.size 0 fun _=>none:=
 ⟨.map [],0,World.ownsMap_made W _ _ _,by omega,fun c=>⟨rfl,fun z=>rfl⟩⟩
theorem TabS.congr {W:World} {m k:Nat} {f f':L→Option Value} (h:TabS W m k f) (he:∀ c,f c=f' c):TabS W m k f':=by
 obtain⟨D,n,h1,h2,h3⟩:=h
 exact⟨D,n,h1,h2,fun c=>by rw[←he c];exact h3 c⟩
theorem TabS.more {W:World} {m k k':Nat} {f:L→Option Value} (h:TabS W m k f) (hk:k≤k'):TabS W m k' f:=by
 obtain⟨D,n,h1,h2,h3⟩:=h
 exact⟨D,n,h1,by omega,h3⟩
def putS (f:L→Option Value) (c:L) (v:Value):L→Option Value:=fun x=>if x=c then some v else f x
theorem str_ne {a b:L} (h:a≠b):(Lit.string a)≠.string b:=by
 intro e
 injection e with e
 exact h e
theorem TabS.put1 {W:World} {m k:Nat} {f:L→Option Value} (h:TabS W m k f) (hk:k≤29) (c:L) (hc:c.length≤5000) (v:Value):∃ W',(Instr.mapUpdate 186 (.map (some m)) (sv c) v).run Tryz.prog W=.ok () W'∧TabS W' m (k+1) (putS f c v)∧W.grownBy W' (some m):=by
 obtain⟨D,n,h1,h2,h3⟩:=h
 obtain⟨W',hr,h4,h5⟩:=h1.update str_keyed Tryz.underlying186 (by unfold maxLen;omega) (keyOf_str c hc) (val:=v) (d:=.held v) (ps:=[]) rfl
 refine⟨W',hr,⟨_,n+1,h4,by omega,fun x=>?_⟩,h5⟩
 unfold putS
 by_cases hx:x=c
 ·subst hx
  rw[if_pos rfl]
  exact⟨has_put_same h1.isMap (show WideAt.IsKeyLit (.string x) from trivial) _,fun z=>atKey_put_same h1.isMap (show WideAt.IsKeyLit (.string x) from trivial) _ _⟩
 ·rw[if_neg hx,has_put_other (str_ne hx)]
  exact⟨(h3 x).1,fun z=>by rw[atKey_put_other (str_ne hx)];exact(h3 x).2 z⟩
theorem wpList_ins1 {ops:Array Oper} {rest:List Oper} {o:Oper} {a:Act} {Q:Exit→Act→World→Prop} (w:World) (hgd:o.guard=none) (mo xo vo:Operand) (hop:o.op=.insert 186 mo xo vo) (m k:Nat) (f:L→Option Value) (c:L) (hc:c.length≤5000) (v:Value) (hm:a.eval mo=.map (some m)) (hx:a.eval xo=sv c) (hv:a.eval vo=v)
  (h:TabS w m k f) (hk:k≤29) (hK:∀ w',TabS w' m (k+1) (putS f c v)→w.grownBy w' (some m)→wpList Tryz.prog ops Q rest (a.put o.dst undef) w'):wpList Tryz.prog ops Q (o::rest) a w:=by
 refine wpList_plain hgd fun K' hK'=>?_
 obtain⟨w',hrun,r1,r2⟩:=h.put1 hk c hc v
 unfold Oper.wp
 simp[execOp,hop,hm,hx,hv,hrun,Result.andThen]
 exact hK' _ _ (hK w' r1 r2)
theorem TabS.put2 {W:World} {m k:Nat} {f:L→Option Value} (h:TabS W m k f) (hk:k≤29) (c:L) (hc:c.length≤5000) (v:Value):∃ W',(Instr.mapUpdate 187 (.map (some m)) (sv c) v).run Tryz.prog W=.ok () W'∧TabS W' m (k+1) (putS f c v)∧W.grownBy W' (some m):=by
 obtain⟨D,n,h1,h2,h3⟩:=h
 obtain⟨W',hr,h4,h5⟩:=h1.update str_keyed Tryz.underlying187 (by unfold maxLen;omega) (keyOf_str c hc) (val:=v) (d:=.held v) (ps:=[]) rfl
 refine⟨W',hr,⟨_,n+1,h4,by omega,fun x=>?_⟩,h5⟩
 unfold putS
 by_cases hx:x=c
 ·subst hx
  rw[if_pos rfl]
  exact⟨has_put_same h1.isMap (show WideAt.IsKeyLit (.string x) from trivial) _,fun z=>atKey_put_same h1.isMap (show WideAt.IsKeyLit (.string x) from trivial) _ _⟩
 ·rw[if_neg hx,has_put_other (str_ne hx)]
  exact⟨(h3 x).1,fun z=>by rw[atKey_put_other (str_ne hx)];exact(h3 x).2 z⟩
theorem wpList_ins2 {ops:Array Oper} {rest:List Oper} {o:Oper} {a:Act} {Q:Exit→Act→World→Prop} (w:World) (hgd:o.guard=none) (mo xo vo:Operand) (hop:o.op=.insert 187 mo xo vo) (m k:Nat) (f:L→Option Value) (c:L) (hc:c.length≤5000) (v:Value) (hm:a.eval mo=.map (some m)) (hx:a.eval xo=sv c) (hv:a.eval vo=v)
  (h:TabS w m k f) (hk:k≤29) (hK:∀ w',TabS w' m (k+1) (putS f c v)→w.grownBy w' (some m)→wpList Tryz.prog ops Q rest (a.put o.dst undef) w'):wpList Tryz.prog ops Q (o::rest) a w:=by
 refine wpList_plain hgd fun K' hK'=>?_
 obtain⟨w',hrun,r1,r2⟩:=h.put2 hk c hc v
 unfold Oper.wp
 simp[execOp,hop,hm,hx,hv,hrun,Result.andThen]
 exact hK' _ _ (hK w' r1 r2)
theorem alone_eq (c:L):putS (putS (putS (putS ((fun _=>none)) [33] (fn0 183)) [126] (fn0 185)) [43] (fn0 186)) [45] (fn0 187) c=aheadT c:=by
 simp only[putS,aheadT]
 by_cases h0:c=[33]
 ·subst h0;rfl
 by_cases h1:c=[126]
 ·subst h1;rfl
 by_cases h2:c=[43]
 ·subst h2;rfl
 by_cases h3:c=[45]
 ·subst h3;rfl
 simp[h0,h1,h2,h3]
theorem both_eq (b:Nat) (c:L):putS (putS (putS (putS (putS (putS (putS (putS (putS (putS (putS (putS (putS (putS (putS (putS (putS (putS ((fun _=>none)) [124,124] (fn0 188)) [38,38] (fn0 189)) [124] (fn0 190)) [94] (fn0 191)) [38] (fn0 192)) [61,61] (fn0 193)) [33,61] (fn0 194)) [60] (fn0 195)) [60,61] (fn0 196)) [62] (fn0 197)) [62,61] (fn0 198)) [60,60] (fn0 199)) [62,62] (fn0 200)) [43] (fn0 201)) [45] (fn0 202)) [42] (fn0 203)) [47] (fnB 204 b)) [37] (fnB 206 b) c=pairT b c:=by
 simp only[putS,pairT]
 by_cases h0:c=[124,124]
 ·subst h0;rfl
 by_cases h1:c=[38,38]
 ·subst h1;rfl
 by_cases h2:c=[124]
 ·subst h2;rfl
 by_cases h3:c=[94]
 ·subst h3;rfl
 by_cases h4:c=[38]
 ·subst h4;rfl
 by_cases h5:c=[61,61]
 ·subst h5;rfl
 by_cases h6:c=[33,61]
 ·subst h6;rfl
 by_cases h7:c=[60]
 ·subst h7;rfl
 by_cases h8:c=[60,61]
 ·subst h8;rfl
 by_cases h9:c=[62]
 ·subst h9;rfl
 by_cases h10:c=[62,61]
 ·subst h10;rfl
 by_cases h11:c=[60,60]
 ·subst h11;rfl
 by_cases h12:c=[62,62]
 ·subst h12;rfl
 by_cases h13:c=[43]
 ·subst h13;rfl
 by_cases h14:c=[45]
 ·subst h14;rfl
 by_cases h15:c=[42]
 ·subst h15;rfl
 by_cases h16:c=[47]
 ·subst h16;rfl
 by_cases h17:c=[37]
 ·subst h17;rfl
 simp[h0,h1,h2,h3,h4,h5,h6,h7,h8,h9,h10,h11,h12,h13,h14,h15,h16,h17]
theorem alone_v (W:World):Calls Tryz.prog 160 #[] W fun e W'=>e=.returned (.map (some W.heap.size))∧TabS W' W.heap.size 30 aheadT∧Later W W':=by
 have hmm:=@run_makeMap Tryz.prog
 have HT0:=Lib.hid (TabS.made W)
 have HL0:=Lib.hid (Later.alloc W (.map #[] 0))
 go_enter Tryz.func160,Tryz.ntmps160
 go_wp2_with (first
  |(refine wpList_ins1 _ rfl (.tmp 1) (.const (.string ⟨#[33]⟩)) (.func 183) rfl W.heap.size 0 _ [33] (by simp) (fn0 183) rfl rfl rfl HT0.out (by omega) ?_;intro w1 ht hg;have HT1:=Lib.hid ht;have HL1:=Lib.hid (later_of_new HL0.out hg (Nat.le_refl _));clear ht hg)
  |(refine wpList_ins1 _ rfl (.tmp 1) (.const (.string ⟨#[126]⟩)) (.func 185) rfl W.heap.size 1 _ [126] (by simp) (fn0 185) rfl rfl rfl HT1.out (by omega) ?_;intro w2 ht hg;have HT2:=Lib.hid ht;have HL2:=Lib.hid (later_of_new HL1.out hg (Nat.le_refl _));clear ht hg)
  |(refine wpList_ins1 _ rfl (.tmp 1) (.const (.string ⟨#[43]⟩)) (.func 186) rfl W.heap.size 2 _ [43] (by simp) (fn0 186) rfl rfl rfl HT2.out (by omega) ?_;intro w3 ht hg;have HT3:=Lib.hid ht;have HL3:=Lib.hid (later_of_new HL2.out hg (Nat.le_refl _));clear ht hg)
  |(refine wpList_ins1 _ rfl (.tmp 1) (.const (.string ⟨#[45]⟩)) (.func 187) rfl W.heap.size 3 _ [45] (by simp) (fn0 187) rfl rfl rfl HT3.out (by omega) ?_;intro w4 ht hg;have HT4:=Lib.hid ht;have HL4:=Lib.hid (later_of_new HL3.out hg (Nat.le_refl _));clear ht hg))
 go_ret
 exact⟨rfl,(HT4.out.congr alone_eq).more (by omega),HL4.out⟩
theorem both_v (W:World) (g:Nat):Calls Tryz.prog 161 #[.pointer (some ⟨g,0,none⟩)] W fun e W'=>e=.returned (.map (some (W.heap.size+1)))∧TabS W' (W.heap.size+1) 30 (pairT W.heap.size)∧Later W W'∧W'.heap[W.heap.size]?=some (.cells #[.pointer (some ⟨g,0,none⟩)] 183 (0,0)):=by
 have hmm:=@run_makeMap Tryz.prog
 obtain⟨wb,hwb⟩:∃ wb,wb=W.alloc (.cells #[.pointer (some ⟨g,0,none⟩)] 183):=⟨_,rfl⟩
 have hsz:wb.heap.size=W.heap.size+1:=by rw[hwb];simp
 have ht0:=TabS.made wb
 rw[hsz] at ht0
 have HT0:=Lib.hid (show TabS ((W.alloc (.cells #[.pointer (some ⟨g,0,none⟩)] 183)).alloc (.map #[] 0)) (W.heap.size+1) 0 fun _=>none by rw[←hwb];exact ht0)
 have HL0:=Lib.hid (show Later wb ((W.alloc (.cells #[.pointer (some ⟨g,0,none⟩)] 183)).alloc (.map #[] 0)) by rw[hwb];exact Later.alloc _ _)
 have HB:=Lib.hid (show wb.heap[W.heap.size]?=some (.cells #[.pointer (some ⟨g,0,none⟩)] 183 (0,0)) by rw[hwb];exact heap_alloc_new W _)
 have HLW:=Lib.hid (show Later W wb by rw[hwb];exact Later.alloc _ _)
 have HSZ:=Lib.hid hsz
 clear hwb hsz ht0
 go_enter Tryz.func161,Tryz.ntmps161
 go_wp2_with (first
  |(refine wpList_ins2 _ rfl (.tmp 3) (.const (.string ⟨#[124,124]⟩)) (.func 188) rfl (W.heap.size+1) 0 _ [124,124] (by simp) (fn0 188) rfl rfl rfl HT0.out (by omega) ?_;intro w1 ht hg;have HT1:=Lib.hid ht;have HL1:=Lib.hid (later_of_new HL0.out hg (by rw[HSZ.out];exact Nat.le_refl _));clear ht hg)
  |(refine wpList_ins2 _ rfl (.tmp 3) (.const (.string ⟨#[38,38]⟩)) (.func 189) rfl (W.heap.size+1) 1 _ [38,38] (by simp) (fn0 189) rfl rfl rfl HT1.out (by omega) ?_;intro w2 ht hg;have HT2:=Lib.hid ht;have HL2:=Lib.hid (later_of_new HL1.out hg (by rw[HSZ.out];exact Nat.le_refl _));clear ht hg)
  |(refine wpList_ins2 _ rfl (.tmp 3) (.const (.string ⟨#[124]⟩)) (.func 190) rfl (W.heap.size+1) 2 _ [124] (by simp) (fn0 190) rfl rfl rfl HT2.out (by omega) ?_;intro w3 ht hg;have HT3:=Lib.hid ht;have HL3:=Lib.hid (later_of_new HL2.out hg (by rw[HSZ.out];exact Nat.le_refl _));clear ht hg)
  |(refine wpList_ins2 _ rfl (.tmp 3) (.const (.string ⟨#[94]⟩)) (.func 191) rfl (W.heap.size+1) 3 _ [94] (by simp) (fn0 191) rfl rfl rfl HT3.out (by omega) ?_;intro w4 ht hg;have HT4:=Lib.hid ht;have HL4:=Lib.hid (later_of_new HL3.out hg (by rw[HSZ.out];exact Nat.le_refl _));clear ht hg)
  |(refine wpList_ins2 _ rfl (.tmp 3) (.const (.string ⟨#[38]⟩)) (.func 192) rfl (W.heap.size+1) 4 _ [38] (by simp) (fn0 192) rfl rfl rfl HT4.out (by omega) ?_;intro w5 ht hg;have HT5:=Lib.hid ht;have HL5:=Lib.hid (later_of_new HL4.out hg (by rw[HSZ.out];exact Nat.le_refl _));clear ht hg)
  |(refine wpList_ins2 _ rfl (.tmp 3) (.const (.string ⟨#[61,61]⟩)) (.func 193) rfl (W.heap.size+1) 5 _ [61,61] (by simp) (fn0 193) rfl rfl rfl HT5.out (by omega) ?_;intro w6 ht hg;have HT6:=Lib.hid ht;have HL6:=Lib.hid (later_of_new HL5.out hg (by rw[HSZ.out];exact Nat.le_refl _));clear ht hg)
  |(refine wpList_ins2 _ rfl (.tmp 3) (.const (.string ⟨#[33,61]⟩)) (.func 194) rfl (W.heap.size+1) 6 _ [33,61] (by simp) (fn0 194) rfl rfl rfl HT6.out (by omega) ?_;intro w7 ht hg;have HT7:=Lib.hid ht;have HL7:=Lib.hid (later_of_new HL6.out hg (by rw[HSZ.out];exact Nat.le_refl _));clear ht hg)
  |(refine wpList_ins2 _ rfl (.tmp 3) (.const (.string ⟨#[60]⟩)) (.func 195) rfl (W.heap.size+1) 7 _ [60] (by simp) (fn0 195) rfl rfl rfl HT7.out (by omega) ?_;intro w8 ht hg;have HT8:=Lib.hid ht;have HL8:=Lib.hid (later_of_new HL7.out hg (by rw[HSZ.out];exact Nat.le_refl _));clear ht hg)
  |(refine wpList_ins2 _ rfl (.tmp 3) (.const (.string ⟨#[60,61]⟩)) (.func 196) rfl (W.heap.size+1) 8 _ [60,61] (by simp) (fn0 196) rfl rfl rfl HT8.out (by omega) ?_;intro w9 ht hg;have HT9:=Lib.hid ht;have HL9:=Lib.hid (later_of_new HL8.out hg (by rw[HSZ.out];exact Nat.le_refl _));clear ht hg)
  |(refine wpList_ins2 _ rfl (.tmp 3) (.const (.string ⟨#[62]⟩)) (.func 197) rfl (W.heap.size+1) 9 _ [62] (by simp) (fn0 197) rfl rfl rfl HT9.out (by omega) ?_;intro w10 ht hg;have HT10:=Lib.hid ht;have HL10:=Lib.hid (later_of_new HL9.out hg (by rw[HSZ.out];exact Nat.le_refl _));clear ht hg)
  |(refine wpList_ins2 _ rfl (.tmp 3) (.const (.string ⟨#[62,61]⟩)) (.func 198) rfl (W.heap.size+1) 10 _ [62,61] (by simp) (fn0 198) rfl rfl rfl HT10.out (by omega) ?_;intro w11 ht hg;have HT11:=Lib.hid ht;have HL11:=Lib.hid (later_of_new HL10.out hg (by rw[HSZ.out];exact Nat.le_refl _));clear ht hg)
  |(refine wpList_ins2 _ rfl (.tmp 3) (.const (.string ⟨#[60,60]⟩)) (.func 199) rfl (W.heap.size+1) 11 _ [60,60] (by simp) (fn0 199) rfl rfl rfl HT11.out (by omega) ?_;intro w12 ht hg;have HT12:=Lib.hid ht;have HL12:=Lib.hid (later_of_new HL11.out hg (by rw[HSZ.out];exact Nat.le_refl _));clear ht hg)
  |(refine wpList_ins2 _ rfl (.tmp 3) (.const (.string ⟨#[62,62]⟩)) (.func 200) rfl (W.heap.size+1) 12 _ [62,62] (by simp) (fn0 200) rfl rfl rfl HT12.out (by omega) ?_;intro w13 ht hg;have HT13:=Lib.hid ht;have HL13:=Lib.hid (later_of_new HL12.out hg (by rw[HSZ.out];exact Nat.le_refl _));clear ht hg)
  |(refine wpList_ins2 _ rfl (.tmp 3) (.const (.string ⟨#[43]⟩)) (.func 201) rfl (W.heap.size+1) 13 _ [43] (by simp) (fn0 201) rfl rfl rfl HT13.out (by omega) ?_;intro w14 ht hg;have HT14:=Lib.hid ht;have HL14:=Lib.hid (later_of_new HL13.out hg (by rw[HSZ.out];exact Nat.le_refl _));clear ht hg)
  |(refine wpList_ins2 _ rfl (.tmp 3) (.const (.string ⟨#[45]⟩)) (.func 202) rfl (W.heap.size+1) 14 _ [45] (by simp) (fn0 202) rfl rfl rfl HT14.out (by omega) ?_;intro w15 ht hg;have HT15:=Lib.hid ht;have HL15:=Lib.hid (later_of_new HL14.out hg (by rw[HSZ.out];exact Nat.le_refl _));clear ht hg)
  |(refine wpList_ins2 _ rfl (.tmp 3) (.const (.string ⟨#[42]⟩)) (.func 203) rfl (W.heap.size+1) 15 _ [42] (by simp) (fn0 203) rfl rfl rfl HT15.out (by omega) ?_;intro w16 ht hg;have HT16:=Lib.hid ht;have HL16:=Lib.hid (later_of_new HL15.out hg (by rw[HSZ.out];exact Nat.le_refl _));clear ht hg)
  |(refine wpList_ins2 _ rfl (.tmp 3) (.const (.string ⟨#[47]⟩)) (.tmp 4) rfl (W.heap.size+1) 16 _ [47] (by simp) (fnB 204 W.heap.size) rfl rfl rfl HT16.out (by omega) ?_;intro w17 ht hg;have HT17:=Lib.hid ht;have HL17:=Lib.hid (later_of_new HL16.out hg (by rw[HSZ.out];exact Nat.le_refl _));clear ht hg)
  |(refine wpList_ins2 _ rfl (.tmp 3) (.const (.string ⟨#[37]⟩)) (.tmp 5) rfl (W.heap.size+1) 17 _ [37] (by simp) (fnB 206 W.heap.size) rfl rfl rfl HT17.out (by omega) ?_;intro w18 ht hg;have HT18:=Lib.hid ht;have HL18:=Lib.hid (later_of_new HL17.out hg (by rw[HSZ.out];exact Nat.le_refl _));clear ht hg)
  |(refine wpList_mkC _ rfl 204 (.tmp 1) rfl W.heap.size rfl ?_)
  |(refine wpList_mkC _ rfl 206 (.tmp 1) rfl W.heap.size rfl ?_))
 go_ret
 exact⟨rfl,(HT18.out.congr (both_eq _)).more (by omega),HLW.out.trans HL18.out,later_cells HL18.out HB.out⟩
end Ar
end Go.Proofs.YtipdgmjplnibeaaGreatDoor
namespace Go.Proofs.YtipdgmjplnibeaaGreatDoor
open Go.RowKit Go.Maps
namespace Ar
structure Tb0 (W:World):Prop where
 lg:∀ i:Nat,i<9→W.cell? ⟨7,i,none⟩=some (.string (mkS (longs.getD i [])))
 rw:∃ (ad:Nat→Addr) (cp:Nat→Nat),∀ i:Nat,i<10→W.cell? ⟨8,i,none⟩=some (.slice (some (ad i)) (rows.getD i []).length (cp i))∧∀ j:Nat,j<(rows.getD i []).length→W.cell? ((ad i).add j)=some (.string (mkS ((rows.getD i []).getD j [])))
theorem cell_later {W W':World} {p:Addr} {v:Value} (hl:Later W W') (h:W.cell? p=some v):W'.cell? p=some v:=cell_only (g:=p.block+1) (grown_of_later hl _) (by omega) h
theorem Tb0.later {W W':World} (h:Tb0 W) (hl:Later W W'):Tb0 W':=by
 obtain⟨h1,ad,cp,h2⟩:=h
 exact⟨fun i hi=>cell_later hl (h1 i hi),ad,cp,fun i hi=>⟨cell_later hl (h2 i hi).1,fun j hj=>cell_later hl ((h2 i hi).2 j hj)⟩⟩
theorem Tb0.at_ {W:World} (h:Tb0 W) {g:Nat} (hg:W.heap.size≤g):Tb W g:=by
 obtain⟨h1,ad,cp,h2⟩:=h
 have a0:=World.block_lt_of_cell? W _ (h1 0 (by omega))
 have a1:=World.block_lt_of_cell? W _ (h2 0 (by omega)).1
 refine⟨by dsimp only at a0;omega,by dsimp only at a1;omega,h1,ad,cp,fun i hi=>⟨?_,h2 i hi⟩⟩
 have hl:0<(rows.getD i []).length:=by
  have:∀ i:Fin 10,0<(rows.getD i.1 []).length:=by decide
  exact this ⟨i,hi⟩
 have:=World.block_lt_of_cell? W _ ((h2 i hi).2 0 hl)
 rw[block_add] at this
 omega
def Vars0 (W:World) (v:Value) (vs:Vars):Prop:=
 ((vs=[]∧∃ A c,v=.slice A 0 c)∨∃ b o c,v=.slice (some ⟨b,o,none⟩) vs.length c∧b<W.heap.size∧∀ (k:Nat) (h:k<vs.length),W.cell? ⟨b,o+k*2,none⟩=some (.string (mkS vs[k].1))∧W.cell? ⟨b,o+k*2+1,none⟩=some (.string (mkS vs[k].2)))∧(∀ p∈vs,p.1.length≤4000∧p.2.length≤4000)∧vs.length≤4000
theorem Vars0.later {W W':World} {v:Value} {vs:Vars} (h:Vars0 W v vs) (hl:Later W W'):Vars0 W' v vs:=by
 refine⟨?_,h.2⟩
 rcases h.1 with h | ⟨b,o,c,h1,h0,h2⟩
 ·exact .inl h
 ·exact .inr ⟨b,o,c,h1,Nat.lt_of_lt_of_le h0 hl.size,fun k hk=>⟨cell_later hl (h2 k hk).1,cell_later hl (h2 k hk).2⟩⟩
theorem Vars0.at_ {W:World} {v:Value} {vs:Vars} (h:Vars0 W v vs) {g:Nat} (hg:W.heap.size≤g):VarsAt W g v vs:=by
 rcases h.1 with h | ⟨b,o,c,h1,h0,h2⟩
 ·exact .inl h
 ·exact .inr ⟨b,o,c,by omega,h1,h2⟩
def st0 (l:L):St:=⟨[],l,0,0,0⟩
def row0 (l:L) (v:Value) (ma:Nat):Array Value:=#[.string ⟨#[]⟩,.string (mkS l),v,.int .i64 0,.int .i64 0,.int .i64 0,.int .i64 0,.map (some ma),.map none]
theorem opened {W w1 wa w2:World} {v:Value} {vs:Vars} {l:L} (hT:Tb0 W) (hV:Vars0 W v vs) (hl:l.length≤4000) (ht1:TabS w1 W.heap.size 30 aheadT) (hl1:Later W w1) (hwa:wa=w1.alloc (.cells (row0 l v W.heap.size) 189)) (ht2:TabS w2 (wa.heap.size+1) 30 (pairT wa.heap.size)) (hl2:Later wa w2) (hb2:w2.heap[wa.heap.size]?=some (.cells #[.pointer (some ⟨w1.heap.size,0,none⟩)] 183 (0,0))) :
  w2.cell? ⟨w1.heap.size,8,none⟩=some (.map none)∧w2.frozen? ⟨w1.heap.size,8,none⟩=false∧RM (w2.setCell ⟨w1.heap.size,8,none⟩ (.map (some (wa.heap.size+1)))) w1.heap.size ⟨W.heap.size,wa.heap.size+1,wa.heap.size,v,vs⟩ (st0 l)∧Later W (w2.setCell ⟨w1.heap.size,8,none⟩ (.map (some (wa.heap.size+1)))):=by
 have hsz:wa.heap.size=w1.heap.size+1:=by rw[hwa];simp
 have hla:Later w1 wa:=by rw[hwa];exact Later.alloc _ _
 have hg0:wa.heap[w1.heap.size]?=some (.cells (row0 l v W.heap.size) 189 (0,0)):=by rw[hwa];exact heap_alloc_new _ _
 have hg:=later_cells hl2 hg0
 have hlt1:=ht1.lt
 have hss:=set_only w2 w1.heap.size 8 (.map (some (wa.heap.size+1)))
 have hne1:some W.heap.size≠some w1.heap.size:=fun e=>by injection e with e;omega
 have hne2:some (wa.heap.size+1)≠some w1.heap.size:=fun e=>by injection e with e;omega
 have hLL:=hl1.trans (hla.trans hl2)
 have hW1:=hl1.size
 refine⟨(cell_row hg 8).1,(cell_row hg 8).2,⟨?_,⟨?_,?_,by show W.heap.size≠_;omega,by show wa.heap.size+1≠_;omega,by show wa.heap.size≠_;omega,?_,?_,hV.2.1,hV.2.2,?_⟩,Nat.zero_le _,by unfold m st0;simp;exact hl⟩,later_of_new hLL hss (by omega)⟩
 ·rw[set_row hg];rfl
 ·exact(ht1.kept (grown_of_later (hla.trans hl2) none) (by simp)).kept hss hne1
 ·exact ht2.kept hss hne2
 ·exact(hss.block _ (lt_of_block hb2) (fun e=>by injection e with e;omega)).trans hb2
 ·rcases hV.1 with h0 | ⟨b,o,c,h1,h0,h2⟩
  ·exact .inl h0
  ·have hbb:b≠w1.heap.size:=by omega
   exact .inr ⟨b,o,c,hbb,h1,fun k hk=>⟨cell_only hss hbb (cell_later hLL (h2 k hk).1),cell_only hss hbb (cell_later hLL (h2 k hk).2)⟩⟩
 ·exact((hT.at_ (g:=w1.heap.size) hW1) |> fun h=>by
   obtain⟨n1,n2,_,ad,cp,h4⟩:=h
   have h0:=hT.later hLL
   have hk:Tb w2 w1.heap.size:=by
    refine⟨n1,n2,h0.lg,ad,cp,fun i hi=>⟨(h4 i hi).1,cell_later hLL (h4 i hi).2.1,fun j hj=>cell_later hLL ((h4 i hi).2.2 j hj)⟩⟩
   exact hk.kept hss)
theorem open_v (W:World) (hT:Tb0 W) (v:Value) (vs:Vars) (hV:Vars0 W v vs) (l:L) (hl:l.length≤4000):Calls Tryz.prog 137 #[.string (mkS l),v] W fun e W'=>∃ g C,e=.returned (.pointer (some ⟨g,0,none⟩))∧RM W' g C (pass (st0 l))∧C.vs=vs∧W.heap.size≤g∧Later W W':=by
 obtain⟨A,n,c,rfl⟩:∃ A n c,v=.slice A n c:=by
  rcases hV.1 with⟨_,_,_,rfl⟩ | ⟨b,_,_,rfl,_⟩
  ·exact⟨_,_,_,rfl⟩
  ·exact⟨_,_,_,rfl⟩
 have HT:=Lib.hid hT
 have HV:=Lib.hid hV
 have HLL:=Lib.hid hl
 clear hT hV hl
 go_enter Tryz.func137,Tryz.ntmps137
 go_wp2_with (first
  |(go_at_call 160;(with_reducible refine(alone_v _).mono ?_);rintro e w1 ⟨rfl,ht1,hl1⟩;have HT1:=Lib.hid ht1;have HL1:=Lib.hid hl1;clear ht1 hl1)
  |(go_at_call 161;obtain⟨wa,hwa⟩:∃ wa,wa=w1.alloc (.cells (row0 l (.slice A n c) W.heap.size) 189):=⟨_,rfl⟩;unfold row0 at hwa;rw[←hwa];(with_reducible refine(both_v wa _).mono ?_);rintro e w2 ⟨rfl,ht2,hl2,hb2⟩;obtain⟨q8,z8,h3,hl3⟩:=opened HT.out HV.out HLL.out HT1.out HL1.out hwa ht2 hl2 hb2;have H3:=Lib.hid h3;have HL3:=Lib.hid hl3;clear ht2 hl2 hb2 hwa h3 hl3)
  |(go_at_call 162;(with_reducible refine(pass_v H3.out).mono ?_);rintro e w4 ⟨rfl,h4,g4⟩;have H4:=Lib.hid h4;have G4:=Lib.hid g4;clear h4 g4))
 go_ret
 exact⟨_,_,rfl,H4.out,rfl,HL1.out.size,later_of_new HL3.out G4.out HL1.out.size⟩
def CE (w0:World) (ft:Nat) (j:Nat) (_u:Value) (w:World):Prop:=(j=0→w=w0.drew)∧(1≤j→w=w0.drew.alloc (.cells #[.int .i64 0,.int .i64 (ft:Int)] 31))∧(j=3→_u=.int .i64 (ft:Int))
theorem ce_at0 {w0 w:World} {ft:Nat} {u:Value} (h:CE w0 ft 0 u w):w=w0.drew:=h.1 rfl
theorem ce_at1 {w0 w:World} {ft:Nat} {u:Value} (h:CE w0 ft 1 u w):w=w0.drew.alloc (.cells #[.int .i64 0,.int .i64 (ft:Int)] 31):=h.2.1 (by omega)
theorem ce_at2 {w0 w:World} {ft:Nat} {u:Value} (h:CE w0 ft 2 u w):w=w0.drew.alloc (.cells #[.int .i64 0,.int .i64 (ft:Int)] 31):=h.2.1 (by omega)
theorem ce_at3 {w0 w:World} {ft:Nat} {u:Value} (h:CE w0 ft 3 u w):w=w0.drew.alloc (.cells #[.int .i64 0,.int .i64 (ft:Int)] 31)∧u=.int .i64 (ft:Int):=⟨h.2.1 (by omega),h.2.2 rfl⟩
theorem eval_v (W:World) (hT:Tb0 W) (v:Value) (vs:Vars) (hV:Vars0 W v vs) (l:L) (hl:l.length≤4000) {k:Nat} {n:Int} {t:St} (he:Ex vs k (pass (st0 l)) n t) (ht:t.tok=[]):Calls Tryz.prog 103 #[.string (mkS l),v] W fun e W'=>e=.returned (.tuple #[.int .i64 (if t.ft=0 then n else 0),.int .i64 (t.ft:Int)])∧Later W W':=by
 have HO:=Lib.hid (open_v W hT v vs hV l hl)
 have HX:=Lib.hid (fun w1 g C (hr:RM w1 g C (pass (st0 l))) (hc:C.vs=vs)=>(all_ok k).1 w1 g C _ n t hr (by rw[hc];exact he))
 have htk:=tok_is t.tok [] true (by rw[ht];rfl)
 obtain⟨res,hres⟩:∃ r,r=(if t.ft=0 then n else 0):=⟨_,rfl⟩
 rw[←hres]
 have HRES:=Lib.hid hres
 clear hT hV hl he ht hres
 go_enter Tryz.func103,Tryz.ntmps103
 go_wp2_with (first
  |(go_at_call 137;(with_reducible refine HO.out.mono ?_);rintro e w1 ⟨g,C,rfl,h1,hc,hg,hl1⟩;have H1:=Lib.hid h1;have HC:=Lib.hid hc;have HG:=Lib.hid hg;have HL1:=Lib.hid hl1;clear h1 hc hg hl1)
  |(go_at_call 138;(with_reducible refine(HX.out _ _ _ H1.out HC.out).mono ?_);rintro e w3 ⟨rfl,h3,g3⟩;obtain⟨⟨c0,c1,c2,c3,c4,c5,c6,c7,c8⟩,hz⟩:=h3.facts;have H3:=Lib.hid h3;have HL3:=Lib.hid (later_of_new HL1.out g3 HG.out);clear h3 g3))
 have H0:=Lib.hid (show CE w3 (t.ft:Nat) 0 undef w3.drew from⟨fun _=>rfl,fun e=>by omega,fun e=>by omega⟩)
 have HQ:=Lib.hid (show ∀ j u w,CE w3 (t.ft:Nat) j u w→w.cell? ⟨g,5,none⟩=some (.int .i64 0)∧w.cell? ⟨g,6,none⟩=some (.int .i64 (t.ft:Int)) from fun j u w hC=>by
  have hl:Later w3 w:=by
   rcases Nat.eq_zero_or_pos j with h | h
   ·rw[hC.1 h];exact Later.drew _
   ·rw[hC.2.1 h];exact(Later.drew _).trans (Later.alloc _ _)
  exact⟨cell_later hl c5,cell_later hl c6⟩)
 have HOR:=Lib.hid (show Calls Tryz.prog 140 #[.slice (some ⟨w3.drew.heap.size,0,none⟩) 2 2] (w3.drew.alloc (.cells #[.int .i64 0,.int .i64 (t.ft:Int)] 31)) (fun e W'=>e=.returned (.int .i64 (t.ft:Int))∧W'=w3.drew.alloc (.cells #[.int .i64 0,.int .i64 (t.ft:Int)] 31)) from or_v _ w3.drew.heap.size 0 t.ft (two_cells _ _ _ _ _ rfl).1 (two_cells _ _ _ _ _ rfl).2)
 refine wp_region_seq (by kernel_rfl) [8,9,10] (CE w3 (t.ft:Nat)) [some (.pointer (some ⟨g,0,none⟩)),some (.pointer (some ⟨g,0,none⟩)),some (.pointer (some ⟨g,5,none⟩)),some (.int .i64 0),some (.pointer (some ⟨g,0,none⟩)),some (.pointer (some ⟨g,0,none⟩)),some (.pointer (some ⟨g,6,none⟩)),some (.int .i64 (t.ft:Int)),some (.slice (some ⟨w3.drew.heap.size,0,none⟩) 2 2),some (.int .i64 (t.ft:Int)),none] (by decide) (by decide) (by kernel_rfl) (by kernel_rfl) (H0.out) ?_ ?_
 ·refine⟨?_,?_,?_,?_,?_,?_,?_,?_,?_,?_,?_,trivial⟩
  ·
   refine OwesS.q rfl fun a w j u hC hb hs=>⟨rfl,?_⟩
   have e6:a.tmps.getD 6 undef=.pointer (some ⟨g,0,none⟩):=hs.free 6 rfl
   refine ValWp.pure (v:=.pointer (some ⟨g,0,none⟩)) (fun K' hK'=>?_) ⟨rfl,rfl⟩
   simp only[ValWp,execOp,Act.eval,e6]
   go_simp
   all_goals exact hK'
  ·
   refine OwesS.q rfl fun a w j u hC hb hs=>⟨rfl,?_⟩
   have e21:a.tmps.getD 21 undef=.pointer (some ⟨g,0,none⟩):=hs.dep 0 _ rfl rfl
   refine ValWp.pure (v:=.pointer (some ⟨g,0,none⟩)) (fun K' hK'=>?_) ⟨rfl,rfl⟩
   simp only[ValWp,execOp,Act.eval,e21]
   go_simp
   all_goals exact hK'
  ·
   refine OwesS.q rfl fun a w j u hC hb hs=>⟨rfl,?_⟩
   have e22:a.tmps.getD 22 undef=.pointer (some ⟨g,0,none⟩):=hs.dep 1 _ rfl rfl
   refine ValWp.pure (v:=.pointer (some ⟨g,5,none⟩)) (fun K' hK'=>?_) ⟨rfl,rfl⟩
   simp only[ValWp,execOp,Act.eval,e22]
   go_simp
   all_goals exact hK'
  ·
   refine OwesS.q rfl fun a w j u hC hb hs=>⟨rfl,?_⟩
   have e23:a.tmps.getD 23 undef=.pointer (some ⟨g,5,none⟩):=hs.dep 2 _ rfl rfl
   have q:=HQ.out j u w hC
   obtain⟨q5,q6⟩:=q
   refine ValWp.pure (v:=.int .i64 0) (fun K' hK'=>?_) ⟨rfl,rfl⟩
   simp only[ValWp,execOp,Act.eval,e23]
   go_simp
   all_goals exact hK'
  ·
   refine OwesS.q rfl fun a w j u hC hb hs=>⟨rfl,?_⟩
   have e6:a.tmps.getD 6 undef=.pointer (some ⟨g,0,none⟩):=hs.free 6 rfl
   refine ValWp.pure (v:=.pointer (some ⟨g,0,none⟩)) (fun K' hK'=>?_) ⟨rfl,rfl⟩
   simp only[ValWp,execOp,Act.eval,e6]
   go_simp
   all_goals exact hK'
  ·
   refine OwesS.q rfl fun a w j u hC hb hs=>⟨rfl,?_⟩
   have e25:a.tmps.getD 25 undef=.pointer (some ⟨g,0,none⟩):=hs.dep 4 _ rfl rfl
   refine ValWp.pure (v:=.pointer (some ⟨g,0,none⟩)) (fun K' hK'=>?_) ⟨rfl,rfl⟩
   simp only[ValWp,execOp,Act.eval,e25]
   go_simp
   all_goals exact hK'
  ·
   refine OwesS.q rfl fun a w j u hC hb hs=>⟨rfl,?_⟩
   have e26:a.tmps.getD 26 undef=.pointer (some ⟨g,0,none⟩):=hs.dep 5 _ rfl rfl
   refine ValWp.pure (v:=.pointer (some ⟨g,6,none⟩)) (fun K' hK'=>?_) ⟨rfl,rfl⟩
   simp only[ValWp,execOp,Act.eval,e26]
   go_simp
   all_goals exact hK'
  ·
   refine OwesS.q rfl fun a w j u hC hb hs=>⟨rfl,?_⟩
   have e27:a.tmps.getD 27 undef=.pointer (some ⟨g,6,none⟩):=hs.dep 6 _ rfl rfl
   have q:=HQ.out j u w hC
   obtain⟨q5,q6⟩:=q
   refine ValWp.pure (v:=.int .i64 (t.ft:Int)) (fun K' hK'=>?_) ⟨rfl,rfl⟩
   simp only[ValWp,execOp,Act.eval,e27]
   go_simp
   all_goals exact hK'
  ·
   refine OwesS.w rfl fun a w u hC hl hs=>⟨rfl,fun K hK=>?_⟩
   have e24:a.tmps.getD 24 undef=.int .i64 0:=hs.dep 3 _ rfl rfl
   have e28:a.tmps.getD 28 undef=.int .i64 (t.ft:Int):=hs.dep 7 _ rfl rfl
   have hw:=ce_at0 hC
   subst hw
   refine wp_of_val ?_
   refine ValWp.pure (v:=.slice (some ⟨w3.drew.heap.size,0,none⟩) 2 2) (w':=w3.drew.alloc (.cells #[.int .i64 0,.int .i64 (t.ft:Int)] 31)) (fun K' hK'=>?_) (hK _ _ rfl ⟨fun e=>absurd e (by decide),fun _=>rfl,fun e=>absurd e (by decide)⟩)
   simp only[ValWp,execOp,Act.eval,List.map_toArray,List.map_cons,List.map_nil,e24,e28]
   go_simp
   all_goals exact hK'
  ·
   refine OwesS.w rfl fun a w u hC hl hs=>⟨rfl,fun K hK=>?_⟩
   have e29:a.tmps.getD 29 undef=.slice (some ⟨w3.drew.heap.size,0,none⟩) 2 2:=hs.dep 8 _ rfl rfl
   have hw:=ce_at1 hC
   subst hw
   refine wp_of_val ?_
   refine ValWp.call #[.slice (some ⟨w3.drew.heap.size,0,none⟩) 2 2] rfl rfl Tryz.func140 rfl rfl (by simp only[List.map_toArray,List.map_cons,List.map_nil,Act.eval,e29]) ?_
   refine(HOR.out).mono ?_
   rintro e w' ⟨rfl,rfl⟩
   exact⟨_,rfl,hK _ _ rfl ⟨fun e=>absurd e (by decide),fun _=>rfl,fun e=>absurd e (by decide)⟩⟩
  ·
   refine OwesS.w rfl fun a w u hC hl hs=>⟨rfl,fun K hK=>?_⟩
   have e30:a.tmps.getD 30 undef=.int .i64 (t.ft:Int):=hs.dep 9 _ rfl rfl
   have hw:=ce_at2 hC
   subst hw
   refine wp_of_val ?_
   refine ValWp.pure (v:=.int .i64 (t.ft:Int)) (w':=w3.drew.alloc (.cells #[.int .i64 0,.int .i64 (t.ft:Int)] 31)) (fun K' hK'=>?_) (hK _ _ trivial ⟨fun e=>absurd e (by decide),fun _=>rfl,fun _=>rfl⟩)
   simp only[ValWp,execOp,Act.eval,e30]
   go_simp
   all_goals exact hK'
 ·intro a w u hC hl hd hsz hfree hs
  obtain⟨u0,u1,u2,u3,z4,z5,z6,z7,z8,u9,u10,u11,u12,u13,u14,u15,u16,u17,u18,u19,u20,u21,u22,u23,u24,u25,u26,u27,u28,u29,u30,u31,u32,u33,u34,hal⟩:=lets a 35 0
  obtain rfl:=hal.on (v:=.int .i64 0) 4 (hfree 4 rfl) rfl
  obtain rfl:=hal.on (v:=.int .i64 0) 5 (hfree 5 rfl) rfl
  obtain rfl:=hal.on (v:=.pointer (some ⟨g,0,none⟩)) 6 (hfree 6 rfl) rfl
  obtain rfl:=hal.on (v:=.int .i64 n) 7 (hfree 7 rfl) rfl
  obtain rfl:=hal.on (v:=u) 8 (hl) rfl
  have hlit:=fun h=>act_lit hd h hal
  rw[hlit hsz]
  clear hlit hal hd hsz hfree hs
  obtain⟨hw,hu⟩:=ce_at3 hC
  subst hw hu
  clear hl hC
  by_cases hf:t.ft=0
  ·have HR2:=Lib.hid (HRES.out.trans (if_pos hf))
   have hf2:((t.ft:Int) != 0)=false:=by rw[hf];rfl
   have HF:=Lib.hid hf
   clear hf
   go_wp2
   go_ret2
   rw[HF.out,HR2.out]
   exact⟨rfl,HL3.out.trans ((Later.alloc _ _).trans (Later.drew _))⟩
  ·have HR2:=Lib.hid (HRES.out.trans (if_neg hf))
   have hf2:((t.ft:Int) != 0)=true:=by simp;omega
   clear hf
   go_wp2
   go_ret2
   rw[HR2.out]
   exact⟨rfl,HL3.out.trans ((Later.alloc _ _).trans (Later.drew _))⟩
end Ar
end Go.Proofs.YtipdgmjplnibeaaGreatDoor
