import Derived.Test.YtipdgmjplnibeaaGreatDoorG09
import Derived.Test.YtipdgmjplnibeaaGreatDoorG03
set_option maxRecDepth 100000
set_option maxHeartbeats 3200000
namespace Go.Proofs.YtipdgmjplnibeaaGreatDoor
open Go.RowKit Go.Maps
namespace Ar
def ExOk (k:Nat):Prop:=∀ (W:World) (g:Nat) (C:Ct) (s:St) (n:Int) (t:St),RM W g C s→Ex C.vs k s n t→Calls Tryz.prog 138 #[.pointer (some ⟨g,0,none⟩)] W (Rt W g C (.int .i64 n) t)
def BtOk (k:Nat):Prop:=∀ (W:World) (g:Nat) (C:Ct) (l:Nat) (s:St) (n:Int) (t:St),l≤20→RM W g C s→Bt C.vs k l s n t→Calls Tryz.prog 163 #[.pointer (some ⟨g,0,none⟩),.int .i64 (l:Int)] W (Rt W g C (.int .i64 n) t)
def SgOk (k:Nat):Prop:=∀ (W:World) (g:Nat) (C:Ct) (s:St) (n:Int) (t:St),RM W g C s→Sg C.vs k s n t→Calls Tryz.prog 209 #[.pointer (some ⟨g,0,none⟩)] W (Rt W g C (.int .i64 n) t)
structure Loc (W:World) (g b2 b6:Nat) (row:Int):Prop where
 h2:W.heap[b2]?=some (.cells #[.pointer (some ⟨g,0,none⟩)] 183 (0,0))
 h6:W.heap[b6]?=some (.cells #[.int .i64 row] 3 (0,0))
 n2:b2≠g
 n6:b6≠g
 ne:b2≠b6
section
variable {W W':World} {g:Nat} {C:Ct} {s s' t:St} {b2 b6:Nat} {row:Int}
theorem Loc.kept (h:Loc W g b2 b6 row) (hg:W.grownBy W' (some g)):Loc W' g b2 b6 row:=
 ⟨(hg.block _ (lt_of_block h.h2) (fun e=>h.n2 (by injection e))).trans h.h2,(hg.block _ (lt_of_block h.h6) (fun e=>h.n6 (by injection e))).trans h.h6,h.n2,h.n6,h.ne⟩
theorem Loc.facts (h:Loc W g b2 b6 row):W.cell? ⟨b2,0,none⟩=some (.pointer (some ⟨g,0,none⟩))∧W.cell? ⟨b6,0,none⟩=some (.int .i64 row)∧W.frozen? ⟨b6,0,none⟩=false∧W.frozen? ⟨b2,0,none⟩=false:=⟨(cell_row h.h2 0).1,(cell_row h.h6 0).1,(cell_row h.h6 0).2,(cell_row h.h2 0).2⟩
theorem RM.idle (h:RM W g C s) (i:Nat) (hi:m s+i≤4000):RM (W.setCell ⟨g,4,none⟩ (.int .i64 (i:Int))) g C { s with idle:=i }:=h.turn (set_only _ _ _ _) (by rw[set_row h.box];rfl) h.deep hi
theorem thunk_v {k:Nat} (hb:BtOk k) (h:RM W g C s) (l:Nat) (hl:l+1≤20) (hL:Loc W g b2 b6 (l:Nat)) {n:Int} (hs:Bt C.vs k (l+1) s n t):Calls Tryz.prog 212 #[.pointer (some ⟨b2,0,none⟩),.pointer (some ⟨b6,0,none⟩)] W (Rt W g C (.int .i64 n) t):=by
 obtain⟨f1,f2,_,_⟩:=hL.facts
 have HB:=Lib.hid (hb W g C (l+1) s n t hl h hs)
 have hw:wrap64 ((l:Int)+1)=(l:Int)+1:=w64 _ (by omega)
 have HB2:=Lib.hid (show Calls Tryz.prog 163 #[.pointer (some ⟨g,0,none⟩),.int .i64 ((l:Int)+1)] W (Rt W g C (.int .i64 n) t) from HB.out)
 clear hL h hs hb hl
 go_enter Tryz.func212,Tryz.ntmps212
 go_wp2_with (go_at_call 163;(with_reducible refine HB2.out.mono ?_);rintro e w1 ⟨rfl,h1,g1⟩)
 go_ret
 exact⟨rfl,h1,g1⟩
theorem partE {b:Bool} {n:Int} (h:RM W g C s) (hs:m s+(rest s b).idle≤4000) (ht:t.idle=(rest s b).idle) (hF:∀ w1,RM w1 g C (rest s b)→W.grownBy w1 (some g)→Calls Tryz.prog 138 #[.pointer (some ⟨g,0,none⟩)] w1 (Rt w1 g C (.int .i64 n) t)):Calls Tryz.prog 165 #[.pointer (some ⟨g,0,none⟩),.bool b,.func (.func 138) #[.pointer (some ⟨g,0,none⟩)] #[]] W (Rt W g C (.int .i64 n) (back t b)):=by
 have HF:=Lib.hid hF
 cases b with
 | true=>
  have HC:=Lib.hid (HF.out W h (only_refl _ _))
  clear h hs hF
  go_enter Tryz.func165,Tryz.ntmps165
  go_wp2_with (go_at_call 138;(with_reducible refine HC.out.mono ?_);rintro e w1 ⟨rfl,h1,g1⟩)
  go_ret
  exact⟨rfl,h1,g1⟩
 | false=>
  obtain⟨i,hi⟩:∃ i,i=s.idle+1:=⟨_,rfl⟩
  have hri:rest s false={ s with idle:=i }:=by rw[hi];rfl
  rw[hri] at hs ht hF
  have hi4:i≤4000:=by dsimp only at hs;omega
  have h1:=h.idle i hs
  have HC:=Lib.hid (hF _ h1 (set_only _ _ _ _))
  obtain⟨⟨c0,c1,c2,c3,c4,c5,c6,c7,c8⟩,hz⟩:=h.facts
  have hw1:wrap64 ((s.idle:Int)+1)=(i:Int):=by rw[w64 _ (by omega)];omega
  have H1:=Lib.hid h1
  have HT:=Lib.hid ht
  obtain⟨d,hd⟩:∃ d,d=s.idle:=⟨_,rfl⟩
  have HID:=Lib.hid (show (i:Int)-1=(d:Int) by omega)
  have HBK:=Lib.hid (show back t false={ t with idle:=d } by unfold back;simp only[Bool.false_eq_true,if_false];rw[HT.out];dsimp only;congr 1;omega)
  rw[HBK.out]
  have hdi:d≤i:=by omega
  clear h hs hF h1 hri hi ht hd
  go_enter Tryz.func165,Tryz.ntmps165
  go_wp2_with (go_at_call 138;(with_reducible refine HC.out.mono ?_);rintro e w1 ⟨rfl,h2,g2⟩;obtain⟨⟨d0,d1,d2,d3,d4,d5,d6,d7,d8⟩,dz⟩:=h2.facts;rw[HT.out] at d4;have H2:=Lib.hid h2;have HG2:=Lib.hid g2;clear h2 g2)
  go_ret
  rw[HID.out]
  have h2:=H2.out
  exact⟨rfl,h2.idle d (by have:=h2.sml;have:=HT.out;omega),only_trans (set_only _ _ _ _) (only_trans HG2.out (set_only _ _ _ _))⟩
theorem partB {b:Bool} {n:Int} (h:RM W g C s) (hs:m s+(rest s b).idle≤4000) (ht:t.idle=(rest s b).idle) (hF:∀ w1,RM w1 g C (rest s b)→W.grownBy w1 (some g)→Calls Tryz.prog 212 #[.pointer (some ⟨b2,0,none⟩),.pointer (some ⟨b6,0,none⟩)] w1 (Rt w1 g C (.int .i64 n) t)):Calls Tryz.prog 165 #[.pointer (some ⟨g,0,none⟩),.bool b,.func (.func 212) #[] #[.pointer (some ⟨b2,0,none⟩),.pointer (some ⟨b6,0,none⟩)]] W (Rt W g C (.int .i64 n) (back t b)):=by
 have HF:=Lib.hid hF
 cases b with
 | true=>
  have HC:=Lib.hid (HF.out W h (only_refl _ _))
  clear h hs hF
  go_enter Tryz.func165,Tryz.ntmps165
  go_wp2_with (go_at_call 212;(with_reducible refine HC.out.mono ?_);rintro e w1 ⟨rfl,h1,g1⟩)
  go_ret
  exact⟨rfl,h1,g1⟩
 | false=>
  obtain⟨i,hi⟩:∃ i,i=s.idle+1:=⟨_,rfl⟩
  have hri:rest s false={ s with idle:=i }:=by rw[hi];rfl
  rw[hri] at hs ht hF
  have hi4:i≤4000:=by dsimp only at hs;omega
  have h1:=h.idle i hs
  have HC:=Lib.hid (hF _ h1 (set_only _ _ _ _))
  obtain⟨⟨c0,c1,c2,c3,c4,c5,c6,c7,c8⟩,hz⟩:=h.facts
  have hw1:wrap64 ((s.idle:Int)+1)=(i:Int):=by rw[w64 _ (by omega)];omega
  have H1:=Lib.hid h1
  have HT:=Lib.hid ht
  obtain⟨d,hd⟩:∃ d,d=s.idle:=⟨_,rfl⟩
  have HID:=Lib.hid (show (i:Int)-1=(d:Int) by omega)
  have HBK:=Lib.hid (show back t false={ t with idle:=d } by unfold back;simp only[Bool.false_eq_true,if_false];rw[HT.out];dsimp only;congr 1;omega)
  rw[HBK.out]
  have hdi:d≤i:=by omega
  clear h hs hF h1 hri hi ht hd
  go_enter Tryz.func165,Tryz.ntmps165
  go_wp2_with (go_at_call 212;(with_reducible refine HC.out.mono ?_);rintro e w1 ⟨rfl,h2,g2⟩;obtain⟨⟨d0,d1,d2,d3,d4,d5,d6,d7,d8⟩,dz⟩:=h2.facts;rw[HT.out] at d4;have H2:=Lib.hid h2;have HG2:=Lib.hid g2;clear h2 g2)
  go_ret
  rw[HID.out]
  have h2:=H2.out
  exact⟨rfl,h2.idle d (by have:=h2.sml;have:=HT.out;omega),only_trans (set_only _ _ _ _) (only_trans HG2.out (set_only _ _ _ _))⟩
end
end Ar
end Go.Proofs.YtipdgmjplnibeaaGreatDoor
namespace Go.Proofs.YtipdgmjplnibeaaGreatDoor
open Go.RowKit Go.Maps
namespace Ar
section
variable {W W':World} {g:Nat} {C:Ct} {s s' t:St} {k:Nat} {n:Int}
theorem num_none {t:L} (h:t=[33]∨t=[126]∨t=[43]∨t=[45]∨t=[40]∨t=[36,123]∨t=[36]):num t=none∧nameB t=false:=by
 rcases h with rfl | rfl | rfl | rfl | rfl | rfl | rfl <;> decide
theorem num_name {t:L} {m:Nat} (h:num t=some m):nameB t=false:=by
 cases t with
 | nil=>rfl
 | cons c r=>
  have key:dig c=true→nameB (c::r)=false:=fun hc=>by unfold nameB;simp only[hc];rfl
  unfold num at h
  by_cases h1:(Lib.hasPrefix (c::r) [48,120] || Lib.hasPrefix (c::r) [48,88])=true
  ·refine key ?_
   rw[Bool.or_eq_true] at h1
   have:(48:UInt8)=c:=by
    rcases h1 with h1 | h1
    ·have:=List.isPrefixOf_iff_prefix.1 h1
     exact(List.cons_prefix_cons.1 this).1
    ·have:=List.isPrefixOf_iff_prefix.1 h1
     exact(List.cons_prefix_cons.1 this).1
   rw[←this]
   decide
  ·rw[if_neg h1] at h
   by_cases h2:Lib.hasPrefix (c::r) [48]=true
   ·refine key ?_
    have:=List.isPrefixOf_iff_prefix.1 h2
    rw[←(List.cons_prefix_cons.1 this).1]
    decide
   ·rw[if_neg h2] at h
    dsimp only at h
    split at h
    ·next hc=>
     refine key (isD_digit (b:=10) (by omega) ?_)
     have:=hc.2.1
     rw[List.all_cons,Bool.and_eq_true] at this
     exact this.1
    ·cases h
theorem ahead_none {t:L} (h:t≠[33]∧t≠[126]∧t≠[43]∧t≠[45]):aheadT t=none:=by
 unfold aheadT
 rw[if_neg h.1,if_neg h.2.1,if_neg h.2.2.1,if_neg h.2.2.2]
def Enters (F:Nat):Prop:=∀ (args:Array Value) (w:World),(callFunc F args).run Tryz.prog w=.ok (.enter F args) w
theorem ahead_some {t:L} (h:t∈[[33],[126],[43],[45]]):∃ F,aheadT t=some (.func (.func F) #[] #[])∧Enters F∧∀ (a:Int) (W:World),Calls Tryz.prog F #[.int .i64 a] W fun e W'=>e=.returned (.int .i64 (op1 t a))∧W'=W:=by
 simp only[List.mem_cons,List.not_mem_nil,or_false] at h
 rcases h with rfl | rfl | rfl | rfl
 ·exact⟨_,rfl,fun args w=>run_enter Tryz.func183 (by kernel_rfl) rfl args w,ahead1⟩
 ·exact⟨_,rfl,fun args w=>run_enter Tryz.func185 (by kernel_rfl) rfl args w,ahead2⟩
 ·exact⟨_,rfl,fun args w=>run_enter Tryz.func186 (by kernel_rfl) rfl args w,ahead3⟩
 ·exact⟨_,rfl,fun args w=>run_enter Tryz.func187 (by kernel_rfl) rfl args w,ahead4⟩
theorem inside_v (hx:ExOk k) (h:RM W g C s) (hd:s.deep<40) (he:Ex C.vs k (enter s) n t) (ht:t.tok=[41]):Calls Tryz.prog 251 #[.pointer (some ⟨g,0,none⟩)] W (Rt W g C (.int .i64 n) (leave (pass t))):=by
 have HE:=Lib.hid (enter_v h hd)
 have HX:=Lib.hid (fun w1 (h1:RM w1 g C (enter s))=>hx w1 g C (enter s) n t h1 he)
 have HT:=Lib.hid ht
 have hdp:1≤(pass t).deep:=by have:=(keep_all C.vs k).1 _ _ _ he;have e1:(enter s).deep=s.deep+1:=rfl;have e2:(pass t).deep=t.deep:=rfl;omega
 clear h he ht
 go_enter Tryz.func251,Tryz.ntmps251
 go_wp2_with (first
  |(go_at_call 164;(with_reducible refine HE.out.mono ?_);rintro e w1 ⟨rfl,h1,g1⟩;have H1:=Lib.hid h1;have G1:=Lib.hid g1;clear h1 g1)
  |(go_at_call 138;(with_reducible refine(HX.out _ H1.out).mono ?_);rintro e w2 ⟨rfl,h2,g2⟩;have H2:=Lib.hid h2;have G2:=Lib.hid g2;clear h2 g2)
  |(go_at_call 166;(with_reducible refine(need_v H2.out [41] ⟨#[41]⟩ rfl HT.out).mono ?_);rintro e w3 ⟨rfl,h3,g3⟩;have H3:=Lib.hid h3;have G3:=Lib.hid g3;clear h3 g3)
  |(go_at_call 167;(with_reducible refine(leave_v H3.out hdp).mono ?_);rintro e w4 ⟨rfl,h4,g4⟩;have H4:=Lib.hid h4;have G4:=Lib.hid g4;clear h4 g4))
 go_ret
 exact⟨rfl,H4.out,only_trans G1.out (only_trans G2.out (only_trans G3.out G4.out))⟩
theorem take_t (h:RM W g C s) (u:L) (us:ByteArray) (hus:us=mkS u) (hu:s.tok=u):Calls Tryz.prog 213 #[.pointer (some ⟨g,0,none⟩),.string us] W (Rt W g C (.bool true) (pass s)):=by
 subst hus
 have hv:=take_v h u
 rwa[if_pos hu,show (s.tok==u)=true by rw[hu];exact beq_self_eq_true _] at hv
theorem take_f (h:RM W g C s) (u:L) (us:ByteArray) (hus:us=mkS u) (hu:s.tok≠u):Calls Tryz.prog 213 #[.pointer (some ⟨g,0,none⟩),.string us] W (Rt W g C (.bool false) s):=by
 subst hus
 have hv:=take_v h u
 rwa[if_neg hu,show (s.tok==u)=false from beq_eq_false_iff_ne.2 hu] at hv
theorem tok_is (t b:L) (v:Bool) (h:(t==b)=v):((mkS t).toList==b)=v:=by rw[toList_mkS];exact h
theorem bare_v (ih:∀ j,j<k→ExOk j) (h:RM W g C s) (hs:Sg C.vs k s n t) (hno:s.tok≠[33]∧s.tok≠[126]∧s.tok≠[43]∧s.tok≠[45]):Calls Tryz.prog 237 #[.pointer (some ⟨g,0,none⟩)] W (Rt W g C (.int .i64 n) t):=by
 obtain⟨⟨c0,c1,c2,c3,c4,c5,c6,c7,c8⟩,hz⟩:=h.facts
 cases hs with
 | un _ hm=>simp only[List.mem_cons,List.not_mem_nil,or_false] at hm;exfalso;rcases hm with e | e | e | e <;> simp[e] at hno
 | @par _ j _ t _ hj ht hd hx hc=>
  have HI:=Lib.hid (inside_v (ih _ hj) h hd hx hc)
  have he:=tok_is s.tok [40] true (by rw[ht];rfl)
  clear h ht hx hc
  go_enter Tryz.func237,Tryz.ntmps237
  go_wp2_with (go_at_call 251;(with_reducible refine HI.out.mono ?_);rintro e w1 ⟨rfl,h1,g1⟩)
  go_ret
  exact⟨rfl,h1,g1⟩
 | name hn hl=>
  have hq:s.tok≠[40]∧s.tok≠[36,123]∧s.tok≠[36]:=⟨fun e=>(by rw[(num_none (by rw[e];simp)).2] at hn;cases hn),fun e=>(by rw[(num_none (by rw[e];simp)).2] at hn;cases hn),fun e=>(by rw[(num_none (by rw[e];simp)).2] at hn;cases hn)⟩
  have he:=tok_is s.tok [40] false (beq_eq_false_iff_ne.2 hq.1)
  have H:=Lib.hid h
  have HNM:=Lib.hid (fun W=>name_v s.tok (by have:=h.tok_len;omega) W)
  rw[hn] at HNM
  have HQ:=Lib.hid hq
  have HN:=Lib.hid hn
  have HL:=Lib.hid hl
  clear h hn hl hq hno ih
  go_enter Tryz.func237,Tryz.ntmps237
  go_wp2_with (first
   |(go_at_call 213;(with_reducible refine(take_f H.out [36,123] ⟨#[36,123]⟩ rfl HQ.out.2.1).mono ?_);rintro e w1 ⟨rfl,h1,g1⟩;obtain⟨⟨d0,d1,d2,d3,d4,d5,d6,d7,d8⟩,dz⟩:=h1.facts;have H1:=Lib.hid h1;have G1:=Lib.hid g1;clear h1 g1)
   |(go_at_call 213;(with_reducible refine(take_f H1.out [36] ⟨#[36]⟩ rfl HQ.out.2.2).mono ?_);rintro e w2 ⟨rfl,h2,g2⟩;obtain⟨⟨e0,e1,e2,e3,e4,e5,e6,e7,e8⟩,ez⟩:=h2.facts;have H2:=Lib.hid h2;have G2:=Lib.hid g2;clear h2 g2)
   |(go_at_call 28;(with_reducible refine(HNM.out _).mono ?_);rintro e w3 ⟨rfl,hl3⟩;have HL3:=Lib.hid hl3;clear hl3)
   |(go_at_call 252;(with_reducible refine(variable_v (H2.out.later HL3.out) HN.out n HL.out).mono ?_);rintro e w4 ⟨rfl,h4,g4⟩))
  go_ret
  exact⟨rfl,h4,only_trans G1.out (only_trans (only_later G2.out HL3.out) g4)⟩
 | dol ht hn hl=>
  have he:=tok_is s.tok [40] false (by rw[ht];rfl)
  have H:=Lib.hid h
  have HT:=Lib.hid ht
  have HN:=Lib.hid hn
  have HL:=Lib.hid hl
  clear h hn hl ht hno ih
  go_enter Tryz.func237,Tryz.ntmps237
  go_wp2_with (first
   |(go_at_call 213;(with_reducible refine(take_f H.out [36,123] ⟨#[36,123]⟩ rfl (by rw[HT.out];decide)).mono ?_);rintro e w1 ⟨rfl,h1,g1⟩;obtain⟨⟨d0,d1,d2,d3,d4,d5,d6,d7,d8⟩,dz⟩:=h1.facts;have H1:=Lib.hid h1;have G1:=Lib.hid g1;clear h1 g1)
   |(go_at_call 213;(with_reducible refine(take_t H1.out [36] ⟨#[36]⟩ rfl HT.out).mono ?_);rintro e w2 ⟨rfl,h2,g2⟩;have H2:=Lib.hid h2;have G2:=Lib.hid g2;clear h2 g2)
   |(go_at_call 252;(with_reducible refine(variable_v H2.out HN.out n HL.out).mono ?_);rintro e w4 ⟨rfl,h4,g4⟩))
  go_ret
  exact⟨rfl,h4,only_trans G1.out (only_trans G2.out g4)⟩
 | brace ht hn hl hc=>
  have he:=tok_is s.tok [40] false (by rw[ht];rfl)
  have H:=Lib.hid h
  have HT:=Lib.hid ht
  have HN:=Lib.hid hn
  have HL:=Lib.hid hl
  have HC:=Lib.hid hc
  clear h hn hl ht hno ih hc
  go_enter Tryz.func237,Tryz.ntmps237
  go_wp2_with (first
   |(go_at_call 213;(with_reducible refine(take_t H.out [36,123] ⟨#[36,123]⟩ rfl HT.out).mono ?_);rintro e w1 ⟨rfl,h1,g1⟩;have H1:=Lib.hid h1;have G1:=Lib.hid g1;clear h1 g1)
   |(go_at_call 252;(with_reducible refine(variable_v H1.out HN.out n HL.out).mono ?_);rintro e w4 ⟨rfl,h4,g4⟩;have H4:=Lib.hid h4;have G4:=Lib.hid g4;clear h4 g4)
   |(go_at_call 166;(with_reducible refine(need_v H4.out [125] ⟨#[125]⟩ rfl HC.out).mono ?_);rintro e w5 ⟨rfl,h5,g5⟩))
  go_ret
  exact⟨rfl,h5,only_trans G1.out (only_trans G4.out g5)⟩
 | @num _ _ m hm=>
  have hq:s.tok≠[40]∧s.tok≠[36,123]∧s.tok≠[36]:=⟨fun e=>(by rw[(num_none (by rw[e];simp)).1] at hm;cases hm),fun e=>(by rw[(num_none (by rw[e];simp)).1] at hm;cases hm),fun e=>(by rw[(num_none (by rw[e];simp)).1] at hm;cases hm)⟩
  have hnn:nameB s.tok=false:=num_name hm
  have he:=tok_is s.tok [40] false (beq_eq_false_iff_ne.2 hq.1)
  have H:=Lib.hid h
  have HNM:=Lib.hid (fun W=>name_v s.tok (by have:=h.tok_len;omega) W)
  rw[hnn] at HNM
  have HQ:=Lib.hid hq
  have HNV:=Lib.hid (fun W=>num_v s.tok m hm (by have:=h.tok_len;omega) W)
  clear h hnn hm hq hno ih
  go_enter Tryz.func237,Tryz.ntmps237
  go_wp2_with (first
   |(go_at_call 213;(with_reducible refine(take_f H.out [36,123] ⟨#[36,123]⟩ rfl HQ.out.2.1).mono ?_);rintro e w1 ⟨rfl,h1,g1⟩;obtain⟨⟨d0,d1,d2,d3,d4,d5,d6,d7,d8⟩,dz⟩:=h1.facts;have H1:=Lib.hid h1;have G1:=Lib.hid g1;clear h1 g1)
   |(go_at_call 213;(with_reducible refine(take_f H1.out [36] ⟨#[36]⟩ rfl HQ.out.2.2).mono ?_);rintro e w2 ⟨rfl,h2,g2⟩;obtain⟨⟨e0,e1,e2,e3,e4,e5,e6,e7,e8⟩,ez⟩:=h2.facts;have H2:=Lib.hid h2;have G2:=Lib.hid g2;clear h2 g2)
   |(go_at_call 28;(with_reducible refine(HNM.out _).mono ?_);rintro e w3 ⟨rfl,hl3⟩;have h3:=H2.out.later hl3;obtain⟨⟨f0,f1,f2,f3,f4,f5,f6,f7,f8⟩,fz⟩:=h3.facts;have HL3:=Lib.hid hl3;clear hl3)
   |(go_at_call 253;(with_reducible refine(HNV.out _).mono ?_);rintro e w4 ⟨rfl,hl4⟩;have HL4:=Lib.hid hl4;clear hl4)
   |(go_at_call 162;(with_reducible refine(pass_v ((H2.out.later HL3.out).later HL4.out)).mono ?_);rintro e w5 ⟨rfl,h5,g5⟩))
  go_ret
  exact⟨rfl,h5,only_trans G1.out (only_trans (only_later (only_later G2.out HL3.out) HL4.out) g5)⟩
end
end Ar
end Go.Proofs.YtipdgmjplnibeaaGreatDoor
namespace Go.Proofs.YtipdgmjplnibeaaGreatDoor
open Go.RowKit Go.Maps
namespace Ar
section
variable {W W':World} {g:Nat} {C:Ct} {s s' t:St} {k:Nat} {n:Int}
theorem RM.drewN (h:RM W g C s) (i:Nat):RM (W.drewN i) g C s:=h.later ⟨rfl,rfl,rfl,Nat.le_refl _,fun _ _=>rfl⟩
theorem only_drewN (W:World) (g m:Nat):W.grownBy (W.drewN m) (some g):=⟨rfl,rfl,rfl,Nat.le_refl _,fun _ _ _=>rfl⟩
theorem plain_of {t:L} (h:(∃ m,num t=some m)∨nameB t=true∨t=[40]∨t=[36]∨t=[36,123]):t≠[33]∧t≠[126]∧t≠[43]∧t≠[45]:=by
 refine⟨?_,?_,?_,?_⟩ <;>
 ·rintro rfl
  rcases h with⟨m,h⟩ | h | h | h | h
  ·rw[(num_none (by simp)).1] at h;cases h
  ·exact absurd h (by decide)
  ·cases h
  ·cases h
  ·cases h
theorem single_v (ih:∀ j,j<k→ExOk j∧SgOk j):SgOk k:=by
 intro W g C s n t h hs
 have hcases:(∃ (j:Nat) (u:St) (a:Int),j<k∧s.tok∈[[33],[126],[43],[45]]∧s.deep<40∧Sg C.vs j (enter s) a u∧n=op1 s.tok a∧t=leave u)∨(s.tok≠[33]∧s.tok≠[126]∧s.tok≠[43]∧s.tok≠[45]):=by
  cases hs with
  | un hj hm hd hu=>exact .inl ⟨_,_,_,hj,hm,hd,hu,rfl,rfl⟩
  | par _ ht=>exact .inr (plain_of (.inr (.inr (.inl ht))))
  | name hn=>exact .inr (plain_of (.inr (.inl hn)))
  | dol ht=>exact .inr (plain_of (.inr (.inr (.inr (.inl ht)))))
  | brace ht=>exact .inr (plain_of (.inr (.inr (.inr (.inr ht)))))
  | num hm=>exact .inr (plain_of (.inl ⟨_,hm⟩))
 have htl:s.tok.length≤5000:=by have:=h.tok_len;omega
 have hlook:=fun i=>(h.drewN i).en.ta.look s.tok htl
 obtain⟨⟨c0,c1,c2,c3,c4,c5,c6,c7,c8⟩,hz⟩:=h.facts
 have H:=Lib.hid h
 rcases hcases with⟨j,u,a,hj,hm,hd,hu,rfl,rfl⟩ | hno
 ·obtain⟨F,hF,hent,hC⟩:=ahead_some hm
  have hent2:∀ (args:Array Value) (w:World),(callFunc F args).run Tryz.prog w=.ok (.enter F args) w:=hent
  clear hent
  rw[hF] at hlook
  have hlook2:∀ i,(Instr.lookup 186 (.map (some C.ma)) (.string (mkS s.tok)) true).run Tryz.prog (W.drewN i)=.ok (.tuple #[.func (.func F) #[] #[],.bool true]) (W.drewN i):=hlook
  have HE:=Lib.hid (fun i=>enter_v (h.drewN i) hd)
  have HU:=Lib.hid (fun w1 (h1:RM w1 g C (enter s))=>(ih _ hj).2 w1 g C (enter s) a u h1 hu)
  have HC:=Lib.hid hC
  have hdp:1≤u.deep:=by have:=(keep_all C.vs j).2.2.2 _ _ _ hu;have e1:(enter s).deep=s.deep+1:=rfl;omega
  clear hlook h hs hm hd hu hF hC ih
  go_enter Tryz.func209,Tryz.ntmps209
  go_wp2
  go_quiet (fail)
  go_wp2_with (first
   |(go_at_call 164;(with_reducible refine(HE.out _).mono ?_);rintro e w1 ⟨rfl,h1,g1⟩;have H1:=Lib.hid h1;have G1:=Lib.hid g1;clear h1 g1)
   |(go_at_call 209;(with_reducible refine(HU.out _ H1.out).mono ?_);rintro e w2 ⟨rfl,h2,g2⟩;have H2:=Lib.hid h2;have G2:=Lib.hid g2;clear h2 g2))
  refine(HC.out a _).mono ?_
  rintro e w3 ⟨rfl,rfl⟩
  go_wp2_with (go_at_call 167;(with_reducible refine(leave_v H2.out hdp).mono ?_);rintro e w4 ⟨rfl,h4,g4⟩)
  go_ret
  exact⟨rfl,h4,only_trans (only_drewN _ _ _) (only_trans G1.out (only_trans G2.out g4))⟩
 ·have HB:=Lib.hid (fun i=>bare_v (W:=W.drewN i) (fun j hj=>(ih j hj).1) (h.drewN i) hs hno)
  rw[ahead_none hno] at hlook
  have hlook2:∀ i,(Instr.lookup 186 (.map (some C.ma)) (.string (mkS s.tok)) true).run Tryz.prog (W.drewN i)=.ok (.tuple #[.nilFunc,.bool false]) (W.drewN i):=hlook
  clear hlook h hs hno ih
  go_enter Tryz.func209,Tryz.ntmps209
  go_wp2
  go_quiet (fail)
  go_wp2_with (go_at_call 237;(with_reducible refine(HB.out _).mono ?_);rintro e w1 ⟨rfl,h1,g1⟩)
  go_ret
  exact⟨rfl,h1,only_trans (only_drewN _ _ _) g1⟩
theorem m_strict (s:St) (h:s.tok≠[]):m (pass s)+1≤m s:=by
 have:=m_pass s
 have:=List.length_pos_iff.2 h
 unfold m at *
 omega
theorem rest_room (s:St) (b:Bool) (h:m s+s.idle+1≤4000):m s+(rest s b).idle≤4000:=by
 unfold rest
 split
 ·omega
 ·dsimp only;omega
theorem expression_v (ih:∀ j,j<k→ExOk j∧BtOk j):ExOk k:=by
 intro W g C s n t h hs
 cases hs with
 | @plain _ j _ _ _ hj hb hne=>
  have HB:=Lib.hid (show Calls Tryz.prog 163 #[.pointer (some ⟨g,0,none⟩),.int .i64 0] W (Rt W g C (.int .i64 n) t) from(ih _ hj).2 W g C 0 s n t (by omega) h hb)
  have he:=tok_is t.tok [63] false (beq_eq_false_iff_ne.2 hne)
  clear h hb hne ih
  go_enter Tryz.func138,Tryz.ntmps138
  go_wp2_with (go_at_call 163;(with_reducible refine HB.out.mono ?_);rintro e w1 ⟨rfl,h1,g1⟩;obtain⟨⟨d0,d1,d2,d3,d4,d5,d6,d7,d8⟩,dz⟩:=h1.facts;have H1:=Lib.hid h1;have G1:=Lib.hid g1;clear h1 g1)
  go_ret
  exact⟨rfl,H1.out,G1.out⟩
 | @cond _ j i l _ t u v n y z hj hi hl hb ht hd h1 hu h2=>
  have HB:=Lib.hid (show Calls Tryz.prog 163 #[.pointer (some ⟨g,0,none⟩),.int .i64 0] W (Rt W g C (.int .i64 n) t) from(ih _ hj).2 W g C 0 s n t (by omega) h hb)
  have he:=tok_is t.tok [63] true (by rw[ht];rfl)
  have a1:=(keep_all C.vs i).1 _ _ _ h1
  have a2:=(keep_all C.vs l).1 _ _ _ h2
  have ta:=Bt.m hb
  have tb:=(keep_all C.vs j).2.1 _ _ _ _ hb
  have tt:=m_strict t (by rw[ht];simp)
  have hes:enter t=pass { t with deep:=t.deep+1 }:=rfl
  have hem:m (enter t)+1≤m t:=by have:=m_strict { t with deep:=t.deep+1 } (by show t.tok≠[];rw[ht];simp);exact this
  have hsm:=h.sml
  have hei:(enter t).idle=t.idle:=rfl
  have HR1:=Lib.hid (rest_room (enter t) (n != 0) (by omega))
  have hu2:=idle_rest_back a1.1
  have hum:=(m_all C.vs i).1 _ _ _ h1
  rw[m_rest] at hum
  have hpm:=m_strict (back u (n != 0)) (by have e:(back u (n != 0)).tok=u.tok:=(by unfold back;split <;> rfl);rw[e,hu];simp)
  rw[m_back] at hpm
  have hpi:(pass (back u (n != 0))).idle=(back u (n != 0)).idle:=rfl
  have HR2:=Lib.hid (rest_room (pass (back u (n != 0))) (n==0) (by omega))
  have hde:(enter t).deep=t.deep+1:=rfl
  have hdv:1≤(back v (n==0)).deep:=by
   rw[deep_back]
   have e1:=a2.2
   rw[deep_rest] at e1
   have e2:(pass (back u (n != 0))).deep=(back u (n != 0)).deep:=rfl
   rw[deep_back] at e2
   have e3:=a1.2
   rw[deep_rest] at e3
   omega
  have HT:=Lib.hid ht
  have HU:=Lib.hid (show (back u (n != 0)).tok=[58] by have e:(back u (n != 0)).tok=u.tok:=(by unfold back;split <;> rfl);rw[e,hu])
  have HA1:=Lib.hid a1.1
  have HA2:=Lib.hid a2.1
  have HX1:=Lib.hid (fun w1 (g1:RM w1 g C (rest (enter t) (n != 0)))=>(ih _ hi).1 w1 g C _ y u g1 h1)
  have HX2:=Lib.hid (fun w1 (g1:RM w1 g C (rest (pass (back u (n != 0))) (n==0)))=>(ih _ hl).1 w1 g C _ z v g1 h2)
  clear h hb ht h1 hu h2 a1 a2 ta tb tt hes hem hsm hei hu2 hum hpm hpi hde ih
  have HD:=Lib.hid hd
  clear hd
  go_enter Tryz.func138,Tryz.ntmps138
  go_wp2_with (first
   |(go_at_call 163;(with_reducible refine HB.out.mono ?_);rintro e w1 ⟨rfl,h1,g1⟩;obtain⟨⟨d0,d1,d2,d3,d4,d5,d6,d7,d8⟩,dz⟩:=h1.facts;have H1:=Lib.hid h1;have G1:=Lib.hid g1;clear h1 g1)
   |(go_at_call 164;(with_reducible refine(enter_v H1.out HD.out).mono ?_);rintro e w2 ⟨rfl,h2,g2⟩;have H2:=Lib.hid h2;have G2:=Lib.hid g2;clear h2 g2)
   |(go_at_call 165;(with_reducible refine(partE H2.out HR1.out HA1.out (fun w1 g1 _=>HX1.out w1 g1)).mono ?_);rintro e w3 ⟨rfl,h3,g3⟩;have H3:=Lib.hid h3;have G3:=Lib.hid g3;clear h3 g3)
   |(go_at_call 166;(with_reducible refine(need_v H3.out [58] ⟨#[58]⟩ rfl HU.out).mono ?_);rintro e w4 ⟨rfl,h4,g4⟩;have H4:=Lib.hid h4;have G4:=Lib.hid g4;clear h4 g4)
   |(go_at_call 165;(with_reducible refine(partE H4.out HR2.out HA2.out (fun w1 g1 _=>HX2.out w1 g1)).mono ?_);rintro e w5 ⟨rfl,h5,g5⟩;have H5:=Lib.hid h5;have G5:=Lib.hid g5;clear h5 g5)
   |(go_at_call 167;(with_reducible refine(leave_v H5.out hdv).mono ?_);rintro e w6 ⟨rfl,h6,g6⟩;have H6:=Lib.hid h6;have G6:=Lib.hid g6;clear h6 g6))
  all_goals go_ret
  all_goals exact⟨rfl,H6.out,only_trans G1.out (only_trans G2.out (only_trans G3.out (only_trans G4.out (only_trans G5.out G6.out))))⟩
end
end Ar
end Go.Proofs.YtipdgmjplnibeaaGreatDoor
namespace Go.Proofs.YtipdgmjplnibeaaGreatDoor
open Go.RowKit
section
variable {P:Program} {ops:Array Oper} {Q:Exit→Act→World→Prop} {a0:Act} {C:List Bool→World→Prop} {R:Nat→Value→World→Prop}
def setAt (ps:List Nat) (i:Nat) (bits:List Bool):List Bool:=match idx ps i with
 | some k=>bits.set k true
 | none=>bits
def OwesB (P:Program) (ops:Array Oper) (Q:Exit→Act→World→Prop) (C:List Bool→World→Prop) (ps:List Nat) (R:Nat→Value→World→Prop) (a0:Act) (i:Nat) (o:Oper):Prop:=
 ∀ (a:Act) (w:World) (bits:List Bool),C bits w→(∀ (k p:Nat),ps[k]?=some p→depOn ops i p=true→bits[k]?=some true)→(∀ (k p:Nat),ps[k]?=some p→(p=i∨depOn ops p i=true)→bits[k]?=some false)→Sees ops a0 R o a w →
  Region.wanted o (yielded ops a.tmps)=true∧∀ K:Act→World→Prop,(∀ v w',R i (if o.dst.isSome then v else undef) w'→C (setAt ps i bits) w'→K (a.put o.dst v) w')→Oper.wp P o a w K Q
theorem OwesB.q {ps:List Nat} {i:Nat} {o:Oper} (hi:idx ps i=none) (h:∀ (a:Act) (w:World) (bits:List Bool),C bits w→(∀ (k p:Nat),ps[k]?=some p→depOn ops i p=true→bits[k]?=some true)→(∀ (k p:Nat),ps[k]?=some p→(p=i∨depOn ops p i=true)→bits[k]?=some false)→Sees ops a0 R o a w →
  Region.wanted o (yielded ops a.tmps)=true∧ValWp P o a.eval w fun v w'=>R i (if o.dst.isSome then v else undef) w'∧w'=w):OwesB P ops Q C ps R a0 i o:=fun a w bits hC hd hu hs=>by
 obtain⟨h1,h2⟩:=h a w bits hC hd hu hs
 refine⟨h1,fun K hK=>wp_of_val (h2.mono fun v w' hk=>hK v w' hk.1 ?_)⟩
 obtain⟨_,rfl⟩:=hk
 unfold setAt
 rw[hi]
 exact hC
def OwesAllB (P:Program) (ops:Array Oper) (Q:Exit→Act→World→Prop) (C:List Bool→World→Prop) (ps:List Nat) (R:Nat→Value→World→Prop) (a0:Act):Nat→List Oper→Prop
 | _,[]=>True
 | n,o::l=>OwesB P ops Q C ps R a0 n o∧OwesAllB P ops Q C ps R a0 (n+1) l
theorem owesAllB_at {ps:List Nat}:∀ (l:List Oper) (n i:Nat) (o:Oper),OwesAllB P ops Q C ps R a0 n l→l[i]?=some o→OwesB P ops Q C ps R a0 (n+i) o
 | [],_,i,o,_,h=>by simp at h
 | x::l,n,0,o,h,ho=>by simp at ho;subst ho;exact h.1
 | x::l,n,i+1,o,h,ho=>by
  have:=owesAllB_at l (n+1) i o h.2 (by simpa using ho)
  rwa[show n+1+i=n+(i+1) by omega] at this
structure PhaseB (ops:Array Oper) (ps:List Nat) (C:List Bool→World→Prop) (listed:Array Bool) (w:World):Prop where
 c:C (ps.map fun p=>listed.getD p false) w
 dep:∀ p,listed.getD p false=true→∀ i,depOn ops p i=true→listed.getD i false=true
theorem bits_set {ps:List Nat} (hnd:ps.Nodup) {listed:Array Bool} {i:Nat} (hi:i<listed.size):(ps.map fun p=>(listed.setIfInBounds i true).getD p false)=setAt ps i (ps.map fun p=>listed.getD p false):=by
 unfold setAt
 cases e:idx ps i with
 | none=>
  refine List.map_congr_left fun p hp=>?_
  obtain⟨k,hk⟩:=List.mem_iff_getElem?.1 hp
  exact getD_set_ne fun e2=>idx_none e k (by rw[hk,e2])
 | some k=>
  have h1:=idx_some e
  have hk:=(List.getElem?_eq_some_iff.1 h1).1
  refine List.ext_getElem? fun j=>?_
  by_cases hj:j=k
  ·subst hj
   rw[List.getElem?_map,h1,List.getElem?_set_self (by simpa using hk)]
   simp only[Option.map_some]
   rw[getD_set_same hi]
  ·rw[List.getElem?_set_ne (fun e2=>hj e2.symm),List.getElem?_map,List.getElem?_map]
   cases e3:ps[j]? with
   | none=>rfl
   | some p=>
    simp only[Option.map_some]
    rw[getD_set_ne fun e2=>hj (nodup_at hnd e3 (by rw[←e2];exact h1))]
theorem wp_region_bits {id:Nat} {w:World} {l:List Oper} (hm:P.follows .mixedOrders=true) (ps:List Nat) (C:List Bool→World→Prop) (rv:List (Option Value)) (hps:∀ p∈ps,p<l.length) (hnd:ps.Nodup) (hok:softB l.toArray a0.tmps.size=true)
  (hC:C (ps.map fun _=>false) w.drew) (hstep:OwesAllB P l.toArray Q C ps (RV rv) a0 0 l)
  (hQ:∀ a w,C (ps.map fun _=>true) w→a.defers=a0.defers→a.tmps.size=a0.tmps.size→(∀ t,freeTmp l.toArray t=true→a.tmps.getD t undef=a0.tmps.getD t undef)→(∀ (i:Nat) o,l[i]?=some o→RV rv i (slotOf o.dst a) w)→Q .normal a w) :
  (Code.region id l.toArray true).wp P Q a0 w:=by
 have hmono:∀ i v w w',(fun _ _=>True:World→World→Prop) w w'→RV rv i v w→RV rv i v w':=fun i v w w' _ h=>h
 have hso:=SoftOk.of hok
 refine wp_region_any hm (wpAny_softA (C:=fun listed _ w=>PhaseB l.toArray ps C listed w) (R:=RV rv) (G:=fun _ _=>True) hso hmono (fun i o ho listed a w hsz hun hdeps hc hsize hsee K hK=>?_)
  (fun listed a w hall hc h=>?_) l.toArray.size (Array.replicate l.toArray.size false) a0 w.drew ?_ ?_ ⟨by simp,rfl,rfl,fun _ _=>rfl,fun i o ho hl=>?_⟩)
 ·have hil:i<listed.size:=by rw[hsz];exact(Array.getElem?_eq_some_iff.1 ho).1
  have hf:listed.getD i false=false:=by simp[hil] at hun⊢;exact hun
  have hw:=owesAllB_at l 0 i o hstep (by simpa using ho)
  rw[Nat.zero_add] at hw
  have hdl:=fun d hd=>deps_listed ho hdeps d hd
  obtain⟨hw1,hw2⟩:=hw a w _ hc.c (fun k p hk hd=>by rw[List.getElem?_map,hk];simp only[Option.map_some];rw[hdl p hd]) (fun k p hk hd=>by
   rw[List.getElem?_map,hk]
   simp only[Option.map_some]
   rcases hd with rfl | hd
   ·rw[hf]
   ·cases e:listed.getD p false with
    | false=>rfl
    | true=>rw[hc.dep p e i hd] at hf;cases hf) hsee
  rw[if_pos hw1]
  refine hw2 K fun v w' hR hC'=>hK v w' hR ⟨by rw[bits_set hnd hil];exact hC',fun p hp d hd=>?_⟩ trivial
  by_cases hpi:i=p
  ·subst hpi
   exact listed_more hil (hdl d hd)
  ·rw[getD_set_ne hpi] at hp
   exact listed_more hil (hc.dep p hp d hd)
 ·refine hQ a w ?_ h.defers h.size (fun t ht=>h.outer t fun j oj' hj _ hd=>?_) fun i o ho=>h.inner i o (by simpa using ho) (by have:=(List.getElem?_eq_some_iff.1 ho).1;simp[this])
  ·have:=hc.c
   rwa[List.map_congr_left (g:=fun _=>true) fun p hp=>hall p (by simpa using hps p hp)] at this
  unfold freeTmp at ht
  rw[List.all_eq_true] at ht
  have:=ht oj' (Array.mem_toList_iff.2 (Array.mem_of_getElem? hj))
  simp[hd] at this
 ·unfold open_;exact Nat.le_trans List.countP_le_length (by simp)
 ·have hz:∀ p:Nat,(Array.replicate l.toArray.size false).getD p false=false:=fun p=>by by_cases hp:p<l.length <;> simp[hp]
  refine⟨?_,fun p hp=>by rw[hz] at hp;cases hp⟩
  rwa[List.map_congr_left (g:=fun _=>false) fun p _=>hz p]
 ·exfalso
  have hi:=(Array.getElem?_eq_some_iff.1 ho).1
  rw[List.size_toArray] at hi
  simp[hi] at hl
end
end Go.Proofs.YtipdgmjplnibeaaGreatDoor
