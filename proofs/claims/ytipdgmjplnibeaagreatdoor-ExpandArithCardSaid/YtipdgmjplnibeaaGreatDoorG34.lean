import Derived.Test.YtipdgmjplnibeaaGreatDoorG08
import Derived.Test.YtipdgmjplnibeaaGreatDoorG33
set_option maxRecDepth 100000
set_option maxHeartbeats 3200000
namespace Go.Proofs.YtipdgmjplnibeaaGreatDoor
open Go.RowKit Go.Maps
set_option maxRecDepth 100000
namespace Ws
section
variable {W W':World} {X T:Nat→Prop} {g s dp:Nat} {raw:L} {r:Wd.R} {x x':Wd.S}
def Rt (W:World) (X:Nat→Prop) (g s:Nat) (raw:L) (dp:Nat) (r:Wd.R) (x:Wd.S) (v:Value) (e:Ending) (W':World):Prop:=e=.returned v∧RM W' X g s raw dp r x∧Fr X W W'
def Rp (W:World) (X:Nat→Prop) (g s:Nat) (raw:L) (dp:Nat) (r:Wd.R) (y:Wd.P×Wd.S) (e:Ending) (W':World):Prop:=∃ vw,e=.returned (.agg #[.int .i64 (y.1.k:Int),.string (mkS y.1.t),.string (mkS y.1.o),.bool y.1.q,vw])∧RMv W' X g s raw dp r y.2 vw y.1.w∧Fr X W W'
theorem lift_s (h:RM W X g s raw dp r x) {f:FuncId} {args:Array Value} {v:Value} (hc:Calls Tryz.prog f args W fun e W'=>e=.returned v∧Sr W' s raw x'∧W.grownBy W' (some s)):Calls Tryz.prog f args W (Rt W X g s raw dp r x' v):=
 hc.mono fun _ _ ⟨e1,h1,h2⟩=>⟨e1,(h.step h1 h2).1,(h.step h1 h2).2⟩
theorem lift_l (h:RM W X g s raw dp r x) {f:FuncId} {args:Array Value} {v:Value} (hc:Calls Tryz.prog f args W fun e W'=>e=.returned v∧Later W W'):Calls Tryz.prog f args W (Rt W X g s raw dp r x v):=
 hc.mono fun _ _ ⟨e1,h1⟩=>⟨e1,h.later h1,Fr.later h1⟩
theorem lift_q (h:RM W X g s raw dp r x) {f:FuncId} {args:Array Value} {v:Value} (hc:Calls Tryz.prog f args W fun e W'=>e=.returned v∧∃ m,W'=W.drewN m):Calls Tryz.prog f args W (Rt W X g s raw dp r x v):=
 lift_l h (hc.mono fun e W' ⟨e1,m,e2⟩=>⟨e1,by rw[e2];exact later_drewN W m⟩)
theorem lift_r (h:RM W X g s raw dp r x) {f:FuncId} {args:Array Value} {r':Wd.R} (hc:∀ T,RMT W X T g s raw dp r x→Calls Tryz.prog f args W (RowR W X T g s raw dp r' x)):Calls Tryz.prog f args W (Rt W X g s raw dp r' x (.tuple #[])):=by
 obtain⟨T,h⟩:=h
 exact(hc T h).mono fun e W' ⟨e1,h1,h2⟩=>⟨e1,⟨T,h1⟩,h2.sub fun b hb=>.inl hb⟩
theorem fail_r (h:RM W X g s raw dp r x):Calls Tryz.prog 79 #[.pointer (some ⟨s,0,none⟩),.int .i64 11] W (Rt W X g s raw dp r (Wd.fail 11 x) (.tuple #[])):=lift_s h (fail_11 h.src)
theorem deep_r (h:RM W X g s raw dp r x):Calls Tryz.prog 79 #[.pointer (some ⟨s,0,none⟩),.int .i64 21] W (Rt W X g s raw dp r (Wd.fail 21 x) (.tuple #[])):=lift_s h (fail_21 h.src)
theorem next_r (h:RM W X g s raw dp r x):Calls Tryz.prog 81 #[.pointer (some ⟨s,0,none⟩)] W (Rt W X g s raw dp r (Wd.next x).2 (.string (mkS (Wd.next x).1))):=lift_s h (next_v h.src)
theorem left_r (h:RM W X g s raw dp r x):Calls Tryz.prog 53 #[.pointer (some ⟨s,0,none⟩)] W (Rt W X g s raw dp r x (.bool (Wd.left x))):=lift_q h (left_v h.src)
theorem rest_r (h:RM W X g s raw dp r x):Calls Tryz.prog 116 #[.pointer (some ⟨s,0,none⟩)] W (Rt W X g s raw dp r x (.string (mkS x.l))):=lift_q h (rest_v h.src)
theorem ahead_r (h:RM W X g s raw dp r x) (t:L) (ts:ByteArray) (ht:ts=mkS t):Calls Tryz.prog 114 #[.pointer (some ⟨s,0,none⟩),.string ts] W (Rt W X g s raw dp r x (.bool (Wd.ahead t x))):=by subst ht;exact lift_q h (ahead_v h.src t)
theorem need_r (h:RM W X g s raw dp r x) (t:L) (ts:ByteArray) (ht:ts=mkS t):Calls Tryz.prog 51 #[.pointer (some ⟨s,0,none⟩),.string ts] W (Rt W X g s raw dp r (Wd.need t x) (.tuple #[])):=by subst ht;exact lift_s h (need_v h.src t)
theorem take_t (h:RM W X g s raw dp r x) (t:L) (ts:ByteArray) (ht:ts=mkS t) (ha:Wd.ahead t x=true):Calls Tryz.prog 78 #[.pointer (some ⟨s,0,none⟩),.string ts] W (Rt W X g s raw dp r (Wd.skip t.length x) (.bool true)):=by
 subst ht
 have:=lift_s h (take_v h.src t)
 rw[ha] at this
 simpa using this
theorem take_f (h:RM W X g s raw dp r x) (t:L) (ts:ByteArray) (ht:ts=mkS t) (ha:Wd.ahead t x=false):Calls Tryz.prog 78 #[.pointer (some ⟨s,0,none⟩),.string ts] W (Rt W X g s raw dp r x (.bool false)):=by
 subst ht
 have:=lift_s h (take_v h.src t)
 rw[ha] at this
 simpa using this
theorem upTo_r (h:RM W X g s raw dp r x) (c:UInt8) (ts:ByteArray) (ht:ts=mkS [c]):Calls Tryz.prog 83 #[.pointer (some ⟨s,0,none⟩),.string ts] W (Rt W X g s raw dp r (Wd.upTo c x).2 (.string (mkS (Wd.upTo c x).1))):=by subst ht;exact lift_s h (upTo_v h.src c)
theorem param_r (h:RM W X g s raw dp r x) (l:L) (hl:l.length≤100000):Calls Tryz.prog 151 #[.string (mkS l)] W (Rt W X g s raw dp r x (.string (mkS (Wd.param l)))):=lift_l h (param_v l hl W)
theorem digits_r (h:RM W X g s raw dp r x) (l:L) (hl:l.length≤100000):Calls Tryz.prog 229 #[.string (mkS l)] W (Rt W X g s raw dp r x (.string (mkS (Wd.digits l)))):=lift_l h (digits_v l hl W)
theorem trim_r (h:RM W X g s raw dp r x) (l:L):Calls Tryz.prog 228 #[.string (mkS l),.string ⟨#[35]⟩] W (Rt W X g s raw dp r x (.string (mkS (Lib.trimPrefix l [35])))):=lift_l h ((Tryz.strings_TrimPrefix (mkS l) (mkS [35]) W).mono fun e W' ⟨e1,e2⟩=>⟨by rw[mkS_list,mkS_list] at e1;exact e1,by rw[e2];exact Later.refl W⟩)
theorem put_r (h:RM W X g s raw dp r x) (k:Nat) (kv:Int) (hkv:kv=(k:Int)) (hk:k≤9) (t:L) (ts:ByteArray) (ht:ts=mkS t) (hlen:r.ps.length+r.t.length+t.length≤10000000):Calls Tryz.prog 82 #[.pointer (some ⟨g,0,none⟩),.int .i64 kv,.string ts] W (Rt W X g s raw dp (Wd.put k t r) x (.tuple #[])):=by
 subst hkv ht
 exact lift_r h fun T h=>put_v h k hk t hlen
theorem add_r {p:Wd.P} {vw:Value} (h:RMv W X g s raw dp r x vw p.w) (PC:Array Value) (hPC:PC=#[.int .i64 (p.k:Int),.string (mkS p.t),.string (mkS p.o),.bool p.q,vw]) (hlen:r.ps.length≤10000000):Calls Tryz.prog 52 #[.pointer (some ⟨g,0,none⟩),.agg PC] W (Rt W X g s raw dp (Wd.add p r) x (.tuple #[])):=by
 subst hPC
 obtain⟨T,h,hv⟩:=h
 exact(add_v h p vw hv hlen).mono fun e W' ⟨e1,h1,h2⟩=>⟨e1,⟨T,h1⟩,h2.sub fun b hb=>.inl hb⟩
theorem param_len (l:L):(Wd.param l).length≤l.length:=by
 unfold Wd.param
 split
 ·exact Nat.le_refl _
 ·split
  ·simp
  ·exact(List.takeWhile_sublist _).length_le
theorem nil_eq (l:L):((mkS l).toList==([]:List UInt8))=decide (l=[]):=by
 rw[toList_mkS]
 cases l <;> simp
theorem small_r (h:RM W X g s raw dp r x):x.l.length≤100000:=Nat.le_trans h.src.len h.src.sml
theorem measured_v (h:RM W X g s raw dp r x):Calls Tryz.prog 174 #[.pointer (some ⟨g,0,none⟩)] W (Rt W X g s raw dp r (Wd.measured x).2 (.string (mkS (Wd.measured x).1))):=by
 obtain⟨⟨d3,d4⟩,dz⟩:=h.facts
 have hsm:=small_r h
 have htl:(Lib.trimPrefix x.l [35]).length≤100000:=by unfold Lib.trimPrefix;split <;> (try simp) <;> omega
 obtain⟨n,hn⟩:∃ n,n=Wd.param (Lib.trimPrefix x.l [35]):=⟨_,rfl⟩
 have hnil:=nil_eq n
 have HTL:=Lib.hid htl
 have hm:Wd.measured x=if n=[] then ([],x) else if Wd.ahead ([35]++n++[125]) x then (n,Wd.skip (n.length+2) x) else ([],x):=by rw[hn];rfl
 rw[hm]
 have HN:=Lib.hid hn
 have hP:=fun (W1:World) (h1:RM W1 X g s raw dp r x)=>param_r h1 (Lib.trimPrefix x.l [35]) htl
 rw[←hn] at hP
 have HP:=Lib.hid hP
 have H:=Lib.hid h
 have hcat:((⟨#[35]⟩:ByteArray)++mkS n)++⟨#[125]⟩=mkS ([35]++n++[125]):=by
  show (mkS [35]++mkS n)++mkS [125]=_
  rw[mkS_add,mkS_add]
 have HCT:=Lib.hid hcat
 have hnl:(mkS n).size≤100000:=by rw[mkS_size,hn];exact Nat.le_trans (param_len _) htl
 have hz1:¬ 9223372036854775807<1+(mkS n).size:=by omega
 have hz2:¬ 9223372036854775807<1+(mkS n).size+1:=by omega
 clear hnl
 by_cases h0:n=[]
 ·rw[if_pos h0]
  have he:((mkS n).toList==([]:List UInt8))=true:=by rw[hnil];simp[h0]
  clear hm hn hP h hsm htl hnil h0 hcat
  go_enter Tryz.func174,Tryz.ntmps174
  go_wp2_with (first
   |(go_at_call 116;(with_reducible refine(rest_r H.out).mono ?_);rintro e w1 ⟨rfl,h1,f1⟩;obtain⟨⟨d3x1,d4x1⟩,dzx1⟩:=h1.facts;have H1:=Lib.hid h1;have F1:=Lib.hid f1;clear h1 f1)
   |(go_at_call 228;(with_reducible refine(trim_r H1.out x.l).mono ?_);rintro e w2 ⟨rfl,h2,f2⟩;obtain⟨⟨d3x2,d4x2⟩,dzx2⟩:=h2.facts;have H2:=Lib.hid h2;have F2:=Lib.hid f2;clear h2 f2)
   |(go_at_call 151;(with_reducible refine(HP.out w2 H2.out).mono ?_);rintro e w3 ⟨rfl,h3,f3⟩;obtain⟨⟨d3x3,d4x3⟩,dzx3⟩:=h3.facts;have H3:=Lib.hid h3;have F3:=Lib.hid f3;clear h3 f3))
  go_ret
  exact⟨rfl,H3.out,F1.out.trans (F2.out.trans F3.out)⟩
 ·rw[if_neg h0]
  have he:((mkS n).toList==([]:List UInt8))=false:=by rw[hnil];simp[h0]
  cases ha:Wd.ahead ([35]++n++[125]) x with
  | true=>
   simp only[if_true]
   have HA:=Lib.hid ha
   have hlen:([35]++n++[125]).length=n.length+2:=by simp
   have HLN:=Lib.hid hlen
   clear hm hn hP h hsm htl hnil h0 hcat ha hlen
   go_enter Tryz.func174,Tryz.ntmps174
   go_wp2_with (first
    |(go_at_call 116;(with_reducible refine(rest_r H.out).mono ?_);rintro e w1 ⟨rfl,h1,f1⟩;obtain⟨⟨d3x1,d4x1⟩,dzx1⟩:=h1.facts;have H1:=Lib.hid h1;have F1:=Lib.hid f1;clear h1 f1)
    |(go_at_call 228;(with_reducible refine(trim_r H1.out x.l).mono ?_);rintro e w2 ⟨rfl,h2,f2⟩;obtain⟨⟨d3x2,d4x2⟩,dzx2⟩:=h2.facts;have H2:=Lib.hid h2;have F2:=Lib.hid f2;clear h2 f2)
    |(go_at_call 151;(with_reducible refine(HP.out w2 H2.out).mono ?_);rintro e w3 ⟨rfl,h3,f3⟩;obtain⟨⟨d3x3,d4x3⟩,dzx3⟩:=h3.facts;have H3:=Lib.hid h3;have F3:=Lib.hid f3;clear h3 f3)
    |(go_at_call 78;(with_reducible refine(take_t H3.out ([35]++n++[125]) _ HCT.out HA.out).mono ?_);rintro e w4 ⟨rfl,h4,f4⟩;obtain⟨⟨d3x4,d4x4⟩,dzx4⟩:=h4.facts;have H4:=Lib.hid h4;have F4:=Lib.hid f4;clear h4 f4))
   go_ret
   refine⟨rfl,?_,F1.out.trans (F2.out.trans (F3.out.trans F4.out))⟩
   rw[←HLN.out]
   exact H4.out
  | false=>
   simp only[Bool.false_eq_true,if_false]
   have HA:=Lib.hid ha
   clear hm hn hP h hsm htl hnil h0 hcat ha
   go_enter Tryz.func174,Tryz.ntmps174
   go_wp2_with (first
    |(go_at_call 116;(with_reducible refine(rest_r H.out).mono ?_);rintro e w1 ⟨rfl,h1,f1⟩;obtain⟨⟨d3x1,d4x1⟩,dzx1⟩:=h1.facts;have H1:=Lib.hid h1;have F1:=Lib.hid f1;clear h1 f1)
    |(go_at_call 228;(with_reducible refine(trim_r H1.out x.l).mono ?_);rintro e w2 ⟨rfl,h2,f2⟩;obtain⟨⟨d3x2,d4x2⟩,dzx2⟩:=h2.facts;have H2:=Lib.hid h2;have F2:=Lib.hid f2;clear h2 f2)
    |(go_at_call 151;(with_reducible refine(HP.out w2 H2.out).mono ?_);rintro e w3 ⟨rfl,h3,f3⟩;obtain⟨⟨d3x3,d4x3⟩,dzx3⟩:=h3.facts;have H3:=Lib.hid h3;have F3:=Lib.hid f3;clear h3 f3)
    |(go_at_call 78;(with_reducible refine(take_f H3.out ([35]++n++[125]) _ HCT.out HA.out).mono ?_);rintro e w4 ⟨rfl,h4,f4⟩;obtain⟨⟨d3x4,d4x4⟩,dzx4⟩:=h4.facts;have H4:=Lib.hid h4;have F4:=Lib.hid f4;clear h4 f4))
   go_ret
   exact⟨rfl,H4.out,F1.out.trans (F2.out.trans (F3.out.trans F4.out))⟩
theorem named_v (h:RM W X g s raw dp r x):Calls Tryz.prog 175 #[.pointer (some ⟨g,0,none⟩)] W (Rt W X g s raw dp r (Wd.named x).2 (.string (mkS (Wd.named x).1))):=by
 obtain⟨⟨d3,d4⟩,dz⟩:=h.facts
 have HSM:=Lib.hid (small_r h)
 obtain⟨d,hd⟩:∃ d,d=Wd.digits x.l:=⟨_,rfl⟩
 obtain⟨n,hn⟩:∃ n,n=Wd.param x.l:=⟨_,rfl⟩
 have hnd:=nil_eq d
 have hnn:=nil_eq n
 have hD:=fun (W1:World) (h1:RM W1 X g s raw dp r x)=>digits_r h1 x.l HSM.out
 have hP:=fun (W1:World) (h1:RM W1 X g s raw dp r x)=>param_r h1 x.l HSM.out
 rw[←hd] at hD
 rw[←hn] at hP
 have HD:=Lib.hid hD
 have HP:=Lib.hid hP
 have H:=Lib.hid h
 unfold Wd.named Wd.nameOf
 rw[←hd,←hn]
 by_cases h0:d=[]
 ·rw[if_pos h0]
  have he:((mkS d).toList==([]:List UInt8))=true:=by rw[hnd];simp[h0]
  by_cases h1:n=[]
  ·rw[if_pos h1]
   have he2:((mkS n).toList==([]:List UInt8))=true:=by rw[hnn];simp[h1]
   clear hd hn hD hP h hnd hnn h0 h1
   go_enter Tryz.func175,Tryz.ntmps175
   go_wp2_with (first
    |(go_at_call 116;(with_reducible refine(rest_r H.out).mono ?_);rintro e w1 ⟨rfl,h1,f1⟩;obtain⟨⟨d3x1,d4x1⟩,dzx1⟩:=h1.facts;have H1:=Lib.hid h1;have F1:=Lib.hid f1;clear h1 f1)
    |(go_at_call 229;(with_reducible refine(HD.out w1 H1.out).mono ?_);rintro e w2 ⟨rfl,h2,f2⟩;obtain⟨⟨d3x2,d4x2⟩,dzx2⟩:=h2.facts;have H2:=Lib.hid h2;have F2:=Lib.hid f2;clear h2 f2)
    |(go_at_call 116;(with_reducible refine(rest_r H2.out).mono ?_);rintro e w3 ⟨rfl,h3,f3⟩;obtain⟨⟨d3x3,d4x3⟩,dzx3⟩:=h3.facts;have H3:=Lib.hid h3;have F3:=Lib.hid f3;clear h3 f3)
    |(go_at_call 151;(with_reducible refine(HP.out w3 H3.out).mono ?_);rintro e w4 ⟨rfl,h4,f4⟩;obtain⟨⟨d3x4,d4x4⟩,dzx4⟩:=h4.facts;have H4:=Lib.hid h4;have F4:=Lib.hid f4;clear h4 f4)
    |(go_at_call 79;(with_reducible refine(fail_r H4.out).mono ?_);rintro e w5 ⟨rfl,h5,f5⟩;obtain⟨⟨d3x5,d4x5⟩,dzx5⟩:=h5.facts;have H5:=Lib.hid h5;have F5:=Lib.hid f5;clear h5 f5)
    |(go_at_call 51;(with_reducible refine(need_r H5.out n _ rfl).mono ?_);rintro e w6 ⟨rfl,h6,f6⟩;obtain⟨⟨d3x6,d4x6⟩,dzx6⟩:=h6.facts;have H6:=Lib.hid h6;have F6:=Lib.hid f6;clear h6 f6))
   go_ret
   exact⟨rfl,H6.out,F1.out.trans (F2.out.trans (F3.out.trans (F4.out.trans (F5.out.trans F6.out))))⟩
  ·rw[if_neg h1]
   have he2:((mkS n).toList==([]:List UInt8))=false:=by rw[hnn];simp[h1]
   clear hd hn hD hP h hnd hnn h0 h1
   go_enter Tryz.func175,Tryz.ntmps175
   go_wp2_with (first
    |(go_at_call 116;(with_reducible refine(rest_r H.out).mono ?_);rintro e w1 ⟨rfl,h1,f1⟩;obtain⟨⟨d3x1,d4x1⟩,dzx1⟩:=h1.facts;have H1:=Lib.hid h1;have F1:=Lib.hid f1;clear h1 f1)
    |(go_at_call 229;(with_reducible refine(HD.out w1 H1.out).mono ?_);rintro e w2 ⟨rfl,h2,f2⟩;obtain⟨⟨d3x2,d4x2⟩,dzx2⟩:=h2.facts;have H2:=Lib.hid h2;have F2:=Lib.hid f2;clear h2 f2)
    |(go_at_call 116;(with_reducible refine(rest_r H2.out).mono ?_);rintro e w3 ⟨rfl,h3,f3⟩;obtain⟨⟨d3x3,d4x3⟩,dzx3⟩:=h3.facts;have H3:=Lib.hid h3;have F3:=Lib.hid f3;clear h3 f3)
    |(go_at_call 151;(with_reducible refine(HP.out w3 H3.out).mono ?_);rintro e w4 ⟨rfl,h4,f4⟩;obtain⟨⟨d3x4,d4x4⟩,dzx4⟩:=h4.facts;have H4:=Lib.hid h4;have F4:=Lib.hid f4;clear h4 f4)
    |(go_at_call 51;(with_reducible refine(need_r H4.out n _ rfl).mono ?_);rintro e w6 ⟨rfl,h6,f6⟩;obtain⟨⟨d3x6,d4x6⟩,dzx6⟩:=h6.facts;have H6:=Lib.hid h6;have F6:=Lib.hid f6;clear h6 f6))
   go_ret
   exact⟨rfl,H6.out,F1.out.trans (F2.out.trans (F3.out.trans (F4.out.trans F6.out)))⟩
 ·rw[if_neg h0,if_neg h0]
  have he:((mkS d).toList==([]:List UInt8))=false:=by rw[hnd];simp[h0]
  clear hd hn hD hP h hnd hnn h0
  go_enter Tryz.func175,Tryz.ntmps175
  go_wp2_with (first
   |(go_at_call 116;(with_reducible refine(rest_r H.out).mono ?_);rintro e w1 ⟨rfl,h1,f1⟩;obtain⟨⟨d3x1,d4x1⟩,dzx1⟩:=h1.facts;have H1:=Lib.hid h1;have F1:=Lib.hid f1;clear h1 f1)
   |(go_at_call 229;(with_reducible refine(HD.out w1 H1.out).mono ?_);rintro e w2 ⟨rfl,h2,f2⟩;obtain⟨⟨d3x2,d4x2⟩,dzx2⟩:=h2.facts;have H2:=Lib.hid h2;have F2:=Lib.hid f2;clear h2 f2)
   |(go_at_call 51;(with_reducible refine(need_r H2.out d _ rfl).mono ?_);rintro e w6 ⟨rfl,h6,f6⟩;obtain⟨⟨d3x6,d4x6⟩,dzx6⟩:=h6.facts;have H6:=Lib.hid h6;have F6:=Lib.hid f6;clear h6 f6))
  go_ret
  exact⟨rfl,H6.out,F1.out.trans (F2.out.trans F6.out)⟩
theorem find_step {x:Wd.S} {k:Nat} (hk:k<12) (h:Wd.ahead (Wd.ops.getD k []) x=true) (hb:∀ j,j<k→Wd.ahead (Wd.ops.getD j []) x=false):Wd.op x=(Wd.ops.getD k [],Wd.skip (Wd.ops.getD k []).length x):=by
 have hl:k<Wd.ops.length:=hk
 have h1:Wd.ops.find? (fun o=>Wd.ahead o x)=some (Wd.ops.getD k []):=by
  rw[List.find?_eq_some_iff_getElem]
  refine⟨h,k,hl,by rw[List.getD_eq_getElem?_getD,List.getElem?_eq_getElem hl];rfl,fun j hj=>?_⟩
  have:=hb j hj
  rw[List.getD_eq_getElem?_getD,List.getElem?_eq_getElem (by omega)] at this
  simpa using this
 unfold Wd.op
 rw[h1]
theorem find_none {x:Wd.S} (hb:∀ j,j<12→Wd.ahead (Wd.ops.getD j []) x=false):Wd.op x=([],Wd.fail 11 x):=by
 have h1:Wd.ops.find? (fun o=>Wd.ahead o x)=none:=by
  rw[List.find?_eq_none]
  intro o ho
  obtain⟨j,hj⟩:=List.mem_iff_getElem?.1 ho
  have:=hb j (List.getElem?_eq_some_iff.1 hj).1
  rw[List.getD_eq_getElem?_getD,hj] at this
  simpa using this
 unfold Wd.op
 rw[h1]
def opsV:Array Value:=(Wd.ops.map sv).toArray
theorem ops_load {W:World} (h:Ops W):(Instr.loadAt 242 (.pointer (some ⟨4,0,none⟩))).run Tryz.prog W=.ok (.agg opsV) W:=by
 refine run_loadAt_mid (P:=Tryz.prog) W 4 0 242 (Wd.ops.map sv) _ (fun j u hu=>?_) Tryz.underlying242 rfl (by kernel_rfl)
 have hj:j<12:=(List.getElem?_eq_some_iff.1 hu).1
 rw[Nat.zero_add,h j hj]
 rw[List.getElem?_map] at hu
 rw[List.getD_eq_getElem?_getD]
 cases e:Wd.ops[j]? with
 | none=>rw[e] at hu;cases hu
 | some o=>rw[e] at hu;simpa [sv] using hu
end
end Ws
end Go.Proofs.YtipdgmjplnibeaaGreatDoor
namespace Go.Proofs.YtipdgmjplnibeaaGreatDoor
open Go.RowKit Go.Maps
set_option maxRecDepth 100000
namespace Ws
section
variable {W W':World} {X T:Nat→Prop} {g s dp:Nat} {raw:L} {r:Wd.R} {x x':Wd.S}
theorem ops_index (k:Nat) (hk:k<12) (w:World):(Instr.index 242 (.agg opsV) (.int .i64 (k:Int))).run Tryz.prog w=.ok (.string (mkS (Wd.ops.getD k []))) w:=by
 have hkk:k=0∨k=1∨k=2∨k=3∨k=4∨k=5∨k=6∨k=7∨k=8∨k=9∨k=10∨k=11:=by omega
 clear hk
 rcases hkk with rfl | rfl | rfl | rfl | rfl | rfl | rfl | rfl | rfl | rfl | rfl | rfl
 all_goals rfl
theorem op_v (h:RM W X g s raw dp r x):Calls Tryz.prog 176 #[.pointer (some ⟨g,0,none⟩)] W (Rt W X g s raw dp r (Wd.op x).2 (.string (mkS (Wd.op x).1))):=by
 have HO:=Lib.hid (ops_load h.op)
 have H:=Lib.hid h
 clear h
 go_enter Tryz.func176,Tryz.ntmps176
 go_wp2_with (refine wpList_loadRun rfl 242 (.global 4) rfl _ _ rfl HO.out ?_)
 go_loopw [6] (fun i wr=>∃ k:Nat,k≤12∧i=.int .i64 (k:Int)∧RM wr X g s raw dp r x∧Fr X W wr∧∀ j,j<k→Wd.ahead (Wd.ops.getD j []) x=false) (fun i _=>12-(intOf i).toNat)
 case atStart=>exact⟨0,by omega,rfl,H.out,Fr.refl _ _,fun j hj=>by omega⟩
 case round=>
  obtain⟨k,hk,rfl,hm,hf,hj⟩:=hrel
  have HM:=Lib.hid hm
  have HF:=Lib.hid hf
  have HJ:=Lib.hid hj
  obtain⟨⟨d3,d4⟩,dz⟩:=hm.facts
  clear hm hf hj
  by_cases hk12:k<12
  ·have hk1:(k:Int)<12:=by omega
   have HIX:=Lib.hid (ops_index k hk12)
   obtain⟨o,ho⟩:∃ o,o=Wd.ops.getD k []:=⟨_,rfl⟩
   rw[←ho] at HIX
   have HOO:=Lib.hid ho
   cases ha:Wd.ahead o x with
   | true=>
    have HA:=Lib.hid ha
    have HFS:=Lib.hid (find_step hk12 (by rw[←ho];exact ha) HJ.out)
    rw[←ho] at HFS
    clear ha ho hk12
    go_wp2_with (first
     |(refine wpList_index rfl (.tmp 5) (.tmp 6) rfl rfl rfl (.string (mkS o)) (HIX.out _) ?_)
     |(go_at_call 78;(with_reducible refine(take_t HM.out o _ rfl HA.out).mono ?_);rintro e w1 ⟨rfl,h1,f1⟩;obtain⟨⟨d3x1,d4x1⟩,dzx1⟩:=h1.facts;have H1:=Lib.hid h1;have F1:=Lib.hid f1;clear h1 f1))
    go_ret
    rw[HFS.out]
    exact⟨rfl,H1.out,HF.out.trans F1.out⟩
   | false=>
    have HA:=Lib.hid ha
    clear ha ho
    go_wp2_with (first
     |(refine wpList_index rfl (.tmp 5) (.tmp 6) rfl rfl rfl (.string (mkS o)) (HIX.out _) ?_)
     |(go_at_call 78;(with_reducible refine(take_f HM.out o _ rfl HA.out).mono ?_);rintro e w1 ⟨rfl,h1,f1⟩;obtain⟨⟨d3x1,d4x1⟩,dzx1⟩:=h1.facts;have H1:=Lib.hid h1;have F1:=Lib.hid f1;clear h1 f1))
    go_roundw
    case rel=>
     refine⟨k+1,by omega,by go_num,H1.out,HF.out.trans F1.out,fun j hj=>?_⟩
     by_cases e:j=k
     ·rw[e,←HOO.out];exact HA.out
     ·exact HJ.out j (by omega)
    case measure=>simp[intOf];omega
  ·have hk1:¬ (k:Int)<12:=by omega
   have HFN:=Lib.hid (find_none (x:=x) fun j hj=>HJ.out j (by omega))
   clear hk12
   go_wp2_with (first
    |(go_at_call 79;(with_reducible refine(fail_r HM.out).mono ?_);rintro e w1 ⟨rfl,h1,f1⟩;obtain⟨⟨d3x1,d4x1⟩,dzx1⟩:=h1.facts;have H1:=Lib.hid h1;have F1:=Lib.hid f1;clear h1 f1))
   go_ret
   rw[HFN.out]
   exact⟨rfl,H1.out,HF.out.trans F1.out⟩
def atS (s:Nat) (w:World):Nat:=match w.cell? ⟨s,1,none⟩ with
 | some v=>(intOf v).toNat
 | none=>0
theorem at_len (h:Sr W s raw x):atS s W+x.l.length=raw.length:=by
 obtain⟨p,h⟩:=h
 unfold atS
 rw[h.facts.1.2.1]
 have:=h.at_
 simpa [intOf] using this
theorem tok_eq (c b:UInt8):((mkS [c]).toList==([b]:List UInt8))=decide (c=b):=by
 rw[toList_mkS]
 by_cases h:c=b <;> simp[h]
theorem mid_text (S:L) (p q:Nat):(mkS S).extract p q=mkS ((S.drop p).take (q-p)):=by
 apply ByteArray.ext
 simp[mkS]
theorem ahead_one (b c:UInt8) (t:L) (e:Nat):Wd.ahead [b] ⟨c::t,e⟩=(b==c):=by
 unfold Wd.ahead Lib.hasPrefix
 simp[List.isPrefixOf]
theorem rk_stop {n o:Nat} {y:Wd.S} (h:¬ (y.l≠[]∧(0<o∨Wd.ahead [41] y=false))):Wd.rk n o y=y:=by
 cases n with
 | zero=>rfl
 | succ n=>rw[Wd.rk,if_neg h]
theorem rk_go {n o:Nat} {c:UInt8} {t:L} {e:Nat} (h:0<o∨Wd.ahead [41] ⟨c::t,e⟩=false) (hn:t.length+1≤n):∃ n',t.length≤n'∧Wd.rk n o ⟨c::t,e⟩=Wd.rk n' (if c=40 then o+1 else if c=41 then o-1 else o) ⟨t,e⟩:=by
 cases n with
 | zero=>omega
 | succ n=>
  refine⟨n,by omega,?_⟩
  rw[Wd.rk,if_pos ⟨by simp,h⟩]
  show Wd.rk n (if ([c]:L)=[40] then o+1 else if ([c]:L)=[41] then o-1 else o) ⟨t,e⟩=_
  simp
theorem reckoned_v (h:RM W X g s raw dp r x):Calls Tryz.prog 150 #[.pointer (some ⟨g,0,none⟩)] W (Rt W X g s raw dp r (Wd.reckoned x).2 (.string (mkS (Wd.reckoned x).1))):=by
 obtain⟨⟨d3,d4⟩,dz⟩:=h.facts
 obtain⟨p0,hs0⟩:=h.src
 obtain⟨⟨c0,c1,c2⟩,cz⟩:=hs0.facts
 have HS0:=Lib.hid hs0
 have H:=Lib.hid h
 clear h hs0
 go_enter Tryz.func150,Tryz.ntmps150
 go_wp2
 go_loopw [4] (fun i wr=>∃ (n o:Nat) (y:Wd.S),i=.int .i64 (o:Int)∧RM wr X g s raw dp r y∧Fr X W wr∧Wd.rk x.l.length 0 x=Wd.rk n o y∧y.l.length≤n∧o+y.l.length≤raw.length) (fun _ wr=>raw.length-atS s wr)
 case atStart=>exact⟨x.l.length,0,x,rfl,H.out,Fr.refl _ _,rfl,Nat.le_refl _,by have:=H.out.src.len;omega⟩
 case round=>
  obtain⟨n,o,⟨yl,ye⟩,rfl,hm,hf,hrk,hn,ho⟩:=hrel
  obtain⟨⟨d3,d4⟩,dz⟩:=hm.facts
  have HM:=Lib.hid hm
  have HF:=Lib.hid hf
  have HRK:=Lib.hid hrk
  have HN:=Lib.hid (And.intro hn ho)
  have hsm:=hm.src.sml
  have HAT:=Lib.hid (at_len hm.src)
  clear hm hf hrk hn
  have ho0:(0:Int)≤(o:Int):=by omega
  have hsz:(mkS raw).size=raw.length:=mkS_size raw
  cases yl with
  | nil=>
   have HL:=Lib.hid (show Wd.left ⟨[],ye⟩=false from rfl)
   have HE:=Lib.hid (HRK.out.trans (rk_stop (by simp)))
   have hl:=left_r HM.out
   rw[HL.out] at hl
   have HLL:=Lib.hid hl
   clear hl ho
   go_wp2_with (first
    |(go_at_call 53;(with_reducible refine(HLL.out).mono ?_);rintro e w1 ⟨rfl,h1,f1⟩;obtain⟨⟨d3x1,d4x1⟩,dzx1⟩:=h1.facts;have H1:=Lib.hid h1;have F1:=Lib.hid f1;clear h1 f1))
   obtain⟨p1,hs1⟩:=H1.out.src
   obtain⟨⟨e0,e1,e2⟩,ez⟩:=hs1.facts
   have hq0:=HS0.out.at_
   have hq1:=hs1.at_
   have hpl:p0≤p1:=by
    have h8:=Wd.rk_len x.l.length 0 x
    rw[HE.out] at h8
    omega
   have hp0:(0:Int)≤(p0:Int):=by omega
   have hp1:(p0:Int)≤(p1:Int):=by omega
   have hp2:(p1:Int)≤((mkS raw).size:Int):=by omega
   have HTX:=Lib.hid (show (mkS raw).extract p0 p1=mkS (Wd.reckoned x).1 by
    rw[mid_text,HS0.out.cut]
    unfold Wd.reckoned
    rw[HE.out]
    refine congrArg (fun z=>mkS (x.l.take z)) ?_
    dsimp only at hq1⊢
    omega)
   have HND:=Lib.hid (show Wd.need [41,41] _=(Wd.reckoned x).2 from congrArg (Wd.need [41,41]) HE.out.symm)
   clear hq0 hq1 hpl hs1 hsz
   go_quiet (fail)
   go_wp2_with (first
    |(go_at_call 51;(with_reducible refine(need_r (H1.out.drewN _) [41,41] ⟨#[41,41]⟩ rfl).mono ?_);rintro e w9 ⟨rfl,h9,f9⟩;have H9:=Lib.hid h9;have F9:=Lib.hid f9;clear h9 f9))
   go_ret
   refine⟨by rw[←HTX.out];rfl,?_,HF.out.trans (F1.out.trans (((Fr.later (later_drewN _ _)).trans F9.out)))⟩
   rw[←HND.out]
   exact H9.out
  | cons c t=>
   have hl:=left_r HM.out
   rw[show Wd.left ⟨c::t,ye⟩=true from rfl] at hl
   have HLL:=Lib.hid hl
   clear hl
   by_cases hop:0<o
   ·have hop1:(0:Int)<(o:Int):=by omega
    have HGO:=Lib.hid (rk_go (c:=c) (t:=t) (e:=ye) (o:=o) (n:=n) (.inl hop) HN.out.1)
    have hc1:=tok_eq c 40
    have hc2:=tok_eq c 41
    by_cases h40:c=40
    ·rw[decide_eq_true h40] at hc1
     have HH40:=Lib.hid h40
     clear h40
     have hw:wrap64 (((o:Int):Int)+1)=((o:Int):Int)+1:=w64 _ (by omega)
     clear hc2
     go_wp2_with (first
      |(go_at_call 53;(with_reducible refine(HLL.out).mono ?_);rintro e w1 ⟨rfl,h1,f1⟩;obtain⟨⟨d3x1,d4x1⟩,dzx1⟩:=h1.facts;have H1:=Lib.hid h1;have F1:=Lib.hid f1;clear h1 f1)
      |(go_at_call 81;have h5:=next_r H1.out;rw[show Wd.next ⟨c::t,ye⟩=([c],⟨t,ye⟩) from rfl] at h5;(with_reducible refine h5.mono ?_);clear h5;rintro e w3 ⟨rfl,h3,f3⟩;have H3:=Lib.hid h3;have F3:=Lib.hid f3;have AT3:=Lib.hid (at_len h3.src);clear h3 f3))
     go_roundw
     case rel=>
      obtain⟨n',hn',hr'⟩:=HGO.out
      rw[if_pos HH40.out] at hr'
      exact⟨n',o+1,⟨t,ye⟩,by first | rfl | go_num,H3.out,HF.out.trans (F1.out.trans (F3.out)),HRK.out.trans hr',hn',by have:=HN.out.2;simp at this⊢;omega⟩
     case measure=>
      have q1:=HAT.out
      have q2:=AT3.out
      simp only[List.length_cons] at q1
      omega
    ·rw[decide_eq_false h40] at hc1
     by_cases h41:c=41
     ·rw[decide_eq_true h41] at hc2
      have HH41:=Lib.hid h41
      clear h41
      have hw:wrap64 (((o:Int):Int)-1)=((o-1:Nat):Int):=by rw[w64 _ (by omega)];omega
      have HH40:=Lib.hid h40
      clear h40
      go_wp2_with (first
       |(go_at_call 53;(with_reducible refine(HLL.out).mono ?_);rintro e w1 ⟨rfl,h1,f1⟩;obtain⟨⟨d3x1,d4x1⟩,dzx1⟩:=h1.facts;have H1:=Lib.hid h1;have F1:=Lib.hid f1;clear h1 f1)
       |(go_at_call 81;have h5:=next_r H1.out;rw[show Wd.next ⟨c::t,ye⟩=([c],⟨t,ye⟩) from rfl] at h5;(with_reducible refine h5.mono ?_);clear h5;rintro e w3 ⟨rfl,h3,f3⟩;have H3:=Lib.hid h3;have F3:=Lib.hid f3;have AT3:=Lib.hid (at_len h3.src);clear h3 f3))
      go_roundw
      case rel=>
       obtain⟨n',hn',hr'⟩:=HGO.out
       rw[if_neg HH40.out,if_pos HH41.out] at hr'
       exact⟨n',o-1,⟨t,ye⟩,by first | rfl | go_num,H3.out,HF.out.trans (F1.out.trans (F3.out)),HRK.out.trans hr',hn',by have:=HN.out.2;simp at this⊢;omega⟩
      case measure=>
       have q1:=HAT.out
       have q2:=AT3.out
       simp only[List.length_cons] at q1
       omega
     ·rw[decide_eq_false h41] at hc2
      have HH40:=Lib.hid h40
      have HH41:=Lib.hid h41
      clear h40 h41
      go_wp2_with (first
       |(go_at_call 53;(with_reducible refine(HLL.out).mono ?_);rintro e w1 ⟨rfl,h1,f1⟩;obtain⟨⟨d3x1,d4x1⟩,dzx1⟩:=h1.facts;have H1:=Lib.hid h1;have F1:=Lib.hid f1;clear h1 f1)
       |(go_at_call 81;have h5:=next_r H1.out;rw[show Wd.next ⟨c::t,ye⟩=([c],⟨t,ye⟩) from rfl] at h5;(with_reducible refine h5.mono ?_);clear h5;rintro e w3 ⟨rfl,h3,f3⟩;have H3:=Lib.hid h3;have F3:=Lib.hid f3;have AT3:=Lib.hid (at_len h3.src);clear h3 f3))
      go_roundw
      case rel=>
       obtain⟨n',hn',hr'⟩:=HGO.out
       rw[if_neg HH40.out,if_neg HH41.out] at hr'
       exact⟨n',o,⟨t,ye⟩,by first | rfl | go_num,H3.out,HF.out.trans (F1.out.trans (F3.out)),HRK.out.trans hr',hn',by have:=HN.out.2;simp at this⊢;omega⟩
      case measure=>
       have q1:=HAT.out
       have q2:=AT3.out
       simp only[List.length_cons] at q1
       omega
   ·have ho2:o=0:=by omega
    subst ho2
    have ha:=ahead_one 41 c t ye
    by_cases hc:c=41
    ·subst hc
     rw[show ((41:UInt8)==41)=true from rfl] at ha
     have HA:=Lib.hid ha
     have HE:=Lib.hid (HRK.out.trans (rk_stop (by rw[HA.out];simp)))
     clear ha ho hop
     go_wp2_with (first
      |(go_at_call 53;(with_reducible refine(HLL.out).mono ?_);rintro e w1 ⟨rfl,h1,f1⟩;obtain⟨⟨d3x1,d4x1⟩,dzx1⟩:=h1.facts;have H1:=Lib.hid h1;have F1:=Lib.hid f1;clear h1 f1)
      |(go_at_call 114;have ha2:=ahead_r H1.out [41] ⟨#[41]⟩ rfl;rw[HA.out] at ha2;(with_reducible refine ha2.mono ?_);clear ha2;rintro e w2 ⟨rfl,h2,f2⟩;obtain⟨⟨d3x2,d4x2⟩,dzx2⟩:=h2.facts;have H2:=Lib.hid h2;have F2:=Lib.hid f2;clear h2 f2))
     obtain⟨p1,hs1⟩:=H2.out.src
     obtain⟨⟨e0,e1,e2⟩,ez⟩:=hs1.facts
     have hq0:=HS0.out.at_
     have hq1:=hs1.at_
     have hpl:p0≤p1:=by
      have h8:=Wd.rk_len x.l.length 0 x
      rw[HE.out] at h8
      omega
     have hp0:(0:Int)≤(p0:Int):=by omega
     have hp1:(p0:Int)≤(p1:Int):=by omega
     have hp2:(p1:Int)≤((mkS raw).size:Int):=by omega
     have HTX:=Lib.hid (show (mkS raw).extract p0 p1=mkS (Wd.reckoned x).1 by
      rw[mid_text,HS0.out.cut]
      unfold Wd.reckoned
      rw[HE.out]
      refine congrArg (fun z=>mkS (x.l.take z)) ?_
      dsimp only at hq1⊢
      omega)
     have HND:=Lib.hid (show Wd.need [41,41] _=(Wd.reckoned x).2 from congrArg (Wd.need [41,41]) HE.out.symm)
     clear hq0 hq1 hpl hs1 hsz
     go_quiet (fail)
     go_wp2_with (first
      |(go_at_call 51;(with_reducible refine(need_r (H2.out.drewN _) [41,41] ⟨#[41,41]⟩ rfl).mono ?_);rintro e w9 ⟨rfl,h9,f9⟩;have H9:=Lib.hid h9;have F9:=Lib.hid f9;clear h9 f9))
     go_ret
     refine⟨by rw[←HTX.out];rfl,?_,HF.out.trans (F1.out.trans (F2.out.trans (((Fr.later (later_drewN _ _)).trans F9.out))))⟩
     rw[←HND.out]
     exact H9.out
    ·have hne:((41:UInt8)==c)=false:=beq_eq_false_iff_ne.2 fun e=>hc e.symm
     rw[hne] at ha
     have HA:=Lib.hid ha
     have HGO:=Lib.hid (rk_go (c:=c) (t:=t) (e:=ye) (o:=0) (n:=n) (.inr ha) HN.out.1)
     clear ha hop hne
     have hc1:=tok_eq c 40
     have hc2:=tok_eq c 41
     by_cases h40:c=40
     ·rw[decide_eq_true h40] at hc1
      have HH40:=Lib.hid h40
      clear h40
      have hw:wrap64 ((((0:Nat):Int):Int)+1)=(((0:Nat):Int):Int)+1:=w64 _ (by omega)
      clear hc2
      go_wp2_with (first
       |(go_at_call 53;(with_reducible refine(HLL.out).mono ?_);rintro e w1 ⟨rfl,h1,f1⟩;obtain⟨⟨d3x1,d4x1⟩,dzx1⟩:=h1.facts;have H1:=Lib.hid h1;have F1:=Lib.hid f1;clear h1 f1)
       |(go_at_call 114;have ha2:=ahead_r H1.out [41] ⟨#[41]⟩ rfl;rw[HA.out] at ha2;(with_reducible refine ha2.mono ?_);clear ha2;rintro e w2 ⟨rfl,h2,f2⟩;obtain⟨⟨d3x2,d4x2⟩,dzx2⟩:=h2.facts;have H2:=Lib.hid h2;have F2:=Lib.hid f2;clear h2 f2)
       |(go_at_call 81;have h5:=next_r H2.out;rw[show Wd.next ⟨c::t,ye⟩=([c],⟨t,ye⟩) from rfl] at h5;(with_reducible refine h5.mono ?_);clear h5;rintro e w3 ⟨rfl,h3,f3⟩;have H3:=Lib.hid h3;have F3:=Lib.hid f3;have AT3:=Lib.hid (at_len h3.src);clear h3 f3))
      go_roundw
      case rel=>
       obtain⟨n',hn',hr'⟩:=HGO.out
       rw[if_pos HH40.out] at hr'
       exact⟨n',0+1,⟨t,ye⟩,by first | rfl | go_num,H3.out,HF.out.trans (F1.out.trans (F2.out.trans (F3.out))),HRK.out.trans hr',hn',by have:=HN.out.2;simp at this⊢;omega⟩
      case measure=>
       have q1:=HAT.out
       have q2:=AT3.out
       simp only[List.length_cons] at q1
       omega
     ·rw[decide_eq_false h40] at hc1
      rw[decide_eq_false hc] at hc2
      have HH40:=Lib.hid h40
      have HH41:=Lib.hid hc
      clear h40 hc
      go_wp2_with (first
       |(go_at_call 53;(with_reducible refine(HLL.out).mono ?_);rintro e w1 ⟨rfl,h1,f1⟩;obtain⟨⟨d3x1,d4x1⟩,dzx1⟩:=h1.facts;have H1:=Lib.hid h1;have F1:=Lib.hid f1;clear h1 f1)
       |(go_at_call 114;have ha2:=ahead_r H1.out [41] ⟨#[41]⟩ rfl;rw[HA.out] at ha2;(with_reducible refine ha2.mono ?_);clear ha2;rintro e w2 ⟨rfl,h2,f2⟩;obtain⟨⟨d3x2,d4x2⟩,dzx2⟩:=h2.facts;have H2:=Lib.hid h2;have F2:=Lib.hid f2;clear h2 f2)
       |(go_at_call 81;have h5:=next_r H2.out;rw[show Wd.next ⟨c::t,ye⟩=([c],⟨t,ye⟩) from rfl] at h5;(with_reducible refine h5.mono ?_);clear h5;rintro e w3 ⟨rfl,h3,f3⟩;have H3:=Lib.hid h3;have F3:=Lib.hid f3;have AT3:=Lib.hid (at_len h3.src);clear h3 f3))
      go_roundw
      case rel=>
       obtain⟨n',hn',hr'⟩:=HGO.out
       rw[if_neg HH40.out,if_neg HH41.out] at hr'
       exact⟨n',0,⟨t,ye⟩,by first | rfl | go_num,H3.out,HF.out.trans (F1.out.trans (F2.out.trans (F3.out))),HRK.out.trans hr',hn',by have:=HN.out.2;simp at this⊢;omega⟩
      case measure=>
       have q1:=HAT.out
       have q2:=AT3.out
       simp only[List.length_cons] at q1
       omega
end
end Ws
end Go.Proofs.YtipdgmjplnibeaaGreatDoor
