import Derived.Test.YtipdgmjplnibeaaGreatDoorG29
set_option maxRecDepth 100000
set_option maxHeartbeats 1600000
namespace Go.Proofs.YtipdgmjplnibeaaGreatDoor
open Go.RowKit Go.Maps
set_option maxRecDepth 100000
namespace Ws
section
variable {W W':World} {X T:Nat→Prop} {g s dp:Nat} {raw:L} {r:Wd.R} {x x':Wd.S}
def Rt (W:World) (X:Nat→Prop) (g s:Nat) (raw:L) (dp:Nat) (r:Wd.R) (x:Wd.S) (v:Value) (e:Ending) (W':World):Prop:=e=.returned v∧RM W' X g s raw dp r x∧Fr X W W'
def Rp (W:World) (X:Nat→Prop) (g s:Nat) (raw:L) (dp:Nat) (r:Wd.R) (y:Wd.P×Wd.S) (e:Ending) (W':World):Prop:=∃ vw,e=.returned (.agg #[.int .i64 (y.1.k:Int),.string (mkS y.1.t),.string (mkS y.1.o),.bool y.1.q,vw])∧RMv W' X g s raw dp r y.2 vw y.1.w∧Fr X W W'
theorem lift_s (h:RM W X g s raw dp r x) {f:FuncId} {args:Array Value} {v:Value} (hc:Calls Tryz.prog f args W fun e W'=>e=.returned v∧Sr W' s raw x'∧W.grownBy W' (some s)):Calls Tryz.prog f args W (Rt W X g s raw dp r x' v):=
 hc.mono fun _ _ ⟨e1,h1,h2⟩=>⟨e1,(h.step h1 h2).1,(h.step h1 h2).2⟩
theorem lift_l (h:RM W X g s raw dp r x) {f:FuncId} {args:Array Value} {v:Value} (hc:Calls Tryz.prog f args W fun e W'=>e=.returned v∧Later W W'):Calls Tryz.prog f args W (Rt W X g s raw dp r x v):=
 hc.mono fun _ _ ⟨e1,h1⟩=>⟨e1,h.later h1,Fr.later h1⟩
theorem lift_q (h:RM W X g s raw dp r x) {f:FuncId} {args:Array Value} {v:Value} (hc:Calls Tryz.prog f args W fun e W'=>e=.returned v∧∃ m,W'=W.drewN m):Calls Tryz.prog f args W (Rt W X g s raw dp r x v):=
 lift_l h (hc.mono fun e W' ⟨e1,m,e2⟩=>⟨e1,by rw[e2];exact later_drewN W m⟩)
theorem lift_r (h:RM W X g s raw dp r x) {f:FuncId} {args:Array Value} {r':Wd.R} (hc:∀ T,RMT W X T g s raw dp r x→Calls Tryz.prog f args W (RowR W X T g s raw dp r' x)):Calls Tryz.prog f args W (Rt W X g s raw dp r' x (.tuple #[])):=by
 obtain⟨T,h⟩:=h
 exact(hc T h).mono fun e W' ⟨e1,h1,h2⟩=>⟨e1,⟨T,h1⟩,h2.sub fun b hb=>.inl hb⟩
theorem fail_r (h:RM W X g s raw dp r x):Calls Tryz.prog 79 #[.pointer (some ⟨s,0,none⟩),.int .i64 11] W (Rt W X g s raw dp r (Wd.fail 11 x) (.tuple #[])):=lift_s h (fail_11 h.src)
theorem deep_r (h:RM W X g s raw dp r x):Calls Tryz.prog 79 #[.pointer (some ⟨s,0,none⟩),.int .i64 21] W (Rt W X g s raw dp r (Wd.fail 21 x) (.tuple #[])):=lift_s h (fail_21 h.src)
theorem next_r (h:RM W X g s raw dp r x):Calls Tryz.prog 81 #[.pointer (some ⟨s,0,none⟩)] W (Rt W X g s raw dp r (Wd.next x).2 (.string (mkS (Wd.next x).1))):=lift_s h (next_v h.src)
theorem left_r (h:RM W X g s raw dp r x):Calls Tryz.prog 53 #[.pointer (some ⟨s,0,none⟩)] W (Rt W X g s raw dp r x (.bool (Wd.left x))):=lift_q h (left_v h.src)
theorem rest_r (h:RM W X g s raw dp r x):Calls Tryz.prog 116 #[.pointer (some ⟨s,0,none⟩)] W (Rt W X g s raw dp r x (.string (mkS x.l))):=lift_q h (rest_v h.src)
theorem ahead_r (h:RM W X g s raw dp r x) (t:L) (ts:ByteArray) (ht:ts=mkS t):Calls Tryz.prog 114 #[.pointer (some ⟨s,0,none⟩),.string ts] W (Rt W X g s raw dp r x (.bool (Wd.ahead t x))):=by subst ht;exact lift_q h (ahead_v h.src t)
theorem need_r (h:RM W X g s raw dp r x) (t:L) (ts:ByteArray) (ht:ts=mkS t):Calls Tryz.prog 51 #[.pointer (some ⟨s,0,none⟩),.string ts] W (Rt W X g s raw dp r (Wd.need t x) (.tuple #[])):=by subst ht;exact lift_s h (need_v h.src t)
theorem take_t (h:RM W X g s raw dp r x) (t:L) (ts:ByteArray) (ht:ts=mkS t) (ha:Wd.ahead t x=true):Calls Tryz.prog 78 #[.pointer (some ⟨s,0,none⟩),.string ts] W (Rt W X g s raw dp r (Wd.skip t.length x) (.bool true)):=by
 subst ht
 have:=lift_s h (take_v h.src t)
 rw[ha] at this
 simpa using this
theorem take_f (h:RM W X g s raw dp r x) (t:L) (ts:ByteArray) (ht:ts=mkS t) (ha:Wd.ahead t x=false):Calls Tryz.prog 78 #[.pointer (some ⟨s,0,none⟩),.string ts] W (Rt W X g s raw dp r x (.bool false)):=by
 subst ht
 have:=lift_s h (take_v h.src t)
 rw[ha] at this
 simpa using this
theorem upTo_r (h:RM W X g s raw dp r x) (c:UInt8) (ts:ByteArray) (ht:ts=mkS [c]):Calls Tryz.prog 83 #[.pointer (some ⟨s,0,none⟩),.string ts] W (Rt W X g s raw dp r (Wd.upTo c x).2 (.string (mkS (Wd.upTo c x).1))):=by subst ht;exact lift_s h (upTo_v h.src c)
theorem param_r (h:RM W X g s raw dp r x) (l:L) (hl:l.length≤100000):Calls Tryz.prog 151 #[.string (mkS l)] W (Rt W X g s raw dp r x (.string (mkS (Wd.param l)))):=lift_l h (param_v l hl W)
theorem digits_r (h:RM W X g s raw dp r x) (l:L) (hl:l.length≤100000):Calls Tryz.prog 229 #[.string (mkS l)] W (Rt W X g s raw dp r x (.string (mkS (Wd.digits l)))):=lift_l h (digits_v l hl W)
theorem trim_r (h:RM W X g s raw dp r x) (l:L):Calls Tryz.prog 228 #[.string (mkS l),.string ⟨#[35]⟩] W (Rt W X g s raw dp r x (.string (mkS (Lib.trimPrefix l [35])))):=lift_l h ((Tryz.strings_TrimPrefix (mkS l) (mkS [35]) W).mono fun e W' ⟨e1,e2⟩=>⟨by rw[mkS_list,mkS_list] at e1;exact e1,by rw[e2];exact Later.refl W⟩)
theorem put_r (h:RM W X g s raw dp r x) (k:Nat) (kv:Int) (hkv:kv=(k:Int)) (hk:k≤9) (t:L) (ts:ByteArray) (ht:ts=mkS t) (hlen:r.ps.length+r.t.length+t.length≤10000000):Calls Tryz.prog 82 #[.pointer (some ⟨g,0,none⟩),.int .i64 kv,.string ts] W (Rt W X g s raw dp (Wd.put k t r) x (.tuple #[])):=by
 subst hkv ht
 exact lift_r h fun T h=>put_v h k hk t hlen
theorem add_r {p:Wd.P} {vw:Value} (h:RMv W X g s raw dp r x vw p.w) (PC:Array Value) (hPC:PC=#[.int .i64 (p.k:Int),.string (mkS p.t),.string (mkS p.o),.bool p.q,vw]) (hlen:r.ps.length≤10000000):Calls Tryz.prog 52 #[.pointer (some ⟨g,0,none⟩),.agg PC] W (Rt W X g s raw dp (Wd.add p r) x (.tuple #[])):=by
 subst hPC
 obtain⟨T,h,hv⟩:=h
 exact(add_v h p vw hv hlen).mono fun e W' ⟨e1,h1,h2⟩=>⟨e1,⟨T,h1⟩,h2.sub fun b hb=>.inl hb⟩
theorem param_len (l:L):(Wd.param l).length≤l.length:=by
 unfold Wd.param
 split
 ·exact Nat.le_refl _
 ·split
  ·simp
  ·exact(List.takeWhile_sublist _).length_le
theorem nil_eq (l:L):((mkS l).toList==([]:List UInt8))=decide (l=[]):=by
 rw[toList_mkS]
 cases l <;> simp
theorem small_r (h:RM W X g s raw dp r x):x.l.length≤100000:=Nat.le_trans h.src.len h.src.sml
theorem measured_v (h:RM W X g s raw dp r x):Calls Tryz.prog 174 #[.pointer (some ⟨g,0,none⟩)] W (Rt W X g s raw dp r (Wd.measured x).2 (.string (mkS (Wd.measured x).1))):=by
 obtain⟨⟨d3,d4⟩,dz⟩:=h.facts
 have hsm:=small_r h
 have htl:(Lib.trimPrefix x.l [35]).length≤100000:=by unfold Lib.trimPrefix;split <;> (try simp) <;> omega
 obtain⟨n,hn⟩:∃ n,n=Wd.param (Lib.trimPrefix x.l [35]):=⟨_,rfl⟩
 have hnil:=nil_eq n
 have HTL:=Lib.hid htl
 have hm:Wd.measured x=if n=[] then ([],x) else if Wd.ahead ([35]++n++[125]) x then (n,Wd.skip (n.length+2) x) else ([],x):=by rw[hn];rfl
 rw[hm]
 have HN:=Lib.hid hn
 have hP:=fun (W1:World) (h1:RM W1 X g s raw dp r x)=>param_r h1 (Lib.trimPrefix x.l [35]) htl
 rw[←hn] at hP
 have HP:=Lib.hid hP
 have H:=Lib.hid h
 have hcat:((⟨#[35]⟩:ByteArray)++mkS n)++⟨#[125]⟩=mkS ([35]++n++[125]):=by
  show (mkS [35]++mkS n)++mkS [125]=_
  rw[mkS_add,mkS_add]
 have HCT:=Lib.hid hcat
 have hnl:(mkS n).size≤100000:=by rw[mkS_size,hn];exact Nat.le_trans (param_len _) htl
 have hz1:¬ 9223372036854775807<1+(mkS n).size:=by omega
 have hz2:¬ 9223372036854775807<1+(mkS n).size+1:=by omega
 clear hnl
 by_cases h0:n=[]
 ·rw[if_pos h0]
  have he:((mkS n).toList==([]:List UInt8))=true:=by rw[hnil];simp[h0]
  clear hm hn hP h hsm htl hnil h0 hcat
  go_enter Tryz.func174,Tryz.ntmps174
  go_wp2_with (first
   |(go_at_call 116;(with_reducible refine(rest_r H.out).mono ?_);rintro e w1 ⟨rfl,h1,f1⟩;obtain⟨⟨d3x1,d4x1⟩,dzx1⟩:=h1.facts;have H1:=Lib.hid h1;have F1:=Lib.hid f1;clear h1 f1)
   |(go_at_call 228;(with_reducible refine(trim_r H1.out x.l).mono ?_);rintro e w2 ⟨rfl,h2,f2⟩;obtain⟨⟨d3x2,d4x2⟩,dzx2⟩:=h2.facts;have H2:=Lib.hid h2;have F2:=Lib.hid f2;clear h2 f2)
   |(go_at_call 151;(with_reducible refine(HP.out w2 H2.out).mono ?_);rintro e w3 ⟨rfl,h3,f3⟩;obtain⟨⟨d3x3,d4x3⟩,dzx3⟩:=h3.facts;have H3:=Lib.hid h3;have F3:=Lib.hid f3;clear h3 f3))
  go_ret
  exact⟨rfl,H3.out,F1.out.trans (F2.out.trans F3.out)⟩
 ·rw[if_neg h0]
  have he:((mkS n).toList==([]:List UInt8))=false:=by rw[hnil];simp[h0]
  cases ha:Wd.ahead ([35]++n++[125]) x with
  | true=>
   simp only[if_true]
   have HA:=Lib.hid ha
   have hlen:([35]++n++[125]).length=n.length+2:=by simp
   have HLN:=Lib.hid hlen
   clear hm hn hP h hsm htl hnil h0 hcat ha hlen
   go_enter Tryz.func174,Tryz.ntmps174
   go_wp2_with (first
    |(go_at_call 116;(with_reducible refine(rest_r H.out).mono ?_);rintro e w1 ⟨rfl,h1,f1⟩;obtain⟨⟨d3x1,d4x1⟩,dzx1⟩:=h1.facts;have H1:=Lib.hid h1;have F1:=Lib.hid f1;clear h1 f1)
    |(go_at_call 228;(with_reducible refine(trim_r H1.out x.l).mono ?_);rintro e w2 ⟨rfl,h2,f2⟩;obtain⟨⟨d3x2,d4x2⟩,dzx2⟩:=h2.facts;have H2:=Lib.hid h2;have F2:=Lib.hid f2;clear h2 f2)
    |(go_at_call 151;(with_reducible refine(HP.out w2 H2.out).mono ?_);rintro e w3 ⟨rfl,h3,f3⟩;obtain⟨⟨d3x3,d4x3⟩,dzx3⟩:=h3.facts;have H3:=Lib.hid h3;have F3:=Lib.hid f3;clear h3 f3)
    |(go_at_call 78;(with_reducible refine(take_t H3.out ([35]++n++[125]) _ HCT.out HA.out).mono ?_);rintro e w4 ⟨rfl,h4,f4⟩;obtain⟨⟨d3x4,d4x4⟩,dzx4⟩:=h4.facts;have H4:=Lib.hid h4;have F4:=Lib.hid f4;clear h4 f4))
   go_ret
   refine⟨rfl,?_,F1.out.trans (F2.out.trans (F3.out.trans F4.out))⟩
   rw[←HLN.out]
   exact H4.out
  | false=>
   simp only[Bool.false_eq_true,if_false]
   have HA:=Lib.hid ha
   clear hm hn hP h hsm htl hnil h0 hcat ha
   go_enter Tryz.func174,Tryz.ntmps174
   go_wp2_with (first
    |(go_at_call 116;(with_reducible refine(rest_r H.out).mono ?_);rintro e w1 ⟨rfl,h1,f1⟩;obtain⟨⟨d3x1,d4x1⟩,dzx1⟩:=h1.facts;have H1:=Lib.hid h1;have F1:=Lib.hid f1;clear h1 f1)
    |(go_at_call 228;(with_reducible refine(trim_r H1.out x.l).mono ?_);rintro e w2 ⟨rfl,h2,f2⟩;obtain⟨⟨d3x2,d4x2⟩,dzx2⟩:=h2.facts;have H2:=Lib.hid h2;have F2:=Lib.hid f2;clear h2 f2)
    |(go_at_call 151;(with_reducible refine(HP.out w2 H2.out).mono ?_);rintro e w3 ⟨rfl,h3,f3⟩;obtain⟨⟨d3x3,d4x3⟩,dzx3⟩:=h3.facts;have H3:=Lib.hid h3;have F3:=Lib.hid f3;clear h3 f3)
    |(go_at_call 78;(with_reducible refine(take_f H3.out ([35]++n++[125]) _ HCT.out HA.out).mono ?_);rintro e w4 ⟨rfl,h4,f4⟩;obtain⟨⟨d3x4,d4x4⟩,dzx4⟩:=h4.facts;have H4:=Lib.hid h4;have F4:=Lib.hid f4;clear h4 f4))
   go_ret
   exact⟨rfl,H4.out,F1.out.trans (F2.out.trans (F3.out.trans F4.out))⟩
theorem named_v (h:RM W X g s raw dp r x):Calls Tryz.prog 175 #[.pointer (some ⟨g,0,none⟩)] W (Rt W X g s raw dp r (Wd.named x).2 (.string (mkS (Wd.named x).1))):=by
 obtain⟨⟨d3,d4⟩,dz⟩:=h.facts
 have HSM:=Lib.hid (small_r h)
 obtain⟨d,hd⟩:∃ d,d=Wd.digits x.l:=⟨_,rfl⟩
 obtain⟨n,hn⟩:∃ n,n=Wd.param x.l:=⟨_,rfl⟩
 have hnd:=nil_eq d
 have hnn:=nil_eq n
 have hD:=fun (W1:World) (h1:RM W1 X g s raw dp r x)=>digits_r h1 x.l HSM.out
 have hP:=fun (W1:World) (h1:RM W1 X g s raw dp r x)=>param_r h1 x.l HSM.out
 rw[←hd] at hD
 rw[←hn] at hP
 have HD:=Lib.hid hD
 have HP:=Lib.hid hP
 have H:=Lib.hid h
 unfold Wd.named Wd.nameOf
 rw[←hd,←hn]
 by_cases h0:d=[]
 ·rw[if_pos h0]
  have he:((mkS d).toList==([]:List UInt8))=true:=by rw[hnd];simp[h0]
  by_cases h1:n=[]
  ·rw[if_pos h1]
   have he2:((mkS n).toList==([]:List UInt8))=true:=by rw[hnn];simp[h1]
   clear hd hn hD hP h hnd hnn h0 h1
   go_enter Tryz.func175,Tryz.ntmps175
   go_wp2_with (first
    |(go_at_call 116;(with_reducible refine(rest_r H.out).mono ?_);rintro e w1 ⟨rfl,h1,f1⟩;obtain⟨⟨d3x1,d4x1⟩,dzx1⟩:=h1.facts;have H1:=Lib.hid h1;have F1:=Lib.hid f1;clear h1 f1)
    |(go_at_call 229;(with_reducible refine(HD.out w1 H1.out).mono ?_);rintro e w2 ⟨rfl,h2,f2⟩;obtain⟨⟨d3x2,d4x2⟩,dzx2⟩:=h2.facts;have H2:=Lib.hid h2;have F2:=Lib.hid f2;clear h2 f2)
    |(go_at_call 116;(with_reducible refine(rest_r H2.out).mono ?_);rintro e w3 ⟨rfl,h3,f3⟩;obtain⟨⟨d3x3,d4x3⟩,dzx3⟩:=h3.facts;have H3:=Lib.hid h3;have F3:=Lib.hid f3;clear h3 f3)
    |(go_at_call 151;(with_reducible refine(HP.out w3 H3.out).mono ?_);rintro e w4 ⟨rfl,h4,f4⟩;obtain⟨⟨d3x4,d4x4⟩,dzx4⟩:=h4.facts;have H4:=Lib.hid h4;have F4:=Lib.hid f4;clear h4 f4)
    |(go_at_call 79;(with_reducible refine(fail_r H4.out).mono ?_);rintro e w5 ⟨rfl,h5,f5⟩;obtain⟨⟨d3x5,d4x5⟩,dzx5⟩:=h5.facts;have H5:=Lib.hid h5;have F5:=Lib.hid f5;clear h5 f5)
    |(go_at_call 51;(with_reducible refine(need_r H5.out n _ rfl).mono ?_);rintro e w6 ⟨rfl,h6,f6⟩;obtain⟨⟨d3x6,d4x6⟩,dzx6⟩:=h6.facts;have H6:=Lib.hid h6;have F6:=Lib.hid f6;clear h6 f6))
   go_ret
   exact⟨rfl,H6.out,F1.out.trans (F2.out.trans (F3.out.trans (F4.out.trans (F5.out.trans F6.out))))⟩
  ·rw[if_neg h1]
   have he2:((mkS n).toList==([]:List UInt8))=false:=by rw[hnn];simp[h1]
   clear hd hn hD hP h hnd hnn h0 h1
   go_enter Tryz.func175,Tryz.ntmps175
   go_wp2_with (first
    |(go_at_call 116;(with_reducible refine(rest_r H.out).mono ?_);rintro e w1 ⟨rfl,h1,f1⟩;obtain⟨⟨d3x1,d4x1⟩,dzx1⟩:=h1.facts;have H1:=Lib.hid h1;have F1:=Lib.hid f1;clear h1 f1)
    |(go_at_call 229;(with_reducible refine(HD.out w1 H1.out).mono ?_);rintro e w2 ⟨rfl,h2,f2⟩;obtain⟨⟨d3x2,d4x2⟩,dzx2⟩:=h2.facts;have H2:=Lib.hid h2;have F2:=Lib.hid f2;clear h2 f2)
    |(go_at_call 116;(with_reducible refine(rest_r H2.out).mono ?_);rintro e w3 ⟨rfl,h3,f3⟩;obtain⟨⟨d3x3,d4x3⟩,dzx3⟩:=h3.facts;have H3:=Lib.hid h3;have F3:=Lib.hid f3;clear h3 f3)
    |(go_at_call 151;(with_reducible refine(HP.out w3 H3.out).mono ?_);rintro e w4 ⟨rfl,h4,f4⟩;obtain⟨⟨d3x4,d4x4⟩,dzx4⟩:=h4.facts;have H4:=Lib.hid h4;have F4:=Lib.hid f4;clear h4 f4)
    |(go_at_call 51;(with_reducible refine(need_r H4.out n _ rfl).mono ?_);rintro e w6 ⟨rfl,h6,f6⟩;obtain⟨⟨d3x6,d4x6⟩,dzx6⟩:=h6.facts;have H6:=Lib.hid h6;have F6:=Lib.hid f6;clear h6 f6))
   go_ret
   exact⟨rfl,H6.out,F1.out.trans (F2.out.trans (F3.out.trans (F4.out.trans F6.out)))⟩
 ·rw[if_neg h0,if_neg h0]
  have he:((mkS d).toList==([]:List UInt8))=false:=by rw[hnd];simp[h0]
  clear hd hn hD hP h hnd hnn h0
  go_enter Tryz.func175,Tryz.ntmps175
  go_wp2_with (first
   |(go_at_call 116;(with_reducible refine(rest_r H.out).mono ?_);rintro e w1 ⟨rfl,h1,f1⟩;obtain⟨⟨d3x1,d4x1⟩,dzx1⟩:=h1.facts;have H1:=Lib.hid h1;have F1:=Lib.hid f1;clear h1 f1)
   |(go_at_call 229;(with_reducible refine(HD.out w1 H1.out).mono ?_);rintro e w2 ⟨rfl,h2,f2⟩;obtain⟨⟨d3x2,d4x2⟩,dzx2⟩:=h2.facts;have H2:=Lib.hid h2;have F2:=Lib.hid f2;clear h2 f2)
   |(go_at_call 51;(with_reducible refine(need_r H2.out d _ rfl).mono ?_);rintro e w6 ⟨rfl,h6,f6⟩;obtain⟨⟨d3x6,d4x6⟩,dzx6⟩:=h6.facts;have H6:=Lib.hid h6;have F6:=Lib.hid f6;clear h6 f6))
  go_ret
  exact⟨rfl,H6.out,F1.out.trans (F2.out.trans F6.out)⟩
theorem find_step {x:Wd.S} {k:Nat} (hk:k<12) (h:Wd.ahead (Wd.ops.getD k []) x=true) (hb:∀ j,j<k→Wd.ahead (Wd.ops.getD j []) x=false):Wd.op x=(Wd.ops.getD k [],Wd.skip (Wd.ops.getD k []).length x):=by
 have hl:k<Wd.ops.length:=hk
 have h1:Wd.ops.find? (fun o=>Wd.ahead o x)=some (Wd.ops.getD k []):=by
  rw[List.find?_eq_some_iff_getElem]
  refine⟨h,k,hl,by rw[List.getD_eq_getElem?_getD,List.getElem?_eq_getElem hl];rfl,fun j hj=>?_⟩
  have:=hb j hj
  rw[List.getD_eq_getElem?_getD,List.getElem?_eq_getElem (by omega)] at this
  simpa using this
 unfold Wd.op
 rw[h1]
theorem find_none {x:Wd.S} (hb:∀ j,j<12→Wd.ahead (Wd.ops.getD j []) x=false):Wd.op x=([],Wd.fail 11 x):=by
 have h1:Wd.ops.find? (fun o=>Wd.ahead o x)=none:=by
  rw[List.find?_eq_none]
  intro o ho
  obtain⟨j,hj⟩:=List.mem_iff_getElem?.1 ho
  have:=hb j (List.getElem?_eq_some_iff.1 hj).1
  rw[List.getD_eq_getElem?_getD,hj] at this
  simpa using this
 unfold Wd.op
 rw[h1]
def opsV:Array Value:=(Wd.ops.map sv).toArray
theorem ops_load {W:World} (h:Ops W):(Instr.loadAt 242 (.pointer (some ⟨4,0,none⟩))).run Tryz.prog W=.ok (.agg opsV) W:=by
 refine run_loadAt_mid (P:=Tryz.prog) W 4 0 242 (Wd.ops.map sv) _ (fun j u hu=>?_) Tryz.underlying242 rfl (by kernel_rfl)
 have hj:j<12:=(List.getElem?_eq_some_iff.1 hu).1
 rw[Nat.zero_add,h j hj]
 rw[List.getElem?_map] at hu
 rw[List.getD_eq_getElem?_getD]
 cases e:Wd.ops[j]? with
 | none=>rw[e] at hu;cases hu
 | some o=>rw[e] at hu;simpa [sv] using hu
end
end Ws
end Go.Proofs.YtipdgmjplnibeaaGreatDoor
