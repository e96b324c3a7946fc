import Derived.Test.YtipdgmjplnibeaaGreatDoorG08
import Derived.Laws.BitsAllLaws
set_option maxRecDepth 100000
set_option maxHeartbeats 3200000
namespace Go.Proofs.YtipdgmjplnibeaaGreatDoor
open Go.RowKit Go.Maps
namespace Ar
theorem u8_or_list (a b:UInt8):bits .or .u8 (a.toNat:Int) (b.toNat:Int)=((a ||| b).toNat:Int):=by
 rw[u8_or_nat _ _ (UInt8.toNat_lt a) (UInt8.toNat_lt b),UInt8.toNat_or]
theorem lower_v (c:UInt8) (W:World):Calls Tryz.prog 129 #[.int .u8 (c.toNat:Int)] W fun e W'=>e=.returned (.int .u8 ((c ||| 32).toNat:Int))∧W'=W:=by
 have h:bits .or .u8 (c.toNat:Int) 32=((c ||| 32).toNat:Int):=u8_or_list c 32
 obtain⟨x,hx⟩:∃ x,x=(c ||| 32).toNat:=⟨_,rfl⟩
 rw[←hx] at h⊢
 clear hx
 go_enter Tryz.func129,Tryz.ntmps129
 go_wp2
 go_ret
 exact⟨rfl,rfl⟩
theorem conv_later (W:World) (t:List UInt8) (N:Nat) (hN:N=W.heap.size):∃ c W',(convert 9 81 (.string (mkS t))).run Tryz.prog W=.ok (.slice (some ⟨N,0,none⟩) t.length c) W'∧Later W W'∧Rd W' W'.heap.size (some ⟨N,0,none⟩) t.length (t.map bv):=conv_str W t N hN
theorem val_snoc (b:Nat) (l:L) (c:UInt8):val b (l++[c])=val b l*b+dv c:=by unfold val;rw[List.foldl_append];rfl
theorem fold_ge (b:Nat) (hb:1≤b):∀ (r:L) (a:Nat),a≤r.foldl (fun n c=>n*b+dv c) a
 | [],_=>Nat.le_refl _
 | c::r,a=>Nat.le_trans (by have:a≤a*b:=Nat.le_mul_of_pos_right _ hb;omega) (fold_ge b hb r (a*b+dv c))
theorem val_app (b:Nat) (hb:1≤b) (l r:L):val b l≤val b (l++r):=by
 unfold val
 rw[List.foldl_append]
 exact fold_ge b hb r _
theorem val_take (b:Nat) (hb:1≤b) (l:L) (k:Nat):val b (l.take k)≤val b l:=by
 have:=val_app b hb (l.take k) (l.drop k)
 rwa[List.take_append_drop] at this
theorem isD_digit {b:Nat} (hb:b≤10) {c:UInt8} (h:isD b c=true):dig c=true:=by
 unfold isD at h
 simp only[Bool.and_eq_true,Bool.or_eq_true,decide_eq_true_eq] at h
 cases hc:dig c with
 | true=>rfl
 | false=>
  exfalso
  rw[hc] at h
  unfold dv at h
  rw[hc] at h
  simp only[Bool.false_eq_true,false_or,if_false] at h
  obtain⟨⟨h1,_⟩,h2⟩:=h
  rw[UInt8.le_iff_toNat_le] at h1
  have:(97:UInt8).toNat=97:=rfl
  omega
theorem dig_nat {c:UInt8}:dig c=true↔48≤c.toNat∧c.toNat≤57:=by
 unfold dig
 simp only[Bool.and_eq_true,decide_eq_true_eq,UInt8.le_iff_toNat_le]
 exact Iff.rfl
theorem digit_facts {b:Nat} (hb:b≤10) {c:UInt8} (h:isD b c=true):48≤c.toNat∧c.toNat≤57∧dv c=c.toNat-48∧dv c<b:=by
 have h1:=isD_digit hb h
 have h2:=dig_nat.1 h1
 refine⟨h2.1,h2.2,by unfold dv;rw[if_pos h1],?_⟩
 unfold isD at h
 simp only[Bool.and_eq_true,decide_eq_true_eq] at h
 exact h.2
theorem hex_facts {c:UInt8} (h:isD 16 c=true):(48≤c.toNat∧c.toNat≤57∧dv c=c.toNat-48∧dv c<16)∨(¬ (48≤c.toNat∧c.toNat≤57)∧c.toNat≠95∧97≤(c ||| 32).toNat∧dv c=(c ||| 32).toNat-87∧dv c<16):=by
 unfold isD at h
 simp only[Bool.and_eq_true,Bool.or_eq_true,decide_eq_true_eq] at h
 obtain⟨h1,h2⟩:=h
 cases hc:dig c with
 | true=>
  have h3:=dig_nat.1 hc
  exact .inl ⟨h3.1,h3.2,by unfold dv;rw[if_pos hc],h2⟩
 | false=>
  have h3:¬ (48≤c.toNat∧c.toNat≤57):=fun e=>by rw[dig_nat.2 e] at hc;cases hc
  have h4:dv c=(c ||| 32).toNat-87:=by unfold dv;rw[hc];rfl
  rw[hc] at h1
  simp only[Bool.false_eq_true,false_or] at h1
  refine .inr ⟨h3,fun e=>?_,UInt8.le_iff_toNat_le.1 h1.1,h4,h2⟩
  have e2:c=95:=UInt8.toNat_inj.1 e
  rw[e2] at h4 h2
  rw[h4] at h2
  revert h2
  decide
theorem parse10 (l:L) (W:World) (h0:l≠[]) (hd:l.all (isD 10)=true) (hv:val 10 l<9223372036854775808) (hl:l.length≤5000):Calls Tryz.prog 99 #[.string (mkS l),.int .i64 10,.int .i64 63] W fun e W'=>e=.returned (.tuple #[.int .u64 (val 10 l:Nat),.nilIface])∧Later W W':=by
 have he:((mkS l).toList==([]:List UInt8))=false:=by rw[toList_mkS];exact beq_eq_false_iff_ne.2 h0
 obtain⟨cp,W2,hcv,hl2,hr2⟩:=conv_str W l W.heap.size rfl
 obtain⟨n,hn⟩:∃ n,n=l.length:=⟨_,rfl⟩
 rw[←hn] at hcv hr2 hl
 have HL2:=Lib.hid hl2
 have HR:=Lib.hid hr2
 have HN:=Lib.hid hn
 have HD:=Lib.hid hd
 have HV:=Lib.hid hv
 clear hl2 hr2 hn hd hv h0
 go_enter Tryz.func99,Tryz.ntmps99
 go_wp2
 go_loopw [12,13,101] (fun us v i wr=>∃ (k:Nat) (a:Int),k≤n∧us=.bool false∧i=.int .i64 (k:Int)∧v=.int .u64 a∧wr=W2∧Hid (a=(val 10 (l.take k):Nat))) (fun _ _ i _=>n-(intOf i).toNat)
 case atStart=>exact⟨0,0,by omega,rfl,rfl,rfl,rfl,Lib.hid rfl⟩
 case round=>
  obtain⟨k,a,hk,rfl,rfl,rfl,hw,hm⟩:=hrel
  subst hw
  have hk0:(0:Int)≤(k:Int):=by omega
  by_cases hkn:k<n
  ·have hk1:(k:Int)<(n:Int):=by omega
   have hlk:k<l.length:=by have:=HN.out;omega
   obtain⟨ad,_,had,_,hcell⟩:=HR.out.byte hkn
   obtain⟨c,hc⟩:∃ c,c=l[k]:=⟨_,rfl⟩
   rw[←hc] at hcell
   injection had with had
   rw[←had,add_lit0] at hcell
   have hcD:isD 10 c=true:=by rw[hc];exact List.all_eq_true.1 HD.out _ (List.getElem_mem hlk)
   have hTK:val 10 (l.take (k+1))=val 10 (l.take k)*10+dv c:=by rw[List.take_succ_eq_append_getElem hlk,val_snoc,hc]
   have hle:=val_take 10 (by omega) l (k+1)
   obtain⟨x,hx⟩:∃ x,x=c.toNat:=⟨_,rfl⟩
   have hcell3:wr.cell? ⟨W.heap.size,k,none⟩=some (.int .u8 (x:Int)):=by rw[hx];exact hcell
   have ha:=hm.out
   have hvv:=HV.out
   have ai0:0≤a:=by omega
   have icut:a<1844674407370955162:=by omega
   have hw1:wrap64 ((k:Int)+1)=(k:Int)+1:=w64 _ (by omega)
   obtain⟨f1,f2,f3,f4⟩:=digit_facts (by omega) hcD
   rw[←hx] at f1 f2 f3
   have g1:(48:Int)≤(x:Int):=by omega
   have g2:(x:Int)≤57:=by omega
   have g3:((x:Int)==95)=false:=by simp;omega
   have g4:(x:Int)-48<10:=by omega
   have iov:a*10+((x:Int)-48)<9223372036854775808:=by omega
   have HNX:Hid (a*10+((x:Int)-48)=((val 10 (l.take (k+1)):Nat):Int)):=Lib.hid (by rw[hTK];omega)
   clear hcell hcD hx had hc ha hvv hle hTK hlk f1 f2 f3 f4
   go_wp2
   refine⟨⟨k+1,a*10+((x:Int)-48),by omega,rfl,by first | rfl | (congr 1;omega),by first | rfl | (congr 1;omega),trivial,HNX⟩,by simp[intOf];omega⟩
  ·have HRES:=Lib.hid (show a=(val 10 l:Nat) by rw[hm.out,List.take_of_length_le (by have:=HN.out;omega)])
   have hkk:¬ ((k:Int)<(n:Int)):=by omega
   clear hkn
   go_wp2
   go_ret2
   rw[HRES.out]
   exact⟨rfl,HL2.out⟩
theorem parse8 (l:L) (W:World) (h0:l≠[]) (hd:l.all (isD 8)=true) (hv:val 8 l<9223372036854775808) (hl:l.length≤5000):Calls Tryz.prog 99 #[.string (mkS l),.int .i64 8,.int .i64 63] W fun e W'=>e=.returned (.tuple #[.int .u64 (val 8 l:Nat),.nilIface])∧Later W W':=by
 have he:((mkS l).toList==([]:List UInt8))=false:=by rw[toList_mkS];exact beq_eq_false_iff_ne.2 h0
 obtain⟨cp,W2,hcv,hl2,hr2⟩:=conv_str W l W.heap.size rfl
 obtain⟨n,hn⟩:∃ n,n=l.length:=⟨_,rfl⟩
 rw[←hn] at hcv hr2 hl
 have HL2:=Lib.hid hl2
 have HR:=Lib.hid hr2
 have HN:=Lib.hid hn
 have HD:=Lib.hid hd
 have HV:=Lib.hid hv
 clear hl2 hr2 hn hd hv h0
 go_enter Tryz.func99,Tryz.ntmps99
 go_wp2
 go_loopw [12,13,101] (fun us v i wr=>∃ (k:Nat) (a:Int),k≤n∧us=.bool false∧i=.int .i64 (k:Int)∧v=.int .u64 a∧wr=W2∧Hid (a=(val 8 (l.take k):Nat))) (fun _ _ i _=>n-(intOf i).toNat)
 case atStart=>exact⟨0,0,by omega,rfl,rfl,rfl,rfl,Lib.hid rfl⟩
 case round=>
  obtain⟨k,a,hk,rfl,rfl,rfl,hw,hm⟩:=hrel
  subst hw
  have hk0:(0:Int)≤(k:Int):=by omega
  by_cases hkn:k<n
  ·have hk1:(k:Int)<(n:Int):=by omega
   have hlk:k<l.length:=by have:=HN.out;omega
   obtain⟨ad,_,had,_,hcell⟩:=HR.out.byte hkn
   obtain⟨c,hc⟩:∃ c,c=l[k]:=⟨_,rfl⟩
   rw[←hc] at hcell
   injection had with had
   rw[←had,add_lit0] at hcell
   have hcD:isD 8 c=true:=by rw[hc];exact List.all_eq_true.1 HD.out _ (List.getElem_mem hlk)
   have hTK:val 8 (l.take (k+1))=val 8 (l.take k)*8+dv c:=by rw[List.take_succ_eq_append_getElem hlk,val_snoc,hc]
   have hle:=val_take 8 (by omega) l (k+1)
   obtain⟨x,hx⟩:∃ x,x=c.toNat:=⟨_,rfl⟩
   have hcell3:wr.cell? ⟨W.heap.size,k,none⟩=some (.int .u8 (x:Int)):=by rw[hx];exact hcell
   have ha:=hm.out
   have hvv:=HV.out
   have ai0:0≤a:=by omega
   have icut:a<2305843009213693952:=by omega
   have hw1:wrap64 ((k:Int)+1)=(k:Int)+1:=w64 _ (by omega)
   obtain⟨f1,f2,f3,f4⟩:=digit_facts (by omega) hcD
   rw[←hx] at f1 f2 f3
   have g1:(48:Int)≤(x:Int):=by omega
   have g2:(x:Int)≤57:=by omega
   have g3:((x:Int)==95)=false:=by simp;omega
   have g4:(x:Int)-48<8:=by omega
   have iov:a*8+((x:Int)-48)<9223372036854775808:=by omega
   have HNX:Hid (a*8+((x:Int)-48)=((val 8 (l.take (k+1)):Nat):Int)):=Lib.hid (by rw[hTK];omega)
   clear hcell hcD hx had hc ha hvv hle hTK hlk f1 f2 f3 f4
   go_wp2
   refine⟨⟨k+1,a*8+((x:Int)-48),by omega,rfl,by first | rfl | (congr 1;omega),by first | rfl | (congr 1;omega),trivial,HNX⟩,by simp[intOf];omega⟩
  ·have HRES:=Lib.hid (show a=(val 8 l:Nat) by rw[hm.out,List.take_of_length_le (by have:=HN.out;omega)])
   have hkk:¬ ((k:Int)<(n:Int)):=by omega
   clear hkn
   go_wp2
   go_ret2
   rw[HRES.out]
   exact⟨rfl,HL2.out⟩
theorem parse16 (l:L) (W:World) (h0:l≠[]) (hd:l.all (isD 16)=true) (hv:val 16 l<9223372036854775808) (hl:l.length≤5000):Calls Tryz.prog 99 #[.string (mkS l),.int .i64 16,.int .i64 63] W fun e W'=>e=.returned (.tuple #[.int .u64 (val 16 l:Nat),.nilIface])∧Later W W':=by
 have he:((mkS l).toList==([]:List UInt8))=false:=by rw[toList_mkS];exact beq_eq_false_iff_ne.2 h0
 obtain⟨cp,W2,hcv,hl2,hr2⟩:=conv_str W l W.heap.size rfl
 obtain⟨n,hn⟩:∃ n,n=l.length:=⟨_,rfl⟩
 rw[←hn] at hcv hr2 hl
 have HL2:=Lib.hid hl2
 have HR:=Lib.hid hr2
 have HN:=Lib.hid hn
 have HD:=Lib.hid hd
 have HV:=Lib.hid hv
 clear hl2 hr2 hn hd hv h0
 go_enter Tryz.func99,Tryz.ntmps99
 go_wp2
 go_loopw [12,13,101] (fun us v i wr=>∃ (k:Nat) (a:Int),k≤n∧us=.bool false∧i=.int .i64 (k:Int)∧v=.int .u64 a∧wr=W2∧Hid (a=(val 16 (l.take k):Nat))) (fun _ _ i _=>n-(intOf i).toNat)
 case atStart=>exact⟨0,0,by omega,rfl,rfl,rfl,rfl,Lib.hid rfl⟩
 case round=>
  obtain⟨k,a,hk,rfl,rfl,rfl,hw,hm⟩:=hrel
  subst hw
  have hk0:(0:Int)≤(k:Int):=by omega
  by_cases hkn:k<n
  ·have hk1:(k:Int)<(n:Int):=by omega
   have hlk:k<l.length:=by have:=HN.out;omega
   obtain⟨ad,_,had,_,hcell⟩:=HR.out.byte hkn
   obtain⟨c,hc⟩:∃ c,c=l[k]:=⟨_,rfl⟩
   rw[←hc] at hcell
   injection had with had
   rw[←had,add_lit0] at hcell
   have hcD:isD 16 c=true:=by rw[hc];exact List.all_eq_true.1 HD.out _ (List.getElem_mem hlk)
   have hTK:val 16 (l.take (k+1))=val 16 (l.take k)*16+dv c:=by rw[List.take_succ_eq_append_getElem hlk,val_snoc,hc]
   have hle:=val_take 16 (by omega) l (k+1)
   obtain⟨x,hx⟩:∃ x,x=c.toNat:=⟨_,rfl⟩
   have hcell3:wr.cell? ⟨W.heap.size,k,none⟩=some (.int .u8 (x:Int)):=by rw[hx];exact hcell
   have ha:=hm.out
   have hvv:=HV.out
   have ai0:0≤a:=by omega
   have icut:a<1152921504606846976:=by omega
   have hw1:wrap64 ((k:Int)+1)=(k:Int)+1:=w64 _ (by omega)
   rcases hex_facts hcD with⟨f1,f2,f3,f4⟩ | ⟨f0,f1,f2,f3,f4⟩
   ·rw[←hx] at f1 f2 f3
    have g1:(48:Int)≤(x:Int):=by omega
    have g2:(x:Int)≤57:=by omega
    have g3:((x:Int)==95)=false:=by simp;omega
    have g4:(x:Int)-48<16:=by omega
    have iov:a*16+((x:Int)-48)<9223372036854775808:=by omega
    have HNX:Hid (a*16+((x:Int)-48)=((val 16 (l.take (k+1)):Nat):Int)):=Lib.hid (by rw[hTK];omega)
    clear hcell hcD hx had hc ha hvv hle hTK hlk f1 f2 f3 f4
    go_wp2
    refine⟨⟨k+1,a*16+((x:Int)-48),by omega,rfl,by first | rfl | (congr 1;omega),by first | rfl | (congr 1;omega),trivial,HNX⟩,by simp[intOf];omega⟩
   ·rw[←hx] at f0
    have g0:¬ ((48:Int)≤(x:Int)∧(x:Int)≤57):=by omega
    obtain⟨y,hy⟩:∃ y,y=(c ||| 32).toNat:=⟨_,rfl⟩
    rw[←hy] at f2 f3
    rw[←hx] at f1
    have g1:(97:Int)≤(y:Int):=by omega
    have g2:(y:Int)≤122:=by omega
    have g3:((x:Int)==95)=false:=by simp;omega
    have g4:(y:Int)-97+10<16:=by omega
    have HLW:=Lib.hid (lower_v c)
    rw[←hx,←hy] at HLW
    have iov:a*16+((y:Int)-97+10)<9223372036854775808:=by omega
    have HNX:Hid (a*16+((y:Int)-97+10)=((val 16 (l.take (k+1)):Nat):Int)):=Lib.hid (by rw[hTK];omega)
    have G0:=Lib.hid g0
    clear hcell hcD hx had hc ha hvv hle hTK hlk f1 f2 f3 f4 hy g0 f0
    by_cases g5:(48:Int)≤(x:Int)
    ·have g6:¬ ((x:Int)≤57):=by have:=G0.out;omega
     go_wp2_with (go_at_call 129;(with_reducible refine(HLW.out _).mono ?_);rintro e w1 ⟨rfl,rfl⟩)
     refine⟨⟨k+1,a*16+((y:Int)-97+10),by omega,rfl,by first | rfl | (congr 1;omega),by first | rfl | (congr 1;omega),trivial,HNX⟩,by simp[intOf];omega⟩
    ·go_wp2_with (go_at_call 129;(with_reducible refine(HLW.out _).mono ?_);rintro e w1 ⟨rfl,rfl⟩)
     refine⟨⟨k+1,a*16+((y:Int)-97+10),by omega,rfl,by first | rfl | (congr 1;omega),by first | rfl | (congr 1;omega),trivial,HNX⟩,by simp[intOf];omega⟩
  ·have HRES:=Lib.hid (show a=(val 16 l:Nat) by rw[hm.out,List.take_of_length_le (by have:=HN.out;omega)])
   have hkk:¬ ((k:Int)<(n:Int)):=by omega
   clear hkn
   go_wp2
   go_ret2
   rw[HRES.out]
   exact⟨rfl,HL2.out⟩
end Ar
end Go.Proofs.YtipdgmjplnibeaaGreatDoor
namespace Go.Proofs.YtipdgmjplnibeaaGreatDoor
open Go.RowKit Go.Maps
namespace Ar
theorem parse_in (b:Nat) (hb:b=8∨b=10∨b=16) (l:L) (W:World) (h0:l≠[]) (hd:l.all (isD b)=true) (hv:val b l<9223372036854775808) (hl:l.length≤5000):Calls Tryz.prog 99 #[.string (mkS l),.int .i64 (b:Int),.int .i64 63] W fun e W'=>e=.returned (.tuple #[.int .u64 (val b l:Nat),.nilIface])∧Later W W':=by
 rcases hb with rfl | rfl | rfl
 ·exact parse8 l W h0 hd hv hl
 ·exact parse10 l W h0 hd hv hl
 ·exact parse16 l W h0 hd hv hl
theorem parse_v (b:Nat) (hb:b=8∨b=10∨b=16) (l:L) (W:World) (h0:l≠[]) (hd:l.all (isD b)=true) (hv:val b l<9223372036854775808) (hl:l.length≤5000):Calls Tryz.prog 68 #[.string (mkS l),.int .i64 (b:Int),.int .i64 63] W fun e W'=>e=.returned (.tuple #[.int .u64 (val b l:Nat),.nilIface])∧Later W W':=by
 have HP:=Lib.hid (parse_in b hb l W h0 hd hv hl)
 obtain⟨v,hvv⟩:∃ v,v=val b l:=⟨_,rfl⟩
 rw[←hvv] at HP⊢
 clear hvv hb h0 hd hv hl
 go_enter Tryz.func68,Tryz.ntmps68
 go_wp2_with (go_at_call 99;(with_reducible refine HP.out.mono ?_);rintro e w1 ⟨rfl,hl1⟩)
 go_ret2
 exact⟨rfl,hl1⟩
abbrev PreC (l:L) (p:ByteArray) (b:Bool):Prop:=∀ W,Calls Tryz.prog 50 #[.string (mkS l),.string p] W fun e W'=>e=.returned (.bool b)∧W'=W
theorem pre_c (l p:L) (ps:ByteArray) (hps:ps=mkS p) (b:Bool) (hb:Lib.hasPrefix l p=b):PreC l ps b:=by subst hps;subst hb;exact pre_v l p
abbrev ParC (d:L) (b n:Int):Prop:=∀ W,Calls Tryz.prog 68 #[.string (mkS d),.int .i64 b,.int .i64 63] W fun e W'=>e=.returned (.tuple #[.int .u64 n,.nilIface])∧Later W W'
theorem par_c {d:L} {b n:Nat} (hdl:d.length≤5000) (hh:(if d≠[]∧d.all (isD b)=true∧val b d<9223372036854775808 then some (val b d) else none)=some n) (hb:b=8∨b=10∨b=16):n<9223372036854775808∧ParC d (b:Int) (n:Int):=by
 split at hh
 ·next hc=>
  injection hh with hh
  subst hh
  exact⟨hc.2.2,fun W=>parse_v b hb d W hc.1 hc.2.1 hc.2.2 hdl⟩
 ·cases hh
theorem num_v (l:L) (n:Nat) (h:num l=some n) (hl:l.length≤4000) (W:World):Calls Tryz.prog 253 #[.string (mkS l)] W fun e W'=>e=.returned (.tuple #[.int .i64 (n:Int),.bool true])∧Later W W':=by
 have hp:∀ p:L,Lib.hasPrefix l p=true→p.length≤l.length:=fun p hp=>(List.isPrefixOf_iff_prefix.1 hp).length_le
 unfold num at h
 cases hx:Lib.hasPrefix l [48,120] with
 | true=>
  have H1:=Lib.hid (pre_c l [48,120] ⟨#[48,120]⟩ rfl true hx)
  have H2:=H1
  have H3:=H1
  rw[hx] at h
  simp only[Bool.true_or,if_true] at h
  have hx2:=hx
  obtain⟨hn,hP⟩:=par_c (b:=16) (by rw[List.length_drop];omega) h (by omega)
  have hlen:=hp _ hx
  have HX:=Lib.hid (drop_text l 2)
  have hsz:((mkS l).size:Int)=(l.length:Nat):=by rw[mkS_size]
  obtain⟨z,hz⟩:∃ z,z=l.length:=⟨_,rfl⟩
  rw[←hz] at hsz hlen
  have hz2:(2:Int)≤(z:Int):=by simp at hlen;omega
  clear hz hlen
  obtain⟨a,ha⟩:∃ a:Int,a=(n:Int):=⟨_,rfl⟩
  have hP2:ParC (l.drop 2) 16 a:=by rw[ha];exact hP
  have HP:=Lib.hid hP2
  have ha0:0≤a:=by omega
  have ha1:a<9223372036854775808:=by omega
  rw[←ha]
  clear h hP hP2 ha hn hx hx2
  go_enter Tryz.func253,Tryz.ntmps253
  go_wp2_with (first
     |(go_at_call 50;(with_reducible refine(H1.out _).mono ?_);rintro e w1 ⟨rfl,rfl⟩)
     |(go_at_call 50;(with_reducible refine(H2.out _).mono ?_);rintro e w1 ⟨rfl,rfl⟩)
     |(go_at_call 50;(with_reducible refine(H3.out _).mono ?_);rintro e w1 ⟨rfl,rfl⟩)
     |(go_at_call 68;(try rw[HX.out]);(with_reducible refine(HP.out _).mono ?_);rintro e w2 ⟨rfl,hl2⟩))
  go_ret2
  exact⟨rfl,hl2⟩
 | false=>
  have H1:=Lib.hid (pre_c l [48,120] ⟨#[48,120]⟩ rfl false hx)
  cases hx2:Lib.hasPrefix l [48,88] with
  | true=>
   have H2:=Lib.hid (pre_c l [48,88] ⟨#[48,88]⟩ rfl true hx2)
   have H3:=H1
   rw[hx,hx2] at h
   simp only[Bool.or_true,if_true] at h
   obtain⟨hn,hP⟩:=par_c (b:=16) (by rw[List.length_drop];omega) h (by omega)
   have hlen:=hp _ hx2
   have HX:=Lib.hid (drop_text l 2)
   have hsz:((mkS l).size:Int)=(l.length:Nat):=by rw[mkS_size]
   obtain⟨z,hz⟩:∃ z,z=l.length:=⟨_,rfl⟩
   rw[←hz] at hsz hlen
   have hz2:(2:Int)≤(z:Int):=by simp at hlen;omega
   clear hz hlen
   obtain⟨a,ha⟩:∃ a:Int,a=(n:Int):=⟨_,rfl⟩
   have hP2:ParC (l.drop 2) 16 a:=by rw[ha];exact hP
   have HP:=Lib.hid hP2
   have ha0:0≤a:=by omega
   have ha1:a<9223372036854775808:=by omega
   rw[←ha]
   clear h hP hP2 ha hn hx hx2
   go_enter Tryz.func253,Tryz.ntmps253
   go_wp2_with (first
      |(go_at_call 50;(with_reducible refine(H1.out _).mono ?_);rintro e w1 ⟨rfl,rfl⟩)
      |(go_at_call 50;(with_reducible refine(H2.out _).mono ?_);rintro e w1 ⟨rfl,rfl⟩)
      |(go_at_call 50;(with_reducible refine(H3.out _).mono ?_);rintro e w1 ⟨rfl,rfl⟩)
      |(go_at_call 68;(try rw[HX.out]);(with_reducible refine(HP.out _).mono ?_);rintro e w2 ⟨rfl,hl2⟩))
   go_ret2
   exact⟨rfl,hl2⟩
  | false=>
   have H2:=Lib.hid (pre_c l [48,88] ⟨#[48,88]⟩ rfl false hx2)
   rw[hx,hx2] at h
   simp only[Bool.or_false,Bool.false_eq_true,if_false] at h
   cases hx3:Lib.hasPrefix l [48] with
   | true=>
    have H3:=Lib.hid (pre_c l [48] ⟨#[48]⟩ rfl true hx3)
    rw[hx3] at h
    simp only[if_true] at h
    clear hx3
    obtain⟨hn,hP⟩:=par_c (b:=8) (by omega) h (by omega)
    obtain⟨a,ha⟩:∃ a:Int,a=(n:Int):=⟨_,rfl⟩
    have hP2:ParC l 8 a:=by rw[ha];exact hP
    have HP:=Lib.hid hP2
    have ha0:0≤a:=by omega
    have ha1:a<9223372036854775808:=by omega
    rw[←ha]
    clear h hP hP2 ha hn hx hx2
    go_enter Tryz.func253,Tryz.ntmps253
    go_wp2_with (first
       |(go_at_call 50;(with_reducible refine(H1.out _).mono ?_);rintro e w1 ⟨rfl,rfl⟩)
       |(go_at_call 50;(with_reducible refine(H2.out _).mono ?_);rintro e w1 ⟨rfl,rfl⟩)
       |(go_at_call 50;(with_reducible refine(H3.out _).mono ?_);rintro e w1 ⟨rfl,rfl⟩)
       |(go_at_call 68;(with_reducible refine(HP.out _).mono ?_);rintro e w2 ⟨rfl,hl2⟩))
    go_ret2
    exact⟨rfl,hl2⟩
   | false=>
    have H3:=Lib.hid (pre_c l [48] ⟨#[48]⟩ rfl false hx3)
    rw[hx3] at h
    simp only[Bool.false_eq_true,if_false] at h
    clear hx3
    obtain⟨hn,hP⟩:=par_c (b:=10) (by omega) h (by omega)
    obtain⟨a,ha⟩:∃ a:Int,a=(n:Int):=⟨_,rfl⟩
    have hP2:ParC l 10 a:=by rw[ha];exact hP
    have HP:=Lib.hid hP2
    have ha0:0≤a:=by omega
    have ha1:a<9223372036854775808:=by omega
    rw[←ha]
    clear h hP hP2 ha hn hx hx2
    go_enter Tryz.func253,Tryz.ntmps253
    go_wp2_with (first
       |(go_at_call 50;(with_reducible refine(H1.out _).mono ?_);rintro e w1 ⟨rfl,rfl⟩)
       |(go_at_call 50;(with_reducible refine(H2.out _).mono ?_);rintro e w1 ⟨rfl,rfl⟩)
       |(go_at_call 50;(with_reducible refine(H3.out _).mono ?_);rintro e w1 ⟨rfl,rfl⟩)
       |(go_at_call 68;(with_reducible refine(HP.out _).mono ?_);rintro e w2 ⟨rfl,hl2⟩))
    go_ret2
    exact⟨rfl,hl2⟩
theorem trim_v (l:L) (hl:l.length≤4000) (W:World):Calls Tryz.prog 260 #[.string (mkS l),.string ⟨#[32,9,10]⟩] W fun e W'=>e=.returned (.string (mkS (trim l)))∧Below W.heap.size W W':=
 Tryz.strings_Trim (mkS l) (mkS [32,9,10]) W (by rw[mkS_size];omega) (by rw[mkS_size];decide) (Go.Proofs.ascii_of_all (by decide)) |>.mono (by
  rintro e W' ⟨rfl,h⟩
  rw[mkS_list,mkS_list]
  exact⟨rfl,h⟩)
theorem trim_len (l:L):(trim l).length≤l.length:=by
 unfold trim Lib.trimS Lib.trimLeftS Lib.trimRightS
 have h1:=(List.dropWhile_suffix (l:=(l.reverse.dropWhile ([32,9,10].contains ·)).reverse) ([32,9,10].contains ·)).length_le
 have h2:=(List.dropWhile_suffix (l:=l.reverse) ([32,9,10].contains ·)).length_le
 simp only[List.length_reverse] at h1 h2
 omega
theorem numV_v (l:L) (n:Int) (h:numV l=some n) (hl:l.length≤4000) (W:World):Calls Tryz.prog 258 #[.string (mkS l)] W fun e W'=>e=.returned (.tuple #[.int .i64 n,.bool true])∧Later W W':=by
 have HT:=Lib.hid (trim_v l hl)
 have ht:=trim_len l
 unfold numV at h
 dsimp only at h
 obtain⟨t,htt⟩:∃ t,t=trim l:=⟨_,rfl⟩
 rw[←htt] at HT h ht
 clear htt
 have ht4:t.length≤4000:=by omega
 by_cases h0:t=[]
 ·subst h0
  rw[if_pos rfl] at h
  injection h with h
  subst h
  have he:((mkS []).toList==([]:List UInt8))=true:=by rw[toList_mkS];rfl
  clear ht hl ht4
  go_enter Tryz.func258,Tryz.ntmps258
  go_wp2_with (go_at_call 260;(with_reducible refine(HT.out _).mono ?_);rintro e w1 ⟨rfl,hb1⟩)
  go_ret2
  exact⟨rfl,later_of_below hb1⟩
 ·rw[if_neg h0] at h
  have he:((mkS t).toList==([]:List UInt8))=false:=by rw[toList_mkS];exact beq_eq_false_iff_ne.2 h0
  have hcut:=fun W=>Tryz.strings_CutPrefix (mkS t) (mkS [45]) W
  have htp:=fun W=>Tryz.strings_TrimPrefix (mkS t) (mkS [43]) W
  simp only[mkS_list] at hcut htp
  have len:∀ p:L,(Lib.trimPrefix t p).length≤t.length:=fun p=>by unfold Lib.trimPrefix;split;rw[List.length_drop];omega;exact Nat.le_refl _
  cases hm:Lib.hasPrefix t [45] with
  | true=>
   rw[hm] at hcut h
   simp only[if_true] at h
   obtain⟨k,hk1,hk2⟩:=Option.map_eq_some_iff.1 h
   have HN:=Lib.hid (num_v _ k hk1 (by have:=len [45];omega))
   obtain⟨d,hd⟩:∃ d,d=Lib.trimPrefix t [45]:=⟨_,rfl⟩
   rw[←hd] at HN hcut
   have HC:=Lib.hid (show ∀ W,Calls Tryz.prog 261 #[.string (mkS t),.string ⟨#[45]⟩] W fun e W'=>e=.returned (.tuple #[.string (mkS d),.bool true])∧W'=W from hcut)
   have HK:=Lib.hid hk2
   clear ht hl ht4 h hm hcut htp len hk1 hk2 hd h0
   go_enter Tryz.func258,Tryz.ntmps258
   go_wp2_with (first
    |(go_at_call 260;(with_reducible refine(HT.out _).mono ?_);rintro e w1 ⟨rfl,hb1⟩;have HB1:=Lib.hid (later_of_below hb1);clear hb1)
    |(go_at_call 261;(with_reducible refine(HC.out _).mono ?_);rintro e w2 ⟨rfl,rfl⟩)
    |(go_at_call 253;(with_reducible refine(HN.out _).mono ?_);rintro e w3 ⟨rfl,hl3⟩))
   go_ret2
   rw[←HK.out]
   exact⟨rfl,HB1.out.trans hl3⟩
  | false=>
   rw[hm] at hcut h
   simp only[Bool.false_eq_true,if_false] at h
   obtain⟨k,hk1,hk2⟩:=Option.map_eq_some_iff.1 h
   have HN:=Lib.hid (num_v _ k hk1 (by have:=len [43];omega))
   obtain⟨d,hd⟩:∃ d,d=Lib.trimPrefix t [43]:=⟨_,rfl⟩
   rw[←hd] at HN htp
   obtain⟨d2,hd2⟩:∃ d2,d2=Lib.trimPrefix t [45]:=⟨_,rfl⟩
   rw[←hd2] at hcut
   have HC:=Lib.hid (show ∀ W,Calls Tryz.prog 261 #[.string (mkS t),.string ⟨#[45]⟩] W fun e W'=>e=.returned (.tuple #[.string (mkS d2),.bool false])∧W'=W from hcut)
   have HTP:=Lib.hid (show ∀ W,Calls Tryz.prog 228 #[.string (mkS t),.string ⟨#[43]⟩] W fun e W'=>e=.returned (.string (mkS d))∧W'=W from htp)
   have HK:=Lib.hid hk2
   clear ht hl ht4 h hm hcut htp len hk1 hk2 hd hd2 h0
   go_enter Tryz.func258,Tryz.ntmps258
   go_wp2_with (first
    |(go_at_call 260;(with_reducible refine(HT.out _).mono ?_);rintro e w1 ⟨rfl,hb1⟩;have HB1:=Lib.hid (later_of_below hb1);clear hb1)
    |(go_at_call 261;(with_reducible refine(HC.out _).mono ?_);rintro e w2 ⟨rfl,rfl⟩)
    |(go_at_call 228;(with_reducible refine(HTP.out _).mono ?_);rintro e w2 ⟨rfl,rfl⟩)
    |(go_at_call 253;(with_reducible refine(HN.out _).mono ?_);rintro e w3 ⟨rfl,hl3⟩))
   go_ret2
   rw[←HK.out]
   exact⟨rfl,HB1.out.trans hl3⟩
end Ar
end Go.Proofs.YtipdgmjplnibeaaGreatDoor
namespace Go.Proofs.YtipdgmjplnibeaaGreatDoor
open Go.RowKit Go.Maps
namespace Ar
theorem flat_at:∀ (vs:Vars) (i:Nat) (p:L×L),vs[i]?=some p→(flat vs)[i*2]?=some (sv p.1)∧(flat vs)[i*2+1]?=some (sv p.2)
 | [],i,p,h=>by simp at h
 | q::vs,0,p,h=>by simp at h;subst h;exact⟨rfl,rfl⟩
 | q::vs,i+1,p,h=>by
  have:=flat_at vs i p (by simpa using h)
  have e:flat (q::vs)=sv q.1::sv q.2::flat vs:=rfl
  rw[e,show (i+1)*2=i*2+2 by omega,show i*2+2+1=(i*2+1)+2 by omega]
  exact this
def idxV (vs:Vars) (t:L):Int:=match vs.findIdx? (·.1==t) with
 | some i=>i
 | none=>-1
theorem idxV_at {vs:Vars} {t:L} {k:Nat} (hk:k<vs.length) (h1:∀ j (h:j<k),((vs[j]'(by omega)).1==t)=false) (h2:(vs[k].1==t)=true):idxV vs t=k:=by
 have:vs.findIdx? (·.1==t)=some k:=by
  rw[List.findIdx?_eq_some_iff_getElem]
  exact⟨hk,h2,fun j hj=>by rw[h1 j hj];simp⟩
 unfold idxV
 rw[this]
theorem idxV_none {vs:Vars} {t:L} (h1:∀ j (h:j<vs.length),(vs[j].1==t)=false):idxV vs t=-1:=by
 have:vs.findIdx? (·.1==t)=none:=by
  rw[List.findIdx?_eq_none_iff]
  intro x hx
  obtain⟨j,hj,rfl⟩:=List.mem_iff_getElem.1 hx
  exact h1 j hj
 unfold idxV
 rw[this]
theorem idxV_look {vs:Vars} {t:L} {n:Int} (h:look vs t=some n):(idxV vs t=-1∧n=0)∨∃ (k:Nat) (p:L×L),idxV vs t=k∧vs[k]?=some p∧numV p.2=some n:=by
 unfold look find at h
 cases e:vs.findIdx? (·.1==t) with
 | none=>
  have e2:vs.find? (·.1==t)=none:=by
   rw[List.findIdx?_eq_none_iff] at e
   rw[List.find?_eq_none]
   intro x hx
   have:=e x hx
   simp at this⊢
   exact this
  rw[e2] at h
  refine .inl ⟨by unfold idxV;rw[e],?_⟩
  simp at h
  exact h.symm
 | some k=>
  rw[List.findIdx?_eq_some_iff_getElem] at e
  obtain⟨hk,h2,h3⟩:=e
  have e2:vs.find? (·.1==t)=some vs[k]:=by
   rw[List.find?_eq_some_iff_getElem]
   exact⟨h2,k,hk,rfl,fun j hj=>by have:=h3 j hj;simpa using this⟩
  rw[e2] at h
  refine .inr ⟨k,vs[k],?_,List.getElem?_eq_getElem hk,h⟩
  exact idxV_at hk (fun j hj=>by have:=h3 j hj;simpa using this) h2
theorem isVar_v (a v t:L) (b:Nat) (W:World) (hb:W.cell? ⟨b,0,none⟩=some (.string (mkS t))):Calls Tryz.prog 257 #[.agg #[.string (mkS a),.string (mkS v)],.pointer (some ⟨b,0,none⟩)] W fun e W'=>e=.returned (.bool (a==t))∧Later W W':=by
 have hlt:b<W.heap.size:=World.block_lt_of_cell? W _ hb
 have HE:=Lib.hid (show ((mkS a).toList==(mkS t).toList)=(a==t) by rw[toList_mkS,toList_mkS])
 go_enter Tryz.func257,Tryz.ntmps257
 go_wp2
 go_ret
 exact⟨ret_bool HE.out,by first | exact Later.alloc _ _ | exact(Later.alloc _ _).trans (Later.drew _)⟩
section
variable {W W':World} {g:Nat} {C:Ct} {s s':St}
theorem VarsAt.later {v:Value} {vs:Vars} (h:VarsAt W g v vs) (hl:Later W W'):VarsAt W' g v vs:=h.kept (grown_of_later hl _)
theorem indexFunc_v {v:Value} {vs:Vars} (h:VarsAt W g v vs) (hfew:vs.length≤4000) (t:L) (b:Nat) (hb:W.cell? ⟨b,0,none⟩=some (.string (mkS t))):Calls Tryz.prog 256 #[v,.func (.func 257) #[] #[.pointer (some ⟨b,0,none⟩)]] W fun e W'=>e=.returned (.int .i64 (idxV vs t))∧Later W W':=by
 have HH:=Lib.hid h
 rcases h with⟨rfl,A0,c0,rfl⟩ | ⟨vb,vo,vc,_,rfl,_⟩
 ·go_enter Tryz.func256,Tryz.ntmps256
  go_wp2
  go_loopw [8] (fun i wr=>i=.int .i64 0∧wr=W) (fun i _=>0)
  case atStart=>exact⟨rfl,rfl⟩
  case round=>
   obtain⟨rfl,rfl⟩:=hrel
   go_wp2
   go_ret
   exact⟨rfl,Later.refl _⟩
 ·obtain⟨n,hn⟩:∃ n,n=vs.length:=⟨_,rfl⟩
  rw[←hn] at hfew⊢
  have HN:=Lib.hid hn
  have HB:=Lib.hid hb
  clear hn hb
  go_enter Tryz.func256,Tryz.ntmps256
  go_wp2
  go_loopw [8] (fun i wr=>∃ k:Nat,k≤n∧i=.int .i64 (k:Int)∧Later W wr∧∀ j (h:j<vs.length),j<k→(vs[j].1==t)=false) (fun i _=>n-(intOf i).toNat)
  case atStart=>exact⟨0,by omega,rfl,Later.refl _,fun j h hj=>by omega⟩
  case round=>
   obtain⟨k,hk,rfl,hl,hj⟩:=hrel
   have HJ:=Lib.hid hj
   have HL:=Lib.hid hl
   clear hj hl
   by_cases hkn:k<n
   ·have hk0:(0:Int)≤(k:Int):=by omega
    have hk1:(k:Int)<(n:Int):=by omega
    have hlk:k<vs.length:=by have:=HN.out;omega
    rcases HH.out.later HL.out with⟨e,_⟩ | ⟨vb2,vo2,vc2,_,ev,hcs⟩
    ·rw[e] at hlk;simp at hlk
    injection ev with ev _ ev3
    injection ev with ev
    injection ev with ev ev2 _
    subst ev ev2 ev3
    obtain⟨p,hp⟩:∃ p,p=vs[k]:=⟨_,rfl⟩
    obtain⟨f1,f2⟩:=hcs k hlk
    rw[←hp] at f1 f2
    have hload:(Instr.loadAt 65 (.pointer (some ⟨vb,vo+k*2,none⟩))).run Tryz.prog wr=.ok (.agg #[.string (mkS p.1),.string (mkS p.2)]) wr:=by
     refine run_loadAt_mid (P:=Tryz.prog) wr vb (vo+k*2) 65 [.string (mkS p.1),.string (mkS p.2)] _ (fun i u hu=>?_) Tryz.underlying65 rfl (by kernel_rfl)
     have hi:i<2:=(List.getElem?_eq_some_iff.1 hu).1
     match i,hi with
     | 0,_=>cases hu;exact f1
     | 1,_=>cases hu;exact f2
    have HLD:=Lib.hid hload
    have HV:=Lib.hid (isVar_v p.1 p.2 t b wr (cell_only (g:=b+1) (grown_of_later HL.out _) (by show b≠b+1;omega) HB.out))
    clear hload hcs f1 f2
    cases hpt:(p.1==t) with
    | true=>
     rw[hpt] at HV
     have HR:=Lib.hid (show idxV vs t=k from idxV_at hlk (fun j hj=>HJ.out j (by omega) hj) (by rw[←hp];exact hpt))
     clear hpt hp
     go_wp2_with (first
      |(refine wpList_loadRun rfl 65 (.tmp 14) rfl _ _ rfl HLD.out ?_)
      |(go_at_call 257;(with_reducible refine HV.out.mono ?_);rintro e w1 ⟨rfl,hl1⟩))
     go_ret
     rw[HR.out]
     exact⟨rfl,HL.out.trans hl1⟩
    | false=>
     rw[hpt] at HV
     have hw:wrap64 ((k:Int)+1)=(k:Int)+1:=w64 _ (by omega)
     have HA:=Lib.hid (show ∀ j (h:j<vs.length),j<k+1→(vs[j].1==t)=false from fun j h hj=>by
      rcases Nat.lt_succ_iff_lt_or_eq.1 hj with h1 | h1
      ·exact HJ.out j h h1
      ·subst h1;rw[←hp];exact hpt)
     clear hpt hp
     go_wp2_with (first
      |(refine wpList_loadRun rfl 65 (.tmp 14) rfl _ _ rfl HLD.out ?_)
      |(go_at_call 257;(with_reducible refine HV.out.mono ?_);rintro e w1 ⟨rfl,hl1⟩))
     go_roundw
     case rel=>exact⟨k+1,by omega,by go_num,HL.out.trans hl1,HA.out⟩
     case measure=>simp[intOf];omega
   ·have HR:=Lib.hid (show idxV vs t=-1 from idxV_none fun j h=>HJ.out j h (by have:=HN.out;omega))
    have hkk:¬ ((k:Int)<(n:Int)):=by omega
    clear hkn
    go_wp2
    go_ret
    rw[HR.out]
    exact⟨rfl,HL.out⟩
end
end Ar
end Go.Proofs.YtipdgmjplnibeaaGreatDoor
namespace Go.Proofs.YtipdgmjplnibeaaGreatDoor
open Go.RowKit Go.Maps
namespace Ar
theorem wpList_mkC {ops:Array Oper} {rest:List Oper} {o:Oper} {a:Act} {Q:Exit→Act→World→Prop} (w:World) (hgd:o.guard=none) (f:Nat) (x:Operand) (hop:o.op=.makeFunc (.func f) #[] #[x]) (b:Nat) (hx:a.eval x=.pointer (some ⟨b,0,none⟩)) (h:wpList Tryz.prog ops Q rest (a.put o.dst (.func (.func f) #[] #[.pointer (some ⟨b,0,none⟩)])) w):wpList Tryz.prog ops Q (o::rest) a w:=by
 refine wpList_plain hgd fun K' hK'=>?_
 have hrun:(Instr.makeFunc (.func f) #[] #[.pointer (some ⟨b,0,none⟩)]).run Tryz.prog w=.ok (.func (.func f) #[] #[.pointer (some ⟨b,0,none⟩)]) w:=rfl
 unfold Oper.wp
 simp[execOp,hop,hx,hrun,Result.andThen]
 exact hK' _ _ h
section
variable {W W':World} {g:Nat} {C:Ct} {s s':St}
theorem pair_fst {l:List (L×L)} {k:Nat} {p:L×L} (h:l[k]?=some p):k<l.length:=(List.getElem?_eq_some_iff.1 h).1
theorem cell_rt {b:Nat} {v:Value} (hg:W.grownBy W' (some g)) (hb:b≠g) (h:W.cell? ⟨b,0,none⟩=some v):W'.cell? ⟨b,0,none⟩=some v:=cell_only hg hb h
theorem variable_v (h:RM W g C s) (hn:nameB s.tok=true) (n:Int) (hl:look C.vs s.tok=some n):Calls Tryz.prog 252 #[.pointer (some ⟨g,0,none⟩)] W (Rt W g C (.int .i64 n) (pass s)):=by
 obtain⟨⟨c0,c1,c2,c3,c4,c5,c6,c7,c8⟩,hz⟩:=h.facts
 have H:=Lib.hid h
 have hgl:=h.lt
 have HNM:=Lib.hid (fun W=>name_v s.tok (by have:=h.tok_len;omega) W)
 rw[hn] at HNM
 have hbn:W.heap.size≠g:=by omega
 have HLK:=Lib.hid (idxV_look hl)
 have hfew:=h.en.few
 clear h hn hl
 rcases HLK.out with⟨hi,h0⟩ | ⟨k,p,hi,hk,hnum⟩
 ·subst h0
  have HI:=Lib.hid hi
  clear hi
  go_enter Tryz.func252,Tryz.ntmps252
  go_wp2_with (first
   |(go_at_call 28;(with_reducible refine(HNM.out _).mono ?_);rintro e w1 ⟨rfl,hl1⟩;have HL1:=Lib.hid ((Later.alloc W (.cells #[.string (mkS s.tok)] 9)).trans hl1);have HC1:=Lib.hid (show w1.cell? ⟨W.heap.size,0,none⟩=some (.string (mkS s.tok)) from cell_only (g:=W.heap.size+1) (grown_of_later hl1 _) (by show W.heap.size≠_;omega) (cell_row (heap_alloc_new W (.cells #[.string (mkS s.tok)] 9)) 0).1);clear hl1)
   |(go_at_call 162;(with_reducible refine(pass_v (H.out.later HL1.out)).mono ?_);rintro e w2 ⟨rfl,h2,g2⟩;have hc2:=cell_rt g2 hbn HC1.out;obtain⟨⟨d0,d1,d2,d3,d4,d5,d6,d7,d8⟩,dz⟩:=h2.facts;have H2:=Lib.hid h2;have HG2:=Lib.hid g2;have HC2:=Lib.hid hc2;clear h2 g2)
   |(refine wpList_mkC _ rfl 257 (.tmp 3) rfl W.heap.size rfl ?_)
   |(go_at_call 256;(with_reducible refine(indexFunc_v H2.out.en.va hfew s.tok W.heap.size HC2.out).mono ?_);rintro e w3 ⟨rfl,hl3⟩;have h3:=H2.out.later hl3;have HL3:=Lib.hid hl3;obtain⟨⟨e0,e1,e2,e3,e4,e5,e6,e7,e8⟩,ez⟩:=h3.facts;have H3:=Lib.hid h3;rw[HI.out];clear hl3 h3 d0 d1 d2 d3 d4 d5 d6 d7 d8 dz hc2))
  go_ret
  exact⟨rfl,H3.out,only_trans (only_later (only_refl W g) HL1.out) (only_later HG2.out HL3.out)⟩
 ·have HI:=Lib.hid hi
  have hp2:=H.out.en.sm p (List.mem_of_getElem? hk)
  have HNUM:=Lib.hid (numV_v p.2 n hnum hp2.2)
  have HK:=Lib.hid hk
  have hkl:=pair_fst hk
  rcases H.out.en.va with⟨e,_⟩ | ⟨vb,vo,vc,hvb,hve,hcs⟩
  ·rw[e] at hkl;simp at hkl
  have hf:W.cell? ⟨vb,vo+k*2+1,none⟩=some (.string (mkS p.2)):=by
   have h1:=(hcs k hkl).2
   rw[List.getElem?_eq_getElem hkl] at hk
   rw[Option.some.inj hk] at h1
   exact h1
  have HF:=Lib.hid hf
  obtain⟨z,hz2⟩:∃ z,z=C.vs.length:=⟨_,rfl⟩
  rw[←hz2] at hve hkl
  have hk0:(0:Int)≤(k:Int):=by omega
  have hk1:(k:Int)<(z:Int):=by omega
  rw[hve] at c2
  have HVE:=Lib.hid hve
  clear hi hk hnum hp2 hcs hf hz2 hve
  go_enter Tryz.func252,Tryz.ntmps252
  go_wp2_with (first
   |(go_at_call 28;(with_reducible refine(HNM.out _).mono ?_);rintro e w1 ⟨rfl,hl1⟩;have HL1:=Lib.hid ((Later.alloc W (.cells #[.string (mkS s.tok)] 9)).trans hl1);have HC1:=Lib.hid (show w1.cell? ⟨W.heap.size,0,none⟩=some (.string (mkS s.tok)) from cell_only (g:=W.heap.size+1) (grown_of_later hl1 _) (by show W.heap.size≠_;omega) (cell_row (heap_alloc_new W (.cells #[.string (mkS s.tok)] 9)) 0).1);clear hl1)
   |(go_at_call 162;(with_reducible refine(pass_v (H.out.later HL1.out)).mono ?_);rintro e w2 ⟨rfl,h2,g2⟩;have hc2:=cell_rt g2 hbn HC1.out;have hvb2:w2.cell? ⟨vb,vo+k*2+1,none⟩=some (.string (mkS p.2)):=cell_only (only_trans (only_later (only_refl W g) HL1.out) g2) hvb HF.out;have HF2:=Lib.hid hvb2;clear hvb2;obtain⟨⟨d0,d1,d2,d3,d4,d5,d6,d7,d8⟩,dz⟩:=h2.facts;rw[HVE.out] at d2;have H2:=Lib.hid h2;have HG2:=Lib.hid g2;have HC2:=Lib.hid hc2;clear h2 g2)
   |(refine wpList_mkC _ rfl 257 (.tmp 3) rfl W.heap.size rfl ?_)
   |(go_at_call 256;(with_reducible refine(show Calls Tryz.prog 256 #[.slice (some ⟨vb,vo,none⟩) z vc,.func (.func 257) #[] #[.pointer (some ⟨W.heap.size,0,none⟩)]] _ _ from(HVE.out ▸ indexFunc_v H2.out.en.va hfew s.tok W.heap.size HC2.out)).mono ?_);rintro e w3 ⟨rfl,hl3⟩;have h3:=H2.out.later hl3;have HL3:=Lib.hid hl3;obtain⟨⟨e0,e1,e2,e3,e4,e5,e6,e7,e8⟩,ez⟩:=h3.facts;rw[HVE.out] at e2;have hvb3:=cell_only (grown_of_later HL3.out (some g)) hvb HF2.out;have H3:=Lib.hid h3;rw[HI.out];clear hl3 h3 d0 d1 d2 d3 d4 d5 d6 d7 d8 dz hc2)
   |(go_at_call 258;(with_reducible refine(HNUM.out _).mono ?_);rintro e w4 ⟨rfl,hl4⟩))
  go_ret
  exact⟨rfl,H3.out.later hl4,only_later (only_trans (only_later (only_refl W g) HL1.out) (only_later HG2.out HL3.out)) hl4⟩
end
end Ar
end Go.Proofs.YtipdgmjplnibeaaGreatDoor
