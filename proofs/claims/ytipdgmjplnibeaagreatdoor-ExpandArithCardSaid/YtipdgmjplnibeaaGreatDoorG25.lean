import Derived.Test.YtipdgmjplnibeaaGreatDoorG24
import Derived.Laws.BitsAllLaws
set_option maxRecDepth 100000
set_option maxHeartbeats 6400000
namespace Go.Proofs.YtipdgmjplnibeaaGreatDoor
open Go.RowKit Go.Maps
namespace En
theorem u8_or_list (a b:UInt8):bits .or .u8 (a.toNat:Int) (b.toNat:Int)=((a ||| b).toNat:Int):=by
 rw[u8_or_nat _ _ (UInt8.toNat_lt a) (UInt8.toNat_lt b),UInt8.toNat_or]
theorem lower_v (c:UInt8) (W:World):Calls Tryz.prog 129 #[.int .u8 (c.toNat:Int)] W fun e W'=>e=.returned (.int .u8 ((c ||| 32).toNat:Int))∧W'=W:=by
 have h:bits .or .u8 (c.toNat:Int) 32=((c ||| 32).toNat:Int):=u8_or_list c 32
 obtain⟨x,hx⟩:∃ x,x=(c ||| 32).toNat:=⟨_,rfl⟩
 rw[←hx] at h⊢
 clear hx
 go_enter Tryz.func129,Tryz.ntmps129
 go_wp2
 go_ret
 exact⟨rfl,rfl⟩
theorem val_app (a:B):∀ b:B,val a≤val (a++b):=by
 intro b
 suffices ∀ n,∀ b:B,b.length=n→val a≤val (a++b) from this _ b rfl
 intro n
 induction n with
 | zero=>intro b hb;rw[List.length_eq_zero_iff.1 hb,List.append_nil];exact Nat.le_refl _
 | succ n ih=>
  intro b hb
  obtain⟨d,c,rfl⟩:=snoc_of b (by intro e;rw[e] at hb;cases hb)
  have:=ih d (by rw[List.length_append] at hb;simpa using hb)
  rw[←List.append_assoc,val_snoc]
  omega
def NumOk63 (l:B):Prop:=l.all digB=true∧val l<9223372036854775808
def PuOk (l:B) (x:Int) (q:Value):Prop:=(NumOk63 l∧q=.nilIface∧x=(val l:Int))∨(¬ NumOk63 l∧(q=.iface 178 (.int .i64 1)∨q=.iface 178 (.int .i64 2)))
theorem not_ok_dig {l:B} {k:Nat} (hk:k<l.length) (h:digB l[k]=false):¬ NumOk63 l:=fun ho=>by
 have:=List.all_eq_true.1 ho.1 _ (List.getElem_mem hk)
 rw[h] at this
 cases this
theorem not_ok_big {l:B} {k:Nat} (h:9223372036854775808≤val (l.take k)):¬ NumOk63 l:=fun ho=>by
 have h1:=val_app (l.take k) (l.drop k)
 rw[List.take_append_drop] at h1
 have:=ho.2
 omega
theorem not_dig {c:UInt8} (h:digB c=false):¬ (48≤c.toNat∧c.toNat≤57):=fun hh=>by rw[digB_nat.2 hh] at h;cases h
theorem val_step {l:B} {k:Nat} (hk:k<l.length):val (l.take (k+1))=val (l.take k)*10+(l[k].toNat-48):=by rw[List.take_succ_eq_append_getElem hk,val_snoc]
theorem pu_inner (l:B) (W:World) (h0:l≠[]) (hl:l.length≤2000000):Calls Tryz.prog 99 #[.string (mkS l),.int .i64 10,.int .i64 63] W fun e W'=>(∃ x q,e=.returned (.tuple #[.int .u64 x,q])∧PuOk l x q)∧Later W W':=by
 have he:((mkS l).toList==([]:List UInt8))=false:=by rw[toList_mkS];exact beq_eq_false_iff_ne.2 h0
 obtain⟨cp,W2,hcv,hl2,hr2⟩:=Ar.conv_str W l W.heap.size rfl
 obtain⟨n,hn⟩:∃ n,n=l.length:=⟨_,rfl⟩
 rw[←hn] at hcv hr2 hl
 have HL2:=Lib.hid hl2
 have HR:=Lib.hid hr2
 have HN:=Lib.hid hn
 clear hl2 hr2 hn h0
 go_enter Tryz.func99,Tryz.ntmps99
 go_wp2
 go_loopw [12,13,101] (fun us v i wr=>∃ (k:Nat) (a:Int),k≤n∧us=.bool false∧i=.int .i64 (k:Int)∧v=.int .u64 a∧wr=W2∧Hid (a=(val (l.take k):Nat)∧a<9223372036854775808∧(l.take k).all digB=true)) (fun _ _ i _=>n-(intOf i).toNat)
 case atStart=>exact⟨0,0,by omega,rfl,rfl,rfl,rfl,Lib.hid ⟨rfl,by omega,rfl⟩⟩
 case round=>
  obtain⟨k,a,hk,rfl,rfl,rfl,hw,hm⟩:=hrel
  have hw:=hw.symm
  subst hw
  have hk0:(0:Int)≤(k:Int):=by omega
  by_cases hkn:k<n
  ·have hk1:(k:Int)<(n:Int):=by omega
   have hlk:k<l.length:=by have:=HN.out;omega
   obtain⟨ad,_,had,_,hcell⟩:=HR.out.byte hkn
   obtain⟨c,hc⟩:∃ c,c=l[k]:=⟨_,rfl⟩
   rw[←hc] at hcell
   injection had with had
   rw[←had,add_lit0] at hcell
   have HVS:=Lib.hid (val_step hlk)
   rw[←hc] at HVS
   obtain⟨x,hx⟩:∃ x,x=c.toNat:=⟨_,rfl⟩
   have hx256:x<256:=by rw[hx];exact UInt8.toNat_lt c
   have hcell3:W2.cell? ⟨W.heap.size,k,none⟩=some (.int .u8 (x:Int)):=by rw[hx];exact hcell
   have hw1:wrap64 ((k:Int)+1)=(k:Int)+1:=Pm.w64 _ (by omega)
   have HC:=Lib.hid hc
   have HX:=Lib.hid hx
   have HLK:=Lib.hid hlk
   have ai0:0≤a:=by have:=hm.out.1;omega
   have ai1:a<9223372036854775808:=hm.out.2.1
   cases hd:digB c with
   | true=>
    obtain⟨g1',g2'⟩:=digB_nat.1 hd
    rw[←hx] at g1' g2'
    have g1:(48:Int)≤(x:Int):=by omega
    have g2:(x:Int)≤57:=by omega
    have g3:((x:Int)==95)=false:=by simp;omega
    have g4:(x:Int)-48<10:=by omega
    have HND:=Lib.hid (show (l.take (k+1)).all digB=true by rw[List.take_succ_eq_append_getElem hlk,List.all_append,hm.out.2.2,←hc];simp[hd])
    have HNX:Hid (((val (l.take (k+1)):Nat):Int)=a*10+((x:Int)-48)):=Lib.hid (by rw[HVS.out,hm.out.1,←hx];omega)
    have HM:=hm
    clear hcell hx had hc hlk g1' g2' hd hm
    by_cases hcut:a<1844674407370955162
    ·by_cases hov:a*10+((x:Int)-48)<9223372036854775808
     ·have HOV:=Lib.hid hov
      go_wp2
      have hov:=HOV.out
      have h9:a*10+((x:Int)-48)=((val (l.take (k+1)):Nat):Int):=HNX.out.symm
      refine⟨⟨k+1,a*10+((x:Int)-48),by omega,rfl,by first | rfl | (congr 1;omega),by first | rfl | (congr 1;omega),trivial,Lib.hid ⟨h9,hov,HND.out⟩⟩,by simp[intOf];omega⟩
     ·have HBIG:=Lib.hid (not_ok_big (l:=l) (k:=k+1) (by have:=HNX.out;omega))
      have g6:9223372036854775807<a*10+((x:Int)-48):=by omega
      by_cases hwr:a*10+((x:Int)-48)<18446744073709551616
      ·go_wp2
       all_goals (
        go_ret2
        exact⟨⟨_,_,rfl,.inr ⟨HBIG.out,.inl rfl⟩⟩,HL2.out⟩)
      ·have g7:18446744073709551616≤a*10+((x:Int)-48):=by omega
       go_wp2
       all_goals (
        go_ret2
        exact⟨⟨_,_,rfl,.inr ⟨HBIG.out,.inl rfl⟩⟩,HL2.out⟩)
    ·have g5:1844674407370955162≤a:=by omega
     have HBIG:=Lib.hid (not_ok_big (l:=l) (k:=k+1) (by have:=HNX.out;omega))
     go_wp2
     go_ret2
     exact⟨⟨_,_,rfl,.inr ⟨HBIG.out,.inl rfl⟩⟩,HL2.out⟩
   | false=>
    have HNO:=Lib.hid (not_ok_dig hlk (by rw[←hc];exact hd))
    have hnd:=not_dig hd
    rw[←hx] at hnd
    obtain⟨y,hy⟩:∃ y,y=(c ||| 32).toNat:=⟨_,rfl⟩
    have hlo:=fun W=>lower_v c W
    rw[←hx,←hy] at hlo
    have HLO:=Lib.hid hlo
    have hy256:y<256:=by rw[hy];exact UInt8.toNat_lt _
    have hnd2:((48:Int)≤(x:Int)∧¬ ((x:Int)≤57))∨¬ ((48:Int)≤(x:Int)):=by omega
    clear hcell hx had hc hlk hd hm hy hnd hlo
    obtain⟨bb,g3⟩:∃ bb,((x:Int)==95)=bb:=⟨_,rfl⟩
    have g9:(97:Int)≤(y:Int)→10≤(y:Int)-97+10:=by omega
    have HG9:=Lib.hid g9
    clear g9
    cases bb
    all_goals (
     by_cases q1:(97:Int)≤(y:Int)
     ·have g9:=HG9.out q1
      by_cases q2:(y:Int)≤122
      ·rcases hnd2 with⟨p1,p2⟩ | p1
       all_goals (
        go_wp2_with (go_at_call 129;(with_reducible refine(HLO.out _).mono ?_);rintro e w' ⟨rfl,hw'⟩;subst hw')
        go_ret2
        exact⟨⟨_,_,rfl,.inr ⟨HNO.out,.inr rfl⟩⟩,HL2.out⟩)
      ·rcases hnd2 with⟨p1,p2⟩ | p1
       all_goals (
        go_wp2_with (go_at_call 129;(with_reducible refine(HLO.out _).mono ?_);rintro e w' ⟨rfl,hw'⟩;subst hw')
        go_ret2
        exact⟨⟨_,_,rfl,.inr ⟨HNO.out,.inr rfl⟩⟩,HL2.out⟩)
     ·rcases hnd2 with⟨p1,p2⟩ | p1
      all_goals (
       go_wp2_with (go_at_call 129;(with_reducible refine(HLO.out _).mono ?_);rintro e w' ⟨rfl,hw'⟩;subst hw')
       go_ret2
       exact⟨⟨_,_,rfl,.inr ⟨HNO.out,.inr rfl⟩⟩,HL2.out⟩))
  ·have HRES:=Lib.hid (show a=(val l:Nat)∧a<9223372036854775808∧l.all digB=true by
    have h:=hm.out
    rw[List.take_of_length_le (by have:=HN.out;omega)] at h
    exact h)
   have hkk:¬ ((k:Int)<(n:Int)):=by omega
   clear hkn hm
   go_wp2
   go_ret2
   exact⟨⟨_,_,rfl,.inl ⟨⟨HRES.out.2.2,by have:=HRES.out.1;have:=HRES.out.2.1;omega⟩,rfl,HRES.out.1⟩⟩,HL2.out⟩
end En
end Go.Proofs.YtipdgmjplnibeaaGreatDoor
namespace Go.Proofs.YtipdgmjplnibeaaGreatDoor
open Go.RowKit Go.Maps
namespace En
def ErrAt (W:World) (g:Nat):Prop:=∃ ev,W.cell? ⟨g,0,none⟩=some ev∧(ev=.nilIface∨∃ te pe,ev=.iface te pe)
structure Vd (W:World):Prop where
 tb:Lib.TabIs Tryz.prog W "internal/strconv.uint64pow10" .u64 Lib.pow10Tab
 es:ErrAt W 2
 er:ErrAt W 3
theorem ErrAt.later {w w':World} {g:Nat} (h:ErrAt w g) (hl:Later w w'):ErrAt w' g:=by
 obtain⟨ev,h1,h2⟩:=h
 exact⟨ev,(hl.cell (World.block_lt_of_cell? w _ h1)).trans h1,h2⟩
theorem Tb_later {w w':World} (h:Lib.TabIs Tryz.prog w "internal/strconv.uint64pow10" .u64 Lib.pow10Tab) (hb:Later w w'):Lib.TabIs Tryz.prog w' "internal/strconv.uint64pow10" .u64 Lib.pow10Tab:=by
 have hg:Tryz.prog.globalNamed "internal/strconv.uint64pow10" = some 1:=by kernel_rfl
 unfold Lib.TabIs World.var? at h⊢
 rw[hg] at h⊢
 simp only[Option.bind_some] at h⊢
 have hlt:1<w.heap.size:=by
  rcases Nat.lt_or_ge 1 w.heap.size with h' | h'
  ·exact h'
  ·rw[Array.getElem?_eq_none h'] at h;cases h
 rw[hb.block _ hlt]
 exact h
theorem Vd.later {w w':World} (h:Vd w) (hl:Later w w'):Vd w':=⟨Tb_later h.tb hl,h.es.later hl,h.er.later hl⟩
theorem pu_empty (W:World):Calls Tryz.prog 99 #[.string (mkS []),.int .i64 10,.int .i64 63] W fun e W'=>e=.returned (.tuple #[.int .u64 0,.iface 178 (.int .i64 2)])∧W'=W:=by
 go_enter Tryz.func99,Tryz.ntmps99
 have he:((mkS []).toList==([]:List UInt8))=true:=by rw[toList_mkS];rfl
 go_wp2
 go_ret2
 exact⟨rfl,rfl⟩
theorem pu_all (l:B) (W:World) (hl:l.length≤2000000):Calls Tryz.prog 99 #[.string (mkS l),.int .i64 10,.int .i64 63] W fun e W'=>(∃ x q,e=.returned (.tuple #[.int .u64 x,q])∧((NumOk63 l∧l≠[]∧q=.nilIface∧x=(val l:Int))∨(¬ (NumOk63 l∧l≠[])∧(q=.iface 178 (.int .i64 1)∨q=.iface 178 (.int .i64 2)))))∧Later W W':=by
 by_cases h0:l=[]
 ·subst h0
  refine(pu_empty W).mono ?_
  rintro e w' ⟨rfl,rfl⟩
  exact⟨⟨_,_,rfl,.inr ⟨fun h=>h.2 rfl,.inr rfl⟩⟩,Later.refl _⟩
 ·refine(pu_inner l W h0 hl).mono ?_
  rintro e w' ⟨⟨x,q,rfl,hq⟩,hl'⟩
  refine⟨⟨x,q,rfl,?_⟩,hl'⟩
  rcases hq with⟨h1,h2,h3⟩ | ⟨h1,h2⟩
  ·exact .inl ⟨h1,h0,h2,h3⟩
  ·exact .inr ⟨fun h=>h1 h.1,h2⟩
theorem parse_v (l:B) (W:World) (hd:Vd W) (hl:l.length≤2000000):Calls Tryz.prog 68 #[.string (mkS l),.int .i64 10,.int .i64 63] W fun e W'=>(∃ x q,e=.returned (.tuple #[.int .u64 x,q])∧((NumOk63 l∧l≠[]∧q=.nilIface∧x=(val l:Int))∨(¬ (NumOk63 l∧l≠[])∧∃ te pe,q=.iface te pe)))∧Later W W':=by
 have HPU:=Lib.hid (pu_all l W hl)
 have HD:=Lib.hid hd
 have hsz:(mkS l).size≤281474976710656:=by rw[mkS_size];omega
 have HTS:=Lib.hid (fun fn ev w hv hev=>Tryz.strconv_toError_syntax fn (mkS l) 10 63 ev w hsz hv hev)
 have HTR:=Lib.hid (fun fn ev w hv hev=>Tryz.strconv_toError_range fn (mkS l) 10 63 ev w hsz hv hev)
 clear hd hl hsz
 go_enter Tryz.func68,Tryz.ntmps68
 go_wp2_with fail
 go_at_call 99
 with_reducible refine HPU.out.mono ?_
 rintro e w1 ⟨⟨x,q,rfl,hq⟩,hl1⟩
 have HL1:=Lib.hid hl1
 have HQ:=Lib.hid hq
 clear hl1
 rcases hq with⟨_,_,rfl,_⟩ | ⟨_,rfl | rfl⟩
 ·go_wp2
  go_ret2
  obtain⟨h1,h2,_,h3⟩ | ⟨_,h | h⟩:=HQ.out
  ·exact⟨⟨_,_,rfl,.inl ⟨h1,h2,rfl,rfl⟩⟩,HL1.out⟩
  ·cases h
  ·cases h
 ·obtain⟨ev,hv,hev⟩:=HD.out.er.later HL1.out
  have HV:=Lib.hid (And.intro hv hev)
  clear hv hev
  go_wp2_with (go_at_call 100;(with_reducible refine(HTR.out _ ev _ HV.out.1 HV.out.2).mono ?_);rintro e w2 ⟨N,rfl,_,_,hl2⟩;have HL2:=Lib.hid hl2;clear hl2)
  go_ret2
  obtain⟨_,_,h,_⟩ | ⟨h,_⟩:=HQ.out
  ·cases h
  ·exact⟨⟨_,_,rfl,.inr ⟨h,_,_,rfl⟩⟩,HL1.out.trans HL2.out⟩
 ·obtain⟨ev,hv,hev⟩:=HD.out.es.later HL1.out
  have HV:=Lib.hid (And.intro hv hev)
  clear hv hev
  go_wp2_with (go_at_call 100;(with_reducible refine(HTS.out _ ev _ HV.out.1 HV.out.2).mono ?_);rintro e w2 ⟨N,rfl,_,_,hl2⟩;have HL2:=Lib.hid hl2;clear hl2)
  go_ret2
  obtain⟨_,_,h,_⟩ | ⟨h,_⟩:=HQ.out
  ·cases h
  ·exact⟨⟨_,_,rfl,.inr ⟨h,_,_,rfl⟩⟩,HL1.out.trans HL2.out⟩
end En
end Go.Proofs.YtipdgmjplnibeaaGreatDoor
namespace Go.Proofs.YtipdgmjplnibeaaGreatDoor
open Go.RowKit Go.Maps
namespace En
theorem arg_bad {args:List B} {s:B} (ha:args.length≤900000000) (h:¬ (NumOk63 s∧s≠[])):arg args s=none:=by
 unfold arg
 split
 ·rename_i hn
  have h1:s≠[]:=by rintro rfl;cases hn
  have h2:s.all digB=true:=by
   cases s with
   | nil=>cases hn
   | cons c s=>simp only[numB,Bool.and_eq_true] at hn;exact hn.2
  have h3:¬ val s<9223372036854775808:=fun hv=>h ⟨⟨h2,hv⟩,h1⟩
  exact List.getElem?_eq_none (by omega)
 ·rfl
theorem arg_zero {args:List B} {s:B} {h:0<s.length} (h0:s[0]=48):arg args s=none:=by
 unfold arg
 rw[if_neg]
 intro hn
 cases s with
 | nil=>cases hn
 | cons c s=>
  simp only[List.getElem_cons_zero] at h0
  simp[numB,h0] at hn
theorem num_of {s:B} (ho:s.all digB=true) (h:0<s.length) (h0:s[0]≠48):numB s=true:=by
 cases s with
 | nil=>simp at h
 | cons c s=>
  simp only[List.getElem_cons_zero] at h0
  simp only[numB,ho,Bool.and_true,Bool.not_eq_true',decide_eq_false_iff_not]
  exact h0
theorem arg_long {args:List B} {s:B} (ha:args.length≤900000000) (h:9<s.length):arg args s=none:=by
 unfold arg
 split
 ·rename_i hn
  obtain⟨m,hm⟩:∃ m,s.length=m+1:=⟨s.length-1,by omega⟩
  have h1:=val_ge m s hm hn
  have h2:10 ^ 9≤10 ^ m:=Nat.pow_le_pow_right (by omega) (by omega)
  exact List.getElem?_eq_none (by omega)
 ·rfl
theorem arg_past {args:List B} {s:B} (h:args.length<val s):arg args s=none:=by
 unfold arg
 split
 ·exact List.getElem?_eq_none (by omega)
 ·rfl
theorem arg_in {args:List B} {s:B} (hn:numB s=true) {k:Nat} (hk:val s=k+1) (hl:k<args.length):arg args s=some args[k]:=by
 unfold arg
 rw[if_pos hn,hk,Nat.add_sub_cancel]
 exact List.getElem?_eq_getElem hl
theorem argument_v (va:Value) (e:E) (s:B) (W:World) (h:RdE W va e) (hd:Vd W) (hs:s.length≤2000000) (ha:e.args.length≤900000000):Calls Tryz.prog 38 #[va,.string (mkS s)] W fun x W'=>x=.returned (tellV (told (arg e.args s)))∧Later W W':=by
 obtain⟨v0,A,n,c,rfl,hv,hr,_,_⟩:=h
 obtain⟨Av,cv,rfl,hcv,hcw,_⟩:=hv.le
 obtain⟨n0,hn0⟩:∃ n0,n0=e.vars.length:=⟨_,rfl⟩
 obtain⟨st,hst⟩:∃ st:Int,st=(e.status:Int):=⟨_,rfl⟩
 obtain⟨fl,hfl⟩:∃ fl,fl=mkS e.flags:=⟨_,rfl⟩
 obtain⟨args,hargs⟩:∃ args,args=e.args:=⟨_,rfl⟩
 rw[←hn0,←hst,←hfl]
 rw[←hargs] at hr ha⊢
 have hnl:args.length=n:=hr.len_map
 have HNL:=Lib.hid hnl
 have HA:=Lib.hid ha
 have HR:=Lib.hid hr
 have HLA:=Lib.hid (Later.alloc W (.cells #[.slice Av n0 cv,.slice A n c,.int .i64 st,.string fl] 28))
 have HNA:=Lib.hid (heap_alloc_new W (.cells #[.slice Av n0 cv,.slice A n c,.int .i64 st,.string fl] 28))
 have HPA:=Lib.hid (parse_v s (W.alloc (.cells #[.slice Av n0 cv,.slice A n c,.int .i64 st,.string fl] 28)) (hd.later HLA.out) hs)
 have hn9:n≤900000000:=by omega
 have hss:((mkS s).size:Int)=(s.length:Int):=by rw[mkS_size]
 have hs2:s.length≤2000000:=hs
 clear hv hr hcv hcw hn0 hst hfl hargs hd hs ha hnl
 go_enter Tryz.func38,Tryz.ntmps38
 go_wp2_with fail
 go_at_call 68
 with_reducible refine HPA.out.mono ?_
 rintro x w1 ⟨⟨u,q,rfl,hq⟩,hl1⟩
 have HL1:=Lib.hid (HLA.out.trans hl1)
 have HQ:=Lib.hid hq
 have b1:w1.cell? ⟨W.heap.size,1,none⟩=some (.slice A n c):=(cell_row (later_cells hl1 HNA.out) 1).1
 clear hl1
 rcases hq with⟨hok,hne,rfl,hu⟩ | ⟨hbad,te,pe,rfl⟩
 ·have hpos:0<s.length:=List.length_pos_iff.2 hne
  have hi2:0<(mkS s).size:=by rw[mkS_size];exact hpos
  obtain⟨k0,hk0⟩:∃ k0,k0=(mkS s)[0]:=⟨_,rfl⟩
  have HK:=Lib.hid (show s[0]=k0 by rw[hk0];exact(mkS_get' s 0 hi2 hpos).symm)
  have hxt:(mkS s)[0]=k0:=hk0.symm
  have HOK:=Lib.hid hok
  have HU:=Lib.hid hu
  have hu0:0≤u:=by omega
  have hu1:u<9223372036854775808:=by have:=hok.2;omega
  have HP:=Lib.hid hpos
  clear hok hne hk0 hu hpos
  by_cases h48:k0=48
  ·have f1:((k0.toNat:Int)==48)=true:=by rw[h48];rfl
   have HZ:=Lib.hid (arg_zero (args:=args) (h:=HP.out) (HK.out.trans h48))
   clear h48
   go_wp2
   go_ret2
   exact⟨by rw[HZ.out];rfl,HL1.out⟩
  ·have f1:((k0.toNat:Int)==48)=false:=by
    have h5:k0.toNat≠48:=fun h=>h48 (UInt8.toNat_inj.1 h)
    rw[beq_eq_false_iff_ne];omega
   have HN:=Lib.hid (num_of HOK.out.1 HP.out (fun h=>h48 (HK.out.symm.trans h)))
   clear h48
   by_cases h9:(9:Int)<(s.length:Int)
   ·have HZ:=Lib.hid (arg_long (args:=args) (s:=s) HA.out (by omega))
    go_wp2
    go_ret2
    exact⟨by rw[HZ.out];rfl,HL1.out⟩
   ·by_cases hpast:(n:Int)<u
    ·have HZ:=Lib.hid (arg_past (args:=args) (s:=s) (by have:=HU.out;have:=HNL.out;omega))
     go_wp2
     go_ret2
     exact⟨by rw[HZ.out];rfl,HL1.out⟩
    ·obtain⟨k,hk⟩:∃ k:Nat,u=(k:Int)+1:=by
      have h1:=(val_pos _ s rfl HN.out).1
      exact⟨val s-1,by have:=HU.out;omega⟩
     have hkn:k<n:=by omega
     have HV:=Lib.hid (show val s=k+1 by have:=HU.out;omega)
     have hkl:k<args.length:=by rw[HNL.out];exact hkn
     obtain⟨ad,hl2,had,hg,hcc⟩:=HR.out.at_map hkn
     subst had
     obtain⟨y,hy⟩:∃ y,y=args[k]:=⟨_,rfl⟩
     have p1:w1.cell? (ad.add k)=some (.string (mkS y)):=(HL1.out.cell (p:=ad.add k) (by rw[block_add];exact hg)).trans (by rw[hy];exact hcc)
     have HZ:=Lib.hid (arg_in HN.out HV.out hkl)
     rw[←hy] at HZ
     subst hk
     have hk1:(0:Int)≤(k:Int):=by omega
     have hk2:(k:Int)<(n:Int):=by omega
     have hk3:(k:Int)+1-1=(k:Int):=by omega
     clear hcc hg hy hl2 hu0 hu1 hkl
     go_wp2
     go_ret2
     exact⟨by rw[HZ.out];rfl,HL1.out⟩
 ·have HZ:=Lib.hid (arg_bad (s:=s) HA.out hbad)
  clear hbad
  go_wp2
  go_ret2
  exact⟨by rw[HZ.out];rfl,HL1.out⟩
end En
end Go.Proofs.YtipdgmjplnibeaaGreatDoor
namespace Go.Proofs.YtipdgmjplnibeaaGreatDoor
open Go.RowKit Go.Maps
namespace En
theorem join_words (b:B):∀ l:List B,Lib.join l b=joined b l
 | []=>rfl
 | [w]=>by simp[Lib.join,joined]
 | w::v::l=>by
  have:=join_words b (v::l)
  simp[Lib.join,joined] at this⊢
  exact this
theorem join_v {W:World} {A:Option Addr} {n c:Nat} (ts:List B) (b:B) (hr:Rd W W.heap.size A n (ts.map fun x=>.string (mkS x))) (hc:n≤c) (hn:n≤1000000) (hl:(joined b ts).length≤20000000000000):Calls Tryz.prog 35 #[.slice A n c,.string (mkS b)] W fun e W'=>e=.returned (.string (mkS (joined b ts)))∧Later W W':=by
 have hts:ts.length=n:=hr.len_map
 rcases Nat.eq_zero_or_pos n with h0 | h0
 ·subst h0
  have e:ts=[]:=List.eq_nil_of_length_eq_zero hts
  subst e
  refine(Tryz.strings_Join_none A c (mkS b) W).mono ?_
  rintro e w' ⟨rfl,rfl⟩
  exact⟨rfl,Later.refl _⟩
 ·obtain⟨ad,rfl,hb,hcell⟩:=hr.2 h0
  have hsp:ad.spot=none:=by
   have h1:=hcell 0 _ (by rw[List.getElem?_map,List.getElem?_eq_getElem (by omega)];rfl)
   have:=World.cell?_spot h1
   unfold Addr.add at this
   simpa using this
  obtain⟨bk,o,sp⟩:=ad
  simp only at hsp
  subst hsp
  have hxl:(ts.map mkS).length=n:=by rw[List.length_map,hts]
  have hmap:(ts.map mkS).map (·.data.toList)=ts:=by rw[List.map_map];exact(List.map_congr_left fun x _=>mkS_list x).trans (List.map_id ts)
  have hlen:(Lib.join ((ts.map mkS).map (·.data.toList)) (mkS b).data.toList).length≤140737488355328:=by rw[hmap,mkS_list,join_words];omega
  have hj:=Tryz.strings_Join bk o c (ts.map mkS) (mkS b) W (fun j x hx=>by
   have h1:=hcell j (.string x) (by
    rw[List.getElem?_map] at hx⊢
    cases e:ts[j]? with
    | none=>rw[e] at hx;cases hx
    | some y=>rw[e] at hx;simp only[Option.map_some,Option.some.injEq] at hx⊢;rw[←hx])
   exact cell_add h1) hb (by omega) (by omega) hlen
  rw[hxl,hmap,mkS_list,join_words] at hj
  exact hj
theorem later_grow (w:World) (k:Nat) (os:Array Obj):Later w (Sort.grow (w.drewN k) os):=
 ⟨rfl,rfl,rfl,by simp[Sort.grow,World.drewN],fun i hi=>by
  show (w.heap++os)[i]?=w.heap[i]?
  exact Array.getElem?_append_left hi⟩
theorem itoa_v (k:Nat) (hk:k≤9223372036854775807) (W:World) (hd:Vd W):Calls Tryz.prog 34 #[.int .i64 (k:Int)] W fun e W'=>e=.returned (.string (mkS (Lib.decDigits k)))∧Later W W':=by
 refine(Tryz.strconv_Itoa (k:Int) (by omega) (by omega) W hd.tb).mono ?_
 rintro e w ⟨rfl,j,os,rfl⟩
 refine⟨?_,later_grow W j os⟩
 have he:Lib.itoa (k:Int)=Lib.decDigits k:=by rw[Lib.itoa,if_neg (by omega),Int.toNat_natCast]
 rw[he]
 rfl
theorem between_v (va:Value) (e:E) (W:World) (h:RdE W va e) (hif:(ifs e.vars).length≤9223372036854775807):Calls Tryz.prog 36 #[va] W fun x W'=>x=.returned (.string (mkS ((ifs e.vars).take 1)))∧Later W W':=by
 have HI:=Lib.hid (show ∀ W',Later W W'→Calls Tryz.prog 24 #[va] W' fun x W''=>x=.returned (.string (mkS (ifs e.vars)))∧Later W' W'' from fun W' hl=>ifs_v va e W' (h.later hl))
 obtain⟨v0,A,n,c,rfl,hv,_,_,_⟩:=h
 obtain⟨Av,cv,rfl,hcv,hcw,_⟩:=hv.le
 obtain⟨n0,hn0⟩:∃ n0,n0=e.vars.length:=⟨_,rfl⟩
 obtain⟨st,hst⟩:∃ st:Int,st=(e.status:Int):=⟨_,rfl⟩
 obtain⟨fl,hfl⟩:∃ fl,fl=mkS e.flags:=⟨_,rfl⟩
 obtain⟨f,hf⟩:∃ f,f=ifs e.vars:=⟨_,rfl⟩
 rw[←hn0,←hst,←hfl,←hf] at HI
 rw[←hn0,←hst,←hfl,←hf]
 rw[←hf] at hif
 have HLA:=Lib.hid (Later.alloc W (.cells #[.slice Av n0 cv,.slice A n c,.int .i64 st,.string fl] 28))
 have hfs:((mkS f).size:Int)=(f.length:Int):=by rw[mkS_size]
 clear hv hcv hcw hst hfl hn0 hf
 by_cases h0:f.length=0
 ·have hm:min (f.length:Int) 1=0:=by omega
  have hx:ByteArray.empty=mkS (f.take 1):=by
   rw[List.length_eq_zero_iff.1 h0];rfl
  clear h0
  go_enter Tryz.func36,Tryz.ntmps36
  go_wp2_with (go_at_call 24;(with_reducible refine(HI.out _ HLA.out).mono ?_);rintro x w3 ⟨rfl,hl3⟩;(have HL3:=Lib.hid (HLA.out.trans hl3));clear hl3)
  go_ret
  exact⟨rfl,HL3.out⟩
 ·have hm:min (f.length:Int) 1=1:=by omega
  have hx:=take_one f
  have h1:(1:Int)≤(f.length:Int):=by omega
  clear h0
  go_enter Tryz.func36,Tryz.ntmps36
  go_wp2_with (go_at_call 24;(with_reducible refine(HI.out _ HLA.out).mono ?_);rintro x w3 ⟨rfl,hl3⟩;(have HL3:=Lib.hid (HLA.out.trans hl3));clear hl3)
  go_ret
  exact⟨rfl,HL3.out⟩
end En
end Go.Proofs.YtipdgmjplnibeaaGreatDoor
