import Derived.Test.YtipdgmjplnibeaaGreatDoorG36
set_option maxRecDepth 100000
set_option maxHeartbeats 3200000
namespace Go.Proofs.YtipdgmjplnibeaaGreatDoor
open Go.RowKit Go.Maps
set_option maxRecDepth 100000
namespace Ws
section
variable {W W':World} {X T:Nat→Prop} {g s dp:Nat} {raw:L} {r:Wd.R} {x x':Wd.S} {br:Wd.S→Wd.P×Wd.S}
theorem loop_stop {go:Wd.S→Bool} {f:Wd.R×Wd.S→Wd.R×Wd.S} {n:Nat} {y:Wd.R×Wd.S} (h:go y.2=false):Wd.loop go f n y=y:=by
 cases n with
 | zero=>rfl
 | succ n=>rw[Wd.loop,h];rfl
theorem loop_go {go:Wd.S→Bool} {f:Wd.R×Wd.S→Wd.R×Wd.S} {n:Nat} {y:Wd.R×Wd.S} (h:go y.2=true) (h0:y.2.l≠[]) (hn:y.2.l.length≤n) (hf:(f y).2.l.length<y.2.l.length):∃ n',(f y).2.l.length≤n'∧Wd.loop go f n y=Wd.loop go f n' (f y):=by
 cases n with
 | zero=>have:=List.length_pos_iff.2 h0;omega
 | succ n=>exact⟨n,by omega,by rw[Wd.loop,h];rfl⟩
def Lr (W:World) (X:Nat→Prop) (g s:Nat) (raw:L) (dp:Nat) (go:Wd.S→Bool) (f:Wd.R×Wd.S→Wd.R×Wd.S) (z:Wd.R×Wd.S) (M:Nat) (wr:World):Prop:=
 ∃ (n:Nat) (r:Wd.R) (y:Wd.S),RM wr X g s raw dp r y∧Fr X W wr∧z=Wd.loop go f n (r,y)∧y.l.length≤n∧Wd.m (r,y)≤M
theorem more_f {t:L} (h:Wd.left x=false):Wd.more t x=false:=by unfold Wd.more;rw[h];rfl
theorem more_a {t:L} {b:Bool} (h:Wd.left x=true) (h2:Wd.ahead t x=b):Wd.more t x=!b:=by unfold Wd.more;rw[h,h2];rfl
theorem left_nil (h:Wd.left x=false):x.l=[]:=by
 unfold Wd.left at h
 cases hl:x.l with
 | nil=>rfl
 | cons c t=>rw[hl] at h;cases h
theorem size_m {M:Nat} (h:Wd.m (r,x)≤M):r.ps.length+r.t.length≤M:=by unfold Wd.m at h;dsimp only at h;omega
theorem left_b (h:RM W X g s raw dp r x) (b:Bool) (hb:Wd.left x=b):Calls Tryz.prog 53 #[.pointer (some ⟨s,0,none⟩)] W (Rt W X g s raw dp r x (.bool b)):=by subst hb;exact left_r h
theorem ahead_b (h:RM W X g s raw dp r x) (t:L) (ts:ByteArray) (ht:ts=mkS t) (b:Bool) (hb:Wd.ahead t x=b):Calls Tryz.prog 114 #[.pointer (some ⟨s,0,none⟩),.string ts] W (Rt W X g s raw dp r x (.bool b)):=by subst hb;exact ahead_r h t ts ht
theorem double_v (hb:BrOk dp br) (h:RM W X g s raw dp r x) (hm:Wd.m (r,x)≤500000):Calls Tryz.prog 84 #[.pointer (some ⟨g,0,none⟩)] W (Rt W X g s raw dp (Wd.double br (r,x)).1 (Wd.double br (r,x)).2 (.tuple #[])):=by
 obtain⟨⟨d3,d4⟩,dz⟩:=h.facts
 have HBR:=Lib.hid hb
 have H:=Lib.hid h
 have HM:=Lib.hid hm
 obtain⟨z,hz⟩:∃ z,z=Wd.loop (Wd.more [34]) (Wd.content br Wd.inQuotes) x.l.length (if Wd.ahead [34] x then Wd.put 2 [] r else r,x):=⟨_,rfl⟩
 have hd:Wd.double br (r,x)=(z.1,Wd.need [34] z.2):=by rw[hz];rfl
 rw[hd]
 clear hd h hb hm
 cases ha:Wd.ahead [34] x with
 | true=>
  rw[ha] at hz
  simp only[if_true] at hz
  have HZ:=Lib.hid hz
  have HA:=Lib.hid ha
  clear ha hz
  go_enter Tryz.func84,Tryz.ntmps84
  go_wp2_with (first
   |(go_at_call 114;(with_reducible refine(ahead_b H.out [34] ⟨#[34]⟩ rfl true HA.out).mono ?_);rintro e w1 ⟨rfl,h1,f1⟩;obtain⟨⟨d3x1,d4x1⟩,dzx1⟩:=h1.facts;have H1:=Lib.hid h1;have F1:=Lib.hid f1;clear h1 f1)
   |(go_at_call 82;(with_reducible refine(put_r H1.out 2 2 rfl (by omega) [] ⟨#[]⟩ rfl (by have:=size_m HM.out;simp;omega)).mono ?_);rintro e w2 ⟨rfl,h2,f2⟩;obtain⟨⟨d3x2,d4x2⟩,dzx2⟩:=h2.facts;have H2:=Lib.hid h2;have F2:=Lib.hid f2;clear h2 f2))
  go_loopw [] (fun wr=>Lr W X g s raw dp (Wd.more [34]) (Wd.content br Wd.inQuotes) z 500001 wr) (fun wr=>raw.length-atS s wr)
  case atStart=>exact⟨_,_,_,H2.out,F1.out.trans F2.out,HZ.out,Nat.le_refl _,by have:=HM.out;have:=Wd.put_m 2 [] r;unfold Wd.m at *;dsimp only at *;simp at *;omega⟩
  case round=>
   obtain⟨n,r2,y,hr,hf,hzl,hn,hM⟩:=hrel
   obtain⟨⟨d3,d4⟩,dz⟩:=hr.facts
   have HR:=Lib.hid hr
   have HF:=Lib.hid hf
   have HZL:=Lib.hid hzl
   have HNN:=Lib.hid hn
   have HMM:=Lib.hid hM
   have HAT:=Lib.hid (at_len hr.src)
   clear hr hf hzl hn hM
   cases hlf:Wd.left y with
   | false=>
    have HLF:=Lib.hid hlf
    have HE:=Lib.hid (HZL.out.trans (loop_stop (y:=(r2,y)) (more_f hlf)))
    clear hlf
    go_wp2_with (first
     |(go_at_call 53;(with_reducible refine(left_b HR.out false HLF.out).mono ?_);rintro e w1 ⟨rfl,h1,f1⟩;obtain⟨⟨d3x1,d4x1⟩,dzx1⟩:=h1.facts;have H1:=Lib.hid h1;have F1:=Lib.hid f1;clear h1 f1)
     |(go_at_call 51;(with_reducible refine(need_r H1.out [34] ⟨#[34]⟩ rfl).mono ?_);rintro e w5 ⟨rfl,h5,f5⟩;obtain⟨⟨d3x5,d4x5⟩,dzx5⟩:=h5.facts;have H5:=Lib.hid h5;have F5:=Lib.hid f5;clear h5 f5))
    go_end0
    rw[HE.out]
    exact⟨rfl,H5.out,HF.out.trans (F1.out.trans F5.out)⟩
   | true=>
    have HLF:=Lib.hid hlf
    cases hah:Wd.ahead [34] y with
    | true=>
     have HAH:=Lib.hid hah
     have HE:=Lib.hid (HZL.out.trans (loop_stop (y:=(r2,y)) (more_a hlf hah)))
     clear hlf hah
     go_wp2_with (first
      |(go_at_call 53;(with_reducible refine(left_b HR.out true HLF.out).mono ?_);rintro e w1 ⟨rfl,h1,f1⟩;obtain⟨⟨d3x1,d4x1⟩,dzx1⟩:=h1.facts;have H1:=Lib.hid h1;have F1:=Lib.hid f1;clear h1 f1)
      |(go_at_call 114;(with_reducible refine(ahead_b H1.out [34] ⟨#[34]⟩ rfl true HAH.out).mono ?_);rintro e w2 ⟨rfl,h2,f2⟩;obtain⟨⟨d3x2,d4x2⟩,dzx2⟩:=h2.facts;have H2:=Lib.hid h2;have F2:=Lib.hid f2;clear h2 f2)
      |(go_at_call 51;(with_reducible refine(need_r H2.out [34] ⟨#[34]⟩ rfl).mono ?_);rintro e w5 ⟨rfl,h5,f5⟩;obtain⟨⟨d3x5,d4x5⟩,dzx5⟩:=h5.facts;have H5:=Lib.hid h5;have F5:=Lib.hid f5;clear h5 f5))
     go_end0
     rw[HE.out]
     exact⟨rfl,H5.out,HF.out.trans (F1.out.trans (F2.out.trans F5.out))⟩
    | false=>
     have HAH:=Lib.hid hah
     have hne:=Wd.left_ne hlf
     have HNE:=Lib.hid hne
     have hpm:=(fun y hne=>Wd.content_m HBR.out.le Wd.inQuotes (r2,y) hne) y hne
     have HPM:=Lib.hid hpm
     have HLG:=Lib.hid (loop_go (y:=(r2,y)) (f:=Wd.content br Wd.inQuotes) (more_a hlf hah) hne HNN.out hpm.1)
     clear hlf hah hne hpm
     go_wp2_with (first
      |(go_at_call 53;(with_reducible refine(left_b HR.out true HLF.out).mono ?_);rintro e w1 ⟨rfl,h1,f1⟩;obtain⟨⟨d3x1,d4x1⟩,dzx1⟩:=h1.facts;have H1:=Lib.hid h1;have F1:=Lib.hid f1;clear h1 f1)
      |(go_at_call 114;(with_reducible refine(ahead_b H1.out [34] ⟨#[34]⟩ rfl false HAH.out).mono ?_);rintro e w2 ⟨rfl,h2,f2⟩;obtain⟨⟨d3x2,d4x2⟩,dzx2⟩:=h2.facts;have H2:=Lib.hid h2;have F2:=Lib.hid f2;clear h2 f2)
      |(go_at_call 117;(with_reducible refine(content_v HBR.out H2.out Wd.inQuotes ⟨#[36,96,92,34]⟩ rfl (Nat.le_trans (size_m HMM.out) (by omega)) HNE.out).mono ?_);rintro e w4 ⟨rfl,h4,f4⟩;obtain⟨⟨d3x4,d4x4⟩,dzx4⟩:=h4.facts;have H4:=Lib.hid h4;have F4:=Lib.hid f4;clear h4 f4))
     go_roundw
     case rel=>
      obtain⟨n',hn',hl'⟩:=HLG.out
      exact⟨n',_,_,H4.out,HF.out.trans (F1.out.trans (F2.out.trans F4.out)),HZL.out.trans hl',hn',Nat.le_trans HPM.out.2 HMM.out⟩
     case measure=>
      have q1:=HAT.out
      have q2:=at_len H4.out.src
      have q3:=HPM.out.1
      have q4:=H4.out.src.len
      try dsimp only at q3
      omega
 | false=>
  rw[ha] at hz
  simp only[Bool.false_eq_true,if_false] at hz
  have HZ:=Lib.hid hz
  have HA:=Lib.hid ha
  clear ha hz
  go_enter Tryz.func84,Tryz.ntmps84
  go_wp2_with (first
   |(go_at_call 114;(with_reducible refine(ahead_b H.out [34] ⟨#[34]⟩ rfl false HA.out).mono ?_);rintro e w1 ⟨rfl,h1,f1⟩;obtain⟨⟨d3x1,d4x1⟩,dzx1⟩:=h1.facts;have H1:=Lib.hid h1;have F1:=Lib.hid f1;clear h1 f1))
  go_loopw [] (fun wr=>Lr W X g s raw dp (Wd.more [34]) (Wd.content br Wd.inQuotes) z 500001 wr) (fun wr=>raw.length-atS s wr)
  case atStart=>exact⟨_,_,_,H1.out,F1.out,HZ.out,Nat.le_refl _,by have:=HM.out;omega⟩
  case round=>
   obtain⟨n,r2,y,hr,hf,hzl,hn,hM⟩:=hrel
   obtain⟨⟨d3,d4⟩,dz⟩:=hr.facts
   have HR:=Lib.hid hr
   have HF:=Lib.hid hf
   have HZL:=Lib.hid hzl
   have HNN:=Lib.hid hn
   have HMM:=Lib.hid hM
   have HAT:=Lib.hid (at_len hr.src)
   clear hr hf hzl hn hM
   cases hlf:Wd.left y with
   | false=>
    have HLF:=Lib.hid hlf
    have HE:=Lib.hid (HZL.out.trans (loop_stop (y:=(r2,y)) (more_f hlf)))
    clear hlf
    go_wp2_with (first
     |(go_at_call 53;(with_reducible refine(left_b HR.out false HLF.out).mono ?_);rintro e w1 ⟨rfl,h1,f1⟩;obtain⟨⟨d3x1,d4x1⟩,dzx1⟩:=h1.facts;have H1:=Lib.hid h1;have F1:=Lib.hid f1;clear h1 f1)
     |(go_at_call 51;(with_reducible refine(need_r H1.out [34] ⟨#[34]⟩ rfl).mono ?_);rintro e w5 ⟨rfl,h5,f5⟩;obtain⟨⟨d3x5,d4x5⟩,dzx5⟩:=h5.facts;have H5:=Lib.hid h5;have F5:=Lib.hid f5;clear h5 f5))
    go_end0
    rw[HE.out]
    exact⟨rfl,H5.out,HF.out.trans (F1.out.trans F5.out)⟩
   | true=>
    have HLF:=Lib.hid hlf
    cases hah:Wd.ahead [34] y with
    | true=>
     have HAH:=Lib.hid hah
     have HE:=Lib.hid (HZL.out.trans (loop_stop (y:=(r2,y)) (more_a hlf hah)))
     clear hlf hah
     go_wp2_with (first
      |(go_at_call 53;(with_reducible refine(left_b HR.out true HLF.out).mono ?_);rintro e w1 ⟨rfl,h1,f1⟩;obtain⟨⟨d3x1,d4x1⟩,dzx1⟩:=h1.facts;have H1:=Lib.hid h1;have F1:=Lib.hid f1;clear h1 f1)
      |(go_at_call 114;(with_reducible refine(ahead_b H1.out [34] ⟨#[34]⟩ rfl true HAH.out).mono ?_);rintro e w2 ⟨rfl,h2,f2⟩;obtain⟨⟨d3x2,d4x2⟩,dzx2⟩:=h2.facts;have H2:=Lib.hid h2;have F2:=Lib.hid f2;clear h2 f2)
      |(go_at_call 51;(with_reducible refine(need_r H2.out [34] ⟨#[34]⟩ rfl).mono ?_);rintro e w5 ⟨rfl,h5,f5⟩;obtain⟨⟨d3x5,d4x5⟩,dzx5⟩:=h5.facts;have H5:=Lib.hid h5;have F5:=Lib.hid f5;clear h5 f5))
     go_end0
     rw[HE.out]
     exact⟨rfl,H5.out,HF.out.trans (F1.out.trans (F2.out.trans F5.out))⟩
    | false=>
     have HAH:=Lib.hid hah
     have hne:=Wd.left_ne hlf
     have HNE:=Lib.hid hne
     have hpm:=(fun y hne=>Wd.content_m HBR.out.le Wd.inQuotes (r2,y) hne) y hne
     have HPM:=Lib.hid hpm
     have HLG:=Lib.hid (loop_go (y:=(r2,y)) (f:=Wd.content br Wd.inQuotes) (more_a hlf hah) hne HNN.out hpm.1)
     clear hlf hah hne hpm
     go_wp2_with (first
      |(go_at_call 53;(with_reducible refine(left_b HR.out true HLF.out).mono ?_);rintro e w1 ⟨rfl,h1,f1⟩;obtain⟨⟨d3x1,d4x1⟩,dzx1⟩:=h1.facts;have H1:=Lib.hid h1;have F1:=Lib.hid f1;clear h1 f1)
      |(go_at_call 114;(with_reducible refine(ahead_b H1.out [34] ⟨#[34]⟩ rfl false HAH.out).mono ?_);rintro e w2 ⟨rfl,h2,f2⟩;obtain⟨⟨d3x2,d4x2⟩,dzx2⟩:=h2.facts;have H2:=Lib.hid h2;have F2:=Lib.hid f2;clear h2 f2)
      |(go_at_call 117;(with_reducible refine(content_v HBR.out H2.out Wd.inQuotes ⟨#[36,96,92,34]⟩ rfl (Nat.le_trans (size_m HMM.out) (by omega)) HNE.out).mono ?_);rintro e w4 ⟨rfl,h4,f4⟩;obtain⟨⟨d3x4,d4x4⟩,dzx4⟩:=h4.facts;have H4:=Lib.hid h4;have F4:=Lib.hid f4;clear h4 f4))
     go_roundw
     case rel=>
      obtain⟨n',hn',hl'⟩:=HLG.out
      exact⟨n',_,_,H4.out,HF.out.trans (F1.out.trans (F2.out.trans F4.out)),HZL.out.trans hl',hn',Nat.le_trans HPM.out.2 HMM.out⟩
     case measure=>
      have q1:=HAT.out
      have q2:=at_len H4.out.src
      have q3:=HPM.out.1
      have q4:=H4.out.src.len
      try dsimp only at q3
      omega
theorem part_bs {t:L} (hx:x.l=92::t):Wd.part br (r,x)=(Wd.put 2 (Wd.next ⟨t,x.e⟩).1 r,(Wd.next ⟨t,x.e⟩).2):=by
 unfold Wd.part
 simp only[next_cons hx,if_true]
theorem part_sq {t:L} (hx:x.l=39::t):Wd.part br (r,x)=(Wd.put 2 (Wd.upTo 39 ⟨t,x.e⟩).1 r,(Wd.upTo 39 ⟨t,x.e⟩).2):=by
 unfold Wd.part
 simp only[next_cons hx]
 simp
theorem part_dq {t:L} (hx:x.l=34::t):Wd.part br (r,x)=Wd.double br (r,⟨t,x.e⟩):=by
 unfold Wd.part
 simp only[next_cons hx]
 simp
theorem part_dl {t:L} (hx:x.l=36::t):Wd.part br (r,x)=Wd.dollar br 1 (r,⟨t,x.e⟩):=by
 unfold Wd.part
 simp only[next_cons hx]
 simp
theorem part_bq {t:L} (hx:x.l=96::t):Wd.part br (r,x)=(r,Wd.fail 11 ⟨t,x.e⟩):=by
 unfold Wd.part
 simp only[next_cons hx]
 simp
theorem part_el {c:UInt8} {t:L} (hx:x.l=c::t) (h1:c≠92) (h2:c≠39) (h3:c≠34) (h4:c≠36) (h5:c≠96):Wd.part br (r,x)=(Wd.put 1 [c] r,⟨t,x.e⟩):=by
 unfold Wd.part
 simp only[next_cons hx]
 simp[h1,h2,h3,h4,h5]
theorem part_v (hb:BrOk dp br) (h:RM W X g s raw dp r x) (hm:Wd.m (r,x)≤400000) (hne:x.l≠[]):Calls Tryz.prog 54 #[.pointer (some ⟨g,0,none⟩)] W (Rt W X g s raw dp (Wd.part br (r,x)).1 (Wd.part br (r,x)).2 (.tuple #[])):=by
 obtain⟨c,t,hx⟩:∃ c t,x.l=c::t:=by
  cases hl:x.l with
  | nil=>exact absurd hl hne
  | cons c t=>exact⟨c,t,rfl⟩
 obtain⟨⟨d3,d4⟩,dz⟩:=h.facts
 have HN:=Lib.hid (next_eq h hx)
 have HBR:=Lib.hid hb
 have HLN:=Lib.hid (size_m hm)
 have HM1:=Lib.hid (show Wd.m (r,⟨t,x.e⟩)≤500000 by unfold Wd.m at hm⊢;rw[hx] at hm;simp at hm⊢;omega)
 have HTL:=Lib.hid (show t.length≤400000 by unfold Wd.m at hm;rw[hx] at hm;simp at hm;omega)
 have h92:=tok_eq c 92
 have h39:=tok_eq c 39
 have h34:=tok_eq c 34
 have h36:=tok_eq c 36
 have h96:=tok_eq c 96
 clear h hb hm hne
 by_cases e92:c=92
 ·rw[decide_eq_true e92] at h92
  rw[part_bs (by rw[hx,e92])]
  have hn2:=fun (W1:World) (h1:RM W1 X g s raw dp r ⟨t,x.e⟩)=>next_r h1
  have hbl:=(Wd.next_len ⟨t,x.e⟩).2.1
  obtain⟨b,hbd⟩:∃ b,b=(Wd.next ⟨t,x.e⟩).1:=⟨_,rfl⟩
  obtain⟨y,hyd⟩:∃ y,y=(Wd.next ⟨t,x.e⟩).2:=⟨_,rfl⟩
  rw[←hbd,←hyd] at hn2⊢
  rw[←hbd] at hbl
  have HN2:=Lib.hid hn2
  have HBL:=Lib.hid (show b.length≤400001 by omega)
  clear hbd hyd hn2 hbl hx e92 h36 h96 h39 h34
  go_enter Tryz.func54,Tryz.ntmps54
  go_wp2_with (first
   |(go_at_call 81;(with_reducible refine(HN.out).mono ?_);rintro e w1 ⟨rfl,h1,f1⟩;obtain⟨⟨d3x1,d4x1⟩,dzx1⟩:=h1.facts;have H1:=Lib.hid h1;have F1:=Lib.hid f1;clear h1 f1))
  obtain⟨C0,hC0⟩:∃ C0:Nat→Value→World→Prop,C0=fun j u w=>(j=0∧w=w1.drew)∨(j=1∧Rt w1.drew X g s raw dp r y (.string (mkS b)) (.returned (.string (mkS b))) w)∨(j=2∧RM w X g s raw dp (Wd.put 2 b r) y∧Fr X w1.drew w):=⟨_,rfl⟩
  have HA:=Lib.hid (show ∀ j u w,C0 j u w→j≤0→w=w1.drew from fun j u w hc hj=>by
   rw[hC0] at hc
   rcases hc with⟨_,e⟩ | ⟨e,_⟩ | ⟨e,_⟩
   ·exact e
   ·omega
   ·omega)
  have HC0:=Lib.hid (show C0 0 undef w1.drew by rw[hC0];exact .inl ⟨rfl,rfl⟩)
  have HQ:=Lib.hid (show w1.drew.cell? ⟨g,3,none⟩=some (.pointer (some ⟨s,0,none⟩)) from d3x1)
  have HNX:=Lib.hid (HN2.out w1.drew (H1.out.later (Later.drew w1)))
  have HC1:=Lib.hid (show ∀ u w,Rt w1.drew X g s raw dp r y (.string (mkS b)) (.returned (.string (mkS b))) w→C0 1 u w from fun u w h=>by rw[hC0];exact .inr (.inl ⟨rfl,h⟩))
  have HC2:=Lib.hid (show ∀ u w,RM w X g s raw dp (Wd.put 2 b r) y→Fr X w1.drew w→C0 2 u w from fun u w h h2=>by rw[hC0];exact .inr (.inr ⟨rfl,h,h2⟩))
  have HB1:=Lib.hid (show ∀ u w,C0 1 u w→RM w X g s raw dp r y∧Fr X w1.drew w from fun u w hc=>by
   rw[hC0] at hc
   rcases hc with⟨e,_⟩ | ⟨_,e⟩ | ⟨e,_⟩
   ·omega
   ·exact⟨e.2.1,e.2.2⟩
   ·omega)
  have HB2:=Lib.hid (show ∀ u w,C0 2 u w→RM w X g s raw dp (Wd.put 2 b r) y∧Fr X w1.drew w from fun u w hc=>by
   rw[hC0] at hc
   rcases hc with⟨e,_⟩ | ⟨e,_⟩ | ⟨_,e⟩
   ·omega
   ·omega
   ·exact e)
  clear hC0
  refine wp_region_seq (by kernel_rfl) [7,8] (C0) [some (.pointer (some ⟨g,0,none⟩)),some (.pointer (some ⟨g,0,none⟩)),some (.pointer (some ⟨g,0,none⟩)),some (.pointer (some ⟨g,0,none⟩)),some (.pointer (some ⟨g,0,none⟩)),some (.pointer (some ⟨g,3,none⟩)),some (.pointer (some ⟨s,0,none⟩)),some (.string (mkS b)),some (.tuple #[])] (by decide) (by decide) (by kernel_rfl) (by kernel_rfl) (HC0.out) ?_ ?_
  ·refine⟨?_,?_,?_,?_,?_,?_,?_,?_,?_,trivial⟩
   ·
    refine OwesS.q rfl fun a w j u hC hb hs=>⟨rfl,?_⟩
    have e0:a.tmps.getD 0 undef=.pointer (some ⟨g,0,none⟩):=hs.free 0 rfl
    refine ValWp.pure (v:=.pointer (some ⟨g,0,none⟩)) (fun K' hK'=>?_) ⟨rfl,rfl⟩
    simp only[ValWp,execOp,Act.eval,e0]
    go_simp
    all_goals exact hK'
   ·
    refine OwesS.q rfl fun a w j u hC hb hs=>⟨rfl,?_⟩
    have e16:a.tmps.getD 16 undef=.pointer (some ⟨g,0,none⟩):=hs.dep 0 _ rfl rfl
    refine ValWp.pure (v:=.pointer (some ⟨g,0,none⟩)) (fun K' hK'=>?_) ⟨rfl,rfl⟩
    simp only[ValWp,execOp,Act.eval,e16]
    go_simp
    all_goals exact hK'
   ·
    refine OwesS.q rfl fun a w j u hC hb hs=>⟨rfl,?_⟩
    have e17:a.tmps.getD 17 undef=.pointer (some ⟨g,0,none⟩):=hs.dep 1 _ rfl rfl
    refine ValWp.pure (v:=.pointer (some ⟨g,0,none⟩)) (fun K' hK'=>?_) ⟨rfl,rfl⟩
    simp only[ValWp,execOp,Act.eval,e17]
    go_simp
    all_goals exact hK'
   ·
    refine OwesS.q rfl fun a w j u hC hb hs=>⟨rfl,?_⟩
    have e0:a.tmps.getD 0 undef=.pointer (some ⟨g,0,none⟩):=hs.free 0 rfl
    refine ValWp.pure (v:=.pointer (some ⟨g,0,none⟩)) (fun K' hK'=>?_) ⟨rfl,rfl⟩
    simp only[ValWp,execOp,Act.eval,e0]
    go_simp
    all_goals exact hK'
   ·
    refine OwesS.q rfl fun a w j u hC hb hs=>⟨rfl,?_⟩
    have e19:a.tmps.getD 19 undef=.pointer (some ⟨g,0,none⟩):=hs.dep 3 _ rfl rfl
    refine ValWp.pure (v:=.pointer (some ⟨g,0,none⟩)) (fun K' hK'=>?_) ⟨rfl,rfl⟩
    simp only[ValWp,execOp,Act.eval,e19]
    go_simp
    all_goals exact hK'
   ·
    refine OwesS.q rfl fun a w j u hC hb hs=>⟨rfl,?_⟩
    have e20:a.tmps.getD 20 undef=.pointer (some ⟨g,0,none⟩):=hs.dep 4 _ rfl rfl
    refine ValWp.pure (v:=.pointer (some ⟨g,3,none⟩)) (fun K' hK'=>?_) ⟨rfl,rfl⟩
    simp only[ValWp,execOp,Act.eval,e20]
    go_simp
    all_goals exact hK'
   ·
    refine OwesS.q rfl fun a w j u hC hb hs=>⟨rfl,?_⟩
    have e21:a.tmps.getD 21 undef=.pointer (some ⟨g,3,none⟩):=hs.dep 5 _ rfl rfl
    have hw:=HA.out j u w hC (hb 0 7 rfl rfl)
    subst hw
    have q0:=HQ.out
    refine ValWp.pure (v:=.pointer (some ⟨s,0,none⟩)) (fun K' hK'=>?_) ⟨rfl,rfl⟩
    simp only[ValWp,execOp,Act.eval,e21]
    go_simp
    all_goals exact hK'
   ·
    refine OwesS.w rfl fun a w u hC hl hs=>⟨rfl,fun K hK=>?_⟩
    have e22:a.tmps.getD 22 undef=.pointer (some ⟨s,0,none⟩):=hs.dep 6 _ rfl rfl
    have hw:=HA.out 0 u w hC (Nat.le_refl _)
    subst hw
    refine wp_callN 81 _ _ #[.pointer (some ⟨s,0,none⟩)] rfl rfl (by simp only[List.map_toArray,List.map_cons,List.map_nil,Act.eval,e22]) (entO Tryz.func81 rfl rfl) ?_
    refine HNX.out.mono ?_
    rintro e w9 ⟨rfl,h9,f9⟩
    exact⟨_,rfl,hK _ w9 rfl (HC1.out _ w9 ⟨rfl,h9,f9⟩)⟩
   ·
    refine OwesS.w rfl fun a w u hC hl hs=>⟨rfl,fun K hK=>?_⟩
    have e18:a.tmps.getD 18 undef=.pointer (some ⟨g,0,none⟩):=hs.dep 2 _ rfl rfl
    have e23:a.tmps.getD 23 undef=.string (mkS b):=hs.dep 7 _ rfl rfl
    obtain⟨h8,f8⟩:=HB1.out u w hC
    refine wp_callN 82 _ _ #[.pointer (some ⟨g,0,none⟩),.int .i64 2,.string (mkS b)] rfl rfl (by simp only[List.map_toArray,List.map_cons,List.map_nil,Act.eval,e18,e23]) (entO Tryz.func82 rfl rfl) ?_
    refine(put_r h8 2 2 rfl (by omega) b _ rfl (by have:=HLN.out;have:=HBL.out;omega)).mono ?_
    rintro e w9 ⟨rfl,h9,f9⟩
    exact⟨_,rfl,hK _ w9 rfl (HC2.out _ w9 h9 (f8.trans f9))⟩
  ·intro a w u hC hl hd hsz hfree hs
   obtain⟨z0,u1,u2,u3,u4,u5,u6,u7,u8,u9,u10,u11,u12,u13,u14,u15,u16,u17,u18,u19,u20,u21,u22,u23,u24,u25,u26,u27,u28,u29,u30,u31,u32,u33,u34,u35,u36,u37,u38,u39,u40,u41,u42,u43,u44,u45,u46,u47,u48,u49,u50,hal⟩:=lets a 51 0
   obtain rfl:=hal.on (v:=.pointer (some ⟨g,0,none⟩)) 0 (hfree 0 rfl) rfl
   have hlit:=fun h=>act_lit hd h hal
   rw[hlit hsz]
   clear hlit hal hd hsz hfree hs
   obtain⟨h9,f9⟩:=HB2.out u w hC
   go_wp2
   go_end0
   exact⟨rfl,h9,F1.out.trans ((Fr.later (Later.drew w1)).trans f9)⟩
 ·rw[decide_eq_false e92] at h92
  by_cases e39:c=39
  ·rw[decide_eq_true e39] at h39
   rw[part_sq (by rw[hx,e39])]
   have hn2:=fun (W1:World) (h1:RM W1 X g s raw dp r ⟨t,x.e⟩)=>upTo_r h1 39 ⟨#[39]⟩ rfl
   have hbl:=Wd.upTo_len 39 ⟨t,x.e⟩
   obtain⟨b,hbd⟩:∃ b,b=(Wd.upTo 39 ⟨t,x.e⟩).1:=⟨_,rfl⟩
   obtain⟨y,hyd⟩:∃ y,y=(Wd.upTo 39 ⟨t,x.e⟩).2:=⟨_,rfl⟩
   rw[←hbd,←hyd] at hn2⊢
   rw[←hbd] at hbl
   have HN2:=Lib.hid hn2
   have HBL:=Lib.hid (show b.length≤400001 by have:=HTL.out;dsimp only at hbl;omega)
   clear hbd hyd hn2 hbl hx e92 e39 h36 h96 h34
   go_enter Tryz.func54,Tryz.ntmps54
   go_wp2_with (first
    |(go_at_call 81;(with_reducible refine(HN.out).mono ?_);rintro e w1 ⟨rfl,h1,f1⟩;obtain⟨⟨d3x1,d4x1⟩,dzx1⟩:=h1.facts;have H1:=Lib.hid h1;have F1:=Lib.hid f1;clear h1 f1))
   obtain⟨C0,hC0⟩:∃ C0:Nat→Value→World→Prop,C0=fun j u w=>(j=0∧w=w1.drew)∨(j=1∧Rt w1.drew X g s raw dp r y (.string (mkS b)) (.returned (.string (mkS b))) w)∨(j=2∧RM w X g s raw dp (Wd.put 2 b r) y∧Fr X w1.drew w):=⟨_,rfl⟩
   have HA:=Lib.hid (show ∀ j u w,C0 j u w→j≤0→w=w1.drew from fun j u w hc hj=>by
    rw[hC0] at hc
    rcases hc with⟨_,e⟩ | ⟨e,_⟩ | ⟨e,_⟩
    ·exact e
    ·omega
    ·omega)
   have HC0:=Lib.hid (show C0 0 undef w1.drew by rw[hC0];exact .inl ⟨rfl,rfl⟩)
   have HQ:=Lib.hid (show w1.drew.cell? ⟨g,3,none⟩=some (.pointer (some ⟨s,0,none⟩)) from d3x1)
   have HNX:=Lib.hid (HN2.out w1.drew (H1.out.later (Later.drew w1)))
   have HC1:=Lib.hid (show ∀ u w,Rt w1.drew X g s raw dp r y (.string (mkS b)) (.returned (.string (mkS b))) w→C0 1 u w from fun u w h=>by rw[hC0];exact .inr (.inl ⟨rfl,h⟩))
   have HC2:=Lib.hid (show ∀ u w,RM w X g s raw dp (Wd.put 2 b r) y→Fr X w1.drew w→C0 2 u w from fun u w h h2=>by rw[hC0];exact .inr (.inr ⟨rfl,h,h2⟩))
   have HB1:=Lib.hid (show ∀ u w,C0 1 u w→RM w X g s raw dp r y∧Fr X w1.drew w from fun u w hc=>by
    rw[hC0] at hc
    rcases hc with⟨e,_⟩ | ⟨_,e⟩ | ⟨e,_⟩
    ·omega
    ·exact⟨e.2.1,e.2.2⟩
    ·omega)
   have HB2:=Lib.hid (show ∀ u w,C0 2 u w→RM w X g s raw dp (Wd.put 2 b r) y∧Fr X w1.drew w from fun u w hc=>by
    rw[hC0] at hc
    rcases hc with⟨e,_⟩ | ⟨e,_⟩ | ⟨_,e⟩
    ·omega
    ·omega
    ·exact e)
   clear hC0
   refine wp_region_seq (by kernel_rfl) [7,8] (C0) [some (.pointer (some ⟨g,0,none⟩)),some (.pointer (some ⟨g,0,none⟩)),some (.pointer (some ⟨g,0,none⟩)),some (.pointer (some ⟨g,0,none⟩)),some (.pointer (some ⟨g,0,none⟩)),some (.pointer (some ⟨g,3,none⟩)),some (.pointer (some ⟨s,0,none⟩)),some (.string (mkS b)),some (.tuple #[])] (by decide) (by decide) (by kernel_rfl) (by kernel_rfl) (HC0.out) ?_ ?_
   ·refine⟨?_,?_,?_,?_,?_,?_,?_,?_,?_,trivial⟩
    ·
     refine OwesS.q rfl fun a w j u hC hb hs=>⟨rfl,?_⟩
     have e0:a.tmps.getD 0 undef=.pointer (some ⟨g,0,none⟩):=hs.free 0 rfl
     refine ValWp.pure (v:=.pointer (some ⟨g,0,none⟩)) (fun K' hK'=>?_) ⟨rfl,rfl⟩
     simp only[ValWp,execOp,Act.eval,e0]
     go_simp
     all_goals exact hK'
    ·
     refine OwesS.q rfl fun a w j u hC hb hs=>⟨rfl,?_⟩
     have e27:a.tmps.getD 27 undef=.pointer (some ⟨g,0,none⟩):=hs.dep 0 _ rfl rfl
     refine ValWp.pure (v:=.pointer (some ⟨g,0,none⟩)) (fun K' hK'=>?_) ⟨rfl,rfl⟩
     simp only[ValWp,execOp,Act.eval,e27]
     go_simp
     all_goals exact hK'
    ·
     refine OwesS.q rfl fun a w j u hC hb hs=>⟨rfl,?_⟩
     have e28:a.tmps.getD 28 undef=.pointer (some ⟨g,0,none⟩):=hs.dep 1 _ rfl rfl
     refine ValWp.pure (v:=.pointer (some ⟨g,0,none⟩)) (fun K' hK'=>?_) ⟨rfl,rfl⟩
     simp only[ValWp,execOp,Act.eval,e28]
     go_simp
     all_goals exact hK'
    ·
     refine OwesS.q rfl fun a w j u hC hb hs=>⟨rfl,?_⟩
     have e0:a.tmps.getD 0 undef=.pointer (some ⟨g,0,none⟩):=hs.free 0 rfl
     refine ValWp.pure (v:=.pointer (some ⟨g,0,none⟩)) (fun K' hK'=>?_) ⟨rfl,rfl⟩
     simp only[ValWp,execOp,Act.eval,e0]
     go_simp
     all_goals exact hK'
    ·
     refine OwesS.q rfl fun a w j u hC hb hs=>⟨rfl,?_⟩
     have e30:a.tmps.getD 30 undef=.pointer (some ⟨g,0,none⟩):=hs.dep 3 _ rfl rfl
     refine ValWp.pure (v:=.pointer (some ⟨g,0,none⟩)) (fun K' hK'=>?_) ⟨rfl,rfl⟩
     simp only[ValWp,execOp,Act.eval,e30]
     go_simp
     all_goals exact hK'
    ·
     refine OwesS.q rfl fun a w j u hC hb hs=>⟨rfl,?_⟩
     have e31:a.tmps.getD 31 undef=.pointer (some ⟨g,0,none⟩):=hs.dep 4 _ rfl rfl
     refine ValWp.pure (v:=.pointer (some ⟨g,3,none⟩)) (fun K' hK'=>?_) ⟨rfl,rfl⟩
     simp only[ValWp,execOp,Act.eval,e31]
     go_simp
     all_goals exact hK'
    ·
     refine OwesS.q rfl fun a w j u hC hb hs=>⟨rfl,?_⟩
     have e32:a.tmps.getD 32 undef=.pointer (some ⟨g,3,none⟩):=hs.dep 5 _ rfl rfl
     have hw:=HA.out j u w hC (hb 0 7 rfl rfl)
     subst hw
     have q0:=HQ.out
     refine ValWp.pure (v:=.pointer (some ⟨s,0,none⟩)) (fun K' hK'=>?_) ⟨rfl,rfl⟩
     simp only[ValWp,execOp,Act.eval,e32]
     go_simp
     all_goals exact hK'
    ·
     refine OwesS.w rfl fun a w u hC hl hs=>⟨rfl,fun K hK=>?_⟩
     have e33:a.tmps.getD 33 undef=.pointer (some ⟨s,0,none⟩):=hs.dep 6 _ rfl rfl
     have hw:=HA.out 0 u w hC (Nat.le_refl _)
     subst hw
     refine wp_callN 83 _ _ #[.pointer (some ⟨s,0,none⟩),.string ⟨#[39]⟩] rfl rfl (by simp only[List.map_toArray,List.map_cons,List.map_nil,Act.eval,e33]) (entO Tryz.func83 rfl rfl) ?_
     refine HNX.out.mono ?_
     rintro e w9 ⟨rfl,h9,f9⟩
     exact⟨_,rfl,hK _ w9 rfl (HC1.out _ w9 ⟨rfl,h9,f9⟩)⟩
    ·
     refine OwesS.w rfl fun a w u hC hl hs=>⟨rfl,fun K hK=>?_⟩
     have e29:a.tmps.getD 29 undef=.pointer (some ⟨g,0,none⟩):=hs.dep 2 _ rfl rfl
     have e34:a.tmps.getD 34 undef=.string (mkS b):=hs.dep 7 _ rfl rfl
     obtain⟨h8,f8⟩:=HB1.out u w hC
     refine wp_callN 82 _ _ #[.pointer (some ⟨g,0,none⟩),.int .i64 2,.string (mkS b)] rfl rfl (by simp only[List.map_toArray,List.map_cons,List.map_nil,Act.eval,e29,e34]) (entO Tryz.func82 rfl rfl) ?_
     refine(put_r h8 2 2 rfl (by omega) b _ rfl (by have:=HLN.out;have:=HBL.out;omega)).mono ?_
     rintro e w9 ⟨rfl,h9,f9⟩
     exact⟨_,rfl,hK _ w9 rfl (HC2.out _ w9 h9 (f8.trans f9))⟩
   ·intro a w u hC hl hd hsz hfree hs
    obtain⟨z0,u1,u2,u3,u4,u5,u6,u7,u8,u9,u10,u11,u12,u13,u14,u15,u16,u17,u18,u19,u20,u21,u22,u23,u24,u25,u26,u27,u28,u29,u30,u31,u32,u33,u34,u35,u36,u37,u38,u39,u40,u41,u42,u43,u44,u45,u46,u47,u48,u49,u50,hal⟩:=lets a 51 0
    obtain rfl:=hal.on (v:=.pointer (some ⟨g,0,none⟩)) 0 (hfree 0 rfl) rfl
    have hlit:=fun h=>act_lit hd h hal
    rw[hlit hsz]
    clear hlit hal hd hsz hfree hs
    obtain⟨h9,f9⟩:=HB2.out u w hC
    go_wp2
    go_end0
    exact⟨rfl,h9,F1.out.trans ((Fr.later (Later.drew w1)).trans f9)⟩
  ·rw[decide_eq_false e39] at h39
   by_cases e34:c=34
   ·rw[decide_eq_true e34] at h34
    rw[part_dq (by rw[hx,e34])]
    clear hx e92 e39 e34 h36 h96
    go_enter Tryz.func54,Tryz.ntmps54
    go_wp2_with (first
     |(go_at_call 81;(with_reducible refine(HN.out).mono ?_);rintro e w1 ⟨rfl,h1,f1⟩;obtain⟨⟨d3x1,d4x1⟩,dzx1⟩:=h1.facts;have H1:=Lib.hid h1;have F1:=Lib.hid f1;clear h1 f1)
     |(go_at_call 84;(with_reducible refine(double_v HBR.out H1.out HM1.out).mono ?_);rintro e w2 ⟨rfl,h2,f2⟩;obtain⟨⟨d3x2,d4x2⟩,dzx2⟩:=h2.facts;have H2:=Lib.hid h2;have F2:=Lib.hid f2;clear h2 f2))
    go_end0
    exact⟨rfl,H2.out,F1.out.trans F2.out⟩
   ·rw[decide_eq_false e34] at h34
    by_cases e36:c=36
    ·rw[decide_eq_true e36] at h36
     rw[part_dl (by rw[hx,e36])]
     clear hx e92 e39 e34 e36 h96
     go_enter Tryz.func54,Tryz.ntmps54
     go_wp2_with (first
      |(go_at_call 81;(with_reducible refine(HN.out).mono ?_);rintro e w1 ⟨rfl,h1,f1⟩;obtain⟨⟨d3x1,d4x1⟩,dzx1⟩:=h1.facts;have H1:=Lib.hid h1;have F1:=Lib.hid f1;clear h1 f1)
      |(go_at_call 85;(with_reducible refine(dollar_v HBR.out H1.out 1 1 rfl (by omega) (Nat.le_trans HLN.out (by omega))).mono ?_);rintro e w2 ⟨rfl,h2,f2⟩;obtain⟨⟨d3x2,d4x2⟩,dzx2⟩:=h2.facts;have H2:=Lib.hid h2;have F2:=Lib.hid f2;clear h2 f2))
     go_end0
     exact⟨rfl,H2.out,F1.out.trans F2.out⟩
    ·rw[decide_eq_false e36] at h36
     by_cases e96:c=96
     ·rw[decide_eq_true e96] at h96
      rw[part_bq (by rw[hx,e96])]
      clear hx e92 e39 e34 e36 e96
      go_enter Tryz.func54,Tryz.ntmps54
      go_wp2_with (first
       |(go_at_call 81;(with_reducible refine(HN.out).mono ?_);rintro e w1 ⟨rfl,h1,f1⟩;obtain⟨⟨d3x1,d4x1⟩,dzx1⟩:=h1.facts;have H1:=Lib.hid h1;have F1:=Lib.hid f1;clear h1 f1)
       |(go_at_call 79;(with_reducible refine(fail_r H1.out).mono ?_);rintro e w2 ⟨rfl,h2,f2⟩;obtain⟨⟨d3x2,d4x2⟩,dzx2⟩:=h2.facts;have H2:=Lib.hid h2;have F2:=Lib.hid f2;clear h2 f2))
      go_end0
      exact⟨rfl,H2.out,F1.out.trans F2.out⟩
     ·rw[decide_eq_false e96] at h96
      rw[part_el hx e92 e39 e34 e36 e96]
      clear hx e92 e39 e34 e36 e96
      go_enter Tryz.func54,Tryz.ntmps54
      go_wp2_with (first
       |(go_at_call 81;(with_reducible refine(HN.out).mono ?_);rintro e w1 ⟨rfl,h1,f1⟩;obtain⟨⟨d3x1,d4x1⟩,dzx1⟩:=h1.facts;have H1:=Lib.hid h1;have F1:=Lib.hid f1;clear h1 f1)
       |(go_at_call 82;(with_reducible refine(put_r H1.out 1 1 rfl (by omega) [c] _ rfl (by have:=HLN.out;simp;omega)).mono ?_);rintro e w2 ⟨rfl,h2,f2⟩;obtain⟨⟨d3x2,d4x2⟩,dzx2⟩:=h2.facts;have H2:=Lib.hid h2;have F2:=Lib.hid f2;clear h2 f2))
      go_end0
      exact⟨rfl,H2.out,F1.out.trans F2.out⟩
end
end Ws
end Go.Proofs.YtipdgmjplnibeaaGreatDoor
