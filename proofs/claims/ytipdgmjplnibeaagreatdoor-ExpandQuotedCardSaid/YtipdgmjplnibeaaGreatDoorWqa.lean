import Derived.Test.YtipdgmjplnibeaaGreatDoorWq
set_option maxRecDepth 100000
set_option maxHeartbeats 3200000
namespace Go.Proofs.YtipdgmjplnibeaaGreatDoor
open Go.RowKit Go.Maps
set_option maxRecDepth 100000
theorem wpList_index {P:Program} {ops:Array Oper} {rest:List Oper} {o:Oper} {a:Act} {w:World} {Q:Exit→Act→World→Prop} (hgd:o.guard=none) {t:TypeId} (x i:Operand) (ho:o.op=.index t x i) {v iv:Value} (hx:a.eval x=v) (hi:a.eval i=iv) (u:Value) (hrun:(Instr.index t v iv).run P w=.ok u w)
  (h:wpList P ops Q rest (a.put o.dst u) w):wpList P ops Q (o::rest) a w:=by
 refine wpList_plain hgd fun K hK=>?_
 unfold Oper.wp execOp
 simp only[ho,hx,hi,Sem.run_bind,hrun,Result.andThen_ok,Sem.run_pure,Oper.upon_value]
 exact hK _ _ h
namespace Ws
section
variable {W W':World} {X T:Nat→Prop} {g s dp:Nat} {raw:L} {r:Wd.R} {x x':Wd.S}
theorem ops_index (k:Nat) (hk:k<12) (w:World):(Instr.index 242 (.agg opsV) (.int .i64 (k:Int))).run Tryz.prog w=.ok (.string (mkS (Wd.ops.getD k []))) w:=by
 have hkk:k=0∨k=1∨k=2∨k=3∨k=4∨k=5∨k=6∨k=7∨k=8∨k=9∨k=10∨k=11:=by omega
 clear hk
 rcases hkk with rfl | rfl | rfl | rfl | rfl | rfl | rfl | rfl | rfl | rfl | rfl | rfl
 all_goals rfl
theorem op_v (h:RM W X g s raw dp r x):Calls Tryz.prog 176 #[.pointer (some ⟨g,0,none⟩)] W (Rt W X g s raw dp r (Wd.op x).2 (.string (mkS (Wd.op x).1))):=by
 have HO:=Lib.hid (ops_load h.op)
 have H:=Lib.hid h
 clear h
 go_enter Tryz.func176,Tryz.ntmps176
 go_wp2_with (refine wpList_loadRun rfl 242 (.global 4) rfl _ _ rfl HO.out ?_)
 go_loopw [6] (fun i wr=>∃ k:Nat,k≤12∧i=.int .i64 (k:Int)∧RM wr X g s raw dp r x∧Fr X W wr∧∀ j,j<k→Wd.ahead (Wd.ops.getD j []) x=false) (fun i _=>12-(intOf i).toNat)
 case atStart=>exact⟨0,by omega,rfl,H.out,Fr.refl _ _,fun j hj=>by omega⟩
 case round=>
  obtain⟨k,hk,rfl,hm,hf,hj⟩:=hrel
  have HM:=Lib.hid hm
  have HF:=Lib.hid hf
  have HJ:=Lib.hid hj
  obtain⟨⟨d3,d4⟩,dz⟩:=hm.facts
  clear hm hf hj
  by_cases hk12:k<12
  ·have hk1:(k:Int)<12:=by omega
   have HIX:=Lib.hid (ops_index k hk12)
   obtain⟨o,ho⟩:∃ o,o=Wd.ops.getD k []:=⟨_,rfl⟩
   rw[←ho] at HIX
   have HOO:=Lib.hid ho
   cases ha:Wd.ahead o x with
   | true=>
    have HA:=Lib.hid ha
    have HFS:=Lib.hid (find_step hk12 (by rw[←ho];exact ha) HJ.out)
    rw[←ho] at HFS
    clear ha ho hk12
    go_wp2_with (first
     |(refine wpList_index rfl (.tmp 5) (.tmp 6) rfl rfl rfl (.string (mkS o)) (HIX.out _) ?_)
     |(go_at_call 78;(with_reducible refine(take_t HM.out o _ rfl HA.out).mono ?_);rintro e w1 ⟨rfl,h1,f1⟩;obtain⟨⟨d3x1,d4x1⟩,dzx1⟩:=h1.facts;have H1:=Lib.hid h1;have F1:=Lib.hid f1;clear h1 f1))
    go_ret
    rw[HFS.out]
    exact⟨rfl,H1.out,HF.out.trans F1.out⟩
   | false=>
    have HA:=Lib.hid ha
    clear ha ho
    go_wp2_with (first
     |(refine wpList_index rfl (.tmp 5) (.tmp 6) rfl rfl rfl (.string (mkS o)) (HIX.out _) ?_)
     |(go_at_call 78;(with_reducible refine(take_f HM.out o _ rfl HA.out).mono ?_);rintro e w1 ⟨rfl,h1,f1⟩;obtain⟨⟨d3x1,d4x1⟩,dzx1⟩:=h1.facts;have H1:=Lib.hid h1;have F1:=Lib.hid f1;clear h1 f1))
    go_roundw
    case rel=>
     refine⟨k+1,by omega,by go_num,H1.out,HF.out.trans F1.out,fun j hj=>?_⟩
     by_cases e:j=k
     ·rw[e,←HOO.out];exact HA.out
     ·exact HJ.out j (by omega)
    case measure=>simp[intOf];omega
  ·have hk1:¬ (k:Int)<12:=by omega
   have HFN:=Lib.hid (find_none (x:=x) fun j hj=>HJ.out j (by omega))
   clear hk12
   go_wp2_with (first
    |(go_at_call 79;(with_reducible refine(fail_r HM.out).mono ?_);rintro e w1 ⟨rfl,h1,f1⟩;obtain⟨⟨d3x1,d4x1⟩,dzx1⟩:=h1.facts;have H1:=Lib.hid h1;have F1:=Lib.hid f1;clear h1 f1))
   go_ret
   rw[HFN.out]
   exact⟨rfl,H1.out,HF.out.trans F1.out⟩
def atS (s:Nat) (w:World):Nat:=match w.cell? ⟨s,1,none⟩ with
 | some v=>(intOf v).toNat
 | none=>0
theorem at_len (h:Sr W s raw x):atS s W+x.l.length=raw.length:=by
 obtain⟨p,h⟩:=h
 unfold atS
 rw[h.facts.1.2.1]
 have:=h.at_
 simpa [intOf] using this
theorem tok_eq (c b:UInt8):((mkS [c]).toList==([b]:List UInt8))=decide (c=b):=by
 rw[toList_mkS]
 by_cases h:c=b <;> simp[h]
theorem mid_text (S:L) (p q:Nat):(mkS S).extract p q=mkS ((S.drop p).take (q-p)):=by
 apply ByteArray.ext
 simp[mkS]
theorem ahead_one (b c:UInt8) (t:L) (e:Nat):Wd.ahead [b] ⟨c::t,e⟩=(b==c):=by
 unfold Wd.ahead Lib.hasPrefix
 simp[List.isPrefixOf]
theorem rk_stop {n o:Nat} {y:Wd.S} (h:¬ (y.l≠[]∧(0<o∨Wd.ahead [41] y=false))):Wd.rk n o y=y:=by
 cases n with
 | zero=>rfl
 | succ n=>rw[Wd.rk,if_neg h]
theorem rk_go {n o:Nat} {c:UInt8} {t:L} {e:Nat} (h:0<o∨Wd.ahead [41] ⟨c::t,e⟩=false) (hn:t.length+1≤n):∃ n',t.length≤n'∧Wd.rk n o ⟨c::t,e⟩=Wd.rk n' (if c=40 then o+1 else if c=41 then o-1 else o) ⟨t,e⟩:=by
 cases n with
 | zero=>omega
 | succ n=>
  refine⟨n,by omega,?_⟩
  rw[Wd.rk,if_pos ⟨by simp,h⟩]
  show Wd.rk n (if ([c]:L)=[40] then o+1 else if ([c]:L)=[41] then o-1 else o) ⟨t,e⟩=_
  simp
theorem reckoned_v (h:RM W X g s raw dp r x):Calls Tryz.prog 150 #[.pointer (some ⟨g,0,none⟩)] W (Rt W X g s raw dp r (Wd.reckoned x).2 (.string (mkS (Wd.reckoned x).1))):=by
 obtain⟨⟨d3,d4⟩,dz⟩:=h.facts
 obtain⟨p0,hs0⟩:=h.src
 obtain⟨⟨c0,c1,c2⟩,cz⟩:=hs0.facts
 have HS0:=Lib.hid hs0
 have H:=Lib.hid h
 clear h hs0
 go_enter Tryz.func150,Tryz.ntmps150
 go_wp2
 go_loopw [4] (fun i wr=>∃ (n o:Nat) (y:Wd.S),i=.int .i64 (o:Int)∧RM wr X g s raw dp r y∧Fr X W wr∧Wd.rk x.l.length 0 x=Wd.rk n o y∧y.l.length≤n∧o+y.l.length≤raw.length) (fun _ wr=>raw.length-atS s wr)
 case atStart=>exact⟨x.l.length,0,x,rfl,H.out,Fr.refl _ _,rfl,Nat.le_refl _,by have:=H.out.src.len;omega⟩
 case round=>
  obtain⟨n,o,⟨yl,ye⟩,rfl,hm,hf,hrk,hn,ho⟩:=hrel
  obtain⟨⟨d3,d4⟩,dz⟩:=hm.facts
  have HM:=Lib.hid hm
  have HF:=Lib.hid hf
  have HRK:=Lib.hid hrk
  have HN:=Lib.hid (And.intro hn ho)
  have hsm:=hm.src.sml
  have HAT:=Lib.hid (at_len hm.src)
  clear hm hf hrk hn
  have ho0:(0:Int)≤(o:Int):=by omega
  have hsz:(mkS raw).size=raw.length:=mkS_size raw
  cases yl with
  | nil=>
   have HL:=Lib.hid (show Wd.left ⟨[],ye⟩=false from rfl)
   have HE:=Lib.hid (HRK.out.trans (rk_stop (by simp)))
   have hl:=left_r HM.out
   rw[HL.out] at hl
   have HLL:=Lib.hid hl
   clear hl ho
   go_wp2_with (first
    |(go_at_call 53;(with_reducible refine(HLL.out).mono ?_);rintro e w1 ⟨rfl,h1,f1⟩;obtain⟨⟨d3x1,d4x1⟩,dzx1⟩:=h1.facts;have H1:=Lib.hid h1;have F1:=Lib.hid f1;clear h1 f1))
   obtain⟨p1,hs1⟩:=H1.out.src
   obtain⟨⟨e0,e1,e2⟩,ez⟩:=hs1.facts
   have hq0:=HS0.out.at_
   have hq1:=hs1.at_
   have hpl:p0≤p1:=by
    have h8:=Wd.rk_len x.l.length 0 x
    rw[HE.out] at h8
    omega
   have hp0:(0:Int)≤(p0:Int):=by omega
   have hp1:(p0:Int)≤(p1:Int):=by omega
   have hp2:(p1:Int)≤((mkS raw).size:Int):=by omega
   have HTX:=Lib.hid (show (mkS raw).extract p0 p1=mkS (Wd.reckoned x).1 by
    rw[mid_text,HS0.out.cut]
    unfold Wd.reckoned
    rw[HE.out]
    refine congrArg (fun z=>mkS (x.l.take z)) ?_
    dsimp only at hq1⊢
    omega)
   have HND:=Lib.hid (show Wd.need [41,41] _=(Wd.reckoned x).2 from congrArg (Wd.need [41,41]) HE.out.symm)
   clear hq0 hq1 hpl hs1 hsz
   go_quiet (fail)
   go_wp2_with (first
    |(go_at_call 51;(with_reducible refine(need_r (H1.out.drewN _) [41,41] ⟨#[41,41]⟩ rfl).mono ?_);rintro e w9 ⟨rfl,h9,f9⟩;have H9:=Lib.hid h9;have F9:=Lib.hid f9;clear h9 f9))
   go_ret
   refine⟨by rw[←HTX.out];rfl,?_,HF.out.trans (F1.out.trans (((Fr.later (later_drewN _ _)).trans F9.out)))⟩
   rw[←HND.out]
   exact H9.out
  | cons c t=>
   have hl:=left_r HM.out
   rw[show Wd.left ⟨c::t,ye⟩=true from rfl] at hl
   have HLL:=Lib.hid hl
   clear hl
   by_cases hop:0<o
   ·have hop1:(0:Int)<(o:Int):=by omega
    have HGO:=Lib.hid (rk_go (c:=c) (t:=t) (e:=ye) (o:=o) (n:=n) (.inl hop) HN.out.1)
    have hc1:=tok_eq c 40
    have hc2:=tok_eq c 41
    by_cases h40:c=40
    ·rw[decide_eq_true h40] at hc1
     have HH40:=Lib.hid h40
     clear h40
     have hw:wrap64 (((o:Int):Int)+1)=((o:Int):Int)+1:=w64 _ (by omega)
     clear hc2
     go_wp2_with (first
      |(go_at_call 53;(with_reducible refine(HLL.out).mono ?_);rintro e w1 ⟨rfl,h1,f1⟩;obtain⟨⟨d3x1,d4x1⟩,dzx1⟩:=h1.facts;have H1:=Lib.hid h1;have F1:=Lib.hid f1;clear h1 f1)
      |(go_at_call 81;have h5:=next_r H1.out;rw[show Wd.next ⟨c::t,ye⟩=([c],⟨t,ye⟩) from rfl] at h5;(with_reducible refine h5.mono ?_);clear h5;rintro e w3 ⟨rfl,h3,f3⟩;have H3:=Lib.hid h3;have F3:=Lib.hid f3;have AT3:=Lib.hid (at_len h3.src);clear h3 f3))
     go_roundw
     case rel=>
      obtain⟨n',hn',hr'⟩:=HGO.out
      rw[if_pos HH40.out] at hr'
      exact⟨n',o+1,⟨t,ye⟩,by first | rfl | go_num,H3.out,HF.out.trans (F1.out.trans (F3.out)),HRK.out.trans hr',hn',by have:=HN.out.2;simp at this⊢;omega⟩
     case measure=>
      have q1:=HAT.out
      have q2:=AT3.out
      simp only[List.length_cons] at q1
      omega
    ·rw[decide_eq_false h40] at hc1
     by_cases h41:c=41
     ·rw[decide_eq_true h41] at hc2
      have HH41:=Lib.hid h41
      clear h41
      have hw:wrap64 (((o:Int):Int)-1)=((o-1:Nat):Int):=by rw[w64 _ (by omega)];omega
      have HH40:=Lib.hid h40
      clear h40
      go_wp2_with (first
       |(go_at_call 53;(with_reducible refine(HLL.out).mono ?_);rintro e w1 ⟨rfl,h1,f1⟩;obtain⟨⟨d3x1,d4x1⟩,dzx1⟩:=h1.facts;have H1:=Lib.hid h1;have F1:=Lib.hid f1;clear h1 f1)
       |(go_at_call 81;have h5:=next_r H1.out;rw[show Wd.next ⟨c::t,ye⟩=([c],⟨t,ye⟩) from rfl] at h5;(with_reducible refine h5.mono ?_);clear h5;rintro e w3 ⟨rfl,h3,f3⟩;have H3:=Lib.hid h3;have F3:=Lib.hid f3;have AT3:=Lib.hid (at_len h3.src);clear h3 f3))
      go_roundw
      case rel=>
       obtain⟨n',hn',hr'⟩:=HGO.out
       rw[if_neg HH40.out,if_pos HH41.out] at hr'
       exact⟨n',o-1,⟨t,ye⟩,by first | rfl | go_num,H3.out,HF.out.trans (F1.out.trans (F3.out)),HRK.out.trans hr',hn',by have:=HN.out.2;simp at this⊢;omega⟩
      case measure=>
       have q1:=HAT.out
       have q2:=AT3.out
       simp only[List.length_cons] at q1
       omega
     ·rw[decide_eq_false h41] at hc2
      have HH40:=Lib.hid h40
      have HH41:=Lib.hid h41
      clear h40 h41
      go_wp2_with (first
       |(go_at_call 53;(with_reducible refine(HLL.out).mono ?_);rintro e w1 ⟨rfl,h1,f1⟩;obtain⟨⟨d3x1,d4x1⟩,dzx1⟩:=h1.facts;have H1:=Lib.hid h1;have F1:=Lib.hid f1;clear h1 f1)
       |(go_at_call 81;have h5:=next_r H1.out;rw[show Wd.next ⟨c::t,ye⟩=([c],⟨t,ye⟩) from rfl] at h5;(with_reducible refine h5.mono ?_);clear h5;rintro e w3 ⟨rfl,h3,f3⟩;have H3:=Lib.hid h3;have F3:=Lib.hid f3;have AT3:=Lib.hid (at_len h3.src);clear h3 f3))
      go_roundw
      case rel=>
       obtain⟨n',hn',hr'⟩:=HGO.out
       rw[if_neg HH40.out,if_neg HH41.out] at hr'
       exact⟨n',o,⟨t,ye⟩,by first | rfl | go_num,H3.out,HF.out.trans (F1.out.trans (F3.out)),HRK.out.trans hr',hn',by have:=HN.out.2;simp at this⊢;omega⟩
      case measure=>
       have q1:=HAT.out
       have q2:=AT3.out
       simp only[List.length_cons] at q1
       omega
   ·have ho2:o=0:=by omega
    subst ho2
    have ha:=ahead_one 41 c t ye
    by_cases hc:c=41
    ·subst hc
     rw[show ((41:UInt8)==41)=true from rfl] at ha
     have HA:=Lib.hid ha
     have HE:=Lib.hid (HRK.out.trans (rk_stop (by rw[HA.out];simp)))
     clear ha ho hop
     go_wp2_with (first
      |(go_at_call 53;(with_reducible refine(HLL.out).mono ?_);rintro e w1 ⟨rfl,h1,f1⟩;obtain⟨⟨d3x1,d4x1⟩,dzx1⟩:=h1.facts;have H1:=Lib.hid h1;have F1:=Lib.hid f1;clear h1 f1)
      |(go_at_call 114;have ha2:=ahead_r H1.out [41] ⟨#[41]⟩ rfl;rw[HA.out] at ha2;(with_reducible refine ha2.mono ?_);clear ha2;rintro e w2 ⟨rfl,h2,f2⟩;obtain⟨⟨d3x2,d4x2⟩,dzx2⟩:=h2.facts;have H2:=Lib.hid h2;have F2:=Lib.hid f2;clear h2 f2))
     obtain⟨p1,hs1⟩:=H2.out.src
     obtain⟨⟨e0,e1,e2⟩,ez⟩:=hs1.facts
     have hq0:=HS0.out.at_
     have hq1:=hs1.at_
     have hpl:p0≤p1:=by
      have h8:=Wd.rk_len x.l.length 0 x
      rw[HE.out] at h8
      omega
     have hp0:(0:Int)≤(p0:Int):=by omega
     have hp1:(p0:Int)≤(p1:Int):=by omega
     have hp2:(p1:Int)≤((mkS raw).size:Int):=by omega
     have HTX:=Lib.hid (show (mkS raw).extract p0 p1=mkS (Wd.reckoned x).1 by
      rw[mid_text,HS0.out.cut]
      unfold Wd.reckoned
      rw[HE.out]
      refine congrArg (fun z=>mkS (x.l.take z)) ?_
      dsimp only at hq1⊢
      omega)
     have HND:=Lib.hid (show Wd.need [41,41] _=(Wd.reckoned x).2 from congrArg (Wd.need [41,41]) HE.out.symm)
     clear hq0 hq1 hpl hs1 hsz
     go_quiet (fail)
     go_wp2_with (first
      |(go_at_call 51;(with_reducible refine(need_r (H2.out.drewN _) [41,41] ⟨#[41,41]⟩ rfl).mono ?_);rintro e w9 ⟨rfl,h9,f9⟩;have H9:=Lib.hid h9;have F9:=Lib.hid f9;clear h9 f9))
     go_ret
     refine⟨by rw[←HTX.out];rfl,?_,HF.out.trans (F1.out.trans (F2.out.trans (((Fr.later (later_drewN _ _)).trans F9.out))))⟩
     rw[←HND.out]
     exact H9.out
    ·have hne:((41:UInt8)==c)=false:=beq_eq_false_iff_ne.2 fun e=>hc e.symm
     rw[hne] at ha
     have HA:=Lib.hid ha
     have HGO:=Lib.hid (rk_go (c:=c) (t:=t) (e:=ye) (o:=0) (n:=n) (.inr ha) HN.out.1)
     clear ha hop hne
     have hc1:=tok_eq c 40
     have hc2:=tok_eq c 41
     by_cases h40:c=40
     ·rw[decide_eq_true h40] at hc1
      have HH40:=Lib.hid h40
      clear h40
      have hw:wrap64 ((((0:Nat):Int):Int)+1)=(((0:Nat):Int):Int)+1:=w64 _ (by omega)
      clear hc2
      go_wp2_with (first
       |(go_at_call 53;(with_reducible refine(HLL.out).mono ?_);rintro e w1 ⟨rfl,h1,f1⟩;obtain⟨⟨d3x1,d4x1⟩,dzx1⟩:=h1.facts;have H1:=Lib.hid h1;have F1:=Lib.hid f1;clear h1 f1)
       |(go_at_call 114;have ha2:=ahead_r H1.out [41] ⟨#[41]⟩ rfl;rw[HA.out] at ha2;(with_reducible refine ha2.mono ?_);clear ha2;rintro e w2 ⟨rfl,h2,f2⟩;obtain⟨⟨d3x2,d4x2⟩,dzx2⟩:=h2.facts;have H2:=Lib.hid h2;have F2:=Lib.hid f2;clear h2 f2)
       |(go_at_call 81;have h5:=next_r H2.out;rw[show Wd.next ⟨c::t,ye⟩=([c],⟨t,ye⟩) from rfl] at h5;(with_reducible refine h5.mono ?_);clear h5;rintro e w3 ⟨rfl,h3,f3⟩;have H3:=Lib.hid h3;have F3:=Lib.hid f3;have AT3:=Lib.hid (at_len h3.src);clear h3 f3))
      go_roundw
      case rel=>
       obtain⟨n',hn',hr'⟩:=HGO.out
       rw[if_pos HH40.out] at hr'
       exact⟨n',0+1,⟨t,ye⟩,by first | rfl | go_num,H3.out,HF.out.trans (F1.out.trans (F2.out.trans (F3.out))),HRK.out.trans hr',hn',by have:=HN.out.2;simp at this⊢;omega⟩
      case measure=>
       have q1:=HAT.out
       have q2:=AT3.out
       simp only[List.length_cons] at q1
       omega
     ·rw[decide_eq_false h40] at hc1
      rw[decide_eq_false hc] at hc2
      have HH40:=Lib.hid h40
      have HH41:=Lib.hid hc
      clear h40 hc
      go_wp2_with (first
       |(go_at_call 53;(with_reducible refine(HLL.out).mono ?_);rintro e w1 ⟨rfl,h1,f1⟩;obtain⟨⟨d3x1,d4x1⟩,dzx1⟩:=h1.facts;have H1:=Lib.hid h1;have F1:=Lib.hid f1;clear h1 f1)
       |(go_at_call 114;have ha2:=ahead_r H1.out [41] ⟨#[41]⟩ rfl;rw[HA.out] at ha2;(with_reducible refine ha2.mono ?_);clear ha2;rintro e w2 ⟨rfl,h2,f2⟩;obtain⟨⟨d3x2,d4x2⟩,dzx2⟩:=h2.facts;have H2:=Lib.hid h2;have F2:=Lib.hid f2;clear h2 f2)
       |(go_at_call 81;have h5:=next_r H2.out;rw[show Wd.next ⟨c::t,ye⟩=([c],⟨t,ye⟩) from rfl] at h5;(with_reducible refine h5.mono ?_);clear h5;rintro e w3 ⟨rfl,h3,f3⟩;have H3:=Lib.hid h3;have F3:=Lib.hid f3;have AT3:=Lib.hid (at_len h3.src);clear h3 f3))
      go_roundw
      case rel=>
       obtain⟨n',hn',hr'⟩:=HGO.out
       rw[if_neg HH40.out,if_neg HH41.out] at hr'
       exact⟨n',0,⟨t,ye⟩,by first | rfl | go_num,H3.out,HF.out.trans (F1.out.trans (F2.out.trans (F3.out))),HRK.out.trans hr',hn',by have:=HN.out.2;simp at this⊢;omega⟩
      case measure=>
       have q1:=HAT.out
       have q2:=AT3.out
       simp only[List.length_cons] at q1
       omega
end
end Ws
end Go.Proofs.YtipdgmjplnibeaaGreatDoor
