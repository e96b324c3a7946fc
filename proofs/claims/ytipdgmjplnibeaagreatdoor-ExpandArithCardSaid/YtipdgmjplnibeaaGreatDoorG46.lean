import Derived.Test.YtipdgmjplnibeaaGreatDoorWz
set_option maxRecDepth 100000
set_option maxHeartbeats 3200000
namespace Go.Proofs.YtipdgmjplnibeaaGreatDoor
open Go.RowKit Go.Maps
set_option maxRecDepth 100000
namespace Ws
section
variable {W W':World} {X T:Nat→Prop} {g s dp:Nat} {raw:L} {r:Wd.R} {x x':Wd.S} {br:Wd.S→Wd.P×Wd.S}
def old (W:World) (s:Nat):Nat→Prop:=fun b=>b<W.heap.size∧b≠s
theorem word_fin (h:RM W X g s raw dp r x) {w6:World} {T2:Nat→Prop} {y:Wd.S} {v:Value} {ps:List Wd.P} (hf:Fr (old W s) W w6) (hsr:Sr w6 s raw y) (ht:PsAt w6 (fun b=>T2 b∨v.ownBlock=some b) v ps) (hvx:∀ b,v.ownBlock=some b→¬ old W s b) (htl:XL T2 w6) (hts:¬ T2 s) (hvs:v.ownBlock≠some s) (htx:∀ b,T2 b→¬ old W s b) (hvl:∀ b,v.ownBlock=some b→b<w6.heap.size):RMv w6 X g s raw dp r y v ps∧Fr X W w6:=by
 have hg:W.grownBy w6 (some s):=⟨hf.os,hf.tape,hf.output,hf.size,fun i hi hne=>hf.block i hi ⟨hi,fun e=>hne (by rw[e])⟩⟩
 have key:∀ b,(T2 b∨v.ownBlock=some b)→W.heap.size≤b:=fun b hb=>by
  refine Nat.le_of_not_lt fun hlt=>?_
  rcases hb with hb | hb
  ·exact htx b hb ⟨hlt,fun e=>hts (by rw[←e];exact hb)⟩
  ·exact hvx b hb ⟨hlt,fun e=>hvs (by rw[←e];exact hb)⟩
 have hfx:=(h.step hsr hg).2
 obtain⟨T,vp,vt,nd,h⟩:=h
 have h':=h.step hsr hg
 have far:∀ b,b<W.heap.size→¬ T b→¬ (T b∨(T2 b∨v.ownBlock=some b)):=fun b hlt hT e=>by
  rcases e with e | e
  ·exact hT e
  ·have:=key b e;omega
 refine⟨⟨fun b=>T b∨(T2 b∨v.ownBlock=some b),⟨vp,vt,nd,h'.box,h'.src,h.gX,h.sX,far g h.lt h.gT,far s h.src.lt h.sT,h'.txt,h.tX,fun b e=>far b (h.txt.lt b e).2 (h.tT b e),h'.row,h.pX,fun b e=>far b (h.row.lt b e).2 (h.pT b e),h.ps,fun z hz=>(h'.tree z hz).kept (Nat.le_refl _) (fun _ _ _=>rfl) fun _ hb=>.inl hb,h.kk,h'.xl,fun b e=>?_,fun b hx e=>?_,h.og,h'.op⟩,ht.kept (Nat.le_refl _) (fun _ _ _=>rfl) fun _ hb=>.inr hb⟩,hfx⟩
 ·rcases e with e | e | e
  ·exact h'.tl b e
  ·exact htl b e
  ·exact hvl b e
 ·rcases e with e | e
  ·exact h.xt b hx e
  ·have:=key b e;have:=h.xl b hx;omega
theorem fresh {w1:World} {X:Nat→Prop} (hl:Later W w1) (hg:w1.heap[g]?=some (.cells (rc (.slice none 0 0) (.slice none 0 0) 0 s dp) 102 (0,0))) (hsr:Sr w1 s raw x) (gX:¬ X g) (sX:¬ X s) (xl:XL X w1) (og:X 4) (op:Ops w1):RM w1 X g s raw dp ⟨[],0,[]⟩ x:=
 ⟨fun _=>False,.slice none 0 0,.slice none 0 0,[],hg,hsr,gX,sX,id,id,World.ownsRow_nil w1 0 _ 1,nofun,nofun,World.ownsRow_nil w1 0 _ 5,nofun,nofun,rfl,nofun,Nat.zero_le _,xl,nofun,fun _ _ h=>h,og,op⟩
theorem mono_need {z:Wd.R×Wd.S} {y:Wd.S} (h:z=(r,y)) (t:L):Wd.m (r,Wd.need t y)≤Wd.m (r,y):=by
 have:=Wd.need_len t y
 unfold Wd.m
 dsimp only
 omega
theorem all_r {M:Nat} (h:RM W X g s raw dp r x) (hm:Wd.m (r,x)≤M) (hM:M≤1000000):∃ T,Calls Tryz.prog 86 #[.pointer (some ⟨g,0,none⟩)] W fun e W'=>∃ v,e=.returned v∧PsAt W' (fun b=>T b∨v.ownBlock=some b) v (Wd.all r)∧Fr (un X T) W W'∧Sr W' s raw x∧(∀ b,v.ownBlock=some b→¬ X b)∧XL T W'∧¬ T s∧v.ownBlock≠some s∧(∀ b,T b→¬ X b)∧(∀ b,v.ownBlock=some b→b<W'.heap.size):=by
 obtain⟨T,h⟩:=h
 exact⟨T,all_v h (by have:=size_m hm;omega)⟩
theorem word_v (hb:BrOk (dp+1) br) (h:RM W X g s raw dp r x) (hdp:dp≤8):Calls Tryz.prog 177 #[.pointer (some ⟨g,0,none⟩)] W fun e W'=>∃ vw,e=.returned vw∧RMv W' X g s raw dp r (Wd.word br x).2 vw (Wd.word br x).1∧Fr X W W':=by
 obtain⟨⟨d3,d4⟩,dz⟩:=h.facts
 have HBR:=Lib.hid hb
 have H:=Lib.hid h
 obtain⟨z,hz⟩:∃ z,z=Wd.wordIn br x:=⟨_,rfl⟩
 have hd:Wd.word br x=(Wd.all z.1,Wd.need [125] z.2):=by rw[hz];rfl
 rw[hd]
 have HZ:=Lib.hid (hz.trans (show Wd.wordIn br x=Wd.loop (Wd.more [125]) (Wd.part br) x.l.length (⟨[],0,[]⟩,x) from rfl))
 have hlt:=lt_of_block (h.src.box.choose_spec)
 have hogl:=h.xl _ h.og
 have hogs:4≠s:=fun e=>h.sX (by rw[←e];exact h.og)
 obtain⟨w1,hw1⟩:∃ w1,w1=W.drew.alloc (.cells (rc (.slice none 0 0) (.slice none 0 0) 0 s (dp+1)) 102):=⟨_,rfl⟩
 have hl1:Later W w1:=by rw[hw1];exact(Later.drew W).trans (Later.alloc _ _)
 have hin:RM w1 (old W s) W.heap.size s raw (dp+1) ⟨[],0,[]⟩ x:=by
  refine fresh hl1 (by rw[hw1];exact heap_alloc_new W.drew _) (h.src.kept (grown_of_later hl1 none) nofun) (fun e=>by have:=e.1;omega) (fun e=>e.2 rfl) (fun b e=>Nat.lt_of_lt_of_le e.1 hl1.size) ⟨hogl,hogs⟩ (h.op.kept (hl1.block _ hogl))
 have HIN:=Lib.hid hin
 have HL1:=Lib.hid hl1
 have HSM:=Lib.hid (small_r h)
 have hw:wrap64 ((dp:Int)+1)=((dp+1:Nat):Int):=by rw[w64 _ (by omega)];omega
 have hw2:IntKind.i64.wrap ((dp:Int)+1)=((dp+1:Nat):Int):=by rw[IntKind.wrap_i64];omega
 obtain⟨C0,hC0⟩:∃ C0:Nat→Value→World→Prop,C0=fun j u w=>(j=0∧w=W.drew)∨(j=1∧w=w1):=⟨_,rfl⟩
 have HA:=Lib.hid (show ∀ j u w,C0 j u w→j≤0→w=W.drew from fun j u w hc hj=>by
  rw[hC0] at hc
  rcases hc with⟨_,e⟩ | ⟨e,_⟩
  ·exact e
  ·omega)
 have HC0:=Lib.hid (show C0 0 undef W.drew by rw[hC0];exact .inl ⟨rfl,rfl⟩)
 have HC1:=Lib.hid (show ∀ u,C0 1 u (W.drew.alloc (.cells (rc (.slice none 0 0) (.slice none 0 0) 0 s (dp+1)) 102)) from fun u=>by rw[hC0,←hw1];exact .inr ⟨rfl,rfl⟩)
 have HE:=Lib.hid (show ∀ u w,C0 1 u w→w=w1 from fun u w hc=>by
  rw[hC0] at hc
  rcases hc with⟨e,_⟩ | ⟨_,e⟩
  ·omega
  ·exact e)
 have HQ:=Lib.hid (show ∀ j u w,C0 j u w→w.cell? ⟨g,3,none⟩=some (.pointer (some ⟨s,0,none⟩))∧w.cell? ⟨g,4,none⟩=some (.int .i64 (dp:Int)) from fun j u w hc=>by
  rw[hC0] at hc
  rcases hc with⟨_,rfl⟩ | ⟨_,rfl⟩
  ·exact⟨d3,d4⟩
  ·exact⟨cell_keeps hl1 d3,cell_keeps hl1 d4⟩)
 have HDP:=Lib.hid hdp
 clear hC0 hw1 hl1 hin hd hz h hb hlt hogl hogs hdp
 go_enter Tryz.func177,Tryz.ntmps177
 go_wp2
 refine wp_region_seq (by kernel_rfl) [10] (C0) [some (.pointer (some ⟨g,0,none⟩)),some (.pointer (some ⟨g,0,none⟩)),some (.pointer (some ⟨g,3,none⟩)),some (.pointer (some ⟨s,0,none⟩)),some (.pointer (some ⟨g,0,none⟩)),some (.pointer (some ⟨g,0,none⟩)),some (.pointer (some ⟨g,4,none⟩)),some (.int .i64 (dp:Int)),some (.int .i64 ((dp+1:Nat):Int)),some (.agg (rc (.slice none 0 0) (.slice none 0 0) 0 s (dp+1))),some (.pointer (some ⟨W.heap.size,0,none⟩)),some (.pointer (some ⟨W.heap.size,0,none⟩))] (by decide) (by decide) (by kernel_rfl) (by kernel_rfl) (HC0.out) ?_ ?_
 ·refine⟨?_,?_,?_,?_,?_,?_,?_,?_,?_,?_,?_,?_,trivial⟩
  ·
   refine OwesS.q rfl fun a w j u hC hb hs=>⟨rfl,?_⟩
   have e0:a.tmps.getD 0 undef=.pointer (some ⟨g,0,none⟩):=hs.free 0 rfl
   refine ValWp.pure (v:=.pointer (some ⟨g,0,none⟩)) (fun K' hK'=>?_) ⟨rfl,rfl⟩
   simp only[ValWp,execOp,Act.eval,e0]
   go_simp
   all_goals exact hK'
  ·
   refine OwesS.q rfl fun a w j u hC hb hs=>⟨rfl,?_⟩
   have e4:a.tmps.getD 4 undef=.pointer (some ⟨g,0,none⟩):=hs.dep 0 _ rfl rfl
   refine ValWp.pure (v:=.pointer (some ⟨g,0,none⟩)) (fun K' hK'=>?_) ⟨rfl,rfl⟩
   simp only[ValWp,execOp,Act.eval,e4]
   go_simp
   all_goals exact hK'
  ·
   refine OwesS.q rfl fun a w j u hC hb hs=>⟨rfl,?_⟩
   have e5:a.tmps.getD 5 undef=.pointer (some ⟨g,0,none⟩):=hs.dep 1 _ rfl rfl
   refine ValWp.pure (v:=.pointer (some ⟨g,3,none⟩)) (fun K' hK'=>?_) ⟨rfl,rfl⟩
   simp only[ValWp,execOp,Act.eval,e5]
   go_simp
   all_goals exact hK'
  ·
   refine OwesS.q rfl fun a w j u hC hb hs=>⟨rfl,?_⟩
   have e6:a.tmps.getD 6 undef=.pointer (some ⟨g,3,none⟩):=hs.dep 2 _ rfl rfl
   have q0:=(HQ.out j u w hC).1
   refine ValWp.pure (v:=.pointer (some ⟨s,0,none⟩)) (fun K' hK'=>?_) ⟨rfl,rfl⟩
   simp only[ValWp,execOp,Act.eval,e6]
   go_simp
   all_goals exact hK'
  ·
   refine OwesS.q rfl fun a w j u hC hb hs=>⟨rfl,?_⟩
   have e0:a.tmps.getD 0 undef=.pointer (some ⟨g,0,none⟩):=hs.free 0 rfl
   refine ValWp.pure (v:=.pointer (some ⟨g,0,none⟩)) (fun K' hK'=>?_) ⟨rfl,rfl⟩
   simp only[ValWp,execOp,Act.eval,e0]
   go_simp
   all_goals exact hK'
  ·
   refine OwesS.q rfl fun a w j u hC hb hs=>⟨rfl,?_⟩
   have e8:a.tmps.getD 8 undef=.pointer (some ⟨g,0,none⟩):=hs.dep 4 _ rfl rfl
   refine ValWp.pure (v:=.pointer (some ⟨g,0,none⟩)) (fun K' hK'=>?_) ⟨rfl,rfl⟩
   simp only[ValWp,execOp,Act.eval,e8]
   go_simp
   all_goals exact hK'
  ·
   refine OwesS.q rfl fun a w j u hC hb hs=>⟨rfl,?_⟩
   have e9:a.tmps.getD 9 undef=.pointer (some ⟨g,0,none⟩):=hs.dep 5 _ rfl rfl
   refine ValWp.pure (v:=.pointer (some ⟨g,4,none⟩)) (fun K' hK'=>?_) ⟨rfl,rfl⟩
   simp only[ValWp,execOp,Act.eval,e9]
   go_simp
   all_goals exact hK'
  ·
   refine OwesS.q rfl fun a w j u hC hb hs=>⟨rfl,?_⟩
   have e10:a.tmps.getD 10 undef=.pointer (some ⟨g,4,none⟩):=hs.dep 6 _ rfl rfl
   have q0:=(HQ.out j u w hC).2
   refine ValWp.pure (v:=.int .i64 (dp:Int)) (fun K' hK'=>?_) ⟨rfl,rfl⟩
   simp only[ValWp,execOp,Act.eval,e10]
   go_simp
   all_goals exact hK'
  ·
   refine OwesS.q rfl fun a w j u hC hb hs=>⟨rfl,?_⟩
   have e11:a.tmps.getD 11 undef=.int .i64 (dp:Int):=hs.dep 7 _ rfl rfl
   refine ValWp.pure (v:=.int .i64 ((dp+1:Nat):Int)) (fun K' hK'=>?_) ⟨rfl,rfl⟩
   simp only[ValWp,execOp,Act.eval,e11]
   go_simp
   all_goals exact hK'
  ·
   refine OwesS.q rfl fun a w j u hC hb hs=>⟨rfl,?_⟩
   have e7:a.tmps.getD 7 undef=.pointer (some ⟨s,0,none⟩):=hs.dep 3 _ rfl rfl
   have e12:a.tmps.getD 12 undef=.int .i64 ((dp+1:Nat):Int):=hs.dep 8 _ rfl rfl
   refine ValWp.pure (v:=.agg (rc (.slice none 0 0) (.slice none 0 0) 0 s (dp+1))) (fun K' hK'=>?_) ⟨rfl,rfl⟩
   unfold rc at hK'
   simp only[ValWp,execOp,Act.eval,List.map_toArray,List.map_cons,List.map_nil,e7,e12]
   go_simp
   all_goals exact hK'
  ·
   refine OwesS.w rfl fun a w u hC hl hs=>⟨rfl,fun K hK=>?_⟩
   have e13:a.tmps.getD 13 undef=.agg (rc (.slice none 0 0) (.slice none 0 0) 0 s (dp+1)):=hs.dep 9 _ rfl rfl
   have hw:=HA.out 0 u w hC (Nat.le_refl _)
   subst hw
   refine wp_of_val ?_
   refine ValWp.pure (v:=.pointer (some ⟨W.drew.heap.size,0,none⟩)) (w':=W.drew.alloc (.cells (rc (.slice none 0 0) (.slice none 0 0) 0 s (dp+1)) 102)) (fun K' hK'=>?_) (hK _ _ rfl (HC1.out _))
   unfold rc at hK'
   simp only[ValWp,execOp,Act.eval,e13]
   unfold rc
   go_simp
   all_goals exact hK'
  ·
   refine OwesS.q rfl fun a w j u hC hb hs=>⟨rfl,?_⟩
   have e14:a.tmps.getD 14 undef=.pointer (some ⟨W.heap.size,0,none⟩):=hs.dep 10 _ rfl rfl
   refine ValWp.pure (v:=.pointer (some ⟨W.heap.size,0,none⟩)) (fun K' hK'=>?_) ⟨rfl,rfl⟩
   simp only[ValWp,execOp,Act.eval,e14]
   go_simp
   all_goals exact hK'
 ·intro a w u hC hl hd hsz hfree hs
  obtain⟨z0,u1,u2,z3,u4,u5,u6,u7,u8,u9,u10,u11,u12,u13,u14,u15,u16,u17,u18,u19,u20,u21,u22,u23,u24,u25,u26,u27,u28,u29,u30,u31,u32,u33,u34,u35,u36,u37,u38,hal⟩:=lets a 39 0
  obtain rfl:=hal.on (v:=.pointer (some ⟨g,0,none⟩)) 0 (hfree 0 rfl) rfl
  obtain rfl:=hal.on (v:=.pointer (some ⟨W.heap.size,0,none⟩)) 3 (hs 11 _ rfl) rfl
  have hlit:=fun h=>act_lit hd h hal
  rw[hlit hsz]
  clear hlit hal hd hsz hfree hs
  have hwe:=HE.out u w hC
  subst hwe
  clear hC hl
  go_wp2
  go_loopw [] (fun wr=>Lr w (old W s) W.heap.size s raw (dp+1) (Wd.more [125]) (Wd.part br) z 300000 wr) (fun wr=>raw.length-atS s wr)
  case atStart=>exact⟨_,_,_,HIN.out,Fr.refl _ _,HZ.out,Nat.le_refl _,by have:=HSM.out;unfold Wd.m;simp;omega⟩
  case round=>
   obtain⟨n,r2,y,hr,hf,hzl,hn,hM⟩:=hrel
   obtain⟨⟨d3,d4⟩,dz⟩:=hr.facts
   have HR:=Lib.hid hr
   have HF:=Lib.hid hf
   have HZL:=Lib.hid hzl
   have HNN:=Lib.hid hn
   have HMM:=Lib.hid hM
   have HAT:=Lib.hid (at_len hr.src)
   clear hr hf hzl hn hM
   cases hlf:Wd.left y with
   | false=>
    have HLF:=Lib.hid hlf
    have HE:=Lib.hid (HZL.out.trans (loop_stop (y:=(r2,y)) (more_f hlf)))
    clear hlf
    go_wp2_with (first
     |(go_at_call 53;(with_reducible refine(left_b HR.out false HLF.out).mono ?_);rintro e w1 ⟨rfl,h1,f1⟩;obtain⟨⟨d3x1,d4x1⟩,dzx1⟩:=h1.facts;have H1:=Lib.hid h1;have F1:=Lib.hid f1;clear h1 f1)
     |(go_at_call 51;(with_reducible refine(need_r H1.out [125] ⟨#[125]⟩ rfl).mono ?_);rintro e w5 ⟨rfl,h5,f5⟩;obtain⟨⟨d3x5,d4x5⟩,dzx5⟩:=h5.facts;have H5:=Lib.hid h5;have F5:=Lib.hid f5;clear h5 f5)
     |(go_at_call 86;obtain⟨T6,h6⟩:=all_r H5.out (Nat.le_trans (mono_need HE.out [125]) HMM.out) (by omega);(with_reducible refine h6.mono ?_);clear h6;rintro e w6 ⟨v6,rfl,h6⟩;have F6:=Lib.hid (h6.2.1.sub (Y:=old W s) fun b hb=>.inl hb);have H6:=Lib.hid h6;clear h6))
    go_ret
    refine⟨v6,rfl,?_⟩
    rw[HE.out]
    obtain⟨q1,q2,q3,q4,q5,q6,q7,q8,q9⟩:=H6.out
    have f9:Fr (old W s) W w6:=(Fr.later HL1.out).trans (HF.out.trans (F1.out.trans (F5.out.trans F6.out)))
    exact word_fin H.out f9 q3 q1 q4 q5 q6 q7 q8 q9
   | true=>
    have HLF:=Lib.hid hlf
    cases hah:Wd.ahead [125] y with
    | true=>
     have HAH:=Lib.hid hah
     have HE:=Lib.hid (HZL.out.trans (loop_stop (y:=(r2,y)) (more_a hlf hah)))
     clear hlf hah
     go_wp2_with (first
      |(go_at_call 53;(with_reducible refine(left_b HR.out true HLF.out).mono ?_);rintro e w1 ⟨rfl,h1,f1⟩;obtain⟨⟨d3x1,d4x1⟩,dzx1⟩:=h1.facts;have H1:=Lib.hid h1;have F1:=Lib.hid f1;clear h1 f1)
      |(go_at_call 114;(with_reducible refine(ahead_b H1.out [125] ⟨#[125]⟩ rfl true HAH.out).mono ?_);rintro e w2 ⟨rfl,h2,f2⟩;obtain⟨⟨d3x2,d4x2⟩,dzx2⟩:=h2.facts;have H2:=Lib.hid h2;have F2:=Lib.hid f2;clear h2 f2)
      |(go_at_call 51;(with_reducible refine(need_r H2.out [125] ⟨#[125]⟩ rfl).mono ?_);rintro e w5 ⟨rfl,h5,f5⟩;obtain⟨⟨d3x5,d4x5⟩,dzx5⟩:=h5.facts;have H5:=Lib.hid h5;have F5:=Lib.hid f5;clear h5 f5)
      |(go_at_call 86;obtain⟨T6,h6⟩:=all_r H5.out (Nat.le_trans (mono_need HE.out [125]) HMM.out) (by omega);(with_reducible refine h6.mono ?_);clear h6;rintro e w6 ⟨v6,rfl,h6⟩;have F6:=Lib.hid (h6.2.1.sub (Y:=old W s) fun b hb=>.inl hb);have H6:=Lib.hid h6;clear h6))
     go_ret
     refine⟨v6,rfl,?_⟩
     rw[HE.out]
     obtain⟨q1,q2,q3,q4,q5,q6,q7,q8,q9⟩:=H6.out
     have f9:Fr (old W s) W w6:=(Fr.later HL1.out).trans (HF.out.trans (F1.out.trans (F2.out.trans (F5.out.trans F6.out))))
     exact word_fin H.out f9 q3 q1 q4 q5 q6 q7 q8 q9
    | false=>
     have HAH:=Lib.hid hah
     have hne:=Wd.left_ne hlf
     have HNE:=Lib.hid hne
     have hpm:=(fun y hne=>Wd.part_m HBR.out.le (r2,y) hne) y hne
     have HPM:=Lib.hid hpm
     have HLG:=Lib.hid (loop_go (y:=(r2,y)) (f:=Wd.part br) (more_a hlf hah) hne HNN.out hpm.1)
     clear hlf hah hne hpm
     go_wp2_with (first
      |(go_at_call 53;(with_reducible refine(left_b HR.out true HLF.out).mono ?_);rintro e w1 ⟨rfl,h1,f1⟩;obtain⟨⟨d3x1,d4x1⟩,dzx1⟩:=h1.facts;have H1:=Lib.hid h1;have F1:=Lib.hid f1;clear h1 f1)
      |(go_at_call 114;(with_reducible refine(ahead_b H1.out [125] ⟨#[125]⟩ rfl false HAH.out).mono ?_);rintro e w2 ⟨rfl,h2,f2⟩;obtain⟨⟨d3x2,d4x2⟩,dzx2⟩:=h2.facts;have H2:=Lib.hid h2;have F2:=Lib.hid f2;clear h2 f2)
      |(go_at_call 54;(with_reducible refine(part_v HBR.out H2.out (Nat.le_trans HMM.out (by omega)) HNE.out).mono ?_);rintro e w4 ⟨rfl,h4,f4⟩;obtain⟨⟨d3x4,d4x4⟩,dzx4⟩:=h4.facts;have H4:=Lib.hid h4;have F4:=Lib.hid f4;clear h4 f4))
     go_roundw
     case rel=>
      obtain⟨n',hn',hl'⟩:=HLG.out
      exact⟨n',_,_,H4.out,HF.out.trans (F1.out.trans (F2.out.trans F4.out)),HZL.out.trans hl',hn',Nat.le_trans HPM.out.2 HMM.out⟩
     case measure=>
      have q1:=HAT.out
      have q2:=at_len H4.out.src
      have q3:=HPM.out.1
      have q4:=H4.out.src.len
      try dsimp only at q3
      omega
end
end Ws
end Go.Proofs.YtipdgmjplnibeaaGreatDoor
namespace Go.Proofs.YtipdgmjplnibeaaGreatDoor
open Go.RowKit Go.Maps
set_option maxRecDepth 100000
namespace Ws
section
variable {W W':World} {X T:Nat→Prop} {g s dp:Nat} {raw:L} {r:Wd.R} {x x':Wd.S} {br:Wd.S→Wd.P×Wd.S}
theorem brace_ok:∀ d,d≤8→BrOk (8-d) (Wd.brace d)
 | 0,_=>⟨Wd.brace_len 0,fun h=>brace_deep h⟩
 | d+1,hd=>by
  have ih:=brace_ok d (by omega)
  have e1:8-(d+1)+1=8-d:=by omega
  refine⟨Wd.brace_len (d+1),fun h=>brace_v (wd:=Wd.word (Wd.brace d)) ⟨Wd.word_len (Wd.brace_len d),fun h2=>word_v (by rw[e1];exact ih) h2 (by omega)⟩ (by omega) h⟩
theorem top:BrOk 0 (Wd.brace 8):=brace_ok 8 (by omega)
def Pg (W:World) (y:List Wd.P×Nat) (e:Ending) (W':World):Prop:=∃ v,e=.returned (.tuple #[v,.int .i64 (y.2:Int)])∧PsAt W' (fun _=>True) v y.1∧Later W W'
theorem told_v (h:RM W X g s raw dp r x) (hm:Wd.m (r,x)≤1000000):Calls Tryz.prog 55 #[.pointer (some ⟨g,0,none⟩)] W fun e W'=>∃ v,e=.returned (.tuple #[v,.int .i64 ((Wd.told (r,x)).2:Int)])∧PsAt W' (fun _=>True) v (Wd.told (r,x)).1∧Fr X W W':=by
 obtain⟨⟨d3,d4⟩,dz⟩:=h.facts
 obtain⟨p,hs⟩:=h.src
 obtain⟨⟨c0,c1,c2⟩,cz⟩:=hs.facts
 obtain⟨T6,h6⟩:=all_r h hm (Nat.le_refl _)
 have HAL:=Lib.hid h6
 clear hs h6 h
 by_cases he:x.e=0
 ·have e1:Wd.told (r,x)=(Wd.all r,0):=by unfold Wd.told;rw[if_neg (by simpa using he)]
  rw[e1]
  have hb:((x.e:Int) != 0)=false:=by simp[he]
  clear he e1
  go_enter Tryz.func55,Tryz.ntmps55
  go_wp2_with (go_at_call 86;(with_reducible refine HAL.out.mono ?_);rintro e w6 ⟨v6,rfl,h6⟩;have H6:=Lib.hid h6;clear h6)
  go_ret2
  exact⟨v6,rfl,H6.out.1.kept (Nat.le_refl _) (fun _ _ _=>rfl) (fun _ _=>trivial),H6.out.2.1.sub fun b hb=>.inl hb⟩
 ·have e1:Wd.told (r,x)=([],x.e):=by unfold Wd.told;rw[if_pos (by simpa using he)]
  rw[e1]
  have hb:((x.e:Int) != 0)=true:=by simp[he]
  clear he e1
  go_enter Tryz.func55,Tryz.ntmps55
  go_wp2
  go_quiet (fail)
  go_wp2
  go_ret2
  exact⟨_,rfl,.nil _ _,Fr.later (later_drewN W _)⟩
theorem open_v (raw:L) (hr:raw.length≤100000) (hO:Ops W) (ho:4<W.heap.size):Calls Tryz.prog 49 #[.string (mkS raw)] W fun e W'=>e=.returned (.pointer (some ⟨W.heap.size+1,0,none⟩))∧RM W' (fun b=>b<W.heap.size) (W.heap.size+1) W.heap.size raw 0 ⟨[],0,[]⟩ ⟨raw,0⟩∧Later W W':=by
 have hl1:=Later.alloc W (.cells (srcC raw 0 0) 132)
 obtain⟨w1,hw1⟩:∃ w1,w1=W.alloc (.cells (srcC raw 0 0) 132):=⟨_,rfl⟩
 rw[←hw1] at hl1
 have hz1:w1.heap.size=W.heap.size+1:=by rw[hw1];simp
 have hb1:w1.heap[W.heap.size]?=some (.cells (srcC raw 0 0) 132 (0,0)):=by rw[hw1];exact heap_alloc_new W _
 have hl2:=Later.alloc w1 (.cells (rc (.slice none 0 0) (.slice none 0 0) 0 W.heap.size 0) 102)
 obtain⟨w2,hw2⟩:∃ w2,w2=w1.alloc (.cells (rc (.slice none 0 0) (.slice none 0 0) 0 W.heap.size 0) 102):=⟨_,rfl⟩
 rw[←hw2] at hl2
 have hin:RM w2 (fun b=>b<W.heap.size) (W.heap.size+1) W.heap.size raw 0 ⟨[],0,[]⟩ ⟨raw,0⟩:=
  fresh (hl1.trans hl2) (by rw[hw2,←hz1];exact heap_alloc_new w1 _) ⟨0,later_cells hl2 hb1,rfl,by simp,hr⟩ (by omega) (by omega) (fun b e=>Nat.lt_of_lt_of_le e (hl1.trans hl2).size) ho (hO.kept ((hl1.trans hl2).block _ ho))
 have HIN:=Lib.hid hin
 have HL:=Lib.hid (hl1.trans hl2)
 have HW:=Lib.hid (show w2=(W.alloc (.cells #[.string (mkS raw),.int .i64 0,.int .i64 0] 132)).alloc (.cells #[.slice none 0 0,.int .i64 0,.slice none 0 0,.pointer (some ⟨W.heap.size,0,none⟩),.int .i64 0] 102) by rw[hw2,hw1];rfl)
 clear hw1 hw2 hl1 hl2 hz1 hb1 hin
 go_enter Tryz.func49,Tryz.ntmps49
 go_wp2
 rw[←HW.out]
 go_ret
 exact⟨rfl,HIN.out,HL.out⟩
theorem fr_later (h:Fr (fun b=>b<W.heap.size) W W'):Later W W':=⟨h.os,h.tape,h.output,h.size,fun k hk=>h.block k hk hk⟩
theorem has_pre (l t:L) (ts:ByteArray) (ht:ts=mkS t) (W:World):Calls Tryz.prog 50 #[.string (mkS l),.string ts] W fun e W'=>e=.returned (.bool (Lib.hasPrefix l t))∧W'=W:=by
 subst ht
 have:=Tryz.strings_HasPrefix (mkS l) (mkS t) W
 rw[mkS_list,mkS_list] at this
 exact this
theorem parse_v (raw:L) (hr:raw.length≤100000) (hO:Ops W) (ho:4<W.heap.size):Calls Tryz.prog 22 #[.string (mkS raw)] W (Pg W (Wd.parse raw)):=by
 have HOP:=Lib.hid (open_v raw hr hO ho)
 obtain⟨z,hz⟩:∃ z,z=Wd.loop Wd.left (Wd.part (Wd.brace 8)) raw.length (Wd.start raw):=⟨_,rfl⟩
 have HP:=Lib.hid (show Wd.parse raw=Wd.told z by rw[hz];rfl)
 have HRL:=Lib.hid hr
 have htl:=toList_mkS raw
 by_cases h1:raw=[126]
 ·have hst:Wd.start raw=(Wd.add (.mk 5 [] [] false []) Wd.R0,Wd.need [126] ⟨raw,0⟩):=by unfold Wd.start;rw[if_pos (.inl h1)]
  rw[hst] at hz
  have HZ:=Lib.hid hz
  have he:((mkS raw).toList==([126]:List UInt8))=true:=by rw[htl];simp[h1]
  clear hst hz h1 htl hO hr
  go_enter Tryz.func22,Tryz.ntmps22
  go_wp2_with (first
   |(go_at_call 49;(with_reducible refine HOP.out.mono ?_);rintro e w8 ⟨rfl,h8,hl8⟩;obtain⟨⟨d3x8,d4x8⟩,dzx8⟩:=h8.facts;have H8:=Lib.hid h8;have HL8:=Lib.hid hl8;clear h8 hl8)
   |(go_at_call 51;(with_reducible refine(need_r H8.out [126] ⟨#[126]⟩ rfl).mono ?_);rintro e w6 ⟨rfl,h6,f6⟩;obtain⟨⟨d3x6,d4x6⟩,dzx6⟩:=h6.facts;have H6:=Lib.hid h6;have F6:=Lib.hid f6;clear h6 f6)
   |(go_at_call 52;(with_reducible refine(add_r (p:=.mk 5 [] [] false []) H6.out.nil #[.int .i64 5,.string ⟨#[]⟩,.string ⟨#[]⟩,.bool false,.slice none 0 0] rfl (by simp)).mono ?_);rintro e w7 ⟨rfl,h7,f7⟩;obtain⟨⟨d3x7,d4x7⟩,dzx7⟩:=h7.facts;have H7:=Lib.hid h7;have F7:=Lib.hid f7;clear h7 f7))
  go_loopw [] (fun wr=>Lr W (fun b=>b<W.heap.size) (W.heap.size+1) W.heap.size raw 0 Wd.left (Wd.part (Wd.brace 8)) z 300010 wr) (fun wr=>raw.length-atS W.heap.size wr)
  case atStart=>exact⟨_,_,_,H7.out,(Fr.later HL8.out).trans (F6.out.trans F7.out),HZ.out,Nat.le_trans (Wd.need_len [126] ⟨raw,0⟩) (Nat.le_refl _),by have:=HRL.out;have:=Wd.add_m (.mk 5 [] [] false []) Wd.R0;have:=Wd.need_len [126] ⟨raw,0⟩;unfold Wd.m;simp[Wd.R0] at *;omega⟩
  case round=>
   obtain⟨n,r2,y,hr,hf,hzl,hn,hM⟩:=hrel
   obtain⟨⟨d3,d4⟩,dz⟩:=hr.facts
   have HR:=Lib.hid hr
   have HF:=Lib.hid hf
   have HZL:=Lib.hid hzl
   have HNN:=Lib.hid hn
   have HMM:=Lib.hid hM
   have HAT:=Lib.hid (at_len hr.src)
   clear hr hf hzl hn hM
   cases hlf:Wd.left y with
   | false=>
    have HLF:=Lib.hid hlf
    have HE:=Lib.hid (HZL.out.trans (loop_stop (y:=(r2,y)) hlf))
    clear hlf
    go_wp2_with (first
     |(go_at_call 53;(with_reducible refine(left_b HR.out false HLF.out).mono ?_);rintro e w1 ⟨rfl,h1,f1⟩;obtain⟨⟨d3x1,d4x1⟩,dzx1⟩:=h1.facts;have H1:=Lib.hid h1;have F1:=Lib.hid f1;clear h1 f1)
     |(go_at_call 55;(with_reducible refine(told_v H1.out (Nat.le_trans HMM.out (by omega))).mono ?_);rintro e w5 ⟨v5,rfl,h5,f5⟩;have H5:=Lib.hid h5;have F5:=Lib.hid f5;clear h5 f5))
    go_ret2
    exact⟨v5,by rw[HP.out,HE.out];rfl,by rw[HP.out,HE.out];exact H5.out,fr_later (HF.out.trans (F1.out.trans F5.out))⟩
   | true=>
    have HLF:=Lib.hid hlf
    have hne:=Wd.left_ne hlf
    have HNE:=Lib.hid hne
    have hpm:=(fun y hne=>Wd.part_m (Wd.brace_len 8) (r2,y) hne) y hne
    have HPM:=Lib.hid hpm
    have HLG:=Lib.hid (loop_go (y:=(r2,y)) (f:=Wd.part (Wd.brace 8)) hlf hne HNN.out hpm.1)
    clear hlf hne hpm
    go_wp2_with (first
     |(go_at_call 53;(with_reducible refine(left_b HR.out true HLF.out).mono ?_);rintro e w1 ⟨rfl,h1,f1⟩;obtain⟨⟨d3x1,d4x1⟩,dzx1⟩:=h1.facts;have H1:=Lib.hid h1;have F1:=Lib.hid f1;clear h1 f1)
     |(go_at_call 54;(with_reducible refine(part_v top H1.out (Nat.le_trans HMM.out (by omega)) HNE.out).mono ?_);rintro e w4 ⟨rfl,h4,f4⟩;obtain⟨⟨d3x4,d4x4⟩,dzx4⟩:=h4.facts;have H4:=Lib.hid h4;have F4:=Lib.hid f4;clear h4 f4))
    go_roundw
    case rel=>
     obtain⟨n',hn',hl'⟩:=HLG.out
     exact⟨n',_,_,H4.out,HF.out.trans (F1.out.trans F4.out),HZL.out.trans hl',hn',Nat.le_trans HPM.out.2 HMM.out⟩
    case measure=>
     have q1:=HAT.out
     have q2:=at_len H4.out.src
     have q3:=HPM.out.1
     have q4:=H4.out.src.len
     try dsimp only at q3
     omega
 ·have he:((mkS raw).toList==([126]:List UInt8))=false:=by rw[htl];simp[h1]
  cases hpb:Lib.hasPrefix raw [126,47] with
  | true=>
   have hst:Wd.start raw=(Wd.add (.mk 5 [] [] false []) Wd.R0,Wd.need [126] ⟨raw,0⟩):=by unfold Wd.start;rw[if_pos (.inr hpb)]
   rw[hst] at hz
   have HZ:=Lib.hid hz
   have HPB:=Lib.hid hpb
   clear hst hz h1 htl hpb hO hr
   go_enter Tryz.func22,Tryz.ntmps22
   go_wp2_with (first
    |(go_at_call 49;(with_reducible refine HOP.out.mono ?_);rintro e w8 ⟨rfl,h8,hl8⟩;obtain⟨⟨d3x8,d4x8⟩,dzx8⟩:=h8.facts;have H8:=Lib.hid h8;have HL8:=Lib.hid hl8;clear h8 hl8)
    |(go_at_call 50;have hp9:=has_pre raw [126,47] ⟨#[126,47]⟩ rfl w8;rw[HPB.out] at hp9;(with_reducible refine hp9.mono ?_);clear hp9;rintro e w9 ⟨rfl,rfl⟩)
    |(go_at_call 51;(with_reducible refine(need_r H8.out [126] ⟨#[126]⟩ rfl).mono ?_);rintro e w6 ⟨rfl,h6,f6⟩;obtain⟨⟨d3x6,d4x6⟩,dzx6⟩:=h6.facts;have H6:=Lib.hid h6;have F6:=Lib.hid f6;clear h6 f6)
    |(go_at_call 52;(with_reducible refine(add_r (p:=.mk 5 [] [] false []) H6.out.nil #[.int .i64 5,.string ⟨#[]⟩,.string ⟨#[]⟩,.bool false,.slice none 0 0] rfl (by simp)).mono ?_);rintro e w7 ⟨rfl,h7,f7⟩;obtain⟨⟨d3x7,d4x7⟩,dzx7⟩:=h7.facts;have H7:=Lib.hid h7;have F7:=Lib.hid f7;clear h7 f7))
   go_loopw [] (fun wr=>Lr W (fun b=>b<W.heap.size) (W.heap.size+1) W.heap.size raw 0 Wd.left (Wd.part (Wd.brace 8)) z 300010 wr) (fun wr=>raw.length-atS W.heap.size wr)
   case atStart=>exact⟨_,_,_,H7.out,(Fr.later HL8.out).trans (F6.out.trans F7.out),HZ.out,Nat.le_trans (Wd.need_len [126] ⟨raw,0⟩) (Nat.le_refl _),by have:=HRL.out;have:=Wd.add_m (.mk 5 [] [] false []) Wd.R0;have:=Wd.need_len [126] ⟨raw,0⟩;unfold Wd.m;simp[Wd.R0] at *;omega⟩
   case round=>
    obtain⟨n,r2,y,hr,hf,hzl,hn,hM⟩:=hrel
    obtain⟨⟨d3,d4⟩,dz⟩:=hr.facts
    have HR:=Lib.hid hr
    have HF:=Lib.hid hf
    have HZL:=Lib.hid hzl
    have HNN:=Lib.hid hn
    have HMM:=Lib.hid hM
    have HAT:=Lib.hid (at_len hr.src)
    clear hr hf hzl hn hM
    cases hlf:Wd.left y with
    | false=>
     have HLF:=Lib.hid hlf
     have HE:=Lib.hid (HZL.out.trans (loop_stop (y:=(r2,y)) hlf))
     clear hlf
     go_wp2_with (first
      |(go_at_call 53;(with_reducible refine(left_b HR.out false HLF.out).mono ?_);rintro e w1 ⟨rfl,h1,f1⟩;obtain⟨⟨d3x1,d4x1⟩,dzx1⟩:=h1.facts;have H1:=Lib.hid h1;have F1:=Lib.hid f1;clear h1 f1)
      |(go_at_call 55;(with_reducible refine(told_v H1.out (Nat.le_trans HMM.out (by omega))).mono ?_);rintro e w5 ⟨v5,rfl,h5,f5⟩;have H5:=Lib.hid h5;have F5:=Lib.hid f5;clear h5 f5))
     go_ret2
     exact⟨v5,by rw[HP.out,HE.out];rfl,by rw[HP.out,HE.out];exact H5.out,fr_later (HF.out.trans (F1.out.trans F5.out))⟩
    | true=>
     have HLF:=Lib.hid hlf
     have hne:=Wd.left_ne hlf
     have HNE:=Lib.hid hne
     have hpm:=(fun y hne=>Wd.part_m (Wd.brace_len 8) (r2,y) hne) y hne
     have HPM:=Lib.hid hpm
     have HLG:=Lib.hid (loop_go (y:=(r2,y)) (f:=Wd.part (Wd.brace 8)) hlf hne HNN.out hpm.1)
     clear hlf hne hpm
     go_wp2_with (first
      |(go_at_call 53;(with_reducible refine(left_b HR.out true HLF.out).mono ?_);rintro e w1 ⟨rfl,h1,f1⟩;obtain⟨⟨d3x1,d4x1⟩,dzx1⟩:=h1.facts;have H1:=Lib.hid h1;have F1:=Lib.hid f1;clear h1 f1)
      |(go_at_call 54;(with_reducible refine(part_v top H1.out (Nat.le_trans HMM.out (by omega)) HNE.out).mono ?_);rintro e w4 ⟨rfl,h4,f4⟩;obtain⟨⟨d3x4,d4x4⟩,dzx4⟩:=h4.facts;have H4:=Lib.hid h4;have F4:=Lib.hid f4;clear h4 f4))
     go_roundw
     case rel=>
      obtain⟨n',hn',hl'⟩:=HLG.out
      exact⟨n',_,_,H4.out,HF.out.trans (F1.out.trans F4.out),HZL.out.trans hl',hn',Nat.le_trans HPM.out.2 HMM.out⟩
     case measure=>
      have q1:=HAT.out
      have q2:=at_len H4.out.src
      have q3:=HPM.out.1
      have q4:=H4.out.src.len
      try dsimp only at q3
      omega
  | false=>
   have hst:Wd.start raw=(Wd.R0,⟨raw,0⟩):=by unfold Wd.start;rw[if_neg (by rw[hpb];simp[h1])]
   rw[hst] at hz
   have HZ:=Lib.hid hz
   have HPB:=Lib.hid hpb
   clear hst hz h1 htl hpb hO hr
   go_enter Tryz.func22,Tryz.ntmps22
   go_wp2_with (first
    |(go_at_call 49;(with_reducible refine HOP.out.mono ?_);rintro e w8 ⟨rfl,h8,hl8⟩;obtain⟨⟨d3x8,d4x8⟩,dzx8⟩:=h8.facts;have H8:=Lib.hid h8;have HL8:=Lib.hid hl8;clear h8 hl8)
    |(go_at_call 50;have hp9:=has_pre raw [126,47] ⟨#[126,47]⟩ rfl w8;rw[HPB.out] at hp9;(with_reducible refine hp9.mono ?_);clear hp9;rintro e w9 ⟨rfl,rfl⟩))
   go_loopw [] (fun wr=>Lr W (fun b=>b<W.heap.size) (W.heap.size+1) W.heap.size raw 0 Wd.left (Wd.part (Wd.brace 8)) z 300010 wr) (fun wr=>raw.length-atS W.heap.size wr)
   case atStart=>exact⟨_,_,_,H8.out,Fr.later HL8.out,HZ.out,Nat.le_refl _,by have:=HRL.out;unfold Wd.m;simp;omega⟩
   case round=>
    obtain⟨n,r2,y,hr,hf,hzl,hn,hM⟩:=hrel
    obtain⟨⟨d3,d4⟩,dz⟩:=hr.facts
    have HR:=Lib.hid hr
    have HF:=Lib.hid hf
    have HZL:=Lib.hid hzl
    have HNN:=Lib.hid hn
    have HMM:=Lib.hid hM
    have HAT:=Lib.hid (at_len hr.src)
    clear hr hf hzl hn hM
    cases hlf:Wd.left y with
    | false=>
     have HLF:=Lib.hid hlf
     have HE:=Lib.hid (HZL.out.trans (loop_stop (y:=(r2,y)) hlf))
     clear hlf
     go_wp2_with (first
      |(go_at_call 53;(with_reducible refine(left_b HR.out false HLF.out).mono ?_);rintro e w1 ⟨rfl,h1,f1⟩;obtain⟨⟨d3x1,d4x1⟩,dzx1⟩:=h1.facts;have H1:=Lib.hid h1;have F1:=Lib.hid f1;clear h1 f1)
      |(go_at_call 55;(with_reducible refine(told_v H1.out (Nat.le_trans HMM.out (by omega))).mono ?_);rintro e w5 ⟨v5,rfl,h5,f5⟩;have H5:=Lib.hid h5;have F5:=Lib.hid f5;clear h5 f5))
     go_ret2
     exact⟨v5,by rw[HP.out,HE.out];rfl,by rw[HP.out,HE.out];exact H5.out,fr_later (HF.out.trans (F1.out.trans F5.out))⟩
    | true=>
     have HLF:=Lib.hid hlf
     have hne:=Wd.left_ne hlf
     have HNE:=Lib.hid hne
     have hpm:=(fun y hne=>Wd.part_m (Wd.brace_len 8) (r2,y) hne) y hne
     have HPM:=Lib.hid hpm
     have HLG:=Lib.hid (loop_go (y:=(r2,y)) (f:=Wd.part (Wd.brace 8)) hlf hne HNN.out hpm.1)
     clear hlf hne hpm
     go_wp2_with (first
      |(go_at_call 53;(with_reducible refine(left_b HR.out true HLF.out).mono ?_);rintro e w1 ⟨rfl,h1,f1⟩;obtain⟨⟨d3x1,d4x1⟩,dzx1⟩:=h1.facts;have H1:=Lib.hid h1;have F1:=Lib.hid f1;clear h1 f1)
      |(go_at_call 54;(with_reducible refine(part_v top H1.out (Nat.le_trans HMM.out (by omega)) HNE.out).mono ?_);rintro e w4 ⟨rfl,h4,f4⟩;obtain⟨⟨d3x4,d4x4⟩,dzx4⟩:=h4.facts;have H4:=Lib.hid h4;have F4:=Lib.hid f4;clear h4 f4))
     go_roundw
     case rel=>
      obtain⟨n',hn',hl'⟩:=HLG.out
      exact⟨n',_,_,H4.out,HF.out.trans (F1.out.trans F4.out),HZL.out.trans hl',hn',Nat.le_trans HPM.out.2 HMM.out⟩
     case measure=>
      have q1:=HAT.out
      have q2:=at_len H4.out.src
      have q3:=HPM.out.1
      have q4:=H4.out.src.len
      try dsimp only at q3
      omega
end
end Ws
end Go.Proofs.YtipdgmjplnibeaaGreatDoor
