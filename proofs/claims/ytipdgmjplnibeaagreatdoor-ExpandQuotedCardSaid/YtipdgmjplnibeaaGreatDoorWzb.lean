import Derived.Test.YtipdgmjplnibeaaGreatDoorWza
set_option maxRecDepth 100000
set_option maxHeartbeats 3200000
namespace Go.Proofs.YtipdgmjplnibeaaGreatDoor
open Go.RowKit Go.Maps
set_option maxRecDepth 100000
namespace Ws
section
variable {W W':World} {X T:Nat→Prop} {g s dp:Nat} {raw:L} {r:Wd.R} {x x':Wd.S} {br:Wd.S→Wd.P×Wd.S}
theorem brace_ok:∀ d,d≤8→BrOk (8-d) (Wd.brace d)
 | 0,_=>⟨Wd.brace_len 0,fun h=>brace_deep h⟩
 | d+1,hd=>by
  have ih:=brace_ok d (by omega)
  have e1:8-(d+1)+1=8-d:=by omega
  refine⟨Wd.brace_len (d+1),fun h=>brace_v (wd:=Wd.word (Wd.brace d)) ⟨Wd.word_len (Wd.brace_len d),fun h2=>word_v (by rw[e1];exact ih) h2 (by omega)⟩ (by omega) h⟩
theorem top:BrOk 0 (Wd.brace 8):=brace_ok 8 (by omega)
def Pg (W:World) (y:List Wd.P×Nat) (e:Ending) (W':World):Prop:=∃ v,e=.returned (.tuple #[v,.int .i64 (y.2:Int)])∧PsAt W' (fun _=>True) v y.1∧Later W W'
theorem told_v (h:RM W X g s raw dp r x) (hm:Wd.m (r,x)≤1000000):Calls Tryz.prog 55 #[.pointer (some ⟨g,0,none⟩)] W fun e W'=>∃ v,e=.returned (.tuple #[v,.int .i64 ((Wd.told (r,x)).2:Int)])∧PsAt W' (fun _=>True) v (Wd.told (r,x)).1∧Fr X W W':=by
 obtain⟨⟨d3,d4⟩,dz⟩:=h.facts
 obtain⟨p,hs⟩:=h.src
 obtain⟨⟨c0,c1,c2⟩,cz⟩:=hs.facts
 obtain⟨T6,h6⟩:=all_r h hm (Nat.le_refl _)
 have HAL:=Lib.hid h6
 clear hs h6 h
 by_cases he:x.e=0
 ·have e1:Wd.told (r,x)=(Wd.all r,0):=by unfold Wd.told;rw[if_neg (by simpa using he)]
  rw[e1]
  have hb:((x.e:Int) != 0)=false:=by simp[he]
  clear he e1
  go_enter Tryz.func55,Tryz.ntmps55
  go_wp2_with (go_at_call 86;(with_reducible refine HAL.out.mono ?_);rintro e w6 ⟨v6,rfl,h6⟩;have H6:=Lib.hid h6;clear h6)
  go_ret2
  exact⟨v6,rfl,H6.out.1.kept (Nat.le_refl _) (fun _ _ _=>rfl) (fun _ _=>trivial),H6.out.2.1.sub fun b hb=>.inl hb⟩
 ·have e1:Wd.told (r,x)=([],x.e):=by unfold Wd.told;rw[if_pos (by simpa using he)]
  rw[e1]
  have hb:((x.e:Int) != 0)=true:=by simp[he]
  clear he e1
  go_enter Tryz.func55,Tryz.ntmps55
  go_wp2
  go_quiet (fail)
  go_wp2
  go_ret2
  exact⟨_,rfl,.nil _ _,Fr.later (later_drewN W _)⟩
theorem open_v (raw:L) (hr:raw.length≤100000) (hO:Ops W) (ho:4<W.heap.size):Calls Tryz.prog 49 #[.string (mkS raw)] W fun e W'=>e=.returned (.pointer (some ⟨W.heap.size+1,0,none⟩))∧RM W' (fun b=>b<W.heap.size) (W.heap.size+1) W.heap.size raw 0 ⟨[],0,[]⟩ ⟨raw,0⟩∧Later W W':=by
 have hl1:=Later.alloc W (.cells (srcC raw 0 0) 132)
 obtain⟨w1,hw1⟩:∃ w1,w1=W.alloc (.cells (srcC raw 0 0) 132):=⟨_,rfl⟩
 rw[←hw1] at hl1
 have hz1:w1.heap.size=W.heap.size+1:=by rw[hw1];simp
 have hb1:w1.heap[W.heap.size]?=some (.cells (srcC raw 0 0) 132 (0,0)):=by rw[hw1];exact heap_alloc_new W _
 have hl2:=Later.alloc w1 (.cells (rc (.slice none 0 0) (.slice none 0 0) 0 W.heap.size 0) 102)
 obtain⟨w2,hw2⟩:∃ w2,w2=w1.alloc (.cells (rc (.slice none 0 0) (.slice none 0 0) 0 W.heap.size 0) 102):=⟨_,rfl⟩
 rw[←hw2] at hl2
 have hin:RM w2 (fun b=>b<W.heap.size) (W.heap.size+1) W.heap.size raw 0 ⟨[],0,[]⟩ ⟨raw,0⟩:=
  fresh (hl1.trans hl2) (by rw[hw2,←hz1];exact heap_alloc_new w1 _) ⟨0,later_cells hl2 hb1,rfl,by simp,hr⟩ (by omega) (by omega) (fun b e=>Nat.lt_of_lt_of_le e (hl1.trans hl2).size) ho (hO.kept ((hl1.trans hl2).block _ ho))
 have HIN:=Lib.hid hin
 have HL:=Lib.hid (hl1.trans hl2)
 have HW:=Lib.hid (show w2=(W.alloc (.cells #[.string (mkS raw),.int .i64 0,.int .i64 0] 132)).alloc (.cells #[.slice none 0 0,.int .i64 0,.slice none 0 0,.pointer (some ⟨W.heap.size,0,none⟩),.int .i64 0] 102) by rw[hw2,hw1];rfl)
 clear hw1 hw2 hl1 hl2 hz1 hb1 hin
 go_enter Tryz.func49,Tryz.ntmps49
 go_wp2
 rw[←HW.out]
 go_ret
 exact⟨rfl,HIN.out,HL.out⟩
theorem fr_later (h:Fr (fun b=>b<W.heap.size) W W'):Later W W':=⟨h.os,h.tape,h.output,h.size,fun k hk=>h.block k hk hk⟩
theorem has_pre (l t:L) (ts:ByteArray) (ht:ts=mkS t) (W:World):Calls Tryz.prog 50 #[.string (mkS l),.string ts] W fun e W'=>e=.returned (.bool (Lib.hasPrefix l t))∧W'=W:=by
 subst ht
 have:=Tryz.strings_HasPrefix (mkS l) (mkS t) W
 rw[mkS_list,mkS_list] at this
 exact this
theorem parse_v (raw:L) (hr:raw.length≤100000) (hO:Ops W) (ho:4<W.heap.size):Calls Tryz.prog 22 #[.string (mkS raw)] W (Pg W (Wd.parse raw)):=by
 have HOP:=Lib.hid (open_v raw hr hO ho)
 obtain⟨z,hz⟩:∃ z,z=Wd.loop Wd.left (Wd.part (Wd.brace 8)) raw.length (Wd.start raw):=⟨_,rfl⟩
 have HP:=Lib.hid (show Wd.parse raw=Wd.told z by rw[hz];rfl)
 have HRL:=Lib.hid hr
 have htl:=toList_mkS raw
 by_cases h1:raw=[126]
 ·have hst:Wd.start raw=(Wd.add (.mk 5 [] [] false []) Wd.R0,Wd.need [126] ⟨raw,0⟩):=by unfold Wd.start;rw[if_pos (.inl h1)]
  rw[hst] at hz
  have HZ:=Lib.hid hz
  have he:((mkS raw).toList==([126]:List UInt8))=true:=by rw[htl];simp[h1]
  clear hst hz h1 htl hO hr
  go_enter Tryz.func22,Tryz.ntmps22
  go_wp2_with (first
   |(go_at_call 49;(with_reducible refine HOP.out.mono ?_);rintro e w8 ⟨rfl,h8,hl8⟩;obtain⟨⟨d3x8,d4x8⟩,dzx8⟩:=h8.facts;have H8:=Lib.hid h8;have HL8:=Lib.hid hl8;clear h8 hl8)
   |(go_at_call 51;(with_reducible refine(need_r H8.out [126] ⟨#[126]⟩ rfl).mono ?_);rintro e w6 ⟨rfl,h6,f6⟩;obtain⟨⟨d3x6,d4x6⟩,dzx6⟩:=h6.facts;have H6:=Lib.hid h6;have F6:=Lib.hid f6;clear h6 f6)
   |(go_at_call 52;(with_reducible refine(add_r (p:=.mk 5 [] [] false []) H6.out.nil #[.int .i64 5,.string ⟨#[]⟩,.string ⟨#[]⟩,.bool false,.slice none 0 0] rfl (by simp)).mono ?_);rintro e w7 ⟨rfl,h7,f7⟩;obtain⟨⟨d3x7,d4x7⟩,dzx7⟩:=h7.facts;have H7:=Lib.hid h7;have F7:=Lib.hid f7;clear h7 f7))
  go_loopw [] (fun wr=>Lr W (fun b=>b<W.heap.size) (W.heap.size+1) W.heap.size raw 0 Wd.left (Wd.part (Wd.brace 8)) z 300010 wr) (fun wr=>raw.length-atS W.heap.size wr)
  case atStart=>exact⟨_,_,_,H7.out,(Fr.later HL8.out).trans (F6.out.trans F7.out),HZ.out,Nat.le_trans (Wd.need_len [126] ⟨raw,0⟩) (Nat.le_refl _),by have:=HRL.out;have:=Wd.add_m (.mk 5 [] [] false []) Wd.R0;have:=Wd.need_len [126] ⟨raw,0⟩;unfold Wd.m;simp[Wd.R0] at *;omega⟩
  case round=>
   obtain⟨n,r2,y,hr,hf,hzl,hn,hM⟩:=hrel
   obtain⟨⟨d3,d4⟩,dz⟩:=hr.facts
   have HR:=Lib.hid hr
   have HF:=Lib.hid hf
   have HZL:=Lib.hid hzl
   have HNN:=Lib.hid hn
   have HMM:=Lib.hid hM
   have HAT:=Lib.hid (at_len hr.src)
   clear hr hf hzl hn hM
   cases hlf:Wd.left y with
   | false=>
    have HLF:=Lib.hid hlf
    have HE:=Lib.hid (HZL.out.trans (loop_stop (y:=(r2,y)) hlf))
    clear hlf
    go_wp2_with (first
     |(go_at_call 53;(with_reducible refine(left_b HR.out false HLF.out).mono ?_);rintro e w1 ⟨rfl,h1,f1⟩;obtain⟨⟨d3x1,d4x1⟩,dzx1⟩:=h1.facts;have H1:=Lib.hid h1;have F1:=Lib.hid f1;clear h1 f1)
     |(go_at_call 55;(with_reducible refine(told_v H1.out (Nat.le_trans HMM.out (by omega))).mono ?_);rintro e w5 ⟨v5,rfl,h5,f5⟩;have H5:=Lib.hid h5;have F5:=Lib.hid f5;clear h5 f5))
    go_ret2
    exact⟨v5,by rw[HP.out,HE.out];rfl,by rw[HP.out,HE.out];exact H5.out,fr_later (HF.out.trans (F1.out.trans F5.out))⟩
   | true=>
    have HLF:=Lib.hid hlf
    have hne:=Wd.left_ne hlf
    have HNE:=Lib.hid hne
    have hpm:=(fun y hne=>Wd.part_m (Wd.brace_len 8) (r2,y) hne) y hne
    have HPM:=Lib.hid hpm
    have HLG:=Lib.hid (loop_go (y:=(r2,y)) (f:=Wd.part (Wd.brace 8)) hlf hne HNN.out hpm.1)
    clear hlf hne hpm
    go_wp2_with (first
     |(go_at_call 53;(with_reducible refine(left_b HR.out true HLF.out).mono ?_);rintro e w1 ⟨rfl,h1,f1⟩;obtain⟨⟨d3x1,d4x1⟩,dzx1⟩:=h1.facts;have H1:=Lib.hid h1;have F1:=Lib.hid f1;clear h1 f1)
     |(go_at_call 54;(with_reducible refine(part_v top H1.out (Nat.le_trans HMM.out (by omega)) HNE.out).mono ?_);rintro e w4 ⟨rfl,h4,f4⟩;obtain⟨⟨d3x4,d4x4⟩,dzx4⟩:=h4.facts;have H4:=Lib.hid h4;have F4:=Lib.hid f4;clear h4 f4))
    go_roundw
    case rel=>
     obtain⟨n',hn',hl'⟩:=HLG.out
     exact⟨n',_,_,H4.out,HF.out.trans (F1.out.trans F4.out),HZL.out.trans hl',hn',Nat.le_trans HPM.out.2 HMM.out⟩
    case measure=>
     have q1:=HAT.out
     have q2:=at_len H4.out.src
     have q3:=HPM.out.1
     have q4:=H4.out.src.len
     try dsimp only at q3
     omega
 ·have he:((mkS raw).toList==([126]:List UInt8))=false:=by rw[htl];simp[h1]
  cases hpb:Lib.hasPrefix raw [126,47] with
  | true=>
   have hst:Wd.start raw=(Wd.add (.mk 5 [] [] false []) Wd.R0,Wd.need [126] ⟨raw,0⟩):=by unfold Wd.start;rw[if_pos (.inr hpb)]
   rw[hst] at hz
   have HZ:=Lib.hid hz
   have HPB:=Lib.hid hpb
   clear hst hz h1 htl hpb hO hr
   go_enter Tryz.func22,Tryz.ntmps22
   go_wp2_with (first
    |(go_at_call 49;(with_reducible refine HOP.out.mono ?_);rintro e w8 ⟨rfl,h8,hl8⟩;obtain⟨⟨d3x8,d4x8⟩,dzx8⟩:=h8.facts;have H8:=Lib.hid h8;have HL8:=Lib.hid hl8;clear h8 hl8)
    |(go_at_call 50;have hp9:=has_pre raw [126,47] ⟨#[126,47]⟩ rfl w8;rw[HPB.out] at hp9;(with_reducible refine hp9.mono ?_);clear hp9;rintro e w9 ⟨rfl,rfl⟩)
    |(go_at_call 51;(with_reducible refine(need_r H8.out [126] ⟨#[126]⟩ rfl).mono ?_);rintro e w6 ⟨rfl,h6,f6⟩;obtain⟨⟨d3x6,d4x6⟩,dzx6⟩:=h6.facts;have H6:=Lib.hid h6;have F6:=Lib.hid f6;clear h6 f6)
    |(go_at_call 52;(with_reducible refine(add_r (p:=.mk 5 [] [] false []) H6.out.nil #[.int .i64 5,.string ⟨#[]⟩,.string ⟨#[]⟩,.bool false,.slice none 0 0] rfl (by simp)).mono ?_);rintro e w7 ⟨rfl,h7,f7⟩;obtain⟨⟨d3x7,d4x7⟩,dzx7⟩:=h7.facts;have H7:=Lib.hid h7;have F7:=Lib.hid f7;clear h7 f7))
   go_loopw [] (fun wr=>Lr W (fun b=>b<W.heap.size) (W.heap.size+1) W.heap.size raw 0 Wd.left (Wd.part (Wd.brace 8)) z 300010 wr) (fun wr=>raw.length-atS W.heap.size wr)
   case atStart=>exact⟨_,_,_,H7.out,(Fr.later HL8.out).trans (F6.out.trans F7.out),HZ.out,Nat.le_trans (Wd.need_len [126] ⟨raw,0⟩) (Nat.le_refl _),by have:=HRL.out;have:=Wd.add_m (.mk 5 [] [] false []) Wd.R0;have:=Wd.need_len [126] ⟨raw,0⟩;unfold Wd.m;simp[Wd.R0] at *;omega⟩
   case round=>
    obtain⟨n,r2,y,hr,hf,hzl,hn,hM⟩:=hrel
    obtain⟨⟨d3,d4⟩,dz⟩:=hr.facts
    have HR:=Lib.hid hr
    have HF:=Lib.hid hf
    have HZL:=Lib.hid hzl
    have HNN:=Lib.hid hn
    have HMM:=Lib.hid hM
    have HAT:=Lib.hid (at_len hr.src)
    clear hr hf hzl hn hM
    cases hlf:Wd.left y with
    | false=>
     have HLF:=Lib.hid hlf
     have HE:=Lib.hid (HZL.out.trans (loop_stop (y:=(r2,y)) hlf))
     clear hlf
     go_wp2_with (first
      |(go_at_call 53;(with_reducible refine(left_b HR.out false HLF.out).mono ?_);rintro e w1 ⟨rfl,h1,f1⟩;obtain⟨⟨d3x1,d4x1⟩,dzx1⟩:=h1.facts;have H1:=Lib.hid h1;have F1:=Lib.hid f1;clear h1 f1)
      |(go_at_call 55;(with_reducible refine(told_v H1.out (Nat.le_trans HMM.out (by omega))).mono ?_);rintro e w5 ⟨v5,rfl,h5,f5⟩;have H5:=Lib.hid h5;have F5:=Lib.hid f5;clear h5 f5))
     go_ret2
     exact⟨v5,by rw[HP.out,HE.out];rfl,by rw[HP.out,HE.out];exact H5.out,fr_later (HF.out.trans (F1.out.trans F5.out))⟩
    | true=>
     have HLF:=Lib.hid hlf
     have hne:=Wd.left_ne hlf
     have HNE:=Lib.hid hne
     have hpm:=(fun y hne=>Wd.part_m (Wd.brace_len 8) (r2,y) hne) y hne
     have HPM:=Lib.hid hpm
     have HLG:=Lib.hid (loop_go (y:=(r2,y)) (f:=Wd.part (Wd.brace 8)) hlf hne HNN.out hpm.1)
     clear hlf hne hpm
     go_wp2_with (first
      |(go_at_call 53;(with_reducible refine(left_b HR.out true HLF.out).mono ?_);rintro e w1 ⟨rfl,h1,f1⟩;obtain⟨⟨d3x1,d4x1⟩,dzx1⟩:=h1.facts;have H1:=Lib.hid h1;have F1:=Lib.hid f1;clear h1 f1)
      |(go_at_call 54;(with_reducible refine(part_v top H1.out (Nat.le_trans HMM.out (by omega)) HNE.out).mono ?_);rintro e w4 ⟨rfl,h4,f4⟩;obtain⟨⟨d3x4,d4x4⟩,dzx4⟩:=h4.facts;have H4:=Lib.hid h4;have F4:=Lib.hid f4;clear h4 f4))
     go_roundw
     case rel=>
      obtain⟨n',hn',hl'⟩:=HLG.out
      exact⟨n',_,_,H4.out,HF.out.trans (F1.out.trans F4.out),HZL.out.trans hl',hn',Nat.le_trans HPM.out.2 HMM.out⟩
     case measure=>
      have q1:=HAT.out
      have q2:=at_len H4.out.src
      have q3:=HPM.out.1
      have q4:=H4.out.src.len
      try dsimp only at q3
      omega
  | false=>
   have hst:Wd.start raw=(Wd.R0,⟨raw,0⟩):=by unfold Wd.start;rw[if_neg (by rw[hpb];simp[h1])]
   rw[hst] at hz
   have HZ:=Lib.hid hz
   have HPB:=Lib.hid hpb
   clear hst hz h1 htl hpb hO hr
   go_enter Tryz.func22,Tryz.ntmps22
   go_wp2_with (first
    |(go_at_call 49;(with_reducible refine HOP.out.mono ?_);rintro e w8 ⟨rfl,h8,hl8⟩;obtain⟨⟨d3x8,d4x8⟩,dzx8⟩:=h8.facts;have H8:=Lib.hid h8;have HL8:=Lib.hid hl8;clear h8 hl8)
    |(go_at_call 50;have hp9:=has_pre raw [126,47] ⟨#[126,47]⟩ rfl w8;rw[HPB.out] at hp9;(with_reducible refine hp9.mono ?_);clear hp9;rintro e w9 ⟨rfl,rfl⟩))
   go_loopw [] (fun wr=>Lr W (fun b=>b<W.heap.size) (W.heap.size+1) W.heap.size raw 0 Wd.left (Wd.part (Wd.brace 8)) z 300010 wr) (fun wr=>raw.length-atS W.heap.size wr)
   case atStart=>exact⟨_,_,_,H8.out,Fr.later HL8.out,HZ.out,Nat.le_refl _,by have:=HRL.out;unfold Wd.m;simp;omega⟩
   case round=>
    obtain⟨n,r2,y,hr,hf,hzl,hn,hM⟩:=hrel
    obtain⟨⟨d3,d4⟩,dz⟩:=hr.facts
    have HR:=Lib.hid hr
    have HF:=Lib.hid hf
    have HZL:=Lib.hid hzl
    have HNN:=Lib.hid hn
    have HMM:=Lib.hid hM
    have HAT:=Lib.hid (at_len hr.src)
    clear hr hf hzl hn hM
    cases hlf:Wd.left y with
    | false=>
     have HLF:=Lib.hid hlf
     have HE:=Lib.hid (HZL.out.trans (loop_stop (y:=(r2,y)) hlf))
     clear hlf
     go_wp2_with (first
      |(go_at_call 53;(with_reducible refine(left_b HR.out false HLF.out).mono ?_);rintro e w1 ⟨rfl,h1,f1⟩;obtain⟨⟨d3x1,d4x1⟩,dzx1⟩:=h1.facts;have H1:=Lib.hid h1;have F1:=Lib.hid f1;clear h1 f1)
      |(go_at_call 55;(with_reducible refine(told_v H1.out (Nat.le_trans HMM.out (by omega))).mono ?_);rintro e w5 ⟨v5,rfl,h5,f5⟩;have H5:=Lib.hid h5;have F5:=Lib.hid f5;clear h5 f5))
     go_ret2
     exact⟨v5,by rw[HP.out,HE.out];rfl,by rw[HP.out,HE.out];exact H5.out,fr_later (HF.out.trans (F1.out.trans F5.out))⟩
    | true=>
     have HLF:=Lib.hid hlf
     have hne:=Wd.left_ne hlf
     have HNE:=Lib.hid hne
     have hpm:=(fun y hne=>Wd.part_m (Wd.brace_len 8) (r2,y) hne) y hne
     have HPM:=Lib.hid hpm
     have HLG:=Lib.hid (loop_go (y:=(r2,y)) (f:=Wd.part (Wd.brace 8)) hlf hne HNN.out hpm.1)
     clear hlf hne hpm
     go_wp2_with (first
      |(go_at_call 53;(with_reducible refine(left_b HR.out true HLF.out).mono ?_);rintro e w1 ⟨rfl,h1,f1⟩;obtain⟨⟨d3x1,d4x1⟩,dzx1⟩:=h1.facts;have H1:=Lib.hid h1;have F1:=Lib.hid f1;clear h1 f1)
      |(go_at_call 54;(with_reducible refine(part_v top H1.out (Nat.le_trans HMM.out (by omega)) HNE.out).mono ?_);rintro e w4 ⟨rfl,h4,f4⟩;obtain⟨⟨d3x4,d4x4⟩,dzx4⟩:=h4.facts;have H4:=Lib.hid h4;have F4:=Lib.hid f4;clear h4 f4))
     go_roundw
     case rel=>
      obtain⟨n',hn',hl'⟩:=HLG.out
      exact⟨n',_,_,H4.out,HF.out.trans (F1.out.trans F4.out),HZL.out.trans hl',hn',Nat.le_trans HPM.out.2 HMM.out⟩
     case measure=>
      have q1:=HAT.out
      have q2:=at_len H4.out.src
      have q3:=HPM.out.1
      have q4:=H4.out.src.len
      try dsimp only at q3
      omega
end
end Ws
end Go.Proofs.YtipdgmjplnibeaaGreatDoor
