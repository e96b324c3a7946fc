import Derived.Test.YtipdgmjplnibeaaGreatDoorG34
set_option maxRecDepth 100000
set_option maxHeartbeats 3200000
namespace Go.Proofs.YtipdgmjplnibeaaGreatDoor
open Go.RowKit Go.Maps
set_option maxRecDepth 100000
namespace Ws
section
variable {W W':World} {X T:Nat→Prop} {g s dp:Nat} {raw:L} {r:Wd.R} {x x':Wd.S}
theorem results_part {fn:Func} {p:Tmp} (h:fn.results=#[.cell p 105]) (tmps:Array Value) (w:World) (g:Nat) (cs:Array Value) (fr:Nat×Nat) (hp:tmps.getD p undef=.pointer (some ⟨g,0,none⟩)) (hg:w.heap[g]?=some (.cells cs 105 fr)) (hs:cs.size=5):(results fn tmps).run Tryz.prog w=.ok (.agg cs) w:=
 results_cell_row h tmps w g _ cs fr _ hp hg Tryz.underlying105 rfl (by rw[hs];kernel_rfl)
theorem RMv_shape {v:Value} {ps:List Wd.P} (h:RMv W X g s raw dp r x v ps):∃ A n c,v=.slice A n c:=by obtain⟨T,_,h2⟩:=h;obtain⟨_,A,c,e⟩:=h2.one;exact⟨A,_,c,e⟩
theorem other {rb:Nat} {v:Value} {ps:List Wd.P} (h:RMv W (plus X [rb]) g s raw dp r x v ps) (ho:X 4) (hX:¬ X rb) (hg:W.grownBy W' (some rb)):RMv W' X g s raw dp r x v ps:=by
 obtain⟨T,⟨vp,vt,nd,h⟩,h2⟩:=h
 have hp:plus X [rb] rb:=.inr (by simp)
 have ne:∀ b,¬ plus X [rb] b→some b≠some rb:=fun b hb e=>by injection e with e;exact hb (by rw[e];exact hp)
 have hk:∀ b,T b→b<W.heap.size→W'.heap[b]?=W.heap[b]?:=fun b hT hlt=>hg.block b hlt (ne b fun hb=>h.xt b hb hT)
 have row:∀ {base size n:Nat} {e:TypeId} {v:Value} {xs:List Value},W.ownsRow base e size v n xs→(∀ b,v.ownBlock=some b→¬ plus X [rb] b)→W'.ownsRow base e size v n xs:=fun {base size n e v xs} h1 h3=>h1.kept hg (by
  cases e1:v.ownBlock with
  | none=>exact .inl rfl
  | some b=>exact .inr (ne b (h3 b e1)))
 have hgne:4≠rb:=fun e=>hX (by rw[←e];exact ho)
 refine⟨T,⟨vp,vt,nd,(hg.block g h.lt (ne g h.gX)).trans h.box,h.src.kept hg (ne s h.sX),fun e=>h.gX (.inl e),fun e=>h.sX (.inl e),h.gT,h.sT,row h.txt h.tX,fun b e e2=>h.tX b e (.inl e2),h.tT,row h.row h.pX,fun b e e2=>h.pX b e (.inl e2),h.pT,h.ps,tree_kept h.tree hg.size hk,h.kk,fun b e=>Nat.lt_of_lt_of_le (h.xl b (.inl e)) hg.size,h.tl.mono hg.size,fun b e=>h.xt b (.inl e),ho,h.op.kept (hg.block _ (h.xl _ h.og) (fun e=>hgne (by injection e)))⟩,h2.kept hg.size hk fun _ hb=>hb⟩
theorem fin_p {W0 W1 w w':World} {v:Value} {ps:List Wd.P} {r0:Wd.R} {x0:Wd.S} (h0:RM W0 X g s raw dp r0 x0) (hl:Later W0 W1) (h:RMv w (plus X [W0.heap.size]) g s raw dp r x v ps) (hf:Fr (plus X [W0.heap.size]) W1 w) (hg:w.grownBy w' (some W0.heap.size)):RMv w' X g s raw dp r x v ps∧Fr X W0 w':=by
 have hX:¬ X W0.heap.size:=fun e=>by have:=h0.xl _ e;omega
 refine⟨other h h0.og hX hg,(Fr.later hl).trans (hf.less.trans (Fr.grown hg fun b e=>by injection e with e;rw[←e];exact hX))⟩
structure BrOk (dp:Nat) (br:Wd.S→Wd.P×Wd.S):Prop where
 le:∀ s,(br s).2.l.length≤s.l.length
 run:∀ {W:World} {X:Nat→Prop} {g s:Nat} {raw:L} {r:Wd.R} {x:Wd.S},RM W X g s raw dp r x→Calls Tryz.prog 149 #[.pointer (some ⟨g,0,none⟩)] W (Rp W X g s raw dp r (br x))
structure WdOk (dp:Nat) (wd:Wd.S→List Wd.P×Wd.S):Prop where
 le:∀ s,(wd s).2.l.length≤s.l.length
 run:∀ {W:World} {X:Nat→Prop} {g s:Nat} {raw:L} {r:Wd.R} {x:Wd.S},RM W X g s raw dp r x→Calls Tryz.prog 177 #[.pointer (some ⟨g,0,none⟩)] W fun e W'=>∃ vw,e=.returned vw∧RMv W' X g s raw dp r (wd x).2 vw (wd x).1∧Fr X W W'
theorem value_v {br:Wd.S→Wd.P×Wd.S} (hb:BrOk dp br) (h:RM W X g s raw dp r x):Calls Tryz.prog 118 #[.pointer (some ⟨g,0,none⟩)] W (Rp W X g s raw dp r (Wd.value br x)):=by
 have H:=Lib.hid h
 have HBR:=Lib.hid hb
 have HSM:=Lib.hid (small_r h)
 clear h hb
 unfold Wd.value
 cases ha:Wd.ahead [123] x with
 | true=>
  rw[if_pos rfl]
  have HA:=Lib.hid ha
  clear ha
  go_enter Tryz.func118,Tryz.ntmps118
  go_wp2_with (first
   |(refine wpList_allocO 2 rfl rfl 105 rfl _ 5 info_part ?_;intro w0 hb0 hl0 hsz0;have h0:=H.out.more hl0 [W.heap.size] (by intro b hb;simp at hb;subst hb;omega);obtain⟨⟨d3x0,d4x0⟩,dzx0⟩:=h0.facts;have H0:=Lib.hid h0;have HL0:=Lib.hid hl0;have HB0:=Lib.hid hb0;clear hb0 hl0 hsz0 h0)
   |(go_at_call 78;(with_reducible refine(take_t H0.out [123] ⟨#[123]⟩ rfl HA.out).mono ?_);rintro e w1 ⟨rfl,h1,f1⟩;obtain⟨⟨d3x1,d4x1⟩,dzx1⟩:=h1.facts;have H1:=Lib.hid h1;have F1:=Lib.hid f1;have HB1:=Lib.hid (f1.cells HB0.out (.inr (by simp)));clear h1 f1)
   |(go_at_call 149;(with_reducible refine(HBR.out.run H1.out).mono ?_);rintro e w2 ⟨vw,rfl,h2,f2⟩;obtain⟨⟨d3x2,d4x2⟩,dzx2⟩:=h2.rm.facts;have H2:=Lib.hid h2;have F2:=Lib.hid f2;have HB2:=Lib.hid (f2.cells HB1.out (.inr (by simp)));have HVO:=Lib.hid (RMv_shape h2);clear h2 f2)
   |(refine wpList_storeO rfl 105 (.tmp 2) (.tmp 11) rfl W.heap.size _ _ rfl rfl HB2.out size_part rfl (by first | rfl | (simp[Value.oneCell'];done) | (obtain⟨A9,n9,c9,e9⟩:=HVO.out;rw[e9];simp[Value.oneCell'])) ?_;intro w9 hb9 hg9 hs9;have HB9:=Lib.hid hb9;have HG9:=Lib.hid hg9;clear hb9 hg9 hs9))
  refine bodyPost_ret (results_part rfl _ _ W.heap.size _ (0,0) rfl HB9.out rfl) rfl ?_
  have q:=fin_p H.out HL0.out (H2.out) (F1.out.trans (F2.out)) HG9.out
  exact⟨_,rfl,q.1,q.2⟩
 | false=>
  rw[if_neg (by simp)]
  have HA:=Lib.hid ha
  clear ha
  cases ha2:Wd.ahead [40,40] x with
  | true=>
   rw[if_pos rfl]
   have HA2:=Lib.hid ha2
   clear ha2
   go_enter Tryz.func118,Tryz.ntmps118
   go_wp2_with (first
    |(refine wpList_allocO 2 rfl rfl 105 rfl _ 5 info_part ?_;intro w0 hb0 hl0 hsz0;have h0:=H.out.more hl0 [W.heap.size] (by intro b hb;simp at hb;subst hb;omega);obtain⟨⟨d3x0,d4x0⟩,dzx0⟩:=h0.facts;have H0:=Lib.hid h0;have HL0:=Lib.hid hl0;have HB0:=Lib.hid hb0;clear hb0 hl0 hsz0 h0)
    |(go_at_call 78;(with_reducible refine(take_f H0.out [123] ⟨#[123]⟩ rfl HA.out).mono ?_);rintro e w1 ⟨rfl,h1,f1⟩;obtain⟨⟨d3x1,d4x1⟩,dzx1⟩:=h1.facts;have H1:=Lib.hid h1;have F1:=Lib.hid f1;have HB1:=Lib.hid (f1.cells HB0.out (.inr (by simp)));clear h1 f1)
    |(go_at_call 78;(with_reducible refine(take_t H1.out [40,40] ⟨#[40,40]⟩ rfl HA2.out).mono ?_);rintro e w2 ⟨rfl,h2,f2⟩;obtain⟨⟨d3x2,d4x2⟩,dzx2⟩:=h2.facts;have H2:=Lib.hid h2;have F2:=Lib.hid f2;have HB2:=Lib.hid (f2.cells HB1.out (.inr (by simp)));clear h2 f2)
    |(go_at_call 150;(with_reducible refine(reckoned_v H2.out).mono ?_);rintro e w3 ⟨rfl,h3,f3⟩;obtain⟨⟨d3x3,d4x3⟩,dzx3⟩:=h3.facts;have H3:=Lib.hid h3;have F3:=Lib.hid f3;have HB3:=Lib.hid (f3.cells HB2.out (.inr (by simp)));clear h3 f3)
    |(refine wpList_storeO rfl 105 (.tmp 2) (.tmp 20) rfl W.heap.size _ _ rfl rfl HB3.out size_part rfl (by first | rfl | (simp[Value.oneCell'];done) | exact HPO.out) ?_;intro w9 hb9 hg9 hs9;have HB9:=Lib.hid hb9;have HG9:=Lib.hid hg9;clear hb9 hg9 hs9))
   refine bodyPost_ret (results_part rfl _ _ W.heap.size _ (0,0) rfl HB9.out rfl) rfl ?_
   have q:=fin_p H.out HL0.out (H3.out.nil) (F1.out.trans (F2.out.trans (F3.out))) HG9.out
   exact⟨_,rfl,q.1,q.2⟩
  | false=>
   rw[if_neg (by simp)]
   have HA2:=Lib.hid ha2
   clear ha2
   cases ha3:Wd.ahead [40] x with
   | true=>
    have hpr:Wd.paren x=Wd.fail 11 x:=by unfold Wd.paren;rw[ha3];rfl
    rw[hpr,show (Wd.fail 11 x).l=[] from rfl,if_pos (show Wd.param []=[] from rfl)]
    have HA3:=Lib.hid ha3
    clear ha3 hpr
    have he:((mkS []).toList==([]:List UInt8))=true:=by rw[nil_eq];rfl
    go_enter Tryz.func118,Tryz.ntmps118
    go_wp2_with (first
     |(refine wpList_allocO 2 rfl rfl 105 rfl _ 5 info_part ?_;intro w0 hb0 hl0 hsz0;have h0:=H.out.more hl0 [W.heap.size] (by intro b hb;simp at hb;subst hb;omega);obtain⟨⟨d3x0,d4x0⟩,dzx0⟩:=h0.facts;have H0:=Lib.hid h0;have HL0:=Lib.hid hl0;have HB0:=Lib.hid hb0;clear hb0 hl0 hsz0 h0)
     |(go_at_call 78;(with_reducible refine(take_f H0.out [123] ⟨#[123]⟩ rfl HA.out).mono ?_);rintro e w1 ⟨rfl,h1,f1⟩;obtain⟨⟨d3x1,d4x1⟩,dzx1⟩:=h1.facts;have H1:=Lib.hid h1;have F1:=Lib.hid f1;have HB1:=Lib.hid (f1.cells HB0.out (.inr (by simp)));clear h1 f1)
     |(go_at_call 78;(with_reducible refine(take_f H1.out [40,40] ⟨#[40,40]⟩ rfl HA2.out).mono ?_);rintro e w2 ⟨rfl,h2,f2⟩;obtain⟨⟨d3x2,d4x2⟩,dzx2⟩:=h2.facts;have H2:=Lib.hid h2;have F2:=Lib.hid f2;have HB2:=Lib.hid (f2.cells HB1.out (.inr (by simp)));clear h2 f2)
     |(go_at_call 114;have ha9:=ahead_r H2.out [40] ⟨#[40]⟩ rfl;rw[HA3.out] at ha9;(with_reducible refine ha9.mono ?_);clear ha9;rintro e w3 ⟨rfl,h3,f3⟩;obtain⟨⟨d3x3,d4x3⟩,dzx3⟩:=h3.facts;have H3:=Lib.hid h3;have F3:=Lib.hid f3;have HB3:=Lib.hid (f3.cells HB2.out (.inr (by simp)));clear h3 f3)
     |(go_at_call 79;(with_reducible refine(fail_r H3.out).mono ?_);rintro e w4 ⟨rfl,h4,f4⟩;obtain⟨⟨d3x4,d4x4⟩,dzx4⟩:=h4.facts;have H4:=Lib.hid h4;have F4:=Lib.hid f4;have HB4:=Lib.hid (f4.cells HB3.out (.inr (by simp)));clear h4 f4)
     |(go_at_call 116;(with_reducible refine(rest_r H4.out).mono ?_);rintro e w5 ⟨rfl,h5,f5⟩;obtain⟨⟨d3x5,d4x5⟩,dzx5⟩:=h5.facts;have H5:=Lib.hid h5;have F5:=Lib.hid f5;have HB5:=Lib.hid (f5.cells HB4.out (.inr (by simp)));clear h5 f5)
     |(go_at_call 151;have hp9:=param_r H5.out (Wd.fail 11 x).l (by simp[Wd.fail]);rw[show Wd.param (Wd.fail 11 x).l=[] from rfl] at hp9;(with_reducible refine hp9.mono ?_);clear hp9;rintro e w6 ⟨rfl,h6,f6⟩;obtain⟨⟨d3x6,d4x6⟩,dzx6⟩:=h6.facts;have H6:=Lib.hid h6;have F6:=Lib.hid f6;have HB6:=Lib.hid (f6.cells HB5.out (.inr (by simp)));clear h6 f6)
     |(refine wpList_storeO rfl 105 (.tmp 2) (.tmp 40) rfl W.heap.size _ _ rfl rfl HB6.out size_part rfl (by first | rfl | (simp[Value.oneCell'];done) | exact HPO.out) ?_;intro w9 hb9 hg9 hs9;have HB9:=Lib.hid hb9;have HG9:=Lib.hid hg9;clear hb9 hg9 hs9))
    refine bodyPost_ret (results_part rfl _ _ W.heap.size _ (0,0) rfl HB9.out rfl) rfl ?_
    have q:=fin_p H.out HL0.out (H6.out.nil) (F1.out.trans (F2.out.trans (F3.out.trans (F4.out.trans (F5.out.trans (F6.out)))))) HG9.out
    exact⟨_,rfl,q.1,q.2⟩
   | false=>
    have hpr:Wd.paren x=x:=by unfold Wd.paren;rw[ha3];rfl
    rw[hpr]
    have HA3:=Lib.hid ha3
    clear ha3 hpr
    obtain⟨n,hn⟩:∃ n,n=Wd.param x.l:=⟨_,rfl⟩
    have hP:=fun (W1:World) (h1:RM W1 (plus X [W.heap.size]) g s raw dp r x)=>param_r h1 x.l HSM.out
    rw[←hn] at hP⊢
    have HP:=Lib.hid hP
    have hnn:=nil_eq n
    clear hP hn
    by_cases h0:n=[]
    ·rw[if_pos h0]
     have he:((mkS n).toList==([]:List UInt8))=true:=by rw[hnn];simp[h0]
     clear hnn h0
     go_enter Tryz.func118,Tryz.ntmps118
     go_wp2_with (first
      |(refine wpList_allocO 2 rfl rfl 105 rfl _ 5 info_part ?_;intro w0 hb0 hl0 hsz0;have h0:=H.out.more hl0 [W.heap.size] (by intro b hb;simp at hb;subst hb;omega);obtain⟨⟨d3x0,d4x0⟩,dzx0⟩:=h0.facts;have H0:=Lib.hid h0;have HL0:=Lib.hid hl0;have HB0:=Lib.hid hb0;clear hb0 hl0 hsz0 h0)
      |(go_at_call 78;(with_reducible refine(take_f H0.out [123] ⟨#[123]⟩ rfl HA.out).mono ?_);rintro e w1 ⟨rfl,h1,f1⟩;obtain⟨⟨d3x1,d4x1⟩,dzx1⟩:=h1.facts;have H1:=Lib.hid h1;have F1:=Lib.hid f1;have HB1:=Lib.hid (f1.cells HB0.out (.inr (by simp)));clear h1 f1)
      |(go_at_call 78;(with_reducible refine(take_f H1.out [40,40] ⟨#[40,40]⟩ rfl HA2.out).mono ?_);rintro e w2 ⟨rfl,h2,f2⟩;obtain⟨⟨d3x2,d4x2⟩,dzx2⟩:=h2.facts;have H2:=Lib.hid h2;have F2:=Lib.hid f2;have HB2:=Lib.hid (f2.cells HB1.out (.inr (by simp)));clear h2 f2)
      |(go_at_call 114;have ha9:=ahead_r H2.out [40] ⟨#[40]⟩ rfl;rw[HA3.out] at ha9;(with_reducible refine ha9.mono ?_);clear ha9;rintro e w3 ⟨rfl,h3,f3⟩;obtain⟨⟨d3x3,d4x3⟩,dzx3⟩:=h3.facts;have H3:=Lib.hid h3;have F3:=Lib.hid f3;have HB3:=Lib.hid (f3.cells HB2.out (.inr (by simp)));clear h3 f3)
      |(go_at_call 116;(with_reducible refine(rest_r H3.out).mono ?_);rintro e w4 ⟨rfl,h4,f4⟩;obtain⟨⟨d3x4,d4x4⟩,dzx4⟩:=h4.facts;have H4:=Lib.hid h4;have F4:=Lib.hid f4;have HB4:=Lib.hid (f4.cells HB3.out (.inr (by simp)));clear h4 f4)
      |(go_at_call 151;(with_reducible refine(HP.out w4 H4.out).mono ?_);rintro e w5 ⟨rfl,h5,f5⟩;obtain⟨⟨d3x5,d4x5⟩,dzx5⟩:=h5.facts;have H5:=Lib.hid h5;have F5:=Lib.hid f5;have HB5:=Lib.hid (f5.cells HB4.out (.inr (by simp)));clear h5 f5)
      |(refine wpList_storeO rfl 105 (.tmp 2) (.tmp 40) rfl W.heap.size _ _ rfl rfl HB5.out size_part rfl (by first | rfl | (simp[Value.oneCell'];done) | exact HPO.out) ?_;intro w9 hb9 hg9 hs9;have HB9:=Lib.hid hb9;have HG9:=Lib.hid hg9;clear hb9 hg9 hs9))
     refine bodyPost_ret (results_part rfl _ _ W.heap.size _ (0,0) rfl HB9.out rfl) rfl ?_
     have q:=fin_p H.out HL0.out (H5.out.nil) (F1.out.trans (F2.out.trans (F3.out.trans (F4.out.trans (F5.out))))) HG9.out
     exact⟨_,rfl,q.1,q.2⟩
    ·rw[if_neg h0]
     have he:((mkS n).toList==([]:List UInt8))=false:=by rw[hnn];simp[h0]
     clear hnn h0
     go_enter Tryz.func118,Tryz.ntmps118
     go_wp2_with (first
      |(refine wpList_allocO 2 rfl rfl 105 rfl _ 5 info_part ?_;intro w0 hb0 hl0 hsz0;have h0:=H.out.more hl0 [W.heap.size] (by intro b hb;simp at hb;subst hb;omega);obtain⟨⟨d3x0,d4x0⟩,dzx0⟩:=h0.facts;have H0:=Lib.hid h0;have HL0:=Lib.hid hl0;have HB0:=Lib.hid hb0;clear hb0 hl0 hsz0 h0)
      |(go_at_call 78;(with_reducible refine(take_f H0.out [123] ⟨#[123]⟩ rfl HA.out).mono ?_);rintro e w1 ⟨rfl,h1,f1⟩;obtain⟨⟨d3x1,d4x1⟩,dzx1⟩:=h1.facts;have H1:=Lib.hid h1;have F1:=Lib.hid f1;have HB1:=Lib.hid (f1.cells HB0.out (.inr (by simp)));clear h1 f1)
      |(go_at_call 78;(with_reducible refine(take_f H1.out [40,40] ⟨#[40,40]⟩ rfl HA2.out).mono ?_);rintro e w2 ⟨rfl,h2,f2⟩;obtain⟨⟨d3x2,d4x2⟩,dzx2⟩:=h2.facts;have H2:=Lib.hid h2;have F2:=Lib.hid f2;have HB2:=Lib.hid (f2.cells HB1.out (.inr (by simp)));clear h2 f2)
      |(go_at_call 114;have ha9:=ahead_r H2.out [40] ⟨#[40]⟩ rfl;rw[HA3.out] at ha9;(with_reducible refine ha9.mono ?_);clear ha9;rintro e w3 ⟨rfl,h3,f3⟩;obtain⟨⟨d3x3,d4x3⟩,dzx3⟩:=h3.facts;have H3:=Lib.hid h3;have F3:=Lib.hid f3;have HB3:=Lib.hid (f3.cells HB2.out (.inr (by simp)));clear h3 f3)
      |(go_at_call 116;(with_reducible refine(rest_r H3.out).mono ?_);rintro e w4 ⟨rfl,h4,f4⟩;obtain⟨⟨d3x4,d4x4⟩,dzx4⟩:=h4.facts;have H4:=Lib.hid h4;have F4:=Lib.hid f4;have HB4:=Lib.hid (f4.cells HB3.out (.inr (by simp)));clear h4 f4)
      |(go_at_call 151;(with_reducible refine(HP.out w4 H4.out).mono ?_);rintro e w5 ⟨rfl,h5,f5⟩;obtain⟨⟨d3x5,d4x5⟩,dzx5⟩:=h5.facts;have H5:=Lib.hid h5;have F5:=Lib.hid f5;have HB5:=Lib.hid (f5.cells HB4.out (.inr (by simp)));clear h5 f5)
      |(go_at_call 51;(with_reducible refine(need_r H5.out n _ rfl).mono ?_);rintro e w6 ⟨rfl,h6,f6⟩;obtain⟨⟨d3x6,d4x6⟩,dzx6⟩:=h6.facts;have H6:=Lib.hid h6;have F6:=Lib.hid f6;have HB6:=Lib.hid (f6.cells HB5.out (.inr (by simp)));clear h6 f6)
      |(refine wpList_storeO rfl 105 (.tmp 2) (.tmp 48) rfl W.heap.size _ _ rfl rfl HB6.out size_part rfl (by first | rfl | (simp[Value.oneCell'];done) | exact HPO.out) ?_;intro w9 hb9 hg9 hs9;have HB9:=Lib.hid hb9;have HG9:=Lib.hid hg9;clear hb9 hg9 hs9))
     refine bodyPost_ret (results_part rfl _ _ W.heap.size _ (0,0) rfl HB9.out rfl) rfl ?_
     have q:=fin_p H.out HL0.out (H6.out.nil) (F1.out.trans (F2.out.trans (F3.out.trans (F4.out.trans (F5.out.trans (F6.out)))))) HG9.out
     exact⟨_,rfl,q.1,q.2⟩
end
end Ws
end Go.Proofs.YtipdgmjplnibeaaGreatDoor
namespace Go.Proofs.YtipdgmjplnibeaaGreatDoor
open Go.RowKit Go.Maps
set_option maxRecDepth 100000
namespace Ws
section
variable {W W':World} {X T:Nat→Prop} {g s dp:Nat} {raw:L} {r:Wd.R} {x x':Wd.S}
theorem keep_p {rb:Nat} (h:RM W (plus X [rb]) g s raw dp r x) (hg:W.grownBy W' (some rb)) (ho:rb≠4):RM W' (plus X [rb]) g s raw dp r x:=by
 obtain⟨T,vp,vt,nd,h⟩:=h
 have hp:plus X [rb] rb:=.inr (by simp)
 have ne:∀ b,¬ plus X [rb] b→some b≠some rb:=fun b hb e=>by injection e with e;exact hb (by rw[e];exact hp)
 have hk:∀ b,T b→b<W.heap.size→W'.heap[b]?=W.heap[b]?:=fun b hT hlt=>hg.block b hlt (ne b fun hb=>h.xt b hb hT)
 have row:∀ {base size n:Nat} {e:TypeId} {v:Value} {xs:List Value},W.ownsRow base e size v n xs→(∀ b,v.ownBlock=some b→¬ plus X [rb] b)→W'.ownsRow base e size v n xs:=fun {base size n e v xs} h1 h3=>h1.kept hg (by
  cases e1:v.ownBlock with
  | none=>exact .inl rfl
  | some b=>exact .inr (ne b (h3 b e1)))
 exact⟨T,vp,vt,nd,(hg.block g h.lt (ne g h.gX)).trans h.box,h.src.kept hg (ne s h.sX),h.gX,h.sX,h.gT,h.sT,row h.txt h.tX,h.tX,h.tT,row h.row h.pX,h.pX,h.pT,h.ps,tree_kept h.tree hg.size hk,h.kk,h.xl.mono hg.size,h.tl.mono hg.size,h.xt,h.og,h.op.kept (hg.block _ (h.xl _ h.og) (fun e=>ho (by injection e with e;exact e.symm)))⟩
theorem brace_deep (h:RM W X g s raw 8 r x):Calls Tryz.prog 149 #[.pointer (some ⟨g,0,none⟩)] W (Rp W X g s raw 8 r (Wd.P0,Wd.fail 21 x)):=by
 have H:=Lib.hid h
 clear h
 go_enter Tryz.func149,Tryz.ntmps149
 go_wp2_with (first
  |(refine wpList_allocO 2 rfl rfl 105 rfl _ 5 info_part ?_;intro w0 hb0 hl0 hsz0;have h0:=H.out.more hl0 [W.heap.size] (by intro b hb;simp at hb;subst hb;omega);obtain⟨⟨d3x0,d4x0⟩,dzx0⟩:=h0.facts;have H0:=Lib.hid h0;have HL0:=Lib.hid hl0;have HB0:=Lib.hid hb0;clear hb0 hl0 hsz0 h0)
  |(go_at_call 79;(with_reducible refine(deep_r H0.out).mono ?_);rintro e w1 ⟨rfl,h1,f1⟩;obtain⟨⟨d3x1,d4x1⟩,dzx1⟩:=h1.facts;have H1:=Lib.hid h1;have F1:=Lib.hid f1;have HB1:=Lib.hid (f1.cells HB0.out (.inr (by simp)));clear h1 f1)
  |(refine wpList_storeO rfl 105 (.tmp 2) (.tmp 15) rfl W.heap.size _ _ rfl rfl HB1.out size_part rfl (by first | rfl | (simp[Value.oneCell'];done) | exact HPO.out) ?_;intro w9 hb9 hg9 hs9;have HB9:=Lib.hid hb9;have HG9:=Lib.hid hg9;clear hb9 hg9 hs9))
 refine bodyPost_ret (results_part rfl _ _ W.heap.size _ (0,0) rfl HB9.out rfl) rfl ?_
 have q:=fin_p H.out HL0.out (H1.out.nil) (F1.out) HG9.out
 exact⟨_,rfl,q.1,q.2⟩
theorem brace_v {wd:Wd.S→List Wd.P×Wd.S} (hw:WdOk dp wd) (hdp:dp<8) (h:RM W X g s raw dp r x):Calls Tryz.prog 149 #[.pointer (some ⟨g,0,none⟩)] W (Rp W X g s raw dp r (Wd.braceF wd x)):=by
 have H:=Lib.hid h
 have HWD:=Lib.hid hw
 have hd8:((dp:Int)==8)=false:=by simp;omega
 clear h hw hdp
 have hm:=fun (W1:World) (h1:RM W1 (plus X [W.heap.size]) g s raw dp r x)=>measured_v h1
 have hnm:=fun (W1:World) (h1:RM W1 (plus X [W.heap.size]) g s raw dp r x)=>named_v h1
 unfold Wd.braceF
 obtain⟨mn,hmn⟩:∃ mn,mn=(Wd.measured x).1:=⟨_,rfl⟩
 obtain⟨ms,hms⟩:∃ ms,ms=(Wd.measured x).2:=⟨_,rfl⟩
 have hmx:mn=[]→ms=x:=by
  rw[hmn,hms]
  unfold Wd.measured
  repeat' split
  all_goals first | (intro _;rfl) | (intro e;exact absurd e (by assumption))
 rw[←hmn,←hms] at hm⊢
 obtain⟨nn,hnn⟩:∃ nn,nn=(Wd.named x).1:=⟨_,rfl⟩
 obtain⟨ns,hns⟩:∃ ns,ns=(Wd.named x).2:=⟨_,rfl⟩
 rw[←hnn,←hns] at hnm⊢
 have hml:=nil_eq mn
 clear hmn hms hnn hns
 by_cases h0:mn=[]
 ·rw[if_neg (by simpa using h0)]
  have he:((mkS mn).toList==([]:List UInt8))=true:=by rw[hml];simp[h0]
  have hmsx:=hmx h0
  subst hmsx
  have HM:=Lib.hid hm
  have HN:=Lib.hid hnm
  clear hm hnm hml hmx h0
  cases ha:Wd.ahead [125] ns with
  | true=>
   rw[if_pos rfl]
   have HA:=Lib.hid ha
   clear ha
   go_enter Tryz.func149,Tryz.ntmps149
   go_wp2_with (first
    |(go_at_call 174;(with_reducible refine(HM.out w0 H0.out).mono ?_);rintro e w1 ⟨rfl,h1,f1⟩;obtain⟨⟨d3x1,d4x1⟩,dzx1⟩:=h1.facts;have H1:=Lib.hid h1;have F1:=Lib.hid f1;have HB1:=Lib.hid (f1.cells HB0.out (.inr (by simp)));clear h1 f1)
    |(go_at_call 175;(with_reducible refine(HN.out w1 H1.out).mono ?_);rintro e w2 ⟨rfl,h2,f2⟩;obtain⟨⟨d3x2,d4x2⟩,dzx2⟩:=h2.facts;have H2:=Lib.hid h2;have F2:=Lib.hid f2;have HB2:=Lib.hid (f2.cells HB1.out (.inr (by simp)));clear h2 f2)
    |(refine wpList_allocO 2 rfl rfl 105 rfl _ 5 info_part ?_;intro w0 hb0 hl0 hsz0;have h0:=H.out.more hl0 [W.heap.size] (by intro b hb;simp at hb;subst hb;omega);obtain⟨⟨d3x0,d4x0⟩,dzx0⟩:=h0.facts;have H0:=Lib.hid h0;have HL0:=Lib.hid hl0;have HB0:=Lib.hid hb0;clear hb0 hl0 hsz0 h0)
    |(refine wpList_allocO 4 rfl rfl 105 rfl _ 5 info_part ?_;intro w3 hb3 hl3 hsz3;have hge:W.heap.size<w2.heap.size:=lt_of_block HB2.out;have h3:=H2.out.more hl3 [w2.heap.size] (by intro b hb;simp at hb;subst hb;omega);obtain⟨⟨d3x3,d4x3⟩,dzx3⟩:=h3.facts;have HNX:=Lib.hid (show ¬ plus X [W.heap.size] w2.heap.size from fun e=>by have:=H2.out.xl _ e;omega);have HNG:=Lib.hid (show w2.heap.size≠4 from fun e=>by have:=H2.out.xl _ H2.out.og;omega);have HNE:=Lib.hid (show W.heap.size≠w2.heap.size by omega);have H3:=Lib.hid h3;have HL3:=Lib.hid hl3;have HP3:=Lib.hid hb3;have HB3:=Lib.hid (later_cells hl3 HB2.out);clear hb3 hl3 hsz3 h3 hge)
    |(refine wpList_storeO rfl 105 (.tmp 4) (.tmp 24) rfl w2.heap.size _ _ rfl rfl HP3.out size_part rfl (by first | rfl | (simp[Value.oneCell'];done)) ?_;intro w4 hb4 hg4 hs4;have h4:=keep_p H3.out hg4 HNG.out;obtain⟨⟨d3x4,d4x4⟩,dzx4⟩:=h4.facts;have HP4:=Lib.hid hb4;have HB4:=Lib.hid (grown_cells hg4 HB3.out HNE.out);have F4:=Lib.hid ((Fr.later (X:=plus X [W.heap.size]) HL3.out).trans (Fr.grown hg4 fun b e=>by injection e with e;rw[←e];exact HNX.out));have H4:=Lib.hid h4;clear hb4 hg4 hs4 h4)
    |(go_at_call 78;(with_reducible refine(take_t H4.out [125] ⟨#[125]⟩ rfl HA.out).mono ?_);rintro e w5 ⟨rfl,h5,f5⟩;obtain⟨⟨d3x5,d4x5⟩,dzx5⟩:=h5.facts;have H5:=Lib.hid h5;have F5:=Lib.hid f5;have HB5:=Lib.hid (f5.cells HB4.out (.inl (.inr (by simp))));have HP5:=Lib.hid (f5.cells HP4.out (.inr (by simp)));clear h5 f5)
    |(refine wpList_loadO rfl 105 (.tmp 4) rfl w2.heap.size _ _ rfl HP5.out Tryz.underlying105 rfl size_part ?_)
    |(refine wpList_storeO rfl 105 (.tmp 2) (.tmp 37) rfl W.heap.size _ _ rfl rfl HB5.out size_part rfl (by first | rfl | (simp[Value.oneCell'];done) | exact HPO.out) ?_;intro w9 hb9 hg9 hs9;have HB9:=Lib.hid hb9;have HG9:=Lib.hid hg9;clear hb9 hg9 hs9))
   refine bodyPost_ret (results_part rfl _ _ W.heap.size _ (0,0) rfl HB9.out rfl) rfl ?_
   have q:=fin_p H.out HL0.out ((H5.out.less (.inl H.out.og)).nil) (F1.out.trans (F2.out.trans (F4.out.trans F5.out.less))) HG9.out
   exact⟨_,rfl,q.1,q.2⟩
  | false=>
   rw[if_neg (by simp)]
   have HA:=Lib.hid ha
   clear ha
   go_enter Tryz.func149,Tryz.ntmps149
   go_wp2_with (first
    |(go_at_call 174;(with_reducible refine(HM.out w0 H0.out).mono ?_);rintro e w1 ⟨rfl,h1,f1⟩;obtain⟨⟨d3x1,d4x1⟩,dzx1⟩:=h1.facts;have H1:=Lib.hid h1;have F1:=Lib.hid f1;have HB1:=Lib.hid (f1.cells HB0.out (.inr (by simp)));clear h1 f1)
    |(go_at_call 175;(with_reducible refine(HN.out w1 H1.out).mono ?_);rintro e w2 ⟨rfl,h2,f2⟩;obtain⟨⟨d3x2,d4x2⟩,dzx2⟩:=h2.facts;have H2:=Lib.hid h2;have F2:=Lib.hid f2;have HB2:=Lib.hid (f2.cells HB1.out (.inr (by simp)));clear h2 f2)
    |(refine wpList_allocO 2 rfl rfl 105 rfl _ 5 info_part ?_;intro w0 hb0 hl0 hsz0;have h0:=H.out.more hl0 [W.heap.size] (by intro b hb;simp at hb;subst hb;omega);obtain⟨⟨d3x0,d4x0⟩,dzx0⟩:=h0.facts;have H0:=Lib.hid h0;have HL0:=Lib.hid hl0;have HB0:=Lib.hid hb0;clear hb0 hl0 hsz0 h0)
    |(refine wpList_allocO 4 rfl rfl 105 rfl _ 5 info_part ?_;intro w3 hb3 hl3 hsz3;have hge:W.heap.size<w2.heap.size:=lt_of_block HB2.out;have h3:=H2.out.more hl3 [w2.heap.size] (by intro b hb;simp at hb;subst hb;omega);obtain⟨⟨d3x3,d4x3⟩,dzx3⟩:=h3.facts;have HNX:=Lib.hid (show ¬ plus X [W.heap.size] w2.heap.size from fun e=>by have:=H2.out.xl _ e;omega);have HNG:=Lib.hid (show w2.heap.size≠4 from fun e=>by have:=H2.out.xl _ H2.out.og;omega);have HNE:=Lib.hid (show W.heap.size≠w2.heap.size by omega);have H3:=Lib.hid h3;have HL3:=Lib.hid hl3;have HP3:=Lib.hid hb3;have HB3:=Lib.hid (later_cells hl3 HB2.out);clear hb3 hl3 hsz3 h3 hge)
    |(refine wpList_storeO rfl 105 (.tmp 4) (.tmp 24) rfl w2.heap.size _ _ rfl rfl HP3.out size_part rfl (by first | rfl | (simp[Value.oneCell'];done)) ?_;intro w4 hb4 hg4 hs4;have h4:=keep_p H3.out hg4 HNG.out;obtain⟨⟨d3x4,d4x4⟩,dzx4⟩:=h4.facts;have HP4:=Lib.hid hb4;have HB4:=Lib.hid (grown_cells hg4 HB3.out HNE.out);have F4:=Lib.hid ((Fr.later (X:=plus X [W.heap.size]) HL3.out).trans (Fr.grown hg4 fun b e=>by injection e with e;rw[←e];exact HNX.out));have H4:=Lib.hid h4;clear hb4 hg4 hs4 h4)
    |(go_at_call 78;(with_reducible refine(take_f H4.out [125] ⟨#[125]⟩ rfl HA.out).mono ?_);rintro e w5 ⟨rfl,h5,f5⟩;obtain⟨⟨d3x5,d4x5⟩,dzx5⟩:=h5.facts;have H5:=Lib.hid h5;have F5:=Lib.hid f5;have HB5:=Lib.hid (f5.cells HB4.out (.inl (.inr (by simp))));have HP5:=Lib.hid (f5.cells HP4.out (.inr (by simp)));clear h5 f5)
    |(go_at_call 176;(with_reducible refine(op_v H5.out).mono ?_);rintro e w6 ⟨rfl,h6,f6⟩;obtain⟨⟨d3x6,d4x6⟩,dzx6⟩:=h6.facts;have H6:=Lib.hid h6;have F6:=Lib.hid f6;have HB6:=Lib.hid (f6.cells HB5.out (.inl (.inr (by simp))));have HP6:=Lib.hid (f6.cells HP5.out (.inr (by simp)));have c62:=(cell_row (f6.cells HP5.out (.inr (by simp))) 2).1;have z62:=(cell_row (f6.cells HP5.out (.inr (by simp))) 2).2;clear h6 f6)
    |(go_at_call 177;(with_reducible refine(HWD.out.run (keep_p H6.out (set_only w6 w2.heap.size 2 _) HNG.out)).mono ?_);rintro e w7 ⟨vw,rfl,h7,f7⟩;obtain⟨A7,n7,c7,rfl⟩:=RMv_shape h7;have hp7:=f7.cells (set_row HP6.out 2 _) (.inr (by simp));have c74:=(cell_row hp7 4).1;have z74:=(cell_row hp7 4).2;have HP8:=Lib.hid (show (w7.setCell ⟨w2.heap.size,4,none⟩ (.slice A7 n7 c7)).heap[w2.heap.size]?=some (.cells #[.int .i64 3,.string (mkS nn),.string (mkS (Wd.op ns).1),.bool false,.slice A7 n7 c7] 105 (0,0)) from set_row hp7 4 _);have HB7:=Lib.hid (f7.cells (grown_cells (set_only w6 w2.heap.size 2 _) HB6.out HNE.out) (.inl (.inr (by simp))));have H7:=Lib.hid h7;have F7:=Lib.hid f7;clear h7 f7 hp7)
    |(refine wpList_loadO rfl 105 (.tmp 4) rfl w2.heap.size _ _ rfl HP8.out Tryz.underlying105 rfl size_part ?_)
    |(refine wpList_storeO rfl 105 (.tmp 2) (.tmp 37) rfl W.heap.size _ _ rfl rfl (grown_cells (set_only w7 w2.heap.size 4 _) HB7.out HNE.out) size_part rfl (by first | rfl | (simp[Value.oneCell'];done) | exact HPO.out) ?_;intro w9 hb9 hg9 hs9;have HB9:=Lib.hid hb9;have HG9:=Lib.hid hg9;clear hb9 hg9 hs9))
   refine bodyPost_ret (results_part rfl _ _ W.heap.size _ (0,0) rfl HB9.out rfl) rfl ?_
   have h8:=other H7.out (.inl H.out.og) HNX.out (set_only w7 w2.heap.size 4 (.slice A7 n7 c7))
   have f8:Fr (plus X [W.heap.size]) w4 (w7.setCell ⟨w2.heap.size,4,none⟩ (.slice A7 n7 c7)):=F5.out.less.trans (F6.out.less.trans ((Fr.grown (set_only w6 w2.heap.size 2 _) fun b e=>by injection e with e;rw[←e];exact HNX.out).trans (F7.out.less.trans (Fr.grown (set_only w7 w2.heap.size 4 _) fun b e=>by injection e with e;rw[←e];exact HNX.out))))
   have q:=fin_p H.out HL0.out h8 (F1.out.trans (F2.out.trans (F4.out.trans f8))) HG9.out
   exact⟨_,rfl,q.1,q.2⟩
 ·rw[if_pos h0]
  have he:((mkS mn).toList==([]:List UInt8))=false:=by rw[hml];simp[h0]
  have HM:=Lib.hid hm
  clear hm hnm hml hmx h0
  go_enter Tryz.func149,Tryz.ntmps149
  go_wp2_with (first
   |(go_at_call 174;(with_reducible refine(HM.out w0 H0.out).mono ?_);rintro e w1 ⟨rfl,h1,f1⟩;obtain⟨⟨d3x1,d4x1⟩,dzx1⟩:=h1.facts;have H1:=Lib.hid h1;have F1:=Lib.hid f1;have HB1:=Lib.hid (f1.cells HB0.out (.inr (by simp)));clear h1 f1)
   |(refine wpList_allocO 2 rfl rfl 105 rfl _ 5 info_part ?_;intro w0 hb0 hl0 hsz0;have h0:=H.out.more hl0 [W.heap.size] (by intro b hb;simp at hb;subst hb;omega);obtain⟨⟨d3x0,d4x0⟩,dzx0⟩:=h0.facts;have H0:=Lib.hid h0;have HL0:=Lib.hid hl0;have HB0:=Lib.hid hb0;clear hb0 hl0 hsz0 h0)
   |(refine wpList_storeO rfl 105 (.tmp 2) (.tmp 21) rfl W.heap.size _ _ rfl rfl HB1.out size_part rfl (by first | rfl | (simp[Value.oneCell'];done) | exact HPO.out) ?_;intro w9 hb9 hg9 hs9;have HB9:=Lib.hid hb9;have HG9:=Lib.hid hg9;clear hb9 hg9 hs9))
  refine bodyPost_ret (results_part rfl _ _ W.heap.size _ (0,0) rfl HB9.out rfl) rfl ?_
  have q:=fin_p H.out HL0.out (H1.out.nil) (F1.out) HG9.out
  exact⟨_,rfl,q.1,q.2⟩
end
end Ws
end Go.Proofs.YtipdgmjplnibeaaGreatDoor
