/- The walk of UnparseBack. -/
import Derived.Test.YtkkchkkpnlnbgaaGreatDoorPm
import Derived.Test.YtkkchkkpnlnbgaaGreatDoorPc
import Derived.Test.YtkkchkkpnlnbgaaGreatDoorPd
import Derived.Test.YtkkchkkpnlnbgaaGreatDoorQg
import Derived.Test.YtkkchkkpnlnbgaaGreatDoorQf
set_option maxRecDepth 100000
set_option maxHeartbeats 3200000
namespace Go.Proofs.YtkkchkkpnlnbgaaGreatDoor
open Go.RowKit Go.Maps
open Lx (nl Tok)
open Pz (TreeM NodeAt parse_ok parse_err Sgn.later')
namespace unparseBack
theorem walkX (w:World) (hg:Sgn w) (s:List UInt8) (h:(1500:Int)<((mkS s).size:Int)) :
  Calls Tryz.prog 3 #[.string (mkS s)] w fun e w'=>e=.returned (.bool true)∧Below w.heap.size w w':=by
 have HA:=Lib.hid (Uw.awake_v w hg)
 clear hg
 go_enter Tryz.func3,Tryz.ntmps3
 go_wp2_with (go_at_call 5;(with_reducible refine HA.out.mono ?_);rintro e w1 ⟨rfl,hb1⟩;have HB1:=Lib.hid hb1;clear hb1)
 go_ret
 exact⟨rfl,HB1.out⟩
theorem walkE (w:World) (hg:Sgn w) (s:List UInt8) (h:¬ (1500:Int)<((mkS s).size:Int)) (n k:Nat) (hall:Sx.tree s=.error (n,k)) (hn:n≠0) :
  Calls Tryz.prog 3 #[.string (mkS s)] w fun e w'=>e=.returned (.bool true)∧Below w.heap.size w w':=by
 have HA:=Lib.hid (Uw.awake_v w hg)
 have hz:=mkS_size s
 have HAL:=Lib.hid (show ∀ W,Later w W→Calls Tryz.prog 6 #[.string (mkS s)] W fun e W'=>e=.returned (.tuple #[.agg #[.slice none 0 0],.int .i64 (n:Int),.int .i64 ((1+nl s-k:Nat):Int)])∧Later W W' from fun W hW=>parse_err (by omega) hall W (Sgn.later' hg hW))
 have e1:((n:Int) != 0)=true:=by simp;omega
 clear hg hall hz
 go_enter Tryz.func3,Tryz.ntmps3
 go_wp2_with (first
  |(go_at_call 5;(with_reducible refine HA.out.mono ?_);rintro e w1 ⟨rfl,hb1⟩;have HB1:=Lib.hid hb1;clear hb1)
  |(go_at_call 6;(with_reducible refine(HAL.out _ HB1.out).mono ?_);rintro e w2 ⟨rfl,hl2⟩;have HL2:=Lib.hid ((HB1.out.trans hl2).trans (Later.alloc w2 (.cells #[.slice none 0 0] 25)));clear hl2))
 go_ret
 exact⟨rfl,HL2.out⟩
abbrev Second (w:World) (a:List UInt8) (f:Int) (n' N':Nat) (ns':List Sx.Node):Prop:=∀ W,Later w W→Calls Tryz.prog 6 #[.string (mkS a)] W fun e W'=>∃ A c ln,e=.returned (.tuple #[.agg #[.slice A n' c],.int .i64 f,.int .i64 ln])∧TreeM W' N' (.slice A n' c) ns'∧Later W W'
abbrev Shows (n N:Nat) (ns:List Sx.Node) (a:List UInt8):Prop:=∀ W A c,TreeM W N (.slice A n c) ns→Calls Tryz.prog 7 #[.agg #[.slice A n c]] W fun e W'=>e=.returned (.string (mkS a))∧Later W W'
theorem walkS (w:World) (hg:Sgn w) (s a:List UInt8) (h:¬ (1500:Int)<((mkS s).size:Int)) (ns ns':List Sx.Node) (n n' N N':Nat) (f:Int) (b:Bool)
  (h1:∀ W,Later w W→Calls Tryz.prog 6 #[.string (mkS s)] W fun e W'=>∃ A c,e=.returned (.tuple #[.agg #[.slice A n c],.int .i64 0,.int .i64 0])∧TreeM W' N (.slice A n c) ns∧Later W W')
  (h2:Shows n N ns a) (h3:Second w a f n' N' ns')
  (h4:∀ W A c,TreeM W N (.slice A n c) ns→Calls Tryz.prog 8 #[.slice A n c] W fun e W'=>e=.returned (.bool b)∧W'=W)
  (hc:4096<a.length∧f=13∨¬ 4096<a.length∧(b=true∧f=21∨f=0∧Shows n' N' ns' a∧(b=true∨∀ W A A' c c',TreeM W N (.slice A n c) ns→TreeM W N' (.slice A' n' c') ns'→Calls Tryz.prog 9 #[.slice A n c,.slice A' n' c',.bool false] W fun e W'=>e=.returned (.bool true)∧Later W W'))) :
  Calls Tryz.prog 3 #[.string (mkS s)] w fun e w'=>e=.returned (.bool true)∧Below w.heap.size w w':=by
 have HA:=Lib.hid (Uw.awake_v w hg)
 have H1:=Lib.hid h1
 have H2:=Lib.hid h2
 have H3:=Lib.hid h3
 have H4:=Lib.hid h4
 have HC:=Lib.hid hc
 have hz:=mkS_size a
 clear hg h1 h2 h3 h4 hc
 go_enter Tryz.func3,Tryz.ntmps3
 go_wp2_with (first
  |(go_at_call 5;(with_reducible refine HA.out.mono ?_);rintro e w1 ⟨rfl,hb1⟩;have HB1:=Lib.hid hb1;clear hb1)
  |(go_at_call 6;(with_reducible refine(H1.out _ HB1.out).mono ?_);rintro e w2 ⟨A,c,rfl,hm,hl2⟩;have HL2:=Lib.hid (HB1.out.trans hl2);have HM2:=Lib.hid hm;clear hl2 hm)
  |(go_at_call 7;fail))
 have hm1:=HM2.out.later (Later.alloc w2 (.cells #[.slice A n c] 25))
 have hbx:=heap_alloc_new w2 (.cells #[.slice A n c] 25)
 refine(H2.out _ A c hm1).mono ?_
 rintro e w3 ⟨rfl,hl3⟩
 have hl32:=HL2.out.trans ((Later.alloc w2 (.cells #[.slice A n c] 25)).trans hl3)
 have hm3:=hm1.later hl3
 have hb3:=later_cells hl3 hbx
 obtain⟨bk,hbk⟩:∃ bk,bk=w2.heap.size:=⟨_,rfl⟩
 rw[←hbk] at hb3⊢
 have HL3:=Lib.hid hl32
 have HM3:=Lib.hid hm3
 have HB3:=Lib.hid hb3
 clear hm1 hbx hl3 hl32 hm3 hb3 hbk
 clear HM2 HL2
 go_wp2_with (go_at_call 6;fail)
 refine(H3.out w3 HL3.out).mono ?_
 rintro e w4 ⟨A',c',ln,rfl,hm4,hl4⟩
 have hl5:=hl4.trans (Later.alloc w4 (.cells #[.slice A' n' c'] 25))
 have hb5:=heap_alloc_new w4 (.cells #[.slice A' n' c'] 25)
 have HL5:=Lib.hid (HL3.out.trans hl5)
 have HM5:=Lib.hid (HM3.out.later hl5)
 have HN5:=Lib.hid (hm4.later (Later.alloc w4 (.cells #[.slice A' n' c'] 25)))
 have d5:=(cell_row (later_cells hl5 HB3.out) 0).1
 have e5:=(cell_row hb5 0).1
 have d5:(w4.alloc (.cells #[.slice A' n' c'] 25)).cell? ⟨bk,0,none⟩=some (.slice A n c):=d5
 have e5:(w4.alloc (.cells #[.slice A' n' c'] 25)).cell? ⟨w4.heap.size,0,none⟩=some (.slice A' n' c'):=e5
 clear hm4 hl4 hl5 hb5
 by_cases hbig:4096<a.length
 ·obtain rfl:f=13:=by
   rcases HC.out with h | h
   ·exact h.2
   ·exact absurd hbig h.1
  have hsz:(4096:Int)<((mkS a).size:Int):=by omega
  clear hbig hz d5 e5
  go_wp2
  go_ret
  exact⟨rfl,HL5.out⟩
 ·have hsz:¬ (4096:Int)<((mkS a).size:Int):=by omega
  have hcc:=(HC.out.resolve_left fun h=>hbig h.1).2
  clear HC hbig hz H1 H3 HA
  rcases hcc with⟨rfl,rfl⟩ | ⟨rfl,h5,h6⟩
  ·go_wp2_with (go_at_call 8;(with_reducible refine(H4.out _ A c HM5.out).mono ?_);rintro e w6 ⟨rfl,rfl⟩)
   go_ret
   exact⟨rfl,HL5.out⟩
  ·have H5:=Lib.hid h5
   have he:((mkS a).toList==(mkS a).toList)=true:=beq_self_eq_true _
   clear h5
   cases b with
   | true=>
    clear h6
    go_wp2_with (first
     |(go_at_call 8;(with_reducible refine(H4.out _ A c HM5.out).mono ?_);rintro e w6 ⟨rfl,rfl⟩)
     |(go_at_call 7;(with_reducible refine(H5.out _ A' c' HN5.out).mono ?_);rintro e w7 ⟨rfl,hl7⟩;have HL7:=Lib.hid (HL5.out.trans hl7);clear hl7))
    go_ret
    exact⟨rfl,HL7.out⟩
   | false=>
    have H6:=Lib.hid (h6.resolve_left Bool.false_ne_true)
    clear h6
    go_wp2_with (first
     |(go_at_call 8;(with_reducible refine(H4.out _ A c HM5.out).mono ?_);rintro e w6 ⟨rfl,rfl⟩)
     |(go_at_call 7;(with_reducible refine(H5.out _ A' c' HN5.out).mono ?_);rintro e w7 ⟨rfl,hl7⟩;have HL7:=Lib.hid (HL5.out.trans hl7);have HM7:=Lib.hid (HM5.out.later hl7);have HN7:=Lib.hid (HN5.out.later hl7);have d7:=cell_keeps hl7 d5;have e7:=cell_keeps hl7 e5;clear hl7 d5 e5)
     |(go_at_call 9;(with_reducible refine(H6.out _ A A' c c' HM7.out HN7.out).mono ?_);rintro e w8 ⟨rfl,hl8⟩;have HL8:=Lib.hid (HL7.out.trans hl8);clear hl8))
    go_ret
    exact⟨rfl,HL8.out⟩
theorem walkO (w:World) (hg:Sgn w) (s:List UInt8) (h:¬ (1500:Int)<((mkS s).size:Int)) (ns:List Sx.Node) (hall:Sx.tree s=.ok ns) :
  Calls Tryz.prog 3 #[.string (mkS s)] w fun e w'=>e=.returned (.bool true)∧Below w.heap.size w w':=by
 have hz:=mkS_size s
 obtain⟨hf,hp0,h5,hl⟩:=Sx.tree_forest hall
 have hs4:s.length≤4096:=by omega
 have h1:∀ W,Later w W→Calls Tryz.prog 6 #[.string (mkS s)] W fun e W'=>∃ A c,e=.returned (.tuple #[.agg #[.slice A ns.length c],.int .i64 0,.int .i64 0])∧TreeM W' (nl s) (.slice A ns.length c) ns∧Later W W':=fun W hW=>(parse_ok hs4 hall W (Sgn.later' hg hW)).mono fun e W' h=>by
  obtain⟨A,c,e1,_,h2,h3⟩:=h
  exact⟨A,c,e1,h2,h3⟩
 have h2:Shows ns.length (nl s) ns (Up.text ns):=fun W A c hm=>Uw.show_tree hs4 hall hm
 obtain⟨b,hb,h4⟩:∃ b:Bool,(b=true↔Vx.El ns)∧∀ W A c,TreeM W (nl s) (.slice A ns.length c) ns→Calls Tryz.prog 8 #[.slice A ns.length c] W fun e W'=>e=.returned (.bool b)∧W'=W:=by
  obtain⟨b,hb⟩:∃ b:Bool,(b=true↔Vx.El ns):=by
   by_cases h:Vx.El ns
   ·exact⟨true,by simp[h]⟩
   ·exact⟨false,by simp[h]⟩
  refine⟨b,hb,fun W A c hm=>?_⟩
  obtain⟨b',hb',hc⟩:=Ub.elif_v W (nl s) ns.length c A ns rfl hm hp0 (by omega) hf
  rw[show b=b' by rw[Bool.eq_iff_iff,hb,hb']]
  exact hc
 by_cases hbig:4096<(Up.text ns).length
 ·exact walkS w hg s (Up.text ns) h ns [] ns.length 0 (nl s) 0 13 b h1 h2 (fun W hW=>(Ub.parse_big _ hbig W).mono fun e W' h=>⟨none,0,0,h.1,⟨[],rfl,World.ownsRow_nil _ _ _ _,nofun⟩,h.2⟩) h4 (.inl ⟨hbig,rfl⟩)
 ·rcases Vx.back hall with⟨he,l,ht⟩ | ⟨ns',ht,htx,hor⟩
  ·exact walkS w hg s (Up.text ns) h ns [] ns.length 0 (nl s) 0 21 b h1 h2 (fun W hW=>(parse_err (by omega) ht W (Sgn.later' hg hW)).mono fun e W' h=>⟨none,0,_,h.1,⟨[],rfl,World.ownsRow_nil _ _ _ _,nofun⟩,h.2⟩) h4 (.inr ⟨hbig,.inl ⟨hb.2 he,rfl⟩⟩)
  ·refine walkS w hg s (Up.text ns) h ns ns' ns.length ns'.length (nl s) (nl (Up.text ns)) 0 b h1 h2 (fun W hW=>(parse_ok (by omega) ht W (Sgn.later' hg hW)).mono fun e W' h=>?_) h4 (.inr ⟨hbig,.inr ⟨rfl,fun W A c hm=>?_,?_⟩⟩)
   ·obtain⟨A,c,e1,_,h2,h3⟩:=h
    exact⟨A,c,0,e1,h2,h3⟩
   ·rw[←htx]
    exact Uw.show_tree (by omega) ht hm
   ·rcases hor with he | hst
    ·exact .inl (hb.2 he)
    ·have hlen:ns'.length=ns.length:=by simpa using congrArg List.length hst
     refine .inr fun W A A' c c' hm hm'=>?_
     rw[hlen] at hm'⊢
     exact same_v A A' ns.length c c' ns ns' W (RdN.of_tree hm rfl) (RdN.of_tree hm' hlen) hst (by unfold maxLen;omega)
theorem walk (w:World) (hg:Sgn w) (t:ByteArray) (_ht:t.size≤maxLen) :
  Calls Tryz.prog 3 #[.string t] w fun e w'=>e=.returned (.bool true)∧Below w.heap.size w w':=by
 obtain⟨s,rfl⟩:∃ s,t=mkS s:=⟨_,(mkS_of t).symm⟩
 by_cases h:(1500:Int)<((mkS s).size:Int)
 ·exact walkX w hg s h
 cases hx:Sx.tree s with
 | ok ns=>exact walkO w hg s h ns hx
 | error e=>
  obtain⟨n,k⟩:=e
  refine walkE w hg s h n k hx ?_
  rintro rfl
  unfold Sx.tree at hx
  cases hy:Lx.all s with
  | error e=>
   rw[hy] at hx
   injection hx with hx
   subst hx
   rcases((Lx.all_lines s).1 0 k hy).1 with e | e <;> cases e
  | ok ts=>
   rw[hy] at hx
   exact Sx.parse_nz (Lx.all_good hy) k hx
end unparseBack
end Go.Proofs.YtkkchkkpnlnbgaaGreatDoor
