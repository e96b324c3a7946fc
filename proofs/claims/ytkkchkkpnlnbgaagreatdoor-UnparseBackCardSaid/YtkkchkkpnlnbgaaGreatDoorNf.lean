/- The lexer's reader: the bytes ahead, and how they are passed. No premises. -/
import Derived.Test.YtkkchkkpnlnbgaaGreatDoorNe
import Derived.Test.YtkkchkkpnlnbgaaGreatDoorNb
set_option maxRecDepth 100000
namespace Go.Proofs.YtkkchkkpnlnbgaaGreatDoor
open Go.RowKit Go.Maps
open Lx (nl Tok)
theorem Below.drewN (B:Nat) (W:World) (m:Nat):Below B W (W.drewN m):=⟨rfl,rfl,rfl,Nat.le_refl _,fun _ _=>rfl⟩
theorem toList_mkS (l:L):(mkS l).toList=l:=by
 rw[ByteArray.toList_eq];simp[mkS]
theorem ext_prefix (l s:L):(((mkS l).extract 0 (mkS s).size).toList==(mkS s).toList)=s.isPrefixOf l:=by
 have h1:((mkS l).extract 0 (mkS s).size)=mkS (l.take s.length):=by
  apply ByteArray.ext
  simp[mkS,ByteArray.size]
 rw[h1,toList_mkS,toList_mkS,Bool.eq_iff_iff,beq_iff_eq,List.isPrefixOf_iff_prefix]
 exact⟨fun h=>h ▸ List.take_prefix _ _,fun h=>(List.prefix_iff_eq_take.1 h).symm⟩
theorem lite_v (l s:L) (W:World):Calls Tryz.prog 127 #[.string (mkS l),.string (mkS s)] W fun e W'=>e=.returned (.bool (s.isPrefixOf l))∧W'=W:=by
 by_cases hs:s.length≤l.length
 ·have h1:((mkS s).size:Int)≤((mkS l).size:Int):=by rw[mkS_size,mkS_size];omega
  go_enter Tryz.func127,Tryz.ntmps127
  go_wp2
  go_ret
  exact⟨ret_bool (ext_prefix l s),rfl⟩
 ·have h1:¬ ((mkS s).size:Int)≤((mkS l).size:Int):=by rw[mkS_size,mkS_size];omega
  have h2:s.isPrefixOf l=false:=by
   rw[Bool.eq_false_iff]
   intro h
   exact hs (List.isPrefixOf_iff_prefix.1 h).length_le
  rw[h2]
  go_enter Tryz.func127,Tryz.ntmps127
  go_wp2
  go_ret
  exact⟨rfl,rfl⟩
theorem hasP_v (l s:L) (W:World):Calls Tryz.prog 116 #[.string (mkS l),.string (mkS s)] W fun e W'=>e=.returned (.bool (s.isPrefixOf l))∧W'=W:=by
 have HC:=Lib.hid (lite_v l s W)
 go_enter Tryz.func116,Tryz.ntmps116
 go_wp2_with (go_at_call 127;(with_reducible refine HC.out.mono ?_);rintro e w1 ⟨rfl,rfl⟩)
 go_ret
 exact⟨rfl,rfl⟩
theorem drop_text (S:L) (p:Nat):(mkS S).extract p (mkS S).size=mkS (S.drop p):=by
 apply ByteArray.ext
 simp[mkS,ByteArray.size]
 exact List.take_of_length_le (by simp)
theorem ahead_v (B g:Nat) (S:L) (σ:St) (s:L) (W:World) (h:Mem W B g S σ):Calls Tryz.prog 88 #[.pointer (some ⟨g,0,none⟩),.string (mkS s)] W fun e W'=>e=.returned (.bool (s.isPrefixOf σ.l))∧∃ m,W'=W.drewN m:=by
 obtain⟨p,n,vt,vh,vx,ms,mp,h⟩:=h
 obtain⟨⟨c0,c1,c2,_⟩,hz⟩:=h.facts
 have h1:=h.at_
 have h2:=h.big
 have HX:=Lib.hid (drop_text S p)
 have hP:=fun W=>hasP_v σ.l s W
 have hs:(mkS S).size=S.length:=mkS_size S
 have hp0:(0:Int)≤(p:Int):=by omega
 have hp1:(p:Int)≤((mkS S).size:Int):=by omega
 rw[h.cut] at hP⊢
 have HP:=Lib.hid hP
 have HS:=Lib.hid hs
 clear h hP h1 h2 hs
 go_enter Tryz.func88,Tryz.ntmps88
 go_wp2
 have hx:=HX.out
 go_quiet ((first | (go_at_call 116;exact(HP.out _).quiet_of_same)))
 go_wp2
 go_ret
 exact⟨rfl,_,rfl⟩
theorem ahead_t (B g:Nat) (S:L) (σ:St) (t:ByteArray) (s:L) (ht:t=mkS s) (b:Bool) (hb:s.isPrefixOf σ.l=b) (W:World) (h:Mem W B g S σ):Calls Tryz.prog 88 #[.pointer (some ⟨g,0,none⟩),.string t] W fun e W'=>e=.returned (.bool b)∧∃ m,W'=W.drewN m:=by
 subst ht hb
 exact ahead_v B g S σ s W h
theorem only_drewN (W:World) (g m:Nat):W.grownBy (W.drewN m) (some g):=⟨rfl,rfl,rfl,Nat.le_refl _,fun _ _ _=>rfl⟩
theorem next_x (B g:Nat) (S:L) (σ:St) (c:UInt8) (r:L) (hl:σ.l=c::r) (W:World) (p n:Nat) (vt vh vx:Value) (ms mp:Nat) (h:MemX W B g S σ p n vt vh vx ms mp):Calls Tryz.prog 87 #[.pointer (some ⟨g,0,none⟩)] W fun e W'=>e=.returned (.int .u8 (c.toNat:Int))∧(∃ p' n',MemX W' B g S { σ with l:=r } p' n' vt vh vx ms mp)∧W.grownBy W' (some g):=by
 have HP:=Lib.hid (peek_v B g S σ c r hl W h.mem)
 obtain⟨⟨c0,c1,c2,_⟩,hz⟩:=h.facts
 have hp:=h.small
 have H:=Lib.hid h
 have HL:=Lib.hid hl
 clear h hl
 have hl1:1+p+r.length=S.length:=by have:=H.out.at_;rw[HL.out] at this;simp only[List.length_cons] at this;omega
 have hl2:r=S.drop (p+1):=by
  have:=H.out.cut
  rw[HL.out] at this
  rw[←List.drop_drop,←this]
  rfl
 have hl3:n+nl (c::r)=1+nl S:=by rw[←HL.out];exact H.out.ln
 have H3:=Lib.hid (And.intro hl1 (And.intro hl2 hl3))
 clear hl1 hl2 hl3
 by_cases hc:c=10
 ·have h10:((c.toNat:Int)==10)=true:=byt_eq 10 hc
  go_enter Tryz.func87,Tryz.ntmps87
  go_wp2_with (go_at_call 47;(with_reducible refine HP.out.mono ?_);rintro e w1 ⟨rfl,m,rfl⟩)
  go_ret
  refine⟨by rw[hc];rfl,⟨_,_,((H.out.drewN m).set2 1 (.int .i64 ((p:Int)+1)) 2 (.int .i64 ((n:Int)+1)) (σ':={ σ with l:=r }) (p':=p+1) (n':=n+1) (by simp) H3.out.2.1 (by have:=H3.out.1;simp only;omega) ?_ rfl rfl rfl)⟩,?_⟩
  ·have:=H3.out.2.2;rw[nl,if_pos hc] at this;simp only;omega
  ·exact only_trans (only_drewN W g m) (only_trans (set_only _ _ _ _) (set_only _ _ _ _))
 ·have h10:((c.toNat:Int)==10)=false:=byt_ne 10 hc
  go_enter Tryz.func87,Tryz.ntmps87
  go_wp2_with (go_at_call 47;(with_reducible refine HP.out.mono ?_);rintro e w1 ⟨rfl,m,rfl⟩)
  go_ret
  refine⟨rfl,⟨_,_,((H.out.drewN m).set 1 (.int .i64 ((p:Int)+1)) (σ':={ σ with l:=r }) (p':=p+1) (n':=n) (by simp) H3.out.2.1 (by have:=H3.out.1;simp only;omega) ?_ rfl rfl rfl)⟩,?_⟩
  ·have:=H3.out.2.2;rw[nl,if_neg hc] at this;simp only;omega
  ·exact only_trans (only_drewN W g m) (set_only _ _ _ _)
theorem only_below {W W':World} {B g:Nat} (h:W.grownBy W' (some g)) (hg:B≤g) (hb:B≤W.heap.size):Below B W W':=below_of_grown h hb fun k e=>by injection e with e;omega
theorem next_v (B g:Nat) (S:L) (σ:St) (c:UInt8) (r:L) (hl:σ.l=c::r) (W:World) (h:Mem W B g S σ):Calls Tryz.prog 87 #[.pointer (some ⟨g,0,none⟩)] W fun e W'=>e=.returned (.int .u8 (c.toNat:Int))∧Mem W' B g S { σ with l:=r }∧Below B W W':=by
 obtain⟨p,n,vt,vh,vx,ms,mp,h⟩:=h
 refine(next_x B g S σ c r hl W p n vt vh vx ms mp h).mono ?_
 rintro e W' ⟨h1,⟨p',n',h2⟩,h3⟩
 exact⟨h1,h2.mem,only_below h3 h.low (Nat.le_trans h.low (Nat.le_of_lt h.lt))⟩
theorem next_bad (B g:Nat) (S:L) (σ:St) (hl:σ.l=[]) (W:World) (h:Mem W B g S σ):Calls Tryz.prog 87 #[.pointer (some ⟨g,0,none⟩)] W fun e W'=>e=.panicked (flt 20 σ.b)∧∃ m,W'=W.drewN m:=by
 have HP:=Lib.hid (peek_bad B g S σ hl W h)
 clear h hl
 go_enter Tryz.func87,Tryz.ntmps87
 go_wp2_with (go_at_call 47;(with_reducible refine HP.out.mono ?_);rintro e w1 ⟨rfl,m,rfl⟩)
 exact bodyPost_panic rfl ⟨rfl,_,rfl⟩
end Go.Proofs.YtkkchkkpnlnbgaaGreatDoor
namespace Go.Proofs.YtkkchkkpnlnbgaaGreatDoor
open Go.RowKit Go.Maps
open Lx (nl Tok)
def atOf (g:Nat) (w:World):Nat:=match w.cell? ⟨g,1,none⟩ with | some (.int _ p)=>p.toNat | _=>0
theorem Mem.left {W:World} {B g:Nat} {S:L} {σ:St} (h:Mem W B g S σ):S.length-atOf g W=σ.l.length:=by
 obtain⟨p,n,vt,vh,vx,ms,mp,h⟩:=h
 obtain⟨⟨_,c1,_⟩,_⟩:=h.facts
 have:=h.at_
 unfold atOf
 rw[c1]
 simp only[Int.toNat_natCast]
 omega
theorem pass_x (B g:Nat) (S:L) (σ:St) (c:UInt8) (r:L) (hl:σ.l=c::r) (W:World) (p n:Nat) (vt vh vx:Value) (ms mp:Nat) (h:MemX W B g S σ p n vt vh vx ms mp):Calls Tryz.prog 39 #[.pointer (some ⟨g,0,none⟩)] W fun e W'=>e=.returned (.tuple #[])∧(∃ p' n',MemX W' B g S { σ with l:=r } p' n' vt vh vx ms mp)∧W.grownBy W' (some g):=by
 have HP:=Lib.hid (next_x B g S σ c r hl W p n vt vh vx ms mp h)
 clear h hl
 go_enter Tryz.func39,Tryz.ntmps39
 go_wp2_with (go_at_call 87;(with_reducible refine HP.out.mono ?_);rintro e w1 ⟨rfl,hm,hb⟩)
 go_end0
 exact⟨rfl,hm,hb⟩
theorem pass_v (B g:Nat) (S:L) (σ:St) (c:UInt8) (r:L) (hl:σ.l=c::r) (W:World) (h:Mem W B g S σ):Calls Tryz.prog 39 #[.pointer (some ⟨g,0,none⟩)] W fun e W'=>e=.returned (.tuple #[])∧Mem W' B g S { σ with l:=r }∧Below B W W':=by
 obtain⟨p,n,vt,vh,vx,ms,mp,h⟩:=h
 refine(pass_x B g S σ c r hl W p n vt vh vx ms mp h).mono ?_
 rintro e W' ⟨h1,⟨p',n',h2⟩,h3⟩
 exact⟨h1,h2.mem,only_below h3 h.low (Nat.le_trans h.low (Nat.le_of_lt h.lt))⟩
theorem begin_v (B g:Nat) (S:L) (σ:St) (b:Nat) (hb:b+nl σ.l=1+nl S) (W:World) (h:Mem W B g S σ):Calls Tryz.prog 49 #[.pointer (some ⟨g,0,none⟩)] W fun e W'=>e=.returned (.tuple #[])∧Mem W' B g S { σ with b:=b }∧Below B W W':=by
 obtain⟨p,n,vt,vh,vx,ms,mp,h⟩:=h
 obtain rfl:b=n:=by have:=h.ln;omega
 obtain⟨⟨_,_,c2,c3,_⟩,hz⟩:=h.facts
 have H:=Lib.hid h
 clear h hb
 go_enter Tryz.func49,Tryz.ntmps49
 go_wp2
 go_end0
 exact⟨rfl,(H.out.set 3 _ (σ':={ σ with b:=b }) (by simp) H.out.cut H.out.at_ H.out.ln rfl rfl rfl).mem,Below.setCell (Below.refl _ _) H.out.low _⟩
theorem passJoin_v (B g:Nat) (S:L) (σ:St) (r:L) (hl:σ.l=92::10::r) (W:World) (h:Mem W B g S σ):Calls Tryz.prog 84 #[.pointer (some ⟨g,0,none⟩)] W fun e W'=>e=.returned (.bool true)∧Mem W' B g S { σ with l:=r }∧Below B W W':=by
 have ha:=ahead_t B g S σ ⟨#[92,10]⟩ [92,10] rfl true (by rw[hl];rfl) W h
 have HA:=Lib.hid ha
 have HP:=Lib.hid (fun m=>pass_v B g S σ 92 (10::r) hl (W.drewN m) (h.drewN m))
 clear h hl ha
 go_enter Tryz.func84,Tryz.ntmps84
 go_wp2_with (first
  |(go_at_call 88;(with_reducible refine HA.out.mono ?_);rintro e w1 ⟨rfl,m,rfl⟩)
  |(go_at_call 39;first | ((with_reducible refine(HP.out _).mono ?_);rintro e w2 ⟨rfl,hm2,hb2⟩;have HP2:=Lib.hid (pass_v B g S { σ with l:=10::r } 10 r rfl w2 hm2);have HB2:=Lib.hid hb2;clear hm2 hb2) | ((with_reducible refine HP2.out.mono ?_);rintro e w3 ⟨rfl,hm3,hb3⟩))
  )
 go_ret
 exact⟨rfl,hm3,((Below.drewN _ _ _).trans HB2.out).trans hb3⟩
theorem passJoin_no (B g:Nat) (S:L) (σ:St) (hl:([92,10]:L).isPrefixOf σ.l=false) (W:World) (h:Mem W B g S σ):Calls Tryz.prog 84 #[.pointer (some ⟨g,0,none⟩)] W fun e W'=>e=.returned (.bool false)∧∃ m,W'=W.drewN m:=by
 have ha:=ahead_t B g S σ ⟨#[92,10]⟩ [92,10] rfl false hl W h
 have HA:=Lib.hid ha
 clear h hl ha
 go_enter Tryz.func84,Tryz.ntmps84
 go_wp2_with (first
  |(go_at_call 88;(with_reducible refine HA.out.mono ?_);rintro e w1 ⟨rfl,m,rfl⟩))
 go_ret
 exact⟨rfl,_,rfl⟩
theorem passRow_x (B g:Nat) (S:L) (σ:St) (W:World) (p n:Nat) (vt vh vx:Value) (ms mp:Nat) (h:MemX W B g S σ p n vt vh vx ms mp):Calls Tryz.prog 37 #[.pointer (some ⟨g,0,none⟩)] W fun e W'=>e=.returned (.tuple #[])∧(∃ p' n',MemX W' B g S { σ with l:=Lx.skip σ.l } p' n' vt vh vx ms mp)∧W.grownBy W' (some g):=by
 have H:=Lib.hid h
 clear h
 go_enter Tryz.func37,Tryz.ntmps37
 go_wp2
 go_loopw [] (fun wr=>∃ l',Lx.skip l'=Lx.skip σ.l∧(∃ p' n',MemX wr B g S { σ with l:=l' } p' n' vt vh vx ms mp)∧W.grownBy wr (some g)) (fun wr=>S.length-atOf g wr)
 case atStart=>exact⟨σ.l,rfl,⟨p,n,H.out⟩,World.grownBy.refl _ _⟩
 case round=>
  obtain⟨l',hs,⟨p1,n1,hm⟩,hb⟩:=hrel
  have HS:=Lib.hid hs
  have HM:=Lib.hid hm
  have HB:=Lib.hid hb
  have hl:=left_v B g S { σ with l:=l' } wr hm.mem
  clear hs hb
  cases l' with
  | nil=>
   have HL:=Lib.hid hl
   clear hl hm
   go_wp2_with (first
    |(go_at_call 46;(with_reducible refine HL.out.mono ?_);rintro e w1 ⟨rfl,m,rfl⟩))
   go_end0
   exact⟨rfl,by rw[←HS.out];exact⟨_,_,HM.out.drewN _⟩,only_trans HB.out (only_drewN _ _ _)⟩
  | cons c r=>
   have HL:=Lib.hid hl
   have HP:=Lib.hid (fun m=>peek_v B g S { σ with l:=c::r } c r rfl (wr.drewN m) (hm.drewN m).mem)
   clear hl hm
   have HQ:=Lib.hid (fun m=>pass_x B g S { σ with l:=c::r } c r rfl (wr.drewN m) _ _ _ _ _ _ _ (HM.out.drewN m))
   by_cases hc:c=10
   ·have h10:((c.toNat:Int) != 10)=false:=byt_nne 10 hc
    go_wp2_with (first
     |(go_at_call 46;(with_reducible refine HL.out.mono ?_);rintro e w1 ⟨rfl,m,rfl⟩)
     |(go_at_call 47;(with_reducible refine(HP.out _).mono ?_);rintro e w1 ⟨rfl,m2,rfl⟩))
    go_end0
    exact⟨rfl,by rw[←HS.out,Lx.skip,if_pos hc];exact⟨_,_,HM.out.drewN _⟩,only_trans HB.out (only_drewN _ _ _)⟩
   ·have h10:((c.toNat:Int) != 10)=true:=byt_neq 10 hc
    go_wp2_with (first
     |(go_at_call 46;(with_reducible refine HL.out.mono ?_);rintro e w1 ⟨rfl,m,rfl⟩)
     |(go_at_call 47;(with_reducible refine(HP.out _).mono ?_);rintro e w1 ⟨rfl,m2,rfl⟩)
     |(go_at_call 39;(with_reducible refine(HQ.out _).mono ?_);rintro e w3 ⟨rfl,⟨p3,n3,hm3⟩,hb3⟩;have HM3:=Lib.hid hm3;have HB3:=Lib.hid hb3;clear hm3 hb3))
    go_roundw
    case rel=>exact⟨r,by rw[←HS.out,Lx.skip,if_neg hc],⟨_,_,HM3.out⟩,only_trans (only_trans HB.out (only_drewN _ _ _)) HB3.out⟩
    case measure=>rw[HM3.out.mem.left,HM.out.mem.left];simp
theorem passRow_v (B g:Nat) (S:L) (σ:St) (W:World) (h:Mem W B g S σ):Calls Tryz.prog 37 #[.pointer (some ⟨g,0,none⟩)] W fun e W'=>e=.returned (.tuple #[])∧Mem W' B g S { σ with l:=Lx.skip σ.l }∧Below B W W':=by
 obtain⟨p,n,vt,vh,vx,ms,mp,h⟩:=h
 refine(passRow_x B g S σ W p n vt vh vx ms mp h).mono ?_
 rintro e W' ⟨h1,⟨p',n',h2⟩,h3⟩
 exact⟨h1,h2.mem,only_below h3 h.low (Nat.le_trans h.low (Nat.le_of_lt h.lt))⟩
end Go.Proofs.YtkkchkkpnlnbgaaGreatDoor
namespace Go.Proofs.YtkkchkkpnlnbgaaGreatDoor
open Go.RowKit Go.Maps
open Lx (nl Tok)
theorem snoc_bv (q:L) (c:UInt8):(q++[c]).map bv=q.map bv++[bv c]:=by simp
theorem Grew.fz {W W':World} {B g p n ms mp:Nat} {S:L} {σ:St} {vt vh vx v':Value} {xs:List Value} (hg:Grew W W' B 5 vx v' xs) (h:MemX W B g S σ p n vt vh vx ms mp):W'.cell? ⟨g,6,none⟩=some vx∧W'.frozen? ⟨g,6,none⟩=false:=
 cell_row ((hg.grown.block g h.lt (fun e=>apart_block h.txt h.box (by decide) e.symm)).trans h.box) 6
theorem Mem.base {W:World} {B g:Nat} {S:L} {σ:St} (h:Mem W B g S σ):B≤W.heap.size:=by
 obtain⟨p,n,vt,vh,vx,ms,mp,h⟩:=h
 exact Nat.le_trans h.low (Nat.le_of_lt h.lt)
theorem take_v (B g:Nat) (S:L) (σ:St) (c:UInt8) (r:L) (hl:σ.l=c::r) (hq:σ.q.length≤5000) (W:World) (h:Mem W B g S σ):Calls Tryz.prog 89 #[.pointer (some ⟨g,0,none⟩)] W fun e W'=>e=.returned (.int .u8 (c.toNat:Int))∧Mem W' B g S { σ with l:=r,q:=σ.q++[c] }∧Below B W W':=by
 obtain⟨i0,hi,hz0,hz1,hz2⟩:=info_parts info_u8
 have hB:=h.base
 have HN:=Lib.hid (next_v B g S σ c r hl W h)
 have HQ:=Lib.hid hq
 obtain⟨q',hq'⟩:∃ q',q'=σ.q++[c]:=⟨_,rfl⟩
 have HQ2:=Lib.hid hq'
 have HB:=Lib.hid hB
 clear h hl hq hq' hB
 go_enter Tryz.func89,Tryz.ntmps89
 go_wp2_with (first
  |(go_at_call 87;(with_reducible refine HN.out.mono ?_);rintro e w1 ⟨rfl,⟨p,n,vt,vh,vx,ms,mp,hm⟩,hb⟩;obtain⟨⟨_,_,_,_,_,_,c6,_⟩,hz⟩:=hm.facts;have HM:=Lib.hid hm;have HB1:=Lib.hid hb;have HS:=Lib.hid (Nat.le_trans HB.out hb.size);obtain⟨A,k,rfl,h1,h2,h3⟩:=own_map hm.txt;clear hm hb h1 h2 h3)
  |(at_builtin;refine wpList_app1 w1 (.int .u8 (c.toNat:Int)) rfl (.tmp 10) (.tmp 12) _ rfl B 5 i0 (.int .u8 0) 1 Tryz.underlying70 hi hz0 hz1 hz2 rfl rfl (.slice A σ.q.length k) (σ.q.map bv) rfl HM.out.txt rfl ?hby ?hle HS.out ?_;(case hby=>have:=HQ.out;rw[List.length_map];omega);(case hle=>have:=HQ.out;rw[List.length_map];omega);intro v2 w2 hg2;rw[show (Value.int .u8 (c.toNat:Int))=bv c from rfl,←snoc_bv,←HQ2.out] at hg2;obtain⟨c62,hz62⟩:=hg2.fz HM.out;obtain⟨A2,k2,rfl,h1,h2,h3⟩:=own_map hg2.own;have HG:=Lib.hid hg2;clear hg2 h1 h2 h3))
 go_ret
 refine⟨rfl,?_,?_⟩
 ·have:=HM.out.text HG.out
  rw[HQ2.out] at this
  rw[HQ2.out]
  exact this.mem
 ·exact Below.setCell (HB1.out.trans (HG.out.below HM.out.txt HS.out)) HM.out.low _
theorem take_bad (B g:Nat) (S:L) (σ:St) (hl:σ.l=[]) (W:World) (h:Mem W B g S σ):Calls Tryz.prog 89 #[.pointer (some ⟨g,0,none⟩)] W fun e W'=>e=.panicked (flt 20 σ.b)∧∃ m,W'=W.drewN m:=by
 have HP:=Lib.hid (next_bad B g S σ hl W h)
 clear h hl
 go_enter Tryz.func89,Tryz.ntmps89
 go_wp2_with (go_at_call 87;(with_reducible refine HP.out.mono ?_);rintro e w1 ⟨rfl,m,rfl⟩)
 exact bodyPost_panic rfl ⟨rfl,_,rfl⟩
end Go.Proofs.YtkkchkkpnlnbgaaGreatDoor
namespace Go.Proofs.YtkkchkkpnlnbgaaGreatDoor
open Go.RowKit Go.Maps
open Lx (nl Tok)
structure High (B:Nat) (w w':World):Prop where
 size:w.heap.size≤w'.heap.size
 block:∀ i,B≤i→i<w.heap.size→w'.heap[i]?=w.heap[i]?
theorem High.later {B:Nat} {w w':World} (h:Later w w'):High B w w':=⟨h.size,fun i _ hi=>h.block i hi⟩
theorem High.grown {B:Nat} {w w':World} {row:Option Nat} (h:w.grownBy w' row) (hr:∀ i,row=some i→i<B):High B w w':=⟨h.size,fun i hi hlt=>h.block i hlt fun e=>by have:=hr i e.symm;omega⟩
def spLit (B:Nat) (cs:Array Value) (e:TypeId):Sp (High B):=⟨fun v w=>∃ N,v=.slice (some ⟨N,0,none⟩) 1 1∧B≤N∧w.heap[N]?=some (.cells cs e (0,0)),fun _ _ _ hg ⟨N,h1,h2,h3⟩=>⟨N,h1,h2,(hg.block N h2 (lt_of_block h3)).trans h3⟩⟩
theorem owes_append {P:Program} {o:Oper} {a:Act} {w w':World} {K:Act→World→Prop} {Q:Exit→Act→World→Prop} {i j:Tmp} {t:TypeId} {v x v':Value} (hrun:(Builtin.append_ #[t,t] o.type #[v,x]).run P w=.ok v' w')
  (ho:o.op=.call { callee:=.builtin .append,args:=#[.tmp i,.tmp j],argTypes:=#[t,t] }) (hi:a.tmps.getD i undef=v) (hj:a.tmps.getD j undef=x) (hK:K (a.put o.dst v') w'):Oper.wp P o a w K Q:=by
 have ei:a.eval (.tmp i)=v:=hi
 have ej:a.eval (.tmp j)=x:=hj
 unfold Oper.wp execOp
 simp only[ho,resolve,invoke,builtin,Sem.run_bind,Sem.run_pure,Result.andThen_ok,List.map_toArray,List.map_cons,List.map_nil,ei,ej,hrun]
 exact hK
theorem info_tok:(Tryz.prog.info? 63).map (fun i=>(i.zero,i.size,i.bytes))=some (some (.agg #[.int .i64 0,.string ⟨#[]⟩,.string ⟨#[]⟩,.int .i64 0]),4,48):=by kernel_rfl
theorem own_slice4 {w:World} {base n:Nat} {e:TypeId} {v:Value} {xs:List Value} (h:w.ownsRow base e 4 v n xs):∃ A c,v=.slice A n c∧n≤c:=by
 rcases h.2 with⟨rfl,rfl⟩ | ⟨g,cap,cur,rfl,_,_,hnc,_⟩
 ·exact⟨none,0,rfl,Nat.le_refl _⟩
 ·exact⟨_,_,rfl,hnc⟩
theorem grown_later {a b c:World} {row:Option Nat} (h:a.grownBy b row) (k:Later b c):a.grownBy c row:=
 ⟨k.os.trans h.os,k.tape.trans h.tape,k.output.trans h.output,Nat.le_trans h.size k.size,fun i hi hne=>(k.block i (Nat.lt_of_lt_of_le hi h.size)).trans (h.block i hi hne)⟩
theorem later_grown {a b c:World} {row:Option Nat} (h:Later a b) (k:b.grownBy c row):a.grownBy c row:=
 ⟨k.os.trans h.os,k.tape.trans h.tape,k.output.trans h.output,Nat.le_trans h.size k.size,fun i hi hne=>(k.block i (Nat.lt_of_lt_of_le hi h.size) hne).trans (h.block i hi)⟩
theorem tell_v (B g:Nat) (S:L) (σ:St) (k:Int) (T:ByteArray) (t:Tok) (hk:k=t.kind) (hT:T=mkS t.text) (hbd:t.body=[]) (hln:1+nl S-t.left=σ.b) (hn:σ.ts.length≤5000) (W:World) (h:Mem W B g S σ) :
  Calls Tryz.prog 50 #[.pointer (some ⟨g,0,none⟩),.int .i64 k,.string T] W fun e W'=>e=.returned (.tuple #[])∧Mem W' B g S { σ with ts:=σ.ts++[t] }∧Below B W W':=by
 obtain⟨i0,hi,hz0,hz1,hz2⟩:=info_parts info_tok
 obtain⟨p,n,vt,vh,vx,ms,mp,h⟩:=h
 obtain⟨b,hb⟩:∃ b,b=σ.b:=⟨_,rfl⟩
 obtain⟨ts',hts⟩:∃ ts',ts'=σ.ts++[t]:=⟨_,rfl⟩
 rw[←hts]
 obtain⟨A0,k0,rfl,hk0⟩:=own_slice4 h.tok
 obtain⟨n0,hn0⟩:∃ n0,n0=σ.ts.length:=⟨_,rfl⟩
 rw[←hn0] at h
 have htk:=h.tok
 rw[←hn0] at htk
 have htc:#[.int .i64 k,.string T,.string ⟨#[]⟩,.int .i64 (b:Int)]=tcs (nl S) t:=by
  rw[hb,←hln,hk,hT];unfold tcs;rw[hbd];rfl
 have hct:cellsT (nl S) ts'=cellsT (nl S) σ.ts++[.int .i64 k,.string T,.string ⟨#[]⟩,.int .i64 (b:Int)]:=by
  rw[hts]
  unfold cellsT
  rw[List.flatMap_append]
  simp only[List.flatMap_cons,List.flatMap_nil,List.append_nil]
  rw[←htc]
 have htl:ts'.length=n0+1:=by rw[hts,hn0];simp
 let C1:Value→World→Prop:=fun v w=>w.ownsRow B 63 4 v ts'.length (cellsT (nl S) ts')∧W.grownBy w (Value.slice A0 n0 k0).ownBlock
 let C2:World→Prop:=fun w=>Mem w B g S { σ with ts:=ts' }∧Below B W w
 have hlt:=h.lt
 have hBW:B≤W.heap.size:=Nat.le_trans h.low (Nat.le_of_lt hlt)
 have hob:∀ i,(Value.slice A0 n0 k0).ownBlock=some i→B≤i∧i<W.heap.size:=fun i e=>h.tok.lt i e
 have hg0:∀ w v,C1 v w→w.heap[g]?=W.heap[g]?:=fun w v hc=>hc.2.block g hlt fun e=>apart_block h.tok h.box (by decide) e.symm
 have HC0:=Lib.hid (show ∀ w,Later W w→w.cell? ⟨g,4,none⟩=some (.slice A0 n0 k0) from fun w hw=>(cell_row ((hw.block g hlt).trans h.box) 4).1)
 have HC3:=Lib.hid (show ∀ w,(Later W w∨(∃ u,C1 u w)∨C2 w)→w.cell? ⟨g,3,none⟩=some (.int .i64 (b:Int)) from fun w hw=>by
  rw[hb]
  rcases hw with hw | ⟨u,hw⟩ | ⟨⟨_,_,_,_,_,_,_,hw⟩,_⟩
  ·exact(cell_row ((hw.block g hlt).trans h.box) 3).1
  ·exact(cell_row ((hg0 w u hw).trans h.box) 3).1
  ·exact(cell_row hw.box 3).1)
 have HSZ:=Lib.hid (show ∀ w,(Later W w∨(∃ u,C1 u w)∨C2 w)→W.heap.size≤w.heap.size from fun w hw=>by
  rcases hw with hw | ⟨u,hw⟩ | ⟨_,hw⟩
  ·exact hw.size
  ·exact hw.2.size
  ·exact hw.size)
 have HL1:=Lib.hid (show ∀ u w w',C1 u w→Later w w'→C1 u w' from fun u w w' hc hl=>⟨own_below hc.1 hl,grown_later hc.2 hl⟩)
 have HL2:=Lib.hid (show ∀ w w',C2 w→Later w w'→C2 w' from fun w w' hc hl=>⟨hc.1.kept hl,hc.2.trans (hl.mono (Nat.le_trans hBW hc.2.size))⟩)
 have HOR:=Lib.hid (show ∀ w w',(Later W w∨(∃ u,C1 u w)∨C2 w)→Later w w'→(Later W w'∨(∃ u,C1 u w')∨C2 w') from fun w w' hc hl=>by
  rcases hc with hc | ⟨u,hc⟩ | hc
  ·exact .inl (hc.trans hl)
  ·exact .inr (.inl ⟨u,HL1.out u w w' hc hl⟩)
  ·exact .inr (.inr (HL2.out w w' hc hl)))
 have HAP:=Lib.hid (show ∀ w,Later W w→∀ N,w.heap[N]?=some (.cells #[.int .i64 k,.string T,.string ⟨#[]⟩,.int .i64 (b:Int)] 63 (0,0))→∃ v' w',(Builtin.append_ #[39,39] 39 #[.slice A0 n0 k0,.slice (some ⟨N,0,none⟩) 1 1]).run Tryz.prog w=.ok v' w'∧C1 v' w'∧High W.heap.size w w' from fun w hw N hN=>by
  obtain⟨v',w',hrun,h2,h3,_,_⟩:=run_append_own_at (P:=Tryz.prog) w B 39 39 63 i0 _ 4 48 Tryz.underlying39 hi hz0 hz1 hz2 rfl (by omega) (.slice A0 n0 k0) n0 (cellsT (nl S) σ.ts) (own_below htk hw) ⟨N,0,none⟩ 1 1 [.int .i64 k,.string T,.string ⟨#[]⟩,.int .i64 (b:Int)] rfl
   (fun j u hj=>by rw[add_lit0,(cell_row hN j).1];simpa using hj) (fun u hu=>by simp at hu;rcases hu with rfl | rfl | rfl | rfl <;> rfl) (by unfold maxLen;omega) (by omega) (Nat.le_trans hBW hw.size)
  exact⟨v',w',hrun,⟨by rw[hct,htl];exact h2,later_grown hw h3⟩,High.grown h3 fun i e=>(hob i e).2⟩)
 have HCE:=Lib.hid (show ∀ w,C2 w→Mem w B g S { σ with ts:=ts' }∧Below B W w from fun w hc=>hc)
 have HU:=Lib.hid (show ∀ w u,C1 u w→∃ A n k,u=.slice A n k from fun w u hc=>by
  obtain⟨A,c,e,_⟩:=own_slice4 hc.1
  exact⟨A,_,c,e⟩)
 have HQ4:=Lib.hid (show ∀ w u,C1 u w→w.cell? ⟨g,4,none⟩=some (.slice A0 n0 k0)∧w.frozen? ⟨g,4,none⟩=false from fun w u hc=>cell_row ((hg0 w u hc).trans h.box) 4)
 have HC2:=Lib.hid (show ∀ w u,C1 u w→C2 (w.setCell ⟨g,4,none⟩ u) from fun w u hc=>⟨(h.toks hc.1 hc.2).mem,((Below.refl B W).grown hc.2 hBW fun i e=>(hob i e).1).setCell h.low u⟩)
 have HGQ:=Lib.hid (show ∀ w u,C1 u w→High W.heap.size w (w.setCell ⟨g,4,none⟩ u) from fun w u hc=>High.grown (set_only w g 4 u) fun i e=>by cases e;exact hlt)
 clear_value C1 C2
 clear htk h hk hT hbd hln hn hts hk0 htc hct htl hob hg0 hb hn0 hi hz0 hz1 hz2
 go_enter Tryz.func50,Tryz.ntmps50
 go_wp2
 refine wp_region_two (by kernel_rfl) 13 16 (Later W) (C1) (C2) (High W.heap.size) [Sp.val (.pointer (some ⟨g,0,none⟩)),Sp.val (.pointer (some ⟨g,0,none⟩)),Sp.val (.pointer (some ⟨g,0,none⟩)),Sp.val (.pointer (some ⟨g,4,none⟩)),Sp.val (.slice A0 n0 k0),Sp.val (.int .i64 k),Sp.val (.string T),Sp.val (.pointer (some ⟨g,0,none⟩)),Sp.val (.pointer (some ⟨g,0,none⟩)),Sp.val (.pointer (some ⟨g,3,none⟩)),Sp.val (.int .i64 (b:Int)),Sp.val (.agg #[.int .i64 k,.string T,.string ⟨#[]⟩,.int .i64 (b:Int)]),spLit W.heap.size #[.int .i64 k,.string T,.string ⟨#[]⟩,.int .i64 (b:Int)] 63,Sp.any,Sp.val (.pointer (some ⟨g,0,none⟩)),Sp.val (.pointer (some ⟨g,4,none⟩)),Sp.any] (by decide) (by decide) (by decide) (by kernel_rfl) (by kernel_rfl) (by kernel_rfl) (Later.drew W) (fun _ _ h hl=>Later.trans h hl) (HL1.out) (HL2.out) (fun _ _ h=>High.later h) ?_ ?_
 ·refine⟨?_,?_,?_,?_,?_,?_,?_,?_,?_,?_,?_,?_,?_,?_,?_,?_,?_,trivial⟩
  ·
   unfold OwesT
   rw[if_neg (by decide),if_neg (by decide)]
   refine fun a w hD hC hs=>⟨?_,?_⟩
   ·rfl
   have e0:a.tmps.getD 0 undef=.pointer (some ⟨g,0,none⟩):=hs.free 0 rfl
   exact⟨e0,hC,Later.refl _⟩
  ·
   unfold OwesT
   rw[if_neg (by decide),if_neg (by decide)]
   refine fun a w hD hC hs=>⟨?_,?_⟩
   ·rfl
   have e0:a.tmps.getD 0 undef=.pointer (some ⟨g,0,none⟩):=hs.free 0 rfl
   exact⟨e0,hC,Later.refl _⟩
  ·
   unfold OwesT
   rw[if_neg (by decide),if_neg (by decide)]
   refine fun a w hD hC hs=>⟨?_,?_⟩
   ·rfl
   have e7:a.tmps.getD 7 undef=.pointer (some ⟨g,0,none⟩):=hs.dep 1 _ rfl rfl
   refine ValWp.pure (v:=.pointer (some ⟨g,0,none⟩)) (fun K' hK'=>?_) ⟨rfl,hC,Later.refl _⟩
   simp only[ValWp,execOp,Act.eval,e7]
   go_simp
   all_goals exact hK'
  ·
   unfold OwesT
   rw[if_neg (by decide),if_neg (by decide)]
   refine fun a w hD hC hs=>⟨?_,?_⟩
   ·rfl
   have e8:a.tmps.getD 8 undef=.pointer (some ⟨g,0,none⟩):=hs.dep 2 _ rfl rfl
   refine ValWp.pure (v:=.pointer (some ⟨g,4,none⟩)) (fun K' hK'=>?_) ⟨rfl,hC,Later.refl _⟩
   simp only[ValWp,execOp,Act.eval,e8]
   go_simp
   all_goals exact hK'
  ·
   unfold OwesT
   rw[if_neg (by decide),if_neg (by decide)]
   refine fun a w hD hC hs=>⟨?_,?_⟩
   ·rfl
   have e9:a.tmps.getD 9 undef=.pointer (some ⟨g,4,none⟩):=hs.dep 3 _ rfl rfl
   have q4:=HC0.out w (hD (by kernel_rfl))
   refine ValWp.pure (v:=.slice A0 n0 k0) (fun K' hK'=>?_) ⟨rfl,hC,Later.refl _⟩
   simp only[ValWp,execOp,Act.eval,e9]
   go_simp
   all_goals exact hK'
  ·
   unfold OwesT
   rw[if_neg (by decide),if_neg (by decide)]
   refine fun a w hD hC hs=>⟨?_,?_⟩
   ·rfl
   have e1:a.tmps.getD 1 undef=.int .i64 k:=hs.free 1 rfl
   exact⟨e1,hC,Later.refl _⟩
  ·
   unfold OwesT
   rw[if_neg (by decide),if_neg (by decide)]
   refine fun a w hD hC hs=>⟨?_,?_⟩
   ·rfl
   have e2:a.tmps.getD 2 undef=.string T:=hs.free 2 rfl
   exact⟨e2,hC,Later.refl _⟩
  ·
   unfold OwesT
   rw[if_neg (by decide),if_neg (by decide)]
   refine fun a w hD hC hs=>⟨?_,?_⟩
   ·rfl
   have e0:a.tmps.getD 0 undef=.pointer (some ⟨g,0,none⟩):=hs.free 0 rfl
   exact⟨e0,hC,Later.refl _⟩
  ·
   unfold OwesT
   rw[if_neg (by decide),if_neg (by decide)]
   refine fun a w hD hC hs=>⟨?_,?_⟩
   ·rfl
   have e13:a.tmps.getD 13 undef=.pointer (some ⟨g,0,none⟩):=hs.dep 7 _ rfl rfl
   refine ValWp.pure (v:=.pointer (some ⟨g,0,none⟩)) (fun K' hK'=>?_) ⟨rfl,hC,Later.refl _⟩
   simp only[ValWp,execOp,Act.eval,e13]
   go_simp
   all_goals exact hK'
  ·
   unfold OwesT
   rw[if_neg (by decide),if_neg (by decide)]
   refine fun a w hD hC hs=>⟨?_,?_⟩
   ·rfl
   have e14:a.tmps.getD 14 undef=.pointer (some ⟨g,0,none⟩):=hs.dep 8 _ rfl rfl
   refine ValWp.pure (v:=.pointer (some ⟨g,3,none⟩)) (fun K' hK'=>?_) ⟨rfl,hC,Later.refl _⟩
   simp only[ValWp,execOp,Act.eval,e14]
   go_simp
   all_goals exact hK'
  ·
   unfold OwesT
   rw[if_neg (by decide),if_neg (by decide)]
   refine fun a w hD hC hs=>⟨?_,?_⟩
   ·rfl
   have e15:a.tmps.getD 15 undef=.pointer (some ⟨g,3,none⟩):=hs.dep 9 _ rfl rfl
   have q3:=HC3.out w hC
   refine ValWp.pure (v:=.int .i64 (b:Int)) (fun K' hK'=>?_) ⟨rfl,hC,Later.refl _⟩
   simp only[ValWp,execOp,Act.eval,e15]
   go_simp
   all_goals exact hK'
  ·
   unfold OwesT
   rw[if_neg (by decide),if_neg (by decide)]
   refine fun a w hD hC hs=>⟨?_,?_⟩
   ·rfl
   have e11:a.tmps.getD 11 undef=.int .i64 k:=hs.dep 5 _ rfl rfl
   have e12:a.tmps.getD 12 undef=.string T:=hs.dep 6 _ rfl rfl
   have e16:a.tmps.getD 16 undef=.int .i64 (b:Int):=hs.dep 10 _ rfl rfl
   refine ValWp.pure (v:=.agg #[.int .i64 k,.string T,.string ⟨#[]⟩,.int .i64 (b:Int)]) (fun K' hK'=>?_) ⟨rfl,hC,Later.refl _⟩
   simp only[ValWp,execOp,Act.eval,List.map_toArray,List.map_cons,List.map_nil,e11,e12,e16]
   go_simp
   all_goals exact hK'
  ·
   unfold OwesT
   rw[if_neg (by decide),if_neg (by decide)]
   refine fun a w hD hC hs=>⟨?_,?_⟩
   ·rfl
   have e17:a.tmps.getD 17 undef=.agg #[.int .i64 k,.string T,.string ⟨#[]⟩,.int .i64 (b:Int)]:=hs.dep 11 _ rfl rfl
   refine ValWp.pure (v:=.slice (some ⟨w.heap.size,0,none⟩) 1 1) (w':=w.alloc (.cells #[.int .i64 k,.string T,.string ⟨#[]⟩,.int .i64 (b:Int)] 63)) (fun K' hK'=>?_) ⟨⟨w.heap.size,rfl,HSZ.out w hC,heap_alloc_new w _⟩,HOR.out w _ hC (Later.alloc w _),Later.alloc w _⟩
   simp only[ValWp,execOp,Act.eval,List.map_toArray,List.map_cons,List.map_nil,e17]
   go_simp
   all_goals exact hK'
  ·
   unfold OwesT
   rw[if_pos rfl]
   refine fun a w hC hs=>⟨?_,?_⟩
   ·rfl
   have e10:a.tmps.getD 10 undef=.slice A0 n0 k0:=hs.dep 4 _ rfl rfl
   obtain⟨N18,e18,hN18,hb18⟩:=hs.dep 12 _ rfl rfl
   change a.tmps.getD 18 undef=_ at e18
   intro K hK
   obtain⟨v',w',hrun,ho,hg⟩:=HAP.out w hC N18 hb18
   exact owes_append hrun rfl e10 e18 (hK v' w' trivial ho hg)
  ·
   unfold OwesT
   rw[if_neg (by decide),if_neg (by decide)]
   refine fun a w hD hC hs=>⟨?_,?_⟩
   ·rfl
   have e6:a.tmps.getD 6 undef=.pointer (some ⟨g,0,none⟩):=hs.dep 0 _ rfl rfl
   refine ValWp.pure (v:=.pointer (some ⟨g,0,none⟩)) (fun K' hK'=>?_) ⟨rfl,hC,Later.refl _⟩
   simp only[ValWp,execOp,Act.eval,e6]
   go_simp
   all_goals exact hK'
  ·
   unfold OwesT
   rw[if_neg (by decide),if_neg (by decide)]
   refine fun a w hD hC hs=>⟨?_,?_⟩
   ·rfl
   have e20:a.tmps.getD 20 undef=.pointer (some ⟨g,0,none⟩):=hs.dep 14 _ rfl rfl
   refine ValWp.pure (v:=.pointer (some ⟨g,4,none⟩)) (fun K' hK'=>?_) ⟨rfl,hC,Later.refl _⟩
   simp only[ValWp,execOp,Act.eval,e20]
   go_simp
   all_goals exact hK'
  ·
   unfold OwesT
   rw[if_neg (by decide),if_pos rfl]
   refine fun a w u hC hu hs=>⟨?_,?_⟩
   ·rfl
   have e21:a.tmps.getD 21 undef=.pointer (some ⟨g,4,none⟩):=hs.dep 15 _ rfl rfl
   have e19:a.tmps.getD 19 undef=u:=hu
   obtain⟨A4,n4,k4,rfl⟩:=HU.out w u hC
   obtain⟨q4,qz⟩:=HQ4.out w _ hC
   refine ValWp.pure (v:=undef) (w':=w.setCell ⟨g,4,none⟩ (.slice A4 n4 k4)) (fun K' hK'=>?_) ⟨trivial,HC2.out w _ hC,HGQ.out w _ hC⟩
   simp only[ValWp,execOp,Act.eval,e21,e19]
   go_simp
   all_goals exact hK'
 ·intro a W hC hd hsz hfree hs
  obtain⟨z0,z1,z2,u3,u4,u5,u6,u7,u8,u9,u10,u11,u12,u13,u14,u15,u16,u17,u18,u19,u20,u21,hal⟩:=lets a 22 0
  obtain rfl:=hal.on (v:=.pointer (some ⟨g,0,none⟩)) 0 (hfree 0 rfl) rfl
  obtain rfl:=hal.on (v:=.int .i64 k) 1 (hfree 1 rfl) rfl
  obtain rfl:=hal.on (v:=.string T) 2 (hfree 2 rfl) rfl
  have hlit:=fun h=>act_lit hd h hal
  rw[hlit hsz]
  clear hlit hal hd hsz hfree hs
  go_wp2
  go_end0
  exact⟨rfl,HCE.out _ hC⟩
end Go.Proofs.YtkkchkkpnlnbgaaGreatDoor
