import Derived.Test.YtipdgmjplnibeaaGreatDoorG06
import Derived.BigQuiet
set_option maxRecDepth 100000
namespace Go.Proofs.YtipdgmjplnibeaaGreatDoor
open Go.RowKit Go.Maps
namespace Ar
theorem bit_v (b:Bool) (W:World):Calls Tryz.prog 184 #[.bool b] W fun e W'=>e=.returned (.int .i64 (bit b))∧W'=W:=by
 cases b <;>
 ·go_enter Tryz.func184,Tryz.ntmps184
  go_wp2
  go_ret
  exact⟨rfl,rfl⟩
theorem and63 (b:Int):0≤bits .and .i64 b 63∧bits .and .i64 b 63≤63:=by
 have h:((BitVec.ofInt 64 b) &&& (BitVec.ofInt 64 63)).toNat≤63:=by
  rw[BitVec.toNat_and]
  exact Nat.le_trans Nat.and_le_right (by decide)
 have e:bits .and .i64 b 63=(((BitVec.ofInt 64 b) &&& (BitVec.ofInt 64 63)).toNat:Int):=by
  show IntKind.i64.wrap ((((BitVec.ofInt 64 b) &&& (BitVec.ofInt 64 63)).toNat:Nat):Int)=_
  rw[IntWalk.i64_left]
  exact IntWalk.wrap64_in _ (by omega)
 omega
theorem ahead1 (a:Int) (W:World):Calls Tryz.prog 183 #[.int .i64 a] W fun e W'=>e=.returned (.int .i64 (op1 [33] a))∧W'=W:=by
 go_enter Tryz.func183,Tryz.ntmps183
 go_wp2_with (go_at_call 184;(with_reducible refine(bit_v _ _).mono ?_);rintro e w1 ⟨rfl,rfl⟩)
 go_ret
 exact⟨rfl,rfl⟩
theorem ahead2 (a:Int) (W:World):Calls Tryz.prog 185 #[.int .i64 a] W fun e W'=>e=.returned (.int .i64 (op1 [126] a))∧W'=W:=by
 go_enter Tryz.func185,Tryz.ntmps185
 go_wp2
 all_goals (go_ret;first | (exact⟨rfl,rfl⟩) | skip)
theorem ahead3 (a:Int) (W:World):Calls Tryz.prog 186 #[.int .i64 a] W fun e W'=>e=.returned (.int .i64 (op1 [43] a))∧W'=W:=by
 go_enter Tryz.func186,Tryz.ntmps186
 go_wp2
 go_ret
 exact⟨by simp[op1],rfl⟩
theorem ahead4 (a:Int) (W:World):Calls Tryz.prog 187 #[.int .i64 a] W fun e W'=>e=.returned (.int .i64 (op1 [45] a))∧W'=W:=by
 go_enter Tryz.func187,Tryz.ntmps187
 go_wp2
 go_ret
 exact⟨by simp[op1],rfl⟩
theorem pair1 (a b:Int) (W:World):Calls Tryz.prog 188 #[.int .i64 a,.int .i64 b] W fun e W'=>e=.returned (.int .i64 (op2 [124,124] a b))∧W'=W:=by
 go_enter Tryz.func188,Tryz.ntmps188
 by_cases ha:a=0
 ·subst ha
  go_wp2_with (go_at_call 184;(with_reducible refine(bit_v _ _).mono ?_);rintro e w1 ⟨rfl,rfl⟩)
  go_ret
  exact⟨rfl,rfl⟩
 ·have hn:(a != 0)=true:=by simp[ha]
  go_wp2_with (go_at_call 184;(with_reducible refine(bit_v _ _).mono ?_);rintro e w1 ⟨rfl,rfl⟩)
  go_ret
  exact⟨by simp[op2,hn],rfl⟩
theorem pair2 (a b:Int) (W:World):Calls Tryz.prog 189 #[.int .i64 a,.int .i64 b] W fun e W'=>e=.returned (.int .i64 (op2 [38,38] a b))∧W'=W:=by
 go_enter Tryz.func189,Tryz.ntmps189
 by_cases ha:a=0
 ·subst ha
  go_wp2_with (go_at_call 184;(with_reducible refine(bit_v _ _).mono ?_);rintro e w1 ⟨rfl,rfl⟩)
  go_ret
  exact⟨rfl,rfl⟩
 ·have hn:(a != 0)=true:=by simp[ha]
  go_wp2_with (go_at_call 184;(with_reducible refine(bit_v _ _).mono ?_);rintro e w1 ⟨rfl,rfl⟩)
  go_ret
  exact⟨by simp[op2,hn],rfl⟩
theorem pair3 (a b:Int) (W:World):Calls Tryz.prog 190 #[.int .i64 a,.int .i64 b] W fun e W'=>e=.returned (.int .i64 (op2 [124] a b))∧W'=W:=by
 go_enter Tryz.func190,Tryz.ntmps190
 go_wp2
 go_ret
 exact⟨by simp[op2],rfl⟩
theorem pair4 (a b:Int) (W:World):Calls Tryz.prog 191 #[.int .i64 a,.int .i64 b] W fun e W'=>e=.returned (.int .i64 (op2 [94] a b))∧W'=W:=by
 go_enter Tryz.func191,Tryz.ntmps191
 go_wp2
 go_ret
 exact⟨by simp[op2],rfl⟩
theorem pair5 (a b:Int) (W:World):Calls Tryz.prog 192 #[.int .i64 a,.int .i64 b] W fun e W'=>e=.returned (.int .i64 (op2 [38] a b))∧W'=W:=by
 go_enter Tryz.func192,Tryz.ntmps192
 go_wp2
 go_ret
 exact⟨by simp[op2],rfl⟩
theorem pair6 (a b:Int) (W:World):Calls Tryz.prog 193 #[.int .i64 a,.int .i64 b] W fun e W'=>e=.returned (.int .i64 (op2 [61,61] a b))∧W'=W:=by
 go_enter Tryz.func193,Tryz.ntmps193
 go_wp2_with (go_at_call 184;(with_reducible refine(bit_v _ _).mono ?_);rintro e w1 ⟨rfl,rfl⟩)
 go_ret
 exact⟨rfl,rfl⟩
theorem pair7 (a b:Int) (W:World):Calls Tryz.prog 194 #[.int .i64 a,.int .i64 b] W fun e W'=>e=.returned (.int .i64 (op2 [33,61] a b))∧W'=W:=by
 go_enter Tryz.func194,Tryz.ntmps194
 go_wp2_with (go_at_call 184;(with_reducible refine(bit_v _ _).mono ?_);rintro e w1 ⟨rfl,rfl⟩)
 go_ret
 exact⟨rfl,rfl⟩
theorem pair8 (a b:Int) (W:World):Calls Tryz.prog 195 #[.int .i64 a,.int .i64 b] W fun e W'=>e=.returned (.int .i64 (op2 [60] a b))∧W'=W:=by
 go_enter Tryz.func195,Tryz.ntmps195
 go_wp2_with (go_at_call 184;(with_reducible refine(bit_v _ _).mono ?_);rintro e w1 ⟨rfl,rfl⟩)
 go_ret
 exact⟨rfl,rfl⟩
theorem pair9 (a b:Int) (W:World):Calls Tryz.prog 196 #[.int .i64 a,.int .i64 b] W fun e W'=>e=.returned (.int .i64 (op2 [60,61] a b))∧W'=W:=by
 go_enter Tryz.func196,Tryz.ntmps196
 go_wp2_with (go_at_call 184;(with_reducible refine(bit_v _ _).mono ?_);rintro e w1 ⟨rfl,rfl⟩)
 go_ret
 exact⟨rfl,rfl⟩
theorem pair10 (a b:Int) (W:World):Calls Tryz.prog 197 #[.int .i64 a,.int .i64 b] W fun e W'=>e=.returned (.int .i64 (op2 [62] a b))∧W'=W:=by
 go_enter Tryz.func197,Tryz.ntmps197
 go_wp2_with (go_at_call 184;(with_reducible refine(bit_v _ _).mono ?_);rintro e w1 ⟨rfl,rfl⟩)
 go_ret
 exact⟨rfl,rfl⟩
theorem pair11 (a b:Int) (W:World):Calls Tryz.prog 198 #[.int .i64 a,.int .i64 b] W fun e W'=>e=.returned (.int .i64 (op2 [62,61] a b))∧W'=W:=by
 go_enter Tryz.func198,Tryz.ntmps198
 go_wp2_with (go_at_call 184;(with_reducible refine(bit_v _ _).mono ?_);rintro e w1 ⟨rfl,rfl⟩)
 go_ret
 exact⟨rfl,rfl⟩
theorem pair12 (a b:Int) (W:World):Calls Tryz.prog 199 #[.int .i64 a,.int .i64 b] W fun e W'=>e=.returned (.int .i64 (op2 [60,60] a b))∧W'=W:=by
 go_enter Tryz.func199,Tryz.ntmps199
 have h0:=(and63 b).1
 have h1:=(and63 b).2
 have hs:=shift_shl .i64 .i64 a (bits .and .i64 b 63) h0 (by show _≤((64:Nat):Int);omega)
 go_wp2
 go_ret
 exact⟨by simp[op2],rfl⟩
theorem pair13 (a b:Int) (W:World):Calls Tryz.prog 200 #[.int .i64 a,.int .i64 b] W fun e W'=>e=.returned (.int .i64 (op2 [62,62] a b))∧W'=W:=by
 go_enter Tryz.func200,Tryz.ntmps200
 have h0:=(and63 b).1
 have h1:=(and63 b).2
 have hs:=shift_shr .i64 .i64 a (bits .and .i64 b 63) h0 (by show _≤((64:Nat):Int);omega)
 go_wp2
 go_ret
 exact⟨by simp[op2],rfl⟩
theorem pair14 (a b:Int) (W:World):Calls Tryz.prog 201 #[.int .i64 a,.int .i64 b] W fun e W'=>e=.returned (.int .i64 (op2 [43] a b))∧W'=W:=by
 go_enter Tryz.func201,Tryz.ntmps201
 go_wp2
 go_ret
 exact⟨by simp[op2],rfl⟩
theorem pair15 (a b:Int) (W:World):Calls Tryz.prog 202 #[.int .i64 a,.int .i64 b] W fun e W'=>e=.returned (.int .i64 (op2 [45] a b))∧W'=W:=by
 go_enter Tryz.func202,Tryz.ntmps202
 go_wp2
 go_ret
 exact⟨by simp[op2],rfl⟩
theorem pair16 (a b:Int) (W:World):Calls Tryz.prog 203 #[.int .i64 a,.int .i64 b] W fun e W'=>e=.returned (.int .i64 (op2 [42] a b))∧W'=W:=by
 go_enter Tryz.func203,Tryz.ntmps203
 go_wp2
 go_ret
 exact⟨by simp[op2],rfl⟩
end Ar
end Go.Proofs.YtipdgmjplnibeaaGreatDoor
namespace Go.Proofs.YtipdgmjplnibeaaGreatDoor
open Go.RowKit Go.Maps
namespace Ar
def orN (x y:Nat):Nat:=if x=0 then y else x
theorem or_v (W:World) (b x y:Nat) (h0:W.cell? ⟨b,0,none⟩=some (.int .i64 (x:Int))) (h1:W.cell? ⟨b,1,none⟩=some (.int .i64 (y:Int))):Calls Tryz.prog 140 #[.slice (some ⟨b,0,none⟩) 2 2] W fun e W'=>e=.returned (.int .i64 (orN x y:Nat))∧W'=W:=by
 have OX:=Lib.hid (show orN x y=if x=0 then y else x from rfl)
 obtain⟨o,ho⟩:∃ o,o=orN x y:=⟨_,rfl⟩
 rw[←ho] at OX⊢
 clear ho
 by_cases hx:x=0
 ·subst hx
  by_cases hy:y=0
  ·subst hy
   go_enter Tryz.func140,Tryz.ntmps140
   go_wp2
   go_loopw [8] (fun i wr=>(i=.int .i64 0∨i=.int .i64 1∨i=.int .i64 2)∧wr=W) (fun i _=>2-(intOf i).toNat)
   case atStart=>exact⟨.inl rfl,rfl⟩
   case round=>
    obtain⟨hi,rfl⟩:=hrel
    rcases hi with rfl | rfl | rfl
    ·go_wp2
     exact⟨⟨.inr (.inl rfl),trivial⟩,by simp[intOf]⟩
    ·go_wp2
     exact⟨⟨.inr (.inr rfl),trivial⟩,by simp[intOf]⟩
    ·go_wp2
     go_ret
     rw[OX.out]
     exact⟨rfl,rfl⟩
  ·have hy2:((y:Int) != 0)=true:=by simp;omega
   go_enter Tryz.func140,Tryz.ntmps140
   go_wp2
   go_loopw [8] (fun i wr=>(i=.int .i64 0∨i=.int .i64 1)∧wr=W) (fun i _=>2-(intOf i).toNat)
   case atStart=>exact⟨.inl rfl,rfl⟩
   case round=>
    obtain⟨hi,rfl⟩:=hrel
    rcases hi with rfl | rfl
    ·go_wp2
     exact⟨⟨.inr rfl,trivial⟩,by simp[intOf]⟩
    ·go_wp2
     go_ret
     rw[OX.out]
     exact⟨rfl,rfl⟩
 ·have hx2:((x:Int) != 0)=true:=by simp;omega
  have HX:=Lib.hid hx
  clear hx
  go_enter Tryz.func140,Tryz.ntmps140
  go_wp2
  go_loopw [8] (fun i wr=>i=.int .i64 0∧wr=W) (fun i _=>2-(intOf i).toNat)
  case atStart=>exact⟨rfl,rfl⟩
  case round=>
   obtain⟨rfl,rfl⟩:=hrel
   go_wp2
   go_ret
   rw[OX.out,if_neg HX.out]
   exact⟨rfl,rfl⟩
section
variable {W W':World} {g:Nat} {C:Ct} {s s':St}
theorem two_cells (W:World) (t:TypeId) (x y:Value) (N:Nat) (hN:N=W.heap.size):(W.alloc (.cells #[x,y] t)).cell? ⟨N,0,none⟩=some x∧(W.alloc (.cells #[x,y] t)).cell? ⟨N,1,none⟩=some y:=by
 subst hN
 exact⟨(cell_row (heap_alloc_new W (.cells #[x,y] t)) 0).1,(cell_row (heap_alloc_new W (.cells #[x,y] t)) 1).1⟩
theorem blame_v (h:RM W g C s) (n:Nat):Calls Tryz.prog 232 #[.pointer (some ⟨g,0,none⟩),.int .i64 (n:Int)] W (Rt W g C (.tuple #[]) (blame n s)):=by
 obtain⟨⟨c0,c1,c2,c3,c4,c5,c6,c7,c8⟩,hz⟩:=h.facts
 have H:=Lib.hid h
 have hgl:=h.lt
 by_cases hi:s.idle=0
 ·have HB:=Lib.hid (show blame n s={ s with ft:=orN s.ft n } by unfold blame orN;rw[if_pos hi])
  have hi2:((s.idle:Int)==0)=true:=by simp;omega
  clear h hi
  go_enter Tryz.func232,Tryz.ntmps232
  go_wp2_with (go_at_call 140;(with_reducible refine(or_v _ W.heap.size s.ft n (two_cells _ _ _ _ _ rfl).1 (two_cells _ _ _ _ _ rfl).2).mono ?_);rintro e w1 ⟨rfl,rfl⟩)
  go_end0
  rw[HB.out]
  have h1:RM (W.setCell ⟨g,6,none⟩ (.int .i64 (orN s.ft n:Nat))) g C { s with ft:=orN s.ft n }:=H.out.turn (set_only _ _ _ _) (by rw[set_row H.out.box];rfl) H.out.deep H.out.sml
  exact⟨rfl,h1.later (Later.alloc _ _),only_later (set_only _ _ _ _) (Later.alloc _ _)⟩
 ·have HB:=Lib.hid (show blame n s=s by unfold blame;rw[if_neg hi])
  have hi2:((s.idle:Int)==0)=false:=by simp;omega
  clear h hi
  go_enter Tryz.func232,Tryz.ntmps232
  go_wp2
  go_end0
  rw[HB.out]
  exact⟨rfl,H.out,only_refl _ _⟩
theorem divisor_v (h:RM W g C s) (b:Int):Calls Tryz.prog 205 #[.pointer (some ⟨g,0,none⟩),.int .i64 b] W (Rt W g C (.int .i64 (if b=0 then 1 else b)) (if b=0 then blame 22 s else s)):=by
 by_cases hb:b=0
 ·subst hb
  have HB:=Lib.hid (show Calls Tryz.prog 232 #[.pointer (some ⟨g,0,none⟩),.int .i64 22] W (Rt W g C (.tuple #[]) (blame 22 s)) from blame_v h 22)
  go_enter Tryz.func205,Tryz.ntmps205
  go_wp2_with (go_at_call 232;(with_reducible refine HB.out.mono ?_);rintro e w1 ⟨rfl,h1,g1⟩)
  go_ret
  exact⟨rfl,h1,g1⟩
 ·rw[if_neg hb,if_neg hb]
  have hb2:(b != 0)=true:=by simp[hb]
  clear hb
  go_enter Tryz.func205,Tryz.ntmps205
  go_wp2
  go_ret
  exact⟨rfl,h,only_refl _ _⟩
theorem pair17 (h:RM W g C s) (a b:Int):Calls Tryz.prog 204 #[.int .i64 a,.int .i64 b,.pointer (some ⟨C.bx,0,none⟩)] W (Rt W g C (.int .i64 (op2 [47] a b)) (div0 [47] b s)):=by
 have hbx:W.cell? ⟨C.bx,0,none⟩=some (.pointer (some ⟨g,0,none⟩)):=(cell_row h.en.bx 0).1
 have HD:=Lib.hid (divisor_v h b)
 have H2:=Lib.hid (show op2 [47] a b=wrap64 (a.tdiv (if b=0 then 1 else b)) by simp[op2])
 have H3:=Lib.hid (show div0 [47] b s=if b=0 then blame 22 s else s by unfold div0;simp)
 have hne:(if b=0 then (1:Int) else b)≠0:=by split <;> omega
 obtain⟨d,hd⟩:∃ d,d=(if b=0 then (1:Int) else b):=⟨_,rfl⟩
 obtain⟨s2,hs2⟩:∃ s2,s2=(if b=0 then blame 22 s else s):=⟨_,rfl⟩
 rw[←hd] at H2 HD hne
 rw[←hs2] at H3 HD
 rw[H2.out,H3.out]
 clear hd hs2
 clear h
 go_enter Tryz.func204,Tryz.ntmps204
 go_wp2_with (go_at_call 205;(with_reducible refine HD.out.mono ?_);rintro e w1 ⟨rfl,h1,g1⟩)
 go_ret
 exact⟨rfl,h1,g1⟩
theorem pair18 (h:RM W g C s) (a b:Int):Calls Tryz.prog 206 #[.int .i64 a,.int .i64 b,.pointer (some ⟨C.bx,0,none⟩)] W (Rt W g C (.int .i64 (op2 [37] a b)) (div0 [37] b s)):=by
 have hbx:W.cell? ⟨C.bx,0,none⟩=some (.pointer (some ⟨g,0,none⟩)):=(cell_row h.en.bx 0).1
 have HD:=Lib.hid (divisor_v h b)
 have H2:=Lib.hid (show op2 [37] a b=a.tmod (if b=0 then 1 else b) by simp[op2])
 have H3:=Lib.hid (show div0 [37] b s=if b=0 then blame 22 s else s by unfold div0;simp)
 have hne:(if b=0 then (1:Int) else b)≠0:=by split <;> omega
 obtain⟨d,hd⟩:∃ d,d=(if b=0 then (1:Int) else b):=⟨_,rfl⟩
 obtain⟨s2,hs2⟩:∃ s2,s2=(if b=0 then blame 22 s else s):=⟨_,rfl⟩
 rw[←hd] at H2 HD hne
 rw[←hs2] at H3 HD
 rw[H2.out,H3.out]
 clear hd hs2
 clear h
 go_enter Tryz.func206,Tryz.ntmps206
 go_wp2_with (go_at_call 205;(with_reducible refine HD.out.mono ?_);rintro e w1 ⟨rfl,h1,g1⟩)
 go_ret
 exact⟨rfl,h1,g1⟩
theorem needs_v (t:L) (n:Int) (W:World):Calls Tryz.prog 211 #[.string (mkS t),.int .i64 n] W fun e W'=>e=.returned (.bool (needs t n))∧W'=W:=by
 by_cases h1:t=[124,124]
 ·subst h1
  go_enter Tryz.func211,Tryz.ntmps211
  have he:((mkS [124,124]).toList==([124,124]:L))=true:=by rw[toList_mkS];rfl
  go_wp2
  go_ret
  exact⟨rfl,rfl⟩
 ·have e1:((mkS t).toList==([124,124]:L))=false:=by rw[toList_mkS];exact beq_eq_false_iff_ne.2 h1
  by_cases h2:t=[38,38]
  ·subst h2
   have he:((mkS [38,38]).toList==([38,38]:L))=true:=by rw[toList_mkS];rfl
   clear h1
   go_enter Tryz.func211,Tryz.ntmps211
   go_wp2
   go_ret
   exact⟨rfl,rfl⟩
  ·have e2:((mkS t).toList==([38,38]:L))=false:=by rw[toList_mkS];exact beq_eq_false_iff_ne.2 h2
   have HN:=Lib.hid (show needs t n=true by unfold needs;rw[if_neg h1,if_neg h2])
   clear h1 h2
   go_enter Tryz.func211,Tryz.ntmps211
   go_wp2
   go_ret
   rw[HN.out]
   exact⟨rfl,rfl⟩
theorem leave_v (h:RM W g C s) (hd:1≤s.deep):Calls Tryz.prog 167 #[.pointer (some ⟨g,0,none⟩)] W (Rt W g C (.tuple #[]) (leave s)):=by
 obtain⟨⟨c0,c1,c2,c3,c4,c5,c6,c7,c8⟩,hz⟩:=h.facts
 have hd1:wrap64 ((s.deep:Int)-1)=((s.deep-1:Nat):Int):=by have:=h.deep;rw[IntWalk.wrap64_in _ (by omega)];omega
 have H:=Lib.hid h
 clear h hd
 go_enter Tryz.func167,Tryz.ntmps167
 go_wp2
 go_end0
 have h:=H.out
 exact⟨rfl,h.turn (set_only _ _ _ _) (by rw[set_row h.box];rfl) (by have:=h.deep;show s.deep-1≤40;omega) h.sml,set_only _ _ _ _⟩
end
end Ar
end Go.Proofs.YtipdgmjplnibeaaGreatDoor
