import Derived.Test.YtipdgmjplnibeaaGreatDoorG03
import Derived.OwnWalk
import Derived.Test.YtipdgmjplnibeaaGreatDoorShf
import Derived.BigQuiet
set_option maxRecDepth 100000
set_option maxHeartbeats 1600000
namespace Go.Proofs.YtipdgmjplnibeaaGreatDoor
open Go.RowKit Go.Maps
set_option maxRecDepth 100000
theorem toList_mkS (l:L):(mkS l).toList=l:=by
 rw[ByteArray.toList_eq];simp[mkS]
theorem drop_text (S:L) (p:Nat):(mkS S).extract p (mkS S).size=mkS (S.drop p):=by
 apply ByteArray.ext
 simp[mkS,ByteArray.size]
 exact List.take_of_length_le (by simp)
theorem only_drewN (W:World) (g m:Nat):W.grownBy (W.drewN m) (some g):=⟨rfl,rfl,rfl,Nat.le_refl _,fun _ _ _=>rfl⟩
theorem byt_eq {c:UInt8} (k:UInt8) (h:c=k):((c.toNat:Int)==(k.toNat:Int))=true:=by rw[h];exact beq_self_eq_true _
theorem byt_ne {c:UInt8} (k:UInt8) (h:c≠k):((c.toNat:Int)==(k.toNat:Int))=false:=beq_eq_false_iff_ne.2 fun e=>h (UInt8.toNat_inj.1 (by omega))
def iv (x:Nat):Value:=.int .i64 (x:Int)
theorem only_trans {a b c:World} {g:Nat} (h:a.grownBy b (some g)) (k:b.grownBy c (some g)):a.grownBy c (some g):=
 ⟨k.os.trans h.os,k.tape.trans h.tape,k.output.trans h.output,Nat.le_trans h.size k.size,fun i hi hne=>(k.block i (Nat.lt_of_lt_of_le hi h.size) hne).trans (h.block i hi hne)⟩
theorem w64 (x:Int) (h:-9223372036854775808≤x∧x<9223372036854775808):wrap64 x=x:=by unfold wrap64;omega
def srcC (raw:L) (p e:Nat):Array Value:=#[.string (mkS raw),.int .i64 (p:Int),.int .i64 (e:Int)]
structure SrX (W:World) (s:Nat) (raw:L) (x:Wd.S) (p:Nat):Prop where
 box:W.heap[s]?=some (.cells (srcC raw p x.e) 132 (0,0))
 cut:raw.drop p=x.l
 at_:p+x.l.length=raw.length
 sml:raw.length≤100000
def Sr (W:World) (s:Nat) (raw:L) (x:Wd.S):Prop:=∃ p,SrX W s raw x p
section
variable {W W':World} {s p:Nat} {raw:L} {x:Wd.S}
theorem SrX.facts (h:SrX W s raw x p):(W.cell? ⟨s,0,none⟩=some (.string (mkS raw))∧W.cell? ⟨s,1,none⟩=some (.int .i64 (p:Int))∧W.cell? ⟨s,2,none⟩=some (.int .i64 (x.e:Int)))∧∀ i,W.frozen? ⟨s,i,none⟩=false:=
 ⟨⟨(cell_row h.box 0).1,(cell_row h.box 1).1,(cell_row h.box 2).1⟩,fun i=>(cell_row h.box i).2⟩
theorem SrX.drewN (h:SrX W s raw x p) (m:Nat):SrX (W.drewN m) s raw x p:=⟨h.box,h.cut,h.at_,h.sml⟩
theorem Sr.drewN (h:Sr W s raw x) (m:Nat):Sr (W.drewN m) s raw x:=by obtain⟨p,h⟩:=h;exact⟨p,h.drewN m⟩
theorem SrX.kept (h:SrX W s raw x p) {row:Option Nat} (hg:W.grownBy W' row) (hne:some s≠row):SrX W' s raw x p:=⟨(hg.block s (lt_of_block h.box) hne).trans h.box,h.cut,h.at_,h.sml⟩
theorem Sr.kept (h:Sr W s raw x) {row:Option Nat} (hg:W.grownBy W' row) (hne:some s≠row):Sr W' s raw x:=by obtain⟨p,h⟩:=h;exact⟨p,h.kept hg hne⟩
theorem Sr.lt (h:Sr W s raw x):s<W.heap.size:=by obtain⟨p,h⟩:=h;exact lt_of_block h.box
theorem Sr.sml (h:Sr W s raw x):raw.length≤100000:=by obtain⟨p,h⟩:=h;exact h.sml
theorem Sr.len (h:Sr W s raw x):x.l.length≤raw.length:=by obtain⟨p,h⟩:=h;have:=h.at_;omega
theorem SrX.step (h:SrX W s raw x p) (n:Nat) (hn:n≤x.l.length):SrX (W.setCell ⟨s,1,none⟩ (.int .i64 ((p+n:Nat):Int))) s raw (Wd.skip n x) (p+n):=by
 refine⟨by rw[set_row h.box];rfl,?_,?_,h.sml⟩
 ·show raw.drop (p+n)=x.l.drop n
  rw[←h.cut,List.drop_drop]
 ·rw[Wd.skip_len];have:=h.at_;omega
namespace Ws
theorem fail_v (h:Sr W s raw x) (n:Nat):Calls Tryz.prog 79 #[.pointer (some ⟨s,0,none⟩),.int .i64 (n:Int)] W fun e W'=>e=.returned (.tuple #[])∧Sr W' s raw (Wd.fail n x)∧W.grownBy W' (some s):=by
 obtain⟨p,h⟩:=h
 obtain⟨⟨c0,c1,c2⟩,hz⟩:=h.facts
 have H:=Lib.hid h
 have hs:((mkS raw).size:Int)=((raw.length:Nat):Int):=by rw[mkS_size]
 by_cases he:x.e=0
 ·have h1:Wd.fail n x=⟨[],n⟩:=by unfold Wd.fail;rw[if_pos he]
  rw[h1]
  rw[he] at c2
  clear h h1
  go_enter Tryz.func79,Tryz.ntmps79
  go_wp2
  go_end0
  have h:=H.out
  refine⟨rfl,⟨raw.length,?_,by simp,by simp,h.sml⟩,only_trans (set_only _ _ _ _) (set_only _ _ _ _)⟩
  rw[set_row (set_row h.box _ _)]
  rfl
 ·have h1:Wd.fail n x=⟨[],x.e⟩:=by unfold Wd.fail;rw[if_neg he]
  rw[h1]
  have h2:((x.e:Int)==0)=false:=by simp;omega
  clear h h1
  go_enter Tryz.func79,Tryz.ntmps79
  go_wp2
  go_end0
  have h:=H.out
  refine⟨rfl,⟨raw.length,?_,by simp,by simp,h.sml⟩,set_only _ _ _ _⟩
  rw[set_row h.box]
  rfl
theorem fail_11 (h:Sr W s raw x):Calls Tryz.prog 79 #[.pointer (some ⟨s,0,none⟩),.int .i64 11] W fun e W'=>e=.returned (.tuple #[])∧Sr W' s raw (Wd.fail 11 x)∧W.grownBy W' (some s):=fail_v h 11
theorem fail_21 (h:Sr W s raw x):Calls Tryz.prog 79 #[.pointer (some ⟨s,0,none⟩),.int .i64 21] W fun e W'=>e=.returned (.tuple #[])∧Sr W' s raw (Wd.fail 21 x)∧W.grownBy W' (some s):=fail_v h 21
theorem left_v (h:Sr W s raw x):Calls Tryz.prog 53 #[.pointer (some ⟨s,0,none⟩)] W fun e W'=>e=.returned (.bool (Wd.left x))∧∃ m,W'=W.drewN m:=by
 obtain⟨p,h⟩:=h
 obtain⟨⟨c0,c1,_⟩,_⟩:=h.facts
 have hv:decide ((p:Int)<((mkS raw).size:Int))=Wd.left x:=by
  have h1:=h.at_
  unfold Wd.left
  rw[mkS_size]
  cases hl:x.l with
  | nil=>rw[hl] at h1;simp at h1⊢;omega
  | cons c t=>rw[hl] at h1;simp at h1⊢;omega
 have HV:=Lib.hid hv
 clear h hv
 go_enter Tryz.func53,Tryz.ntmps53
 go_wp2
 go_quiet (fail)
 go_wp2
 go_ret
 exact⟨ret_bool (by rw[←HV.out];simp),_,rfl⟩
theorem rest_v (h:Sr W s raw x):Calls Tryz.prog 116 #[.pointer (some ⟨s,0,none⟩)] W fun e W'=>e=.returned (.string (mkS x.l))∧∃ m,W'=W.drewN m:=by
 obtain⟨p,h⟩:=h
 obtain⟨⟨c0,c1,_⟩,_⟩:=h.facts
 have h1:=h.at_
 have HX:=Lib.hid ((drop_text raw p).trans (by rw[h.cut]))
 have hs:(mkS raw).size=raw.length:=mkS_size raw
 have hp0:(0:Int)≤(p:Int):=by omega
 have hp1:(p:Int)≤((mkS raw).size:Int):=by omega
 clear h h1 hs
 go_enter Tryz.func116,Tryz.ntmps116
 go_wp2
 go_quiet (fail)
 go_wp2
 go_ret
 exact⟨by rw[←HX.out];rfl,_,rfl⟩
theorem ahead_v (h:Sr W s raw x) (t:L):Calls Tryz.prog 114 #[.pointer (some ⟨s,0,none⟩),.string (mkS t)] W fun e W'=>e=.returned (.bool (Wd.ahead t x))∧∃ m,W'=W.drewN m:=by
 have HR:=Lib.hid (rest_v h)
 have HP:=Lib.hid (fun W=>Tryz.strings_HasPrefix (mkS x.l) (mkS t) W)
 clear h
 go_enter Tryz.func114,Tryz.ntmps114
 go_wp2_with (first
  |(go_at_call 116;(with_reducible refine HR.out.mono ?_);rintro e w1 ⟨rfl,m,rfl⟩)
  |(go_at_call 50;(with_reducible refine(HP.out _).mono ?_);rintro e w2 ⟨rfl,rfl⟩))
 go_ret
 exact⟨by rw[mkS_list,mkS_list];rfl,_,rfl⟩
theorem take_v (h:Sr W s raw x) (t:L):Calls Tryz.prog 78 #[.pointer (some ⟨s,0,none⟩),.string (mkS t)] W fun e W'=>e=.returned (.bool (Wd.ahead t x))∧Sr W' s raw (if Wd.ahead t x then Wd.skip t.length x else x)∧W.grownBy W' (some s):=by
 have HA:=Lib.hid (ahead_v h t)
 cases hb:Wd.ahead t x with
 | false=>
  have ha:=HA.out
  rw[hb] at ha
  have HA1:=Lib.hid ha
  have H:=Lib.hid h
  clear ha h hb
  go_enter Tryz.func78,Tryz.ntmps78
  go_wp2_with (go_at_call 114;(with_reducible refine HA1.out.mono ?_);rintro e w1 ⟨rfl,m,rfl⟩)
  go_ret
  exact⟨rfl,H.out.drewN _,only_drewN _ _ _⟩
 | true=>
  have ha:=HA.out
  rw[hb] at ha
  have HA1:=Lib.hid ha
  obtain⟨p,h⟩:=h
  obtain⟨⟨c0,c1,c2⟩,hz⟩:=h.facts
  have hl:t.length≤x.l.length:=by
   unfold Wd.ahead Lib.hasPrefix at hb
   exact(List.isPrefixOf_iff_prefix.1 hb).length_le
  have h1:=h.at_
  have h2:=h.sml
  have hw2:wrap64 ((p:Int)+((mkS t).size:Int))=((p+t.length:Nat):Int):=by rw[mkS_size,w64 _ (by omega)];omega
  have H:=Lib.hid h
  have HL:=Lib.hid hl
  have HW:=Lib.hid hw2
  clear ha h hb h1 h2 hl hw2
  go_enter Tryz.func78,Tryz.ntmps78
  go_wp2_with (go_at_call 114;(with_reducible refine HA1.out.mono ?_);rintro e w1 ⟨rfl,m,rfl⟩)
  go_ret
  rw[HW.out]
  exact⟨rfl,⟨_,(H.out.drewN m).step _ HL.out⟩,only_trans (only_drewN _ _ _) (set_only _ _ _ _)⟩
theorem need_v (h:Sr W s raw x) (t:L):Calls Tryz.prog 51 #[.pointer (some ⟨s,0,none⟩),.string (mkS t)] W fun e W'=>e=.returned (.tuple #[])∧Sr W' s raw (Wd.need t x)∧W.grownBy W' (some s):=by
 have ht:=take_v h t
 unfold Wd.need
 cases hb:Wd.ahead t x with
 | false=>
  rw[hb] at ht
  simp only[Bool.false_eq_true,if_false] at ht⊢
  have HT:=Lib.hid ht
  clear ht hb h
  go_enter Tryz.func51,Tryz.ntmps51
  go_wp2_with (first
   |(go_at_call 78;(with_reducible refine HT.out.mono ?_);rintro e w1 ⟨rfl,h1,g1⟩;have H1:=Lib.hid h1;have G1:=Lib.hid g1;clear h1 g1)
   |(go_at_call 79;(with_reducible refine(fail_11 H1.out).mono ?_);rintro e w2 ⟨rfl,h2,g2⟩))
  go_end0
  exact⟨rfl,h2,only_trans G1.out g2⟩
 | true=>
  rw[hb] at ht
  simp only[if_true] at ht⊢
  have HT:=Lib.hid ht
  clear ht hb h
  go_enter Tryz.func51,Tryz.ntmps51
  go_wp2_with (first
   |(go_at_call 78;(with_reducible refine HT.out.mono ?_);rintro e w1 ⟨rfl,h1,g1⟩;have H1:=Lib.hid h1;have G1:=Lib.hid g1;clear h1 g1))
  go_end0
  exact⟨rfl,H1.out,G1.out⟩
theorem sub_text (S:L) (p:Nat) (c:UInt8) (r:L) (h:S.drop p=c::r):(mkS S).extract p (p+1)=mkS [c]:=by
 apply ByteArray.ext
 simp[mkS]
 rw[h];rfl
theorem next_v (h:Sr W s raw x):Calls Tryz.prog 81 #[.pointer (some ⟨s,0,none⟩)] W fun e W'=>e=.returned (.string (mkS (Wd.next x).1))∧Sr W' s raw (Wd.next x).2∧W.grownBy W' (some s):=by
 have hl:=left_v h
 cases hx:x.l with
 | nil=>
  have e1:Wd.next x=([],Wd.fail 11 x):=by unfold Wd.next;rw[hx]
  have e2:Wd.left x=false:=by unfold Wd.left;rw[hx];rfl
  rw[e1]
  rw[e2] at hl
  have HL:=Lib.hid hl
  have H:=Lib.hid h
  clear hl h e1 e2 hx
  go_enter Tryz.func81,Tryz.ntmps81
  go_wp2_with (first
   |(go_at_call 53;(with_reducible refine HL.out.mono ?_);rintro e w1 ⟨rfl,m,rfl⟩)
   |(go_at_call 79;(with_reducible refine(fail_11 (H.out.drewN m)).mono ?_);rintro e w2 ⟨rfl,h2,g2⟩;have H2:=Lib.hid h2;have G2:=Lib.hid g2;clear h2 g2))
  go_ret
  exact⟨rfl,H2.out,only_trans (only_drewN _ _ _) G2.out⟩
 | cons c t=>
  have e1:Wd.next x=([c],⟨t,x.e⟩):=by unfold Wd.next;rw[hx]
  have e2:Wd.left x=true:=by unfold Wd.left;rw[hx];rfl
  rw[e1]
  rw[e2] at hl
  have HL:=Lib.hid hl
  obtain⟨p,h⟩:=h
  obtain⟨⟨c0,c1,c2⟩,hz⟩:=h.facts
  have h1:=h.at_
  have h2:=h.sml
  rw[hx] at h1
  simp only[List.length_cons] at h1
  have e3:Wd.skip 1 x=⟨t,x.e⟩:=by unfold Wd.skip;rw[hx];rfl
  have hst:∀ m n,SrX (((W.drewN m).setCell ⟨s,1,none⟩ (.int .i64 ((p:Int)+1))).drewN n) s raw ⟨t,x.e⟩ (p+1):=fun m n=>by
   have h3:=((h.drewN m).step 1 (by rw[hx];simp)).drewN n
   rw[e3] at h3
   exact h3
  have HX:=Lib.hid (sub_text raw p c t (by rw[h.cut,hx]))
  have hw:wrap64 ((p:Int)+1)=(p:Int)+1:=w64 _ (by omega)
  have hw2:IntKind.i64.wrap (p:Int)=(p:Int):=by rw[IntKind.wrap_i64];omega
  have hs:(mkS raw).size=raw.length:=mkS_size raw
  have hp0:(0:Int)≤(p:Int):=by omega
  have hp1:(p:Int)≤(p:Int)+1:=by omega
  have hp2:(p:Int)+1≤((mkS raw).size:Int):=by omega
  have hn1:((p:Int)+1).toNat=p+1:=by omega
  have HS:=Lib.hid hst
  clear hl h e1 e2 hx h1 h2 hst e3 hs
  go_enter Tryz.func81,Tryz.ntmps81
  go_wp2_with (first
   |(go_at_call 53;(with_reducible refine HL.out.mono ?_);rintro e w1 ⟨rfl,m,rfl⟩))
  go_quiet (fail)
  go_wp2
  go_ret
  exact⟨by rw[←HX.out];rfl,⟨p+1,HS.out _ _⟩,only_trans (only_drewN W s m) (only_trans (set_only _ s 1 _) (only_drewN _ s _))⟩
theorem index_lt (l:L) (c:UInt8):Lib.indexByte l c<l.length:=by
 induction l with
 | nil=>unfold Lib.indexByte;simp
 | cons b l ih=>
  unfold Lib.indexByte
  simp only[List.length_cons]
  split
  ·omega
  ·split
   ·omega
   ·omega
theorem extract_take (S:L) (k:Nat):(mkS S).extract 0 k=mkS (S.take k):=by
 apply ByteArray.ext
 simp[mkS]
def cutT (l:L) (c:UInt8):L:=if Lib.indexByte l c<0 then l else l.take (Lib.indexByte l c).toNat
theorem lite_v (l:L) (c:UInt8) (W:World) (hl:l.length≤100000):Calls Tryz.prog 147 #[.string (mkS l),.string (mkS [c])] W fun e W'=>(∃ t:Value,e=.returned (.tuple #[.string (mkS (cutT l c)),t,.bool (decide (0≤Lib.indexByte l c))]))∧∃ m,W'=W.drewN m:=by
 have hiq:∀ W,Calls Tryz.prog 172 #[.string (mkS l),.string (mkS [c])] W fun e w'=>e=.returned (.int .i64 (Lib.indexByte (mkS l).data.toList c))∧w'=W:=fun W=>Tryz.stringslite_Index_one (mkS l) c W
 obtain⟨i,hi⟩:∃ i,i=Lib.indexByte l c:=⟨_,rfl⟩
 have hin:=index_lt l c
 have hge:=Lib.indexByte_ge l c
 unfold cutT
 rw[mkS_list] at hiq
 rw[←hi] at hiq hin hge⊢
 have HI2:=Lib.hid hiq
 have hs:(mkS l).size=l.length:=mkS_size l
 clear hiq hi
 by_cases h0:0≤i
 ·obtain⟨k,rfl⟩:=Int.eq_ofNat_of_zero_le h0
  have hk:k≤l.length:=by omega
  have e1:¬ ((k:Int)<0):=by omega
  simp only[e1,if_false,Int.toNat_natCast,decide_eq_true h0]
  have HX:=Lib.hid (extract_take l k)
  have hsz:(mkS [c]).size=1:=mkS_size [c]
  have hw3:IntKind.i64.wrap ((k:Int)+1)=(k:Int)+1:=by rw[IntKind.wrap_i64];omega
  have hw:wrap64 ((k:Int)+1)=(k:Int)+1:=w64 _ (by omega)
  have hp1:(k:Int)≤((mkS l).size:Int):=by omega
  have hp2:(k:Int)+1≤((mkS l).size:Int):=by omega
  have hp3:(0:Int)≤(k:Int)+1:=by omega
  have hg:(0:Int)≤(k:Int):=h0
  clear e1 hin hge hs hk
  go_enter Tryz.func147,Tryz.ntmps147
  go_wp2_with (go_at_call 172;(with_reducible refine(HI2.out _).mono ?_);rintro e w2 ⟨rfl,rfl⟩)
  go_quiet (fail)
  go_wp2
  go_ret3
  exact⟨⟨_,by rw[←HX.out];rfl⟩,_,rfl⟩
 ·have e1:i<0:=by omega
  have e2:¬ (0≤i):=by omega
  simp only[e1,if_true,decide_eq_false h0]
  clear hin hge hs
  go_enter Tryz.func147,Tryz.ntmps147
  go_wp2_with (go_at_call 172;(with_reducible refine(HI2.out _).mono ?_);rintro e w2 ⟨rfl,rfl⟩)
  go_ret3
  exact⟨⟨_,rfl⟩,0,rfl⟩
theorem cut_v (l:L) (c:UInt8) (W:World) (hl:l.length≤100000):Calls Tryz.prog 115 #[.string (mkS l),.string (mkS [c])] W fun e W'=>(∃ t:Value,e=.returned (.tuple #[.string (mkS (cutT l c)),t,.bool (decide (0≤Lib.indexByte l c))]))∧∃ m,W'=W.drewN m:=by
 have HC:=Lib.hid (lite_v l c W hl)
 go_enter Tryz.func115,Tryz.ntmps115
 go_wp2_with (go_at_call 147;(with_reducible refine HC.out.mono ?_);rintro e w2 ⟨⟨t,rfl⟩,m,rfl⟩)
 go_ret3
 exact⟨⟨_,rfl⟩,_,rfl⟩
theorem upTo_v (h:Sr W s raw x) (c:UInt8):Calls Tryz.prog 83 #[.pointer (some ⟨s,0,none⟩),.string (mkS [c])] W fun e W'=>e=.returned (.string (mkS (Wd.upTo c x).1))∧Sr W' s raw (Wd.upTo c x).2∧W.grownBy W' (some s):=by
 have HR:=Lib.hid (rest_v h)
 have hlen:=h.len
 have hsm:=h.sml
 have hcut:=fun W=>cut_v x.l c W (by omega)
 have hin:=index_lt x.l c
 obtain⟨i,hi⟩:∃ i,i=Lib.indexByte x.l c:=⟨_,rfl⟩
 unfold Wd.upTo
 unfold cutT at hcut
 rw[←hi] at hcut hin⊢
 by_cases h0:i<0
 ·simp only[h0,if_true] at hcut⊢
  rw[decide_eq_false (by omega:¬ 0≤i)] at hcut
  have HC:=Lib.hid hcut
  have H:=Lib.hid h
  clear hcut hi hin hlen hsm h
  go_enter Tryz.func83,Tryz.ntmps83
  go_wp2_with (first
   |(go_at_call 116;(with_reducible refine HR.out.mono ?_);rintro e w1 ⟨rfl,m,rfl⟩)
   |(go_at_call 115;(with_reducible refine(HC.out _).mono ?_);rintro e w2 ⟨⟨t,rfl⟩,m2,rfl⟩)
   |(go_at_call 79;(with_reducible refine(fail_11 (H.out.drewN (m+m2))).mono ?_);rintro e w3 ⟨rfl,h3,g3⟩;have H3:=Lib.hid h3;have G3:=Lib.hid g3;clear h3 g3))
  go_ret
  exact⟨rfl,H3.out,only_trans (only_drewN _ _ _) G3.out⟩
 ·obtain⟨k,rfl⟩:=Int.eq_ofNat_of_zero_le (by omega:0≤i)
  simp only[h0,if_false,Int.toNat_natCast] at hcut⊢
  rw[decide_eq_true (by omega:(0:Int)≤(k:Int))] at hcut
  have HC:=Lib.hid hcut
  obtain⟨p,h⟩:=h
  obtain⟨⟨c0,c1,c2⟩,hz⟩:=h.facts
  have h1:=h.at_
  have hs:(mkS (x.l.take k)).size=k:=by rw[mkS_size,List.length_take];omega
  have hsz:(mkS [c]).size=1:=mkS_size [c]
  have hw1:wrap64 ((k:Int)+1)=(k:Int)+1:=w64 _ (by omega)
  have hw2:wrap64 ((p:Int)+((k:Int)+1))=(p:Int)+((k:Int)+1):=w64 _ (by omega)
  have hst:∀ m,SrX ((W.drewN m).setCell ⟨s,1,none⟩ (.int .i64 ((p:Int)+((k:Int)+1)))) s raw (Wd.skip (k+1) x) (p+(k+1)):=fun m=>(h.drewN m).step (k+1) (by omega)
  have HS:=Lib.hid hst
  clear hcut hi hin hlen hsm h h1 hst
  go_enter Tryz.func83,Tryz.ntmps83
  go_wp2_with (first
   |(go_at_call 116;(with_reducible refine HR.out.mono ?_);rintro e w1 ⟨rfl,m,rfl⟩)
   |(go_at_call 115;(with_reducible refine(HC.out _).mono ?_);rintro e w2 ⟨⟨t,rfl⟩,m2,rfl⟩))
  go_ret
  exact⟨rfl,⟨_,HS.out _⟩,only_trans (only_drewN W s (m+m2)) (set_only _ s 1 _)⟩
end Ws
end
end Go.Proofs.YtipdgmjplnibeaaGreatDoor
namespace Go.Proofs.YtipdgmjplnibeaaGreatDoor
open Go.RowKit Go.Maps
namespace Ar
def letB (c:UInt8):Bool:=(decide (97≤c) && decide (c≤122)) || (decide (65≤c) && decide (c≤90)) || c==95
def dig (c:UInt8):Bool:=decide (48≤c) && decide (c≤57)
def nm (c:UInt8):Bool:=letB c || dig c
def nameB (l:L):Bool:=match l with
 | []=>false
 | c::_=>!dig c && l.all fun c=>letB c || dig c
theorem byte_le (a c:UInt8):decide (a≤c)=decide ((a.toNat:Int)≤(c.toNat:Int)):=by rw[decide_eq_decide,UInt8.le_iff_toNat_le];omega
theorem letter_v (c:UInt8) (W:World):Calls Tryz.prog 58 #[.int .u8 (c.toNat:Int)] W fun e W'=>e=.returned (.bool (letB c))∧W'=W:=by
 have hb:letB c=((decide ((97:Int)≤(c.toNat:Int)) && decide ((c.toNat:Int)≤122)) || (decide ((65:Int)≤(c.toNat:Int)) && decide ((c.toNat:Int)≤90)) || decide ((c.toNat:Int)=95)):=by
  unfold letB
  rw[byte_le,byte_le,byte_le,byte_le]
  have:(c==95)=decide ((c.toNat:Int)=95):=by
   rw[Bool.eq_iff_iff,beq_iff_eq,decide_eq_true_iff]
   exact⟨fun h=>by rw[h];rfl,fun h=>UInt8.toNat_inj.1 (by have:(95:UInt8).toNat=95:=rfl;omega)⟩
  rw[this]
  rfl
 rw[hb]
 obtain⟨x,hx⟩:∃ x:Nat,x=c.toNat:=⟨_,rfl⟩
 rw[←hx]
 clear hx hb
 by_cases h1:(97:Int)≤(x:Int)
 ·by_cases h2:(x:Int)≤122
  ·go_enter Tryz.func58,Tryz.ntmps58
   go_wp2
   go_ret
   exact⟨ret_bool (by simp <;> omega),rfl⟩
  ·have h3:(65:Int)≤(x:Int):=by omega
   have h4:¬ (x:Int)≤90:=by omega
   have h5:((x:Int)==95)=false:=by simp;omega
   go_enter Tryz.func58,Tryz.ntmps58
   go_wp2
   go_ret
   exact⟨ret_bool (by simp <;> omega),rfl⟩
 ·by_cases h3:(65:Int)≤(x:Int)
  ·by_cases h4:(x:Int)≤90
   ·go_enter Tryz.func58,Tryz.ntmps58
    go_wp2
    go_ret
    exact⟨ret_bool (by simp <;> omega),rfl⟩
   ·by_cases h6:x=95
    ·subst h6
     go_enter Tryz.func58,Tryz.ntmps58
     go_wp2
     go_ret
     exact⟨ret_bool (by simp),rfl⟩
    ·have h5:((x:Int)==95)=false:=by simp;omega
     go_enter Tryz.func58,Tryz.ntmps58
     go_wp2
     go_ret
     exact⟨ret_bool (by simp <;> omega),rfl⟩
  ·have h5:((x:Int)==95)=false:=by simp;omega
   go_enter Tryz.func58,Tryz.ntmps58
   go_wp2
   go_ret
   exact⟨ret_bool (by simp <;> omega),rfl⟩
theorem digit_v (c:UInt8) (W:World):Calls Tryz.prog 57 #[.int .u8 (c.toNat:Int)] W fun e W'=>e=.returned (.bool (decide (48≤c) && decide (c≤57)))∧W'=W:=by
 have e1:decide (48≤c)=decide (48≤(c.toNat:Int)):=by rw[decide_eq_decide,UInt8.le_iff_toNat_le];simp;omega
 have e2:decide (c≤57)=decide ((c.toNat:Int)≤57):=by rw[decide_eq_decide,UInt8.le_iff_toNat_le];simp;omega
 rw[e1,e2]
 obtain⟨x,hx⟩:∃ x:Nat,x=c.toNat:=⟨_,rfl⟩
 rw[←hx]
 clear hx e1 e2
 by_cases h1:(48:Int)≤(x:Int) <;> by_cases h2:(x:Int)≤57
 all_goals
  go_enter Tryz.func57,Tryz.ntmps57
  go_wp2
  go_ret
  exact⟨ret_bool (by simp[h1,h2];try omega),rfl⟩
theorem conv_str (W:World) (t:List UInt8) (N:Nat) (hN:N=W.heap.size):∃ c W',(convert 9 81 (.string (mkS t))).run Tryz.prog W=.ok (.slice (some ⟨N,0,none⟩) t.length c) W'∧Later W W'∧Rd W' W'.heap.size (some ⟨N,0,none⟩) t.length (t.map bv):=by
 subst hN
 have h:=run_bytes_of_string W 9 81 5 (mkS t) Tryz.underlying9 Tryz.underlying81 Tryz.underlying5
 rw[mkS_size] at h
 refine⟨_,_,h,Later.trans (Later.drew W) (Later.alloc _ _),by simp,fun h0=>⟨_,rfl,by simp,fun j u hu=>?_⟩⟩
 rw[add_lit0]
 have hz:W.drew.heap.size=W.heap.size:=rfl
 rw[←hz]
 rw[cell_of_row _ _ j _ _ _ (heap_alloc_new W.drew _)]
 rw[List.getElem?_map] at hu
 by_cases hj:j<t.length
 ·rw[List.getElem?_eq_getElem hj] at hu
  simp at hu
  subst hu
  unfold bytesRow
  rw[Array.getElem?_append_left (by simp[mkS];omega)]
  simp[mkS,hj,bv]
 ·rw[List.getElem?_eq_none (by omega)] at hu
  cases hu
theorem sget0 (c:UInt8) (r:L):∃ h:0<(mkS (c::r)).size,(mkS (c::r))[0]'h=c:=⟨by rw[mkS_size];simp,rfl⟩
theorem name_v (l:L) (hl:l.length≤2000000) (W:World):Calls Tryz.prog 28 #[.string (mkS l)] W fun e W'=>e=.returned (.bool (nameB l))∧Later W W':=by
 cases l with
 | nil=>
  have he:((mkS []).toList==([]:List UInt8))=true:=by rw[toList_mkS];rfl
  go_enter Tryz.func28,Tryz.ntmps28
  go_wp2
  go_ret
  exact⟨rfl,Later.refl _⟩
 | cons c r=>
  have he:((mkS (c::r)).toList==([]:List UInt8))=false:=by rw[toList_mkS];rfl
  obtain⟨hs0,hg0⟩:=sget0 c r
  obtain⟨l,hll⟩:∃ l,l=c::r:=⟨_,rfl⟩
  rw[←hll] at hl he⊢
  have hs1:(0:Int)<((mkS l).size:Int):=by rw[hll];omega
  have hg1:∀ h,(mkS l)[0]'h=c:=by rw[hll];exact fun _=>hg0
  have HD:=Lib.hid (digit_v c)
  have HLL:=Lib.hid hll
  by_cases hd:dig c=true
  ·have hd1:=HD.out
   rw[show (decide (48≤c) && decide (c≤57))=true from hd] at hd1
   have HD1:=Lib.hid hd1
   have HNB:=Lib.hid (show nameB l=false by rw[hll];unfold nameB;simp only[hd];rfl)
   clear hd1 hll
   go_enter Tryz.func28,Tryz.ntmps28
   go_wp2_with (first
    |(go_at_call 57;(with_reducible refine(HD1.out _).mono ?_);rintro e w2 ⟨rfl,rfl⟩))
   go_ret
   exact⟨ret_bool HNB.out.symm,Later.refl _⟩
  ·have hdf:dig c=false:=by simpa using hd
   have hd1:=HD.out
   rw[show (decide (48≤c) && decide (c≤57))=false from hdf] at hd1
   have HD1:=Lib.hid hd1
   have HNB:=Lib.hid (show nameB l=l.all fun c=>letB c || dig c by rw[hll];unfold nameB;simp only[hdf];rfl)
   obtain⟨cp,W2,hcv,hl2,hr2⟩:=conv_str W l W.heap.size rfl
   obtain⟨n,hn⟩:∃ n,n=l.length:=⟨_,rfl⟩
   rw[←hn] at hcv hr2 hl
   have HL2:=Lib.hid hl2
   have HR:=Lib.hid hr2
   have HN:=Lib.hid hn
   clear hl2 hr2 hn hd1 hll
   go_enter Tryz.func28,Tryz.ntmps28
   go_wp2_with (first
    |(go_at_call 57;(with_reducible refine(HD1.out _).mono ?_);rintro e w2 ⟨rfl,hw⟩;subst hw))
   go_loopw [15] (fun i wr=>∃ k:Nat,k≤n∧i=.int .i64 (k:Int)∧wr=W2∧(l.take k).all (fun c=>letB c || dig c)=true) (fun i _=>n-(intOf i).toNat)
   case atStart=>exact⟨0,by omega,rfl,rfl,rfl⟩
   case round=>
    obtain⟨k,hk,rfl,hw,ha⟩:=hrel
    subst hw
    have HA:=Lib.hid ha
    clear ha
    by_cases hkn:k<n
    ·obtain⟨ad,hlk,had,_,hcell⟩:=HR.out.byte hkn
     obtain⟨x,hx⟩:∃ x,x=l[k]:=⟨_,rfl⟩
     rw[←hx] at hcell
     injection had with had
     have hcell2:=hcell
     rw[←had,add_lit0] at hcell2
     have hk0:(0:Int)≤(k:Int):=by omega
     have hk1:(k:Int)<(n:Int):=by omega
     have HTK:=Lib.hid (show l.take (k+1)=l.take k++[x] by rw[List.take_succ_eq_append_getElem hlk,hx])
     have HX:=Lib.hid (show x∈l by rw[hx];exact List.getElem_mem _)
     have HLT:=Lib.hid (letter_v x)
     have HDG:=Lib.hid (digit_v x)
     have hcell3:wr.cell? ⟨w2.heap.size,k,none⟩=some (.int .u8 (x.toNat:Int)):=hcell2
     have hlt:=HLT.out
     have hdg:∀ W,Calls Tryz.prog 57 #[.int .u8 (x.toNat:Int)] W fun e W'=>e=.returned (.bool (dig x))∧W'=W:=HDG.out
     clear hcell hcell2 hx had hlk
     cases hlb:letB x with
     | true=>
      rw[hlb] at hlt
      have HL1:=Lib.hid hlt
      have HNX:=Lib.hid (show (l.take (k+1)).all (fun c=>letB c || dig c)=true by rw[HTK.out,List.all_append,HA.out];simp[hlb])
      clear hlt hdg hlb
      go_wp2_with (first
       |(go_at_call 58;(with_reducible refine(HL1.out _).mono ?_);rintro e w3 ⟨rfl,rfl⟩))
      go_roundw
      case rel=>exact⟨k+1,by omega,by go_num,by first | rfl | trivial,HNX.out⟩
      case measure=>simp[intOf];omega
     | false=>
      rw[hlb] at hlt
      have HL1:=Lib.hid hlt
      cases hdb:dig x with
      | true=>
       rw[hdb] at hdg
       have HD2:=Lib.hid hdg
       have HNX:=Lib.hid (show (l.take (k+1)).all (fun c=>letB c || dig c)=true by rw[HTK.out,List.all_append,HA.out];simp[hdb])
       clear hlt hdg hlb hdb
       go_wp2_with (first
        |(go_at_call 58;(with_reducible refine(HL1.out _).mono ?_);rintro e w3 ⟨rfl,rfl⟩)
        |(go_at_call 57;(with_reducible refine(HD2.out _).mono ?_);rintro e w3 ⟨rfl,rfl⟩))
       go_roundw
       case rel=>exact⟨k+1,by omega,by go_num,by first | rfl | trivial,HNX.out⟩
       case measure=>simp[intOf];omega
      | false=>
       rw[hdb] at hdg
       have HD2:=Lib.hid hdg
       have HRES:=Lib.hid (show nameB l=false by
        rw[HNB.out,Bool.eq_false_iff]
        intro h
        rw[List.all_eq_true] at h
        have:=h x HX.out
        simp[hlb,hdb] at this)
       clear hlt hdg hlb hdb
       go_wp2_with (first
        |(go_at_call 58;(with_reducible refine(HL1.out _).mono ?_);rintro e w3 ⟨rfl,rfl⟩)
        |(go_at_call 57;(with_reducible refine(HD2.out _).mono ?_);rintro e w3 ⟨rfl,rfl⟩))
       go_ret
       exact⟨ret_bool HRES.out.symm,HL2.out⟩
    ·obtain hke:k=n:=by omega
     have HRES:=Lib.hid (show nameB l=true by rw[HNB.out];have:=HA.out;rw[hke,HN.out,List.take_length] at this;exact this)
     clear hke
     go_wp2
     go_ret
     exact⟨ret_bool HRES.out.symm,HL2.out⟩
theorem may_name (c:UInt8):nameB [95,c]=nm c:=by
 unfold nameB nm
 simp[show dig 95=false by decide,show letB 95=true by decide]
theorem may_v (c:UInt8) (W:World):Calls Tryz.prog 236 #[.string (mkS [c])] W fun e W'=>e=.returned (.bool (nm c))∧Later W W':=by
 have HN:=Lib.hid (name_v [95,c] (by simp) W)
 have hs:(⟨#[95]⟩:ByteArray)++mkS [c]=mkS [95,c]:=mkS_add [95] [c]
 go_enter Tryz.func236,Tryz.ntmps236
 go_wp2_with (go_at_call 28;(try rw[hs]);(with_reducible refine HN.out.mono ?_);rintro e w1 ⟨rfl,hl⟩)
 go_ret
 exact⟨ret_bool (may_name c),hl⟩
end Ar
end Go.Proofs.YtipdgmjplnibeaaGreatDoor
