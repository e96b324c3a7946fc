import Derived.Test.YtipdgmjplnibeaaGreatDoorG07
import Derived.BigRegion
set_option maxRecDepth 100000
set_option maxHeartbeats 3200000
namespace Go.Proofs.YtipdgmjplnibeaaGreatDoor
open Go.RowKit Go.Maps
theorem wpList_index {P:Program} {ops:Array Oper} {rest:List Oper} {o:Oper} {a:Act} {w:World} {Q:Exit→Act→World→Prop} (hgd:o.guard=none) {t:TypeId} (x i:Operand) (ho:o.op=.index t x i) {v iv:Value} (hx:a.eval x=v) (hi:a.eval i=iv) (u:Value) (hrun:(Instr.index t v iv).run P w=.ok u w)
  (h:wpList P ops Q rest (a.put o.dst u) w):wpList P ops Q (o::rest) a w:=by
 refine wpList_plain hgd fun K hK=>?_
 unfold Oper.wp execOp
 simp only[ho,hx,hi,Sem.run_bind,hrun,Result.andThen_ok,Sem.run_pure,Oper.upon_value]
 exact hK _ _ h
namespace Ar
theorem drop_text (S:L) (p:Nat):(mkS S).extract p (mkS S).size=mkS (S.drop p):=by
 apply ByteArray.ext
 simp[mkS,ByteArray.size]
 exact List.take_of_length_le (by simp)
theorem extract_take (S:L) (k:Nat):(mkS S).extract 0 k=mkS (S.take k):=by
 apply ByteArray.ext
 simp[mkS]
theorem sub_text (S:L) (p:Nat) (c:UInt8) (r:L) (h:S.drop p=c::r):(mkS S).extract p (p+1)=mkS [c]:=by
 apply ByteArray.ext
 simp[mkS]
 rw[h];rfl
theorem set_text (S:L) (k:Nat) (c:UInt8) (hk:k<S.length) (h:S[k]=c):(mkS S).extract k (k+1)=mkS [c]:=by
 refine sub_text S k c (S.drop (k+1)) ?_
 rw[List.drop_eq_getElem_cons hk,h]
theorem take_while {p:UInt8→Bool}:∀ (l:L) (k:Nat),k≤l.length→(l.take k).all p=true→(∀ h:k<l.length,p l[k]=false)→l.takeWhile p=l.take k
 | [],k,hk,_,_=>by simp at hk;subst hk;rfl
 | c::l,0,_,_,h=>by
  have:=h (by simp)
  simp only[List.getElem_cons_zero] at this
  simp[this]
 | c::l,k+1,hk,ha,h=>by
  simp only[List.take_succ_cons,List.all_cons,Bool.and_eq_true] at ha
  rw[List.takeWhile_cons,ha.1]
  simp only[if_true,List.take_succ_cons]
  rw[take_while l k (by simp at hk;omega) ha.2 (fun h1=>by have:=h (by simp;omega);simpa using this)]
theorem w64 (x:Int) (h:-9223372036854775808≤x∧x<9223372036854775808):wrap64 x=x:=by unfold wrap64;omega
theorem nil_eq (l:L):((mkS l).toList==([]:List UInt8))=decide (l=[]):=by
 rw[toList_mkS]
 cases l <;> simp
theorem pre_v (l p:L) (W:World):Calls Tryz.prog 50 #[.string (mkS l),.string (mkS p)] W fun e W'=>e=.returned (.bool (Lib.hasPrefix l p))∧W'=W:=by
 have:=Tryz.strings_HasPrefix (mkS l) (mkS p) W
 rwa[mkS_list,mkS_list] at this
def longsV:Array Value:=(longs.map sv).toArray
theorem longs_load {W:World} {g:Nat} (h:Tb W g):(Instr.loadAt 252 (.pointer (some ⟨7,0,none⟩))).run Tryz.prog W=.ok (.agg longsV) W:=by
 refine run_loadAt_mid (P:=Tryz.prog) W 7 0 252 (longs.map sv) _ (fun j u hu=>?_) Tryz.underlying252 rfl (by kernel_rfl)
 have hj:j<9:=(List.getElem?_eq_some_iff.1 hu).1
 rw[Nat.zero_add,h.lg j hj]
 rw[List.getElem?_map] at hu
 rw[List.getD_eq_getElem?_getD]
 cases e:longs[j]? with
 | none=>rw[e] at hu;cases hu
 | some o=>rw[e] at hu;simpa [sv] using hu
theorem longs_index (k:Nat) (hk:k<9) (w:World):(Instr.index 252 (.agg longsV) (.int .i64 (k:Int))).run Tryz.prog w=.ok (.string (mkS (longs.getD k []))) w:=by
 have hkk:k=0∨k=1∨k=2∨k=3∨k=4∨k=5∨k=6∨k=7∨k=8:=by omega
 clear hk
 rcases hkk with rfl | rfl | rfl | rfl | rfl | rfl | rfl | rfl | rfl
 all_goals rfl
theorem longs_len (k:Nat) (hk:k<9):(longs.getD k []).length=2:=by
 have hkk:k=0∨k=1∨k=2∨k=3∨k=4∨k=5∨k=6∨k=7∨k=8:=by omega
 clear hk
 rcases hkk with rfl | rfl | rfl | rfl | rfl | rfl | rfl | rfl | rfl
 all_goals rfl
theorem any_yes {l:L} {k:Nat} (hk:k<9) (h:Lib.hasPrefix l (longs.getD k [])=true):longs.any (Lib.hasPrefix l ·)=true:=by
 rw[List.any_eq_true]
 exact⟨longs.getD k [],by rw[List.getD_eq_getElem?_getD,List.getElem?_eq_getElem (show k<longs.length from hk)];exact List.getElem_mem _,h⟩
theorem any_no {l:L} (h:∀ j:Nat,j<9→Lib.hasPrefix l (longs.getD j [])=false):longs.any (Lib.hasPrefix l ·)=false:=by
 rw[List.any_eq_false]
 intro t ht
 obtain⟨j,hj,rfl⟩:=List.mem_iff_getElem.1 ht
 have:=h j hj
 rw[List.getD_eq_getElem?_getD,List.getElem?_eq_getElem hj] at this
 simpa using this
theorem size_v {W:World} {g:Nat} (h:Tb W g) (hgl:g<W.heap.size) (l:L) (hl:l.length≤4000):Calls Tryz.prog 208 #[.string (mkS l)] W fun e W'=>e=.returned (.int .i64 (size l:Nat))∧Later W W':=by
 have HO:=Lib.hid (longs_load h)
 obtain⟨n,hn⟩:∃ n,n=l.length:=⟨_,rfl⟩
 have hsz:((mkS l).size:Int)=(n:Int):=by rw[mkS_size,hn]
 rw[←hn] at hl
 have hnn:(0:Int)≤(n:Int):=by omega
 have hnb:(n:Int)≤4000:=by omega
 have HN:=Lib.hid hn
 clear h hn
 go_enter Tryz.func208,Tryz.ntmps208
 go_wp2_with (refine wpList_loadRun rfl 252 (.global 7) rfl _ _ rfl HO.out ?_)
 go_loopw [7] (fun i wr=>∃ k:Nat,k≤9∧i=.int .i64 (k:Int)∧wr=W∧∀ j,j<k→Lib.hasPrefix l (longs.getD j [])=false) (fun i _=>9-(intOf i).toNat)
 case atStart=>exact⟨0,by omega,rfl,rfl,fun j hj=>by omega⟩
 case round=>
  obtain⟨k,hk,rfl,rfl,hj⟩:=hrel
  have HJ:=Lib.hid hj
  clear hj
  by_cases hk9:k<9
  ·have hk1:(k:Int)<9:=by omega
   have HIX:=Lib.hid (longs_index k hk9)
   have HLN:=Lib.hid (longs_len k hk9)
   obtain⟨o,ho⟩:∃ o,o=longs.getD k []:=⟨_,rfl⟩
   rw[←ho] at HIX HLN
   have HOO:=Lib.hid ho
   have HP:=Lib.hid (fun W=>pre_v l o W)
   cases ha:Lib.hasPrefix l o with
   | true=>
    have HA:=Lib.hid (show size l=2 by unfold size;rw[if_pos (any_yes hk9 (by rw[←ho];exact ha))])
    rw[ha] at HP
    have hos:((mkS o).size:Int)=2:=by rw[mkS_size,HLN.out];rfl
    clear ha ho hk9
    go_wp2_with (first
     |(refine wpList_index rfl (.tmp 6) (.tmp 7) rfl rfl rfl (.string (mkS o)) (HIX.out _) ?_)
     |(go_at_call 50;(with_reducible refine(HP.out _).mono ?_);rintro e w1 ⟨rfl,rfl⟩))
    go_ret
    rw[HA.out]
    exact⟨rfl,Later.refl _⟩
   | false=>
    have HA:=Lib.hid (show ∀ j,j<k+1→Lib.hasPrefix l (longs.getD j [])=false from fun j hj=>by
     rcases Nat.lt_succ_iff_lt_or_eq.1 hj with h1 | h1
     ·exact HJ.out j h1
     ·rw[h1,←ho];exact ha)
    rw[ha] at HP
    have hw:wrap64 ((k:Int)+1)=(k:Int)+1:=w64 _ (by omega)
    clear ha ho
    go_wp2_with (first
     |(refine wpList_index rfl (.tmp 6) (.tmp 7) rfl rfl rfl (.string (mkS o)) (HIX.out _) ?_)
     |(go_at_call 50;(with_reducible refine(HP.out _).mono ?_);rintro e w1 ⟨rfl,rfl⟩))
    go_roundw
    case rel=>exact⟨k+1,by omega,by go_num,trivial,HA.out⟩
    case measure=>simp[intOf];omega
  ·have HSZ:=Lib.hid (show size l=max (l.takeWhile nm).length (min l.length 1) by unfold size;rw[any_no (fun j hj=>HJ.out j (by omega))];rfl)
   have hk99:¬ ((k:Int)<9):=by omega
   clear hk9 hk HJ
   go_wp2
   obtain⟨wo,hwo⟩:∃ wo,wo=wr:=⟨_,rfl⟩
   have HWO:=Lib.hid (show Later wr wo by rw[hwo];exact Later.refl _)
   rw[←hwo]
   clear hwo
   go_loopw [5] (fun i wr=>∃ j:Nat,j≤n∧i=.int .i64 (j:Int)∧Later wo wr∧(l.take j).all nm=true) (fun i _=>n-(intOf i).toNat)
   case atStart=>exact⟨0,by omega,rfl,Later.refl _,rfl⟩
   case round=>
    obtain⟨j,hk,rfl,hlr,ha⟩:=hrel
    have HA:=Lib.hid ha
    have HLR:=Lib.hid hlr
    clear ha hlr
    have hk0:(0:Int)≤(j:Int):=by omega
    have hw:wrap64 ((j:Int)+1)=(j:Int)+1:=w64 _ (by omega)
    by_cases hkn:j<n
    ·have hk1:(j:Int)<(n:Int):=by omega
     have hk2:(j:Int)+1≤(n:Int):=by omega
     have hk3:(j:Int)≤(j:Int)+1:=by omega
     have hlk:j<l.length:=by have:=HN.out;omega
     obtain⟨y,hy⟩:∃ y,y=l[j]:=⟨_,rfl⟩
     have HX:=Lib.hid (show (mkS l).extract j (j+1)=mkS [y] from set_text l j y hlk hy.symm)
     have HM:=Lib.hid (may_v y wr)
     have HY:=Lib.hid hy
     have HTK:=Lib.hid (show l.take (j+1)=l.take j++[y] by rw[List.take_succ_eq_append_getElem hlk,hy])
     have hn1:((j:Int)+1).toNat=j+1:=by omega
     clear hy
     cases hm:nm y with
     | true=>
      have hmv:=HM.out
      rw[hm] at hmv
      have HM1:=Lib.hid hmv
      have HNX:=Lib.hid (show (l.take (j+1)).all nm=true by rw[HTK.out,List.all_append,HA.out];simp[hm])
      clear hmv hm
      go_wp2_with (go_at_call 236;(try rw[hn1]);(try rw[HX.out]);(with_reducible refine HM1.out.mono ?_);rintro e w2 ⟨rfl,hl2⟩)
      go_roundw
      case rel=>exact⟨j+1,by omega,by go_num,HLR.out.trans hl2,HNX.out⟩
      case measure=>simp[intOf];omega
     | false=>
      have hmv:=HM.out
      rw[hm] at hmv
      have HM1:=Lib.hid hmv
      have HRES:=Lib.hid (show (size l:Int)=max (j:Int) (min (n:Int) 1) by
       have e:l.takeWhile nm=l.take j:=take_while l j (by omega) HA.out fun h=>by rw[←HY.out];exact hm
       rw[HSZ.out,e,List.length_take]
       have:=HN.out
       omega)
      clear hmv hm
      go_wp2_with (go_at_call 236;(try rw[hn1]);(try rw[HX.out]);(with_reducible refine HM1.out.mono ?_);rintro e w2 ⟨rfl,hl2⟩)
      go_ret
      rw[HRES.out]
      exact⟨rfl,HWO.out.trans (HLR.out.trans hl2)⟩
    ·have HRES:=Lib.hid (show (size l:Int)=max (j:Int) (min (n:Int) 1) by
      have e:l.takeWhile nm=l.take j:=take_while l j (by have:=HN.out;omega) HA.out fun h=>by have:=HN.out;omega
      rw[HSZ.out,e,List.length_take]
      have:=HN.out
      omega)
     have hjn:¬ ((j:Int)<(n:Int)):=by omega
     clear hkn
     go_wp2
     go_ret
     rw[HRES.out]
     exact⟨rfl,HWO.out.trans HLR.out⟩
end Ar
end Go.Proofs.YtipdgmjplnibeaaGreatDoor
namespace Go.Proofs.YtipdgmjplnibeaaGreatDoor
open Go.RowKit Go.Maps
namespace Ar
section
variable {W W':World} {g:Nat} {C:Ct} {s s':St}
theorem trimL_v (l:L) (W:World):Calls Tryz.prog 207 #[.string (mkS l),.string ⟨#[32,9,10]⟩] W fun e W'=>e=.returned (.string (mkS (l.dropWhile blank)))∧Below W.heap.size W W':=
 Tryz.strings_TrimLeft (mkS l) (mkS [32,9,10]) W (by rw[mkS_size];decide) (Go.Proofs.ascii_of_all (by decide)) |>.mono (by
  rintro e W' ⟨rfl,h⟩
  rw[mkS_list,mkS_list]
  exact⟨rfl,h⟩)
theorem later_of_below {W W':World} (h:Below W.heap.size W W'):Later W W':=⟨h.os,h.tape,h.output,h.size,fun k hk=>h.block k hk⟩
theorem size_le (l:L):size l≤l.length:=by
 unfold size
 split
 ·next h=>
  rw[List.any_eq_true] at h
  obtain⟨t,ht,hp⟩:=h
  have h2:∀ t∈longs,t.length=2:=by decide
  have:=h2 t ht
  have:=(List.isPrefixOf_iff_prefix.1 hp).length_le
  omega
 ·have:=(List.takeWhile_prefix (l:=l) nm).length_le
  omega
theorem pass_v (h:RM W g C s):Calls Tryz.prog 162 #[.pointer (some ⟨g,0,none⟩)] W (Rt W g C (.tuple #[]) (pass s)):=by
 obtain⟨⟨c0,c1,c2,c3,c4,c5,c6,c7,c8⟩,hz⟩:=h.facts
 have H:=Lib.hid h
 have HT:=Lib.hid (fun W=>trimL_v s.left W)
 obtain⟨l,hl⟩:∃ l,l=s.left.dropWhile blank:=⟨_,rfl⟩
 rw[←hl] at HT
 have HL:=Lib.hid hl
 have hll:l.length≤s.left.length:=by rw[hl];exact(List.dropWhile_suffix _).length_le
 have hl4:l.length≤4000:=by have:=h.tok_len;omega
 clear h hl
 go_enter Tryz.func162,Tryz.ntmps162
 obtain⟨k,hk⟩:∃ k,k=size l:=⟨_,rfl⟩
 obtain⟨n,hn⟩:∃ n,n=l.length:=⟨_,rfl⟩
 have hsz:((mkS l).size:Int)=(n:Int):=by rw[mkS_size,hn]
 have hk0:(0:Int)≤(k:Int):=by omega
 have hk1:(k:Int)≤(n:Int):=by have:=size_le l;omega
 have HK:=Lib.hid hk
 have HN:=Lib.hid hn
 have HX1:=Lib.hid (extract_take l k)
 have HX2:=Lib.hid (drop_text l k)
 have HL4:=Lib.hid hl4
 have HLL:=Lib.hid hll
 clear hk hn hl4 hll
 go_wp2_with (first
  |(go_at_call 207;(with_reducible refine(HT.out _).mono ?_);rintro e w1 ⟨rfl,hb1⟩;have h1:=H.out.later (later_of_below hb1);obtain⟨⟨d0,d1,d2,d3,d4,d5,d6,d7,d8⟩,dz⟩:=h1.facts;have H1:=Lib.hid h1;have HB1:=Lib.hid hb1;clear hb1 h1)
  |(go_at_call 208;obtain⟨w2,hw2⟩:∃ w2,w2=w1.setCell ⟨g,1,none⟩ (.string (mkS l)):=⟨_,rfl⟩;rw[←hw2];have h2:RM w2 g C { s with left:=l }:=(by rw[hw2];exact H1.out.turn (set_only _ _ _ _) (by rw[set_row H1.out.box];rfl) H1.out.deep (by have:=H1.out.sml;have:=HLL.out;unfold m at *;dsimp only at *;omega));have hg2:w1.grownBy w2 (some g):=(by rw[hw2];exact set_only _ _ _ _);(with_reducible refine(size_v h2.en.tbs h2.lt l HL4.out).mono ?_);rintro e w3 ⟨rfl,hl3⟩;have h3:=h2.later hl3;obtain⟨⟨e0,e1,e2,e3,e4,e5,e6,e7,e8⟩,ez⟩:=h3.facts;have H3:=Lib.hid h3;have HG3:=Lib.hid (only_later hg2 hl3);rw[←HK.out];clear h2 hg2 hl3 h3 hw2 d0 d1 d2 d3 d4 d5 d6 d7 d8 dz c0 c1 c2 c3 c4 c5 c6 c7 c8 hz))
 go_region
 rw[HX1.out,HX2.out]
 go_end0
 have e1:pass s={ s with tok:=l.take k,left:=l.drop k }:=by unfold pass;rw[←HL.out,←HK.out]
 rw[e1]
 have hg:=only_trans (set_only w3 g 0 (.string (mkS (l.take k)))) (set_only _ g 1 (.string (mkS (l.drop k))))
 have hr:RM ((w3.setCell ⟨g,0,none⟩ (.string (mkS (l.take k)))).setCell ⟨g,1,none⟩ (.string (mkS (l.drop k)))) g C { s with tok:=l.take k,left:=l.drop k }:=H3.out.turn hg (by rw[set_row (set_row H3.out.box _ _)];rfl) H.out.deep (by
  have h1:=H.out.sml
  have h2:=HLL.out
  unfold m at *
  dsimp only at *
  simp only[List.length_take,List.length_drop]
  omega)
 refine⟨rfl,hr.later (Later.drew _),only_trans (only_later (only_refl W g) (later_of_below HB1.out)) (only_trans HG3.out (only_later hg (Later.drew _)))⟩
theorem enter_v (h:RM W g C s) (hd:s.deep<40):Calls Tryz.prog 164 #[.pointer (some ⟨g,0,none⟩)] W (Rt W g C (.tuple #[]) (enter s)):=by
 obtain⟨⟨c0,c1,c2,c3,c4,c5,c6,c7,c8⟩,hz⟩:=h.facts
 obtain⟨d,hdd⟩:∃ d,d=s.deep+1:=⟨_,rfl⟩
 have hd1:wrap64 ((s.deep:Int)+1)=(d:Int):=by rw[IntWalk.wrap64_in _ (by omega)];omega
 have hd2:((s.deep:Int)==40)=false:=by simp;omega
 have H:=Lib.hid h
 have HS:=Lib.hid (show RM (W.setCell ⟨g,3,none⟩ (.int .i64 (d:Int))) g C { s with deep:=d } from h.turn (set_only _ _ _ _) (by rw[set_row h.box];rfl) (by show d≤40;omega) h.sml)
 have HE:=Lib.hid (show enter s=pass { s with deep:=d } by rw[hdd];rfl)
 rw[HE.out]
 clear h hd hdd
 go_enter Tryz.func164,Tryz.ntmps164
 go_wp2_with (go_at_call 162;(with_reducible refine(pass_v HS.out).mono ?_);rintro e w1 ⟨rfl,h1,g1⟩)
 go_end0
 exact⟨rfl,h1,only_trans (set_only _ _ _ _) g1⟩
theorem txt_eq (t b:L):((mkS t).toList==b)=(t==b):=by rw[toList_mkS]
theorem take_v (h:RM W g C s) (t:L):Calls Tryz.prog 213 #[.pointer (some ⟨g,0,none⟩),.string (mkS t)] W (Rt W g C (.bool (s.tok==t)) (if s.tok=t then pass s else s)):=by
 obtain⟨⟨c0,c1,c2,c3,c4,c5,c6,c7,c8⟩,hz⟩:=h.facts
 have HP:=Lib.hid (pass_v h)
 by_cases ht:s.tok=t
 ·have he:((mkS s.tok).toList==(mkS t).toList)=true:=by rw[toList_mkS,toList_mkS,ht];exact beq_self_eq_true _
  have HR:=Lib.hid (show (s.tok==t)=true by rw[ht];exact beq_self_eq_true _)
  rw[if_pos ht,HR.out]
  clear ht h HR
  go_enter Tryz.func213,Tryz.ntmps213
  go_wp2_with (go_at_call 162;(with_reducible refine HP.out.mono ?_);rintro e w1 ⟨rfl,h1,g1⟩)
  go_ret
  exact⟨rfl,h1,g1⟩
 ·have he:((mkS s.tok).toList==(mkS t).toList)=false:=by rw[toList_mkS,toList_mkS];exact beq_eq_false_iff_ne.2 ht
  have HR:=Lib.hid (show (s.tok==t)=false from beq_eq_false_iff_ne.2 ht)
  rw[if_neg ht,HR.out]
  clear ht HR HP
  have H:=Lib.hid h
  clear h
  go_enter Tryz.func213,Tryz.ntmps213
  go_wp2
  go_ret
  exact⟨rfl,H.out,only_refl _ _⟩
theorem need_v (h:RM W g C s) (t:L) (ts:ByteArray) (hts:ts=mkS t) (ht:s.tok=t):Calls Tryz.prog 166 #[.pointer (some ⟨g,0,none⟩),.string ts] W (Rt W g C (.tuple #[]) (pass s)):=by
 subst hts
 have hv:=take_v h t
 rw[if_pos ht,show (s.tok==t)=true by rw[ht];exact beq_self_eq_true _] at hv
 have HV:=Lib.hid hv
 clear hv h ht
 go_enter Tryz.func166,Tryz.ntmps166
 go_wp2_with (go_at_call 213;(with_reducible refine HV.out.mono ?_);rintro e w1 ⟨rfl,h1,g1⟩)
 go_end0
 exact⟨rfl,h1,g1⟩
end
end Ar
end Go.Proofs.YtipdgmjplnibeaaGreatDoor
namespace Go.Proofs.YtipdgmjplnibeaaGreatDoor
open Go.RowKit Go.Maps
namespace Ar
def idxI (l:List L) (t:L):Int:=match l.findIdx? (·==t) with
 | some i=>i
 | none=>-1
theorem idx_at {l:List L} {t:L} {k:Nat} (hk:k<l.length) (h1:∀ j (h:j<k),(l[j]'(by omega)==t)=false) (h2:(l[k]==t)=true):idxI l t=k:=by
 have:l.findIdx? (·==t)=some k:=by
  rw[List.findIdx?_eq_some_iff_getElem]
  exact⟨hk,h2,fun j hj=>by rw[h1 j hj];simp⟩
 unfold idxI
 rw[this]
theorem idx_none {l:List L} {t:L} (h1:∀ j (h:j<l.length),(l[j]==t)=false):idxI l t=-1:=by
 have:l.findIdx? (·==t)=none:=by
  rw[List.findIdx?_eq_none_iff]
  intro x hx
  obtain⟨j,hj,rfl⟩:=List.mem_iff_getElem.1 hx
  exact h1 j hj
 unfold idxI
 rw[this]
theorem index_v (W:World) (ad:Addr) (l:List L) (c:Nat) (hl:l.length≤1000) (h:∀ j:Nat,j<l.length→W.cell? (ad.add j)=some (.string (mkS (l.getD j [])))) (t:L):Calls Tryz.prog 254 #[.slice (some ad) l.length c,.string (mkS t)] W fun e W'=>e=.returned (.int .i64 (idxI l t))∧W'=W:=by
 obtain⟨n,hn⟩:∃ n,n=l.length:=⟨_,rfl⟩
 rw[←hn] at hl h⊢
 have HN:=Lib.hid hn
 have HH:=Lib.hid h
 clear hn h
 go_enter Tryz.func254,Tryz.ntmps254
 go_wp2
 go_loopw [8] (fun i wr=>∃ k:Nat,k≤n∧i=.int .i64 (k:Int)∧wr=W∧∀ j:Nat,j<k→(l.getD j []==t)=false) (fun i _=>n-(intOf i).toNat)
 case atStart=>exact⟨0,by omega,rfl,rfl,fun j hj=>by omega⟩
 case round=>
  obtain⟨k,hk,rfl,rfl,hj⟩:=hrel
  have HJ:=Lib.hid hj
  clear hj
  by_cases hkn:k<n
  ·have hk0:(0:Int)≤(k:Int):=by omega
   have hk1:(k:Int)<(n:Int):=by omega
   have hlk:k<l.length:=by have:=HN.out;omega
   have hcell:=HH.out k hkn
   obtain⟨y,hy⟩:∃ y,y=l.getD k []:=⟨_,rfl⟩
   rw[←hy] at hcell
   have hgl:l[k]=y:=by rw[hy,List.getD_eq_getElem?_getD,List.getElem?_eq_getElem hlk];rfl
   have HY:=Lib.hid hy
   by_cases hyt:y=t
   ·have he:((mkS t).toList==(mkS y).toList)=true:=by rw[hyt];exact beq_self_eq_true _
    have HR:=Lib.hid (show idxI l t=k from idx_at hlk (fun j h=>by have:=HJ.out j h;rw[List.getD_eq_getElem?_getD,List.getElem?_eq_getElem (by omega)] at this;exact this) (by rw[hgl,hyt];exact beq_self_eq_true _))
    clear hgl hy hyt
    go_wp2
    go_ret
    rw[HR.out]
    exact⟨rfl,rfl⟩
   ·have he:((mkS t).toList==(mkS y).toList)=false:=by rw[toList_mkS,toList_mkS];exact beq_eq_false_iff_ne.2 (fun e=>hyt e.symm)
    have hw:wrap64 ((k:Int)+1)=(k:Int)+1:=w64 _ (by omega)
    have HA:=Lib.hid (show ∀ j:Nat,j<k+1→(l.getD j []==t)=false from fun j hj=>by
     rcases Nat.lt_succ_iff_lt_or_eq.1 hj with h1 | h1
     ·exact HJ.out j h1
     ·rw[h1,←hy];exact beq_eq_false_iff_ne.2 hyt)
    clear hgl hy hyt
    go_wp2
    go_roundw
    case rel=>exact⟨k+1,by omega,by go_num,trivial,HA.out⟩
    case measure=>simp[intOf];omega
  ·have HR:=Lib.hid (show idxI l t=-1 from idx_none fun j h=>by have:=HJ.out j (by have:=HN.out;omega);rw[List.getD_eq_getElem?_getD,List.getElem?_eq_getElem h] at this;exact this)
   have hkk:¬ ((k:Int)<(n:Int)):=by omega
   clear hkn
   go_wp2
   go_ret
   rw[HR.out]
   exact⟨rfl,rfl⟩
theorem idx_has (l:List L) (t:L):decide (0≤idxI l t)=l.contains t:=by
 unfold idxI
 cases h:l.findIdx? (·==t) with
 | none=>
  rw[List.findIdx?_eq_none_iff] at h
  have:l.contains t=false:=by
   rw[←Bool.not_eq_true,List.contains_iff_mem]
   intro hm
   have:=h t hm
   simp at this
  rw[this]
  rfl
 | some i=>
  rw[List.findIdx?_eq_some_iff_getElem] at h
  obtain⟨h1,h2,_⟩:=h
  have:l.contains t=true:=by
   rw[List.contains_iff_mem]
   rw[←eq_of_beq h2]
   exact List.getElem_mem _
  rw[this]
  simp
theorem contains_v (W:World) (ad:Addr) (l:List L) (c:Nat) (hl:l.length≤1000) (h:∀ j:Nat,j<l.length→W.cell? (ad.add j)=some (.string (mkS (l.getD j [])))) (t:L):Calls Tryz.prog 238 #[.slice (some ad) l.length c,.string (mkS t)] W fun e W'=>e=.returned (.bool (l.contains t))∧W'=W:=by
 have HI:=Lib.hid (index_v W ad l c hl h t)
 have HR:=Lib.hid (idx_has l t)
 obtain⟨n,hn⟩:∃ n,n=l.length:=⟨_,rfl⟩
 rw[←hn] at HI⊢
 obtain⟨i,hi⟩:∃ i,i=idxI l t:=⟨_,rfl⟩
 rw[←hi] at HI HR
 clear hl h hn hi
 go_enter Tryz.func238,Tryz.ntmps238
 go_wp2_with (go_at_call 254;(with_reducible refine HI.out.mono ?_);rintro e w1 ⟨rfl,rfl⟩)
 go_ret
 exact⟨ret_bool HR.out,rfl⟩
theorem rows_small (i:Nat) (hi:i<10):(rows.getD i []).length≤1000:=by
 have hkk:i=0∨i=1∨i=2∨i=3∨i=4∨i=5∨i=6∨i=7∨i=8∨i=9:=by omega
 clear hi
 rcases hkk with rfl | rfl | rfl | rfl | rfl | rfl | rfl | rfl | rfl | rfl
 all_goals decide
def rowsV (ad:Nat→Addr) (cp:Nat→Nat):List Value:=(List.range 10).map fun i=>.slice (some (ad i)) (rows.getD i []).length (cp i)
theorem rows_index (ad:Nat→Addr) (cp:Nat→Nat) (k:Nat) (hk:k<10) (w:World):(Instr.index 254 (.agg (rowsV ad cp).toArray) (.int .i64 (k:Int))).run Tryz.prog w=.ok (.slice (some (ad k)) (rows.getD k []).length (cp k)) w:=by
 have hkk:k=0∨k=1∨k=2∨k=3∨k=4∨k=5∨k=6∨k=7∨k=8∨k=9:=by omega
 clear hk
 rcases hkk with rfl | rfl | rfl | rfl | rfl | rfl | rfl | rfl | rfl | rfl
 all_goals rfl
theorem row_at {t:L} {k:Nat} (hk:k<10) (h1:∀ j:Nat,j<k→(rows.getD j []).contains t=false) (h2:(rows.getD k []).contains t=true):rowOf t=k:=by
 have hd:∀ j,j<10→∀ h:j<rows.length,rows.getD j []=rows[j]:=fun j _ h=>by rw[List.getD_eq_getElem?_getD,List.getElem?_eq_getElem h];rfl
 have:rows.findIdx? (·.contains t)=some k:=by
  rw[List.findIdx?_eq_some_iff_getElem]
  have hkl:k<rows.length:=hk
  refine⟨hkl,by rw[←hd k hk];exact h2,fun j hj=>by rw[←hd j (by omega),h1 j hj];simp⟩
 unfold rowOf
 rw[this]
theorem row_no {t:L} (h1:∀ j:Nat,j<10→(rows.getD j []).contains t=false):rowOf t=-1:=by
 have:rows.findIdx? (·.contains t)=none:=by
  rw[List.findIdx?_eq_none_iff]
  intro x hx
  obtain⟨j,hj,rfl⟩:=List.mem_iff_getElem.1 hx
  have:=h1 j hj
  rw[List.getD_eq_getElem?_getD,List.getElem?_eq_getElem hj] at this
  exact this
 unfold rowOf
 rw[this]
theorem rowOf_v {W:World} {g:Nat} (h:Tb W g) (t:L):Calls Tryz.prog 210 #[.string (mkS t)] W fun e W'=>e=.returned (.int .i64 (rowOf t))∧W'=W:=by
 obtain⟨_,_,_,ad,cp,hr⟩:=h
 have HO:=Lib.hid (show (Instr.loadAt 254 (.pointer (some ⟨8,0,none⟩))).run Tryz.prog W=.ok (.agg (rowsV ad cp).toArray) W by
  refine run_loadAt_mid (P:=Tryz.prog) W 8 0 254 (rowsV ad cp) _ (fun j u hu=>?_) Tryz.underlying254 rfl (by kernel_rfl)
  have hj:j<10:=(List.getElem?_eq_some_iff.1 hu).1
  rw[Nat.zero_add,(hr j hj).2.1]
  unfold rowsV at hu
  rw[List.getElem?_map,List.getElem?_range hj] at hu
  exact hu)
 have HC:=Lib.hid (fun k (hk:k<10)=>contains_v W (ad k) (rows.getD k []) (cp k) (rows_small k hk) (hr k hk).2.2 t)
 have HX:=Lib.hid (rows_index ad cp)
 obtain⟨rv,hrv⟩:∃ rv,rv=(rowsV ad cp).toArray:=⟨_,rfl⟩
 rw[←hrv] at HO HX
 clear hr hrv
 go_enter Tryz.func210,Tryz.ntmps210
 go_wp2_with (refine wpList_loadRun rfl 254 (.global 8) rfl _ _ rfl HO.out ?_)
 go_loopw [6] (fun i wr=>∃ k:Nat,k≤10∧i=.int .i64 (k:Int)∧wr=W∧∀ j:Nat,j<k→(rows.getD j []).contains t=false) (fun i _=>10-(intOf i).toNat)
 case atStart=>exact⟨0,by omega,rfl,rfl,fun j hj=>by omega⟩
 case round=>
  obtain⟨k,hk,rfl,rfl,hj⟩:=hrel
  have HJ:=Lib.hid hj
  clear hj
  by_cases hk9:k<10
  ·have hk1:(k:Int)<10:=by omega
   have hix:=HX.out k hk9
   have hcc:=HC.out k hk9
   obtain⟨rl,hrl⟩:∃ rl,rl=rows.getD k []:=⟨_,rfl⟩
   rw[←hrl] at hix hcc
   have HRL:=Lib.hid hrl
   obtain⟨rn,hrn⟩:∃ rn,rn=rl.length:=⟨_,rfl⟩
   rw[←hrn] at hix hcc
   have HIX:=Lib.hid hix
   cases ha:rl.contains t with
   | true=>
    rw[ha] at hcc
    have HCC:=Lib.hid hcc
    have HR:=Lib.hid (row_at hk9 HJ.out (by rw[←hrl];exact ha))
    clear ha hrl hix hcc hrn hk9
    go_wp2_with (first
     |(refine wpList_index rfl (.tmp 5) (.tmp 6) rfl rfl rfl (.slice (some (ad k)) rn (cp k)) (HIX.out _) ?_)
     |(go_at_call 238;(with_reducible refine HCC.out.mono ?_);rintro e w1 ⟨rfl,rfl⟩))
    go_ret
    rw[HR.out]
    exact⟨rfl,rfl⟩
   | false=>
    rw[ha] at hcc
    have HCC:=Lib.hid hcc
    have hw:wrap64 ((k:Int)+1)=(k:Int)+1:=w64 _ (by omega)
    have HA:=Lib.hid (show ∀ j:Nat,j<k+1→(rows.getD j []).contains t=false from fun j hj=>by
     rcases Nat.lt_succ_iff_lt_or_eq.1 hj with h1 | h1
     ·exact HJ.out j h1
     ·rw[h1,←hrl];exact ha)
    clear ha hrl hix hcc hrn
    go_wp2_with (first
     |(refine wpList_index rfl (.tmp 5) (.tmp 6) rfl rfl rfl (.slice (some (ad k)) rn (cp k)) (HIX.out _) ?_)
     |(go_at_call 238;(with_reducible refine HCC.out.mono ?_);rintro e w1 ⟨rfl,rfl⟩))
    go_roundw
    case rel=>exact⟨k+1,by omega,by go_num,trivial,HA.out⟩
    case measure=>simp[intOf];omega
  ·have HR:=Lib.hid (row_no fun j hj=>HJ.out j (by omega))
   have hkk:¬ ((k:Int)<10):=by omega
   clear hk9
   go_wp2
   go_ret
   rw[HR.out]
   exact⟨rfl,rfl⟩
end Ar
end Go.Proofs.YtipdgmjplnibeaaGreatDoor
