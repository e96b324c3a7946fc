import Derived.Test.YtipdgmjplnibeaaGreatDoorWu
set_option maxRecDepth 100000
set_option maxHeartbeats 1600000
namespace Go.Proofs.YtipdgmjplnibeaaGreatDoor
open Go.RowKit Go.Maps
set_option maxRecDepth 100000
namespace Ws
section
variable {W W':World} {X T:Nat→Prop} {g s dp:Nat} {raw:L} {r:Wd.R} {x:Wd.S}
theorem put_v (h:RMT W X T g s raw dp r x) (k:Nat) (hk:k≤9) (t:L) (hlen:r.ps.length+r.t.length+t.length≤10000000):Calls Tryz.prog 82 #[.pointer (some ⟨g,0,none⟩),.int .i64 (k:Int),.string (mkS t)] W (RowR W X T g s raw dp (Wd.put k t r) x):=by
 obtain⟨i0,hi,hz0,hz1,hz2⟩:=info_parts info_u8
 have HCL:=Lib.hid (close_v h (by omega))
 obtain⟨vp,vt,nd,h⟩:=h
 by_cases hkk:k=r.k
 ·have e1:Wd.put k t r=⟨r.ps,r.k,r.t++t⟩:=by unfold Wd.put;rw[if_pos hkk]
  rw[e1]
  obtain⟨⟨c0,c1,c2,c3,c4⟩,hz⟩:=h.facts
  rw[←hkk] at c1
  obtain⟨A1,k1,rfl,hk1⟩:=own_any h.txt
  have H:=Lib.hid h
  have HT:=Lib.hid (show W.ownsRow 0 5 1 (.slice A1 r.t.length k1) (r.t.map bv).length (r.t.map bv) by rw[List.length_map];exact h.txt)
  have HLN:=Lib.hid hlen
  obtain⟨kk,hk2⟩:∃ kk:Nat,kk=k:=⟨_,rfl⟩
  clear h e1 hkk hk1 hlen
  go_enter Tryz.func82,Tryz.ntmps82
  go_wp2_with (at_builtin;refine wpList_appS _ rfl (.tmp 22) (.tmp 23) 81 9 rfl 0 5 i0 Tryz.underlying81 Tryz.underlying9 hi hz0 hz1 hz2 (.slice A1 r.t.length k1) (r.t.map bv) rfl HT.out (mkS t) rfl (by rw[mkS_size,List.length_map];have:=HLN.out;omega) (Nat.zero_le _) ?_;intro v' w2 hg;rw[mkS_list,←List.map_append] at hg;obtain⟨A2,k2,e9,_⟩:=own_any hg.1;subst e9;have hgr:=hg.2;have HG:=Lib.hid hg;have hq:=H.out;have hbx:=(hgr.block g hq.lt (fun e=>row_ne hq.box hq.txt (by decide) e.symm)).trans hq.box;have e3:=(cell_row hbx 2).1;have hz3:=(cell_row hbx 2).2;clear hgr hq hbx)
  go_end0
  have q1:=H.out.wrote HG.out
  have hln:(List.map bv (r.t++t)).length=r.t.length+t.length:=by simp
  rw[hln] at q1
  exact⟨rfl,⟨_,_,_,q1.1⟩,q1.2⟩
 ·have e1:Wd.put k t r=⟨(Wd.close r).ps,k,t⟩:=by unfold Wd.put;rw[if_neg hkk]
  rw[e1]
  have hcc:(Wd.close r).t=[]:=by unfold Wd.close;split <;> rfl
  obtain⟨⟨c0,c1,c2,c3,c4⟩,hz⟩:=h.facts
  have hne:((k:Int)==(r.k:Int))=false:=by simp;omega
  have hne2:((k:Int) != (r.k:Int))=true:=by simp;omega
  have HLN:=Lib.hid hlen
  have HCC:=Lib.hid hcc
  have HK:=Lib.hid hk
  clear h e1 hkk hcc hlen hk
  go_enter Tryz.func82,Tryz.ntmps82
  go_wp2_with (first
   |(go_at_call 80;(with_reducible refine HCL.out.mono ?_);rintro e w1 ⟨rfl,⟨vp1,vt1,nd1,h2⟩,hf1⟩;obtain⟨⟨d0,d1,d2,d3,d4⟩,dz⟩:=h2.facts;obtain⟨A1,k1,rfl,hk1⟩:=own_any h2.txt;have HF1:=Lib.hid hf1;have hkd:=h2.kind k HK.out;have HKD:=Lib.hid hkd;have D2:=Lib.hid (hkd.1.facts.1.2.2.1);have D2z:=Lib.hid (hkd.1.facts.2 2);clear h2 hf1 hkd hk1)
   |(at_builtin;refine wpList_appS _ rfl (.tmp 22) (.tmp 23) 81 9 rfl 0 5 i0 Tryz.underlying81 Tryz.underlying9 hi hz0 hz1 hz2 (.slice A1 (Wd.close r).t.length k1) ((Wd.close r).t.map bv) rfl (by rw[List.length_map];exact HKD.out.1.txt) (mkS t) rfl (by rw[mkS_size,List.length_map,HCC.out];have:=HLN.out;simp;omega) (Nat.zero_le _) ?_;intro v' w2 hg;rw[mkS_list,←List.map_append] at hg;obtain⟨A2,k2,e9,_⟩:=own_any hg.1;subst e9;have hgr:=hg.2;have HG:=Lib.hid hg;have hq:=HKD.out.1;have hbx:=(hgr.block g hq.lt (fun e=>row_ne hq.box hq.txt (by decide) e.symm)).trans hq.box;have e3:=(cell_row hbx 2).1;have hz3:=(cell_row hbx 2).2;clear hgr hq hbx))
  go_end0
  have q1:=HKD.out.1.wrote HG.out
  have hln:(List.map bv ((Wd.close r).t++t)).length=(Wd.close r).t.length+t.length:=by simp
  rw[hln] at q1
  have q2:RMx _ X T g s raw dp ⟨(Wd.close r).ps,k,(Wd.close r).t++t⟩ x _ _ _:=q1.1
  have e4:(⟨(Wd.close r).ps,k,(Wd.close r).t++t⟩:Wd.R)=⟨(Wd.close r).ps,k,t⟩:=by rw[HCC.out];rfl
  rw[e4] at q2
  exact⟨rfl,⟨_,_,_,q2⟩,HF1.out.trans (HKD.out.2.trans q1.2)⟩
theorem all_v (h:RMT W X T g s raw dp r x) (hlen:r.ps.length≤100000000):Calls Tryz.prog 86 #[.pointer (some ⟨g,0,none⟩)] W fun e W'=>∃ v,e=.returned v∧PsAt W' (fun b=>T b∨v.ownBlock=some b) v (Wd.all r)∧Fr (un X T) W W'∧Sr W' s raw x∧(∀ b,v.ownBlock=some b→¬ X b)∧XL T W'∧¬ T s∧v.ownBlock≠some s∧(∀ b,T b→¬ X b)∧(∀ b,v.ownBlock=some b→b<W'.heap.size):=by
 have HCL:=Lib.hid (close_v h hlen)
 clear h
 go_enter Tryz.func86,Tryz.ntmps86
 go_wp2_with (go_at_call 80;(with_reducible refine HCL.out.mono ?_);rintro e w1 ⟨rfl,⟨vp1,vt1,nd1,h2⟩,hf1⟩;obtain⟨⟨d0,d1,d2,d3,d4⟩,dz⟩:=h2.facts;have HF1:=Lib.hid hf1;have H2:=Lib.hid h2;clear h2 hf1)
 go_ret
 have h2:=H2.out
 refine⟨_,rfl,?_,HF1.out,h2.src,h2.pX,h2.tl,h2.sT,?_,fun b ht hx=>h2.xt b hx ht,fun b e=>(h2.row.lt b e).2⟩
 ·have hr:=h2.row
  have hps:nd1.map Prod.fst=Wd.all r:=h2.ps
  rcases hr.2 with⟨e1,e2⟩ | ⟨b,cap,cur,e1,_,hb,hnc,hcm,_⟩
  ·have:nd1=[]:=List.eq_nil_of_length_eq_zero e2
   rw[←hps,this,show (_:Value)=vp1 from rfl,e1]
   exact .nil _ _
  ·have hcl:=hr
   rw[e1] at hcl
   show PsAt w1 (fun b=>T b∨vp1.ownBlock=some b) vp1 _
   rw[e1]
   exact .row _ _ _ nd1 _ hps rfl (.inr rfl) (lt_of_block hb) (fun j u hu=>by have h8:=hcl.cells (g:=b) rfl j u hu;rw[add_lit0] at h8;exact h8) ⟨hnc,hcm⟩ fun y hy=>(h2.tree y hy).kept (Nat.le_refl _) (fun _ _ _=>rfl) fun b hb=>.inl hb
 ·obtain⟨cs,hb⟩:=h2.src.box
  exact row_ne hb h2.row (by decide)
end
end Ws
end Go.Proofs.YtipdgmjplnibeaaGreatDoor
namespace Go.Proofs.YtipdgmjplnibeaaGreatDoor
open Go.RowKit Go.Maps
set_option maxRecDepth 100000
open Wd (letB dig nm)
namespace Ws
def nameB (l:L):Bool:=match l with
 | []=>false
 | c::_=>!dig c && l.all fun c=>letB c || dig c
theorem byte_le (a c:UInt8):decide (a≤c)=decide ((a.toNat:Int)≤(c.toNat:Int)):=by rw[decide_eq_decide,UInt8.le_iff_toNat_le];omega
theorem letter_v (c:UInt8) (W:World):Calls Tryz.prog 58 #[.int .u8 (c.toNat:Int)] W fun e W'=>e=.returned (.bool (letB c))∧W'=W:=by
 have hb:letB c=((decide ((97:Int)≤(c.toNat:Int)) && decide ((c.toNat:Int)≤122)) || (decide ((65:Int)≤(c.toNat:Int)) && decide ((c.toNat:Int)≤90)) || decide ((c.toNat:Int)=95)):=by
  unfold letB
  rw[byte_le,byte_le,byte_le,byte_le]
  have:(c==95)=decide ((c.toNat:Int)=95):=by
   rw[Bool.eq_iff_iff,beq_iff_eq,decide_eq_true_iff]
   exact⟨fun h=>by rw[h];rfl,fun h=>UInt8.toNat_inj.1 (by have:(95:UInt8).toNat=95:=rfl;omega)⟩
  rw[this]
  rfl
 rw[hb]
 obtain⟨x,hx⟩:∃ x:Nat,x=c.toNat:=⟨_,rfl⟩
 rw[←hx]
 clear hx hb
 by_cases h1:(97:Int)≤(x:Int)
 ·by_cases h2:(x:Int)≤122
  ·go_enter Tryz.func58,Tryz.ntmps58
   go_wp2
   go_ret
   exact⟨ret_bool (by simp <;> omega),rfl⟩
  ·have h3:(65:Int)≤(x:Int):=by omega
   have h4:¬ (x:Int)≤90:=by omega
   have h5:((x:Int)==95)=false:=by simp;omega
   go_enter Tryz.func58,Tryz.ntmps58
   go_wp2
   go_ret
   exact⟨ret_bool (by simp <;> omega),rfl⟩
 ·by_cases h3:(65:Int)≤(x:Int)
  ·by_cases h4:(x:Int)≤90
   ·go_enter Tryz.func58,Tryz.ntmps58
    go_wp2
    go_ret
    exact⟨ret_bool (by simp <;> omega),rfl⟩
   ·by_cases h6:x=95
    ·subst h6
     go_enter Tryz.func58,Tryz.ntmps58
     go_wp2
     go_ret
     exact⟨ret_bool (by simp),rfl⟩
    ·have h5:((x:Int)==95)=false:=by simp;omega
     go_enter Tryz.func58,Tryz.ntmps58
     go_wp2
     go_ret
     exact⟨ret_bool (by simp <;> omega),rfl⟩
  ·have h5:((x:Int)==95)=false:=by simp;omega
   go_enter Tryz.func58,Tryz.ntmps58
   go_wp2
   go_ret
   exact⟨ret_bool (by simp <;> omega),rfl⟩
theorem digit_v (c:UInt8) (W:World):Calls Tryz.prog 57 #[.int .u8 (c.toNat:Int)] W fun e W'=>e=.returned (.bool (decide (48≤c) && decide (c≤57)))∧W'=W:=by
 have e1:decide (48≤c)=decide (48≤(c.toNat:Int)):=by rw[decide_eq_decide,UInt8.le_iff_toNat_le];simp;omega
 have e2:decide (c≤57)=decide ((c.toNat:Int)≤57):=by rw[decide_eq_decide,UInt8.le_iff_toNat_le];simp;omega
 rw[e1,e2]
 obtain⟨x,hx⟩:∃ x:Nat,x=c.toNat:=⟨_,rfl⟩
 rw[←hx]
 clear hx e1 e2
 by_cases h1:(48:Int)≤(x:Int) <;> by_cases h2:(x:Int)≤57
 all_goals
  go_enter Tryz.func57,Tryz.ntmps57
  go_wp2
  go_ret
  exact⟨ret_bool (by simp[h1,h2];try omega),rfl⟩
theorem conv_str (W:World) (t:List UInt8) (N:Nat) (hN:N=W.heap.size):∃ c W',(convert 9 81 (.string (mkS t))).run Tryz.prog W=.ok (.slice (some ⟨N,0,none⟩) t.length c) W'∧Later W W'∧Rd W' W'.heap.size (some ⟨N,0,none⟩) t.length (t.map bv):=by
 subst hN
 have h:=run_bytes_of_string W 9 81 5 (mkS t) Tryz.underlying9 Tryz.underlying81 Tryz.underlying5
 rw[mkS_size] at h
 refine⟨_,_,h,Later.trans (Later.drew W) (Later.alloc _ _),by simp,fun h0=>⟨_,rfl,by simp,fun j u hu=>?_⟩⟩
 rw[add_lit0]
 have hz:W.drew.heap.size=W.heap.size:=rfl
 rw[←hz]
 rw[cell_of_row _ _ j _ _ _ (heap_alloc_new W.drew _)]
 rw[List.getElem?_map] at hu
 by_cases hj:j<t.length
 ·rw[List.getElem?_eq_getElem hj] at hu
  simp at hu
  subst hu
  unfold bytesRow
  rw[Array.getElem?_append_left (by simp[mkS];omega)]
  simp[mkS,hj,bv]
 ·rw[List.getElem?_eq_none (by omega)] at hu
  cases hu
theorem sget0 (c:UInt8) (r:L):∃ h:0<(mkS (c::r)).size,(mkS (c::r))[0]'h=c:=⟨by rw[mkS_size];simp,rfl⟩
theorem name_v (l:L) (hl:l.length≤5000) (W:World):Calls Tryz.prog 28 #[.string (mkS l)] W fun e W'=>e=.returned (.bool (nameB l))∧Later W W':=by
 cases l with
 | nil=>
  have he:((mkS []).toList==([]:List UInt8))=true:=by rw[toList_mkS];rfl
  go_enter Tryz.func28,Tryz.ntmps28
  go_wp2
  go_ret
  exact⟨rfl,Later.refl _⟩
 | cons c r=>
  have he:((mkS (c::r)).toList==([]:List UInt8))=false:=by rw[toList_mkS];rfl
  obtain⟨hs0,hg0⟩:=sget0 c r
  obtain⟨l,hll⟩:∃ l,l=c::r:=⟨_,rfl⟩
  rw[←hll] at hl he⊢
  have hs1:(0:Int)<((mkS l).size:Int):=by rw[hll];omega
  have hg1:∀ h,(mkS l)[0]'h=c:=by rw[hll];exact fun _=>hg0
  have HD:=Lib.hid (digit_v c)
  have HLL:=Lib.hid hll
  by_cases hd:dig c=true
  ·have hd1:=HD.out
   rw[show (decide (48≤c) && decide (c≤57))=true from hd] at hd1
   have HD1:=Lib.hid hd1
   have HNB:=Lib.hid (show nameB l=false by rw[hll];unfold nameB;simp only[hd];rfl)
   clear hd1 hll
   go_enter Tryz.func28,Tryz.ntmps28
   go_wp2_with (first
    |(go_at_call 57;(with_reducible refine(HD1.out _).mono ?_);rintro e w2 ⟨rfl,rfl⟩))
   go_ret
   exact⟨ret_bool HNB.out.symm,Later.refl _⟩
  ·have hdf:dig c=false:=by simpa using hd
   have hd1:=HD.out
   rw[show (decide (48≤c) && decide (c≤57))=false from hdf] at hd1
   have HD1:=Lib.hid hd1
   have HNB:=Lib.hid (show nameB l=l.all fun c=>letB c || dig c by rw[hll];unfold nameB;simp only[hdf];rfl)
   obtain⟨cp,W2,hcv,hl2,hr2⟩:=conv_str W l W.heap.size rfl
   obtain⟨n,hn⟩:∃ n,n=l.length:=⟨_,rfl⟩
   rw[←hn] at hcv hr2 hl
   have HL2:=Lib.hid hl2
   have HR:=Lib.hid hr2
   have HN:=Lib.hid hn
   clear hl2 hr2 hn hd1 hll
   go_enter Tryz.func28,Tryz.ntmps28
   go_wp2_with (first
    |(go_at_call 57;(with_reducible refine(HD1.out _).mono ?_);rintro e w2 ⟨rfl,hw⟩;subst hw))
   go_loopw [15] (fun i wr=>∃ k:Nat,k≤n∧i=.int .i64 (k:Int)∧wr=W2∧(l.take k).all (fun c=>letB c || dig c)=true) (fun i _=>n-(intOf i).toNat)
   case atStart=>exact⟨0,by omega,rfl,rfl,rfl⟩
   case round=>
    obtain⟨k,hk,rfl,hw,ha⟩:=hrel
    subst hw
    have HA:=Lib.hid ha
    clear ha
    by_cases hkn:k<n
    ·obtain⟨ad,hlk,had,_,hcell⟩:=HR.out.byte hkn
     obtain⟨x,hx⟩:∃ x,x=l[k]:=⟨_,rfl⟩
     rw[←hx] at hcell
     injection had with had
     have hcell2:=hcell
     rw[←had,add_lit0] at hcell2
     have hk0:(0:Int)≤(k:Int):=by omega
     have hk1:(k:Int)<(n:Int):=by omega
     have HTK:=Lib.hid (show l.take (k+1)=l.take k++[x] by rw[List.take_succ_eq_append_getElem hlk,hx])
     have HX:=Lib.hid (show x∈l by rw[hx];exact List.getElem_mem _)
     have HLT:=Lib.hid (letter_v x)
     have HDG:=Lib.hid (digit_v x)
     have hcell3:wr.cell? ⟨w2.heap.size,k,none⟩=some (.int .u8 (x.toNat:Int)):=hcell2
     have hlt:=HLT.out
     have hdg:∀ W,Calls Tryz.prog 57 #[.int .u8 (x.toNat:Int)] W fun e W'=>e=.returned (.bool (dig x))∧W'=W:=HDG.out
     clear hcell hcell2 hx had hlk
     cases hlb:letB x with
     | true=>
      rw[hlb] at hlt
      have HL1:=Lib.hid hlt
      have HNX:=Lib.hid (show (l.take (k+1)).all (fun c=>letB c || dig c)=true by rw[HTK.out,List.all_append,HA.out];simp[hlb])
      clear hlt hdg hlb
      go_wp2_with (first
       |(go_at_call 58;(with_reducible refine(HL1.out _).mono ?_);rintro e w3 ⟨rfl,rfl⟩))
      go_roundw
      case rel=>exact⟨k+1,by omega,by go_num,by first | rfl | trivial,HNX.out⟩
      case measure=>simp[intOf];omega
     | false=>
      rw[hlb] at hlt
      have HL1:=Lib.hid hlt
      cases hdb:dig x with
      | true=>
       rw[hdb] at hdg
       have HD2:=Lib.hid hdg
       have HNX:=Lib.hid (show (l.take (k+1)).all (fun c=>letB c || dig c)=true by rw[HTK.out,List.all_append,HA.out];simp[hdb])
       clear hlt hdg hlb hdb
       go_wp2_with (first
        |(go_at_call 58;(with_reducible refine(HL1.out _).mono ?_);rintro e w3 ⟨rfl,rfl⟩)
        |(go_at_call 57;(with_reducible refine(HD2.out _).mono ?_);rintro e w3 ⟨rfl,rfl⟩))
       go_roundw
       case rel=>exact⟨k+1,by omega,by go_num,by first | rfl | trivial,HNX.out⟩
       case measure=>simp[intOf];omega
      | false=>
       rw[hdb] at hdg
       have HD2:=Lib.hid hdg
       have HRES:=Lib.hid (show nameB l=false by
        rw[HNB.out,Bool.eq_false_iff]
        intro h
        rw[List.all_eq_true] at h
        have:=h x HX.out
        simp[hlb,hdb] at this)
       clear hlt hdg hlb hdb
       go_wp2_with (first
        |(go_at_call 58;(with_reducible refine(HL1.out _).mono ?_);rintro e w3 ⟨rfl,rfl⟩)
        |(go_at_call 57;(with_reducible refine(HD2.out _).mono ?_);rintro e w3 ⟨rfl,rfl⟩))
       go_ret
       exact⟨ret_bool HRES.out.symm,HL2.out⟩
    ·obtain hke:k=n:=by omega
     have HRES:=Lib.hid (show nameB l=true by rw[HNB.out];have:=HA.out;rw[hke,HN.out,List.take_length] at this;exact this)
     clear hke
     go_wp2
     go_ret
     exact⟨ret_bool HRES.out.symm,HL2.out⟩
theorem may_name (c:UInt8):nameB [95,c]=nm c:=by
 unfold nameB nm
 simp[show dig 95=false by decide,show letB 95=true by decide]
theorem may_v (c:UInt8) (W:World):Calls Tryz.prog 178 #[.string (mkS [c])] W fun e W'=>e=.returned (.bool (nm c))∧Later W W':=by
 have HN:=Lib.hid (name_v [95,c] (by simp) W)
 have hs:(⟨#[95]⟩:ByteArray)++mkS [c]=mkS [95,c]:=mkS_add [95] [c]
 go_enter Tryz.func178,Tryz.ntmps178
 go_wp2_with (go_at_call 28;(try rw[hs]);(with_reducible refine HN.out.mono ?_);rintro e w1 ⟨rfl,hl⟩)
 go_ret
 exact⟨ret_bool (may_name c),hl⟩
theorem take_while {p:UInt8→Bool}:∀ (l:L) (k:Nat),k≤l.length→(l.take k).all p=true→(∀ h:k<l.length,p l[k]=false)→l.takeWhile p=l.take k
 | [],k,hk,_,_=>by simp at hk;subst hk;rfl
 | c::l,0,_,_,h=>by
  have:=h (by simp)
  simp only[List.getElem_cons_zero] at this
  simp[this]
 | c::l,k+1,hk,ha,h=>by
  simp only[List.take_succ_cons,List.all_cons,Bool.and_eq_true] at ha
  rw[List.takeWhile_cons,ha.1]
  simp only[if_true,List.take_succ_cons]
  rw[take_while l k (by simp at hk;omega) ha.2 (fun h1=>by have:=h (by simp;omega);simpa using this)]
theorem index_has (l:L) (c:UInt8):decide (0≤Lib.indexByte l c)=l.contains c:=by
 induction l with
 | nil=>rfl
 | cons b l ih=>
  have hge:=Lib.indexByte_ge l c
  unfold Lib.indexByte
  rw[List.contains_cons,←ih]
  by_cases e:b=c
  ·subst e;simp
  ·have e1:(b==c)=false:=beq_eq_false_iff_ne.2 e
   have e2:(c==b)=false:=beq_eq_false_iff_ne.2 fun e3=>e e3.symm
   rw[e1,e2]
   simp only[Bool.false_eq_true,if_false,Bool.false_or,decide_eq_decide]
   by_cases h:Lib.indexByte l c=-1
   ·rw[h];decide
   ·have:(Lib.indexByte l c==-1)=false:=beq_eq_false_iff_ne.2 h
    rw[this]
    simp only[Bool.false_eq_true,if_false]
    omega
theorem set_text (S:L) (k:Nat) (c:UInt8) (hk:k<S.length) (h:S[k]=c):(mkS S).extract k (k+1)=mkS [c]:=by
 refine sub_text S k c (S.drop (k+1)) ?_
 rw[List.drop_eq_getElem_cons hk,h]
theorem param_v (l:L) (hl:l.length≤100000) (W:World):Calls Tryz.prog 151 #[.string (mkS l)] W fun e W'=>e=.returned (.string (mkS (Wd.param l)))∧Later W W':=by
 cases l with
 | nil=>
  have he:((mkS []).toList==([]:List UInt8))=true:=by rw[toList_mkS];rfl
  go_enter Tryz.func151,Tryz.ntmps151
  go_wp2
  go_ret
  exact⟨rfl,Later.refl _⟩
 | cons c r=>
  have he:((mkS (c::r)).toList==([]:List UInt8))=false:=by rw[toList_mkS];rfl
  obtain⟨hs0,hg0⟩:=sget0 c r
  obtain⟨l,hll⟩:∃ l,l=c::r:=⟨_,rfl⟩
  have hpar:Wd.param l=if Wd.singles.contains c then [c] else l.takeWhile nm:=by rw[hll];rfl
  have h1t:l.take 1=[c]:=by rw[hll];rfl
  rw[←hll] at hl he⊢
  have hs1:(0:Int)<((mkS l).size:Int):=by rw[hll];omega
  have hs2:(1:Int)≤((mkS l).size:Int):=by omega
  have hg1:∀ h,(mkS l)[0]'h=c:=by rw[hll];exact fun _=>hg0
  have hI:∀ W,Calls Tryz.prog 70 #[.string ⟨#[48,49,50,51,52,53,54,55,56,57,63,35,64,42,45]⟩,.int .u8 (c.toNat:Int)] W fun e w'=>e=.returned (.int .i64 (Lib.indexByte Wd.singles c))∧w'=W:=fun W=>by
   have:=Tryz.strings_IndexByte (mkS Wd.singles) (c.toNat:Int) W
   rw[mkS_list,show ((c.toNat:Int)).toNat.toUInt8=c by simp] at this
   exact this
  have hix:=index_has Wd.singles c
  obtain⟨i,hi⟩:∃ i,i=Lib.indexByte Wd.singles c:=⟨_,rfl⟩
  rw[←hi] at hI hix
  have HI:=Lib.hid hI
  have HLL:=Lib.hid hll
  cases hcs:Wd.singles.contains c with
  | true=>
   rw[hcs] at hix hpar
   simp only[if_true] at hpar
   rw[hpar]
   have hi0:0≤i:=of_decide_eq_true hix
   have HX:=Lib.hid (show (mkS l).extract 0 1=mkS [c] by rw[extract_take,h1t])
   clear hI hll hix hi hcs hpar h1t
   go_enter Tryz.func151,Tryz.ntmps151
   go_wp2_with (go_at_call 70;(with_reducible refine(HI.out _).mono ?_);rintro e w1 ⟨rfl,rfl⟩)
   go_ret
   exact⟨by rw[←HX.out];rfl,Later.refl _⟩
  | false=>
   rw[hcs] at hix hpar
   simp only[Bool.false_eq_true,if_false] at hpar
   rw[hpar]
   have hi0:¬ 0≤i:=of_decide_eq_false hix
   obtain⟨n,hn⟩:∃ n,n=l.length:=⟨_,rfl⟩
   have hsz:((mkS l).size:Int)=(n:Int):=by rw[mkS_size,hn]
   rw[←hn] at hl
   have HN:=Lib.hid hn
   clear hI hll hix hi hcs hpar h1t hn
   go_enter Tryz.func151,Tryz.ntmps151
   go_wp2_with (go_at_call 70;(with_reducible refine(HI.out _).mono ?_);rintro e w1 ⟨rfl,rfl⟩)
   go_loopw [3] (fun i wr=>∃ k:Nat,k≤n∧i=.int .i64 (k:Int)∧Later w1 wr∧(l.take k).all nm=true) (fun i _=>n-(intOf i).toNat)
   case atStart=>exact⟨0,by omega,rfl,Later.refl _,rfl⟩
   case round=>
    obtain⟨k,hk,rfl,hlr,ha⟩:=hrel
    have HA:=Lib.hid ha
    have HLR:=Lib.hid hlr
    clear ha hlr
    have hk0:(0:Int)≤(k:Int):=by omega
    have hw:wrap64 ((k:Int)+1)=(k:Int)+1:=w64 _ (by omega)
    by_cases hkn:k<n
    ·have hk1:(k:Int)<(n:Int):=by omega
     have hk2:(k:Int)+1≤(n:Int):=by omega
     have hk3:(k:Int)≤(k:Int)+1:=by omega
     have hlk:k<l.length:=by have:=HN.out;omega
     obtain⟨y,hy⟩:∃ y,y=l[k]:=⟨_,rfl⟩
     have HX:=Lib.hid (show (mkS l).extract k (k+1)=mkS [y] from set_text l k y hlk hy.symm)
     have HM:=Lib.hid (may_v y wr)
     have HY:=Lib.hid hy
     have HTK:=Lib.hid (show l.take (k+1)=l.take k++[y] by rw[List.take_succ_eq_append_getElem hlk,hy])
     have hn1:((k:Int)+1).toNat=k+1:=by omega
     clear hy
     cases hm:nm y with
     | true=>
      have hmv:=HM.out
      rw[hm] at hmv
      have HM1:=Lib.hid hmv
      have HNX:=Lib.hid (show (l.take (k+1)).all nm=true by rw[HTK.out,List.all_append,HA.out];simp[hm])
      clear hmv hm
      go_wp2_with (go_at_call 178;(try rw[hn1]);(try rw[HX.out]);(with_reducible refine HM1.out.mono ?_);rintro e w2 ⟨rfl,hl2⟩)
      go_roundw
      case rel=>exact⟨k+1,by omega,by go_num,HLR.out.trans hl2,HNX.out⟩
      case measure=>simp[intOf];omega
     | false=>
      have hmv:=HM.out
      rw[hm] at hmv
      have HM1:=Lib.hid hmv
      have HRES:=Lib.hid (show l.takeWhile nm=l.take k from take_while l k (by omega) HA.out fun h=>by rw[←HY.out];exact hm)
      clear hmv hm
      go_wp2_with (go_at_call 178;(try rw[hn1]);(try rw[HX.out]);(with_reducible refine HM1.out.mono ?_);rintro e w2 ⟨rfl,hl2⟩)
      go_ret
      refine⟨?_,HLR.out.trans hl2⟩
      rw[HRES.out,←extract_take]
      rfl
    ·have hke:k=n:=by omega
     have hk1:¬ (k:Int)<(n:Int):=by omega
     have hk2:(k:Int)≤(n:Int):=by omega
     have HRES:=Lib.hid (show l.takeWhile nm=l.take k from take_while l k (by have:=HN.out;omega) HA.out fun h=>by have:=HN.out;omega)
     clear hke
     go_wp2
     go_ret
     refine⟨?_,HLR.out⟩
     rw[HRES.out,←extract_take]
     rfl
theorem drop_while {p:UInt8→Bool} (l:L):l.length-(l.dropWhile p).length=(l.takeWhile p).length:=by
 have:=congrArg List.length (List.takeWhile_append_dropWhile (p:=p) (l:=l))
 rw[List.length_append] at this
 omega
theorem digits_v (l:L) (hl:l.length≤100000) (W:World):Calls Tryz.prog 229 #[.string (mkS l)] W fun e W'=>e=.returned (.string (mkS (Wd.digits l)))∧Later W W':=by
 obtain⟨d,hd⟩:∃ d,d=l.dropWhile (Wd.tens.contains ·):=⟨_,rfl⟩
 have hall:∀ b∈Wd.tens,b.toNat<128:=by decide
 have hT:∀ W,Calls Tryz.prog 207 #[.string (mkS l),.string ⟨#[48,49,50,51,52,53,54,55,56,57]⟩] W fun e w'=>e=.returned (.string (mkS d))∧Below W.heap.size W w':=fun W=>by
  have:=Tryz.strings_TrimLeft (mkS l) (mkS Wd.tens) W (by rw[mkS_size];decide) (fun j b hb=>by
   rw[mkS_list] at hb
   exact hall b (List.mem_of_getElem? hb))
  rw[mkS_list,mkS_list] at this
  rw[hd]
  exact this
 have h1:l.length-d.length=(Wd.digits l).length:=by rw[hd];exact drop_while l
 have h2:d.length≤l.length:=by rw[hd];exact(List.dropWhile_suffix _).length_le
 have hs1:(mkS l).size=l.length:=mkS_size l
 have hs2:(mkS d).size=d.length:=mkS_size d
 obtain⟨m,hm⟩:∃ m,m=(Wd.digits l).length:=⟨_,rfl⟩
 have h3:l.take m=Wd.digits l:=by
  rw[hm];unfold Wd.digits
  conv=>lhs;rw[←List.takeWhile_append_dropWhile (p:=(Wd.tens.contains ·)) (l:=l)]
  rw[List.takeWhile_append_dropWhile]
  conv=>lhs;arg 2;rw[←List.takeWhile_append_dropWhile (p:=(Wd.tens.contains ·)) (l:=l)]
  exact List.take_left
 have hw:wrap64 (((mkS l).size:Int)-((mkS d).size:Int))=(m:Int):=by rw[w64 _ (by omega)];omega
 have hp0:(0:Int)≤(m:Int):=by omega
 have hp1:(m:Int)≤((mkS l).size:Int):=by omega
 have HX:=Lib.hid ((extract_take l m).trans (by rw[h3]))
 have HT:=Lib.hid hT
 clear hT h1 h2 h3 hs1 hs2 hm hd
 go_enter Tryz.func229,Tryz.ntmps229
 go_wp2_with (go_at_call 207;(with_reducible refine(HT.out _).mono ?_);rintro e w1 ⟨rfl,hl1⟩)
 go_ret
 exact⟨by rw[←HX.out];rfl,hl1⟩
end Ws
end Go.Proofs.YtipdgmjplnibeaaGreatDoor
