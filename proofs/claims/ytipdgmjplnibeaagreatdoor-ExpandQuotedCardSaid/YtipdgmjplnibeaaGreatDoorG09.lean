import Derived.Test.YtipdgmjplnibeaaGreatDoorG07
import Derived.Test.YtipdgmjplnibeaaGreatDoorG05
import Derived.BigQuiet
import Derived.Test.YtipdgmjplnibeaaGreatDoorG00
import Derived.Test.YtipdgmjplnibeaaGreatDoorG01
import Derived.Test.YtipdgmjplnibeaaGreatDoorG02
import Derived.Test.YtipdgmjplnibeaaGreatDoorHb
import Derived.RangeFuncBox
import Derived.RangeFuncRecord
import Derived.RangeFuncCalls
import Derived.WalkKit
set_option maxRecDepth 100000
set_option maxHeartbeats 1600000
namespace Go.Proofs.YtipdgmjplnibeaaGreatDoor
open Go.RowKit Go.Maps
namespace Ar
def letB (c:UInt8):Bool:=(decide (97≤c) && decide (c≤122)) || (decide (65≤c) && decide (c≤90)) || c==95
def dig (c:UInt8):Bool:=decide (48≤c) && decide (c≤57)
def nm (c:UInt8):Bool:=letB c || dig c
def nameB (l:L):Bool:=match l with
 | []=>false
 | c::_=>!dig c && l.all fun c=>letB c || dig c
theorem byte_le (a c:UInt8):decide (a≤c)=decide ((a.toNat:Int)≤(c.toNat:Int)):=by rw[decide_eq_decide,UInt8.le_iff_toNat_le];omega
theorem letter_v (c:UInt8) (W:World):Calls Tryz.prog 58 #[.int .u8 (c.toNat:Int)] W fun e W'=>e=.returned (.bool (letB c))∧W'=W:=by
 have hb:letB c=((decide ((97:Int)≤(c.toNat:Int)) && decide ((c.toNat:Int)≤122)) || (decide ((65:Int)≤(c.toNat:Int)) && decide ((c.toNat:Int)≤90)) || decide ((c.toNat:Int)=95)):=by
  unfold letB
  rw[byte_le,byte_le,byte_le,byte_le]
  have:(c==95)=decide ((c.toNat:Int)=95):=by
   rw[Bool.eq_iff_iff,beq_iff_eq,decide_eq_true_iff]
   exact⟨fun h=>by rw[h];rfl,fun h=>UInt8.toNat_inj.1 (by have:(95:UInt8).toNat=95:=rfl;omega)⟩
  rw[this]
  rfl
 rw[hb]
 obtain⟨x,hx⟩:∃ x:Nat,x=c.toNat:=⟨_,rfl⟩
 rw[←hx]
 clear hx hb
 by_cases h1:(97:Int)≤(x:Int)
 ·by_cases h2:(x:Int)≤122
  ·go_enter Tryz.func58,Tryz.ntmps58
   go_wp2
   go_ret
   exact⟨ret_bool (by simp <;> omega),rfl⟩
  ·have h3:(65:Int)≤(x:Int):=by omega
   have h4:¬ (x:Int)≤90:=by omega
   have h5:((x:Int)==95)=false:=by simp;omega
   go_enter Tryz.func58,Tryz.ntmps58
   go_wp2
   go_ret
   exact⟨ret_bool (by simp <;> omega),rfl⟩
 ·by_cases h3:(65:Int)≤(x:Int)
  ·by_cases h4:(x:Int)≤90
   ·go_enter Tryz.func58,Tryz.ntmps58
    go_wp2
    go_ret
    exact⟨ret_bool (by simp <;> omega),rfl⟩
   ·by_cases h6:x=95
    ·subst h6
     go_enter Tryz.func58,Tryz.ntmps58
     go_wp2
     go_ret
     exact⟨ret_bool (by simp),rfl⟩
    ·have h5:((x:Int)==95)=false:=by simp;omega
     go_enter Tryz.func58,Tryz.ntmps58
     go_wp2
     go_ret
     exact⟨ret_bool (by simp <;> omega),rfl⟩
  ·have h5:((x:Int)==95)=false:=by simp;omega
   go_enter Tryz.func58,Tryz.ntmps58
   go_wp2
   go_ret
   exact⟨ret_bool (by simp <;> omega),rfl⟩
theorem digit_v (c:UInt8) (W:World):Calls Tryz.prog 57 #[.int .u8 (c.toNat:Int)] W fun e W'=>e=.returned (.bool (decide (48≤c) && decide (c≤57)))∧W'=W:=by
 have e1:decide (48≤c)=decide (48≤(c.toNat:Int)):=by rw[decide_eq_decide,UInt8.le_iff_toNat_le];simp;omega
 have e2:decide (c≤57)=decide ((c.toNat:Int)≤57):=by rw[decide_eq_decide,UInt8.le_iff_toNat_le];simp;omega
 rw[e1,e2]
 obtain⟨x,hx⟩:∃ x:Nat,x=c.toNat:=⟨_,rfl⟩
 rw[←hx]
 clear hx e1 e2
 by_cases h1:(48:Int)≤(x:Int) <;> by_cases h2:(x:Int)≤57
 all_goals
  go_enter Tryz.func57,Tryz.ntmps57
  go_wp2
  go_ret
  exact⟨ret_bool (by simp[h1,h2];try omega),rfl⟩
theorem conv_str (W:World) (t:List UInt8) (N:Nat) (hN:N=W.heap.size):∃ c W',(convert 9 81 (.string (mkS t))).run Tryz.prog W=.ok (.slice (some ⟨N,0,none⟩) t.length c) W'∧Later W W'∧Rd W' W'.heap.size (some ⟨N,0,none⟩) t.length (t.map bv):=by
 subst hN
 have h:=run_bytes_of_string W 9 81 5 (mkS t) Tryz.underlying9 Tryz.underlying81 Tryz.underlying5
 rw[mkS_size] at h
 refine⟨_,_,h,Later.trans (Later.drew W) (Later.alloc _ _),by simp,fun h0=>⟨_,rfl,by simp,fun j u hu=>?_⟩⟩
 rw[add_lit0]
 have hz:W.drew.heap.size=W.heap.size:=rfl
 rw[←hz]
 rw[cell_of_row _ _ j _ _ _ (heap_alloc_new W.drew _)]
 rw[List.getElem?_map] at hu
 by_cases hj:j<t.length
 ·rw[List.getElem?_eq_getElem hj] at hu
  simp at hu
  subst hu
  unfold bytesRow
  rw[Array.getElem?_append_left (by simp[mkS];omega)]
  simp[mkS,hj,bv]
 ·rw[List.getElem?_eq_none (by omega)] at hu
  cases hu
theorem sget0 (c:UInt8) (r:L):∃ h:0<(mkS (c::r)).size,(mkS (c::r))[0]'h=c:=⟨by rw[mkS_size];simp,rfl⟩
theorem name_v (l:L) (hl:l.length≤2000000) (W:World):Calls Tryz.prog 28 #[.string (mkS l)] W fun e W'=>e=.returned (.bool (nameB l))∧Later W W':=by
 cases l with
 | nil=>
  have he:((mkS []).toList==([]:List UInt8))=true:=by rw[toList_mkS];rfl
  go_enter Tryz.func28,Tryz.ntmps28
  go_wp2
  go_ret
  exact⟨rfl,Later.refl _⟩
 | cons c r=>
  have he:((mkS (c::r)).toList==([]:List UInt8))=false:=by rw[toList_mkS];rfl
  obtain⟨hs0,hg0⟩:=sget0 c r
  obtain⟨l,hll⟩:∃ l,l=c::r:=⟨_,rfl⟩
  rw[←hll] at hl he⊢
  have hs1:(0:Int)<((mkS l).size:Int):=by rw[hll];omega
  have hg1:∀ h,(mkS l)[0]'h=c:=by rw[hll];exact fun _=>hg0
  have HD:=Lib.hid (digit_v c)
  have HLL:=Lib.hid hll
  by_cases hd:dig c=true
  ·have hd1:=HD.out
   rw[show (decide (48≤c) && decide (c≤57))=true from hd] at hd1
   have HD1:=Lib.hid hd1
   have HNB:=Lib.hid (show nameB l=false by rw[hll];unfold nameB;simp only[hd];rfl)
   clear hd1 hll
   go_enter Tryz.func28,Tryz.ntmps28
   go_wp2_with (first
    |(go_at_call 57;(with_reducible refine(HD1.out _).mono ?_);rintro e w2 ⟨rfl,rfl⟩))
   go_ret
   exact⟨ret_bool HNB.out.symm,Later.refl _⟩
  ·have hdf:dig c=false:=by simpa using hd
   have hd1:=HD.out
   rw[show (decide (48≤c) && decide (c≤57))=false from hdf] at hd1
   have HD1:=Lib.hid hd1
   have HNB:=Lib.hid (show nameB l=l.all fun c=>letB c || dig c by rw[hll];unfold nameB;simp only[hdf];rfl)
   obtain⟨cp,W2,hcv,hl2,hr2⟩:=conv_str W l W.heap.size rfl
   obtain⟨n,hn⟩:∃ n,n=l.length:=⟨_,rfl⟩
   rw[←hn] at hcv hr2 hl
   have HL2:=Lib.hid hl2
   have HR:=Lib.hid hr2
   have HN:=Lib.hid hn
   clear hl2 hr2 hn hd1 hll
   go_enter Tryz.func28,Tryz.ntmps28
   go_wp2_with (first
    |(go_at_call 57;(with_reducible refine(HD1.out _).mono ?_);rintro e w2 ⟨rfl,hw⟩;subst hw))
   go_loopw [15] (fun i wr=>∃ k:Nat,k≤n∧i=.int .i64 (k:Int)∧wr=W2∧(l.take k).all (fun c=>letB c || dig c)=true) (fun i _=>n-(intOf i).toNat)
   case atStart=>exact⟨0,by omega,rfl,rfl,rfl⟩
   case round=>
    obtain⟨k,hk,rfl,hw,ha⟩:=hrel
    subst hw
    have HA:=Lib.hid ha
    clear ha
    by_cases hkn:k<n
    ·obtain⟨ad,hlk,had,_,hcell⟩:=HR.out.byte hkn
     obtain⟨x,hx⟩:∃ x,x=l[k]:=⟨_,rfl⟩
     rw[←hx] at hcell
     injection had with had
     have hcell2:=hcell
     rw[←had,add_lit0] at hcell2
     have hk0:(0:Int)≤(k:Int):=by omega
     have hk1:(k:Int)<(n:Int):=by omega
     have HTK:=Lib.hid (show l.take (k+1)=l.take k++[x] by rw[List.take_succ_eq_append_getElem hlk,hx])
     have HX:=Lib.hid (show x∈l by rw[hx];exact List.getElem_mem _)
     have HLT:=Lib.hid (letter_v x)
     have HDG:=Lib.hid (digit_v x)
     have hcell3:wr.cell? ⟨w2.heap.size,k,none⟩=some (.int .u8 (x.toNat:Int)):=hcell2
     have hlt:=HLT.out
     have hdg:∀ W,Calls Tryz.prog 57 #[.int .u8 (x.toNat:Int)] W fun e W'=>e=.returned (.bool (dig x))∧W'=W:=HDG.out
     clear hcell hcell2 hx had hlk
     cases hlb:letB x with
     | true=>
      rw[hlb] at hlt
      have HL1:=Lib.hid hlt
      have HNX:=Lib.hid (show (l.take (k+1)).all (fun c=>letB c || dig c)=true by rw[HTK.out,List.all_append,HA.out];simp[hlb])
      clear hlt hdg hlb
      go_wp2_with (first
       |(go_at_call 58;(with_reducible refine(HL1.out _).mono ?_);rintro e w3 ⟨rfl,rfl⟩))
      go_roundw
      case rel=>exact⟨k+1,by omega,by go_num,by first | rfl | trivial,HNX.out⟩
      case measure=>simp[intOf];omega
     | false=>
      rw[hlb] at hlt
      have HL1:=Lib.hid hlt
      cases hdb:dig x with
      | true=>
       rw[hdb] at hdg
       have HD2:=Lib.hid hdg
       have HNX:=Lib.hid (show (l.take (k+1)).all (fun c=>letB c || dig c)=true by rw[HTK.out,List.all_append,HA.out];simp[hdb])
       clear hlt hdg hlb hdb
       go_wp2_with (first
        |(go_at_call 58;(with_reducible refine(HL1.out _).mono ?_);rintro e w3 ⟨rfl,rfl⟩)
        |(go_at_call 57;(with_reducible refine(HD2.out _).mono ?_);rintro e w3 ⟨rfl,rfl⟩))
       go_roundw
       case rel=>exact⟨k+1,by omega,by go_num,by first | rfl | trivial,HNX.out⟩
       case measure=>simp[intOf];omega
      | false=>
       rw[hdb] at hdg
       have HD2:=Lib.hid hdg
       have HRES:=Lib.hid (show nameB l=false by
        rw[HNB.out,Bool.eq_false_iff]
        intro h
        rw[List.all_eq_true] at h
        have:=h x HX.out
        simp[hlb,hdb] at this)
       clear hlt hdg hlb hdb
       go_wp2_with (first
        |(go_at_call 58;(with_reducible refine(HL1.out _).mono ?_);rintro e w3 ⟨rfl,rfl⟩)
        |(go_at_call 57;(with_reducible refine(HD2.out _).mono ?_);rintro e w3 ⟨rfl,rfl⟩))
       go_ret
       exact⟨ret_bool HRES.out.symm,HL2.out⟩
    ·obtain hke:k=n:=by omega
     have HRES:=Lib.hid (show nameB l=true by rw[HNB.out];have:=HA.out;rw[hke,HN.out,List.take_length] at this;exact this)
     clear hke
     go_wp2
     go_ret
     exact⟨ret_bool HRES.out.symm,HL2.out⟩
theorem may_name (c:UInt8):nameB [95,c]=nm c:=by
 unfold nameB nm
 simp[show dig 95=false by decide,show letB 95=true by decide]
theorem may_v (c:UInt8) (W:World):Calls Tryz.prog 236 #[.string (mkS [c])] W fun e W'=>e=.returned (.bool (nm c))∧Later W W':=by
 have HN:=Lib.hid (name_v [95,c] (by simp) W)
 have hs:(⟨#[95]⟩:ByteArray)++mkS [c]=mkS [95,c]:=mkS_add [95] [c]
 go_enter Tryz.func236,Tryz.ntmps236
 go_wp2_with (go_at_call 28;(try rw[hs]);(with_reducible refine HN.out.mono ?_);rintro e w1 ⟨rfl,hl⟩)
 go_ret
 exact⟨ret_bool (may_name c),hl⟩
end Ar
end Go.Proofs.YtipdgmjplnibeaaGreatDoor
namespace Go.Proofs.YtipdgmjplnibeaaGreatDoor
namespace Ex
open En (E)
abbrev B:=List UInt8
abbrev Rw:=Jo.Rw
abbrev P:=Wd.P
inductive Res where
 | ok (r:Rw) (e:E)
 | bad (n:Nat) (t:B)
 | big
def Sm (e:E):Bool:=decide (e.vars.length≤1000) && e.vars.all (fun p=>decide (p.2.length≤100000)) && decide (e.args.length≤1000) && e.args.all (fun x=>decide (x.length≤100000)) && decide (e.status≤1000000) && decide (e.flags.length≤1000)
def pt (t:B) (c:UInt8):Rw:=if t=[]∧c=113 then [(0,101)] else t.map fun x=>(x,c)
def lt (q:Bool):UInt8:=if q=true then 113 else 115
def ptR (t:B) (c:UInt8) (e:E):Res:=if t.length≤100000 then .ok (pt t c) e else .big
def solid (r:Rw):Rw:=r.filter fun y=>!(y.2==101)
def flat (r:Rw):B:=(solid r).map (·.1)
def LEN:B:=[108,101,110]
def HOME:B:=[72,79,77,69]
def without:B:=[45,61,63,43]
def need (p:P):Bool:=!(decide (p.t=[64]) || decide (p.t=[42])) && !(p.o.any fun x=>without.contains x)
def parted (p:P):Bool:=decide (p.o=[]) && (decide (p.t=[64]) || (decide (p.t=[42]) && !p.q))
def args (c:UInt8):List B→Rw
 | []=>[]
 | x::l=>pt x c++l.flatMap fun y=>(32,98)::pt y c
def noLit (r:Rw):Bool:=r.all fun y=>!(y.2==108)
def Res.then (x:Res) (f:Rw→E→Res):Res:=match x with
 | .ok r e=>f r e
 | .bad n t=>.bad n t
 | .big=>.big
def parF (row:E→List P→Res) (e:E) (p:P):Res:=
 if parted p=true then (if (args (lt p.q) e.args).length≤100000 then .ok (args (lt p.q) e.args) e else .big)
 else if (En.get Ar.nameB e p.t).2=false∧need p=true then (if e.flags.contains 117=true then .bad 23 p.t else .big)
 else if p.o=LEN then .big
 else if Pm.does p.o (En.get Ar.nameB e p.t).1 (En.get Ar.nameB e p.t).2=1 then
  (if Pm.trims p.o=true∨(En.get Ar.nameB e p.t).2=false then .big else ptR (En.get Ar.nameB e p.t).1 (lt p.q) e)
 else if Pm.does p.o (En.get Ar.nameB e p.t).1 (En.get Ar.nameB e p.t).2=2 then
  (row e p.w).then fun r e'=>if p.q=true then ptR (flat r) 113 e' else if noLit r=true then .ok r e' else .big
 else if Pm.does p.o (En.get Ar.nameB e p.t).1 (En.get Ar.nameB e p.t).2=3 then
  (if Ar.nameB p.t=true then (row e p.w).then fun r e'=>if Sm (En.set Ar.nameB e' p.t (flat r))=true then ptR (flat r) (lt p.q) (En.set Ar.nameB e' p.t (flat r)) else .big else .big)
 else if Pm.does p.o (En.get Ar.nameB e p.t).1 (En.get Ar.nameB e p.t).2=4 then .bad 23 p.t
 else ptR [] (lt p.q) e
def partF (row:E→List P→Res) (e:E) (p:P):Res:=
 if p.t.length≤100000∧p.o.length≤100000∧(p.o.all fun x=>decide (x.toNat<128))=true then
  if p.k=1 then .ok (pt p.t 108) e
  else if p.k=2 then .ok (pt p.t 113) e
  else if p.k=3 then parF row e p
  else if p.k=5 then (if (En.get Ar.nameB e HOME).2=true then ptR (En.get Ar.nameB e HOME).1 113 e else .ok (pt [126] 108) e)
  else .big
 else .big
def rowF (part:E→P→Res):E→List P→Rw→Res
 | e,[],r=>.ok r e
 | e,p::l,r=>(part e p).then fun r' e'=>if (r++r').length≤100000 then rowF part e' l (r++r') else .big
def rowD:Nat→E→List P→Res
 | 0,_,_=>.big
 | d+1,e,l=>if l.length≤1000 then rowF (partF (rowD d)) e l [] else .big
def told (e:E) (raw:B) (y:List P×Nat):Res:=if y.2≠0 then .bad y.2 raw else rowD 10 e y.1
def word (e:E) (raw:B):Res:=told e raw (Wd.parse raw)
end Ex
end Go.Proofs.YtipdgmjplnibeaaGreatDoor
namespace Go.Proofs.YtipdgmjplnibeaaGreatDoor
open Go.RowKit
section
variable {P:Program} {ops:Array Oper} {Q:Exit→Act→World→Prop} {a0:Act} {C:List Bool→World→Prop} {R:Nat→Value→World→Prop}
def setAt (ps:List Nat) (i:Nat) (bits:List Bool):List Bool:=match idx ps i with
 | some k=>bits.set k true
 | none=>bits
def OwesB (P:Program) (ops:Array Oper) (Q:Exit→Act→World→Prop) (C:List Bool→World→Prop) (ps:List Nat) (R:Nat→Value→World→Prop) (a0:Act) (i:Nat) (o:Oper):Prop:=
 ∀ (a:Act) (w:World) (bits:List Bool),C bits w→(∀ (k p:Nat),ps[k]?=some p→depOn ops i p=true→bits[k]?=some true)→(∀ (k p:Nat),ps[k]?=some p→(p=i∨depOn ops p i=true)→bits[k]?=some false)→Sees ops a0 R o a w →
  Region.wanted o (yielded ops a.tmps)=true∧∀ K:Act→World→Prop,(∀ v w',R i (if o.dst.isSome then v else undef) w'→C (setAt ps i bits) w'→K (a.put o.dst v) w')→Oper.wp P o a w K Q
theorem OwesB.q {ps:List Nat} {i:Nat} {o:Oper} (hi:idx ps i=none) (h:∀ (a:Act) (w:World) (bits:List Bool),C bits w→(∀ (k p:Nat),ps[k]?=some p→depOn ops i p=true→bits[k]?=some true)→(∀ (k p:Nat),ps[k]?=some p→(p=i∨depOn ops p i=true)→bits[k]?=some false)→Sees ops a0 R o a w →
  Region.wanted o (yielded ops a.tmps)=true∧ValWp P o a.eval w fun v w'=>R i (if o.dst.isSome then v else undef) w'∧w'=w):OwesB P ops Q C ps R a0 i o:=fun a w bits hC hd hu hs=>by
 obtain⟨h1,h2⟩:=h a w bits hC hd hu hs
 refine⟨h1,fun K hK=>wp_of_val (h2.mono fun v w' hk=>hK v w' hk.1 ?_)⟩
 obtain⟨_,rfl⟩:=hk
 unfold setAt
 rw[hi]
 exact hC
def OwesAllB (P:Program) (ops:Array Oper) (Q:Exit→Act→World→Prop) (C:List Bool→World→Prop) (ps:List Nat) (R:Nat→Value→World→Prop) (a0:Act):Nat→List Oper→Prop
 | _,[]=>True
 | n,o::l=>OwesB P ops Q C ps R a0 n o∧OwesAllB P ops Q C ps R a0 (n+1) l
theorem owesAllB_at {ps:List Nat}:∀ (l:List Oper) (n i:Nat) (o:Oper),OwesAllB P ops Q C ps R a0 n l→l[i]?=some o→OwesB P ops Q C ps R a0 (n+i) o
 | [],_,i,o,_,h=>by simp at h
 | x::l,n,0,o,h,ho=>by simp at ho;subst ho;exact h.1
 | x::l,n,i+1,o,h,ho=>by
  have:=owesAllB_at l (n+1) i o h.2 (by simpa using ho)
  rwa[show n+1+i=n+(i+1) by omega] at this
structure PhaseB (ops:Array Oper) (ps:List Nat) (C:List Bool→World→Prop) (listed:Array Bool) (w:World):Prop where
 c:C (ps.map fun p=>listed.getD p false) w
 dep:∀ p,listed.getD p false=true→∀ i,depOn ops p i=true→listed.getD i false=true
theorem bits_set {ps:List Nat} (hnd:ps.Nodup) {listed:Array Bool} {i:Nat} (hi:i<listed.size):(ps.map fun p=>(listed.setIfInBounds i true).getD p false)=setAt ps i (ps.map fun p=>listed.getD p false):=by
 unfold setAt
 cases e:idx ps i with
 | none=>
  refine List.map_congr_left fun p hp=>?_
  obtain⟨k,hk⟩:=List.mem_iff_getElem?.1 hp
  exact getD_set_ne fun e2=>idx_none e k (by rw[hk,e2])
 | some k=>
  have h1:=idx_some e
  have hk:=(List.getElem?_eq_some_iff.1 h1).1
  refine List.ext_getElem? fun j=>?_
  by_cases hj:j=k
  ·subst hj
   rw[List.getElem?_map,h1,List.getElem?_set_self (by simpa using hk)]
   simp only[Option.map_some]
   rw[getD_set_same hi]
  ·rw[List.getElem?_set_ne (fun e2=>hj e2.symm),List.getElem?_map,List.getElem?_map]
   cases e3:ps[j]? with
   | none=>rfl
   | some p=>
    simp only[Option.map_some]
    rw[getD_set_ne fun e2=>hj (nodup_at hnd e3 (by rw[←e2];exact h1))]
theorem wp_region_bits {id:Nat} {w:World} {l:List Oper} (hm:P.follows .mixedOrders=true) (ps:List Nat) (C:List Bool→World→Prop) (rv:List (Option Value)) (hps:∀ p∈ps,p<l.length) (hnd:ps.Nodup) (hok:softB l.toArray a0.tmps.size=true)
  (hC:C (ps.map fun _=>false) w.drew) (hstep:OwesAllB P l.toArray Q C ps (RV rv) a0 0 l)
  (hQ:∀ a w,C (ps.map fun _=>true) w→a.defers=a0.defers→a.tmps.size=a0.tmps.size→(∀ t,freeTmp l.toArray t=true→a.tmps.getD t undef=a0.tmps.getD t undef)→(∀ (i:Nat) o,l[i]?=some o→RV rv i (slotOf o.dst a) w)→Q .normal a w) :
  (Code.region id l.toArray true).wp P Q a0 w:=by
 have hmono:∀ i v w w',(fun _ _=>True:World→World→Prop) w w'→RV rv i v w→RV rv i v w':=fun i v w w' _ h=>h
 have hso:=SoftOk.of hok
 refine wp_region_any hm (wpAny_softA (C:=fun listed _ w=>PhaseB l.toArray ps C listed w) (R:=RV rv) (G:=fun _ _=>True) hso hmono (fun i o ho listed a w hsz hun hdeps hc hsize hsee K hK=>?_)
  (fun listed a w hall hc h=>?_) l.toArray.size (Array.replicate l.toArray.size false) a0 w.drew ?_ ?_ ⟨by simp,rfl,rfl,fun _ _=>rfl,fun i o ho hl=>?_⟩)
 ·have hil:i<listed.size:=by rw[hsz];exact(Array.getElem?_eq_some_iff.1 ho).1
  have hf:listed.getD i false=false:=by simp[hil] at hun⊢;exact hun
  have hw:=owesAllB_at l 0 i o hstep (by simpa using ho)
  rw[Nat.zero_add] at hw
  have hdl:=fun d hd=>deps_listed ho hdeps d hd
  obtain⟨hw1,hw2⟩:=hw a w _ hc.c (fun k p hk hd=>by rw[List.getElem?_map,hk];simp only[Option.map_some];rw[hdl p hd]) (fun k p hk hd=>by
   rw[List.getElem?_map,hk]
   simp only[Option.map_some]
   rcases hd with rfl | hd
   ·rw[hf]
   ·cases e:listed.getD p false with
    | false=>rfl
    | true=>rw[hc.dep p e i hd] at hf;cases hf) hsee
  rw[if_pos hw1]
  refine hw2 K fun v w' hR hC'=>hK v w' hR ⟨by rw[bits_set hnd hil];exact hC',fun p hp d hd=>?_⟩ trivial
  by_cases hpi:i=p
  ·subst hpi
   exact listed_more hil (hdl d hd)
  ·rw[getD_set_ne hpi] at hp
   exact listed_more hil (hc.dep p hp d hd)
 ·refine hQ a w ?_ h.defers h.size (fun t ht=>h.outer t fun j oj' hj _ hd=>?_) fun i o ho=>h.inner i o (by simpa using ho) (by have:=(List.getElem?_eq_some_iff.1 ho).1;simp[this])
  ·have:=hc.c
   rwa[List.map_congr_left (g:=fun _=>true) fun p hp=>hall p (by simpa using hps p hp)] at this
  unfold freeTmp at ht
  rw[List.all_eq_true] at ht
  have:=ht oj' (Array.mem_toList_iff.2 (Array.mem_of_getElem? hj))
  simp[hd] at this
 ·unfold open_;exact Nat.le_trans List.countP_le_length (by simp)
 ·have hz:∀ p:Nat,(Array.replicate l.toArray.size false).getD p false=false:=fun p=>by by_cases hp:p<l.length <;> simp[hp]
  refine⟨?_,fun p hp=>by rw[hz] at hp;cases hp⟩
  rwa[List.map_congr_left (g:=fun _=>false) fun p _=>hz p]
 ·exfalso
  have hi:=(Array.getElem?_eq_some_iff.1 ho).1
  rw[List.size_toArray] at hi
  simp[hi] at hl
end
end Go.Proofs.YtipdgmjplnibeaaGreatDoor
namespace Go.Proofs.YtipdgmjplnibeaaGreatDoor
open Go.RowKit
structure Rng where
 D:Nat
 fn:FuncId
 tmps:Array Value
 ps:Array Tmp
 assign:Code
 body:Code
def Rng.record (r:Rng) (st:LoopState) (pe:Option Code):Loop:={ state:=st,pending:=pe,fn:=r.fn,tmps:=r.tmps,params:=r.ps,assign:=r.assign,body:=r.body,defers:=r.D }
def Rng.At (r:Rng) (st:LoopState) (pe:Option Code) (w:World):Prop:=w.heap[r.D+1]?=some (.loop (r.record st pe))∧w.heap[r.D]?=some (.deferred (some []))
def Rng.Turn (r:Rng) (w w':World):Prop:=(∃ x y,r.At x y w)∧∃ o,w'=w.putObj (r.D+1) o
section
variable {r:Rng} {w w':World}
theorem Rng.Turn.grown (h:r.Turn w w'):w.grownBy w' (some (r.D+1)):=by
 obtain⟨_,o,rfl⟩:=h
 exact grownBy_putObj' w _ o
theorem Rng.Turn.size (h:r.Turn w w'):w'.heap.size=w.heap.size:=by
 obtain⟨_,o,rfl⟩:=h
 exact World.putObj_size
theorem Rng.Turn.below {B:Nat} (h:r.Turn w w') (hB:B≤r.D+1) (hw:B≤w.heap.size):Below B w w':=(Below.refl B w).grown h.grown hw fun k e=>by cases e;exact hB
theorem Rng.Turn.boxed {B:Nat} {t:TypeId} {v:Value} (h:r.Turn w w') (hb:Boxed w B t v):Boxed w' B t v:=by
 refine hb.kept h.grown fun e=>?_
 obtain⟨⟨x,y,hl,_⟩,_⟩:=h
 cases e
 rw[show w.heap[r.D+1]?=_ from hb] at hl
 cases hl
theorem Rng.Turn.own {base n size:Nat} {e:TypeId} {v:Value} {xs:List Value} (h:r.Turn w w') (ho:w.ownsRow base e size v n xs):w'.ownsRow base e size v n xs:=by
 obtain⟨⟨x,y,hl,_⟩,o,rfl⟩:=h
 exact ownsRow_putObj ho o hl rfl
theorem Rng.At.lt {x:LoopState} {y:Option Code} (h:r.At x y w):r.D+1<w.heap.size:=(Array.getElem?_eq_some_iff.1 h.1).1
theorem Rng.At.keep {x:LoopState} {y:Option Code} (h:r.At x y w) (hk:KeepsOthers w w'):r.At x y w':=⟨hk.same _ _ h.1 rfl,hk.same _ _ h.2 rfl⟩
theorem Rng.At.turn {x x':LoopState} {y y':Option Code} (h:r.At x y w):r.At x' y' (w.putObj (r.D+1) (.loop (r.record x' y'))):=⟨World.putObj_heap_same h.lt,(World.putObj_heap_other (by omega)).trans h.2⟩
end
theorem others_of_below {w w':World} (h:Below w.heap.size w w'):KeepsOthers w w':=⟨h.size,fun k _ hk _=>(h.block k (Array.getElem?_eq_some_iff.1 hk).1).trans hk⟩
variable {F:Fence} {n:Nat} {P:Program}
def Rng.out (r:Rng) (R:Ending→World→Prop):Exit→Act→World→Prop
 | .normal,_,w=>r.At .busy none w∧∀ w',r.Turn w w'→r.At .ready none w'→R (.returned (.bool true)) w'
 | .ret,_,w=>r.At .busy none w∧∀ w',r.Turn w w'→r.At .done (some .ret) w'→R (.returned (.bool false)) w'
 | .exit id,_,w=>r.At .busy none w∧∀ w',r.Turn w w'→r.At .done (some (.exit id)) w'→R (.returned (.bool false)) w'
 | _,_,_=>False
theorem Rng.yield {r:Rng} {args:Array Value} {W:World} {R:Ending→World→Prop} (h:r.At .ready none W) (hF:F.fn r.fn) (hs:args.size=r.ps.size)
  (hw:r.assign.wpIn (F.inRound (r.D+1)) n P (Exit.then (fun a' Wa=>r.At .ready none Wa∧∀ W2,r.Turn Wa W2→r.At .busy none W2→r.body.wpIn (F.inRound (r.D+1)) n P (r.out R) a' W2) (fun _ _ _=>False))
   { tmps:=(r.ps.zip args).foldl (fun t (p,v)=>t.setIfInBounds p v) r.tmps,defers:=[] } W):YieldAt F n P (r.D+1) args W R:=by
 refine⟨r.fn,_,r.assign,r.body,run_yield h.1 hs,roundIn_of_wpIn hF (wpIn_mono hw ?_)⟩
 intro e a' Wa he
 cases e with
 | normal=>
  obtain⟨hat,hb⟩:=he
  refine⟨_,run_beginRound hat.1 rfl,wpIn_mono (hb _ ⟨⟨_,_,hat⟩,_,rfl⟩ (hat.turn (x':=.busy) (y':=none))) ?_⟩
  intro e a3 W3 he
  have fin:∀ (j:Option Code),r.At .busy none W3→(Instr.endRound (r.D+1) j).run P W3=.ok (.bool j.isNone) (W3.putObj (r.D+1) (.loop (r.record (if j.isNone then .ready else .done) j))):=fun j hb3=>run_endRound j hb3.1
  cases e with
  | normal=>exact⟨_,_,fin none he.1,he.2 _ ⟨⟨_,_,he.1⟩,_,rfl⟩ he.1.turn⟩
  | ret=>exact⟨_,_,fin (some .ret) he.1,he.2 _ ⟨⟨_,_,he.1⟩,_,rfl⟩ he.1.turn⟩
  | exit id=>exact⟨_,_,fin (some (.exit id)) he.1,he.2 _ ⟨⟨_,_,he.1⟩,_,rfl⟩ he.1.turn⟩
  | goto t=>exact he.elim
  | panic ch=>exact he.elim
  | outgrown=>exact he.elim
 | ret=>exact he.elim
 | exit id=>exact he.elim
 | goto t=>exact he.elim
 | panic ch=>exact he.elim
 | outgrown=>exact he.elim
theorem wpIn_rangeFunc_at {g:Operand} {ps:Array Tmp} {assign body:Code} {Q:Exit→Act→World→Prop} {a:Act} {w:World} (hro:F.round=none) (h1:1≤n) {gf:Nat} {lb:Array Value}
  (hg:a.eval g=.func (.func gf) #[] lb) (hFg:F.fn gf) (eg:∀ args w,(callFunc gf args).run P w=.ok (.enter gf args) w)
  (h:∀ fn,F.fn fn→∀ r:Rng,r=⟨w.heap.size,fn,a.tmps,ps,assign,body⟩→∀ W1,r.At .ready none W1→Below w.heap.size w W1→W1.heap.size=w.heap.size+2 →
   CallsIn F (n-1) P gf (#[.func (.yield (r.D+1)) #[] #[]]++lb) W1 fun e W2=>(∃ v,e=.returned v)∧∃ x pe,r.At x pe W2∧x≠.busy∧∀ W3,r.Turn W2 W3→W3.heap[r.D]?=some (.deferred (some [])) →
    match pe with
    | none=>Q .normal { a with defers:={ target:=.collected r.D,args:=#[] }::a.defers } W3
    | some c=>c.wpIn F n P Q { a with defers:={ target:=.collected r.D,args:=#[] }::a.defers } W3) :
  (Code.rangeFunc g ps assign body).wpIn F n P Q a w:=by
 refine wpIn_rangeFunc fun fn hfn=>?_
 rw[hro]
 let r:Rng:=⟨w.heap.size,fn,a.tmps,ps,assign,body⟩
 let W0:=w.alloc (.deferred (some []))
 let W1:=W0.alloc (.loop (r.record .ready none))
 have hz:W0.heap.size=w.heap.size+1:=World.size_alloc ..
 have hat:r.At .ready none W1:=⟨by have:=World.alloc_heap_new W0 (.loop (r.record .ready none));rwa[hz] at this,(Below.heap_alloc _ _ _ (by rw[hz];exact Nat.lt_succ_self _)).trans (World.alloc_heap_new w _)⟩
 have hb:Below w.heap.size w W1:=((Below.refl _ w).alloc (Nat.le_refl _) _).alloc (by rw[hz];omega) _
 refine⟨w.heap.size+1,[{ target:=.collected w.heap.size,args:=#[] }],W1,{ target:=.fn (.func gf) lb,args:=#[.func (.yield (w.heap.size+1)) #[] #[]] },W1,gf,#[.func (.yield (w.heap.size+1)) #[] #[]]++lb,W1,
  run_enterLoop_outer _ _ _ _ _,?_,?_,?_,fun _=>h1,?_⟩
 ·simp only[resolve,hg]
  simp[go_sem]
 ·intro f' hf';simp[Target.leads] at hf';subst hf';exact hFg
 ·simp[invoke,go_sem,eg]
 ·refine(h fn hfn r rfl W1 hat hb (by rw[show W1.heap.size=W0.heap.size+1 from World.size_alloc ..,hz])).mono ?_
  rintro e W2 ⟨⟨v,rfl⟩,x,pe,h2,hx,hq⟩
  have hend:=run_endLoop (P:=P) h2.1 hx
  have h3:=hq (W2.putObj (r.D+1) (.loop (r.record .exhausted pe))) ⟨⟨_,_,h2⟩,_,rfl⟩ ((World.putObj_heap_other (by omega)).trans h2.2)
  cases pe with
  | none=>exact⟨none,_,hend,h3⟩
  | some c=>exact⟨some c,_,hend,h3⟩
end Go.Proofs.YtipdgmjplnibeaaGreatDoor
