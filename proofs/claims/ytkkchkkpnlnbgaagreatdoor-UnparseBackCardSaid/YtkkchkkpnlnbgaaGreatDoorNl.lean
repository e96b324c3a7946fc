/- The lexer's reader: signs. No premises. -/
import Derived.Test.YtkkchkkpnlnbgaaGreatDoorNj
import Derived.Test.YtkkchkkpnlnbgaaGreatDoorNk
import Derived.Test.YtkkchkkpnlnbgaaGreatDoorNi
set_option maxRecDepth 100000
set_option maxHeartbeats 3200000
namespace Go.Proofs.YtkkchkkpnlnbgaaGreatDoor
open Go.RowKit Go.Maps
open Lx (nl Tok)
def sgL:List ByteArray:=[⟨#[38,38]⟩,⟨#[124,124]⟩,⟨#[59,59]⟩,⟨#[60,60]⟩,⟨#[62,62]⟩,⟨#[59]⟩,⟨#[124]⟩,⟨#[40]⟩,⟨#[41]⟩,⟨#[60]⟩,⟨#[62]⟩]
def sgT (i:Nat):ByteArray:=sgL.getD i ⟨#[]⟩
def Sgn (w:World):Prop:=∀ i:Nat,i<11→w.cell? ⟨0,i,none⟩=some (.string (sgT i))
theorem Sgn.keep {w w':World} {B:Nat} (h:Sgn w) (hb:Below B w w') (h0:0<B):Sgn w':=fun i hi=>(hb.cell h0).trans (h i hi)
theorem Sgn.pos {w:World} (h:Sgn w):0<w.heap.size:=World.block_lt_of_cell? w _ (h 0 (by omega))
theorem nl_drop (s l:L) (h:s.isPrefixOf l=true) (hs:∀ c∈s,c≠10):nl l=nl (l.drop s.length):=by
 obtain⟨r,rfl⟩:=List.isPrefixOf_iff_prefix.1 h
 rw[List.drop_left']
 ·clear h
  induction s with
  | nil=>rfl
  | cons c s ih=>
   rw[List.cons_append,nl,if_neg (hs c (by simp)),Nat.zero_add]
   exact ih fun x hx=>hs x (by simp[hx])
 ·rfl
theorem sign_find (l:L):Lx.sign l=(Lx.signs.find? fun s=>s.isPrefixOf l).map fun s=>(s,l.drop s.length):=by
 cases l with
 | nil=>rfl
 | cons c r=>
  have hb:∀ a:UInt8,([a]:L).isPrefixOf (c::r)=(a==c):=fun a=>by simp[List.isPrefixOf]
  have hb2:∀ a b:UInt8,([a,b]:L).isPrefixOf (c::r)=(a==c && (r.head?==some b)):=fun a b=>by
   have:=pre_one b r
   simp only[List.isPrefixOf] at this⊢
   rw[this]
  unfold Lx.signs Lx.sign
  simp only[List.find?_cons,List.find?_nil,hb,hb2]
  by_cases h1:c=38
  ·subst h1;cases hr:(r.head?==some 38) <;> simp_all
  by_cases h2:c=124
  ·subst h2;cases hr:(r.head?==some 124) <;> simp_all
  by_cases h3:c=59
  ·subst h3;cases hr:(r.head?==some 59) <;> simp_all
  by_cases h4:c=60
  ·subst h4;cases hr:(r.head?==some 60) <;> simp_all
  by_cases h5:c=62
  ·subst h5;cases hr:(r.head?==some 62) <;> simp_all
  by_cases h6:c=40
  ·subst h6;simp
  by_cases h7:c=41
  ·subst h7;simp
  have e1:(38==c)=false:=by simpa using fun e=>h1 e.symm
  have e2:(124==c)=false:=by simpa using fun e=>h2 e.symm
  have e3:(59==c)=false:=by simpa using fun e=>h3 e.symm
  have e4:(60==c)=false:=by simpa using fun e=>h4 e.symm
  have e5:(62==c)=false:=by simpa using fun e=>h5 e.symm
  have e6:(40==c)=false:=by simpa using fun e=>h6 e.symm
  have e7:(41==c)=false:=by simpa using fun e=>h7 e.symm
  simp[h1,h2,h3,h4,h5,h6,h7,e1,e2,e3,e4,e5,e6,e7]
theorem MemX.skip {W:World} {B g p n ms mp:Nat} {S:L} {σ:St} {vt vh vx:Value} (h:MemX W B g S σ p n vt vh vx ms mp) (s:L) (hp:s.isPrefixOf σ.l=true) (hs:∀ c∈s,c≠10) (u:Value) (hu:u=.int .i64 ((p+s.length:Nat):Int)):Mem (W.setCell ⟨g,1,none⟩ u) B g S { σ with l:=σ.l.drop s.length }:=by
 subst hu
 have hle:s.length≤σ.l.length:=(List.isPrefixOf_iff_prefix.1 hp).length_le
 refine(h.set 1 _ (σ':={ σ with l:=σ.l.drop s.length }) (p':=p+s.length) (n':=n) (by simp) ?_ ?_ ?_ rfl rfl rfl).mem
 ·show σ.l.drop s.length=_
  rw[h.cut,List.drop_drop]
 ·have:=h.at_
  show p+s.length+(σ.l.drop s.length).length=_
  rw[List.length_drop];omega
 ·have:=h.ln
  rw[nl_drop s σ.l hp hs] at this
  exact this
def SignR (B g:Nat) (S:L) (σ:St) (W:World) (b:Nat) (x:Option (L×L)) (e:Ending) (W':World):Prop:=
 match x with
 | some (t,r)=>e=.returned (.tuple #[])∧Mem W' B g S { σ with b:=b,l:=r,ts:=σ.ts++[⟨2,t,[],nl σ.l⟩] }∧Below B W W'
 | none=>e=.panicked (flt 20 b)∧Below B W W'
theorem find_at {l:L}:∀ (ss:List L) (k:Nat) (s:L),ss[k]?=some s→s.isPrefixOf l=true→(∀ j s',j<k→ss[j]?=some s'→s'.isPrefixOf l=false)→ss.find? (fun s=>s.isPrefixOf l)=some s
 | [],k,s,h,_,_=>by simp at h
 | z::ss,0,s,h,hp,_=>by simp at h;subst h;simp[hp]
 | z::ss,k+1,s,h,hp,hj=>by
  have h0:=hj 0 z (by omega) rfl
  rw[List.find?_cons,h0]
  exact find_at ss k s (by simpa using h) hp fun j s' hjk hs=>hj (j+1) s' (by omega) (by simpa using hs)
theorem wpList_index {P:Program} {ops:Array Oper} {rest:List Oper} {o:Oper} {a:Act} {w:World} {Q:Exit→Act→World→Prop} (hgd:o.guard=none) {t:TypeId} (x i:Operand) (ho:o.op=.index t x i) {v iv:Value} (hx:a.eval x=v) (hi:a.eval i=iv) (u:Value) (hrun:(Instr.index t v iv).run P w=.ok u w)
  (h:wpList P ops Q rest (a.put o.dst u) w):wpList P ops Q (o::rest) a w:=by
 refine wpList_plain hgd fun K hK=>?_
 unfold Oper.wp execOp
 simp only[ho,hx,hi,Sem.run_bind,hrun,Result.andThen_ok,Sem.run_pure,Oper.upon_value]
 exact hK _ _ h
theorem sign_v (B g:Nat) (S:L) (σ:St) (b:Nat) (hb:b+nl σ.l=1+nl S) (hts:σ.ts.length≤5000) (W0:World) (h:Mem W0 B g S σ) (h0:0<B) (hg0:Sgn W0):Calls Tryz.prog 40 #[.pointer (some ⟨g,0,none⟩)] W0 (SignR B g S σ W0 b (Lx.sign σ.l)):=by
 have HG:=Lib.hid (begin_v B g S σ b hb W0 h)
 have HLN:=Lib.hid (show 1+nl S-nl σ.l=b by omega)
 have HTS:=Lib.hid hts
 have HG0:=Lib.hid (And.intro h0 hg0)
 have HSF:=Lib.hid (sign_find σ.l)
 clear h hb hts h0 hg0
 go_enter Tryz.func40,Tryz.ntmps40
 go_wp2_with (first
  |(go_at_call 49;(with_reducible refine HG.out.mono ?_);rintro e W ⟨rfl,hm1,hb1⟩;have HM1:=Lib.hid hm1;have HB1:=Lib.hid hb1;have hg:=HG0.out.2.keep hb1 HG0.out.1;have hS:=Lib.hid hg
    have s0:W.cell? ⟨0,0,none⟩=some (.string ⟨#[38,38]⟩):=hg 0 (by omega)
    have s1:W.cell? ⟨0,1,none⟩=some (.string ⟨#[124,124]⟩):=hg 1 (by omega)
    have s2:W.cell? ⟨0,2,none⟩=some (.string ⟨#[59,59]⟩):=hg 2 (by omega)
    have s3:W.cell? ⟨0,3,none⟩=some (.string ⟨#[60,60]⟩):=hg 3 (by omega)
    have s4:W.cell? ⟨0,4,none⟩=some (.string ⟨#[62,62]⟩):=hg 4 (by omega)
    have s5:W.cell? ⟨0,5,none⟩=some (.string ⟨#[59]⟩):=hg 5 (by omega)
    have s6:W.cell? ⟨0,6,none⟩=some (.string ⟨#[124]⟩):=hg 6 (by omega)
    have s7:W.cell? ⟨0,7,none⟩=some (.string ⟨#[40]⟩):=hg 7 (by omega)
    have s8:W.cell? ⟨0,8,none⟩=some (.string ⟨#[41]⟩):=hg 8 (by omega)
    have s9:W.cell? ⟨0,9,none⟩=some (.string ⟨#[60]⟩):=hg 9 (by omega)
    have s10:W.cell? ⟨0,10,none⟩=some (.string ⟨#[62]⟩):=hg 10 (by omega)
    clear hm1 hb1 hg))
 clear s0 s1 s2 s3 s4 s5 s6 s7 s8 s9 s10
 go_loopw [7] (fun i wr=>∃ (k m:Nat),k≤11∧i=.int .i64 (k:Int)∧wr=W.drewN m∧∀ j s',j<k→Lx.signs[j]?=some s'→s'.isPrefixOf σ.l=false) (fun i _=>11-(intOf i).toNat)
 case atStart=>exact⟨0,0,by omega,rfl,(World.drewN_zero _).symm,fun j _ h=>by omega⟩
 case round=>
  obtain⟨k,m,hk,rfl,rfl,hj⟩:=hrel
  have HJ:=Lib.hid hj
  have HM:=Lib.hid (HM1.out.drewN m)
  have HB:=Lib.hid (HB1.out.trans (Below.drewN B W m))
  clear hj
  by_cases hk11:k<11
  ·have hkk:k=0∨k=1∨k=2∨k=3∨k=4∨k=5∨k=6∨k=7∨k=8∨k=9∨k=10:=by omega
   clear hk hk11
   rcases hkk with rfl | rfl | rfl | rfl | rfl | rfl | rfl | rfl | rfl | rfl | rfl
   ·cases hp:([38,38]:L).isPrefixOf σ.l with
    | true=>
     have HA:=Lib.hid (ahead_t B g S { σ with b:=b } ⟨#[38,38]⟩ [38,38] rfl true hp (W.drewN m) HM.out)
     have HFI:=Lib.hid (show Lx.sign σ.l=some ([38,38],σ.l.drop 2) by rw[HSF.out,find_at Lx.signs 0 [38,38] rfl hp HJ.out];rfl)
     have HPR:=Lib.hid hp
     obtain⟨p,n,vt,vh,vx,ms,mp,hx⟩:=HM1.out
     obtain⟨⟨_,c1,_⟩,cz⟩:=hx.facts
     have hp4:=hx.small
     have HX:=Lib.hid hx
     clear hp hx
     go_wp2_with (first
      |(refine wpList_index rfl (.tmp 6) (.tmp 7) rfl rfl rfl (.string ⟨#[38,38]⟩) (by kernel_rfl) ?_)
      |(go_at_call 88;(with_reducible refine HA.out.mono ?_);rintro e w2 ⟨rfl,m2,rfl⟩;have HT:=Lib.hid (tell_v B g S { σ with b:=b,l:=σ.l.drop 2 } 2 ⟨#[38,38]⟩ ⟨2,[38,38],[],nl σ.l⟩ rfl rfl rfl HLN.out HTS.out _ ((HX.out.drewN (m+m2)).skip (σ:={ σ with b:=b }) [38,38] HPR.out (by simp) (.int .i64 ((p:Int)+2)) rfl)))
      |(go_at_call 50;(with_reducible refine HT.out.mono ?_);rintro e w3 ⟨rfl,hm3,hb3⟩))
     go_end0
     rw[HFI.out]
     exact⟨rfl,hm3,((HB1.out.trans (Below.drewN B W (m+m2))).setCell HX.out.low _).trans hb3⟩
    | false=>
     have HA:=Lib.hid (ahead_t B g S { σ with b:=b } ⟨#[38,38]⟩ [38,38] rfl false hp (W.drewN m) HM.out)
     go_wp2_with (first
      |(refine wpList_index rfl (.tmp 6) (.tmp 7) rfl rfl rfl (.string ⟨#[38,38]⟩) (by kernel_rfl) ?_)
      |(go_at_call 88;(with_reducible refine HA.out.mono ?_);rintro e w2 ⟨rfl,m2,rfl⟩))
     go_roundw
     case rel=>
      refine⟨1,m+m2,by omega,by first | rfl | simp,by first | rfl | trivial | simp,fun j s' hjk hs=>?_⟩
      by_cases e:j=0
      ·subst e
       have:s'=[38,38]:=by simpa [Lx.signs] using hs.symm
       rw[this];exact hp
      ·exact HJ.out j s' (by omega) hs
     case measure=>simp[intOf]
   ·cases hp:([124,124]:L).isPrefixOf σ.l with
    | true=>
     have HA:=Lib.hid (ahead_t B g S { σ with b:=b } ⟨#[124,124]⟩ [124,124] rfl true hp (W.drewN m) HM.out)
     have HFI:=Lib.hid (show Lx.sign σ.l=some ([124,124],σ.l.drop 2) by rw[HSF.out,find_at Lx.signs 1 [124,124] rfl hp HJ.out];rfl)
     have HPR:=Lib.hid hp
     obtain⟨p,n,vt,vh,vx,ms,mp,hx⟩:=HM1.out
     obtain⟨⟨_,c1,_⟩,cz⟩:=hx.facts
     have hp4:=hx.small
     have HX:=Lib.hid hx
     clear hp hx
     go_wp2_with (first
      |(refine wpList_index rfl (.tmp 6) (.tmp 7) rfl rfl rfl (.string ⟨#[124,124]⟩) (by kernel_rfl) ?_)
      |(go_at_call 88;(with_reducible refine HA.out.mono ?_);rintro e w2 ⟨rfl,m2,rfl⟩;have HT:=Lib.hid (tell_v B g S { σ with b:=b,l:=σ.l.drop 2 } 2 ⟨#[124,124]⟩ ⟨2,[124,124],[],nl σ.l⟩ rfl rfl rfl HLN.out HTS.out _ ((HX.out.drewN (m+m2)).skip (σ:={ σ with b:=b }) [124,124] HPR.out (by simp) (.int .i64 ((p:Int)+2)) rfl)))
      |(go_at_call 50;(with_reducible refine HT.out.mono ?_);rintro e w3 ⟨rfl,hm3,hb3⟩))
     go_end0
     rw[HFI.out]
     exact⟨rfl,hm3,((HB1.out.trans (Below.drewN B W (m+m2))).setCell HX.out.low _).trans hb3⟩
    | false=>
     have HA:=Lib.hid (ahead_t B g S { σ with b:=b } ⟨#[124,124]⟩ [124,124] rfl false hp (W.drewN m) HM.out)
     go_wp2_with (first
      |(refine wpList_index rfl (.tmp 6) (.tmp 7) rfl rfl rfl (.string ⟨#[124,124]⟩) (by kernel_rfl) ?_)
      |(go_at_call 88;(with_reducible refine HA.out.mono ?_);rintro e w2 ⟨rfl,m2,rfl⟩))
     go_roundw
     case rel=>
      refine⟨2,m+m2,by omega,by first | rfl | simp,by first | rfl | trivial | simp,fun j s' hjk hs=>?_⟩
      by_cases e:j=1
      ·subst e
       have:s'=[124,124]:=by simpa [Lx.signs] using hs.symm
       rw[this];exact hp
      ·exact HJ.out j s' (by omega) hs
     case measure=>simp[intOf]
   ·cases hp:([59,59]:L).isPrefixOf σ.l with
    | true=>
     have HA:=Lib.hid (ahead_t B g S { σ with b:=b } ⟨#[59,59]⟩ [59,59] rfl true hp (W.drewN m) HM.out)
     have HFI:=Lib.hid (show Lx.sign σ.l=some ([59,59],σ.l.drop 2) by rw[HSF.out,find_at Lx.signs 2 [59,59] rfl hp HJ.out];rfl)
     have HPR:=Lib.hid hp
     obtain⟨p,n,vt,vh,vx,ms,mp,hx⟩:=HM1.out
     obtain⟨⟨_,c1,_⟩,cz⟩:=hx.facts
     have hp4:=hx.small
     have HX:=Lib.hid hx
     clear hp hx
     go_wp2_with (first
      |(refine wpList_index rfl (.tmp 6) (.tmp 7) rfl rfl rfl (.string ⟨#[59,59]⟩) (by kernel_rfl) ?_)
      |(go_at_call 88;(with_reducible refine HA.out.mono ?_);rintro e w2 ⟨rfl,m2,rfl⟩;have HT:=Lib.hid (tell_v B g S { σ with b:=b,l:=σ.l.drop 2 } 2 ⟨#[59,59]⟩ ⟨2,[59,59],[],nl σ.l⟩ rfl rfl rfl HLN.out HTS.out _ ((HX.out.drewN (m+m2)).skip (σ:={ σ with b:=b }) [59,59] HPR.out (by simp) (.int .i64 ((p:Int)+2)) rfl)))
      |(go_at_call 50;(with_reducible refine HT.out.mono ?_);rintro e w3 ⟨rfl,hm3,hb3⟩))
     go_end0
     rw[HFI.out]
     exact⟨rfl,hm3,((HB1.out.trans (Below.drewN B W (m+m2))).setCell HX.out.low _).trans hb3⟩
    | false=>
     have HA:=Lib.hid (ahead_t B g S { σ with b:=b } ⟨#[59,59]⟩ [59,59] rfl false hp (W.drewN m) HM.out)
     go_wp2_with (first
      |(refine wpList_index rfl (.tmp 6) (.tmp 7) rfl rfl rfl (.string ⟨#[59,59]⟩) (by kernel_rfl) ?_)
      |(go_at_call 88;(with_reducible refine HA.out.mono ?_);rintro e w2 ⟨rfl,m2,rfl⟩))
     go_roundw
     case rel=>
      refine⟨3,m+m2,by omega,by first | rfl | simp,by first | rfl | trivial | simp,fun j s' hjk hs=>?_⟩
      by_cases e:j=2
      ·subst e
       have:s'=[59,59]:=by simpa [Lx.signs] using hs.symm
       rw[this];exact hp
      ·exact HJ.out j s' (by omega) hs
     case measure=>simp[intOf]
   ·cases hp:([60,60]:L).isPrefixOf σ.l with
    | true=>
     have HA:=Lib.hid (ahead_t B g S { σ with b:=b } ⟨#[60,60]⟩ [60,60] rfl true hp (W.drewN m) HM.out)
     have HFI:=Lib.hid (show Lx.sign σ.l=some ([60,60],σ.l.drop 2) by rw[HSF.out,find_at Lx.signs 3 [60,60] rfl hp HJ.out];rfl)
     have HPR:=Lib.hid hp
     obtain⟨p,n,vt,vh,vx,ms,mp,hx⟩:=HM1.out
     obtain⟨⟨_,c1,_⟩,cz⟩:=hx.facts
     have hp4:=hx.small
     have HX:=Lib.hid hx
     clear hp hx
     go_wp2_with (first
      |(refine wpList_index rfl (.tmp 6) (.tmp 7) rfl rfl rfl (.string ⟨#[60,60]⟩) (by kernel_rfl) ?_)
      |(go_at_call 88;(with_reducible refine HA.out.mono ?_);rintro e w2 ⟨rfl,m2,rfl⟩;have HT:=Lib.hid (tell_v B g S { σ with b:=b,l:=σ.l.drop 2 } 2 ⟨#[60,60]⟩ ⟨2,[60,60],[],nl σ.l⟩ rfl rfl rfl HLN.out HTS.out _ ((HX.out.drewN (m+m2)).skip (σ:={ σ with b:=b }) [60,60] HPR.out (by simp) (.int .i64 ((p:Int)+2)) rfl)))
      |(go_at_call 50;(with_reducible refine HT.out.mono ?_);rintro e w3 ⟨rfl,hm3,hb3⟩))
     go_end0
     rw[HFI.out]
     exact⟨rfl,hm3,((HB1.out.trans (Below.drewN B W (m+m2))).setCell HX.out.low _).trans hb3⟩
    | false=>
     have HA:=Lib.hid (ahead_t B g S { σ with b:=b } ⟨#[60,60]⟩ [60,60] rfl false hp (W.drewN m) HM.out)
     go_wp2_with (first
      |(refine wpList_index rfl (.tmp 6) (.tmp 7) rfl rfl rfl (.string ⟨#[60,60]⟩) (by kernel_rfl) ?_)
      |(go_at_call 88;(with_reducible refine HA.out.mono ?_);rintro e w2 ⟨rfl,m2,rfl⟩))
     go_roundw
     case rel=>
      refine⟨4,m+m2,by omega,by first | rfl | simp,by first | rfl | trivial | simp,fun j s' hjk hs=>?_⟩
      by_cases e:j=3
      ·subst e
       have:s'=[60,60]:=by simpa [Lx.signs] using hs.symm
       rw[this];exact hp
      ·exact HJ.out j s' (by omega) hs
     case measure=>simp[intOf]
   ·cases hp:([62,62]:L).isPrefixOf σ.l with
    | true=>
     have HA:=Lib.hid (ahead_t B g S { σ with b:=b } ⟨#[62,62]⟩ [62,62] rfl true hp (W.drewN m) HM.out)
     have HFI:=Lib.hid (show Lx.sign σ.l=some ([62,62],σ.l.drop 2) by rw[HSF.out,find_at Lx.signs 4 [62,62] rfl hp HJ.out];rfl)
     have HPR:=Lib.hid hp
     obtain⟨p,n,vt,vh,vx,ms,mp,hx⟩:=HM1.out
     obtain⟨⟨_,c1,_⟩,cz⟩:=hx.facts
     have hp4:=hx.small
     have HX:=Lib.hid hx
     clear hp hx
     go_wp2_with (first
      |(refine wpList_index rfl (.tmp 6) (.tmp 7) rfl rfl rfl (.string ⟨#[62,62]⟩) (by kernel_rfl) ?_)
      |(go_at_call 88;(with_reducible refine HA.out.mono ?_);rintro e w2 ⟨rfl,m2,rfl⟩;have HT:=Lib.hid (tell_v B g S { σ with b:=b,l:=σ.l.drop 2 } 2 ⟨#[62,62]⟩ ⟨2,[62,62],[],nl σ.l⟩ rfl rfl rfl HLN.out HTS.out _ ((HX.out.drewN (m+m2)).skip (σ:={ σ with b:=b }) [62,62] HPR.out (by simp) (.int .i64 ((p:Int)+2)) rfl)))
      |(go_at_call 50;(with_reducible refine HT.out.mono ?_);rintro e w3 ⟨rfl,hm3,hb3⟩))
     go_end0
     rw[HFI.out]
     exact⟨rfl,hm3,((HB1.out.trans (Below.drewN B W (m+m2))).setCell HX.out.low _).trans hb3⟩
    | false=>
     have HA:=Lib.hid (ahead_t B g S { σ with b:=b } ⟨#[62,62]⟩ [62,62] rfl false hp (W.drewN m) HM.out)
     go_wp2_with (first
      |(refine wpList_index rfl (.tmp 6) (.tmp 7) rfl rfl rfl (.string ⟨#[62,62]⟩) (by kernel_rfl) ?_)
      |(go_at_call 88;(with_reducible refine HA.out.mono ?_);rintro e w2 ⟨rfl,m2,rfl⟩))
     go_roundw
     case rel=>
      refine⟨5,m+m2,by omega,by first | rfl | simp,by first | rfl | trivial | simp,fun j s' hjk hs=>?_⟩
      by_cases e:j=4
      ·subst e
       have:s'=[62,62]:=by simpa [Lx.signs] using hs.symm
       rw[this];exact hp
      ·exact HJ.out j s' (by omega) hs
     case measure=>simp[intOf]
   ·cases hp:([59]:L).isPrefixOf σ.l with
    | true=>
     have HA:=Lib.hid (ahead_t B g S { σ with b:=b } ⟨#[59]⟩ [59] rfl true hp (W.drewN m) HM.out)
     have HFI:=Lib.hid (show Lx.sign σ.l=some ([59],σ.l.drop 1) by rw[HSF.out,find_at Lx.signs 5 [59] rfl hp HJ.out];rfl)
     have HPR:=Lib.hid hp
     obtain⟨p,n,vt,vh,vx,ms,mp,hx⟩:=HM1.out
     obtain⟨⟨_,c1,_⟩,cz⟩:=hx.facts
     have hp4:=hx.small
     have HX:=Lib.hid hx
     clear hp hx
     go_wp2_with (first
      |(refine wpList_index rfl (.tmp 6) (.tmp 7) rfl rfl rfl (.string ⟨#[59]⟩) (by kernel_rfl) ?_)
      |(go_at_call 88;(with_reducible refine HA.out.mono ?_);rintro e w2 ⟨rfl,m2,rfl⟩;have HT:=Lib.hid (tell_v B g S { σ with b:=b,l:=σ.l.drop 1 } 2 ⟨#[59]⟩ ⟨2,[59],[],nl σ.l⟩ rfl rfl rfl HLN.out HTS.out _ ((HX.out.drewN (m+m2)).skip (σ:={ σ with b:=b }) [59] HPR.out (by simp) (.int .i64 ((p:Int)+1)) rfl)))
      |(go_at_call 50;(with_reducible refine HT.out.mono ?_);rintro e w3 ⟨rfl,hm3,hb3⟩))
     go_end0
     rw[HFI.out]
     exact⟨rfl,hm3,((HB1.out.trans (Below.drewN B W (m+m2))).setCell HX.out.low _).trans hb3⟩
    | false=>
     have HA:=Lib.hid (ahead_t B g S { σ with b:=b } ⟨#[59]⟩ [59] rfl false hp (W.drewN m) HM.out)
     go_wp2_with (first
      |(refine wpList_index rfl (.tmp 6) (.tmp 7) rfl rfl rfl (.string ⟨#[59]⟩) (by kernel_rfl) ?_)
      |(go_at_call 88;(with_reducible refine HA.out.mono ?_);rintro e w2 ⟨rfl,m2,rfl⟩))
     go_roundw
     case rel=>
      refine⟨6,m+m2,by omega,by first | rfl | simp,by first | rfl | trivial | simp,fun j s' hjk hs=>?_⟩
      by_cases e:j=5
      ·subst e
       have:s'=[59]:=by simpa [Lx.signs] using hs.symm
       rw[this];exact hp
      ·exact HJ.out j s' (by omega) hs
     case measure=>simp[intOf]
   ·cases hp:([124]:L).isPrefixOf σ.l with
    | true=>
     have HA:=Lib.hid (ahead_t B g S { σ with b:=b } ⟨#[124]⟩ [124] rfl true hp (W.drewN m) HM.out)
     have HFI:=Lib.hid (show Lx.sign σ.l=some ([124],σ.l.drop 1) by rw[HSF.out,find_at Lx.signs 6 [124] rfl hp HJ.out];rfl)
     have HPR:=Lib.hid hp
     obtain⟨p,n,vt,vh,vx,ms,mp,hx⟩:=HM1.out
     obtain⟨⟨_,c1,_⟩,cz⟩:=hx.facts
     have hp4:=hx.small
     have HX:=Lib.hid hx
     clear hp hx
     go_wp2_with (first
      |(refine wpList_index rfl (.tmp 6) (.tmp 7) rfl rfl rfl (.string ⟨#[124]⟩) (by kernel_rfl) ?_)
      |(go_at_call 88;(with_reducible refine HA.out.mono ?_);rintro e w2 ⟨rfl,m2,rfl⟩;have HT:=Lib.hid (tell_v B g S { σ with b:=b,l:=σ.l.drop 1 } 2 ⟨#[124]⟩ ⟨2,[124],[],nl σ.l⟩ rfl rfl rfl HLN.out HTS.out _ ((HX.out.drewN (m+m2)).skip (σ:={ σ with b:=b }) [124] HPR.out (by simp) (.int .i64 ((p:Int)+1)) rfl)))
      |(go_at_call 50;(with_reducible refine HT.out.mono ?_);rintro e w3 ⟨rfl,hm3,hb3⟩))
     go_end0
     rw[HFI.out]
     exact⟨rfl,hm3,((HB1.out.trans (Below.drewN B W (m+m2))).setCell HX.out.low _).trans hb3⟩
    | false=>
     have HA:=Lib.hid (ahead_t B g S { σ with b:=b } ⟨#[124]⟩ [124] rfl false hp (W.drewN m) HM.out)
     go_wp2_with (first
      |(refine wpList_index rfl (.tmp 6) (.tmp 7) rfl rfl rfl (.string ⟨#[124]⟩) (by kernel_rfl) ?_)
      |(go_at_call 88;(with_reducible refine HA.out.mono ?_);rintro e w2 ⟨rfl,m2,rfl⟩))
     go_roundw
     case rel=>
      refine⟨7,m+m2,by omega,by first | rfl | simp,by first | rfl | trivial | simp,fun j s' hjk hs=>?_⟩
      by_cases e:j=6
      ·subst e
       have:s'=[124]:=by simpa [Lx.signs] using hs.symm
       rw[this];exact hp
      ·exact HJ.out j s' (by omega) hs
     case measure=>simp[intOf]
   ·cases hp:([40]:L).isPrefixOf σ.l with
    | true=>
     have HA:=Lib.hid (ahead_t B g S { σ with b:=b } ⟨#[40]⟩ [40] rfl true hp (W.drewN m) HM.out)
     have HFI:=Lib.hid (show Lx.sign σ.l=some ([40],σ.l.drop 1) by rw[HSF.out,find_at Lx.signs 7 [40] rfl hp HJ.out];rfl)
     have HPR:=Lib.hid hp
     obtain⟨p,n,vt,vh,vx,ms,mp,hx⟩:=HM1.out
     obtain⟨⟨_,c1,_⟩,cz⟩:=hx.facts
     have hp4:=hx.small
     have HX:=Lib.hid hx
     clear hp hx
     go_wp2_with (first
      |(refine wpList_index rfl (.tmp 6) (.tmp 7) rfl rfl rfl (.string ⟨#[40]⟩) (by kernel_rfl) ?_)
      |(go_at_call 88;(with_reducible refine HA.out.mono ?_);rintro e w2 ⟨rfl,m2,rfl⟩;have HT:=Lib.hid (tell_v B g S { σ with b:=b,l:=σ.l.drop 1 } 2 ⟨#[40]⟩ ⟨2,[40],[],nl σ.l⟩ rfl rfl rfl HLN.out HTS.out _ ((HX.out.drewN (m+m2)).skip (σ:={ σ with b:=b }) [40] HPR.out (by simp) (.int .i64 ((p:Int)+1)) rfl)))
      |(go_at_call 50;(with_reducible refine HT.out.mono ?_);rintro e w3 ⟨rfl,hm3,hb3⟩))
     go_end0
     rw[HFI.out]
     exact⟨rfl,hm3,((HB1.out.trans (Below.drewN B W (m+m2))).setCell HX.out.low _).trans hb3⟩
    | false=>
     have HA:=Lib.hid (ahead_t B g S { σ with b:=b } ⟨#[40]⟩ [40] rfl false hp (W.drewN m) HM.out)
     go_wp2_with (first
      |(refine wpList_index rfl (.tmp 6) (.tmp 7) rfl rfl rfl (.string ⟨#[40]⟩) (by kernel_rfl) ?_)
      |(go_at_call 88;(with_reducible refine HA.out.mono ?_);rintro e w2 ⟨rfl,m2,rfl⟩))
     go_roundw
     case rel=>
      refine⟨8,m+m2,by omega,by first | rfl | simp,by first | rfl | trivial | simp,fun j s' hjk hs=>?_⟩
      by_cases e:j=7
      ·subst e
       have:s'=[40]:=by simpa [Lx.signs] using hs.symm
       rw[this];exact hp
      ·exact HJ.out j s' (by omega) hs
     case measure=>simp[intOf]
   ·cases hp:([41]:L).isPrefixOf σ.l with
    | true=>
     have HA:=Lib.hid (ahead_t B g S { σ with b:=b } ⟨#[41]⟩ [41] rfl true hp (W.drewN m) HM.out)
     have HFI:=Lib.hid (show Lx.sign σ.l=some ([41],σ.l.drop 1) by rw[HSF.out,find_at Lx.signs 8 [41] rfl hp HJ.out];rfl)
     have HPR:=Lib.hid hp
     obtain⟨p,n,vt,vh,vx,ms,mp,hx⟩:=HM1.out
     obtain⟨⟨_,c1,_⟩,cz⟩:=hx.facts
     have hp4:=hx.small
     have HX:=Lib.hid hx
     clear hp hx
     go_wp2_with (first
      |(refine wpList_index rfl (.tmp 6) (.tmp 7) rfl rfl rfl (.string ⟨#[41]⟩) (by kernel_rfl) ?_)
      |(go_at_call 88;(with_reducible refine HA.out.mono ?_);rintro e w2 ⟨rfl,m2,rfl⟩;have HT:=Lib.hid (tell_v B g S { σ with b:=b,l:=σ.l.drop 1 } 2 ⟨#[41]⟩ ⟨2,[41],[],nl σ.l⟩ rfl rfl rfl HLN.out HTS.out _ ((HX.out.drewN (m+m2)).skip (σ:={ σ with b:=b }) [41] HPR.out (by simp) (.int .i64 ((p:Int)+1)) rfl)))
      |(go_at_call 50;(with_reducible refine HT.out.mono ?_);rintro e w3 ⟨rfl,hm3,hb3⟩))
     go_end0
     rw[HFI.out]
     exact⟨rfl,hm3,((HB1.out.trans (Below.drewN B W (m+m2))).setCell HX.out.low _).trans hb3⟩
    | false=>
     have HA:=Lib.hid (ahead_t B g S { σ with b:=b } ⟨#[41]⟩ [41] rfl false hp (W.drewN m) HM.out)
     go_wp2_with (first
      |(refine wpList_index rfl (.tmp 6) (.tmp 7) rfl rfl rfl (.string ⟨#[41]⟩) (by kernel_rfl) ?_)
      |(go_at_call 88;(with_reducible refine HA.out.mono ?_);rintro e w2 ⟨rfl,m2,rfl⟩))
     go_roundw
     case rel=>
      refine⟨9,m+m2,by omega,by first | rfl | simp,by first | rfl | trivial | simp,fun j s' hjk hs=>?_⟩
      by_cases e:j=8
      ·subst e
       have:s'=[41]:=by simpa [Lx.signs] using hs.symm
       rw[this];exact hp
      ·exact HJ.out j s' (by omega) hs
     case measure=>simp[intOf]
   ·cases hp:([60]:L).isPrefixOf σ.l with
    | true=>
     have HA:=Lib.hid (ahead_t B g S { σ with b:=b } ⟨#[60]⟩ [60] rfl true hp (W.drewN m) HM.out)
     have HFI:=Lib.hid (show Lx.sign σ.l=some ([60],σ.l.drop 1) by rw[HSF.out,find_at Lx.signs 9 [60] rfl hp HJ.out];rfl)
     have HPR:=Lib.hid hp
     obtain⟨p,n,vt,vh,vx,ms,mp,hx⟩:=HM1.out
     obtain⟨⟨_,c1,_⟩,cz⟩:=hx.facts
     have hp4:=hx.small
     have HX:=Lib.hid hx
     clear hp hx
     go_wp2_with (first
      |(refine wpList_index rfl (.tmp 6) (.tmp 7) rfl rfl rfl (.string ⟨#[60]⟩) (by kernel_rfl) ?_)
      |(go_at_call 88;(with_reducible refine HA.out.mono ?_);rintro e w2 ⟨rfl,m2,rfl⟩;have HT:=Lib.hid (tell_v B g S { σ with b:=b,l:=σ.l.drop 1 } 2 ⟨#[60]⟩ ⟨2,[60],[],nl σ.l⟩ rfl rfl rfl HLN.out HTS.out _ ((HX.out.drewN (m+m2)).skip (σ:={ σ with b:=b }) [60] HPR.out (by simp) (.int .i64 ((p:Int)+1)) rfl)))
      |(go_at_call 50;(with_reducible refine HT.out.mono ?_);rintro e w3 ⟨rfl,hm3,hb3⟩))
     go_end0
     rw[HFI.out]
     exact⟨rfl,hm3,((HB1.out.trans (Below.drewN B W (m+m2))).setCell HX.out.low _).trans hb3⟩
    | false=>
     have HA:=Lib.hid (ahead_t B g S { σ with b:=b } ⟨#[60]⟩ [60] rfl false hp (W.drewN m) HM.out)
     go_wp2_with (first
      |(refine wpList_index rfl (.tmp 6) (.tmp 7) rfl rfl rfl (.string ⟨#[60]⟩) (by kernel_rfl) ?_)
      |(go_at_call 88;(with_reducible refine HA.out.mono ?_);rintro e w2 ⟨rfl,m2,rfl⟩))
     go_roundw
     case rel=>
      refine⟨10,m+m2,by omega,by first | rfl | simp,by first | rfl | trivial | simp,fun j s' hjk hs=>?_⟩
      by_cases e:j=9
      ·subst e
       have:s'=[60]:=by simpa [Lx.signs] using hs.symm
       rw[this];exact hp
      ·exact HJ.out j s' (by omega) hs
     case measure=>simp[intOf]
   ·cases hp:([62]:L).isPrefixOf σ.l with
    | true=>
     have HA:=Lib.hid (ahead_t B g S { σ with b:=b } ⟨#[62]⟩ [62] rfl true hp (W.drewN m) HM.out)
     have HFI:=Lib.hid (show Lx.sign σ.l=some ([62],σ.l.drop 1) by rw[HSF.out,find_at Lx.signs 10 [62] rfl hp HJ.out];rfl)
     have HPR:=Lib.hid hp
     obtain⟨p,n,vt,vh,vx,ms,mp,hx⟩:=HM1.out
     obtain⟨⟨_,c1,_⟩,cz⟩:=hx.facts
     have hp4:=hx.small
     have HX:=Lib.hid hx
     clear hp hx
     go_wp2_with (first
      |(refine wpList_index rfl (.tmp 6) (.tmp 7) rfl rfl rfl (.string ⟨#[62]⟩) (by kernel_rfl) ?_)
      |(go_at_call 88;(with_reducible refine HA.out.mono ?_);rintro e w2 ⟨rfl,m2,rfl⟩;have HT:=Lib.hid (tell_v B g S { σ with b:=b,l:=σ.l.drop 1 } 2 ⟨#[62]⟩ ⟨2,[62],[],nl σ.l⟩ rfl rfl rfl HLN.out HTS.out _ ((HX.out.drewN (m+m2)).skip (σ:={ σ with b:=b }) [62] HPR.out (by simp) (.int .i64 ((p:Int)+1)) rfl)))
      |(go_at_call 50;(with_reducible refine HT.out.mono ?_);rintro e w3 ⟨rfl,hm3,hb3⟩))
     go_end0
     rw[HFI.out]
     exact⟨rfl,hm3,((HB1.out.trans (Below.drewN B W (m+m2))).setCell HX.out.low _).trans hb3⟩
    | false=>
     have HA:=Lib.hid (ahead_t B g S { σ with b:=b } ⟨#[62]⟩ [62] rfl false hp (W.drewN m) HM.out)
     go_wp2_with (first
      |(refine wpList_index rfl (.tmp 6) (.tmp 7) rfl rfl rfl (.string ⟨#[62]⟩) (by kernel_rfl) ?_)
      |(go_at_call 88;(with_reducible refine HA.out.mono ?_);rintro e w2 ⟨rfl,m2,rfl⟩))
     go_roundw
     case rel=>
      refine⟨11,m+m2,by omega,by first | rfl | simp,by first | rfl | trivial | simp,fun j s' hjk hs=>?_⟩
      by_cases e:j=10
      ·subst e
       have:s'=[62]:=by simpa [Lx.signs] using hs.symm
       rw[this];exact hp
      ·exact HJ.out j s' (by omega) hs
     case measure=>simp[intOf]
  ·obtain hke:k=11:=by omega
   have HR:=Lib.hid (fun m=>refuse_v B g S { σ with b:=b } (W.drewN m) (HM1.out.drewN m))
   have HFI:=Lib.hid (show Lx.sign σ.l=none by
    rw[HSF.out]
    have:Lx.signs.find? (fun s=>s.isPrefixOf σ.l)=none:=by
     rw[List.find?_eq_none]
     intro s hs
     obtain⟨j,hj⟩:=List.mem_iff_getElem?.1 hs
     have hlt:j<11:=by have:=(List.getElem?_eq_some_iff.1 hj).1;simpa [Lx.signs] using this
     rw[HJ.out j s (by omega) hj]
     exact Bool.false_ne_true
    rw[this];rfl)
   have HKE:=Lib.hid hke
   clear hke
   go_wp2_with (first
    |(go_at_call 45;(with_reducible refine(HR.out _).mono ?_);rintro e w2 ⟨rfl,rfl⟩))
   refine bodyPost_panic rfl ?_
   rw[HFI.out]
   exact⟨rfl,HB.out⟩
end Go.Proofs.YtkkchkkpnlnbgaaGreatDoor
namespace Go.Proofs.YtkkchkkpnlnbgaaGreatDoor
open Go.RowKit Go.Maps
open Lx (nl Tok bodies lay hung)
structure Inv (S:L) (σ:St):Prop where
 room:σ.ts.length+σ.l.length≤S.length
 deep:σ.d=0
 within:∀ k∈σ.hs,k<σ.ts.length
 few:σ.hs.length≤σ.ts.length
 texts:∀ t∈σ.ts,t.text.length≤5000
 last:∀ t,σ.ts.getLast?=some t→σ.b=1+nl S-t.left
def StepR (B g:Nat) (S:L) (W:World) (x:Lx.Step) (e:Ending) (W':World):Prop:=
 match x with
 | .more l' out' here'=>e=.returned (.tuple #[])∧(∃ σ':St,σ'.l=l'∧σ'.ts=out'∧σ'.hs=here'∧Inv S σ'∧Mem W' B g S σ')∧Below B W W'
 | .fail n k=>e=.panicked (flt n (1+nl S-k:Nat))∧Below B W W'
 | .done _=>False
theorem Mem.line {W:World} {B g:Nat} {S:L} {σ:St} (h:Mem W B g S σ):∃ b,b+nl σ.l=1+nl S∧b=1+nl S-nl σ.l∧S.length≤4096:=by
 obtain⟨p,n,vt,vh,vx,ms,mp,h⟩:=h
 exact⟨n,h.ln,by have:=h.ln;omega,h.big⟩
theorem bodies_texts (ks:List Nat) {out o:List Tok} {l r:L} (h:bodies ks out l=some (o,r)):o.map Tok.text=out.map Tok.text∧o.map Tok.left=out.map Tok.left:=by
 induction ks generalizing out l with
 | nil=>cases h;exact⟨rfl,rfl⟩
 | cons k ks ih=>
  unfold bodies at h
  cases e:Lx.doc (Lx.bare ((out[k]?.map Tok.text).getD [])) l with
  | none=>rw[e] at h;cases h
  | some x=>
   obtain⟨b,r1⟩:=x
   rw[e] at h
   obtain⟨h1,h2⟩:=ih h
   exact⟨h1.trans (Lx.lay_map Tok.text k b out fun _=>rfl),h2.trans (Lx.lay_map Tok.left k b out fun _=>rfl)⟩
theorem texts_of {a b:List Tok} (h:a.map Tok.text=b.map Tok.text) (hb:∀ t∈b,t.text.length≤5000):∀ t∈a,t.text.length≤5000:=by
 intro t ht
 have:t.text∈b.map Tok.text:=by rw[←h];exact List.mem_map_of_mem ht
 obtain⟨t',ht',e⟩:=List.mem_map.1 this
 rw[←e];exact hb t' ht'
theorem Inv.snoc {S:L} {σ:St} (h:Inv S σ) {c:UInt8} {r l':L} (hl:σ.l=c::r) (hlt:l'.length<σ.l.length) (t:Tok) (htx:t.text.length≤5000) (b:Nat) (hb:b=1+nl S-t.left) (σ':St) (h1:σ'.l=l') (h2:σ'.ts=σ.ts++[t]) (h3:σ'.hs=σ.hs) (h4:σ'.b=b) (h5:σ'.d=0):Inv S σ':=by
 have:=h.room
 refine⟨by rw[h1,h2,List.length_append,List.length_singleton];omega,h5,?_,?_,?_,?_⟩
 ·rw[h3,h2,List.length_append,List.length_singleton]
  intro k hk;have:=h.within k hk;omega
 ·rw[h3,h2,List.length_append,List.length_singleton];have:=h.few;omega
 ·rw[h2]
  intro x hx
  rcases List.mem_append.1 hx with hx | hx
  ·exact h.texts x hx
  ·simp at hx;subst hx;exact htx
 ·rw[h2]
  intro x hx
  rw[List.getLast?_concat] at hx
  simp at hx
  subst hx
  rw[h4,hb]
theorem Inv.rest {S:L} {σ:St} (h:Inv S σ) {l':L} (hl:l'.length≤σ.l.length):Inv S { σ with l:=l' } :=
 ⟨by have:=h.room;show σ.ts.length+l'.length≤_;omega,h.deep,h.within,h.few,h.texts,h.last⟩
section
variable {B g:Nat} {S:L} {σ:St} {W:World}
theorem step_word {c:UInt8} {r:L} (hl:σ.l=c::r) (hI:Inv S σ) (he:Lx.ends (c::r)=false) (hs:Lx.step σ.l σ.ts σ.hs=(match Lx.word (c::r) with
  | .error e=>.fail e (nl (c::r))
  | .ok (t,r')=>if Lx.io t ((c::r).length-r'.length) r'=true then .more r' (σ.ts++[⟨5,t,[],nl (c::r)⟩]) σ.hs else .more r' (σ.ts++[⟨1,t,[],nl (c::r)⟩]) (if hung σ.ts=true then σ.hs++[σ.ts.length] else σ.hs)))
  (h:Mem W B g S σ):Calls Tryz.prog 48 #[.pointer (some ⟨g,0,none⟩)] W (StepR B g S W (Lx.step σ.l σ.ts σ.hs)):=by
 obtain⟨b,hb,hb2,hS⟩:=h.line
 have hr:=hI.room
 have hf:=hI.few
 refine(word_v B g S σ b hb hI.deep (by omega) (by omega) W h).mono ?_
 intro e W' hw
 rw[hs]
 have hl':=hl
 rw[hl] at hw
 cases hx:Lx.word (c::r) with
 | error n=>
  rw[hx] at hw
  obtain⟨h1,h2⟩:=hw
  exact⟨by rw[h1,hb2,hl],h2⟩
 | ok x=>
  obtain⟨t,r'⟩:=x
  rw[hx] at hw
  obtain⟨h1,h2,h3,h4⟩:=hw
  have hlt:=Lx.word_lt hx he
  rw[hl] at h2
  simp only
  have hin:∀ (t1:Tok) (σ':St),t1.text=t→t1.left=nl (c::r)→σ'.l=r'→σ'.ts=σ.ts++[t1]→σ'.hs=σ.hs→σ'.b=b→σ'.d=0→Inv S σ':=fun t1 σ' e1 e2 e3 e4 e5 e6 e7=>
   hI.snoc hl (by rw[hl];exact hlt) t1 (by rw[e1];omega) b (by rw[e2,hb2,hl]) σ' e3 e4 e5 e6 e7
  by_cases hio:Lx.io t ((c::r).length-r'.length) r'=true
  ·rw[if_pos hio] at h2⊢
   exact⟨h1,⟨{ St.to { σ with b:=b,q:=[],j:=false } (c::r).length r' t with ts:=σ.ts++[⟨5,t,[],nl (c::r)⟩] },rfl,rfl,rfl,hin ⟨5,t,[],nl (c::r)⟩ _ rfl rfl rfl rfl rfl rfl hI.deep,h2⟩,h3⟩
  ·rw[if_neg hio] at h2⊢
   by_cases hh:hung σ.ts=true
   ·rw[if_pos hh] at h2⊢
    refine⟨h1,⟨{ St.to { σ with b:=b,q:=[],j:=false } (c::r).length r' t with hs:=σ.hs++[σ.ts.length],ts:=σ.ts++[⟨1,t,[],nl (c::r)⟩] },rfl,rfl,rfl,?_,h2⟩,h3⟩
    have hi1:=hin ⟨1,t,[],nl (c::r)⟩ { St.to { σ with b:=b,q:=[],j:=false } (c::r).length r' t with ts:=σ.ts++[⟨1,t,[],nl (c::r)⟩] } rfl rfl rfl rfl rfl rfl hI.deep
    refine⟨hi1.room,hi1.deep,?_,?_,hi1.texts,hi1.last⟩
    ·intro k hk
     simp only at hk⊢
     rw[List.length_append,List.length_singleton]
     rcases List.mem_append.1 hk with hk | hk
     ·have:=hI.within k hk;omega
     ·simp at hk;omega
    ·simp only[List.length_append,List.length_singleton];omega
   ·rw[if_neg hh] at h2⊢
    exact⟨h1,⟨{ St.to { σ with b:=b,q:=[],j:=false } (c::r).length r' t with ts:=σ.ts++[⟨1,t,[],nl (c::r)⟩] },rfl,rfl,rfl,hin ⟨1,t,[],nl (c::r)⟩ _ rfl rfl rfl rfl rfl rfl hI.deep,h2⟩,h3⟩
theorem step_pass {c:UInt8} {r:L} (hl:σ.l=c::r) (hI:Inv S σ) (hs:Lx.step σ.l σ.ts σ.hs=.more r σ.ts σ.hs) (h:Mem W B g S σ):Calls Tryz.prog 39 #[.pointer (some ⟨g,0,none⟩)] W (StepR B g S W (Lx.step σ.l σ.ts σ.hs)):=by
 rw[hs]
 refine(pass_v B g S σ c r hl W h).mono ?_
 rintro e W' ⟨h1,h2,h3⟩
 exact⟨h1,⟨{ σ with l:=r },rfl,rfl,rfl,hI.rest (by rw[hl];simp),h2⟩,h3⟩
theorem step_row (hI:Inv S σ) (hs:Lx.step σ.l σ.ts σ.hs=.more (Lx.skip σ.l) σ.ts σ.hs) (h:Mem W B g S σ):Calls Tryz.prog 37 #[.pointer (some ⟨g,0,none⟩)] W (StepR B g S W (Lx.step σ.l σ.ts σ.hs)):=by
 rw[hs]
 refine(passRow_v B g S σ W h).mono ?_
 rintro e W' ⟨h1,h2,h3⟩
 exact⟨h1,⟨{ σ with l:=Lx.skip σ.l },rfl,rfl,rfl,hI.rest (Lx.skip_le _),h2⟩,h3⟩
theorem step_line {r:L} (hl:σ.l=10::r) (hI:Inv S σ) (h:Mem W B g S σ):Calls Tryz.prog 38 #[.pointer (some ⟨g,0,none⟩)] W (StepR B g S W (Lx.step σ.l σ.ts σ.hs)):=by
 obtain⟨b,hb,hb2,hS⟩:=h.line
 have hr:=hI.room
 have hf:=hI.few
 rw[hl] at hr
 simp only[List.length_cons] at hr
 refine(newline_v B g S σ r hl b hb (by omega) hI.within hI.texts (by omega) W h).mono ?_
 intro e W' hw
 have hs:Lx.step σ.l σ.ts σ.hs=(match bodies σ.hs (σ.ts++[⟨3,[],[],nl (10::r)⟩]) r with
   | none=>.fail 20 (nl (10::r))
   | some (o,r')=>.more r' o []):=by rw[hl];rfl
 rw[hs]
 rw[hl] at hw
 cases hx:bodies σ.hs (σ.ts++[⟨3,[],[],nl (10::r)⟩]) r with
 | none=>
  rw[hx] at hw
  obtain⟨h1,h2⟩:=hw
  exact⟨by rw[h1,hb2,hl];rfl,h2⟩
 | some x=>
  obtain⟨o,r'⟩:=x
  rw[hx] at hw
  obtain⟨h1,h2,h3⟩:=hw
  have hlen:=Lx.bodies_len _ hx
  have hle:=Lx.bodies_le _ hx
  obtain⟨htx,hlf⟩:=bodies_texts _ hx
  rw[List.length_append,List.length_singleton] at hlen
  refine⟨h1,⟨{ σ with b:=b,l:=r',ts:=o,hs:=[] },rfl,rfl,rfl,⟨?_,hI.deep,nofun,Nat.zero_le _,?_,?_⟩,h2⟩,h3⟩
  ·show o.length+r'.length≤_;omega
  ·refine texts_of htx ?_
   intro t ht
   rcases List.mem_append.1 ht with ht | ht
   ·exact hI.texts t ht
   ·simp at ht;subst ht;simp
  ·intro t ht
   have e1:(o.map Tok.left).getLast?=some t.left:=by rw[List.getLast?_map,ht];rfl
   rw[hlf,List.map_append,List.map_singleton,List.getLast?_concat] at e1
   simp at e1
   show b=_
   rw[hb2,hl,←e1]
theorem step_sign {c:UInt8} {r:L} (hl:σ.l=c::r) (hI:Inv S σ) (hs:Lx.step σ.l σ.ts σ.hs=(match Lx.sign (c::r) with | some (t,r')=>.more r' (σ.ts++[⟨2,t,[],nl (c::r)⟩]) σ.hs | none=>.fail 20 (nl (c::r)))) (h0:0<B) (hg0:Sgn W) (h:Mem W B g S σ):Calls Tryz.prog 40 #[.pointer (some ⟨g,0,none⟩)] W (StepR B g S W (Lx.step σ.l σ.ts σ.hs)):=by
 obtain⟨b,hb,hb2,hS⟩:=h.line
 have hr:=hI.room
 refine(sign_v B g S σ b hb (by omega) W h h0 hg0).mono ?_
 intro e W' hw
 rw[hs]
 rw[hl] at hw
 cases hx:Lx.sign (c::r) with
 | none=>
  rw[hx] at hw
  obtain⟨h1,h2⟩:=hw
  exact⟨by rw[h1,hb2,hl];rfl,h2⟩
 | some x=>
  obtain⟨t,r'⟩:=x
  rw[hx] at hw
  obtain⟨h1,h2,h3⟩:=hw
  have hlt:=Lx.sign_lt hx
  have htl:t.length≤2:=by
   have:=Lx.sign_in hx
   simp[Lx.signs] at this
   rcases this with rfl | rfl | rfl | rfl | rfl | rfl | rfl | rfl | rfl | rfl | rfl <;> simp
  rw[hl] at h2
  exact⟨h1,⟨{ σ with b:=b,l:=r',ts:=σ.ts++[⟨2,t,[],nl (c::r)⟩] },rfl,rfl,rfl,hI.snoc hl (by rw[hl];exact hlt) ⟨2,t,[],nl (c::r)⟩ (by simp only;omega) b (by rw[hb2,hl]) _ rfl rfl rfl rfl hI.deep,h2⟩,h3⟩
end
end Go.Proofs.YtkkchkkpnlnbgaaGreatDoor
