/- The lexer's reader: the parts of a word that hold no others. No premises. -/
import Derived.Test.YtkkchkkpnlnbgaaGreatDoorNf
import Derived.Test.YtkkchkkpnlnbgaaGreatDoorNc
set_option maxRecDepth 100000
namespace Go.Proofs.YtkkchkkpnlnbgaaGreatDoor
open Go.RowKit Go.Maps
open Lx (nl Tok R sq ar up part pre)
def St.to (σ:St) (k:Nat) (r t:L):St:={ σ with l:=r,q:=σ.q++t,j:=decide (r.length+(σ.q++t).length≠k) }
structure Nm (k:Nat) (σ:St):Prop where
 j:σ.j=decide (σ.l.length+σ.q.length≠k)
 le:σ.l.length+σ.q.length≤k
 top:k≤4096
theorem Nm.to_ {k:Nat} {σ:St} (h:Nm k σ) {r t:L} (hr:r.length+(σ.q++t).length≤k):Nm k (σ.to k r t):=⟨rfl,hr,h.top⟩
theorem St.to_to (σ:St) (k:Nat) (r t r' t':L):(σ.to k r t).to k r' t'=σ.to k r' (t++t'):=by simp[St.to]
theorem Nm.self {k:Nat} {σ:St} (h:Nm k σ):σ.to k σ.l []=σ:=by
 cases σ
 have hj:=h.j
 simp only at hj
 unfold St.to
 simp only[List.append_nil]
 rw[hj]
def Fin (B g:Nat) (S:L) (σ:St) (k:Nat) (W:World) (x:R) (e:Ending) (W':World):Prop:=
 match x with
 | .ok (t,r)=>e=.returned (.tuple #[])∧Mem W' B g S (σ.to k r t)∧Below B W W'∧r.length+(σ.q++t).length≤k
 | .error n=>e=.panicked (flt n σ.b)∧Below B W W'
theorem take_k (B g:Nat) (S:L) (k:Nat) (σ:St) (c:UInt8) (r:L) (hl:σ.l=c::r) (hn:Nm k σ) (W:World) (h:Mem W B g S σ):Calls Tryz.prog 89 #[.pointer (some ⟨g,0,none⟩)] W fun e W'=>e=.returned (.int .u8 (c.toNat:Int))∧Mem W' B g S (σ.to k r [c])∧Below B W W'∧r.length+(σ.q++[c]).length≤k:=by
 have hle:=hn.le
 have hj:=hn.j
 have htop:=hn.top
 rw[hl] at hle hj
 simp only[List.length_cons] at hle hj
 refine(take_v B g S σ c r hl (by omega) W h).mono ?_
 rintro e W' ⟨h1,h2,h3⟩
 refine⟨h1,?_,h3,by simp only[List.length_append,List.length_cons,List.length_nil];omega⟩
 have e1:σ.to k r [c]={ σ with l:=r,q:=σ.q++[c] }:=by
  unfold St.to
  rw[hj]
  simp only[List.length_append,List.length_cons,List.length_nil]
  congr 2
  rw[show r.length+(σ.q.length+(0+1))=r.length+1+σ.q.length by omega]
 rw[e1]
 exact h2
def escM:L→R
 | []=>.error 20
 | b::q=>.ok (if b=10 then [] else [92,b],q)
theorem escape_v (B g:Nat) (S:L) (k:Nat) (σ:St) (r:L) (hl:σ.l=92::r) (hn:Nm k σ) (W:World) (h:Mem W B g S σ):Calls Tryz.prog 41 #[.pointer (some ⟨g,0,none⟩)] W (Fin B g S σ k W (escM r)):=by
 have hle:=hn.le
 rw[hl] at hle
 simp only[List.length_cons] at hle
 match r,hl,hle with
 | [],hl,hle=>
  have HJ:=Lib.hid (passJoin_no B g S σ (by rw[hl];rfl) W h)
  have HT:=Lib.hid (fun m=>take_k B g S k σ 92 [] hl hn (W.drewN m) (h.drewN m))
  clear h hl hle
  go_enter Tryz.func41,Tryz.ntmps41
  go_wp2_with (first
   |(go_at_call 84;(with_reducible refine HJ.out.mono ?_);rintro e w1 ⟨rfl,m,rfl⟩)
   |(go_at_call 89;first | ((with_reducible refine(HT.out _).mono ?_);rintro e w2 ⟨rfl,hm2,hb2,hk2⟩;have HT2:=Lib.hid (take_bad B g S (σ.to k [] [92]) rfl w2 hm2);have HB2:=Lib.hid hb2;clear hm2 hb2) | ((with_reducible refine HT2.out.mono ?_);rintro e w3 ⟨rfl,m3,rfl⟩)))
  exact bodyPost_panic rfl ⟨rfl,((Below.drewN _ _ _).trans HB2.out).trans (Below.drewN _ _ _)⟩
 | b::q,hl,hle=>
  simp only[List.length_cons] at hle
  by_cases hb:b=10
  ·subst hb
   have HJ:=Lib.hid (passJoin_v B g S σ q hl W h)
   have HN:=Lib.hid hn
   have HLE:=Lib.hid hle
   clear h hl hn hle
   go_enter Tryz.func41,Tryz.ntmps41
   go_wp2_with (first
    |(go_at_call 84;(with_reducible refine HJ.out.mono ?_);rintro e w1 ⟨rfl,⟨p,n,vt,vh,vx,ms,mp,hm⟩,hb⟩;obtain⟨⟨_,_,_,_,_,_,_,c7,_⟩,hz⟩:=hm.facts;have HM:=Lib.hid hm;have HB:=Lib.hid hb;clear hm hb))
   go_end0
   have hto:σ.to k q []={ σ with l:=q,j:=true }:=by
    unfold St.to
    simp only[List.append_nil]
    congr 1
    have:=HLE.out
    exact decide_eq_true (by omega)
   refine⟨rfl,?_,HB.out.setCell HM.out.low _,by have:=HLE.out;simp only[if_pos,List.append_nil];omega⟩
   rw[if_pos rfl,hto]
   exact(HM.out.set 7 _ (σ':={ σ with l:=q,j:=true }) (by simp) HM.out.cut HM.out.at_ HM.out.ln rfl rfl rfl).mem
  ·have HJ:=Lib.hid (passJoin_no B g S σ (by rw[hl];simp[List.isPrefixOf];intro e;exact absurd e.symm hb) W h)
   have HT:=Lib.hid (fun m=>take_k B g S k σ 92 (b::q) hl hn (W.drewN m) (h.drewN m))
   have HN:=Lib.hid hn
   have HNB:=Lib.hid hb
   clear h hl hn hle hb
   go_enter Tryz.func41,Tryz.ntmps41
   go_wp2_with (first
    |(go_at_call 84;(with_reducible refine HJ.out.mono ?_);rintro e w1 ⟨rfl,m,rfl⟩)
    |(go_at_call 89;first | ((with_reducible refine(HT.out _).mono ?_);rintro e w2 ⟨rfl,hm2,hb2,hk2⟩;have HT2:=Lib.hid (take_k B g S k (σ.to k (b::q) [92]) b q rfl (HN.out.to_ hk2) w2 hm2);have HB2:=Lib.hid hb2;clear hm2 hb2) | ((with_reducible refine HT2.out.mono ?_);rintro e w3 ⟨rfl,hm3,hb3,hk3⟩)))
   go_end0
   rw[St.to_to] at hm3
   show Fin B g S σ k W (.ok (if b=10 then [] else [92,b],q)) _ _
   rw[if_neg HNB.out]
   exact⟨rfl,hm3,((Below.drewN _ _ _).trans HB2.out).trans hb3,by simpa [St.to] using hk3⟩
def sqM (r:L):R:=match sq r with | none=>.error 20 | some (t,q)=>.ok (39::t,q)
theorem single_v (B g:Nat) (S:L) (k:Nat) (σ:St) (r:L) (hl:σ.l=39::r) (hn:Nm k σ) (W:World) (h:Mem W B g S σ):Calls Tryz.prog 42 #[.pointer (some ⟨g,0,none⟩)] W (Fin B g S σ k W (sqM r)):=by
 have HT:=Lib.hid (take_k B g S k σ 39 r hl hn W h)
 have HN:=Lib.hid hn
 clear h hl hn
 go_enter Tryz.func42,Tryz.ntmps42
 go_wp2_with (first
  |(go_at_call 89;(with_reducible refine HT.out.mono ?_);rintro e w2 ⟨rfl,hm2,hb2,hk2⟩;have HM2:=Lib.hid hm2;have HB2:=Lib.hid hb2;have HK2:=Lib.hid hk2;clear hm2 hb2 hk2))
 go_loopw [] (fun wr=>∃ (l' t0:L),sq r=(sq l').map (fun p=>(t0++p.1,p.2))∧Mem wr B g S (σ.to k l' (39::t0))∧Below B W wr∧l'.length+(σ.q++39::t0).length≤k) (fun wr=>S.length-atOf g wr)
 case atStart=>exact⟨r,[],by simp,HM2.out,HB2.out,HK2.out⟩
 case round=>
  obtain⟨l',t0,hs,hm,hb,hk⟩:=hrel
  have HS:=Lib.hid hs
  have HM:=Lib.hid hm
  have HB:=Lib.hid hb
  have HK:=Lib.hid hk
  clear hs hb
  cases l' with
  | nil=>
   have HT:=Lib.hid (take_bad B g S (σ.to k [] (39::t0)) rfl wr hm)
   clear hm hk
   go_wp2_with (first
    |(go_at_call 89;(with_reducible refine HT.out.mono ?_);rintro e w2 ⟨rfl,m,rfl⟩))
   refine bodyPost_panic rfl ?_
   unfold sqM
   rw[HS.out]
   exact⟨rfl,HB.out.trans (Below.drewN _ _ _)⟩
  | cons c l''=>
   have HT:=Lib.hid (take_k B g S k (σ.to k (c::l'') (39::t0)) c l'' rfl (HN.out.to_ hk) wr hm)
   clear hm hk
   by_cases hc:c=39
   ·have h39:((c.toNat:Int) != 39)=false:=byt_nne 39 hc
    go_wp2_with (first
     |(go_at_call 89;(with_reducible refine HT.out.mono ?_);rintro e w2 ⟨rfl,hm2,hb2,hk2⟩;have HM2:=Lib.hid hm2;have HB2:=Lib.hid hb2;have HK2:=Lib.hid hk2;clear hm2 hb2 hk2))
    go_end0
    unfold sqM
    rw[HS.out,sq,if_pos hc]
    have hm:=HM2.out
    rw[St.to_to,hc] at hm
    have hk:=HK2.out
    exact⟨rfl,hm,HB.out.trans HB2.out,by rw[hc] at hk;simpa [St.to] using hk⟩
   ·have h39:((c.toNat:Int) != 39)=true:=byt_neq 39 hc
    go_wp2_with (first
     |(go_at_call 89;(with_reducible refine HT.out.mono ?_);rintro e w2 ⟨rfl,hm2,hb2,hk2⟩;have HM2:=Lib.hid hm2;have HB2:=Lib.hid hb2;have HK2:=Lib.hid hk2;clear hm2 hb2 hk2))
    go_roundw
    case rel=>
     have hm:=HM2.out
     rw[St.to_to] at hm
     have hk:=HK2.out
     refine⟨l'',t0++[c],?_,hm,HB.out.trans HB2.out,by simpa [St.to] using hk⟩
     rw[HS.out,sq,if_neg hc,Option.map_map]
     congr 1
     funext p
     simp
    case measure=>rw[HM2.out.left,HM.out.left];simp[St.to]
end Go.Proofs.YtkkchkkpnlnbgaaGreatDoor
namespace Go.Proofs.YtkkchkkpnlnbgaaGreatDoor
open Go.RowKit Go.Maps
open Lx (nl Tok R sq ar up part pre)
def arM (r:L):R:=match ar 0 r with | none=>.error 20 | some (t,q)=>.ok (36::40::40::t,q)
theorem ar_step (o:Nat) (c:UInt8) (l:L) (h:¬ (c=41∧o=0)):ar o (c::l)=(ar (if c=41 then o-1 else if c=40 then o+1 else o) l).map fun p=>(c::p.1,p.2):=by
 by_cases h1:c=41
 ·cases o with
  | zero=>exact absurd ⟨h1,rfl⟩ h
  | succ o=>simp[ar,h1]
 ·simp[ar,h1]
theorem map_more (t0:L) (c:UInt8) (x:Option (L×L)):(x.map fun p=>(c::p.1,p.2)).map (fun p=>(t0++p.1,p.2))=x.map fun p=>((t0++[c])++p.1,p.2):=by
 rw[Option.map_map];congr 1;funext p;simp
theorem reckoned_v (B g:Nat) (S:L) (k:Nat) (σ:St) (r:L) (hl:σ.l=36::40::40::r) (hn:Nm k σ) (W:World) (h:Mem W B g S σ):Calls Tryz.prog 92 #[.pointer (some ⟨g,0,none⟩)] W (Fin B g S σ k W (arM r)):=by
 have H:=Lib.hid h
 have HN:=Lib.hid hn
 have HL:=Lib.hid hl
 have hle:=hn.le
 have htop:=hn.top
 have hrl:r.length≤4093:=by rw[hl] at hle;simp only[List.length_cons] at hle;omega
 clear h hl hn
 go_enter Tryz.func92,Tryz.ntmps92
 go_wp2
 go_loopw [3] (fun i wr=>∃ m:Nat,m≤3∧i=.int .i64 (m:Int)∧Mem wr B g S (σ.to k (σ.l.drop m) (σ.l.take m))∧Below B W wr∧(σ.l.drop m).length+(σ.q++σ.l.take m).length≤k) (fun i _=>3-(intOf i).toNat)
 case atStart=>exact⟨0,by omega,rfl,by simpa [HN.out.self] using H.out,Below.refl _ _,by simpa using hle⟩
 case round=>
  obtain⟨m,hm3,rfl,hm,hb,hk⟩:=hrel
  have HM:=Lib.hid hm
  have HB:=Lib.hid hb
  have HK:=Lib.hid hk
  clear hb
  by_cases hlt:m<3
  ·have hll:m<σ.l.length:=by rw[HL.out];simp;omega
   have hd:=List.drop_eq_getElem_cons hll
   have e1:σ.l.take m++[σ.l[m]'hll]=σ.l.take (m+1):=by rw[List.take_succ_eq_append_getElem hll]
   obtain⟨c,hc⟩:∃ c,c=σ.l[m]'hll:=⟨_,rfl⟩
   rw[←hc] at hd e1
   have HT:=Lib.hid (take_k B g S k (σ.to k (σ.l.drop m) (σ.l.take m)) c (σ.l.drop (m+1)) hd (HN.out.to_ hk) wr hm)
   have HE:=Lib.hid e1
   clear hm hk hd hc hll e1
   go_wp2_with (first
    |(go_at_call 89;(with_reducible refine HT.out.mono ?_);rintro e w2 ⟨rfl,hm2,hb2,hk2⟩;have HM2:=Lib.hid hm2;have HB2:=Lib.hid hb2;have HK2:=Lib.hid hk2;clear hm2 hb2 hk2))
   go_roundw
   case rel=>
    have hm:=HM2.out
    rw[St.to_to,HE.out] at hm
    have hk:=HK2.out
    refine⟨m+1,by omega,by go_num,hm,HB.out.trans HB2.out,?_⟩
    rw[←HE.out]
    simpa [St.to] using hk
   case measure=>simp[intOf];omega
  ·have hm33:m=3:=by omega
   have e1:σ.l.drop m=r:=by rw[HL.out,hm33];rfl
   have e2:σ.l.take m=[36,40,40]:=by rw[HL.out,hm33];rfl
   rw[e1,e2] at HM HK
   clear hm hk e1 e2 hm33
   go_wp2
   go_loopw [2] (fun i wr=>∃ (o:Nat) (l' t0:L),i=.int .i64 (o:Int)∧o+l'.length≤r.length∧ar 0 r=(ar o l').map (fun p=>(t0++p.1,p.2))∧Mem wr B g S (σ.to k l' ([36,40,40]++t0))∧Below B W wr∧l'.length+(σ.q++([36,40,40]++t0)).length≤k) (fun _ wr=>S.length-atOf g wr)
   case atStart=>exact⟨0,r,[],rfl,by omega,by simp,HM.out,HB.out,HK.out⟩
   case round=>
    obtain⟨o,l',t0,rfl,hol,hs,hm,hb,hk⟩:=hrel
    have HS:=Lib.hid hs
    have HM:=Lib.hid hm
    have HB:=Lib.hid hb
    have HK:=Lib.hid hk
    clear hs hb
    by_cases ho:0<o
    ·have ho0:(0:Int)<(o:Int):=by omega
     cases l' with
     | nil=>
      have HT:=Lib.hid (take_bad B g S _ rfl wr hm)
      clear hm hk
      go_wp2_with (first
       |(go_at_call 89;(with_reducible refine HT.out.mono ?_);rintro e w2 ⟨rfl,m,rfl⟩))
      refine bodyPost_panic rfl ?_
      unfold arM
      rw[HS.out]
      exact⟨rfl,HB.out.trans (Below.drewN _ _ _)⟩
     | cons c l''=>
      have HT:=Lib.hid (take_k B g S k (σ.to k (c::l'') ([36,40,40]++t0)) c l'' rfl (HN.out.to_ hk) wr hm)
      have hst:=ar_step o c l'' (by rintro⟨_,e⟩;omega)
      have HST:=Lib.hid hst
      simp only[List.length_cons] at hol
      clear hm hk hst
      by_cases hc:c=41
      ·have h41:((c.toNat:Int)==41)=true:=byt_eq 41 hc
       have h40:((c.toNat:Int)==40)=false:=byt_ne 40 (by rw[hc];decide)
       go_wp2_with (first
        |(go_at_call 89;(with_reducible refine HT.out.mono ?_);rintro e w2 ⟨rfl,hm2,hb2,hk2⟩;have HM2:=Lib.hid hm2;have HB2:=Lib.hid hb2;have HK2:=Lib.hid hk2;clear hm2 hb2 hk2))
       go_roundw
       case rel=>
        have hm:=HM2.out
        rw[St.to_to] at hm
        have hk:=HK2.out
        refine⟨o-1,l'',t0++[c],int_eq (by omega),by omega,?_,by rw[←List.append_assoc];exact hm,HB.out.trans HB2.out,by simpa [St.to] using hk⟩
        rw[HS.out,HST.out,map_more,if_pos hc]
       case measure=>rw[HM2.out.left,HM.out.left];simp[St.to]
      ·have h41:((c.toNat:Int)==41)=false:=byt_ne 41 hc
       by_cases hc2:c=40
       ·have h40:((c.toNat:Int)==40)=true:=byt_eq 40 hc2
        go_wp2_with (first
         |(go_at_call 89;(with_reducible refine HT.out.mono ?_);rintro e w2 ⟨rfl,hm2,hb2,hk2⟩;have HM2:=Lib.hid hm2;have HB2:=Lib.hid hb2;have HK2:=Lib.hid hk2;clear hm2 hb2 hk2))
        go_roundw
        case rel=>
         have hm:=HM2.out
         rw[St.to_to] at hm
         have hk:=HK2.out
         refine⟨o+1,l'',t0++[c],int_eq (by omega),by omega,?_,by rw[←List.append_assoc];exact hm,HB.out.trans HB2.out,by simpa [St.to] using hk⟩
         rw[HS.out,HST.out,map_more,if_neg hc,if_pos hc2]
        case measure=>rw[HM2.out.left,HM.out.left];simp[St.to]
       ·have h40:((c.toNat:Int)==40)=false:=byt_ne 40 hc2
        go_wp2_with (first
         |(go_at_call 89;(with_reducible refine HT.out.mono ?_);rintro e w2 ⟨rfl,hm2,hb2,hk2⟩;have HM2:=Lib.hid hm2;have HB2:=Lib.hid hb2;have HK2:=Lib.hid hk2;clear hm2 hb2 hk2))
        go_roundw
        case rel=>
         have hm:=HM2.out
         rw[St.to_to] at hm
         have hk:=HK2.out
         refine⟨o,l'',t0++[c],rfl,by omega,?_,by rw[←List.append_assoc];exact hm,HB.out.trans HB2.out,by simpa [St.to] using hk⟩
         rw[HS.out,HST.out,map_more,if_neg hc,if_neg hc2]
        case measure=>rw[HM2.out.left,HM.out.left];simp[St.to]
    ·have ho0:¬ (0:Int)<(o:Int):=by omega
     obtain rfl:o=0:=by omega
     cases l' with
     | nil=>
      have HT:=Lib.hid (peek_bad B g S _ rfl wr hm)
      clear hm hk
      go_wp2_with (first
       |(go_at_call 47;(with_reducible refine HT.out.mono ?_);rintro e w2 ⟨rfl,m,rfl⟩))
      refine bodyPost_panic rfl ?_
      unfold arM
      rw[HS.out]
      exact⟨rfl,HB.out.trans (Below.drewN _ _ _)⟩
     | cons c l''=>
      have HP:=Lib.hid (peek_v B g S _ c l'' rfl wr hm)
      have HT:=Lib.hid (fun m=>take_k B g S k (σ.to k (c::l'') ([36,40,40]++t0)) c l'' rfl (HN.out.to_ hk) (wr.drewN m) (hm.drewN m))
      simp only[List.length_cons] at hol
      clear hm hk
      by_cases hc:c=41
      ·have h41:((c.toNat:Int) != 41)=false:=byt_nne 41 hc
       cases l'' with
       | nil=>
        go_wp2_with (first
         |(go_at_call 47;(with_reducible refine HP.out.mono ?_);rintro e w2 ⟨rfl,m,rfl⟩)
         |(go_at_call 89;first | ((with_reducible refine(HT.out _).mono ?_);rintro e w2 ⟨rfl,hm2,hb2,hk2⟩;have HT2:=Lib.hid (take_bad B g S _ rfl w2 hm2);have HB2:=Lib.hid hb2;clear hm2 hb2 hk2) | ((with_reducible refine HT2.out.mono ?_);rintro e w3 ⟨rfl,m3,rfl⟩)))
        refine bodyPost_panic rfl ?_
        unfold arM
        rw[HS.out]
        simp only[ar,if_pos hc,Option.map_none]
        exact⟨rfl,(HB.out.trans ((Below.drewN _ _ _).trans HB2.out)).trans (Below.drewN _ _ _)⟩
       | cons b q'=>
        by_cases hb41:b=41
        ·have h42:((b.toNat:Int) != 41)=false:=byt_nne 41 hb41
         go_wp2_with (first
          |(go_at_call 47;(with_reducible refine HP.out.mono ?_);rintro e w2 ⟨rfl,m,rfl⟩)
          |(go_at_call 89;first | ((with_reducible refine(HT.out _).mono ?_);rintro e w2 ⟨rfl,hm2,hb2,hk2⟩;have HT2:=Lib.hid (take_k B g S k ((σ.to k (c::b::q') ([36,40,40]++t0)).to k (b::q') [c]) b q' rfl ((HN.out.to_ HK.out).to_ hk2) w2 hm2);have HB2:=Lib.hid hb2;clear hm2 hb2 hk2) | ((with_reducible refine HT2.out.mono ?_);rintro e w3 ⟨rfl,hm3,hb3,hk3⟩)))
         go_end0
         rw[St.to_to,St.to_to] at hm3
         have e9:ar 0 r=some (t0++[41,41],q'):=by rw[HS.out];simp[ar,hc,hb41]
         unfold arM
         rw[e9]
         have e8:[36,40,40]++t0++([c]++[b])=36::40::40::(t0++[41,41]):=by rw[hc,hb41];simp
         have e7:σ.q++([36,40,40]++t0)++[c]++[b]=σ.q++36::40::40::(t0++[41,41]):=by rw[hc,hb41];simp
         have hm4:Mem w3 B g S (σ.to k q' ([36,40,40]++t0++([c]++[b]))):=by simpa using hm3
         rw[e8] at hm4
         refine⟨rfl,hm4,(HB.out.trans ((Below.drewN _ _ _).trans HB2.out)).trans hb3,?_⟩
         rw[←e7]
         exact hk3
        ·have h42:((b.toNat:Int) != 41)=true:=byt_neq 41 hb41
         go_wp2_with (first
          |(go_at_call 47;(with_reducible refine HP.out.mono ?_);rintro e w2 ⟨rfl,m,rfl⟩)
          |(go_at_call 89;first | ((with_reducible refine(HT.out _).mono ?_);rintro e w2 ⟨rfl,hm2,hb2,hk2⟩;have HT2:=Lib.hid (take_k B g S k ((σ.to k (c::b::q') ([36,40,40]++t0)).to k (b::q') [c]) b q' rfl ((HN.out.to_ HK.out).to_ hk2) w2 hm2);have HB2:=Lib.hid hb2;clear hm2 hb2 hk2) | ((with_reducible refine HT2.out.mono ?_);rintro e w3 ⟨rfl,hm3,hb3,hk3⟩;have HB3:=Lib.hid hb3;have HR:=Lib.hid (refuse_v B g S _ w3 hm3);clear hm3 hb3 hk3))
          |(go_at_call 45;(with_reducible refine HR.out.mono ?_);rintro e w4 ⟨rfl,rfl⟩))
         refine bodyPost_panic rfl ?_
         unfold arM
         rw[HS.out]
         simp only[ar,if_pos hc,if_neg hb41,Option.map_none]
         exact⟨rfl,(HB.out.trans ((Below.drewN _ _ _).trans HB2.out)).trans HB3.out⟩
      ·have h41:((c.toNat:Int) != 41)=true:=byt_neq 41 hc
       have h43:((c.toNat:Int)==41)=false:=byt_ne 41 hc
       have HST:=Lib.hid (ar_step 0 c l'' (by rintro⟨e,_⟩;exact hc e))
       by_cases hc2:c=40
       ·have h40:((c.toNat:Int)==40)=true:=byt_eq 40 hc2
        go_wp2_with (first
         |(go_at_call 47;(with_reducible refine HP.out.mono ?_);rintro e w2 ⟨rfl,m,rfl⟩)
         |(go_at_call 89;(with_reducible refine(HT.out _).mono ?_);rintro e w2 ⟨rfl,hm2,hb2,hk2⟩;have HM2:=Lib.hid hm2;have HB2:=Lib.hid hb2;have HK2:=Lib.hid hk2;clear hm2 hb2 hk2))
        go_roundw
        case rel=>
         have hm:=HM2.out
         rw[St.to_to] at hm
         have hk:=HK2.out
         refine⟨1,l'',t0++[c],by first | rfl | simp,by omega,?_,by rw[←List.append_assoc];exact hm,HB.out.trans ((Below.drewN _ _ _).trans HB2.out),by simpa [St.to] using hk⟩
         rw[HS.out,HST.out,map_more,if_neg hc,if_pos hc2]
        case measure=>rw[HM2.out.left,HM.out.left];simp[St.to]
       ·have h40:((c.toNat:Int)==40)=false:=byt_ne 40 hc2
        go_wp2_with (first
         |(go_at_call 47;(with_reducible refine HP.out.mono ?_);rintro e w2 ⟨rfl,m,rfl⟩)
         |(go_at_call 89;(with_reducible refine(HT.out _).mono ?_);rintro e w2 ⟨rfl,hm2,hb2,hk2⟩;have HM2:=Lib.hid hm2;have HB2:=Lib.hid hb2;have HK2:=Lib.hid hk2;clear hm2 hb2 hk2))
        go_roundw
        case rel=>
         have hm:=HM2.out
         rw[St.to_to] at hm
         have hk:=HK2.out
         refine⟨0,l'',t0++[c],by first | rfl | simp,by omega,?_,by rw[←List.append_assoc];exact hm,HB.out.trans ((Below.drewN _ _ _).trans HB2.out),by simpa [St.to] using hk⟩
         rw[HS.out,HST.out,map_more,if_neg hc,if_neg hc2]
        case measure=>rw[HM2.out.left,HM.out.left];simp[St.to]
end Go.Proofs.YtkkchkkpnlnbgaaGreatDoor
namespace Go.Proofs.YtkkchkkpnlnbgaaGreatDoor
open Go.RowKit Go.Maps
open Lx (nl Tok R sq ar up pre)
def Parts (B g:Nat) (S:L) (k n:Nat):Prop:=∀ (σ:St) (W:World),σ.l.length<n→σ.l≠[]→Nm k σ→σ.d≤8→Mem W B g S σ→Calls Tryz.prog 90 #[.pointer (some ⟨g,0,none⟩)] W (Fin B g S σ k W (Lx.part σ.d σ.l))
theorem pre_pre (a b:L) (x:R):pre a (pre b x)=pre (a++b) x:=by
 cases x with
 | error e=>rfl
 | ok p=>obtain⟨u,r⟩:=p;simp
theorem part_nil (d:Nat):Lx.part d []=.error 20:=by rw[Lx.part_at];rfl
theorem up_nil (d:Nat) (z:UInt8) (q:Bool):up d z q []=.error 20:=by
 rw[Lx.up_at,part_nil]
 simp
theorem double_v (B g:Nat) (S:L) (k:Nat) (σ:St) (r:L) (hl:σ.l=34::r) (hn:Nm k σ) (hd:σ.d≤8) (ih:Parts B g S k σ.l.length) (W:World) (h:Mem W B g S σ):Calls Tryz.prog 43 #[.pointer (some ⟨g,0,none⟩)] W (Fin B g S σ k W (pre [34] (up σ.d 34 true r))):=by
 have HT:=Lib.hid (take_k B g S k σ 34 r hl hn W h)
 have HN:=Lib.hid hn
 have HD:=Lib.hid hd
 have HI:=Lib.hid ih
 have HLL:=Lib.hid (show σ.l.length=r.length+1 by rw[hl];simp)
 clear h hl hn hd ih
 go_enter Tryz.func43,Tryz.ntmps43
 go_wp2_with (first
  |(go_at_call 89;(with_reducible refine HT.out.mono ?_);rintro e w2 ⟨rfl,hm2,hb2,hk2⟩;have HM2:=Lib.hid hm2;have HB2:=Lib.hid hb2;have HK2:=Lib.hid hk2;clear hm2 hb2 hk2))
 go_loopw [] (fun wr=>∃ (l' t0:L),l'.length≤r.length∧pre [34] (up σ.d 34 true r)=pre ([34]++t0) (up σ.d 34 true l')∧Mem wr B g S (σ.to k l' ([34]++t0))∧Below B W wr∧l'.length+(σ.q++([34]++t0)).length≤k) (fun wr=>S.length-atOf g wr)
 case atStart=>exact⟨r,[],Nat.le_refl _,by simp,HM2.out,HB2.out,HK2.out⟩
 case round=>
  obtain⟨l',t0,hll,hs,hm,hb,hk⟩:=hrel
  have HS:=Lib.hid hs
  have HM:=Lib.hid hm
  have HB:=Lib.hid hb
  have HK:=Lib.hid hk
  have HL':=Lib.hid hll
  clear hs hb hll
  cases l' with
  | nil=>
   have HT:=Lib.hid (peek_bad B g S _ rfl wr hm)
   clear hm hk
   go_wp2_with (first
    |(go_at_call 47;(with_reducible refine HT.out.mono ?_);rintro e w2 ⟨rfl,m,rfl⟩))
   refine bodyPost_panic rfl ?_
   rw[HS.out,up_nil]
   exact⟨rfl,HB.out.trans (Below.drewN _ _ _)⟩
  | cons c l''=>
   have HP:=Lib.hid (fun m=>peek_v B g S (σ.to k (c::l'') ([34]++t0)) c l'' rfl (wr.drewN m) (hm.drewN m))
   have hP0:=HP.out 0
   rw[World.drewN_zero] at hP0
   have HP0:=Lib.hid hP0
   have HT:=Lib.hid (fun m=>take_k B g S k (σ.to k (c::l'') ([34]++t0)) c l'' rfl (HN.out.to_ hk) (wr.drewN m) (hm.drewN m))
   clear hm hk hP0
   by_cases hc:c=34
   ·have h34:((c.toNat:Int) != 34)=false:=byt_nne 34 hc
    go_wp2_with (first
     |(go_at_call 47;(with_reducible refine HP0.out.mono ?_);rintro e w2 ⟨rfl,m,rfl⟩)
     |(go_at_call 89;(with_reducible refine(HT.out _).mono ?_);rintro e w2 ⟨rfl,hm2,hb2,hk2⟩;have HM2:=Lib.hid hm2;have HB2:=Lib.hid hb2;have HK2:=Lib.hid hk2;clear hm2 hb2 hk2))
    go_end0
    rw[HS.out,Lx.up_at,hc]
    have hm:=HM2.out
    rw[St.to_to,hc] at hm
    have hk:=HK2.out
    rw[hc] at hk
    exact⟨rfl,hm,HB.out.trans ((Below.drewN _ _ _).trans HB2.out),by simpa [St.to] using hk⟩
   ·have h34:((c.toNat:Int) != 34)=true:=byt_neq 34 hc
    by_cases hc2:c=39
    ·have h39:((c.toNat:Int)==39)=true:=byt_eq 39 hc2
     go_wp2_with (first
      |(go_at_call 47;(first | (with_reducible refine HP0.out.mono ?_) | (with_reducible refine(HP.out _).mono ?_));rintro e w2 ⟨rfl,m,rfl⟩)
      |(go_at_call 89;(with_reducible refine(HT.out _).mono ?_);rintro e w2 ⟨rfl,hm2,hb2,hk2⟩;have HM2:=Lib.hid hm2;have HB2:=Lib.hid hb2;have HK2:=Lib.hid hk2;clear hm2 hb2 hk2))
     go_roundw
     case rel=>
      have hm:=HM2.out
      rw[St.to_to] at hm
      have hk:=HK2.out
      refine⟨l'',t0++[c],by have:=HL'.out;simp only[List.length_cons] at this;omega,?_,by rw[←List.append_assoc];exact hm,HB.out.trans ((Below.drewN _ _ _).trans HB2.out),by simpa [St.to] using hk⟩
      rw[HS.out,Lx.up_at]
      simp[hc2,pre_pre]
     case measure=>rw[HM2.out.left,HM.out.left];simp[St.to]
    ·have h39:((c.toNat:Int)==39)=false:=byt_ne 39 hc2
     have hpart:=fun m=>HI.out (σ.to k (c::l'') ([34]++t0)) (wr.drewN m) (by have:=HL'.out;have:=HLL.out;simp only[St.to];omega) (by simp[St.to]) (HN.out.to_ HK.out) HD.out (HM.out.drewN m)
     have hup:pre ([34]++t0) (up σ.d 34 true (c::l''))=(match Lx.part σ.d (c::l'') with | .error e=>.error e | .ok (t,r)=>pre (([34]++t0)++t) (up σ.d 34 true r)):=by
      rw[Lx.up_at,if_neg (by simpa using hc),if_neg (by simpa using hc2)]
      cases Lx.part σ.d (c::l'') with
      | error e=>rfl
      | ok x=>obtain⟨t,r⟩:=x;simp only[pre_pre]
     have e0:(σ.to k (c::l'') ([34]++t0)).d=σ.d:=rfl
     have e1:(σ.to k (c::l'') ([34]++t0)).l=c::l'':=rfl
     rw[e0,e1] at hpart
     have HU:=Lib.hid hup
     cases hpt:Lx.part σ.d (c::l'') with
     | error n=>
      rw[hpt] at hpart
      have HPT:=Lib.hid hpart
      have HEQ:=Lib.hid hpt
      clear hpart hpt hup e0 e1
      go_wp2_with (first
       |(go_at_call 47;(first | (with_reducible refine HP0.out.mono ?_) | (with_reducible refine(HP.out _).mono ?_));rintro e w2 ⟨rfl,m,rfl⟩)
       |(go_at_call 90;(with_reducible refine(HPT.out _).mono ?_);rintro e w2 ⟨rfl,hb2⟩;have HB2:=Lib.hid hb2;clear hb2))
      refine bodyPost_panic rfl ?_
      rw[HS.out,HU.out,HEQ.out]
      exact⟨rfl,HB.out.trans ((Below.drewN _ _ _).trans HB2.out)⟩
     | ok x=>
      obtain⟨t,r'⟩:=x
      rw[hpt] at hpart
      have HPT:=Lib.hid hpart
      have HEQ:=Lib.hid hpt
      clear hpart hpt hup e0 e1
      go_wp2_with (first
       |(go_at_call 47;(first | (with_reducible refine HP0.out.mono ?_) | (with_reducible refine(HP.out _).mono ?_));rintro e w2 ⟨rfl,m,rfl⟩)
       |(go_at_call 90;(with_reducible refine(HPT.out _).mono ?_);rintro e w2 ⟨rfl,hm2,hb2,hk2⟩;have HM2:=Lib.hid hm2;have HB2:=Lib.hid hb2;have HK2:=Lib.hid hk2;clear hm2 hb2 hk2))
      go_roundw
      case rel=>
       have hm:=HM2.out
       rw[St.to_to] at hm
       have hk:=HK2.out
       have h3:=Lx.part_len σ.d _ _ _ HEQ.out
       refine⟨r',t0++t,by have:=HL'.out;simp only[List.length_cons] at this h3;omega,?_,by rw[←List.append_assoc];exact hm,HB.out.trans ((Below.drewN _ _ _).trans HB2.out),by simpa [St.to] using hk⟩
       rw[HS.out,HU.out,HEQ.out]
       simp
      case measure=>
       have h3:=Lx.part_len σ.d _ _ _ HEQ.out
       rw[HM2.out.left,HM.out.left];simpa [St.to] using h3
end Go.Proofs.YtkkchkkpnlnbgaaGreatDoor
namespace Go.Proofs.YtkkchkkpnlnbgaaGreatDoor
open Go.RowKit Go.Maps
open Lx (nl Tok R sq ar up pre)
theorem MemX.deep {W:World} {B g p n ms mp:Nat} {S:L} {σ:St} {vt vh vx:Value} (h:MemX W B g S σ p n vt vh vx ms mp) (d:Nat):Mem (W.setCell ⟨g,8,none⟩ (.int .i64 (d:Int))) B g S { σ with d:=d } :=
 (h.set 8 _ (σ':={ σ with d:=d }) (by simp) h.cut h.at_ h.ln rfl rfl rfl).mem
def brM (d:Nat) (q:L):R:=if (d==8)=true then .error 21 else pre [36,123] (up (d+1) 125 false q)
theorem braced_v (B g:Nat) (S:L) (k:Nat) (σ:St) (r:L) (hl:σ.l=36::123::r) (hn:Nm k σ) (hd:σ.d≤8) (ih:Parts B g S k σ.l.length) (W:World) (h:Mem W B g S σ):Calls Tryz.prog 91 #[.pointer (some ⟨g,0,none⟩)] W (Fin B g S σ k W (brM σ.d r)):=by
 obtain⟨d,hdd⟩:∃ d,d=σ.d:=⟨_,rfl⟩
 rw[←hdd] at hd⊢
 by_cases h8:d=8
 ·have HF:=Lib.hid (fail_v B g S σ 21 W h)
  obtain⟨p,n,vt,vh,vx,ms,mp,h⟩:=h
  obtain⟨⟨_,_,_,_,_,_,_,_,c8,_⟩,hz⟩:=h.facts
  rw[←hdd] at c8
  have h88:((d:Int)==8)=true:=by rw[h8];rfl
  unfold brM
  rw[if_pos (by rw[h8];rfl)]
  clear h hl ih
  go_enter Tryz.func91,Tryz.ntmps91
  go_wp2_with (first
   |(go_at_call 93;(with_reducible refine HF.out.mono ?_);rintro e w2 ⟨rfl,rfl⟩))
  exact bodyPost_panic rfl ⟨rfl,Below.refl _ _⟩
 ·obtain⟨p,n,vt,vh,vx,ms,mp,h⟩:=h
  obtain⟨⟨_,_,_,_,_,_,_,_,c8,_⟩,hz⟩:=h.facts
  rw[←hdd] at c8
  have h88:((d:Int)==8)=false:=by simp;omega
  unfold brM
  rw[if_neg (by simpa using h8)]
  have hn1:Nm k { σ with d:=d+1 }:=⟨hn.j,hn.le,hn.top⟩
  have H1:=Lib.hid (h.deep (d+1))
  have HB1:=Lib.hid ((Below.refl B W).setCell (p:=⟨g,8,none⟩) h.low (.int .i64 ((d+1:Nat):Int)))
  have HN:=Lib.hid hn1
  have HI:=Lib.hid ih
  have HD:=Lib.hid (show d+1≤8 by omega)
  have HLL:=Lib.hid (show σ.l.length=r.length+2 by rw[hl];simp)
  have HT:=Lib.hid (take_k B g S k { σ with d:=d+1 } 36 (123::r) hl hn1 _ (h.deep (d+1)))
  have HDD:=Lib.hid hdd
  rw[Int.natCast_add,Int.natCast_one] at H1 HB1 HT
  clear h hl hn hn1 ih hdd
  go_enter Tryz.func91,Tryz.ntmps91
  go_wp2_with (first
   |(go_at_call 89;first | ((with_reducible refine HT.out.mono ?_);rintro e w2 ⟨rfl,hm2,hb2,hk2⟩;have HT2:=Lib.hid (take_k B g S k (St.to { σ with d:=d+1 } k (123::r) [36]) 123 r rfl (HN.out.to_ hk2) w2 hm2);have HB2:=Lib.hid hb2;clear hm2 hb2 hk2) | ((with_reducible refine HT2.out.mono ?_);rintro e w3 ⟨rfl,hm3,hb3,hk3⟩;rw[St.to_to] at hm3;have HM3:=Lib.hid hm3;have HB3:=Lib.hid hb3;have HK3:=Lib.hid hk3;clear hm3 hb3 hk3)))
  go_loopw [] (fun wr=>∃ (l' t0:L),l'.length≤r.length∧pre [36,123] (up (d+1) 125 false r)=pre ([36,123]++t0) (up (d+1) 125 false l')∧Mem wr B g S (St.to { σ with d:=d+1 } k l' ([36,123]++t0))∧Below B W wr∧l'.length+(σ.q++([36,123]++t0)).length≤k) (fun wr=>S.length-atOf g wr)
  case atStart=>exact⟨r,[],Nat.le_refl _,by simp,HM3.out,(HB1.out.trans HB2.out).trans HB3.out,by have:=HK3.out;simpa [St.to] using this⟩
  case round=>
   obtain⟨l',t0,hll,hs,hm,hb,hk⟩:=hrel
   have HS:=Lib.hid hs
   have HM:=Lib.hid hm
   have HB:=Lib.hid hb
   have HK:=Lib.hid hk
   have HL':=Lib.hid hll
   clear hs hb hll
   cases l' with
   | nil=>
    have HT:=Lib.hid (peek_bad B g S _ rfl wr hm)
    clear hm hk
    go_wp2_with (first
     |(go_at_call 47;(with_reducible refine HT.out.mono ?_);rintro e w2 ⟨rfl,m,rfl⟩))
    refine bodyPost_panic rfl ?_
    rw[HS.out,up_nil]
    exact⟨rfl,HB.out.trans (Below.drewN _ _ _)⟩
   | cons c l''=>
    have HP:=Lib.hid (peek_v B g S _ c l'' rfl wr hm)
    have HT:=Lib.hid (fun m=>take_k B g S k (St.to { σ with d:=d+1 } k (c::l'') ([36,123]++t0)) c l'' rfl (HN.out.to_ hk) (wr.drewN m) (hm.drewN m))
    clear hm hk
    by_cases hc:c=125
    ·have h34:((c.toNat:Int) != 125)=false:=byt_nne 125 hc
     go_wp2_with (first
      |(go_at_call 47;(with_reducible refine HP.out.mono ?_);rintro e w2 ⟨rfl,m,rfl⟩)
      |(go_at_call 89;(with_reducible refine(HT.out _).mono ?_);rintro e w2 ⟨rfl,hm2,hb2,hk2⟩;rw[St.to_to] at hm2;obtain⟨p2,n2,vt2,vh2,vx2,ms2,mp2,hm2⟩:=hm2;obtain⟨⟨_,_,_,_,_,_,_,_,d8,_⟩,dz⟩:=hm2.facts;have d88:w2.cell? ⟨g,8,none⟩=some (.int .i64 ((d:Int)+1)):=d8;clear d8;have HM2:=Lib.hid hm2;have HB2:=Lib.hid hb2;have HK2:=Lib.hid hk2;clear hm2 hb2 hk2))
     go_end0
     rw[HS.out,Lx.up_at,hc]
     have hm:=HM2.out.deep d
     have hk:=HK2.out
     rw[hc] at hk hm
     have e9:({ St.to { σ with d:=d+1 } k l'' ([36,123]++t0++[125]) with d:=d }:St)=σ.to k l'' ([36,123]++t0++[125]):=by
      unfold St.to
      simp only
      rw[HDD.out]
     rw[e9] at hm
     exact⟨rfl,by simpa using hm,(HB.out.trans ((Below.drewN _ _ _).trans HB2.out)).setCell HM2.out.low _,by simpa [St.to] using hk⟩
    ·have h34:((c.toNat:Int) != 125)=true:=byt_neq 125 hc
     have hpart:=fun m=>HI.out (St.to { σ with d:=d+1 } k (c::l'') ([36,123]++t0)) (wr.drewN m) (by have:=HL'.out;have:=HLL.out;simp only[St.to];omega) (by simp[St.to]) (HN.out.to_ HK.out) HD.out (HM.out.drewN m)
     have hup:pre ([36,123]++t0) (up (d+1) 125 false (c::l''))=(match Lx.part (d+1) (c::l'') with | .error e=>.error e | .ok (t,r)=>pre (([36,123]++t0)++t) (up (d+1) 125 false r)):=by
      rw[Lx.up_at,if_neg (by simpa using hc),if_neg (by simp)]
      cases Lx.part (d+1) (c::l'') with
      | error e=>rfl
      | ok x=>obtain⟨t,r⟩:=x;simp only[pre_pre]
     have e0:(St.to { σ with d:=d+1 } k (c::l'') ([36,123]++t0)).d=d+1:=rfl
     have e1:(St.to { σ with d:=d+1 } k (c::l'') ([36,123]++t0)).l=c::l'':=rfl
     rw[e0,e1] at hpart
     have HU:=Lib.hid hup
     cases hpt:Lx.part (d+1) (c::l'') with
     | error n=>
      rw[hpt] at hpart
      have HPT:=Lib.hid hpart
      have HEQ:=Lib.hid hpt
      clear hpart hpt hup e0 e1
      go_wp2_with (first
       |(go_at_call 47;(with_reducible refine HP.out.mono ?_);rintro e w2 ⟨rfl,m,rfl⟩)
       |(go_at_call 90;(with_reducible refine(HPT.out _).mono ?_);rintro e w2 ⟨rfl,hb2⟩;have HB2:=Lib.hid hb2;clear hb2))
      refine bodyPost_panic rfl ?_
      rw[HS.out,HU.out,HEQ.out]
      exact⟨rfl,HB.out.trans ((Below.drewN _ _ _).trans HB2.out)⟩
     | ok x=>
      obtain⟨t,r'⟩:=x
      rw[hpt] at hpart
      have HPT:=Lib.hid hpart
      have HEQ:=Lib.hid hpt
      clear hpart hpt hup e0 e1
      go_wp2_with (first
       |(go_at_call 47;(with_reducible refine HP.out.mono ?_);rintro e w2 ⟨rfl,m,rfl⟩)
       |(go_at_call 90;(with_reducible refine(HPT.out _).mono ?_);rintro e w2 ⟨rfl,hm2,hb2,hk2⟩;have HM2:=Lib.hid hm2;have HB2:=Lib.hid hb2;have HK2:=Lib.hid hk2;clear hm2 hb2 hk2))
      go_roundw
      case rel=>
       have hm:=HM2.out
       rw[St.to_to] at hm
       have hk:=HK2.out
       have h3:=Lx.part_len (d+1) _ _ _ HEQ.out
       refine⟨r',t0++t,by have:=HL'.out;simp only[List.length_cons] at this h3;omega,?_,by rw[←List.append_assoc];exact hm,HB.out.trans ((Below.drewN _ _ _).trans HB2.out),by simpa [St.to] using hk⟩
       rw[HS.out,HU.out,HEQ.out]
       simp
      case measure=>
       have h3:=Lx.part_len (d+1) _ _ _ HEQ.out
       rw[HM2.out.left,HM.out.left];simpa [St.to] using h3
theorem dollar_braced_ok (B g:Nat) (S:L) (k:Nat) (σ:St) (h0:([36,123]:L).isPrefixOf σ.l=true) (W:World) (h:Mem W B g S σ) (t r:L) (hc:∀ m,Calls Tryz.prog 91 #[.pointer (some ⟨g,0,none⟩)] (W.drewN m) (Fin B g S σ k (W.drewN m) (.ok (t,r)))):Calls Tryz.prog 44 #[.pointer (some ⟨g,0,none⟩)] W (Fin B g S σ k W (.ok (t,r))):=by
 have HA0:=Lib.hid (fun m=>ahead_t B g S σ ⟨#[36,123]⟩ [36,123] rfl true h0 (W.drewN m) (h.drewN m))
 have hA0:=HA0.out 0
 rw[World.drewN_zero] at hA0
 have HB0:=Lib.hid hA0
 clear hA0
 have HC:=Lib.hid hc
 clear h h0
 go_enter Tryz.func44,Tryz.ntmps44
 go_wp2_with (first
  |(go_at_call 88;(first | (with_reducible refine HB0.out.mono ?_));rintro e w2 ⟨rfl,m,rfl⟩)
  |(go_at_call 91;(with_reducible refine(HC.out _).mono ?_);rintro e w3 ⟨rfl,hm3,hb3,hk3⟩))
 go_end0
 exact⟨rfl,hm3,(Below.drewN _ _ _).trans hb3,hk3⟩
theorem dollar_braced_bad (B g:Nat) (S:L) (k:Nat) (σ:St) (h0:([36,123]:L).isPrefixOf σ.l=true) (W:World) (h:Mem W B g S σ) (n:Nat) (hc:∀ m,Calls Tryz.prog 91 #[.pointer (some ⟨g,0,none⟩)] (W.drewN m) (Fin B g S σ k (W.drewN m) (.error n))):Calls Tryz.prog 44 #[.pointer (some ⟨g,0,none⟩)] W (Fin B g S σ k W (.error n)):=by
 have HA0:=Lib.hid (fun m=>ahead_t B g S σ ⟨#[36,123]⟩ [36,123] rfl true h0 (W.drewN m) (h.drewN m))
 have hA0:=HA0.out 0
 rw[World.drewN_zero] at hA0
 have HB0:=Lib.hid hA0
 clear hA0
 have HC:=Lib.hid hc
 clear h h0
 go_enter Tryz.func44,Tryz.ntmps44
 go_wp2_with (first
  |(go_at_call 88;(first | (with_reducible refine HB0.out.mono ?_));rintro e w2 ⟨rfl,m,rfl⟩)
  |(go_at_call 91;(with_reducible refine(HC.out _).mono ?_);rintro e w3 ⟨rfl,hb3⟩))
 exact bodyPost_panic rfl ⟨rfl,(Below.drewN _ _ _).trans hb3⟩
theorem dollar_reckoned_ok (B g:Nat) (S:L) (k:Nat) (σ:St) (h0:([36,123]:L).isPrefixOf σ.l=false) (h1:([36,40,40]:L).isPrefixOf σ.l=true) (W:World) (h:Mem W B g S σ) (t r:L) (hc:∀ m,Calls Tryz.prog 92 #[.pointer (some ⟨g,0,none⟩)] (W.drewN m) (Fin B g S σ k (W.drewN m) (.ok (t,r)))):Calls Tryz.prog 44 #[.pointer (some ⟨g,0,none⟩)] W (Fin B g S σ k W (.ok (t,r))):=by
 have HA0:=Lib.hid (fun m=>ahead_t B g S σ ⟨#[36,123]⟩ [36,123] rfl false h0 (W.drewN m) (h.drewN m))
 have HA1:=Lib.hid (fun m=>ahead_t B g S σ ⟨#[36,40,40]⟩ [36,40,40] rfl true h1 (W.drewN m) (h.drewN m))
 have hA0:=HA0.out 0
 rw[World.drewN_zero] at hA0
 have HB0:=Lib.hid hA0
 clear hA0
 have HC:=Lib.hid hc
 clear h h0 h1
 go_enter Tryz.func44,Tryz.ntmps44
 go_wp2_with (first
  |(go_at_call 88;(first | (with_reducible refine HB0.out.mono ?_) | (with_reducible refine(HA1.out _).mono ?_));rintro e w2 ⟨rfl,m,rfl⟩)
  |(go_at_call 92;(with_reducible refine(HC.out _).mono ?_);rintro e w3 ⟨rfl,hm3,hb3,hk3⟩))
 go_end0
 exact⟨rfl,hm3,(Below.drewN _ _ _).trans hb3,hk3⟩
theorem dollar_reckoned_bad (B g:Nat) (S:L) (k:Nat) (σ:St) (h0:([36,123]:L).isPrefixOf σ.l=false) (h1:([36,40,40]:L).isPrefixOf σ.l=true) (W:World) (h:Mem W B g S σ) (n:Nat) (hc:∀ m,Calls Tryz.prog 92 #[.pointer (some ⟨g,0,none⟩)] (W.drewN m) (Fin B g S σ k (W.drewN m) (.error n))):Calls Tryz.prog 44 #[.pointer (some ⟨g,0,none⟩)] W (Fin B g S σ k W (.error n)):=by
 have HA0:=Lib.hid (fun m=>ahead_t B g S σ ⟨#[36,123]⟩ [36,123] rfl false h0 (W.drewN m) (h.drewN m))
 have HA1:=Lib.hid (fun m=>ahead_t B g S σ ⟨#[36,40,40]⟩ [36,40,40] rfl true h1 (W.drewN m) (h.drewN m))
 have hA0:=HA0.out 0
 rw[World.drewN_zero] at hA0
 have HB0:=Lib.hid hA0
 clear hA0
 have HC:=Lib.hid hc
 clear h h0 h1
 go_enter Tryz.func44,Tryz.ntmps44
 go_wp2_with (first
  |(go_at_call 88;(first | (with_reducible refine HB0.out.mono ?_) | (with_reducible refine(HA1.out _).mono ?_));rintro e w2 ⟨rfl,m,rfl⟩)
  |(go_at_call 92;(with_reducible refine(HC.out _).mono ?_);rintro e w3 ⟨rfl,hb3⟩))
 exact bodyPost_panic rfl ⟨rfl,(Below.drewN _ _ _).trans hb3⟩
theorem dollar_paren (B g:Nat) (S:L) (k:Nat) (σ:St) (h0:([36,123]:L).isPrefixOf σ.l=false) (h1:([36,40,40]:L).isPrefixOf σ.l=false) (h2:([36,40]:L).isPrefixOf σ.l=true) (W:World) (h:Mem W B g S σ):Calls Tryz.prog 44 #[.pointer (some ⟨g,0,none⟩)] W (Fin B g S σ k W (.error 20)):=by
 have HA0:=Lib.hid (fun m=>ahead_t B g S σ ⟨#[36,123]⟩ [36,123] rfl false h0 (W.drewN m) (h.drewN m))
 have HA1:=Lib.hid (fun m=>ahead_t B g S σ ⟨#[36,40,40]⟩ [36,40,40] rfl false h1 (W.drewN m) (h.drewN m))
 have HA2:=Lib.hid (fun m=>ahead_t B g S σ ⟨#[36,40]⟩ [36,40] rfl true h2 (W.drewN m) (h.drewN m))
 have hA0:=HA0.out 0
 rw[World.drewN_zero] at hA0
 have HB0:=Lib.hid hA0
 clear hA0
 have HC:=Lib.hid (fun m=>refuse_v B g S σ (W.drewN m) (h.drewN m))
 clear h h0 h1 h2
 go_enter Tryz.func44,Tryz.ntmps44
 go_wp2_with (first
  |(go_at_call 88;(first | (with_reducible refine HB0.out.mono ?_) | (with_reducible refine(HA1.out _).mono ?_) | (with_reducible refine(HA2.out _).mono ?_));rintro e w2 ⟨rfl,m,rfl⟩)
  |(go_at_call 45;(with_reducible refine(HC.out _).mono ?_);rintro e w3 ⟨rfl,rfl⟩))
 exact bodyPost_panic rfl ⟨rfl,Below.drewN _ _ _⟩
theorem dollar_join (B g:Nat) (S:L) (k:Nat) (σ:St) (h0:([36,123]:L).isPrefixOf σ.l=false) (h1:([36,40,40]:L).isPrefixOf σ.l=false) (h2:([36,40]:L).isPrefixOf σ.l=false) (h3:([36,92,10]:L).isPrefixOf σ.l=true) (W:World) (h:Mem W B g S σ):Calls Tryz.prog 44 #[.pointer (some ⟨g,0,none⟩)] W (Fin B g S σ k W (.error 20)):=by
 have HA0:=Lib.hid (fun m=>ahead_t B g S σ ⟨#[36,123]⟩ [36,123] rfl false h0 (W.drewN m) (h.drewN m))
 have HA1:=Lib.hid (fun m=>ahead_t B g S σ ⟨#[36,40,40]⟩ [36,40,40] rfl false h1 (W.drewN m) (h.drewN m))
 have HA2:=Lib.hid (fun m=>ahead_t B g S σ ⟨#[36,40]⟩ [36,40] rfl false h2 (W.drewN m) (h.drewN m))
 have HA3:=Lib.hid (fun m=>ahead_t B g S σ ⟨#[36,92,10]⟩ [36,92,10] rfl true h3 (W.drewN m) (h.drewN m))
 have hA0:=HA0.out 0
 rw[World.drewN_zero] at hA0
 have HB0:=Lib.hid hA0
 clear hA0
 have HC:=Lib.hid (fun m=>refuse_v B g S σ (W.drewN m) (h.drewN m))
 clear h h0 h1 h2 h3
 go_enter Tryz.func44,Tryz.ntmps44
 go_wp2_with (first
  |(go_at_call 88;(first | (with_reducible refine HB0.out.mono ?_) | (with_reducible refine(HA1.out _).mono ?_) | (with_reducible refine(HA2.out _).mono ?_) | (with_reducible refine(HA3.out _).mono ?_));rintro e w2 ⟨rfl,m,rfl⟩)
  |(go_at_call 45;(with_reducible refine(HC.out _).mono ?_);rintro e w3 ⟨rfl,rfl⟩))
 exact bodyPost_panic rfl ⟨rfl,Below.drewN _ _ _⟩
theorem dollar_self (B g:Nat) (S:L) (k:Nat) (σ:St) (h0:([36,123]:L).isPrefixOf σ.l=false) (h1:([36,40,40]:L).isPrefixOf σ.l=false) (h2:([36,40]:L).isPrefixOf σ.l=false) (h3:([36,92,10]:L).isPrefixOf σ.l=false) (W:World) (h:Mem W B g S σ) (r:L) (hl:σ.l=36::r) (hn:Nm k σ):Calls Tryz.prog 44 #[.pointer (some ⟨g,0,none⟩)] W (Fin B g S σ k W (.ok ([36],r))):=by
 have HA0:=Lib.hid (fun m=>ahead_t B g S σ ⟨#[36,123]⟩ [36,123] rfl false h0 (W.drewN m) (h.drewN m))
 have HA1:=Lib.hid (fun m=>ahead_t B g S σ ⟨#[36,40,40]⟩ [36,40,40] rfl false h1 (W.drewN m) (h.drewN m))
 have HA2:=Lib.hid (fun m=>ahead_t B g S σ ⟨#[36,40]⟩ [36,40] rfl false h2 (W.drewN m) (h.drewN m))
 have HA3:=Lib.hid (fun m=>ahead_t B g S σ ⟨#[36,92,10]⟩ [36,92,10] rfl false h3 (W.drewN m) (h.drewN m))
 have hA0:=HA0.out 0
 rw[World.drewN_zero] at hA0
 have HB0:=Lib.hid hA0
 clear hA0
 have HC:=Lib.hid (fun m=>take_k B g S k σ 36 r hl hn (W.drewN m) (h.drewN m))
 clear h h0 h1 h2 h3
 go_enter Tryz.func44,Tryz.ntmps44
 go_wp2_with (first
  |(go_at_call 88;(first | (with_reducible refine HB0.out.mono ?_) | (with_reducible refine(HA1.out _).mono ?_) | (with_reducible refine(HA2.out _).mono ?_) | (with_reducible refine(HA3.out _).mono ?_));rintro e w2 ⟨rfl,m,rfl⟩)
  |(go_at_call 89;(with_reducible refine(HC.out _).mono ?_);rintro e w3 ⟨rfl,hm3,hb3,hk3⟩))
 go_end0
 exact⟨rfl,hm3,(Below.drewN _ _ _).trans hb3,hk3⟩
theorem dollar_v (B g:Nat) (S:L) (k:Nat) (σ:St) (r:L) (hl:σ.l=36::r) (hn:Nm k σ) (hd:σ.d≤8) (ih:Parts B g S k σ.l.length) (W:World) (h:Mem W B g S σ):Calls Tryz.prog 44 #[.pointer (some ⟨g,0,none⟩)] W (Fin B g S σ k W (Lx.dolF (up (σ.d+1) 125 false) (σ.d==8) r)):=by
 match r,hl with
 | [],hl=>exact dollar_self B g S k σ (by rw[hl];rfl) (by rw[hl];rfl) (by rw[hl];rfl) (by rw[hl];rfl) W h [] hl hn
 | x::q,hl=>
  by_cases h1:x=123
  ·subst h1
   have hb:=fun m=>braced_v B g S k σ q hl hn hd ih (W.drewN m) (h.drewN m)
   have e1:Lx.dolF (up (σ.d+1) 125 false) (σ.d==8) (123::q)=brM σ.d q:=rfl
   rw[e1]
   cases hx:brM σ.d q with
   | error n=>rw[hx] at hb;exact dollar_braced_bad B g S k σ (by rw[hl];rfl) W h n hb
   | ok p=>obtain⟨t,r'⟩:=p;rw[hx] at hb;exact dollar_braced_ok B g S k σ (by rw[hl];rfl) W h t r' hb
  ·have h0:([36,123]:L).isPrefixOf σ.l=false:=by rw[hl];simp[List.isPrefixOf];exact fun e=>h1 e.symm
   by_cases h2:x=40
   ·subst h2
    match q,hl with
    | [],hl=>exact dollar_paren B g S k σ h0 (by rw[hl];rfl) (by rw[hl];rfl) W h
    | y::q',hl=>
     by_cases h3:y=40
     ·subst h3
      have hb:=fun m=>reckoned_v B g S k σ q' hl hn (W.drewN m) (h.drewN m)
      have e1:Lx.dolF (up (σ.d+1) 125 false) (σ.d==8) (40::40::q')=arM q':=rfl
      rw[e1]
      cases hx:arM q' with
      | error n=>rw[hx] at hb;exact dollar_reckoned_bad B g S k σ h0 (by rw[hl];rfl) W h n hb
      | ok p=>obtain⟨t,r'⟩:=p;rw[hx] at hb;exact dollar_reckoned_ok B g S k σ h0 (by rw[hl];rfl) W h t r' hb
     ·have e1:Lx.dolF (up (σ.d+1) 125 false) (σ.d==8) (40::y::q')=.error 20:=by simp[Lx.dolF,h3]
      rw[e1]
      exact dollar_paren B g S k σ h0 (by rw[hl];simp[List.isPrefixOf];exact fun e=>h3 e.symm) (by rw[hl];rfl) W h
   ·have h10:([36,40,40]:L).isPrefixOf σ.l=false:=by rw[hl];simp[List.isPrefixOf];exact fun e=>absurd e.symm h2
    have h20:([36,40]:L).isPrefixOf σ.l=false:=by rw[hl];simp[List.isPrefixOf];exact fun e=>absurd e.symm h2
    by_cases h4:x=92∧q.head?=some 10
    ·have e1:Lx.dolF (up (σ.d+1) 125 false) (σ.d==8) (x::q)=.error 20:=by simp only[Lx.dolF,if_neg h1,if_neg h2,if_pos h4]
     rw[e1]
     refine dollar_join B g S k σ h0 h10 h20 ?_ W h
     obtain⟨rfl,h5⟩:=h4
     cases q with
     | nil=>cases h5
     | cons z q'=>simp only[List.head?_cons,Option.some.injEq] at h5;rw[hl,h5];rfl
    ·have e1:Lx.dolF (up (σ.d+1) 125 false) (σ.d==8) (x::q)=.ok ([36],x::q):=by simp only[Lx.dolF,if_neg h1,if_neg h2,if_neg h4]
     rw[e1]
     refine dollar_self B g S k σ h0 h10 h20 ?_ W h (x::q) hl hn
     rw[hl]
     cases q with
     | nil=>simp[List.isPrefixOf]
     | cons z q'=>
      simp[List.isPrefixOf]
      intro e1 e2
      exact h4 ⟨e1.symm,by simp[e2]⟩
end Go.Proofs.YtkkchkkpnlnbgaaGreatDoor
