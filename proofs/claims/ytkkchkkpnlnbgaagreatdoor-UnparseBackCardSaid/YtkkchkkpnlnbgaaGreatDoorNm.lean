/- The lexer's reader: all steps. No premises. -/
import Derived.Test.YtkkchkkpnlnbgaaGreatDoorNl
import Derived.Defers
import Derived.Recover
import Derived.Test.YtkkchkkpnlnbgaaGreatDoorNj
set_option maxRecDepth 100000
set_option maxHeartbeats 3200000
namespace Go.Proofs.YtkkchkkpnlnbgaaGreatDoor
open Go.RowKit Go.Maps
open Lx (nl Tok hung)
section
variable {B g:Nat} {S:L} {σ:St} {W:World}
theorem slash_more (hno:([92,10]:L).isPrefixOf σ.l=false) (h:Mem W B g S σ) (l':L) (o:List Tok) (hs:List Nat) (hc:∀ m,Calls Tryz.prog 48 #[.pointer (some ⟨g,0,none⟩)] (W.drewN m) (StepR B g S (W.drewN m) (.more l' o hs))):Calls Tryz.prog 36 #[.pointer (some ⟨g,0,none⟩)] W (StepR B g S W (.more l' o hs)):=by
 have HJ:=Lib.hid (passJoin_no B g S σ hno W h)
 have HC:=Lib.hid hc
 clear h hno hc
 go_enter Tryz.func36,Tryz.ntmps36
 go_wp2_with (first
  |(go_at_call 84;(with_reducible refine HJ.out.mono ?_);rintro e w2 ⟨rfl,m,rfl⟩)
  |(go_at_call 48;(with_reducible refine(HC.out _).mono ?_);rintro e w3 ⟨rfl,hm3,hb3⟩))
 go_end0
 exact⟨rfl,hm3,(Below.drewN _ _ _).trans hb3⟩
theorem slash_fail (hno:([92,10]:L).isPrefixOf σ.l=false) (h:Mem W B g S σ) (n k:Nat) (hc:∀ m,Calls Tryz.prog 48 #[.pointer (some ⟨g,0,none⟩)] (W.drewN m) (StepR B g S (W.drewN m) (.fail n k))):Calls Tryz.prog 36 #[.pointer (some ⟨g,0,none⟩)] W (StepR B g S W (.fail n k)):=by
 have HJ:=Lib.hid (passJoin_no B g S σ hno W h)
 have HC:=Lib.hid hc
 clear h hno hc
 go_enter Tryz.func36,Tryz.ntmps36
 go_wp2_with (first
  |(go_at_call 84;(with_reducible refine HJ.out.mono ?_);rintro e w2 ⟨rfl,m,rfl⟩)
  |(go_at_call 48;(with_reducible refine(HC.out _).mono ?_);rintro e w3 ⟨rfl,hb3⟩))
 exact bodyPost_panic rfl ⟨rfl,(Below.drewN _ _ _).trans hb3⟩
theorem slash_join {r:L} (hl:σ.l=92::10::r) (hI:Inv S σ) (h:Mem W B g S σ):Calls Tryz.prog 36 #[.pointer (some ⟨g,0,none⟩)] W (StepR B g S W (.more r σ.ts σ.hs)):=by
 have HJ:=Lib.hid (passJoin_v B g S σ r hl W h)
 have HI:=Lib.hid (hI.rest (l':=r) (by rw[hl];simp;omega))
 clear h hl hI
 go_enter Tryz.func36,Tryz.ntmps36
 go_wp2_with (first
  |(go_at_call 84;(with_reducible refine HJ.out.mono ?_);rintro e w2 ⟨rfl,hm2,hb2⟩))
 go_end0
 exact⟨rfl,⟨{ σ with l:=r },rfl,rfl,rfl,HI.out,hm2⟩,hb2⟩
theorem start_v {c:UInt8} {r:L} (hl:σ.l=c::r) (hI:Inv S σ) (h0:0<B) (hg0:Sgn W) (h:Mem W B g S σ):∃ f,(startsT g c=some (fnv f g)∨(startsT g c=none∧f=48))∧(∀ args w,(callFunc f args).run Tryz.prog w=.ok (.enter f args) w)∧∀ m,Calls Tryz.prog f #[.pointer (some ⟨g,0,none⟩)] (W.drewN m) (StepR B g S (W.drewN m) (Lx.step σ.l σ.ts σ.hs)):=by
 have hd:=fun m=>h.drewN m
 have hgd:∀ m,Sgn (W.drewN m):=fun m=>hg0
 have hnd:∀ x y,Lx.step σ.l σ.ts σ.hs≠.done x∨y:=fun _ _=>.inl (by
  rw[hl]
  intro e
  unfold Lx.step at e
  simp only at e
  repeat' (split at e)
  all_goals first | cases e)
 by_cases h1:c=32∨c=9
 ·refine⟨39,.inl ?_,fun _ _=>run_enter Tryz.func39 rfl rfl _ _,fun m=>step_pass hl hI ?_ (hd m)⟩
  ·rcases h1 with rfl | rfl <;> rfl
  ·rw[hl];unfold Lx.step;simp only[if_pos h1]
 by_cases h2:c=92
 ·subst h2
  refine⟨36,.inl rfl,fun _ _=>run_enter Tryz.func36 rfl rfl _ _,fun m=>?_⟩
  by_cases hj:r.head?=some 10
  ·cases r with
   | nil=>cases hj
   | cons d r2=>
    simp only[List.head?_cons,Option.some.injEq] at hj
    subst hj
    have hs:Lx.step σ.l σ.ts σ.hs=.more r2 σ.ts σ.hs:=by rw[hl];rfl
    rw[hs]
    exact slash_join hl hI (hd m)
  ·have hs:Lx.step σ.l σ.ts σ.hs=(match Lx.word (92::r) with
     | .error e=>.fail e (nl (92::r))
     | .ok (t,r')=>if Lx.io t ((92::r).length-r'.length) r'=true then .more r' (σ.ts++[⟨5,t,[],nl (92::r)⟩]) σ.hs else .more r' (σ.ts++[⟨1,t,[],nl (92::r)⟩]) (if hung σ.ts=true then σ.hs++[σ.ts.length] else σ.hs)):=by
    rw[hl]
    unfold Lx.step
    dsimp only
    rw[if_neg h1,if_neg (fun e=>hj e.2)]
    rfl
   have hw:=fun m'=>step_word (W:=(W.drewN m).drewN m') hl hI rfl hs (by rw[World.drewN_drewN];exact hd _)
   have hno:([92,10]:L).isPrefixOf σ.l=false:=by
    rw[hl]
    cases r with
    | nil=>rfl
    | cons d r2=>simp[List.isPrefixOf];intro e;exact hj (by rw[←e];rfl)
   cases hx:Lx.step σ.l σ.ts σ.hs with
   | more l' o hs'=>rw[hx] at hw;exact slash_more hno (hd m) l' o hs' hw
   | fail n k=>rw[hx] at hw;exact slash_fail hno (hd m) n k hw
   | done o=>exact absurd hx ((hnd o False).resolve_right id)
 by_cases h3:c=35
 ·subst h3
  exact⟨37,.inl rfl,fun _ _=>run_enter Tryz.func37 rfl rfl _ _,fun m=>step_row hI (by rw[hl];rfl) (hd m)⟩
 by_cases h4:c=10
 ·subst h4
  exact⟨38,.inl rfl,fun _ _=>run_enter Tryz.func38 rfl rfl _ _,fun m=>step_line hl hI (hd m)⟩
 have hst:Lx.step σ.l σ.ts σ.hs=(match Lx.sign (c::r) with
   | some (t,r')=>.more r' (σ.ts++[⟨2,t,[],nl (c::r)⟩]) σ.hs
   | none=>if c=38 then .fail 20 (nl (c::r)) else match Lx.word (c::r) with
    | .error e=>.fail e (nl (c::r))
    | .ok (t,r')=>if Lx.io t ((c::r).length-r'.length) r'=true then .more r' (σ.ts++[⟨5,t,[],nl (c::r)⟩]) σ.hs else .more r' (σ.ts++[⟨1,t,[],nl (c::r)⟩]) (if hung σ.ts=true then σ.hs++[σ.ts.length] else σ.hs)):=by
  rw[hl];unfold Lx.step
  simp only[if_neg h1,if_neg h3,if_neg h4,if_neg (show ¬ (c=92∧r.head?=some 10) from fun e=>h2 e.1)]
  rfl
 by_cases h5:c=59∨c=38∨c=124∨c=40∨c=41∨c=60∨c=62
 ·refine⟨40,.inl ?_,fun _ _=>run_enter Tryz.func40 rfl rfl _ _,fun m=>step_sign hl hI ?_ h0 (hgd m) (hd m)⟩
  ·unfold startsT
   simp only[if_neg h1,if_neg h2,if_neg h3,if_neg h4,if_pos h5]
  ·rw[hst]
   cases hx:Lx.sign (c::r) with
   | some x=>rfl
   | none=>
    by_cases h38:c=38
    ·simp only[if_pos h38]
    ·exfalso
     have he:=Lx.sign_none hx h1 h4 h38
     simp[Lx.ends,Lx.stop] at he
     rcases h5 with h5 | h5 | h5 | h5 | h5 | h5 | h5
     all_goals (subst h5;revert he;decide)
 ·refine⟨48,.inr ⟨?_,rfl⟩,fun _ _=>run_enter Tryz.func48 rfl rfl _ _,fun m=>?_⟩
  ·unfold startsT
   simp only[if_neg h1,if_neg h2,if_neg h3,if_neg h4,if_neg h5]
  ·have hns:Lx.sign (c::r)=none:=by
    simp only[not_or] at h5
    unfold Lx.sign
    simp[h5.1,h5.2.1,h5.2.2.1,h5.2.2.2.1,h5.2.2.2.2.1,h5.2.2.2.2.2.1,h5.2.2.2.2.2.2]
   have h38:¬ c=38:=fun e=>h5 (.inr (.inl e))
   refine step_word hl hI (Lx.sign_none hns h1 h4 h38) ?_ (hd m)
   rw[hst,hns]
   simp only[if_neg h38]
   rfl
theorem stepR_drewN {x:Lx.Step} {e:Ending} {W W':World} {m n:Nat} (h:StepR B g S (W.drewN m) x e W'):StepR B g S (W.drewN n) x e W':=by
 have hb:∀ W',Below B (W.drewN m) W'→Below B (W.drewN n) W':=fun W' h=>⟨h.os,h.tape,h.output,h.size,h.block⟩
 cases x with
 | more l' o hs=>exact⟨h.1,h.2.1,hb _ h.2.2⟩
 | fail n k=>exact⟨h.1,hb _ h.2⟩
 | done o=>exact h
def AllR (B:Nat) (S:L) (W:World) (x:Except (Nat×Nat) (List Tok)) (e:Ending) (W':World):Prop:=
 match x with
 | .ok o=>(∃ vt,e=.returned vt∧W'.ownsRow B 63 4 vt o.length (cellsT (nl S) o))∧Below B W W'
 | .error (n,k)=>e=.panicked (flt n (1+nl S-k:Nat))∧Below B W W'
theorem all_r (hI:Inv S σ) (h0:0<B) (hg0:Sgn W) (h:Mem W B g S σ):Calls Tryz.prog 21 #[.pointer (some ⟨g,0,none⟩)] W (AllR B S W (Lx.run σ.l σ.ts σ.hs)):=by
 have hmf:∀ (fn:Fn) (first cap:Array Value) (w:World),(Instr.makeFunc fn first cap).run Tryz.prog w=.ok (.func fn first cap) w:=fun _ _ _ _=>rfl
 have H:=Lib.hid h
 have HI:=Lib.hid hI
 have HG:=Lib.hid (And.intro h0 hg0)
 clear h hI h0 hg0
 go_enter Tryz.func21,Tryz.ntmps21
 go_wp2
 go_loopw [] (fun wr=>∃ σ':St,Lx.run σ.l σ.ts σ.hs=Lx.run σ'.l σ'.ts σ'.hs∧Inv S σ'∧Mem wr B g S σ'∧Below B W wr) (fun wr=>S.length-atOf g wr)
 case atStart=>exact⟨σ,rfl,HI.out,H.out,Below.refl _ _⟩
 case round=>
  obtain⟨σ',hr,hi,hm,hb⟩:=hrel
  have HR:=Lib.hid hr
  have HI':=Lib.hid hi
  have HM:=Lib.hid hm
  have HB:=Lib.hid hb
  have hL:=left_v B g S σ' wr hm
  clear hr hi hb hm
  cases hl:σ'.l with
  | nil=>
   rw[show decide (σ'.l≠[])=false by rw[hl];rfl] at hL
   have HL:=Lib.hid hL
   clear hL
   have hrun:Lx.run σ'.l σ'.ts σ'.hs=(if σ'.hs=[] then .ok (σ'.ts++[⟨4,[],[],0⟩]) else .error (20,((σ'.ts.getLast?.map Tok.left).getD 0))):=by
    rw[Lx.run_at,hl]
    unfold Lx.step
    by_cases e:σ'.hs=[]
    ·simp only[if_pos e]
    ·simp only[if_neg e]
   have HRUN:=Lib.hid hrun
   clear hrun
   by_cases hh:σ'.hs=[]
   ·obtain⟨b,hb1,hb2,hS⟩:=HM.out.line
    have hts:=HI'.out.room
    have HLN:=Lib.hid (show 1+nl S-0=b by rw[hb2,hl];rfl)
    have HBG:=Lib.hid (fun m=>begin_v B g S σ' b hb1 (wr.drewN m) (HM.out.drewN m))
    have HTE:=Lib.hid (fun W hW=>tell_v B g S { σ' with b:=b } 4 ⟨#[]⟩ ⟨4,[],[],0⟩ rfl rfl rfl HLN.out (by show σ'.ts.length≤5000;omega) W hW)
    obtain⟨p,n,vt,vh,vx,ms,mp,hx⟩:=HM.out
    obtain⟨A,c,rfl,_⟩:=own_map hx.her
    obtain⟨⟨_,_,_,_,_,c5,_⟩,hz⟩:=hx.facts
    have c55:wr.cell? ⟨g,5,none⟩=some (.slice A 0 c):=by rw[hh] at c5;exact c5
    have HH:=Lib.hid hh
    clear hb1 hb2 hS hts hx c5 hh hl
    go_wp2_with (first
     |(go_at_call 46;(with_reducible refine HL.out.mono ?_);rintro e w2 ⟨rfl,m,rfl⟩)
     |(go_at_call 49;(with_reducible refine(HBG.out _).mono ?_);rintro e w3 ⟨rfl,hm3,hb3⟩;have HM3:=Lib.hid hm3;have HB3:=Lib.hid hb3;clear hm3 hb3)
     |(go_at_call 50;(with_reducible refine(HTE.out _ HM3.out).mono ?_);rintro e w4 ⟨rfl,⟨p4,n4,vt4,vh4,vx4,ms4,mp4,hx4⟩,hb4⟩;obtain⟨⟨_,_,_,_,d4,_⟩,dz⟩:=hx4.facts;have HX4:=Lib.hid hx4;have HB4:=Lib.hid hb4;clear hx4 hb4))
    go_ret
    rw[HR.out,HRUN.out,if_pos HH.out]
    exact⟨⟨vt4,rfl,HX4.out.tok⟩,(HB.out.trans ((Below.drewN _ _ _).trans HB3.out)).trans HB4.out⟩
   ·have HRF:=Lib.hid (fun m=>refuse_v B g S σ' (wr.drewN m) (HM.out.drewN m))
    obtain⟨p,n,vt,vh,vx,ms,mp,hx⟩:=HM.out
    obtain⟨A,c,rfl,_⟩:=own_map hx.her
    obtain⟨⟨_,_,_,_,_,c5,_⟩,hz⟩:=hx.facts
    have hpos:(0:Int)<(σ'.hs.length:Int):=by have:=List.length_pos_iff.2 hh;omega
    have hfew:=HI'.out.few
    have hroom:=HI'.out.room
    have hbig:=hx.big
    have hlast:σ'.b=1+nl S-((σ'.ts.getLast?.map Tok.left).getD 0):=by
     cases hg:σ'.ts.getLast? with
     | none=>
      rw[List.getLast?_eq_none_iff] at hg
      rw[hg] at hfew
      simp at hfew
      exact absurd hfew hh
     | some t=>exact HI'.out.last t hg
    have HLAST:=Lib.hid hlast
    have HH:=Lib.hid hh
    have hs5:σ'.hs.length≤5000:=by omega
    clear hx hh hl hfew hroom hbig hlast
    go_wp2_with (first
     |(go_at_call 46;(with_reducible refine HL.out.mono ?_);rintro e w2 ⟨rfl,m,rfl⟩)
     |(go_at_call 45;(with_reducible refine(HRF.out _).mono ?_);rintro e w3 ⟨rfl,rfl⟩))
    refine bodyPost_panic rfl ?_
    rw[HR.out,HRUN.out,if_neg HH.out]
    exact⟨by rw[HLAST.out];rfl,HB.out.trans (Below.drewN _ _ _)⟩
  | cons c r=>
   rw[show decide (σ'.l≠[])=true by rw[hl];rfl] at hL
   have HL:=Lib.hid hL
   clear hL
   obtain⟨f,hf,hent,hcall⟩:=start_v hl HI'.out HG.out.1 (HG.out.2.keep HB.out HG.out.1) HM.out
   have HPK:=Lib.hid (fun W hW=>peek_v B g S σ' c r hl W hW)
   have HRA:=Lib.hid (Lx.run_at σ'.l σ'.ts σ'.hs)
   have HLT:=Lib.hid (fun l' o hs=>Lx.step_lt (l:=σ'.l) (l':=l') (out:=σ'.ts) (out':=o) (here:=σ'.hs) (here':=hs))
   have HCL:=Lib.hid hcall
   clear hcall hl
   rcases hf with hf | ⟨hf,rfl⟩
   ·cases hx:Lx.step σ'.l σ'.ts σ'.hs with
    | done o=>
     have hcl:=HCL.out
     rw[hx] at hcl
     obtain⟨e,w',fr,hd,_⟩:=hcl 0 []
     exact hd.elim
    | fail n9 k9=>
     have hcl:=HCL.out
     rw[hx] at hcl
     have HC:=Lib.hid hcl
     have HX:=Lib.hid hx
     clear hcl hx
     go_wp2_with (first
      |(go_at_call 46;(with_reducible refine HL.out.mono ?_);rintro e w2 ⟨rfl,m,rfl⟩))
     obtain⟨w0,hw0⟩:∃ w0,w0=wr.drewN m:=⟨_,rfl⟩
     rw[←hw0]
     have hm0:Mem w0 B g S σ':=by rw[hw0];exact HM.out.drewN m
     have HB0:=Lib.hid (show Below B W w0 by rw[hw0];exact HB.out.trans (Below.drewN _ _ _))
     have HCC:=Lib.hid (show ∀ n,Calls Tryz.prog f #[.pointer (some ⟨g,0,none⟩)] (w0.drewN n) (StepR B g S (w0.drewN n) (.fail n9 k9)) from fun n=>by rw[hw0,World.drewN_drewN];exact(HC.out (m+n)).mono fun e w' hh=>stepR_drewN hh)
     have HP:=Lib.hid (fun n=>HPK.out (w0.drewN n) (hm0.drewN n))
     obtain⟨p,n,vt,vh,vx,ms,mp,hx⟩:=hm0
     obtain⟨⟨_,_,_,_,_,_,_,_,_,c9,_⟩,hz⟩:=hx.facts
     have hlook:=hx.st.look c
     rw[hf] at hlook
     have hlook2:∀ n,(Instr.lookup 80 (.map (some ms)) (.int .u8 (c.toNat:Int)) true).run Tryz.prog (w0.drewN n)=.ok (.tuple #[.func (.func f) #[.pointer (some ⟨g,0,none⟩)] #[],.bool true]) (w0.drewN n):=hlook
     have HM0:=Lib.hid hx
     clear hlook hx hw0 HC
     go_quiet ((go_at_call 47;exact Calls.quiet_of (HP.out _)))
     go_wp2
     refine(HCC.out _).mono ?_
     rintro e w3 ⟨rfl,hb3⟩
     refine bodyPost_panic (P:=Tryz.prog) (fn:=Tryz.f21) rfl ?_
     rw[HR.out,HRA.out,HX.out]
     exact⟨rfl,HB0.out.trans ((Below.drewN _ _ _).trans hb3)⟩
    | more l9 o9 h9=>
     have hcl:=HCL.out
     rw[hx] at hcl
     have HC:=Lib.hid hcl
     have HX:=Lib.hid hx
     clear hcl hx
     go_wp2_with (first
      |(go_at_call 46;(with_reducible refine HL.out.mono ?_);rintro e w2 ⟨rfl,m,rfl⟩))
     obtain⟨w0,hw0⟩:∃ w0,w0=wr.drewN m:=⟨_,rfl⟩
     rw[←hw0]
     have hm0:Mem w0 B g S σ':=by rw[hw0];exact HM.out.drewN m
     have HB0:=Lib.hid (show Below B W w0 by rw[hw0];exact HB.out.trans (Below.drewN _ _ _))
     have HCC:=Lib.hid (show ∀ n,Calls Tryz.prog f #[.pointer (some ⟨g,0,none⟩)] (w0.drewN n) (StepR B g S (w0.drewN n) (.more l9 o9 h9)) from fun n=>by rw[hw0,World.drewN_drewN];exact(HC.out (m+n)).mono fun e w' hh=>stepR_drewN hh)
     have HP:=Lib.hid (fun n=>HPK.out (w0.drewN n) (hm0.drewN n))
     obtain⟨p,n,vt,vh,vx,ms,mp,hx⟩:=hm0
     obtain⟨⟨_,_,_,_,_,_,_,_,_,c9,_⟩,hz⟩:=hx.facts
     have hlook:=hx.st.look c
     rw[hf] at hlook
     have hlook2:∀ n,(Instr.lookup 80 (.map (some ms)) (.int .u8 (c.toNat:Int)) true).run Tryz.prog (w0.drewN n)=.ok (.tuple #[.func (.func f) #[.pointer (some ⟨g,0,none⟩)] #[],.bool true]) (w0.drewN n):=hlook
     have HM0:=Lib.hid hx
     clear hlook hx hw0 HC
     go_quiet ((go_at_call 47;exact Calls.quiet_of (HP.out _)))
     go_wp2
     refine(HCC.out _).mono ?_
     rintro e w3 ⟨rfl,⟨σ3,e1,e2,e3,hi3,hm3⟩,hb3⟩
     have HE:=Lib.hid (And.intro e1 (And.intro e2 e3))
     have HI3:=Lib.hid hi3
     have HM3:=Lib.hid hm3
     have HB3:=Lib.hid hb3
     clear e1 e2 e3 hi3 hm3 hb3
     go_wp2
     go_roundw
     case rel=>exact⟨σ3,by rw[HR.out,HRA.out,HX.out,HE.out.1,HE.out.2.1,HE.out.2.2],HI3.out,HM3.out,HB0.out.trans ((Below.drewN _ _ _).trans HB3.out)⟩
     case measure=>
      rw[HM3.out.left,HM.out.left,HE.out.1]
      exact HLT.out _ _ _ HX.out
   ·have hent2:=hent
    cases hx:Lx.step σ'.l σ'.ts σ'.hs with
    | done o=>
     have hcl:=HCL.out
     rw[hx] at hcl
     obtain⟨e,w',fr,hd,_⟩:=hcl 0 []
     exact hd.elim
    | fail n9 k9=>
     have hcl:=HCL.out
     rw[hx] at hcl
     have HC:=Lib.hid hcl
     have HX:=Lib.hid hx
     clear hcl hx
     go_wp2_with (first
      |(go_at_call 46;(with_reducible refine HL.out.mono ?_);rintro e w2 ⟨rfl,m,rfl⟩))
     obtain⟨w0,hw0⟩:∃ w0,w0=wr.drewN m:=⟨_,rfl⟩
     rw[←hw0]
     have hm0:Mem w0 B g S σ':=by rw[hw0];exact HM.out.drewN m
     have HB0:=Lib.hid (show Below B W w0 by rw[hw0];exact HB.out.trans (Below.drewN _ _ _))
     have HCC:=Lib.hid (show ∀ n,Calls Tryz.prog 48 #[.pointer (some ⟨g,0,none⟩)] (w0.drewN n) (StepR B g S (w0.drewN n) (.fail n9 k9)) from fun n=>by rw[hw0,World.drewN_drewN];exact(HC.out (m+n)).mono fun e w' hh=>stepR_drewN hh)
     have HP:=Lib.hid (fun n=>HPK.out (w0.drewN n) (hm0.drewN n))
     obtain⟨p,n,vt,vh,vx,ms,mp,hx⟩:=hm0
     obtain⟨⟨_,_,_,_,_,_,_,_,_,c9,_⟩,hz⟩:=hx.facts
     have hlook:=hx.st.look c
     rw[hf] at hlook
     have hlook2:∀ n,(Instr.lookup 80 (.map (some ms)) (.int .u8 (c.toNat:Int)) true).run Tryz.prog (w0.drewN n)=.ok (.tuple #[.nilFunc,.bool false]) (w0.drewN n):=hlook
     have HM0:=Lib.hid hx
     clear hlook hx hw0 HC
     go_quiet ((go_at_call 47;exact Calls.quiet_of (HP.out _)))
     go_wp2_with (first
      |(go_at_call 48;(with_reducible refine(HCC.out _).mono ?_);rintro e w3 ⟨rfl,hb3⟩))
     refine bodyPost_panic (P:=Tryz.prog) (fn:=Tryz.f21) rfl ?_
     rw[HR.out,HRA.out,HX.out]
     exact⟨rfl,HB0.out.trans ((Below.drewN _ _ _).trans hb3)⟩
    | more l9 o9 h9=>
     have hcl:=HCL.out
     rw[hx] at hcl
     have HC:=Lib.hid hcl
     have HX:=Lib.hid hx
     clear hcl hx
     go_wp2_with (first
      |(go_at_call 46;(with_reducible refine HL.out.mono ?_);rintro e w2 ⟨rfl,m,rfl⟩))
     obtain⟨w0,hw0⟩:∃ w0,w0=wr.drewN m:=⟨_,rfl⟩
     rw[←hw0]
     have hm0:Mem w0 B g S σ':=by rw[hw0];exact HM.out.drewN m
     have HB0:=Lib.hid (show Below B W w0 by rw[hw0];exact HB.out.trans (Below.drewN _ _ _))
     have HCC:=Lib.hid (show ∀ n,Calls Tryz.prog 48 #[.pointer (some ⟨g,0,none⟩)] (w0.drewN n) (StepR B g S (w0.drewN n) (.more l9 o9 h9)) from fun n=>by rw[hw0,World.drewN_drewN];exact(HC.out (m+n)).mono fun e w' hh=>stepR_drewN hh)
     have HP:=Lib.hid (fun n=>HPK.out (w0.drewN n) (hm0.drewN n))
     obtain⟨p,n,vt,vh,vx,ms,mp,hx⟩:=hm0
     obtain⟨⟨_,_,_,_,_,_,_,_,_,c9,_⟩,hz⟩:=hx.facts
     have hlook:=hx.st.look c
     rw[hf] at hlook
     have hlook2:∀ n,(Instr.lookup 80 (.map (some ms)) (.int .u8 (c.toNat:Int)) true).run Tryz.prog (w0.drewN n)=.ok (.tuple #[.nilFunc,.bool false]) (w0.drewN n):=hlook
     have HM0:=Lib.hid hx
     clear hlook hx hw0 HC
     go_quiet ((go_at_call 47;exact Calls.quiet_of (HP.out _)))
     go_wp2_with (first
      |(go_at_call 48;(with_reducible refine(HCC.out _).mono ?_);rintro e w3 ⟨rfl,⟨σ3,e1,e2,e3,hi3,hm3⟩,hb3⟩;have HE:=Lib.hid (And.intro e1 (And.intro e2 e3));have HI3:=Lib.hid hi3;have HM3:=Lib.hid hm3;have HB3:=Lib.hid hb3;clear e1 e2 e3 hi3 hm3 hb3))
     go_roundw
     case rel=>exact⟨σ3,by rw[HR.out,HRA.out,HX.out,HE.out.1,HE.out.2.1,HE.out.2.2],HI3.out,HM3.out,HB0.out.trans ((Below.drewN _ _ _).trans HB3.out)⟩
     case measure=>
      rw[HM3.out.left,HM.out.left,HE.out.1]
      exact HLT.out _ _ _ HX.out
end
end Go.Proofs.YtkkchkkpnlnbgaaGreatDoor
namespace Go.Proofs.YtkkchkkpnlnbgaaGreatDoor
open Go.RowKit Go.Maps
open Lx (nl Tok)
def TabN (W:World) (m k:Nat) (f:UInt8→Option Value):Prop:=
 ∃ D n,W.ownsMap Tryz.prog 5 heldR m n D∧n≤k∧∀ c,Maps.has D (keyL c)=(f c).isSome∧∀ z,D.atKey (keyL c) (.held z)=.held ((f c).getD z)
theorem TabN.tab {W:World} {m k:Nat} {f:UInt8→Option Value} (h:TabN W m k f) (hk:k≤30):Tab W m f:=by
 obtain⟨D,n,h1,h2,h3⟩:=h
 exact⟨D,n,h1,by omega,h3⟩
theorem TabN.made (W:World):TabN (W.alloc (.map #[] 0)) W.heap.size 0 fun _=>none:=
 ⟨.map [],0,World.ownsMap_made W _ _ _,by omega,fun c=>⟨rfl,fun z=>rfl⟩⟩
theorem TabN.kept {W W':World} {m k:Nat} {f:UInt8→Option Value} {row:Option Nat} (h:TabN W m k f) (hg:W.grownBy W' row) (hne:some m≠row):TabN W' m k f:=by
 obtain⟨D,n,h1,h2,h3⟩:=h
 exact⟨D,n,h1.kept hg hne,h2,h3⟩
theorem TabN.lt {W:World} {m k:Nat} {f:UInt8→Option Value} (h:TabN W m k f):m<W.heap.size:=by
 obtain⟨D,n,h1,_⟩:=h
 exact h1.lt
def putT (f:UInt8→Option Value) (c:UInt8) (v:Value):UInt8→Option Value:=fun x=>if x=c then some v else f x
theorem TabN.put {W:World} {m k:Nat} {f:UInt8→Option Value} (h:TabN W m k f) (hk:k≤29) (c:UInt8) (v:Value):∃ W',(Instr.mapUpdate 80 (.map (some m)) (.int .u8 (c.toNat:Int)) v).run Tryz.prog W=.ok () W'∧TabN W' m (k+1) (putT f c v)∧W.grownBy W' (some m):=by
 obtain⟨D,n,h1,h2,h3⟩:=h
 obtain⟨W',hr,h4,h5⟩:=h1.update u8_keyed Tryz.underlying80 (by unfold maxLen;omega) (keyOf_u8 c) (val:=v) (d:=.held v) (ps:=[]) rfl
 refine⟨W',hr,⟨_,n+1,h4,by omega,fun x=>?_⟩,h5⟩
 unfold putT
 by_cases hx:x=c
 ·subst hx
  rw[if_pos rfl]
  exact⟨has_put_same h1.isMap (show WideAt.IsKeyLit (keyL x) from trivial) _,fun z=>atKey_put_same h1.isMap (show WideAt.IsKeyLit (keyL x) from trivial) _ _⟩
 ·rw[if_neg hx,has_put_other (key_ne hx)]
  exact⟨(h3 x).1,fun z=>by rw[atKey_put_other (key_ne hx)];exact(h3 x).2 z⟩
section
variable {ops:Array Oper} {rest:List Oper} {o:Oper} {a:Act} {Q:Exit→Act→World→Prop}
theorem wpList_tabUpd (w:World) (hgd:o.guard=none) (mo xo vo:Operand) (hop:o.op=.mapUpdate 80 mo xo vo) (m k:Nat) (f:UInt8→Option Value) (c:UInt8) (v:Value) (hm:a.eval mo=.map (some m)) (hx:a.eval xo=.int .u8 (c.toNat:Int)) (hv:a.eval vo=v)
  (h:TabN w m k f) (hk:k≤29) (hK:∀ w',TabN w' m (k+1) (putT f c v)→w.grownBy w' (some m)→wpList Tryz.prog ops Q rest (a.put o.dst undef) w'):wpList Tryz.prog ops Q (o::rest) a w:=by
 refine wpList_plain hgd fun K' hK'=>?_
 obtain⟨w',hrun,r1,r2⟩:=h.put hk c v
 unfold Oper.wp
 simp[execOp,hop,hm,hx,hv,hrun,Result.andThen]
 exact hK' _ _ (hK w' r1 r2)
theorem wpList_tabIns (w:World) (hgd:o.guard=none) (mo xo vo:Operand) (hop:o.op=.insert 80 mo xo vo) (m k:Nat) (f:UInt8→Option Value) (c:UInt8) (v:Value) (hm:a.eval mo=.map (some m)) (hx:a.eval xo=.int .u8 (c.toNat:Int)) (hv:a.eval vo=v)
  (h:TabN w m k f) (hk:k≤29) (hK:∀ w',TabN w' m (k+1) (putT f c v)→w.grownBy w' (some m)→wpList Tryz.prog ops Q rest (a.put o.dst undef) w'):wpList Tryz.prog ops Q (o::rest) a w:=by
 refine wpList_plain hgd fun K' hK'=>?_
 obtain⟨w',hrun,r1,r2⟩:=h.put hk c v
 unfold Oper.wp
 simp[execOp,hop,hm,hx,hv,hrun,Result.andThen]
 exact hK' _ _ (hK w' r1 r2)
end
structure Opn (W:World) (S:L) (st pa:Option Nat) (w:World):Prop where
 box:w.heap[W.heap.size]?=some (.cells #[.string (mkS S),.int .i64 0,.int .i64 1,.int .i64 0,.slice none 0 0,.slice none 0 0,.slice none 0 0,.bool false,.int .i64 0,.map st,.map pa] 82 (0,0))
 bel:Below W.heap.size W w
 lt:W.heap.size<w.heap.size
theorem Opn.grown {W w w':World} {S:L} {st pa:Option Nat} {m:Nat} (h:Opn W S st pa w) (hg:w.grownBy w' (some m)) (hm:W.heap.size<m):Opn W S st pa w':=
 ⟨(hg.block _ h.lt (fun e=>by injection e with e;omega)).trans h.box,h.bel.grown hg (Nat.le_of_lt h.lt) (fun k e=>by injection e with e;omega),Nat.lt_of_lt_of_le h.lt hg.size⟩
theorem Opn.later {W w w':World} {S:L} {st pa:Option Nat} (h:Opn W S st pa w) (hl:Later w w'):Opn W S st pa w':=
 ⟨(hl.block _ h.lt).trans h.box,h.bel.trans (hl.mono (Nat.le_of_lt h.lt)),Nat.lt_of_lt_of_le h.lt hl.size⟩
theorem Opn.cells {W w:World} {S:L} {st pa:Option Nat} (h:Opn W S st pa w):w.cell? ⟨W.heap.size,9,none⟩=some (.map st)∧w.cell? ⟨W.heap.size,10,none⟩=some (.map pa)∧w.frozen? ⟨W.heap.size,9,none⟩=false∧w.frozen? ⟨W.heap.size,10,none⟩=false:=
 ⟨(cell_row h.box 9).1,(cell_row h.box 10).1,(cell_row h.box 9).2,(cell_row h.box 10).2⟩
theorem Opn.set9 {W w:World} {S:L} {st pa:Option Nat} (h:Opn W S st pa w) (m:Nat):Opn W S (some m) pa (w.setCell ⟨W.heap.size,9,none⟩ (.map (some m))):=
 ⟨by rw[set_row h.box 9];rfl,h.bel.setCell (Nat.le_refl _) _,by rw[World.size_setCell];exact h.lt⟩
theorem Opn.set10 {W w:World} {S:L} {st pa:Option Nat} (h:Opn W S st pa w) (m:Nat):Opn W S st (some m) (w.setCell ⟨W.heap.size,10,none⟩ (.map (some m))):=
 ⟨by rw[set_row h.box 10];rfl,h.bel.setCell (Nat.le_refl _) _,by rw[World.size_setCell];exact h.lt⟩
theorem TabN.later {W W':World} {m k:Nat} {f:UInt8→Option Value} (h:TabN W m k f) (hl:Later W W'):TabN W' m k f:=h.kept (row:=none) ⟨hl.os,hl.tape,hl.output,hl.size,fun k hk _=>hl.block k hk⟩ nofun
def putL (f:UInt8→Option Value) (v:Value) (l:L):UInt8→Option Value:=l.foldl (fun f c=>putT f c v) f
theorem putL_snoc (f:UInt8→Option Value) (v:Value) (l:L) (c:UInt8):putL f v (l++[c])=putT (putL f v l) c v:=by simp[putL]
theorem TabN.congr {W:World} {m k:Nat} {f f':UInt8→Option Value} (h:TabN W m k f) (he:∀ c,f c=f' c):TabN W m k f':=by
 obtain⟨D,n,h1,h2,h3⟩:=h
 exact⟨D,n,h1,h2,fun c=>by rw[←he c];exact h3 c⟩
theorem starts_eq (g:Nat) (c:UInt8):putL (putL (putT (putT (putT (fun _=>none) 92 (fnv 36 g)) 35 (fnv 37 g)) 10 (fnv 38 g)) (fnv 39 g) (([32,9]:L).take 2)) (fnv 40 g) (([59,38,124,40,41,60,62]:L).take 7) c=startsT g c:=by
 simp only[List.take,putL,List.foldl_cons,List.foldl_nil,putT,startsT]
 by_cases h1:c=92
 ·subst h1;rfl
 by_cases h2:c=35
 ·subst h2;rfl
 by_cases h3:c=10
 ·subst h3;rfl
 by_cases h4:c=32
 ·subst h4;rfl
 by_cases h5:c=9
 ·subst h5;rfl
 by_cases h6:c=59
 ·subst h6;rfl
 by_cases h7:c=38
 ·subst h7;rfl
 by_cases h8:c=124
 ·subst h8;rfl
 by_cases h9:c=40
 ·subst h9;rfl
 by_cases h10:c=41
 ·subst h10;rfl
 by_cases h11:c=60
 ·subst h11;rfl
 by_cases h12:c=62
 ·subst h12;rfl
 simp[h1,h2,h3,h4,h5,h6,h7,h8,h9,h10,h11,h12]
theorem parts_eq (g:Nat) (c:UInt8):putT (putT (putT (putT (putT (fun _=>none) 92 (fnv 41 g)) 39 (fnv 42 g)) 34 (fnv 43 g)) 36 (fnv 44 g)) 96 (fnv 45 g) c=partsT g c:=by
 simp only[putT,partsT]
 by_cases h1:c=92
 ·subst h1;rfl
 by_cases h2:c=39
 ·subst h2;rfl
 by_cases h3:c=34
 ·subst h3;rfl
 by_cases h4:c=36
 ·subst h4;rfl
 by_cases h5:c=96
 ·subst h5;rfl
 simp[h1,h2,h3,h4,h5]
theorem open_v (S:L) (W:World) (hS:S.length≤4096):Calls Tryz.prog 20 #[.string (mkS S)] W fun e W'=>∃ g σ,e=.returned (.pointer (some ⟨g,0,none⟩))∧Mem W' W.heap.size g S σ∧σ.l=S∧σ.ts=[]∧σ.hs=[]∧σ.d=0∧Below W.heap.size W W':=by
 have hmf:∀ (fn:Fn) (first cap:Array Value) (w:World),(Instr.makeFunc fn first cap).run Tryz.prog w=.ok (.func fn first cap) w:=fun _ _ _ _=>rfl
 have hmm:=@run_makeMap Tryz.prog
 obtain⟨G,hG⟩:∃ G,G=W.heap.size:=⟨_,rfl⟩
 obtain⟨ob,hob⟩:∃ ob,ob=Obj.cells #[.string (mkS S),.int .i64 0,.int .i64 1,.int .i64 0,.slice none 0 0,.slice none 0 0,.slice none 0 0,.bool false,.int .i64 0,.map none,.map none] 82 (0,0):=⟨_,rfl⟩
 have ht0:TabN ((W.alloc ob).alloc (.map #[] 0)) (W.heap.size+1) 0 fun _=>none:=by
  have:=TabN.made (W.alloc ob)
  rwa[World.size_alloc] at this
 have ho0:Opn W S none none ((W.alloc ob).alloc (.map #[] 0)):=by
  refine Opn.later (w:=W.alloc ob) ⟨by rw[hob];exact heap_alloc_new W _,(Below.refl _ _).alloc (Nat.le_refl _) _,by simp⟩ (Later.alloc _ _)
 rw[hob] at ht0 ho0
 have HT0:=Lib.hid ht0
 have HO0:=Lib.hid ho0
 have HS:=Lib.hid hS
 clear ht0 ho0 hob hS
 go_enter Tryz.func20,Tryz.ntmps20
 go_wp2_with (first
  |(refine wpList_tabIns _ rfl (.tmp 12) (.const (.int .u8 92)) (.tmp 14) rfl (W.heap.size+1) 0 _ 92 (fnv 36 W.heap.size) rfl rfl rfl HT0.out (by omega) ?_;intro w1 ht1 hg1;have HT1:=Lib.hid ht1;have HO1:=Lib.hid (HO0.out.grown hg1 (by omega));clear ht1 hg1)
  |(refine wpList_tabIns _ rfl (.tmp 12) (.const (.int .u8 35)) (.tmp 16) rfl (W.heap.size+1) 1 _ 35 (fnv 37 W.heap.size) rfl rfl rfl HT1.out (by omega) ?_;intro w2 ht2 hg2;have HT2:=Lib.hid ht2;have HO2:=Lib.hid (HO1.out.grown hg2 (by omega));clear ht2 hg2)
  |(refine wpList_tabIns _ rfl (.tmp 12) (.const (.int .u8 10)) (.tmp 18) rfl (W.heap.size+1) 2 _ 10 (fnv 38 W.heap.size) rfl rfl rfl HT2.out (by omega) ?_;intro w3 ht3 hg3;have ho3:=HO2.out.grown hg3 (by omega);obtain⟨k9,k10,z9,z10⟩:=ho3.cells;have HO3:=Lib.hid (ho3.set9 (W.heap.size+1));have HT3:=Lib.hid (ht3.kept (set_only w3 W.heap.size 9 (.map (some (W.heap.size+1)))) (fun e=>by injection e with e;omega));have hl4:=Later.alloc (w3.setCell ⟨W.heap.size,9,none⟩ (.map (some (W.heap.size+1)))) (.cells #[.int .u8 32,.int .u8 9] 5 (2,3));have hcv:=conv_const (w3.setCell ⟨W.heap.size,9,none⟩ (.map (some (W.heap.size+1)))) #[.int .u8 32,.int .u8 9] 2 2 w3.heap.size (by simp);have HRD:=Lib.hid (Rd.litF (w3.setCell ⟨W.heap.size,9,none⟩ (.map (some (W.heap.size+1)))) 5 (2,3) [.int .u8 32,.int .u8 9]);have HL4:=Lib.hid hl4;have hm3:=ht3.lt;clear ht3 hg3 ho3 hl4))
 obtain⟨w4,hw4⟩:∃ w4,w4=(w3.setCell ⟨W.heap.size,9,none⟩ (.map (some (W.heap.size+1)))).alloc (.cells #[.int .u8 32,.int .u8 9] 5 (2,3)):=⟨_,rfl⟩
 have HO4:=Lib.hid (show Opn W S (some (W.heap.size+1)) none w4 by rw[hw4];exact HO3.out.later HL4.out)
 have HT4:=Lib.hid (show TabN w4 (W.heap.size+1) 3 _ by rw[hw4];exact HT3.out.later HL4.out)
 have HR4:=Lib.hid (show Rd w4 w4.heap.size (some ⟨w3.heap.size,0,none⟩) 2 (([32,9]:L).map bv) by
  have h:=HRD.out
  rw[World.size_setCell] at h
  rw[hw4]
  exact h.more (by simp))
 have HZ4:=Lib.hid (show w3.heap.size<w4.heap.size by rw[hw4];simp)
 clear HO3 HT3 HRD HL4 hcv
 rw[←hw4]
 have HM3:=Lib.hid (show W.heap.size+1<w3.heap.size from hm3)
 clear hw4 hm3 k9 k10 z9 z10
 go_loopw [25] (fun i wr=>∃ k:Nat,k≤2∧i=.int .i64 (k:Int)∧TabN wr (W.heap.size+1) (3+k) (putL (putT (putT (putT (fun _=>none) 92 (fnv 36 W.heap.size)) 35 (fnv 37 W.heap.size)) 10 (fnv 38 W.heap.size)) (fnv 39 W.heap.size) (([32,9]:L).take k))∧Opn W S (some (W.heap.size+1)) none wr∧Rd wr wr.heap.size (some ⟨w3.heap.size,0,none⟩) 2 (([32,9]:L).map bv)) (fun i _=>2-(intOf i).toNat)
 case atStart=>exact⟨0,by omega,rfl,HT4.out,HO4.out,HR4.out⟩
 case round=>
  obtain⟨k,hk,rfl,ht,ho,hr⟩:=hrel
  have HT:=Lib.hid ht
  have HO:=Lib.hid ho
  have HR:=Lib.hid hr
  clear ht ho hr
  by_cases hkn:k<2
  ·obtain⟨ad,hlk,had,_,hcell⟩:=HR.out.byte hkn
   obtain⟨c,hc⟩:∃ c,c=([32,9]:L)[k]:=⟨_,rfl⟩
   rw[←hc] at hcell
   injection had with had
   have hcell2:wr.cell? ((⟨w3.heap.size,0,none⟩:Addr).add k)=some (.int .u8 (c.toNat:Int)):=by rw[had];exact hcell
   rw[add_lit0] at hcell2
   have hk0:(0:Int)≤(k:Int):=by omega
   have HTK:=Lib.hid (show ([32,9]:L).take (k+1)=([32,9]:L).take k++[c] by rw[List.take_succ_eq_append_getElem hlk,hc])
   obtain⟨k9,k10,z9,z10⟩:=HO.out.cells
   clear hcell hc had hlk
   go_wp2_with (first
    |(at_mapUpdate;refine wpList_tabUpd _ rfl (.tmp 32) (.tmp 33) (.tmp 35) rfl (W.heap.size+1) (3+k) _ c (fnv 39 W.heap.size) rfl rfl rfl HT.out (by omega) ?_;intro w9 ht9 hg9;have HT9:=Lib.hid ht9;have HG9:=Lib.hid hg9;clear ht9 hg9))
   go_roundw
   case rel=>
    refine⟨k+1,by omega,by go_num,by rw[HTK.out,putL_snoc];exact HT9.out,HO.out.grown HG9.out (by omega),?_⟩
    refine⟨HR.out.1,fun h0=>?_⟩
    obtain⟨ad2,e2,hb2,hc2⟩:=HR.out.2 h0
    refine⟨ad2,e2,Nat.lt_of_lt_of_le hb2 HG9.out.size,fun j u hu=>?_⟩
    have hc3:=hc2 j u hu
    injection e2 with e2
    rw[←e2,add_lit0] at hc3⊢
    rw[←hc3]
    exact World.cell?_of_block (HG9.out.block _ (by rw[←e2] at hb2;exact hb2) (fun e=>by have e':w3.heap.size=W.heap.size+1:=Option.some.inj e;have:=HM3.out;omega))
   case measure=>simp[intOf];omega
  ·obtain hke:k=2:=by omega
   have HT5:=Lib.hid (show TabN wr (W.heap.size+1) 5 _ by have h:=HT.out;rw[hke] at h;exact h)
   have hlt5:=HT5.out.lt
   clear hke HT HR
   have hcv:=conv_const wr #[.int .u8 59,.int .u8 38,.int .u8 124,.int .u8 40,.int .u8 41,.int .u8 60,.int .u8 62] 7 7 wr.heap.size rfl
   have HL6:=Lib.hid (Later.alloc wr (.cells #[.int .u8 59,.int .u8 38,.int .u8 124,.int .u8 40,.int .u8 41,.int .u8 60,.int .u8 62] 5 (7,8)))
   have HR6:=Lib.hid (show Rd (wr.alloc (.cells #[.int .u8 59,.int .u8 38,.int .u8 124,.int .u8 40,.int .u8 41,.int .u8 60,.int .u8 62] 5 (7,8))) (wr.alloc (.cells #[.int .u8 59,.int .u8 38,.int .u8 124,.int .u8 40,.int .u8 41,.int .u8 60,.int .u8 62] 5 (7,8))).heap.size (some ⟨wr.heap.size,0,none⟩) 7 (([59,38,124,40,41,60,62]:L).map bv) from(Rd.litF wr 5 (7,8) (([59,38,124,40,41,60,62]:L).map bv)).more (by simp))
   have HM6:=Lib.hid (show W.heap.size+1<wr.heap.size from hlt5)
   go_wp2
   obtain⟨w6,hw6⟩:∃ w6,w6=wr.alloc (.cells #[.int .u8 59,.int .u8 38,.int .u8 124,.int .u8 40,.int .u8 41,.int .u8 60,.int .u8 62] 5 (7,8)):=⟨_,rfl⟩
   rw[←hw6] at HR6 HL6⊢
   obtain⟨N6,hN6⟩:∃ N6,N6=wr.heap.size:=⟨_,rfl⟩
   rw[←hN6] at HR6 HM6⊢
   have HO6:=Lib.hid (HO.out.later HL6.out)
   have HT6:=Lib.hid (HT5.out.later HL6.out)
   clear HO HT5 HL6 hw6 hN6 hcv HM3 hlt5
   have HM3:=HM6
   go_loopw [40] (fun i wr=>∃ k:Nat,k≤7∧i=.int .i64 (k:Int)∧TabN wr (W.heap.size+1) (5+k) (putL (putL (putT (putT (putT (fun _=>none) 92 (fnv 36 W.heap.size)) 35 (fnv 37 W.heap.size)) 10 (fnv 38 W.heap.size)) (fnv 39 W.heap.size) (([32,9]:L).take 2)) (fnv 40 W.heap.size) (([59,38,124,40,41,60,62]:L).take k))∧Opn W S (some (W.heap.size+1)) none wr∧Rd wr wr.heap.size (some ⟨N6,0,none⟩) 7 (([59,38,124,40,41,60,62]:L).map bv)) (fun i _=>7-(intOf i).toNat)
   case atStart=>exact⟨0,by omega,rfl,HT6.out,HO6.out,HR6.out⟩
   case round=>
    obtain⟨k,hk,rfl,ht,ho,hr⟩:=hrel
    have HT:=Lib.hid ht
    have HO:=Lib.hid ho
    have HR:=Lib.hid hr
    clear ht ho hr
    by_cases hkn:k<7
    ·obtain⟨ad,hlk,had,_,hcell⟩:=HR.out.byte hkn
     obtain⟨c,hc⟩:∃ c,c=([59,38,124,40,41,60,62]:L)[k]:=⟨_,rfl⟩
     rw[←hc] at hcell
     injection had with had
     have hcell2:wr.cell? ((⟨N6,0,none⟩:Addr).add k)=some (.int .u8 (c.toNat:Int)):=by rw[had];exact hcell
     rw[add_lit0] at hcell2
     have hk0:(0:Int)≤(k:Int):=by omega
     have HTK:=Lib.hid (show ([59,38,124,40,41,60,62]:L).take (k+1)=([59,38,124,40,41,60,62]:L).take k++[c] by rw[List.take_succ_eq_append_getElem hlk,hc])
     obtain⟨k9,k10,z9,z10⟩:=HO.out.cells
     clear hcell hc had hlk
     go_wp2_with (first
      |(at_mapUpdate;refine wpList_tabUpd _ rfl (.tmp 47) (.tmp 48) (.tmp 50) rfl (W.heap.size+1) (5+k) _ c (fnv 40 W.heap.size) rfl rfl rfl HT.out (by omega) ?_;intro w9 ht9 hg9;have HT9:=Lib.hid ht9;have HG9:=Lib.hid hg9;clear ht9 hg9))
     go_roundw
     case rel=>
      refine⟨k+1,by omega,by go_num,by rw[HTK.out,putL_snoc];exact HT9.out,HO.out.grown HG9.out (by omega),?_⟩
      refine⟨HR.out.1,fun h0=>?_⟩
      obtain⟨ad2,e2,hb2,hc2⟩:=HR.out.2 h0
      refine⟨ad2,e2,Nat.lt_of_lt_of_le hb2 HG9.out.size,fun j u hu=>?_⟩
      have hc3:=hc2 j u hu
      injection e2 with e2
      rw[←e2,add_lit0] at hc3⊢
      rw[←hc3]
      exact World.cell?_of_block (HG9.out.block _ (by rw[←e2] at hb2;exact hb2) (fun e=>by have e':N6=W.heap.size+1:=Option.some.inj e;have:=HM3.out;omega))
     case measure=>simp[intOf];omega
    ·obtain hke:k=7:=by omega
     have HT7:=Lib.hid (show TabN wr (W.heap.size+1) 12 _ by have h:=HT.out;rw[hke] at h;exact h)
     have hlt7:=HT7.out.lt
     have HST:=Lib.hid (show Tab (wr.alloc (.map #[] 0)) (W.heap.size+1) (startsT W.heap.size) from((HT7.out.later (Later.alloc _ _)).congr (starts_eq W.heap.size)).tab (by omega))
     have HO7:=Lib.hid (HO.out.later (Later.alloc wr (.map #[] 0)))
     have HP0:=Lib.hid (TabN.made wr)
     have HM7:=Lib.hid (show W.heap.size+1<wr.heap.size from hlt7)
     have HW7:=Lib.hid (Nat.lt_of_succ_lt hlt7)
     clear hke HT HR HT7 HO hlt7
     go_wp2_with (first
      |(refine wpList_tabIns _ rfl (.tmp 53) (.const (.int .u8 92)) (.tmp 55) rfl wr.heap.size 0 _ 92 (fnv 41 W.heap.size) rfl rfl rfl HP0.out (by omega) ?_;intro w1 ht1 hg1;have HP1:=Lib.hid ht1;have HG1:=Lib.hid hg1;clear ht1 hg1)
      |(refine wpList_tabIns _ rfl (.tmp 53) (.const (.int .u8 39)) (.tmp 57) rfl wr.heap.size 1 _ 39 (fnv 42 W.heap.size) rfl rfl rfl HP1.out (by omega) ?_;intro w2 ht2 hg2;have HP2:=Lib.hid ht2;have HG2:=Lib.hid (only_trans HG1.out hg2);clear ht2 hg2)
      |(refine wpList_tabIns _ rfl (.tmp 53) (.const (.int .u8 34)) (.tmp 59) rfl wr.heap.size 2 _ 34 (fnv 43 W.heap.size) rfl rfl rfl HP2.out (by omega) ?_;intro w3 ht3 hg3;have HP3:=Lib.hid ht3;have HG3:=Lib.hid (only_trans HG2.out hg3);clear ht3 hg3)
      |(refine wpList_tabIns _ rfl (.tmp 53) (.const (.int .u8 36)) (.tmp 61) rfl wr.heap.size 3 _ 36 (fnv 44 W.heap.size) rfl rfl rfl HP3.out (by omega) ?_;intro w4 ht4 hg4;have HP4:=Lib.hid ht4;have HG4:=Lib.hid (only_trans HG3.out hg4);clear ht4 hg4)
      |(refine wpList_tabIns _ rfl (.tmp 53) (.const (.int .u8 96)) (.tmp 63) rfl wr.heap.size 4 _ 96 (fnv 45 W.heap.size) rfl rfl rfl HP4.out (by omega) ?_;intro w5 ht5 hg5;have HP5:=Lib.hid ht5;have HG5:=Lib.hid (only_trans HG4.out hg5);have ho5:=HO7.out.grown (only_trans HG4.out hg5) (by have:=HW7.out;omega);obtain⟨k9,k10,z9,z10⟩:=ho5.cells;have HO8:=Lib.hid (ho5.set10 wr.heap.size);clear ht5 hg5 ho5))
     go_ret
     have hgs:=set_only w5 W.heap.size 10 (.map (some wr.heap.size))
     have hst:=HST.out.kept HG5.out (fun e=>by have e':=Option.some.inj e;have:=HM7.out;omega)
     have hst2:=hst.kept hgs (fun e=>by have e':=Option.some.inj e;omega)
     have hpa2:=((HP5.out.congr (parts_eq W.heap.size)).tab (by omega)).kept hgs (fun e=>by have e':=Option.some.inj e;have:=HW7.out;omega)
     refine⟨W.heap.size,⟨S,[],false,0,0,[],[]⟩,rfl,⟨0,1,.slice none 0 0,.slice none 0 0,.slice none 0 0,W.heap.size+1,wr.heap.size,⟨HO8.out.box,Nat.le_refl _,HS.out,by simp,by simp,rfl,World.ownsRow_nil _ _ _ _,World.ownsRow_nil _ _ _ _,World.ownsRow_nil _ _ _ _,by omega,by have:=HW7.out;omega,hst2,hpa2⟩⟩,rfl,rfl,rfl,rfl,HO8.out.bel⟩
end Go.Proofs.YtkkchkkpnlnbgaaGreatDoor
namespace Go.Proofs.YtkkchkkpnlnbgaaGreatDoor
open Go.RowKit Go.Maps
open Lx (nl Tok)
theorem own_mono {w:World} {base base' size n:Nat} {e:TypeId} {v:Value} {xs:List Value} (h:w.ownsRow base e size v n xs) (hb:base'≤base):w.ownsRow base' e size v n xs:=by
 refine⟨h.1,?_⟩
 rcases h.2 with h0 | ⟨g,cap,cur,h1,h2,h3⟩
 ·exact .inl h0
 ·exact .inr ⟨g,cap,cur,h1,Nat.le_trans hb h2,h3⟩
theorem assert_nil (w:World):(Instr.typeAssert .nilIface 20 55 true).run Tryz.prog w=.ok (.tuple #[.agg #[.int .i64 0,.int .i64 0],.bool false]) w:=by kernel_rfl
theorem assert_flt (e l:Int) (w:World):(Instr.typeAssert (.iface 55 (.agg #[.int .i64 e,.int .i64 l])) 20 55 true).run Tryz.prog w=.ok (.tuple #[.agg #[.int .i64 e,.int .i64 l],.bool true]) w:=by kernel_rfl
theorem catch_frame {args:Array Value} {n:Nat} {l:List Value} (h:args++Array.replicate n undef=l.toArray):({ tmps:=args++Array.replicate n undef,defers:=[] }:Act)=⟨l.toArray,[]⟩:=by rw[h]
theorem catch_idle (p0 p1 p2:Addr) (w:World):CallsD Tryz.prog 19 #[.pointer (some p0),.pointer (some p1),.pointer (some p2)] .returning w fun e u' w'=>e=.returned (.tuple #[])∧u'=.returning∧Later w w':=by
 have hta:=assert_nil
 refine callsD_of_wpS Tryz.func19 rfl fun c₀ cs hu=>?_
 rw[Tryz.ntmps19]
 rw[catch_frame (l:=[.pointer (some p0),.pointer (some p1),.pointer (some p2),undef,undef,undef,undef,undef,undef,undef,undef,undef,undef,undef,undef]) rfl]
 apply wpS_seq
 apply wpS_region
 simp[wpOpsS,go_sem,recoverD,hu,Exit.thenS,hta]
 refine wpS_of_wp ?_
 go_wp2
 cases c₀
 simp_all [bodyPostS,results,Tryz.results19]
 exact Later.alloc w _
theorem set3 {w:World} {b0 b1 b2:Nat} {v0 v1 v2:Value} {t0 t1 t2:TypeId} (u0 u1 u2:Value) (h0:w.heap[b0]?=some (.cells #[v0] t0 (0,0))) (h1:w.heap[b1]?=some (.cells #[v1] t1 (0,0))) (h2:w.heap[b2]?=some (.cells #[v2] t2 (0,0))) (h01:b0≠b1) (h02:b0≠b2) (h12:b1≠b2) :
  (((w.setCell ⟨b0,0,none⟩ u0).setCell ⟨b1,0,none⟩ u1).setCell ⟨b2,0,none⟩ u2).heap[b0]?=some (.cells #[u0] t0 (0,0))∧(((w.setCell ⟨b0,0,none⟩ u0).setCell ⟨b1,0,none⟩ u1).setCell ⟨b2,0,none⟩ u2).heap[b1]?=some (.cells #[u1] t1 (0,0))∧(((w.setCell ⟨b0,0,none⟩ u0).setCell ⟨b1,0,none⟩ u1).setCell ⟨b2,0,none⟩ u2).heap[b2]?=some (.cells #[u2] t2 (0,0)) ∧
  ∀ B,B≤b0→B≤b1→B≤b2→Below B w (((w.setCell ⟨b0,0,none⟩ u0).setCell ⟨b1,0,none⟩ u1).setCell ⟨b2,0,none⟩ u2):=by
 refine⟨?_,?_,?_,fun B q0 q1 q2=>(((Below.refl B w).setCell q0 _).setCell q1 _).setCell q2 _⟩
 ·rw[Below.heap_setCell _ _ _ _ h02,Below.heap_setCell _ _ _ _ h01];exact set_row h0 0 _
 ·rw[Below.heap_setCell _ _ _ _ h12]
  have q1:(w.setCell ⟨b0,0,none⟩ u0).heap[b1]?=some (.cells #[v1] t1 (0,0)):=(Below.heap_setCell w ⟨b0,0,none⟩ _ b1 (Ne.symm h01)).trans h1
  exact set_row q1 0 _
 ·have q2:((w.setCell ⟨b0,0,none⟩ u0).setCell ⟨b1,0,none⟩ u1).heap[b2]?=some (.cells #[v2] t2 (0,0)):=((Below.heap_setCell _ ⟨b1,0,none⟩ _ b2 (Ne.symm h12)).trans (Below.heap_setCell w ⟨b0,0,none⟩ _ b2 (Ne.symm h02))).trans h2
  exact set_row q2 0 _
theorem catch_flt (b0 b1 b2:Nat) (v0 v1 v2:Value) (e l:Int) (older:List PanicEntry) (w:World) (h0:w.heap[b0]?=some (.cells #[v0] 39 (0,0))) (h1:w.heap[b1]?=some (.cells #[v1] 26 (0,0))) (h2:w.heap[b2]?=some (.cells #[v2] 3 (0,0))) (h01:b0≠b1) (h02:b0≠b2) (h12:b1≠b2) :
  CallsD Tryz.prog 19 #[.pointer (some ⟨b0,0,none⟩),.pointer (some ⟨b1,0,none⟩),.pointer (some ⟨b2,0,none⟩)] (.panicking ({ v:=.iface 55 (.agg #[.int .i64 e,.int .i64 l]),recovered:=false }::older)) w fun r u' w'=>
   r=.returned (.tuple #[])∧u'=.panicking ({ v:=.iface 55 (.agg #[.int .i64 e,.int .i64 l]),recovered:=true }::older)∧w'.heap[b0]?=some (.cells #[.slice none 0 0] 39 (0,0))∧w'.heap[b1]?=some (.cells #[.int .i64 e] 26 (0,0))∧w'.heap[b2]?=some (.cells #[.int .i64 l] 3 (0,0))∧∀ B,B≤b0→B≤b1→B≤b2→Below B w w':=by
 have hta:=assert_flt e l
 have c0:=(cell_row h0 0).1
 have c1:=(cell_row h1 0).1
 have c2:=(cell_row h2 0).1
 have z0:=(cell_row h0 0).2
 have z1:=(cell_row h1 0).2
 have z2:=(cell_row h2 0).2
 have n0:=lt_of_block h0
 have n1:=lt_of_block h1
 have n2:=lt_of_block h2
 refine callsD_of_wpS Tryz.func19 rfl fun c₀ cs hu=>?_
 rw[Tryz.ntmps19]
 rw[catch_frame (l:=[.pointer (some ⟨b0,0,none⟩),.pointer (some ⟨b1,0,none⟩),.pointer (some ⟨b2,0,none⟩),undef,undef,undef,undef,undef,undef,undef,undef,undef,undef,undef,undef]) rfl]
 apply wpS_seq
 apply wpS_region
 simp[wpOpsS,go_sem,recoverD,hu,Exit.thenS,hta]
 refine wpS_of_wp ?_
 go_wp2
 go_region
 go_wp2
 obtain⟨w1,hw1⟩:∃ w1,w1=((w.setCell ⟨b0,0,none⟩ (.slice none 0 0)).setCell ⟨b1,0,none⟩ (.int .i64 e)).setCell ⟨b2,0,none⟩ (.int .i64 l):=⟨_,rfl⟩
 rw[←hw1]
 have k0:w1.heap[b0]?=some (.cells #[.slice none 0 0] 39 (0,0)):=by
  rw[hw1,Below.heap_setCell _ _ _ _ h02,Below.heap_setCell _ _ _ _ h01];exact set_row h0 0 _
 have k1:w1.heap[b1]?=some (.cells #[.int .i64 e] 26 (0,0)):=by
  rw[hw1,Below.heap_setCell _ _ _ _ h12]
  have q1:(w.setCell ⟨b0,0,none⟩ (.slice none 0 0)).heap[b1]?=some (.cells #[v1] 26 (0,0)):=(Below.heap_setCell w ⟨b0,0,none⟩ _ b1 (Ne.symm h01)).trans h1
  exact set_row q1 0 _
 have k2:w1.heap[b2]?=some (.cells #[.int .i64 l] 3 (0,0)):=by
  rw[hw1]
  have q2:((w.setCell ⟨b0,0,none⟩ (.slice none 0 0)).setCell ⟨b1,0,none⟩ (.int .i64 e)).heap[b2]?=some (.cells #[v2] 3 (0,0)):=((Below.heap_setCell _ ⟨b1,0,none⟩ _ b2 (Ne.symm h12)).trans (Below.heap_setCell w ⟨b0,0,none⟩ _ b2 (Ne.symm h02))).trans h2
  exact set_row q2 0 _
 have kb:∀ B,B≤b0→B≤b1→B≤b2→Below B w w1:=fun B q0 q1 q2=>by
  rw[hw1]
  exact(((Below.refl B w).setCell q0 _).setCell q1 _).setCell q2 _
 have hz:w1.heap.size=w.heap.size:=by rw[hw1];simp
 have hl:=(Later.alloc w1 (.cells #[.int .i64 e,.int .i64 l] 55)).trans (Later.drew _)
 obtain⟨w2,hw2⟩:∃ w2,w2=(w1.alloc (.cells #[.int .i64 e,.int .i64 l] 55)).drew:=⟨_,rfl⟩
 rw[←hw2] at hl⊢
 have m0:=(hl.block b0 (by omega)).trans k0
 have m1:=(hl.block b1 (by omega)).trans k1
 have m2:=(hl.block b2 (by omega)).trans k2
 have mb:∀ B,B≤b0→B≤b1→B≤b2→Below B w w2:=fun B q0 q1 q2=>(kb B q0 q1 q2).trans (hl.mono (by omega))
 clear hw1 hw2 hl k0 k1 k2 kb hz c0 c1 c2 z0 z1 z2 n0 n1 n2 h0 h1 h2
 exact⟨rfl,_,rfl,_,results_none rfl _ _ _,rfl,rfl,m0,m1,m2,mb⟩
def AllC (S:L) (W:World) (x:Except (Nat×Nat) (List Tok)) (e:Ending) (W':World):Prop:=
 match x with
 | .ok o=>(∃ vt,e=.returned (.tuple #[vt,.int .i64 0,.int .i64 0])∧W'.ownsRow W.heap.size 63 4 vt o.length (cellsT (nl S) o))∧Later W W'
 | .error (n,k)=>e=.returned (.tuple #[.slice none 0 0,.int .i64 (n:Int),.int .i64 ((1+nl S-k:Nat):Int)])∧Later W W'
abbrev three (W:World):World:=((W.alloc (.cells #[.slice none 0 0] 39)).alloc (.cells #[.int .i64 0] 26)).alloc (.cells #[.int .i64 0] 3)
theorem three_blocks (W:World):(three W).heap.size=W.heap.size+3∧(three W).heap[W.heap.size]?=some (.cells #[.slice none 0 0] 39 (0,0))∧(three W).heap[W.heap.size+1]?=some (.cells #[.int .i64 0] 26 (0,0))∧(three W).heap[W.heap.size+1+1]?=some (.cells #[.int .i64 0] 3 (0,0))∧Below W.heap.size W (three W):=by
 have l1:=Later.alloc W (.cells #[.slice none 0 0] 39)
 have l2:=Later.alloc (W.alloc (.cells #[.slice none 0 0] 39)) (.cells #[.int .i64 0] 26)
 have l3:=Later.alloc ((W.alloc (.cells #[.slice none 0 0] 39)).alloc (.cells #[.int .i64 0] 26)) (.cells #[.int .i64 0] 3)
 have h1:=heap_alloc_new W (.cells #[.slice none 0 0] 39)
 have h2:=heap_alloc_new (W.alloc (.cells #[.slice none 0 0] 39)) (.cells #[.int .i64 0] 26)
 have h3:=heap_alloc_new ((W.alloc (.cells #[.slice none 0 0] 39)).alloc (.cells #[.int .i64 0] 26)) (.cells #[.int .i64 0] 3)
 rw[World.size_alloc] at h2
 rw[World.size_alloc,World.size_alloc] at h3
 refine⟨by simp,?_,?_,h3,l1.trans (l2.trans l3)⟩
 ·exact((l2.trans l3).block _ (by simp)).trans h1
 ·exact(l3.block _ (by simp)).trans h2
theorem all_v (S:L) (hS:S.length≤4096) (W:World) (hg:Sgn W):Calls Tryz.prog 11 #[.string (mkS S)] W (AllC S W (Lx.all S)):=by
 have hmf:∀ (fn:Fn) (first cap:Array Value) (w:World),(Instr.makeFunc fn first cap).run Tryz.prog w=.ok (.func fn first cap) w:=fun _ _ _ _=>rfl
 have hsz:¬ (4096:Int)<((mkS S).size:Int):=by rw[mkS_size];omega
 have HOP:=Lib.hid (fun W=>open_v S W hS)
 have h3:=three_blocks W
 have HG3:=Lib.hid (show Sgn (three W) from hg.keep h3.2.2.2.2 hg.pos)
 have HIN:=Lib.hid (show ∀ σ:St,σ.l=S→σ.ts=[]→σ.hs=[]→σ.d=0→Inv S σ from fun σ e1 e2 e3 e4=>⟨by rw[e1,e2];simp,e4,by rw[e3];nofun,by rw[e3];simp,by rw[e2];nofun,by rw[e2];nofun⟩)
 have H3:=Lib.hid h3
 have HP:=Lib.hid hg.pos
 clear hS hg h3
 cases hx:Lx.all S with
 | error p=>
  obtain⟨n,k⟩:=p
  have HX:=Lib.hid hx
  clear hx
  go_enter_defers Tryz.func11,Tryz.ntmps11
  go_wp2_with (first
   |(go_at_call 20;(with_reducible refine(HOP.out _).mono ?_);rintro e w1 ⟨g,σ,rfl,hm,e1,e2,e3,e4,hb⟩;have HB:=Lib.hid hb;have hr:=all_r (HIN.out σ e1 e2 e3 e4) (by have h1:=H3.out.1;have h2:=HP.out;show _<(three W).heap.size;omega) (HG3.out.keep hb (by have h1:=H3.out.1;have h2:=HP.out;show _<(three W).heap.size;omega)) hm;rw[e1,e2,e3,show Lx.run S [] []=Lx.all S from rfl,HX.out] at hr;have HR:=Lib.hid hr;clear hr hm e1 e2 e3 e4 hb)
   |(go_at_call 21;(with_reducible refine HR.out.mono ?_);rintro e w2 ⟨rfl,hb2⟩))
  have hbt:Below (W.heap.size+3) (three W) w2:=by
   have h:=HB.out.trans hb2
   rw[show (three W).heap.size=W.heap.size+3 from H3.out.1] at h
   exact h
  have q0:=(hbt.block W.heap.size (by omega)).trans H3.out.2.1
  have q1:=(hbt.block (W.heap.size+1) (by omega)).trans H3.out.2.2.1
  have q2:=(hbt.block (W.heap.size+1+1) (by omega)).trans H3.out.2.2.2.1
  refine leaves_cons (f:=19) (args:=#[.pointer (some ⟨W.heap.size,0,none⟩),.pointer (some ⟨W.heap.size+1,0,none⟩),.pointer (some ⟨W.heap.size+1+1,0,none⟩)]) (by simp) (by simp[go_sem]) ?_
  refine(catch_flt _ _ _ _ _ _ (n:Int) ((1+nl S-k:Nat):Int) [] w2 q0 q1 q2 (by omega) (by omega) (by omega)).mono ?_
  rintro r u' w3 ⟨rfl,rfl,m0,m1,m2,mb⟩
  have d0:w3.cell? ⟨W.heap.size,0,none⟩=some (.slice none 0 0):=(cell_row m0 0).1
  have d1:w3.cell? ⟨W.heap.size+1,0,none⟩=some (.int .i64 (n:Int)):=(cell_row m1 0).1
  have d2:w3.cell? ⟨W.heap.size+1+1,0,none⟩=some (.int .i64 ((1+nl S-k:Nat):Int)):=(cell_row m2 0).1
  have hl:Later W w3:=(H3.out.2.2.2.2.trans (hbt.mono (by omega))).trans (mb W.heap.size (by omega) (by omega) (by omega))
  show ∃ v,(results Tryz.f11 _).run Tryz.prog w3=.ok v w3∧AllC S W (.error (n,k)) (.returned v) w3
  refine⟨_,?_,rfl,hl⟩
  simp[results,Tryz.results11,go_sem,d0,d1,d2]
 | ok o=>
  have HX:=Lib.hid hx
  clear hx
  go_enter_defers Tryz.func11,Tryz.ntmps11
  go_wp2_with (first
   |(go_at_call 20;(with_reducible refine(HOP.out _).mono ?_);rintro e w1 ⟨g,σ,rfl,hm,e1,e2,e3,e4,hb⟩;have HB:=Lib.hid hb;have hr:=all_r (HIN.out σ e1 e2 e3 e4) (by have h1:=H3.out.1;have h2:=HP.out;show _<(three W).heap.size;omega) (HG3.out.keep hb (by have h1:=H3.out.1;have h2:=HP.out;show _<(three W).heap.size;omega)) hm;rw[e1,e2,e3,show Lx.run S [] []=Lx.all S from rfl,HX.out] at hr;have HR:=Lib.hid hr;clear hr hm e1 e2 e3 e4 hb)
   |(go_at_call 21;(with_reducible refine HR.out.mono ?_);rintro e w2 ⟨⟨vt,rfl,ho⟩,hb2⟩;have hbt:=HB.out.trans hb2;rw[show (((W.alloc (.cells #[.slice none 0 0] 39)).alloc (.cells #[.int .i64 0] 26)).alloc (.cells #[.int .i64 0] 3)).heap.size=W.heap.size+3 from H3.out.1] at hbt ho;have q0:=(hbt.block W.heap.size (by omega)).trans H3.out.2.1;have q1:=(hbt.block (W.heap.size+1) (by omega)).trans H3.out.2.2.1;have q2:=(hbt.block (W.heap.size+1+1) (by omega)).trans H3.out.2.2.2.1;obtain⟨A,c,rfl,_⟩:=own_slice4 ho;have HO:=Lib.hid ho;have HBT:=Lib.hid hbt;have d0:w2.cell? ⟨W.heap.size,0,none⟩=some (.slice none 0 0):=(cell_row q0 0).1;have d1:w2.cell? ⟨W.heap.size+1,0,none⟩=some (.int .i64 0):=(cell_row q1 0).1;have d2:w2.cell? ⟨W.heap.size+1+1,0,none⟩=some (.int .i64 0):=(cell_row q2 0).1;have z0:=(cell_row q0 0).2;have z1:=(cell_row q1 0).2;have z2:=(cell_row q2 0).2;have Q:=Lib.hid (And.intro q0 (And.intro q1 q2));clear ho hbt q0 q1 q2 hb2))
  obtain⟨m0,m1,m2,mb⟩:=set3 (.slice A o.length c) (.int .i64 0) (.int .i64 0) Q.out.1 Q.out.2.1 Q.out.2.2 (by omega) (by omega) (by omega)
  have ho3:World.ownsRow (((w2.setCell ⟨W.heap.size,0,none⟩ (.slice A o.length c)).setCell ⟨W.heap.size+1,0,none⟩ (.int .i64 0)).setCell ⟨W.heap.size+1+1,0,none⟩ (.int .i64 0)) W.heap.size 63 4 (.slice A o.length c) o.length (cellsT (nl S) o):=by
   have hne:∀ i,(Value.slice A o.length c).ownBlock=some i→W.heap.size+3≤i:=fun i e=>(HO.out.lt i e).1
   have h1:=ownsRow_setCell_other HO.out (a:=⟨W.heap.size,0,none⟩) (fun e=>by have:=hne _ e;simp only at this;omega) (.slice A o.length c)
   have h2:=ownsRow_setCell_other h1 (a:=⟨W.heap.size+1,0,none⟩) (fun e=>by have:=hne _ e;simp only at this;omega) (.int .i64 0)
   have h3:=ownsRow_setCell_other h2 (a:=⟨W.heap.size+1+1,0,none⟩) (fun e=>by have:=hne _ e;simp only at this;omega) (.int .i64 0)
   exact own_mono h3 (by omega)
  have hbel:Later W (((w2.setCell ⟨W.heap.size,0,none⟩ (.slice A o.length c)).setCell ⟨W.heap.size+1,0,none⟩ (.int .i64 0)).setCell ⟨W.heap.size+1+1,0,none⟩ (.int .i64 0)):=(H3.out.2.2.2.2.trans (HBT.out.mono (by omega))).trans (mb W.heap.size (by omega) (by omega) (by omega))
  obtain⟨w3,hw3⟩:∃ w3,w3=((w2.setCell ⟨W.heap.size,0,none⟩ (.slice A o.length c)).setCell ⟨W.heap.size+1,0,none⟩ (.int .i64 0)).setCell ⟨W.heap.size+1+1,0,none⟩ (.int .i64 0):=⟨_,rfl⟩
  rw[←hw3] at m0 m1 m2 ho3 hbel⊢
  clear hw3 mb
  refine leaves_cons (f:=19) (args:=#[.pointer (some ⟨W.heap.size,0,none⟩),.pointer (some ⟨W.heap.size+1,0,none⟩),.pointer (some ⟨W.heap.size+1+1,0,none⟩)]) (by simp) (by simp[go_sem]) ?_
  refine(catch_idle _ _ _ w3).mono ?_
  rintro r u' w4 ⟨rfl,rfl,hl4⟩
  have d0:w4.cell? ⟨W.heap.size,0,none⟩=some (.slice A o.length c):=cell_keeps hl4 (cell_row m0 0).1
  have d1:w4.cell? ⟨W.heap.size+1,0,none⟩=some (.int .i64 0):=cell_keeps hl4 (cell_row m1 0).1
  have d2:w4.cell? ⟨W.heap.size+1+1,0,none⟩=some (.int .i64 0):=cell_keeps hl4 (cell_row m2 0).1
  show ∃ v,(results Tryz.f11 _).run Tryz.prog w4=.ok v w4∧AllC S W (.ok o) (.returned v) w4
  refine⟨_,?_,⟨.slice A o.length c,rfl,own_below ho3 hl4⟩,hbel.trans hl4⟩
  simp[results,Tryz.results11,go_sem,d0,d1,d2]
end Go.Proofs.YtkkchkkpnlnbgaaGreatDoor
namespace Go.Proofs.YtkkchkkpnlnbgaaGreatDoor
open Go.RowKit Go.Maps
def letB (c:UInt8):Bool:=(decide (97≤c) && decide (c≤122)) || (decide (65≤c) && decide (c≤90)) || c==95
def nameB (l:L):Bool:=match l with
 | []=>false
 | c::_=>!dig c && l.all fun c=>letB c || dig c
theorem byte_le (a c:UInt8):decide (a≤c)=decide ((a.toNat:Int)≤(c.toNat:Int)):=by rw[decide_eq_decide,UInt8.le_iff_toNat_le];omega
theorem letter_v (c:UInt8) (W:World):Calls Tryz.prog 118 #[.int .u8 (c.toNat:Int)] W fun e W'=>e=.returned (.bool (letB c))∧W'=W:=by
 have hb:letB c=((decide ((97:Int)≤(c.toNat:Int)) && decide ((c.toNat:Int)≤122)) || (decide ((65:Int)≤(c.toNat:Int)) && decide ((c.toNat:Int)≤90)) || decide ((c.toNat:Int)=95)):=by
  unfold letB
  rw[byte_le,byte_le,byte_le,byte_le]
  have:(c==95)=decide ((c.toNat:Int)=95):=by
   rw[Bool.eq_iff_iff,beq_iff_eq,decide_eq_true_iff]
   exact⟨fun h=>by rw[h];rfl,fun h=>UInt8.toNat_inj.1 (by have:(95:UInt8).toNat=95:=rfl;omega)⟩
  rw[this]
  rfl
 rw[hb]
 obtain⟨x,hx⟩:∃ x:Nat,x=c.toNat:=⟨_,rfl⟩
 rw[←hx]
 clear hx hb
 by_cases h1:(97:Int)≤(x:Int)
 ·by_cases h2:(x:Int)≤122
  ·go_enter Tryz.func118,Tryz.ntmps118
   go_wp2
   go_ret
   exact⟨ret_bool (by simp <;> omega),rfl⟩
  ·have h3:(65:Int)≤(x:Int):=by omega
   have h4:¬ (x:Int)≤90:=by omega
   have h5:((x:Int)==95)=false:=by simp;omega
   go_enter Tryz.func118,Tryz.ntmps118
   go_wp2
   go_ret
   exact⟨ret_bool (by simp <;> omega),rfl⟩
 ·by_cases h3:(65:Int)≤(x:Int)
  ·by_cases h4:(x:Int)≤90
   ·go_enter Tryz.func118,Tryz.ntmps118
    go_wp2
    go_ret
    exact⟨ret_bool (by simp <;> omega),rfl⟩
   ·by_cases h6:x=95
    ·subst h6
     go_enter Tryz.func118,Tryz.ntmps118
     go_wp2
     go_ret
     exact⟨ret_bool (by simp),rfl⟩
    ·have h5:((x:Int)==95)=false:=by simp;omega
     go_enter Tryz.func118,Tryz.ntmps118
     go_wp2
     go_ret
     exact⟨ret_bool (by simp <;> omega),rfl⟩
  ·have h5:((x:Int)==95)=false:=by simp;omega
   go_enter Tryz.func118,Tryz.ntmps118
   go_wp2
   go_ret
   exact⟨ret_bool (by simp <;> omega),rfl⟩
theorem sget0 (c:UInt8) (r:L):∃ h:0<(mkS (c::r)).size,(mkS (c::r))[0]'h=c:=⟨by rw[mkS_size];simp,rfl⟩
theorem name_v (l:L) (hl:l.length≤5000) (W:World):Calls Tryz.prog 97 #[.string (mkS l)] W fun e W'=>e=.returned (.bool (nameB l))∧Later W W':=by
 cases l with
 | nil=>
  have he:((mkS []).toList==([]:List UInt8))=true:=by rw[toList_mkS];rfl
  go_enter Tryz.func97,Tryz.ntmps97
  go_wp2
  go_ret
  exact⟨rfl,Later.refl _⟩
 | cons c r=>
  have he:((mkS (c::r)).toList==([]:List UInt8))=false:=by rw[toList_mkS];rfl
  obtain⟨hs0,hg0⟩:=sget0 c r
  obtain⟨l,hll⟩:∃ l,l=c::r:=⟨_,rfl⟩
  rw[←hll] at hl he⊢
  have hs1:(0:Int)<((mkS l).size:Int):=by rw[hll];omega
  have hg1:∀ h,(mkS l)[0]'h=c:=by rw[hll];exact fun _=>hg0
  have HD:=Lib.hid (digit_v c)
  have HLL:=Lib.hid hll
  by_cases hd:dig c=true
  ·have hd1:=HD.out
   rw[show (decide (48≤c) && decide (c≤57))=true from hd] at hd1
   have HD1:=Lib.hid hd1
   have HNB:=Lib.hid (show nameB l=false by rw[hll];unfold nameB;simp only[hd];rfl)
   clear hd1 hll
   go_enter Tryz.func97,Tryz.ntmps97
   go_wp2_with (first
    |(go_at_call 117;(with_reducible refine(HD1.out _).mono ?_);rintro e w2 ⟨rfl,rfl⟩))
   go_ret
   exact⟨ret_bool HNB.out.symm,Later.refl _⟩
  ·have hdf:dig c=false:=by simpa using hd
   have hd1:=HD.out
   rw[show (decide (48≤c) && decide (c≤57))=false from hdf] at hd1
   have HD1:=Lib.hid hd1
   have HNB:=Lib.hid (show nameB l=l.all fun c=>letB c || dig c by rw[hll];unfold nameB;simp only[hdf];rfl)
   obtain⟨cp,W2,hcv,hl2,hr2⟩:=conv_str W l W.heap.size rfl
   obtain⟨n,hn⟩:∃ n,n=l.length:=⟨_,rfl⟩
   rw[←hn] at hcv hr2 hl
   have HL2:=Lib.hid hl2
   have HR:=Lib.hid hr2
   have HN:=Lib.hid hn
   clear hl2 hr2 hn hd1 hll
   go_enter Tryz.func97,Tryz.ntmps97
   go_wp2_with (first
    |(go_at_call 117;(with_reducible refine(HD1.out _).mono ?_);rintro e w2 ⟨rfl,hw⟩;subst hw))
   go_loopw [15] (fun i wr=>∃ k:Nat,k≤n∧i=.int .i64 (k:Int)∧wr=W2∧(l.take k).all (fun c=>letB c || dig c)=true) (fun i _=>n-(intOf i).toNat)
   case atStart=>exact⟨0,by omega,rfl,rfl,rfl⟩
   case round=>
    obtain⟨k,hk,rfl,hw,ha⟩:=hrel
    subst hw
    have HA:=Lib.hid ha
    clear ha
    by_cases hkn:k<n
    ·obtain⟨ad,hlk,had,_,hcell⟩:=HR.out.byte hkn
     obtain⟨x,hx⟩:∃ x,x=l[k]:=⟨_,rfl⟩
     rw[←hx] at hcell
     injection had with had
     have hcell2:=hcell
     rw[←had,add_lit0] at hcell2
     have hk0:(0:Int)≤(k:Int):=by omega
     have hk1:(k:Int)<(n:Int):=by omega
     have HTK:=Lib.hid (show l.take (k+1)=l.take k++[x] by rw[List.take_succ_eq_append_getElem hlk,hx])
     have HX:=Lib.hid (show x∈l by rw[hx];exact List.getElem_mem _)
     have HLT:=Lib.hid (letter_v x)
     have HDG:=Lib.hid (digit_v x)
     have hcell3:wr.cell? ⟨w2.heap.size,k,none⟩=some (.int .u8 (x.toNat:Int)):=hcell2
     have hlt:=HLT.out
     have hdg:∀ W,Calls Tryz.prog 117 #[.int .u8 (x.toNat:Int)] W fun e W'=>e=.returned (.bool (dig x))∧W'=W:=HDG.out
     clear hcell hcell2 hx had hlk
     cases hlb:letB x with
     | true=>
      rw[hlb] at hlt
      have HL1:=Lib.hid hlt
      have HNX:=Lib.hid (show (l.take (k+1)).all (fun c=>letB c || dig c)=true by rw[HTK.out,List.all_append,HA.out];simp[hlb])
      clear hlt hdg hlb
      go_wp2_with (first
       |(go_at_call 118;(with_reducible refine(HL1.out _).mono ?_);rintro e w3 ⟨rfl,rfl⟩))
      go_roundw
      case rel=>exact⟨k+1,by omega,by go_num,by first | rfl | trivial,HNX.out⟩
      case measure=>simp[intOf];omega
     | false=>
      rw[hlb] at hlt
      have HL1:=Lib.hid hlt
      cases hdb:dig x with
      | true=>
       rw[hdb] at hdg
       have HD2:=Lib.hid hdg
       have HNX:=Lib.hid (show (l.take (k+1)).all (fun c=>letB c || dig c)=true by rw[HTK.out,List.all_append,HA.out];simp[hdb])
       clear hlt hdg hlb hdb
       go_wp2_with (first
        |(go_at_call 118;(with_reducible refine(HL1.out _).mono ?_);rintro e w3 ⟨rfl,rfl⟩)
        |(go_at_call 117;(with_reducible refine(HD2.out _).mono ?_);rintro e w3 ⟨rfl,rfl⟩))
       go_roundw
       case rel=>exact⟨k+1,by omega,by go_num,by first | rfl | trivial,HNX.out⟩
       case measure=>simp[intOf];omega
      | false=>
       rw[hdb] at hdg
       have HD2:=Lib.hid hdg
       have HRES:=Lib.hid (show nameB l=false by
        rw[HNB.out,Bool.eq_false_iff]
        intro h
        rw[List.all_eq_true] at h
        have:=h x HX.out
        simp[hlb,hdb] at this)
       clear hlt hdg hlb hdb
       go_wp2_with (first
        |(go_at_call 118;(with_reducible refine(HL1.out _).mono ?_);rintro e w3 ⟨rfl,rfl⟩)
        |(go_at_call 117;(with_reducible refine(HD2.out _).mono ?_);rintro e w3 ⟨rfl,rfl⟩))
       go_ret
       exact⟨ret_bool HRES.out.symm,HL2.out⟩
    ·obtain hke:k=n:=by omega
     have HRES:=Lib.hid (show nameB l=true by rw[HNB.out];have:=HA.out;rw[hke,HN.out,List.take_length] at this;exact this)
     clear hke
     go_wp2
     go_ret
     exact⟨ret_bool HRES.out.symm,HL2.out⟩
def setsM (l:L):L×L×Bool:=if 0≤Lib.indexByte l 61∧nameB (l.take (Lib.indexByte l 61).toNat)=true then (l.take (Lib.indexByte l 61).toNat,l.drop ((Lib.indexByte l 61).toNat+1),true) else ([],[],false)
theorem idx_le (l:L) (c:UInt8):Lib.indexByte l c<l.length∨Lib.indexByte l c=-1:=by
 induction l with
 | nil=>exact .inr rfl
 | cons b l ih=>
  unfold Lib.indexByte
  have:=Lib.indexByte_ge l c
  split
  ·left;simp only[List.length_cons];omega
  ·split
   ·exact .inr rfl
   ·rename_i h1 h2
    rw[beq_iff_eq] at h2
    rcases ih with ih | ih
    ·left;simp only[List.length_cons];omega
    ·exact absurd ih h2
theorem index_v (l:L) (v:Int) (hv:v=Lib.indexByte l 61) (W:World):Calls Tryz.prog 83 #[.string (mkS l),.string ⟨#[61]⟩] W fun e W'=>e=.returned (.int .i64 v)∧W'=W:=by
 have HC:=Lib.hid (idxLite_v (mkS l) 61 W)
 rw[mkS_list,←hv] at HC
 by_cases h1:l=[61]
 ·have he:(([61]:List UInt8)==(mkS l).toList)=true:=by rw[toList_mkS,h1];rfl
  have HV:=Lib.hid (show v=0 by rw[hv,h1];rfl)
  clear hv h1
  go_enter Tryz.func83,Tryz.ntmps83
  go_wp2
  go_ret
  exact⟨by rw[HV.out];rfl,rfl⟩
 ·have he:(([61]:List UInt8)==(mkS l).toList)=false:=by rw[toList_mkS];exact beq_eq_false_iff_ne.2 fun e=>h1 e.symm
  clear hv h1
  go_enter Tryz.func83,Tryz.ntmps83
  go_wp2_with (go_at_call 111;(refine HC.out.mono ?_);rintro e w1 ⟨rfl,rfl⟩)
  go_ret
  exact⟨rfl,rfl⟩
theorem liteCut_v (l:L) (v:Int) (hv:v=Lib.indexByte l 61) (W:World) (hl:l.length≤5000):Calls Tryz.prog 35 #[.string (mkS l),.string ⟨#[61]⟩] W fun e W'=>e=.returned (.tuple #[.string (if 0≤v then mkS (l.take v.toNat) else mkS l),.string (if 0≤v then mkS (l.drop (v.toNat+1)) else ⟨#[]⟩),.bool (decide (0≤v))])∧∃ m,W'=W.drewN m:=by
 have HC:=Lib.hid (index_v l v hv W)
 have hlt:=idx_le l 61
 have hge:=Lib.indexByte_ge l 61
 rw[←hv] at hlt hge
 have hs:(mkS l).size=l.length:=mkS_size l
 by_cases h0:0≤v
 ·obtain⟨k,rfl⟩:∃ k:Nat,v=(k:Int):=⟨v.toNat,by omega⟩
  have hk:k<l.length:=by omega
  have x1:(mkS l).extract 0 k=mkS (l.take k):=piece_ l 0 k (l.take k) (l.drop k) (by simp) (by simp;omega)
  have x2:(mkS l).extract (k+1) (mkS l).size=mkS (l.drop (k+1)):=piece_ l (k+1) _ (l.drop (k+1)) [] (by simp) (by rw[hs,List.length_drop];omega)
  have hk1:(k:Int)≤((mkS l).size:Int):=by omega
  have hwr:wrap64 ((k:Int)+1)=((k+1:Nat):Int):=by unfold wrap64;omega
  have hk3:(k:Int)+1≤((mkS l).size:Int):=by omega
  have hk4:(0:Int)≤(k:Int)+1:=by omega
  have hk6:((k:Int)+1).toNat=k+1:=by omega
  have hwi:IntKind.i64.wrap ((k:Int)+1)=((k+1:Nat):Int):=by rw[IntKind.wrap_i64];omega
  have hk2:((k+1:Nat):Int)≤((mkS l).size:Int):=by omega
  have hk5:k≤5000:=by omega
  have hk00:(0:Int)≤(k:Int):=by omega
  have HK:=Lib.hid hk
  rw[if_pos h0,if_pos h0,Int.toNat_natCast,decide_eq_true h0]
  clear hv hlt hge hs hk
  go_enter Tryz.func35,Tryz.ntmps35
  go_wp2_with (go_at_call 83;(with_reducible refine HC.out.mono ?_);rintro e w1 ⟨rfl,rfl⟩)
  go_quiet (fail)
  go_wp2
  go_ret3
  exact⟨rfl,_,rfl⟩
 ·have HV:=Lib.hid h0
  have hv0:v=-1:=by omega
  subst hv0
  rw[if_neg h0,if_neg h0,decide_eq_false h0]
  clear hv hlt hge hs
  go_enter Tryz.func35,Tryz.ntmps35
  go_wp2_with (go_at_call 83;(with_reducible refine HC.out.mono ?_);rintro e w1 ⟨rfl,rfl⟩)
  go_ret3
  exact⟨rfl,0,(World.drewN_zero _).symm⟩
theorem cut_v (l:L) (v:Int) (hv:v=Lib.indexByte l 61) (W:World) (hl:l.length≤5000) (a b:ByteArray) (o:Bool) (ha:a=if 0≤v then mkS (l.take v.toNat) else mkS l) (hb:b=if 0≤v then mkS (l.drop (v.toNat+1)) else ⟨#[]⟩) (ho:o=decide (0≤v)):Calls Tryz.prog 18 #[.string (mkS l),.string ⟨#[61]⟩] W fun e W'=>e=.returned (.tuple #[.string a,.string b,.bool o])∧∃ m,W'=W.drewN m:=by
 have hc:=liteCut_v l v hv W hl
 rw[←ha,←hb,←ho] at hc
 have HC:=Lib.hid hc
 clear hc ha hb ho hv hl
 go_enter Tryz.func18,Tryz.ntmps18
 go_wp2_with (go_at_call 35;(with_reducible refine HC.out.mono ?_);rintro e w1 ⟨rfl,m,rfl⟩)
 go_ret3
 exact⟨rfl,_,rfl⟩
theorem sets_v (l:L) (hl:l.length≤5000) (W:World):Calls Tryz.prog 143 #[.string (mkS l)] W fun e W'=>e=.returned (.tuple #[.string (mkS (setsM l).1),.string (mkS (setsM l).2.1),.bool (setsM l).2.2])∧Later W W':=by
 obtain⟨v,hv⟩:∃ v,v=Lib.indexByte l 61:=⟨_,rfl⟩
 by_cases h0:0≤v
 ·have HC:=Lib.hid (cut_v l v hv W hl (mkS (l.take v.toNat)) (mkS (l.drop (v.toNat+1))) true (if_pos h0).symm (if_pos h0).symm (decide_eq_true h0).symm)
  have hnm:=fun m=>name_v (l.take v.toNat) (by rw[List.length_take];omega) (W.drewN m)
  cases hn:nameB (l.take v.toNat) with
  | true=>
   have HS:=Lib.hid (show setsM l=(l.take v.toNat,l.drop (v.toNat+1),true) by unfold setsM;rw[←hv,if_pos ⟨h0,hn⟩])
   rw[hn] at hnm
   have HN:=Lib.hid hnm
   clear hnm hn hv
   go_enter Tryz.func143,Tryz.ntmps143
   go_wp2_with (first
    |(go_at_call 18;(with_reducible refine HC.out.mono ?_);rintro e w1 ⟨rfl,m,rfl⟩)
    |(go_at_call 97;(with_reducible refine(HN.out _).mono ?_);rintro e w2 ⟨rfl,hl2⟩))
   go_ret3
   exact⟨by rw[HS.out];rfl,(Below.drewN _ _ _).trans hl2⟩
  | false=>
   have HS:=Lib.hid (show setsM l=([],[],false) by unfold setsM;rw[←hv,if_neg (by rw[hn];simp)])
   rw[hn] at hnm
   have HN:=Lib.hid hnm
   clear hnm hn hv
   go_enter Tryz.func143,Tryz.ntmps143
   go_wp2_with (first
    |(go_at_call 18;(with_reducible refine HC.out.mono ?_);rintro e w1 ⟨rfl,m,rfl⟩)
    |(go_at_call 97;(with_reducible refine(HN.out _).mono ?_);rintro e w2 ⟨rfl,hl2⟩))
   go_ret3
   exact⟨by rw[HS.out];rfl,(Below.drewN _ _ _).trans hl2⟩
 ·have HC:=Lib.hid (cut_v l v hv W hl (mkS l) ⟨#[]⟩ false (if_neg h0).symm (if_neg h0).symm (decide_eq_false h0).symm)
  have HS:=Lib.hid (show setsM l=([],[],false) by unfold setsM;rw[←hv,if_neg (fun h=>h0 h.1)])
  clear hv
  go_enter Tryz.func143,Tryz.ntmps143
  go_wp2_with (first
   |(go_at_call 18;(with_reducible refine HC.out.mono ?_);rintro e w1 ⟨rfl,m,rfl⟩))
  go_ret3
  exact⟨by rw[HS.out];rfl,Below.drewN _ _ _⟩
end Go.Proofs.YtkkchkkpnlnbgaaGreatDoor
