/- The lexer's reader: a part of a word. No premises. -/
import Derived.Test.YtkkchkkpnlnbgaaGreatDoorNg
import Derived.Test.YtkkchkkpnlnbgaaGreatDoorNf
import Derived.Lib.Bytealg
set_option maxRecDepth 100000
set_option maxHeartbeats 800000
namespace Go.Proofs.YtkkchkkpnlnbgaaGreatDoor
open Go.RowKit Go.Maps
open Lx (nl Tok R sq ar up pre)
theorem part_ok (B g:Nat) (S:L) (k:Nat) (σ:St) (c:UInt8) (r:L) (hl:σ.l=c::r) (f:Nat) (hf:partsT g c=some (fnv f g)) (hent:∀ args w,(callFunc f args).run Tryz.prog w=.ok (.enter f args) w) (t r2:L) (W:World) (h:Mem W B g S σ)
  (hc:∀ m,Calls Tryz.prog f #[.pointer (some ⟨g,0,none⟩)] (W.drewN m) (Fin B g S σ k (W.drewN m) (.ok (t,r2)))):Calls Tryz.prog 90 #[.pointer (some ⟨g,0,none⟩)] W (Fin B g S σ k W (.ok (t,r2))):=by
 have HP:=Lib.hid (fun m=>peek_v B g S σ c r hl (W.drewN m) (h.drewN m))
 obtain⟨p,n,vt,vh,vx,ms,mp,h⟩:=h
 obtain⟨⟨_,_,_,_,_,_,_,_,_,_,c10⟩,hz⟩:=h.facts
 have hlook:=h.pa.look c
 rw[hf] at hlook
 have hlook2:∀ n,(Instr.lookup 80 (.map (some mp)) (.int .u8 (c.toNat:Int)) true).run Tryz.prog (W.drewN n)=.ok (.tuple #[.func (.func f) #[.pointer (some ⟨g,0,none⟩)] #[],.bool true]) (W.drewN n):=hlook
 have HC:=Lib.hid hc
 clear h hl hf hc hlook
 go_enter Tryz.func90,Tryz.ntmps90
 go_wp2
 go_quiet ((go_at_call 47;exact Calls.quiet_of (HP.out _)))
 go_wp2
 refine(HC.out _).mono ?_
 rintro e w3 ⟨rfl,hm3,hb3,hk3⟩
 go_wp2
 go_end0
 exact⟨rfl,hm3,(Below.drewN _ _ _).trans hb3,hk3⟩
theorem part_bad (B g:Nat) (S:L) (k:Nat) (σ:St) (c:UInt8) (r:L) (hl:σ.l=c::r) (f:Nat) (hf:partsT g c=some (fnv f g)) (hent:∀ args w,(callFunc f args).run Tryz.prog w=.ok (.enter f args) w) (n2:Nat) (W:World) (h:Mem W B g S σ)
  (hc:∀ m,Calls Tryz.prog f #[.pointer (some ⟨g,0,none⟩)] (W.drewN m) (Fin B g S σ k (W.drewN m) (.error n2))):Calls Tryz.prog 90 #[.pointer (some ⟨g,0,none⟩)] W (Fin B g S σ k W (.error n2)):=by
 have HP:=Lib.hid (fun m=>peek_v B g S σ c r hl (W.drewN m) (h.drewN m))
 obtain⟨p,n,vt,vh,vx,ms,mp,h⟩:=h
 obtain⟨⟨_,_,_,_,_,_,_,_,_,_,c10⟩,hz⟩:=h.facts
 have hlook:=h.pa.look c
 rw[hf] at hlook
 have hlook2:∀ n,(Instr.lookup 80 (.map (some mp)) (.int .u8 (c.toNat:Int)) true).run Tryz.prog (W.drewN n)=.ok (.tuple #[.func (.func f) #[.pointer (some ⟨g,0,none⟩)] #[],.bool true]) (W.drewN n):=hlook
 have HC:=Lib.hid hc
 clear h hl hf hc hlook
 go_enter Tryz.func90,Tryz.ntmps90
 go_wp2
 go_quiet ((go_at_call 47;exact Calls.quiet_of (HP.out _)))
 go_wp2
 refine(HC.out _).mono ?_
 rintro e w3 ⟨rfl,hb3⟩
 exact bodyPost_panic rfl ⟨rfl,(Below.drewN _ _ _).trans hb3⟩
theorem part_any (B g:Nat) (S:L) (k:Nat) (σ:St) (c:UInt8) (r:L) (hl:σ.l=c::r) (f:Nat) (hf:partsT g c=some (fnv f g)) (hent:∀ args w,(callFunc f args).run Tryz.prog w=.ok (.enter f args) w) (x:R) (W:World) (h:Mem W B g S σ)
  (hc:∀ m,Calls Tryz.prog f #[.pointer (some ⟨g,0,none⟩)] (W.drewN m) (Fin B g S σ k (W.drewN m) x)):Calls Tryz.prog 90 #[.pointer (some ⟨g,0,none⟩)] W (Fin B g S σ k W x):=by
 match x,hc with
 | .ok (t,r2),hc=>exact part_ok B g S k σ c r hl f hf hent t r2 W h hc
 | .error n,hc=>exact part_bad B g S k σ c r hl f hf hent n W h hc
theorem part_plain (B g:Nat) (S:L) (k:Nat) (σ:St) (c:UInt8) (r:L) (hl:σ.l=c::r) (hn:Nm k σ) (hf:partsT g c=none) (W:World) (h:Mem W B g S σ):Calls Tryz.prog 90 #[.pointer (some ⟨g,0,none⟩)] W (Fin B g S σ k W (.ok ([c],r))):=by
 have HP:=Lib.hid (fun m=>peek_v B g S σ c r hl (W.drewN m) (h.drewN m))
 have HT:=Lib.hid (fun m=>take_k B g S k σ c r hl hn (W.drewN m) (h.drewN m))
 obtain⟨p,n,vt,vh,vx,ms,mp,h⟩:=h
 obtain⟨⟨_,_,_,_,_,_,_,_,_,_,c10⟩,hz⟩:=h.facts
 have hlook:=h.pa.look c
 rw[hf] at hlook
 have hlook2:∀ n,(Instr.lookup 80 (.map (some mp)) (.int .u8 (c.toNat:Int)) true).run Tryz.prog (W.drewN n)=.ok (.tuple #[.nilFunc,.bool false]) (W.drewN n):=hlook
 clear h hl hf hlook
 go_enter Tryz.func90,Tryz.ntmps90
 go_wp2
 go_quiet ((go_at_call 47;exact Calls.quiet_of (HP.out _)))
 go_wp2_with (first
  |(go_at_call 89;(with_reducible refine(HT.out _).mono ?_);rintro e w3 ⟨rfl,hm3,hb3,hk3⟩))
 go_end0
 exact⟨rfl,hm3,(Below.drewN _ _ _).trans hb3,hk3⟩
theorem fin_refuse (B g:Nat) (S:L) (k:Nat) (σ:St) (W:World) (h:Mem W B g S σ):Calls Tryz.prog 45 #[.pointer (some ⟨g,0,none⟩)] W (Fin B g S σ k W (.error 20)):=by
 refine(refuse_v B g S σ W h).mono ?_
 rintro e w ⟨rfl,rfl⟩
 exact⟨rfl,Below.refl _ _⟩
theorem parts_all (B g:Nat) (S:L) (k:Nat) (n:Nat):Parts B g S k n:=by
 induction n with
 | zero=>intro σ W h;omega
 | succ n ih=>
  intro σ W hlt hne hn hd h
  have ih':Parts B g S k σ.l.length:=fun σ' W' h1=>ih σ' W' (by omega)
  match hl:σ.l with
  | []=>exact absurd hl hne
  | c::r=>
   rw[Lx.part_at]
   unfold Lx.oneF
   by_cases h1:c=92
   ·subst h1
    exact part_any B g S k σ 92 r hl _ rfl (fun _ _=>run_enter Tryz.func41 rfl rfl _ _) (escM r) W h fun m=>escape_v B g S k σ r hl hn (W.drewN m) (h.drewN m)
   by_cases h2:c=39
   ·subst h2
    exact part_any B g S k σ 39 r hl _ rfl (fun _ _=>run_enter Tryz.func42 rfl rfl _ _) (sqM r) W h fun m=>single_v B g S k σ r hl hn (W.drewN m) (h.drewN m)
   by_cases h3:c=34
   ·subst h3
    exact part_any B g S k σ 34 r hl _ rfl (fun _ _=>run_enter Tryz.func43 rfl rfl _ _) (pre [34] (up σ.d 34 true r)) W h fun m=>double_v B g S k σ r hl hn hd ih' (W.drewN m) (h.drewN m)
   by_cases h4:c=36
   ·subst h4
    exact part_any B g S k σ 36 r hl _ rfl (fun _ _=>run_enter Tryz.func44 rfl rfl _ _) (Lx.dolF (up (σ.d+1) 125 false) (σ.d==8) r) W h fun m=>dollar_v B g S k σ r hl hn hd ih' (W.drewN m) (h.drewN m)
   by_cases h5:c=96
   ·subst h5
    exact part_any B g S k σ 96 r hl _ rfl (fun _ _=>run_enter Tryz.func45 rfl rfl _ _) (.error 20) W h fun m=>fin_refuse B g S k σ (W.drewN m) (h.drewN m)
   ·simp only[if_neg h1,if_neg h2,if_neg h3,if_neg h4,if_neg h5]
    refine part_plain B g S k σ c r hl hn ?_ W h
    unfold partsT
    simp only[if_neg h1,if_neg h2,if_neg h3,if_neg h4,if_neg h5]
end Go.Proofs.YtkkchkkpnlnbgaaGreatDoor
namespace Go.Proofs.YtkkchkkpnlnbgaaGreatDoor
open Go.RowKit Go.Maps
open Lx (nl Tok R sq ar up pre stop)
theorem idx_run (s:ByteArray) (c:UInt8) (w:World):(callFunc 125 #[.string s,.int .u8 (c.toNat:Int)]).run Tryz.prog w=.ok (.value (.int .i64 (Lib.indexByte s.data.toList c))) w:=by
 rw[run_callFunc_extern Tryz.func125 (by kernel_rfl) (by kernel_rfl) (by kernel_rfl) (e:=Extern.BytealgIndexByte.indexByte) (by kernel_rfl),Lib.run_indexByteString]
 simp[Result.andThen]
theorem idxLite_v (s:ByteArray) (c:UInt8) (W:World):Calls Tryz.prog 111 #[.string s,.int .u8 (c.toNat:Int)] W fun e W'=>e=.returned (.int .i64 (Lib.indexByte s.data.toList c))∧W'=W:=by
 have hr:=idx_run s c
 obtain⟨v,hv⟩:∃ v,v=Lib.indexByte s.data.toList c:=⟨_,rfl⟩
 rw[←hv] at hr⊢
 clear hv
 go_enter Tryz.func111,Tryz.ntmps111
 go_wp2
 go_ret
 exact⟨rfl,rfl⟩
theorem idxStr_v (s:ByteArray) (c:UInt8) (v:Int) (hv:v=Lib.indexByte s.data.toList c) (W:World):Calls Tryz.prog 94 #[.string s,.int .u8 (c.toNat:Int)] W fun e W'=>e=.returned (.int .i64 v)∧W'=W:=by
 have HC:=Lib.hid (idxLite_v s c W)
 rw[←hv] at HC
 clear hv
 go_enter Tryz.func94,Tryz.ntmps94
 go_wp2_with (go_at_call 111;(with_reducible refine HC.out.mono ?_);rintro e w1 ⟨rfl,rfl⟩)
 go_ret
 exact⟨rfl,rfl⟩
theorem idx_neg (l:L) (c:UInt8):Lib.indexByte l c<0↔c∉l:=by
 induction l with
 | nil=>simp[Lib.indexByte]
 | cons b l ih=>
  have hge:=Lib.indexByte_ge l c
  unfold Lib.indexByte
  by_cases h:b=c
  ·simp[h]
  ·have h2:¬ c=b:=fun e=>h e.symm
   simp only[beq_iff_eq,if_neg h,List.mem_cons,not_or,h2,not_false_iff,true_and]
   rw[←ih]
   split <;> omega
theorem idx_stop (c:UInt8):Lib.indexByte [32,9,10,59,38,124,40,41,60,62] c<0↔stop c=false:=by
 rw[idx_neg]
 simp[stop,and_assoc]
theorem digit_v (c:UInt8) (W:World):Calls Tryz.prog 117 #[.int .u8 (c.toNat:Int)] W fun e W'=>e=.returned (.bool (decide (48≤c) && decide (c≤57)))∧W'=W:=by
 have e1:decide (48≤c)=decide (48≤(c.toNat:Int)):=by rw[decide_eq_decide,UInt8.le_iff_toNat_le];simp;omega
 have e2:decide (c≤57)=decide ((c.toNat:Int)≤57):=by rw[decide_eq_decide,UInt8.le_iff_toNat_le];simp;omega
 rw[e1,e2]
 obtain⟨x,hx⟩:∃ x:Nat,x=c.toNat:=⟨_,rfl⟩
 rw[←hx]
 clear hx e1 e2
 by_cases h1:(48:Int)≤(x:Int) <;> by_cases h2:(x:Int)≤57
 all_goals
  go_enter Tryz.func117,Tryz.ntmps117
  go_wp2
  go_ret
  exact⟨ret_bool (by simp[h1,h2];try omega),rfl⟩
theorem cellsT_at (N:Nat):∀ (ts:List Tok) (j:Nat) (hj:j<ts.length) (i:Nat) (_:i<4),(cellsT N ts)[j*4+i]?=(tcs N ts[j])[i]?
 | [],j,hj,_,_=>by simp at hj
 | z::ts,0,_,i,hi=>by
  have e:cellsT N (z::ts)=(tcs N z).toList++cellsT N ts:=by simp[cellsT]
  rw[e,List.getElem?_append_left (by simp[tcs];omega)]
  simp
 | z::ts,j+1,hj,i,hi=>by
  have e:cellsT N (z::ts)=(tcs N z).toList++cellsT N ts:=by simp[cellsT]
  have hl:(tcs N z).toList.length=4:=rfl
  rw[e,List.getElem?_append_right (by omega),hl,show (j+1)*4+i-4=j*4+i by omega,cellsT_at N ts j (by simpa using hj) i hi]
  rfl
structure TokAt (w:World) (N:Nat) (ad:Addr) (t:Tok):Prop where
 c0:w.cell? ad=some (.int .i64 (t.kind:Int))
 c1:w.cell? ⟨ad.block,ad.off+1,none⟩=some (.string (mkS t.text))
 c2:w.cell? ⟨ad.block,ad.off+2,none⟩=some (.string (mkS t.body))
 c3:w.cell? ⟨ad.block,ad.off+3,none⟩=some (.int .i64 ((1+N-t.left:Nat):Int))
theorem tok_at {w:World} {B N:Nat} {e:TypeId} {v:Value} {ts:List Tok} (h:w.ownsRow B e 4 v ts.length (cellsT N ts)) {j:Nat} (hj:j<ts.length) :
  ∃ ad c,v=.slice (some ad) ts.length c∧ts.length≤c∧B≤ad.block∧ad.block<w.heap.size∧∀ (i:Nat) (hi:i<ts.length),TokAt w N (ad.add (i*4)) ts[i]:=by
 rcases h.2 with⟨rfl,h0⟩ | ⟨g,cap,cur,rfl,hb,hh,hnc,hcm,hcs,htake⟩
 ·omega
 ·refine⟨_,_,rfl,hnc,hb,lt_of_block hh,fun i hi=>?_⟩
  have hat:∀ k,k<4→∀ u,(tcs N ts[i])[k]?=some u→w.cell? ⟨g,i*4+k,none⟩=some u:=fun k hk u hu=>by
   have hc:=h.cells (g:=g) rfl (i*4+k) u (by rw[cellsT_at N ts i hi k hk];exact hu)
   rwa[add_lit0] at hc
  rw[add_lit0]
  exact⟨hat 0 (by omega) _ rfl,hat 1 (by omega) _ rfl,hat 2 (by omega) _ rfl,hat 3 (by omega) _ rfl⟩
theorem text_eq (a b:L):((mkS a).toList==(mkS b).toList)=(a==b):=by rw[toList_mkS,toList_mkS]
theorem isHere_v (B g:Nat) (S:L) (σ:St) (hn:σ.ts.length≤5000) (W:World) (h:Mem W B g S σ):Calls Tryz.prog 96 #[.pointer (some ⟨g,0,none⟩)] W fun e W'=>e=.returned (.bool (Lx.hung σ.ts))∧W'=W:=by
 obtain⟨p,n,vt,vh,vx,ms,mp,h⟩:=h
 obtain⟨⟨_,_,_,_,c4,_⟩,hz⟩:=h.facts
 rcases List.eq_nil_or_concat σ.ts with hts | ⟨l,t,hts⟩
 ·obtain⟨A0,k0,rfl,hk0⟩:=own_slice4 h.tok
  rw[hts] at c4⊢
  simp only[List.length_nil] at c4
  clear h hts hk0
  go_enter Tryz.func96,Tryz.ntmps96
  go_wp2
  go_ret
  exact⟨rfl,rfl⟩
 ·have hm:l.length<σ.ts.length:=by rw[hts];simp
  obtain⟨ad,c,rfl,hc,_,_,hat⟩:=tok_at h.tok hm
  obtain⟨h0,h1,_,_⟩:=hat l.length hm
  have ht:σ.ts[l.length]=t:=by simp[hts]
  have hlen:σ.ts.length=l.length+1:=by rw[hts];simp
  have hg:Lx.hung σ.ts=(t.kind==2 && t.text==[60,60]):=by rw[hts];simp[Lx.hung]
  rw[ht] at h0 h1
  rw[hlen] at c4 hn hc
  rw[hg]
  obtain⟨m,hm⟩:∃ m,m=l.length:=⟨_,rfl⟩
  rw[←hm] at h0 h1 c4 hn hc
  have hm0:(0:Int)≤(m:Int):=by omega
  clear h hts hat ht hlen hg hm
  by_cases hk:t.kind=2
  ·have hk1:((t.kind:Int)==2)=true:=by rw[hk];rfl
   have hk2:(t.kind==2 && t.text==[60,60])=(t.text==[60,60]):=by rw[hk];rfl
   have hte:=text_eq t.text [60,60]
   rw[hk2]
   have HTE:=Lib.hid hte
   clear hte hk2
   go_enter Tryz.func96,Tryz.ntmps96
   go_wp2
   go_ret
   exact⟨ret_bool (by rw[toList_mkS]),rfl⟩
  ·have hk1:((t.kind:Int)==2)=false:=by simp;omega
   have hk2:(t.kind==2 && t.text==[60,60])=false:=by simp[hk]
   rw[hk2]
   clear hk2
   go_enter Tryz.func96,Tryz.ntmps96
   go_wp2
   go_ret
   exact⟨rfl,rfl⟩
def dig (c:UInt8):Bool:=decide (48≤c) && decide (c≤57)
theorem pre_one (c:UInt8) (l:L):([c]:L).isPrefixOf l=(l.head?==some c):=by
 cases l with
 | nil=>rfl
 | cons b l=>
  rw[Bool.eq_iff_iff]
  simp[List.isPrefixOf]
  exact eq_comm
theorem isIo_v (B g:Nat) (S:L) (σ:St) (hq:σ.q.length≤5000) (W:World) (h:Mem W B g S σ):Calls Tryz.prog 95 #[.pointer (some ⟨g,0,none⟩)] W fun e W'=>e=.returned (.bool (Lx.digits σ.q && (!σ.j && (σ.l.head?==some 60 || σ.l.head?==some 62))))∧∃ m,W'=W.drewN m:=by
 have ha:=fun b hb=>ahead_t B g S σ ⟨#[60]⟩ [60] rfl b hb W h
 have hb:=fun b hb m=>ahead_t B g S σ ⟨#[62]⟩ [62] rfl b hb (W.drewN m) (h.drewN m)
 rw[pre_one] at ha hb
 obtain⟨p,n,vt,vh,vx,ms,mp,h⟩:=h
 obtain⟨⟨_,_,_,_,_,_,c6,c7,_⟩,hz⟩:=h.facts
 obtain⟨A,c,rfl,hc,hr,_⟩:=own_map h.txt
 obtain⟨q,hqq⟩:∃ q,q=σ.q:=⟨_,rfl⟩
 obtain⟨l,hll⟩:∃ l,l=σ.l:=⟨_,rfl⟩
 obtain⟨j,hjj⟩:∃ j,j=σ.j:=⟨_,rfl⟩
 obtain⟨n,hnn⟩:∃ n,n=σ.q.length:=⟨_,rfl⟩
 rw[←hnn] at c6 hq hc hr
 rw[←hqq] at hr hnn⊢
 rw[←hll] at ha hb⊢
 rw[←hjj] at c7⊢
 have HA:=Lib.hid ha
 have HB:=Lib.hid hb
 have HR:=Lib.hid hr
 have HN:=Lib.hid hnn
 have HD:=Lib.hid (fun (c:UInt8) (W:World)=>digit_v c W)
 clear h ha hb hqq hll hjj hr hnn
 go_enter Tryz.func95,Tryz.ntmps95
 go_wp2
 go_loopw [10] (fun i wr=>∃ k:Nat,k≤n∧i=.int .i64 (k:Int)∧wr=W∧Lx.digits (q.take k)=true) (fun i _=>n-(intOf i).toNat)
 case atStart=>exact⟨0,by omega,rfl,rfl,rfl⟩
 case round=>
  obtain⟨k,hk,rfl,rfl,hd⟩:=hrel
  have HDD:=Lib.hid hd
  clear hd
  by_cases hkn:k<n
  ·obtain⟨ad,hl,rfl,_,hcell⟩:=HR.out.byte hkn
   obtain⟨x,hx⟩:∃ x,x=q[k]:=⟨_,rfl⟩
   rw[←hx] at hcell
   have hcell2:wr.cell? (ad.add k)=some (.int .u8 (x.toNat:Int)):=hcell
   have hk0:(0:Int)≤(k:Int):=by omega
   have hk1:(k:Int)<(n:Int):=by omega
   have htk:q.take (k+1)=q.take k++[x]:=by rw[List.take_succ_eq_append_getElem hl,hx]
   have HTK:=Lib.hid htk
   have HX:=Lib.hid (show x∈q by rw[hx];exact List.getElem_mem _)
   clear hcell htk hx hl
   by_cases hdx:dig x=true
   ·have hdd:=HD.out x
    rw[show (decide (48≤x) && decide (x≤57))=true from hdx] at hdd
    have HD2:=Lib.hid hdd
    clear hdd
    go_wp2_with (first
     |(go_at_call 117;(with_reducible refine(HD2.out _).mono ?_);rintro e w1 ⟨rfl,rfl⟩))
    go_roundw
    case rel=>
     refine⟨k+1,by omega,by go_num,(by first | rfl | trivial),?_⟩
     have:=HDD.out
     unfold Lx.digits at this⊢
     rw[HTK.out,List.all_append,this]
     simpa [dig] using hdx
    case measure=>simp[intOf];omega
   ·have hdf:dig x=false:=by simpa using hdx
    have hdd:=HD.out x
    rw[show (decide (48≤x) && decide (x≤57))=false from hdf] at hdd
    have HD2:=Lib.hid hdd
    clear hdd
    have hres:Lx.digits q=false:=by
     rw[Bool.eq_false_iff]
     intro h
     unfold Lx.digits at h
     rw[List.all_eq_true] at h
     have:=h x HX.out
     exact hdx this
    have HRES:=Lib.hid hres
    clear hres
    go_wp2_with (first
     |(go_at_call 117;(with_reducible refine(HD2.out _).mono ?_);rintro e w1 ⟨rfl,rfl⟩))
    go_ret
    exact⟨ret_bool (by rw[HRES.out];rfl),0,(World.drewN_zero _).symm⟩
  ·obtain hke:k=n:=by omega
   have hres:Lx.digits q=true:=by
    have:=HDD.out
    rw[hke,HN.out,List.take_length] at this
    exact this
   have HRES:=Lib.hid hres
   clear hres
   cases j with
   | true=>
    go_wp2
    go_ret
    exact⟨ret_bool (by rw[HRES.out];rfl),0,(World.drewN_zero _).symm⟩
   | false=>
    by_cases h60:l.head?=some 60
    ·have ha1:=HA.out true (by rw[h60];rfl)
     have HA1:=Lib.hid ha1
     have hv:(l.head?==some 60 || l.head?==some 62)=true:=by rw[h60];rfl
     have HV:=Lib.hid hv
     clear ha1 hv
     go_wp2_with (first
      |(go_at_call 88;(with_reducible refine HA1.out.mono ?_);rintro e w1 ⟨rfl,m,rfl⟩))
     go_ret
     exact⟨ret_bool (by rw[HRES.out,HV.out];rfl),_,rfl⟩
    ·have ha1:=HA.out false (by simpa using h60)
     have HA1:=Lib.hid ha1
     obtain⟨b,hb⟩:∃ b,(l.head?==some 62)=b:=⟨_,rfl⟩
     have HB1:=Lib.hid (fun m=>HB.out b hb m)
     have hv:(l.head?==some 60 || l.head?==some 62)=b:=by rw[hb];simp[h60]
     have HV:=Lib.hid hv
     clear ha1 hv
     go_wp2_with (first
      |(go_at_call 88;(first | (with_reducible refine HA1.out.mono ?_) | (with_reducible refine(HB1.out _).mono ?_));rintro e w1 ⟨rfl,m,rfl⟩))
     go_ret
     exact⟨ret_bool (by rw[HRES.out,HV.out];rfl),_,rfl⟩
end Go.Proofs.YtkkchkkpnlnbgaaGreatDoor
namespace Go.Proofs.YtkkchkkpnlnbgaaGreatDoor
open Go.RowKit Go.Maps
open Lx (bare)
theorem conv_str (W:World) (t:List UInt8) (N:Nat) (hN:N=W.heap.size):∃ c W',(convert 9 70 (.string (mkS t))).run Tryz.prog W=.ok (.slice (some ⟨N,0,none⟩) t.length c) W'∧Later W W'∧Rd W' W'.heap.size (some ⟨N,0,none⟩) t.length (t.map bv):=by
 subst hN
 have h:=run_bytes_of_string W 9 70 5 (mkS t) Tryz.underlying9 Tryz.underlying70 Tryz.underlying5
 rw[mkS_size] at h
 refine⟨_,_,h,Later.trans (Later.drew W) (Later.alloc _ _),by simp,fun h0=>⟨_,rfl,by simp,fun j u hu=>?_⟩⟩
 rw[add_lit0]
 have hz:W.drew.heap.size=W.heap.size:=rfl
 rw[←hz]
 rw[cell_of_row _ _ j _ _ _ (heap_alloc_new W.drew _)]
 rw[List.getElem?_map] at hu
 by_cases hj:j<t.length
 ·rw[List.getElem?_eq_getElem hj] at hu
  simp at hu
  subst hu
  unfold bytesRow
  rw[Array.getElem?_append_left (by simp[mkS];omega)]
  simp[mkS,hj,bv]
 ·rw[List.getElem?_eq_none (by omega)] at hu
  cases hu
def quote (c:UInt8):Bool:=c==39 || c==34 || c==92
theorem bare_snoc (l:L) (c:UInt8):bare (l++[c])=bare l++(if quote c=true then [] else [c]):=by
 unfold bare
 rw[List.filter_append]
 congr 1
 unfold quote
 by_cases h:(c==39 || c==34 || c==92)=true
 ·simp only[List.filter_cons,List.filter_nil,h];rfl
 ·have h2:(c==39 || c==34 || c==92)=false:=by simpa using h
  simp only[List.filter_cons,List.filter_nil,h2];rfl
theorem idx_quote (c:UInt8):Lib.indexByte [39,34,92] c<0↔quote c=false:=by
 rw[idx_neg]
 simp[quote,and_assoc]
theorem bare_le (l:L):(bare l).length≤l.length:=List.length_filter_le _ _
theorem bare_v (l:L) (hl:l.length≤5000) (W:World):Calls Tryz.prog 85 #[.string (mkS l)] W fun e W'=>e=.returned (.tuple #[.string (mkS (bare l)),.bool (decide ((bare l).length<l.length))])∧Later W W':=by
 obtain⟨i0,hi,hz0,hz1,hz2⟩:=info_parts info_u8
 obtain⟨c,W2,hcv,hl2,hr2⟩:=conv_str W l W.heap.size rfl
 have hsz:(mkS l).size=l.length:=mkS_size l
 obtain⟨n,hn⟩:∃ n,n=l.length:=⟨_,rfl⟩
 rw[←hn] at hcv hr2 hsz hl
 have HL2:=Lib.hid hl2
 have HR:=Lib.hid hr2
 have HN:=Lib.hid hn
 clear hl2 hr2 hn
 go_enter Tryz.func85,Tryz.ntmps85
 go_wp2
 go_loopw [4,10] (fun v i wr=>∃ (k:Nat) (A:Option Addr) (m c:Nat),k≤n∧i=.int .i64 (k:Int)∧v=.slice A m c∧m=(bare (l.take k)).length∧wr.ownsRow W2.heap.size 5 1 (.slice A m c) ((bare (l.take k)).map bv).length ((bare (l.take k)).map bv)∧Later W2 wr) (fun _ i _=>n-(intOf i).toNat)
 case atStart=>exact⟨0,none,0,0,by omega,rfl,rfl,rfl,World.ownsRow_nil _ _ _ _,Later.refl _⟩
 case round=>
  obtain⟨k,A,m,cc,hk,rfl,rfl,hm,ho,hlt⟩:=hrel
  obtain⟨q,hq⟩:∃ q,q=bare (l.take k):=⟨_,rfl⟩
  rw[←hq] at hm ho
  have hmn:m≤5000:=by rw[hm,hq];have:=bare_le (l.take k);rw[List.length_take] at this;omega
  have HM:=Lib.hid hm
  have HO:=Lib.hid ho
  have HLT:=Lib.hid hlt
  have HQ:=Lib.hid hq
  clear hm ho hlt hq
  by_cases hkn:k<n
  ·obtain⟨ad,hlk,had,_,hcell⟩:=(HR.out.keep (fun p hp=>HLT.out.cell hp)).byte hkn
   obtain⟨x,hx⟩:∃ x,x=l[k]:=⟨_,rfl⟩
   rw[←hx] at hcell
   injection had with had
   have hcell2:wr.cell? ((⟨W.heap.size,0,none⟩:Addr).add k)=some (.int .u8 (x.toNat:Int)):=by rw[had];exact hcell
   rw[add_lit0] at hcell2
   have hk0:(0:Int)≤(k:Int):=by omega
   have hk1:(k:Int)<(n:Int):=by omega
   have hbt:bare (l.take (k+1))=q++(if quote x=true then [] else [x]):=by rw[List.take_succ_eq_append_getElem hlk,bare_snoc,HQ.out,hx]
   have HBT:=Lib.hid hbt
   obtain⟨v,hv⟩:∃ v,v=Lib.indexByte [39,34,92] x:=⟨_,rfl⟩
   have HX:=Lib.hid (fun W=>idxStr_v ⟨#[39,34,92]⟩ x v hv W)
   clear hbt hx hcell had hlk
   by_cases hqx:quote x=true
   ·have hv0:¬ v<0:=by rw[hv,idx_quote,hqx];simp
    clear hv
    go_wp2_with (first
     |(go_at_call 94;(with_reducible refine(HX.out _).mono ?_);rintro e w1 ⟨rfl,rfl⟩))
    go_roundw
    case rel=>
     have e1:bare (l.take (k+1))=q:=by rw[HBT.out,if_pos hqx];simp
     exact⟨k+1,A,m,cc,by omega,by go_num,rfl,by rw[e1];exact HM.out,by rw[e1];exact HO.out,HLT.out⟩
    case measure=>simp[intOf];omega
   ·have hqf:quote x=false:=by simpa using hqx
    have hv0:v<0:=by rw[hv,idx_quote,hqf]
    clear hv
    go_wp2_with (first
     |(go_at_call 94;(with_reducible refine(HX.out _).mono ?_);rintro e w1 ⟨rfl,rfl⟩)
     |(at_builtin;refine wpList_app1 _ (.int .u8 (x.toNat:Int)) rfl (.tmp 17) (.tmp 19) _ rfl W2.heap.size 5 i0 (.int .u8 0) 1 Tryz.underlying70 hi hz0 hz1 hz2 rfl rfl (.slice A m cc) (q.map bv) rfl HO.out rfl ?hby ?hle HLT.out.size ?_;(case hby=>have:=HM.out;rw[List.length_map];omega);(case hle=>have:=HM.out;rw[List.length_map];omega);intro v2 w2 hg2;rw[show (Value.int .u8 (x.toNat:Int))=bv x from rfl,←snoc_bv] at hg2;obtain⟨A2,k2,rfl,h1,h2,h3⟩:=own_map hg2.own;have HG:=Lib.hid hg2;clear hg2 h1 h2 h3))
    go_roundw
    case rel=>
     have e1:bare (l.take (k+1))=q++[x]:=by rw[HBT.out,if_neg hqx]
     have ho:=HG.out.own
     rw[show (q++[x]).length=q.length+1 by simp] at ho
     exact⟨k+1,A2,q.length+1,k2,by omega,by go_num,rfl,by rw[e1];simp,by rw[e1];exact ho,Below.trans HLT.out (HG.out.below HO.out HLT.out.size)⟩
    case measure=>simp[intOf];omega
  ·obtain hke:k=n:=by omega
   have e1:q=bare l:=by rw[HQ.out,hke,HN.out,List.take_length]
   obtain⟨A3,c3,e3,_,hrd,_⟩:=own_map HO.out
   have hstr:(convert 70 9 (.slice A m cc)).run Tryz.prog wr=.ok (.string (mkS q)) wr:=by
    rw[e3]
    exact run_str_of hrd _ _ 5 Tryz.underlying70 Tryz.underlying5 Tryz.underlying9 c3
   have HE1:=Lib.hid e1
   clear e1 e3 hrd
   go_wp2
   go_ret2
   refine⟨?_,HL2.out.trans HLT.out⟩
   show Ending.returned (.tuple #[.string (mkS q),.bool (decide (m<n))])=_
   rw[HM.out,HE1.out,HN.out]
end Go.Proofs.YtkkchkkpnlnbgaaGreatDoor
namespace Go.Proofs.YtkkchkkpnlnbgaaGreatDoor
open Go.RowKit Go.Maps
open Lx (nl Tok)
theorem info_int:(Tryz.prog.info? 3).map (fun i=>(i.zero,i.size,i.bytes))=some (some (.int .i64 0),1,8):=by kernel_rfl
structure Noted (W:World) (B g:Nat) (S:L) (σ:St) (A0:Option Addr) (n0 k0:Nat) (A1:Option Addr) (n1 k1:Nat) (C1:Value→World→Prop) (C2:World→Prop):Prop where
 c5:∀ w,Later W w→w.cell? ⟨g,5,none⟩=some (.slice A0 n0 k0)
 c4:∀ w,(Later W w∨(∃ u,C1 u w)∨C2 w)→w.cell? ⟨g,4,none⟩=some (.slice A1 n1 k1)
 len:n1=σ.ts.length
 sz:∀ w,(Later W w∨(∃ u,C1 u w)∨C2 w)→W.heap.size≤w.heap.size
 l1:∀ u w w',C1 u w→Later w w'→C1 u w'
 l2:∀ w w',C2 w→Later w w'→C2 w'
 or:∀ w w',(Later W w∨(∃ u,C1 u w)∨C2 w)→Later w w'→(Later W w'∨(∃ u,C1 u w')∨C2 w')
 ap:∀ w,Later W w→∀ N,w.heap[N]?=some (.cells #[.int .i64 (n1:Int)] 3 (0,0))→∃ v' w',(Builtin.append_ #[35,35] 35 #[.slice A0 n0 k0,.slice (some ⟨N,0,none⟩) 1 1]).run Tryz.prog w=.ok v' w'∧C1 v' w'∧High W.heap.size w w'
 u:∀ w u,C1 u w→∃ A n k,u=.slice A n k
 q5:∀ w u,C1 u w→w.cell? ⟨g,5,none⟩=some (.slice A0 n0 k0)∧w.frozen? ⟨g,5,none⟩=false
 c2:∀ w u,C1 u w→C2 (w.setCell ⟨g,5,none⟩ u)
 gq:∀ w u,C1 u w→High W.heap.size w (w.setCell ⟨g,5,none⟩ u)
 ce:∀ w,C2 w→Mem w B g S { σ with hs:=σ.hs++[σ.ts.length] }∧Below B W w
theorem noted (B g:Nat) (S:L) (σ:St) (hn:σ.hs.length≤5000) (W:World) (h:Mem W B g S σ):∃ A0 n0 k0 A1 n1 k1 C1 C2,Noted W B g S σ A0 n0 k0 A1 n1 k1 C1 C2:=by
 obtain⟨i0,hi,hz0,hz1,hz2⟩:=info_parts info_int
 obtain⟨p,n,vt,vh,vx,ms,mp,h⟩:=h
 obtain⟨A1,k1,rfl,_⟩:=own_slice4 h.tok
 obtain⟨A0,k0,rfl,hk0,_⟩:=own_map h.her
 obtain⟨hs',hhs⟩:∃ hs',hs'=σ.hs++[σ.ts.length]:=⟨_,rfl⟩
 have hmap:hs'.map iv=σ.hs.map iv++[iv σ.ts.length]:=by rw[hhs];simp
 let C1:Value→World→Prop:=fun v w=>w.ownsRow B 3 1 v (hs'.map iv).length (hs'.map iv)∧W.grownBy w (Value.slice A0 σ.hs.length k0).ownBlock
 let C2:World→Prop:=fun w=>(∃ v',MemX w B g S { σ with hs:=hs' } p n (.slice A1 σ.ts.length k1) v' vx ms mp)∧Below B W w
 have hlt:=h.lt
 have hBW:B≤W.heap.size:=Nat.le_trans h.low (Nat.le_of_lt hlt)
 have hob:∀ i,(Value.slice A0 σ.hs.length k0).ownBlock=some i→B≤i∧i<W.heap.size:=fun i e=>h.her.lt i e
 have hg0:∀ w v,C1 v w→w.heap[g]?=W.heap[g]?:=fun w v hc=>hc.2.block g hlt fun e=>apart_block h.her h.box (by decide) e.symm
 have hl1:∀ u w w',C1 u w→Later w w'→C1 u w':=fun u w w' hc hl=>⟨own_below hc.1 hl,grown_later hc.2 hl⟩
 have hl2:∀ w w',C2 w→Later w w'→C2 w':=fun w w' hc hl=>by
  obtain⟨⟨v',hm⟩,hb⟩:=hc
  exact⟨⟨v',hm.kept hl⟩,hb.trans (hl.mono (Nat.le_trans hBW hb.size))⟩
 refine⟨A0,σ.hs.length,k0,A1,σ.ts.length,k1,C1,C2,fun w hw=>(cell_row ((hw.block g hlt).trans h.box) 5).1,fun w hw=>?_,rfl,fun w hw=>?_,hl1,hl2,fun w w' hc hl=>?_,fun w hw N hN=>?_,fun w u hc=>?_,fun w u hc=>cell_row ((hg0 w u hc).trans h.box) 5,fun w u hc=>?_,fun w u hc=>High.grown (set_only w g 5 u) fun i e=>by cases e;exact hlt,fun w hc=>?_⟩
 ·rcases hw with hw | ⟨u,hw⟩ | ⟨⟨_,hw⟩,_⟩
  ·exact(cell_row ((hw.block g hlt).trans h.box) 4).1
  ·exact(cell_row ((hg0 w u hw).trans h.box) 4).1
  ·exact(cell_row hw.box 4).1
 ·rcases hw with hw | ⟨u,hw⟩ | ⟨_,hw⟩
  ·exact hw.size
  ·exact hw.2.size
  ·exact hw.size
 ·rcases hc with hc | ⟨u,hc⟩ | hc
  ·exact .inl (hc.trans hl)
  ·exact .inr (.inl ⟨u,hl1 u w w' hc hl⟩)
  ·exact .inr (.inr (hl2 w w' hc hl))
 ·have ho:=own_below h.her hw
  obtain⟨v',w',hrun,h2,h3,_,_⟩:=run_append_own_at (P:=Tryz.prog) w B 35 35 3 i0 _ 1 8 Tryz.underlying35 hi hz0 hz1 hz2 rfl (by omega) (.slice A0 σ.hs.length k0) (σ.hs.map iv).length (σ.hs.map iv) ho ⟨N,0,none⟩ 1 1 [iv σ.ts.length] rfl
   (fun j u hj=>by rw[add_lit0,(cell_row hN j).1];simpa [iv] using hj) (fun u hu=>by simp at hu;subst hu;rfl) (by rw[List.length_map];unfold maxLen;omega) (by rw[List.length_map];omega) (Nat.le_trans hBW hw.size)
  refine⟨v',w',hrun,⟨by rw[hmap,List.length_append];exact h2,later_grown hw h3⟩,High.grown h3 fun i e=>(hob i e).2⟩
 ·obtain⟨A,c,e,_⟩:=own_map hc.1
  exact⟨A,_,c,e⟩
 ·refine⟨⟨u,?_⟩,((Below.refl B W).grown hc.2 hBW fun i e=>(hob i e).1).setCell h.low u⟩
  have hgn:=hc.2
  have hbx:w.heap[g]?=some (.cells (RC S p n σ.b (.slice A1 σ.ts.length k1) (.slice A0 σ.hs.length k0) vx σ.j σ.d ms mp) 82 (0,0)):=(hg0 w u hc).trans h.box
  have k1':=h.tok.kept hgn (apart_types h.tok h.her (by decide))
  have k2:=h.txt.kept hgn (apart_types h.txt h.her (by decide))
  have k3:=h.st.kept hgn (h.st.apart_row h.her)
  have k4:=h.pa.kept hgn (h.pa.apart_row h.her)
  have hs:=set_only w g 5 u
  exact⟨set_row hbx 5 u,h.low,h.big,h.cut,h.at_,h.ln,k1'.kept hs (.inr (apart_block k1' hbx (by decide))),hc.1.kept hs (.inr (apart_block hc.1 hbx (by decide))),k2.kept hs (.inr (apart_block k2 hbx (by decide))),h.ls,h.lp,k3.kept hs (fun e=>k3.apart hbx (Option.some.inj e)),k4.kept hs (fun e=>k4.apart hbx (Option.some.inj e))⟩
 ·obtain⟨⟨v',hm⟩,hb⟩:=hc
  rw[hhs] at hm
  exact⟨hm.mem,hb⟩
theorem MemX.reset {W:World} {B g p n ms mp:Nat} {S:L} {σ:St} {vt vh vx:Value} (h:MemX W B g S σ p n vt vh vx ms mp):Mem ((W.setCell ⟨g,6,none⟩ (.slice none 0 0)).setCell ⟨g,7,none⟩ (.bool false)) B g S { σ with q:=[],j:=false }:=by
 have hg:=only_trans (set_only W g 6 (.slice none 0 0)) (set_only _ g 7 (.bool false))
 refine⟨p,n,vt,vh,.slice none 0 0,ms,mp,by rw[set_row (set_row h.box 6 _)];rfl,h.low,h.big,h.cut,h.at_,h.ln,h.tok.kept hg (.inr (apart_block h.tok h.box (by decide))),h.her.kept hg (.inr (apart_block h.her h.box (by decide))),World.ownsRow_nil _ _ _ _,h.ls,h.lp,h.st.kept hg (fun e=>h.st.apart h.box (Option.some.inj e)),h.pa.kept hg (fun e=>h.pa.apart h.box (Option.some.inj e))⟩
end Go.Proofs.YtkkchkkpnlnbgaaGreatDoor
