import Derived.Test.YtipdgmjplnibeaaGreatDoorNwh
import Derived.Lib.IndexAny
import Derived.Test.YtipdgmjplnibeaaGreatDoorG23
import Derived.Laws.ShiftsVarLaws
import Derived.Lib.SlFresh
set_option maxRecDepth 100000
set_option maxHeartbeats 6400000
namespace Go.Proofs.YtipdgmjplnibeaaGreatDoor
open Go.RowKit Go.Maps
namespace En
theorem has_v (va:Value) (e:E) (q:UInt8) (W:World) (h:RdE W va e):Calls Tryz.prog 42 #[va,.int .u8 (q.toNat:Int)] W fun x W'=>x=.returned (.bool (e.flags.contains q))∧Later W W':=by
 obtain⟨v0,A,n,c,rfl,hv,_,_,_⟩:=h
 obtain⟨Av,cv,rfl,_⟩:=hv.le
 obtain⟨n0,hn0⟩:∃ n0,n0=e.vars.length:=⟨_,rfl⟩
 obtain⟨st,hst⟩:∃ st:Int,st=(e.status:Int):=⟨_,rfl⟩
 obtain⟨f,hf⟩:∃ f,f=e.flags:=⟨_,rfl⟩
 have hix:=fun w=>Tryz.strings_IndexByte (mkS f) (q.toNat:Int) w
 have hq:((q.toNat:Int)).toNat.toUInt8=q:=by rw[Int.toNat_natCast];exact UInt8.ofNat_toNat
 rw[hq] at hix
 simp only[mkS_list] at hix
 rw[Lib.contains_iff_indexByte,←hn0,←hst,←hf]
 obtain⟨k,hk⟩:∃ k,k=Lib.indexByte f q:=⟨_,rfl⟩
 rw[←hk] at hix⊢
 have HIX:=Lib.hid hix
 have HLA:=Lib.hid (Later.alloc W (.cells #[.slice Av n0 cv,.slice A n c,.int .i64 st,.string (mkS f)] 28))
 clear hix hq hk hn0 hst hf hv
 go_enter Tryz.func42,Tryz.ntmps42
 go_wp2_with (go_at_call 70;(with_reducible refine(HIX.out _).mono ?_);rintro x w' ⟨rfl,hw⟩;subst hw)
 go_ret
 exact⟨rfl,HLA.out⟩
theorem slice_from (A:Option Addr) (n c j:Nat) (hj:j≤n) (w:World):(Instr.slice 23 (.slice A n c) (some (.int .i64 (j:Int))) none none).run Tryz.prog w=.ok (.slice (if c=j then A else A.map (·.add j)) (n-j) (c-j)) w:=by
 have u:=Tryz.underlying23
 have z:=Tryz.sizeOf9
 simp[Instr.slice,Instr.sliceBounds,Instr.sliceBound,run_underlying u,asIntOf,hj,z]
theorem results_two {fn:Func} {p q:Tmp} (h:fn.results=#[.cell p 28,.tmp q]) (tmps:Array Value) (w:World) (g:Nat) (cs:Array Value) (hp:tmps.getD p undef=.pointer (some ⟨g,0,none⟩)) (hg:w.heap[g]?=some (.cells cs 28 (0,0))) (hs:cs.size=4) (v:Value) (hq:tmps.getD q undef=v):(results fn tmps).run Tryz.prog w=.ok (.tuple #[.agg cs,v]) w:=by
 have hp':tmps[p]?.getD undef=.pointer (some ⟨g,0,none⟩):=by simpa using hp
 have hq':tmps[q]?.getD undef=v:=by simpa using hq
 simp[results,h,hp',hq',asAddr,run_loadVar_row w g _ _ cs (0,0) _ hg Tryz.underlying28 rfl (by rw[hs];kernel_rfl)]
def shiftE (e:E) (k:Int):E:=if 0≤k∧k≤(e.args.length:Int) then { e with args:=e.args.drop k.toNat } else e
def shiftB (e:E) (k:Int):Bool:=decide (0≤k∧k≤(e.args.length:Int))
end En
end Go.Proofs.YtipdgmjplnibeaaGreatDoor
namespace Go.Proofs.YtipdgmjplnibeaaGreatDoor
open Go.RowKit Go.Maps
namespace En
theorem set_text (S:B) (k:Nat) (c:UInt8) (hk:k<S.length) (h:S[k]=c):(mkS S).extract k (k+1)=mkS [c]:=by
 apply ByteArray.ext
 simp[mkS]
 rw[List.drop_eq_getElem_cons hk,h]
 rfl
theorem slice_one (t:B) (k:Nat) (htl:k<t.length) (c:UInt8) (hc:t[k]=c) (wr:World):(Instr.slice 9 (.string (mkS t)) (some (.int .i64 (k:Int))) (some (.int .i64 ((k:Int)+1))) none).run Tryz.prog wr=.ok (.string (mkS [c])) wr:=by
 have HEX:=set_text t k c htl hc
 have us:=Tryz.underlying9
 have hts:(mkS t).size=t.length:=mkS_size t
 have hk2:(k:Int)+1≤((mkS t).size:Int):=by omega
 have hk0:(0:Int)≤(k:Int):=by omega
 have hk3:(k:Int)≤(k:Int)+1:=by omega
 have hn1:((k:Int)+1).toNat=k+1:=by omega
 clear hts
 go_simp
def flagW (f:B) (q:UInt8) (on:Bool) (x:UInt8):Bool:=if x=q then on else f.contains x
theorem flagW_take (f:B) (q:UInt8) (on:Bool) {l:B} {k:Nat} (h:k<l.length):(l.take (k+1)).filter (flagW f q on)=(l.take k).filter (flagW f q on)++(if flagW f q on l[k]=true then [l[k]] else []):=by
 rw[List.take_succ_eq_append_getElem h,List.filter_append]
 by_cases e:flagW f q on l[k]=true
 ·rw[if_pos e,List.filter_cons,if_pos e];rfl
 ·rw[if_neg e,List.filter_cons,if_neg e];rfl
theorem flagW_step (f:B) (q:UInt8) (on:Bool) {l:B} {k:Nat} (h:k<l.length) {x:UInt8} (hx:l[k]=x):(l.take (k+1)).filter (flagW f q on)=(l.take k).filter (flagW f q on)++(if flagW f q on x=true then [x] else []):=by subst hx;exact flagW_take f q on h
end En
end Go.Proofs.YtipdgmjplnibeaaGreatDoor
namespace Go.Proofs.YtipdgmjplnibeaaGreatDoor
open Go.RowKit Go.Maps
namespace En
structure Af (W W2 wr:World) (b0 b1 b2 b3:Value) (v:Value) (l:B):Prop where
 low:Later W2 wr
 bx:Bx W wr b0 b1 b2 b3
 own:wr.ownsRow W2.heap.size 5 1 v (l.map bv).length (l.map bv)
theorem Af.push {W W2 wr wr':World} {b0 b1 b2 b3 v v':Value} {l m:B} (h:Af W W2 wr b0 b1 b2 b3 v l) (hB:W.heap.size+2≤W2.heap.size) (hg:Grew wr wr' W2.heap.size 5 v v' (l.map bv++m.map bv)):Af W W2 wr' b0 b1 b2 b3 v' (l++m):=by
 have hne:∀ k,k<W2.heap.size→some k≠v.ownBlock:=fun k hk e=>by have:=(own_ge h.own e.symm).1;omega
 have hlow:Later W2 wr':=⟨hg.grown.os.trans h.low.os,hg.grown.tape.trans h.low.tape,hg.grown.output.trans h.low.output,Nat.le_trans h.low.size hg.grown.size,fun k hk=>(hg.grown.block k (Nat.lt_of_lt_of_le hk h.low.size) (hne k hk)).trans (h.low.block k hk)⟩
 have kp:∀ {k:Nat} {o:Obj},k<W2.heap.size→wr.heap[k]?=some o→wr'.heap[k]?=some o:=fun hk ho=>(hg.grown.block _ (lt_of_block ho) (hne _ hk)).trans ho
 refine⟨hlow,⟨?_,kp (by omega) h.bx.bx,kp (by omega) h.bx.rs⟩,by rw[List.map_append];exact hg.own⟩
 have hl:=h.bx.low
 exact⟨hg.grown.os.trans hl.os,hg.grown.tape.trans hl.tape,hg.grown.output.trans hl.output,Nat.le_trans hl.size hg.grown.size,fun k hk=>(hg.grown.block k (Nat.lt_of_lt_of_le hk hl.size) (hne k (by omega))).trans (hl.block k hk)⟩
theorem Af.later {W W2 wr wr':World} {b0 b1 b2 b3 v:Value} {l:B} (h:Af W W2 wr b0 b1 b2 b3 v l) (hl:Later wr wr'):Af W W2 wr' b0 b1 b2 b3 v l:=⟨h.low.trans hl,h.bx.later hl,own_below h.own hl⟩
theorem flag_v (va:Value) (e:E) (q:UInt8) (on:Bool) (W:World) (h:RdE W va e) (hn:e.vars.length≤1000000) (ha:e.args.length≤1000000):Calls Tryz.prog 20 #[va,.int .u8 (q.toNat:Int),.bool on] W fun x W'=>Told W W' x { e with flags:=flag e.flags q on }:=by
 have HHS:=Lib.hid (fun x W' hl=>has_v va e x W' (RdE.later h (w':=W') hl))
 obtain⟨v0,A,n,c,rfl,hv,hr,hc1,hc2⟩:=h
 have HANY:=Lib.hid (show ∀ W' f',Later W W'→Calls Tryz.prog 43 #[.agg #[v0,.slice A n c,.int .i64 (e.status:Int),.string (mkS f')]] W' fun x W''=>Told W' W'' x { e with flags:=f' } from fun W' f' hl=>anew_v _ { e with flags:=f' } W' ⟨_,_,_,_,rfl,hv.later hl,(hr.below hl).more hl.size,hc1,hc2⟩ hn ha)
 obtain⟨Av,cv,rfl,_⟩:=hv.le
 obtain⟨n0,hn0⟩:∃ n0,n0=e.vars.length:=⟨_,rfl⟩
 obtain⟨st,hst⟩:∃ st:Int,st=(e.status:Int):=⟨_,rfl⟩
 obtain⟨f,hf⟩:∃ f,f=e.flags:=⟨_,rfl⟩
 rw[←hn0,←hst] at HANY HHS
 rw[←hf] at HHS
 rw[←hn0,←hst,←hf]
 have hfl:flag f q on=efux.filter (flagW f q on):=rfl
 rw[hfl]
 have hl4:efux.length=4:=rfl
 obtain⟨i0,hif,hz0,hz1,hz2⟩:=info_parts info_u8
 have HB:=Lib.hid (Bx.new W (.slice Av n0 cv) (.slice A n c) (.int .i64 st) (.string (mkS f)))
 obtain⟨W1,hW1⟩:∃ W1,W1=(W.alloc (.cells #[.slice Av n0 cv,.slice A n c,.int .i64 st,.string (mkS f)] 28)).alloc (.cells #[.slice none 0 0,.slice none 0 0,.int .i64 0,.string ⟨#[]⟩] 28):=⟨_,rfl⟩
 have hs1:W1.heap.size=W.heap.size+2:=by rw[hW1,World.size_alloc,World.size_alloc]
 rw[←hW1] at HB
 have hcc:=conv_const W1 #[.int .u8 101,.int .u8 102,.int .u8 117,.int .u8 120] 4 4 (W.heap.size+2) hs1.symm
 obtain⟨W2,hW2⟩:∃ W2,W2=W1.alloc (.cells #[.int .u8 101,.int .u8 102,.int .u8 117,.int .u8 120] 5 (#[Value.int .u8 101,.int .u8 102,.int .u8 117,.int .u8 120].size,#[Value.int .u8 101,.int .u8 102,.int .u8 117,.int .u8 120].size+1)):=⟨_,rfl⟩
 rw[←hW2] at hcc
 have HL12:=Lib.hid (show Later W1 W2 by rw[hW2];exact Later.alloc _ _)
 have HS2:=Lib.hid (show W.heap.size+2≤W2.heap.size by rw[hW2,World.size_alloc];omega)
 have HRD:=Lib.hid (show Rd W2 W2.heap.size (some ⟨W.heap.size+2,0,none⟩) 4 (efux.map bv) by
  have:=Rd.litF W1 5 (4,5) (efux.map bv)
  rw[hs1] at this
  rw[hW2,World.size_alloc,hs1]
  exact this)
 rw[hW1] at hcc
 have HCC:=Lib.hid hcc
 clear hv hr hc1 hc2 hn0 hst hf hn ha hfl hs1 hcc hW2
 go_enter Tryz.func20,Tryz.ntmps20
 have hcc:=HCC.out
 go_wp2_with fail
 go_loopw [7,13] (fun s7 s13 wr=>∃ (i:Nat),s13=.int .i64 (i:Int)∧i≤4∧Af W W2 wr (.slice Av n0 cv) (.slice A n c) (.int .i64 st) (.string (mkS f)) s7 ((efux.take i).filter (flagW f q on))) (fun _ i _=>4-(intOf i).toNat)
 case atStart=>exact⟨0,rfl,Nat.zero_le _,Later.refl _,HB.out.later HL12.out,World.ownsRow_nil _ _ _ _⟩
 case round=>
  obtain⟨i,rfl,hi,haf⟩:=hrel
  obtain⟨l7,hl7⟩:∃ l7,l7=(efux.take i).filter (flagW f q on):=⟨_,rfl⟩
  rw[←hl7] at haf
  have hyl:l7.length≤4:=by
   rw[hl7]
   have h1:=List.length_filter_le (flagW f q on) (efux.take i)
   have h2:(efux.take i).length≤4:=by rw[List.length_take];omega
   omega
  have HYL:=Lib.hid hyl
  have hown:=haf.own
  rw[List.length_map] at hown
  obtain⟨A7,c7,rfl,_⟩:=own_any hown
  have HA:=Lib.hid haf
  have HSW:=Lib.hid haf.low.size
  obtain⟨b0,b1,b2,b3⟩:=haf.bx.c
  have hi0:(0:Int)≤(i:Int):=by omega
  by_cases hlt:i<4
  ·have hi1:(i:Int)<4:=by omega
   have hil:i<efux.length:=by omega
   obtain⟨x,hx⟩:∃ x,x=efux[i]:=⟨_,rfl⟩
   have htk:=flagW_step f q on hil hx.symm
   rw[←hl7] at htk
   have HTK:=Lib.hid htk
   obtain⟨ad,_,had,_,hcell⟩:=HRD.out.byte hlt
   injection had with had
   rw[←had,add_lit0,←hx] at hcell
   have hc5:wr.cell? ⟨W.heap.size+2,i,none⟩=some (.int .u8 (x.toNat:Int)):=(haf.low.cell (p:=⟨W.heap.size+2,i,none⟩) (World.block_lt_of_cell? _ _ hcell)).trans hcell
   have HHX:=Lib.hid (HHS.out x wr haf.bx.low)
   obtain⟨hb,hhb⟩:∃ hb,hb=f.contains x:=⟨_,rfl⟩
   rw[←hhb] at HHX
   have HHB:=Lib.hid hhb
   clear htk hcell had hx hil haf hl7 hhb hown hyl
   by_cases hxq:x=q
   ·have f1:((x.toNat:Int)==(q.toNat:Int))=true:=by rw[hxq];simp
    have HW:=Lib.hid (show flagW f q on x=on by unfold flagW;rw[if_pos hxq])
    rw[HW.out] at HTK
    clear hxq
    cases on with
    | true=>
     go_wp2_with (at_builtin;refine wpList_app1 wr (bv x) rfl (.tmp 33) (.tmp 35) 81 rfl W2.heap.size 5 i0 (.int .u8 0) 1 Tryz.underlying81 hif hz0 hz1 hz2 rfl rfl (.slice A7 l7.length c7) (l7.map bv) rfl HA.out.own rfl (by rw[List.length_map];have:=HYL.out;omega) (by rw[List.length_map];have:=HYL.out;omega) HSW.out ?_;intro v8 w8 hg8;(have hp8:=HA.out.push (m:=[x]) HS2.out hg8);obtain⟨A8,c8,hv8,_⟩:=own_any hp8.own;(have HP8:=Lib.hid hp8);rw[hv8] at HP8;subst hv8;clear hg8 hp8)
     go_roundw
     case rel=>exact⟨i+1,by go_num,by omega,by
      have h9:=HP8.out
      rw[show (List.map bv (l7++[x])).length=l7.length+1 by simp] at h9
      rw[HTK.out]
      first | rw[if_pos rfl] | rw[if_pos trivial]
      exact h9⟩
     case measure=>simp[intOf];omega
    | false=>
     have f2:((x.toNat:Int) != (q.toNat:Int))=false:=by simp[bne,f1]
     go_wp2
     go_roundw
     case rel=>exact⟨i+1,by go_num,by omega,by rw[HTK.out];simp;exact HA.out⟩
     case measure=>simp[intOf];omega
   ·have f1:((x.toNat:Int)==(q.toNat:Int))=false:=by
     have h5:x.toNat≠q.toNat:=fun h=>hxq (UInt8.toNat_inj.1 h)
     rw[beq_eq_false_iff_ne];omega
    have f2:((x.toNat:Int) != (q.toNat:Int))=true:=by simp[bne,f1]
    have HW:=Lib.hid (show flagW f q on x=hb by unfold flagW;rw[if_neg hxq];exact HHB.out.symm)
    rw[HW.out] at HTK
    clear hxq
    cases hb with
    | true=>
     go_wp2_with (first
      |(go_at_call 42;(with_reducible refine(HHX.out).mono ?_);rintro x9 w5 ⟨rfl,hl5⟩;(have HA5:=Lib.hid (HA.out.later hl5));(have HS5:=Lib.hid (Nat.le_trans HSW.out hl5.size));clear hl5)
      |(at_builtin;refine wpList_app1 w5 (bv x) rfl (.tmp 33) (.tmp 35) 81 rfl W2.heap.size 5 i0 (.int .u8 0) 1 Tryz.underlying81 hif hz0 hz1 hz2 rfl rfl (.slice A7 l7.length c7) (l7.map bv) rfl HA5.out.own rfl (by rw[List.length_map];have:=HYL.out;omega) (by rw[List.length_map];have:=HYL.out;omega) HS5.out ?_;intro v8 w8 hg8;(have hp8:=HA5.out.push (m:=[x]) HS2.out hg8);obtain⟨A8,c8,hv8,_⟩:=own_any hp8.own;(have HP8:=Lib.hid hp8);rw[hv8] at HP8;subst hv8;clear hg8 hp8))
     go_roundw
     case rel=>exact⟨i+1,by go_num,by omega,by
      have h9:=HP8.out
      rw[show (List.map bv (l7++[x])).length=l7.length+1 by simp] at h9
      rw[HTK.out]
      first | rw[if_pos rfl] | rw[if_pos trivial]
      exact h9⟩
     case measure=>simp[intOf];omega
    | false=>
     go_wp2_with (go_at_call 42;(with_reducible refine(HHX.out).mono ?_);rintro x9 w5 ⟨rfl,hl5⟩;(have HA5:=Lib.hid (HA.out.later hl5));(have HS5:=Lib.hid (Nat.le_trans HSW.out hl5.size));clear hl5)
     go_roundw
     case rel=>exact⟨i+1,by go_num,by omega,by rw[HTK.out];simp;exact HA5.out⟩
     case measure=>simp[intOf];omega
  ·have hfull:l7=efux.filter (flagW f q on):=by rw[hl7,List.take_of_length_le (by omega)]
   have HFU:=Lib.hid hfull
   have hrd:Rd wr wr.heap.size A7 l7.length (l7.map bv):=Rd.of_own hown
   have hcv:=run_str_of hrd 81 9 5 Tryz.underlying81 Tryz.underlying5 Tryz.underlying9 c7
   have z3:=fun i=>(cell_row HA.out.bx.bx i).2
   have g5:=set_only wr W.heap.size 3 (.string (mkS l7))
   obtain⟨w5,hw5⟩:∃ w5,w5=wr.setCell ⟨W.heap.size,3,none⟩ (.string (mkS l7)):=⟨_,rfl⟩
   have hb5:Bx W w5 (.slice Av n0 cv) (.slice A n c) (.int .i64 st) (.string (mkS l7)):=by
    rw[hw5]
    exact⟨later_of_new HA.out.bx.low g5 (Nat.le_refl _),set_row HA.out.bx.bx 3 _,grown_cells g5 HA.out.bx.rs (by omega)⟩
   have HB5:=Lib.hid hb5
   have HAN:=Lib.hid (HANY.out w5 l7 hb5.low)
   have HW5:=Lib.hid hw5
   clear haf hown hrd g5 hw5 hb5 hfull hl7
   go_wp2_with fail
   rw[←HW5.out]
   go_at_call 43
   with_reducible refine HAN.out.mono ?_
   rintro x w4 ⟨⟨v,rfl,hf⟩,hl4⟩
   have HF:=Lib.hid hf
   obtain⟨v0,A4,n4,c4,rfl,hv4,_⟩:=hf.rd
   obtain⟨A5,c5,rfl,_⟩:=hv4.le
   have HB4:=Lib.hid (HB5.out.later hl4)
   obtain⟨r0,r1,r2,r3,r4⟩:=HB4.out.r
   clear hf hl4 hv4 b0 b1 b2 b3 z3
   go_wp2
   have hs5:=lt_of_block HB5.out.rs
   obtain⟨w9,hw9,hl9,hr9,hf9⟩:=HB4.out.tell HF.out hs5
   rw[←hw9]
   refine bodyPost_ret (results_Env rfl _ _ (W.heap.size+1) _ (0,0) rfl hr9 rfl) rfl ?_
   rw[←HFU.out]
   exact⟨⟨_,rfl,hf9.less (by omega)⟩,hl9⟩
end En
end Go.Proofs.YtipdgmjplnibeaaGreatDoor
namespace Go.Proofs.YtipdgmjplnibeaaGreatDoor
open Go.RowKit Go.Maps
namespace En
def Place (vs:Vs) (s:B) (k:Nat) (b:Bool):Prop:=k≤vs.length∧(∀ j (h:j<vs.length),j<k→vs[j].1<s)∧(∀ j (h:j<vs.length),k≤j→¬ vs[j].1<s)∧(b=true↔∃ h:k<vs.length,vs[k].1=s)
theorem rises_at {vs:Vs} (hr:Rises vs) {i j:Nat} (hi:i<vs.length) (hj:j<vs.length) (hij:i<j):vs[i].1<vs[j].1:=by
 have:=List.pairwise_iff_getElem.1 hr i j (by simpa using hi) (by simpa using hj) hij
 simpa using this
def SrOk (vs:Vs) (s:B) (e:Ending):Prop:=∃ (k:Nat) (b:Bool),e=.returned (.tuple #[.int .i64 (k:Int),.bool b])∧Place vs s k b
theorem search_v (g:Nat) (vs:Vs) (s:B) (z:List Value) (W:World) (hp:PrB W g vs z) (hr:Rises vs) (hn:vs.length≤1000000):Calls Tryz.prog 29 #[.slice (some ⟨g,0,none⟩) vs.length vs.length,.string (mkS s),.func (.func 30) #[] #[]] W fun e W'=>SrOk vs s e∧Later W W':=by
 obtain⟨n,hnn⟩:∃ n,n=vs.length:=⟨_,rfl⟩
 have HN:=Lib.hid hnn
 rw[←hnn] at hn⊢
 have HP:=Lib.hid hp
 have HR:=Lib.hid hr
 clear hnn hp hr
 go_enter Tryz.func29,Tryz.ntmps29
 go_wp2_with fail
 go_loopw [9,10] (fun s9 s10 wr=>∃ (i j:Nat),s9=.int .i64 (i:Int)∧s10=.int .i64 (j:Int)∧i≤j∧j≤n∧Later W wr∧Hid ((∀ t (h:t<vs.length),t<i→vs[t].1<s)∧(∀ t (h:t<vs.length),j≤t→¬ vs[t].1<s))) (fun i j _=>(intOf j).toNat-(intOf i).toNat)
 case atStart=>exact⟨0,n,rfl,rfl,Nat.zero_le _,Nat.le_refl _,Later.refl _,Lib.hid ⟨fun t _ h=>absurd h (Nat.not_lt_zero _),fun t h h2=>absurd h2 (by have:=HN.out;omega)⟩⟩
 case round=>
  obtain⟨i,j,rfl,rfl,hij,hj,hlw,hin⟩:=hrel
  have HLW:=Lib.hid hlw
  have hi0:(0:Int)≤(i:Int):=by omega
  have hj0:(0:Int)≤(j:Int):=by omega
  clear hlw
  by_cases hlt:i<j
  ·have hlt1:(i:Int)<(j:Int):=by omega
   obtain⟨m,hm⟩:∃ m,m=(i+j) / 2:=⟨_,rfl⟩
   have hmn:m<n:=by omega
   have hml:m<vs.length:=by rw[←HN.out];exact hmn
   obtain⟨x,hx⟩:∃ x,x=vs[m]:=⟨_,rfl⟩
   obtain⟨p1,p2⟩:=(HP.out.later HLW.out).cells m hml
   rw[←hx] at p1 p2
   have HLD:=Lib.hid (load_mid 72 _ Tryz.underlying72 (by kernel_rfl) p1 p2)
   rw[hm] at HLD
   have HAG:=Lib.hid (fun W=>against_v x.1 x.2 s W)
   obtain⟨k,hk⟩:∃ k,k=Lib.compareBytes x.1 s:=⟨_,rfl⟩
   rw[←hk] at HAG
   have hmi:((i:Int)+(j:Int)) / 2=(m:Int):=by omega
   have HM:=Lib.hid (And.intro hm hmi)
   have HX:=Lib.hid hx
   have HK:=Lib.hid hk
   have hij2:i≤m∧m<j:=by omega
   have HIJ:=Lib.hid hij2
   clear hm hmi hmn hx hk p1 p2 hij2
   by_cases hk0:k<0
   ·have hxs:=(cmp_lt x.1 s).1 (by rw[←HK.out];exact hk0)
    have HXS:=Lib.hid hxs
    clear hxs
    go_wp2_with (first
     |(refine wpList_loadRun rfl 72 (.tmp 27) rfl _ _ rfl HLD.out ?_)
     |(go_at_call 30;(with_reducible refine(HAG.out _).mono ?_);rintro x9 w5 ⟨rfl,hl5⟩;(have HL5:=Lib.hid (HLW.out.trans hl5));clear hl5))
    have h2:=HM.out.2
    have hml2:=HIJ.out
    have hj9:j≤n:=hj
    refine⟨⟨m+1,j,congrArg (Value.int .i64) (by omega),rfl,by omega,hj9,HL5.out,Lib.hid ⟨fun t h ht=>?_,hin.out.2⟩⟩,by simp only[intOf];omega⟩
    by_cases htm:t=m
    ·subst htm;rw[←HX.out];exact HXS.out
    ·exact lt_trans (rises_at HR.out h hml (by omega)) (by rw[←HX.out];exact HXS.out)
   ·have hxs:=fun h2=>hk0 (by rw[HK.out];exact(cmp_lt x.1 s).2 h2)
    have HXS:=Lib.hid hxs
    clear hxs
    go_wp2_with (first
     |(refine wpList_loadRun rfl 72 (.tmp 27) rfl _ _ rfl HLD.out ?_)
     |(go_at_call 30;(with_reducible refine(HAG.out _).mono ?_);rintro x9 w5 ⟨rfl,hl5⟩;(have HL5:=Lib.hid (HLW.out.trans hl5));clear hl5))
    have h2:=HM.out.2
    have hml2:=HIJ.out
    refine⟨⟨i,m,rfl,congrArg (Value.int .i64) (by omega),by omega,by omega,HL5.out,Lib.hid ⟨hin.out.1,fun t h ht=>?_⟩⟩,by simp only[intOf];omega⟩
    by_cases htm:t=m
    ·subst htm;rw[←HX.out];exact HXS.out
    ·exact fun h3=>HXS.out (lt_trans (by rw[HX.out];exact rises_at HR.out hml h (by omega)) h3)
  ·have hije:i=j:=by omega
   subst hije
   by_cases hin2:i<n
   ·have hlt2:(i:Int)<(n:Int):=by omega
    have hml:i<vs.length:=by rw[←HN.out];exact hin2
    obtain⟨x,hx⟩:∃ x,x=vs[i]:=⟨_,rfl⟩
    obtain⟨p1,p2⟩:=(HP.out.later HLW.out).cells i hml
    rw[←hx] at p1 p2
    have HAG:=Lib.hid (fun W=>against_v x.1 x.2 s W)
    obtain⟨k,hk⟩:∃ k,k=Lib.compareBytes x.1 s:=⟨_,rfl⟩
    rw[←hk] at HAG
    have HX:=Lib.hid hx
    have HK:=Lib.hid hk
    have HML:=Lib.hid hml
    clear hx hk
    obtain⟨bb,hbb⟩:∃ bb,bb=(k==0):=⟨_,rfl⟩
    have f1:(k==0)=bb:=hbb.symm
    have HBB:=Lib.hid (show bb=true↔∃ h:i<vs.length,vs[i].1=s from by
     rw[hbb,beq_iff_eq,HK.out,cmp_eq,HX.out]
     exact⟨fun h=>⟨HML.out,h⟩,fun ⟨_,h⟩=>h⟩)
    clear hbb
    cases bb
    all_goals (
     go_wp2_with (first
      |(go_at_call 30;(with_reducible refine(HAG.out _).mono ?_);rintro x9 w5 ⟨rfl,hl5⟩;(have HL5:=Lib.hid (HLW.out.trans hl5));clear hl5))
     go_ret2
     exact⟨⟨i,_,rfl,Nat.le_of_lt HML.out,hin.out.1,hin.out.2,by simpa using HBB.out⟩,HL5.out⟩)
   ·have hlt2:¬ (i:Int)<(n:Int):=by omega
    go_wp2
    go_ret2
    exact⟨⟨i,false,rfl,by rw[←HN.out];omega,hin.out.1,hin.out.2,⟨fun h=>(by cases h),fun ⟨h,_⟩=>absurd h (by rw[←HN.out];exact hin2)⟩⟩,HLW.out⟩
end En
end Go.Proofs.YtipdgmjplnibeaaGreatDoor
namespace Go.Proofs.YtipdgmjplnibeaaGreatDoor
open Go.RowKit Go.Maps
namespace En
theorem zero_pairs (n:Nat):(Builtin.zeroCells (Value.agg #[.string ⟨#[]⟩,.string ⟨#[]⟩]).cells n).toList=prs (zs n):=made_pairs n
theorem PrB.lie {w:World} {g:Nat} {l:Vs} {z:List Value} (h:PrB w g l z) {k j:Nat} {u:Value} (hk:k≤l.length) (hu:(prs (l.drop k))[j]?=some u):w.cell? ⟨g,k*2+j,none⟩=some u:=by
 have h1:=prs_drop hk hu
 rw[(cell_row h _).1]
 simp only[List.getElem?_toArray]
 rw[List.getElem?_append_left (List.getElem?_eq_some_iff.1 h1).1]
 exact h1
theorem PrB.lieT {w:World} {g:Nat} {l:Vs} {z:List Value} (h:PrB w g l z) {k j:Nat} {u:Value} (hu:(prs (l.take k))[j]?=some u):w.cell? ⟨g,j,none⟩=some u:=by
 have h1:=prs_take hu
 have:=h.lie (k:=0) (j:=j) (Nat.zero_le _) (by rw[List.drop_zero];exact h1)
 simpa using this
theorem prs_len' (l:Vs):(prs l).length=l.length*2:=prs_len l
theorem PrB.copy {w:World} {h:Nat} {l m:Vs} {z:List Value} (hp:PrB w h l z) {k:Nat} (hk:k+m.length≤l.length) (ty:TypeId) (dLen dCap sLen sCap:Nat) (ad:Addr) (hn:Nat.min sLen dLen=m.length) (hsrc:∀ j u,(prs m)[j]?=some u→w.cell? (ad.add j)=some u) :
  ∃ w',(Builtin.copy_ #[67,67] ty #[.slice (some ⟨h,k*2,none⟩) dLen dCap,.slice (some ad) sLen sCap]).run Tryz.prog w=.ok (goInt m.length) w'∧PrB w' h (l.take k++m++l.drop (k+m.length)) z∧w.grownBy w' (some h):=by
 obtain⟨i0,hif,hz0,hz1,hz2⟩:=info_parts info_var
 have hm:=prs_len m
 have hl:=prs_len l
 have hr:=run_copy_row (P:=Tryz.prog) w 67 67 ty 72 i0 Tryz.underlying67 hif h (k*2) dLen dCap _ _ hp ad sLen sCap (prs m) (by rw[hn,hz1,hm]) hsrc (by simp;omega) (prs_one_cell m)
 rw[hn] at hr
 refine⟨_,hr,?_,setRow_grown _ _ _⟩
 unfold PrB
 rw[setRow_heap _ _ _ _ _ _ hp]
 show some (Obj.cells ((prs l++z).take (k*2)++prs m++(prs l++z).drop (k*2+(prs m).length)).toArray _ _)=_
 rw[List.take_append_of_le_length (by omega),List.drop_append_of_le_length (by omega),hm,prs_take_eq (by omega),show k*2+m.length*2=(k+m.length)*2 by omega,prs_drop_eq (by omega),prs_app,prs_app]
 simp only[List.append_assoc]
theorem lit_pair (w:World) (x:B×B):PrB (w.alloc (.cells #[.string (mkS x.1),.string (mkS x.2)] 72)) w.heap.size [x] []:=heap_alloc_new w _
theorem arr_end (a b:Vs) (k:Nat):(prs a).toArray++(prs b).toArray++Builtin.zeroCells (Value.agg #[.string ⟨#[]⟩,.string ⟨#[]⟩]).cells k=(prs (a++b)++prs (zs k)).toArray:=by
 apply Array.ext'
 rw[Array.toList_append,Array.toList_append,zero_pairs,prs_app]
theorem arr_make (a:Vs) (j k:Nat):(prs a).toArray++Builtin.zeroCells (Value.agg #[.string ⟨#[]⟩,.string ⟨#[]⟩]).cells j++Builtin.zeroCells (Value.agg #[.string ⟨#[]⟩,.string ⟨#[]⟩]).cells k=(prs (a++zs j)++prs (zs k)).toArray:=by
 apply Array.ext'
 rw[Array.toList_append,Array.toList_append,zero_pairs,zero_pairs,prs_app]
theorem ins_end {w:World} {g gv:Nat} {vs:Vs} {x:B×B} (hp:PrB w g vs []) (hv:PrB w gv [x] []) (hn:vs.length≤1000000) (ty:TypeId) :
  ∃ c w' z,(Builtin.append_ #[67,67] ty #[.slice (some ⟨g,0,none⟩) vs.length vs.length,.slice (some ⟨gv,0,none⟩) 1 1]).run Tryz.prog w=.ok (.slice (some ⟨w.heap.size,0,none⟩) (vs.length+1) c) w'∧PrB w' w.heap.size (vs++[x]) z∧vs.length+1≤c∧c≤9223372036854775807∧Later w w':=by
 obtain⟨i0,hif,hz0,hz1,hz2⟩:=info_parts info_var
 have hr:=run_append_grow (P:=Tryz.prog) w 67 ty 72 i0 _ Tryz.underlying67 hif hz0 ⟨g,0,none⟩ vs.length vs.length (prs vs) (by rw[hz1,prs_len]) (fun j u hu=>by rw[add_lit0];have:=hp.lie (k:=0) (Nat.zero_le _) (by rw[List.drop_zero];exact hu);simpa using this) ⟨gv,0,none⟩ 1 1 (prs [x]) (by rw[hz1,prs_len];rfl) (fun j u hu=>by rw[add_lit0];have:=hv.lie (k:=0) (Nat.zero_le _) (by rw[List.drop_zero];exact hu);simpa using this) (by omega) (by omega) (growslice_fits (by omega) (by rw[hz2];omega))
 refine⟨_,_,prs (zs (grownCap w (vs.length+1) vs.length 72-(vs.length+1))),hr,?_,grownCap_ge w _ _ _,?_,(Later.drew w).trans (Later.alloc _ _)⟩
 rotate_left 1
 ·have:=grownCap_le_maxLen w (vs.length+1) vs.length 72 (by unfold maxLen;omega)
  unfold maxLen at this;omega
 ·unfold PrB
  rw[show w.heap.size=w.drew.heap.size from rfl,heap_alloc_new w.drew]
  rw[arr_end]
theorem ins_make {w:World} {g:Nat} {vs:Vs} (hp:PrB w g vs []) (hn:vs.length≤1000000) {i:Nat} (hi:i<vs.length) (ty:TypeId) :
  ∃ c w' z,(Builtin.append_ #[67,3] ty #[.slice (some ⟨g,0,none⟩) i vs.length,.int .i64 ((vs.length+1-i:Nat):Int)]).run Tryz.prog w=.ok (.slice (some ⟨w.heap.size,0,none⟩) (vs.length+1) c) w'∧PrB w' w.heap.size (vs.take i++zs (vs.length+1-i)) z∧vs.length+1≤c∧c≤9223372036854775807∧Later w w':=by
 obtain⟨i0,hif,hz0,hz1,hz2⟩:=info_parts info_var
 have hti:(vs.take i).length=i:=by rw[List.length_take];omega
 have hold:(Builtin.firstCells i0.size i (.slice (some ⟨g,0,none⟩) i vs.length)).run Tryz.prog w.drew=.ok (prs (vs.take i)).toArray w.drew:=
  run_firstCells_some w.drew i0.size i ⟨g,0,none⟩ i vs.length (prs (vs.take i)) (by rw[hz1,prs_len,hti]) (fun j u hu=>by rw[add_lit0];exact hp.lieT hu)
 have hr:=Lib.run_append_grow_zeros (P:=Tryz.prog) w 67 3 ty 72 i0 _ .i64 .i64 Tryz.underlying67 Tryz.underlying3 hif hz0 (some ⟨g,0,none⟩) i vs.length (prs (vs.take i)) hold (vs.length+1-i) (by omega) (by omega) (by omega) (by omega) (by rw[hz2];omega) (by rw[hz2];exact growslice_fits (by omega) (by omega))
 rw[show i+(vs.length+1-i)=vs.length+1 by omega] at hr
 refine⟨_,_,prs (zs (grownCap w (vs.length+1) vs.length 72-(vs.length+1))),hr,?_,grownCap_ge w _ _ _,?_,(Later.drew w).trans (Later.alloc _ _)⟩
 rotate_left 1
 ·have:=grownCap_le_maxLen w (vs.length+1) vs.length 72 (by unfold maxLen;omega)
  unfold maxLen at this;omega
 ·unfold PrB
  rw[show w.heap.size=w.drew.heap.size from rfl,heap_alloc_new w.drew]
  rw[arr_make]
end En
end Go.Proofs.YtipdgmjplnibeaaGreatDoor
