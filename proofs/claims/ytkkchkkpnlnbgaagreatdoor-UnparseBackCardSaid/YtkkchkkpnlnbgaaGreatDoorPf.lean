/- The writer: a newline, and the bodies behind it; a node's kind. No premises. -/
import Derived.Test.YtkkchkkpnlnbgaaGreatDoorPe
set_option maxRecDepth 100000
set_option maxHeartbeats 1600000
namespace Go.Proofs.YtkkchkkpnlnbgaaGreatDoor
open Go.RowKit Go.Maps
open Lx (nl)
namespace Uw
section
variable {W W':World} {X:Nat→Prop} {g:Nat} {C:WC} {s:Up.S} {B:List Bool} {pa vb vh:Value} {H:List Sx.Arw}
abbrev arwA (x:Sx.Arw):Array Value:=#[.int .i64 (x.fd:Int),.string (mkS x.op),.string (mkS x.word),.string (mkS x.body)]
theorem arw_load {w:World} {b o:Nat} {x:Sx.Arw} (c0:w.cell? ⟨b,o,none⟩=some (.int .i64 (x.fd:Int))) (c1:w.cell? ⟨b,o+1,none⟩=some (.string (mkS x.op))) (c2:w.cell? ⟨b,o+2,none⟩=some (.string (mkS x.word))) (c3:w.cell? ⟨b,o+3,none⟩=some (.string (mkS x.body))):(Instr.loadAt 79 (.pointer (some ⟨b,o,none⟩))).run Tryz.prog w=.ok (.agg (arwA x)) w:=by
 refine run_loadAt_mid (P:=Tryz.prog) w b o 79 (arwA x).toList _ (fun j v hv=>?_) Tryz.underlying79 rfl (by kernel_rfl)
 have hj:j<4:=(List.getElem?_eq_some_iff.1 hv).1
 match j,hj with
 | 0,_=>cases hv;exact c0
 | 1,_=>cases hv;exact c1
 | 2,_=>cases hv;exact c2
 | 3,_=>cases hv;exact c3
theorem arw_store (w:World) (c0:Array Value) (x:Sx.Arw) (h0:c0.size=4):(Instr.storeAt 79 (.pointer (some ⟨w.heap.size,0,none⟩)) (.agg (arwA x))).run Tryz.prog (w.alloc (.cells c0 79))=.ok () (w.alloc (.cells (arwA x) 79)):=
 run_storeAt_new w _ c0 _ (by kernel_rfl) h0 (Array.all_eq_true_iff_forall_mem.2 (by intro v hv;simp only[List.mem_toArray,List.mem_cons,List.not_mem_nil,or_false] at hv;rcases hv with rfl | rfl | rfl | rfl <;> rfl))
theorem own_arw {w:World} {v:Value} {H:List Sx.Arw} (h:w.ownsRow 0 79 4 v H.length (H.flatMap rcs)) {k:Nat} (hk:k<H.length):∃ b c,v=.slice (some ⟨b,0,none⟩) H.length c∧w.cell? ⟨b,k*4,none⟩=some (.int .i64 (H[k].fd:Int))∧w.cell? ⟨b,k*4+1,none⟩=some (.string (mkS H[k].op))∧w.cell? ⟨b,k*4+2,none⟩=some (.string (mkS H[k].word))∧w.cell? ⟨b,k*4+3,none⟩=some (.string (mkS H[k].body)):=by
 obtain⟨A,c,rfl,_⟩:=own_any h
 obtain⟨b,e,_,h1,h2,h3,h4⟩:=(RdR.of_own h).2 k hk
 exact⟨b,c,by rw[e],h1,h2,h3,h4⟩
theorem flat_len:∀ H:List Sx.Arw,H.length≤(flat H).length
 | []=>Nat.le_refl _
 | x::H=>by
  have:=flat_len H
  simp only[flat,List.flatMap_cons,List.length_append,List.length_cons,flatB] at this⊢
  omega
theorem flat_take (H:List Sx.Arw) (k:Nat) (hk:k<H.length):flat (H.take (k+1))=flat (H.take k)++flatB H[k]:=by
 unfold flat
 rw[List.take_succ_eq_append_getElem hk,List.flatMap_append]
 simp
theorem flat_len_take (H:List Sx.Arw) (k:Nat):(flat (H.take k)).length≤(flat H).length:=by
 have e:flat H=flat (H.take k)++flat (H.drop k):=by unfold flat;rw[←List.flatMap_append,List.take_append_drop]
 rw[e,List.length_append]
 omega
theorem line_v (h:WMem W X g C s B) (hX:XL X W) (A:Option Addr) (n c:Nat) (ts:List (List UInt8)) (hr:Rd W W.heap.size A n (ts.map sv)) (hA:0<n→∀ ad,A=some ad→X ad.block) (hn:n≤1000000) (hl:Up.size s+ts.flatten.length+1≤20000000000000):Calls Tryz.prog 106 #[.pointer (some ⟨g,0,none⟩),.slice A n c] W fun e W'=>e=.returned (.tuple #[])∧WMem W' X g C (Up.line (Up.put s ts.flatten)) B∧Fr X W W':=by
 obtain⟨vh,H,h⟩:=h
 have HP:=Lib.hid (putH_v h hX A n c ts hr hA hn (by unfold Up.size at hl;omega))
 obtain⟨s1,hs1⟩:∃ s1,s1=Up.put (Up.put s ts.flatten) [10]:=⟨_,rfl⟩
 have hz1:Up.size s1≤20000000000000:=by rw[hs1,Up.size_put,Up.size_put];simp only[List.length_cons,List.length_nil];omega
 have hm:s1.more=flat H:=by obtain⟨_,_,h⟩:=h;rw[hs1];exact h.hm
 have hzf:s1.text.length+(flat H).length≤20000000000000:=by unfold Up.size at hz1;rw[hm] at hz1;exact hz1
 have hHl:=flat_len H
 have hsm:∀ x∈H,x.word.length≤5000:=by obtain⟨_,_,h⟩:=h;exact fun x hx=>by have:=(h.sm x hx).2.2.1;omega
 have HS1:=Lib.hid hs1
 have HX:=Lib.hid hX
 have HL:=Lib.hid hl
 have HZ:=Lib.hid hzf
 have hHn:H.length≤20000000000000:=by omega
 have hm2:Up.line (Up.put s ts.flatten)=⟨s1.text++flat H,[]⟩:=by
  obtain⟨_,_,h⟩:=h
  rw[hs1]
  unfold Up.line Up.put
  simp[h.hm]
 have HM2:=Lib.hid hm2
 clear h hX hl hr hA hs1 hz1 hzf hHl hm hm2
 go_enter Tryz.func106,Tryz.ntmps106
 go_wp2_with (go_at_call 102;fail)
 (with_reducible refine HP.out.mono ?_)
 rintro e w1 ⟨rfl,h1,hf1⟩
 have HF1:=Lib.hid hf1
 have hp2:=putH_lit h1 (HX.out.mono hf1.size) [[10]] (by decide) (by have:=HL.out;unfold Up.size at this;unfold Up.put;simp only[List.length_append,List.flatten_cons,List.flatten_nil,List.length_cons,List.length_nil];omega)
 have HP2:=Lib.hid hp2
 clear h1 hf1 hp2 HP
 go_wp2_with (go_at_call 102;fail)
 refine HP2.out.mono ?_
 rintro e w2 ⟨rfl,h2,hf2⟩
 rw[show ([[10]]:List (List UInt8)).flatten=[10] from rfl,←HS1.out] at h2
 have HF2:=Lib.hid (HF1.out.trans hf2)
 have H2:=Lib.hid h2
 obtain⟨pa,vb,h2⟩:=h2
 obtain⟨⟨c0,c1,c2,c3,c4,c5⟩,hz⟩:=h2.facts
 obtain⟨A0,k0,rfl,hk0⟩:=own_any h2.hs
 clear h2 hf2 HP2
 go_wp2
 go_loopw [19] (fun i wr=>∃ k:Nat,k≤H.length∧i=.int .i64 (k:Int)∧WMemH wr X g C (Up.put s1 (flat (H.take k))) B (.slice A0 H.length k0) H∧Fr X W wr) (fun i _=>H.length-(intOf i).toNat)
 case atStart=>exact⟨0,by omega,rfl,by simpa [Up.put,flat] using H2.out,HF2.out⟩
 case round=>
  obtain⟨k,hk,rfl,hm,hf⟩:=hrel
  have HM:=Lib.hid hm
  have HF:=Lib.hid hf
  clear c0 c1 c2 c3 c4 c5 hz H2 HF2
  have hk0:(0:Int)≤(k:Int):=by omega
  obtain⟨pa,vb,hm⟩:=hm
  by_cases hlt:k<H.length
  ·obtain⟨b,c,ev,e0,e1,e2,e3⟩:=own_arw hm.hs hlt
   injection ev with ev _ ec
   subst ev
   subst ec
   have hk1:(k:Int)<(H.length:Int):=by omega
   have htk:=flat_take H k hlt
   have hft:=flat_len_take H (k+1)
   rw[htk,List.length_append] at hft
   have hsm1:=hsm H[k] (List.getElem_mem hlt)
   obtain⟨x,hx⟩:∃ x,x=H[k]:=⟨_,rfl⟩
   rw[←hx] at e0 e1 e2 e3 htk hft hsm1
   have HT:=Lib.hid htk
   have HLD:=Lib.hid (arw_load e0 e1 e2 e3)
   have hw1:WMemH (wr.alloc (.cells (arwA x) 79)) X g C (Up.put s1 (flat (H.take k))) B (.slice (some ⟨b,0,none⟩) H.length k0) H:=HM.out.later (Later.alloc _ _)
   have HW1:=Lib.hid hw1
   have HFT:=Lib.hid hft
   have hst:=arw_store wr #[.int .i64 0,.string ⟨#[]⟩,.string ⟨#[]⟩,.string ⟨#[]⟩] x rfl
   have HST:=Lib.hid hst
   have HB:=Lib.hid (bare_v x.word hsm1 (wr.alloc (.cells (arwA x) 79)))
   have hbx:(wr.alloc (.cells (arwA x) 79)).heap[wr.heap.size]?=some (.cells (arwA x) 79 (0,0)):=heap_alloc_new wr _
   have HBX:=Lib.hid hbx
   clear hm hf e0 e1 e2 e3 htk hft hsm1 hw1 hst hbx hx
   go_wp2_with (first
    |(refine wpList_loadRun rfl 79 (.tmp 21) rfl (.pointer (some ⟨b,k*4,none⟩)) (.agg (arwA x)) ?_ HLD.out ?_)
    |(refine wpList_storeRun rfl 79 (.tmp 5) (.tmp 22) rfl _ _ rfl rfl HST.out ?_))
   (with_reducible refine HB.out.mono ?_)
   rintro e w3 ⟨rfl,hl3⟩
   have hb3:=later_cells hl3 HBX.out
   have d3:w3.cell? ⟨wr.heap.size,3,none⟩=some (.string (mkS x.body)):=(cell_row hb3 3).1
   have hf3:Fr X wr w3:=Fr.later ((Later.alloc wr _).trans hl3)
   have hp3:=putH_lit (HW1.out.later hl3) ((HX.out.mono HF.out.size).mono hf3.size) [x.body,Lx.bare x.word,[10]] (by simp) (by
    have h1:=HFT.out
    have h2:=HZ.out
    have h3:([x.body,Lx.bare x.word,[10]]:List (List UInt8)).flatten.length=(flatB x).length:=by unfold flatB;simp
    rw[h3]
    show (s1.text++flat (H.take k)).length+_≤_
    rw[List.length_append]
    omega)
   have HP3:=Lib.hid hp3
   have HF3:=Lib.hid hf3
   clear hb3 hf3 hp3
   go_wp2_with (go_at_call 102;fail)
   refine HP3.out.mono ?_
   rintro e w4 ⟨rfl,h4,hf4⟩
   have H4:=Lib.hid h4
   have HF4:=Lib.hid hf4
   clear h4 hf4 HP3
   go_wp2
   go_roundw
   case rel=>
    refine⟨k+1,by omega,by go_num,?_,HF.out.trans (HF3.out.trans HF4.out)⟩
    rw[HT.out]
    have:=H4.out
    simpa [Up.put,flatB] using this
   case measure=>simp[intOf];omega
  ·have hk1:¬ (k:Int)<(H.length:Int):=by omega
   have hkn:H.take k=H:=List.take_of_length_le (by omega)
   rw[hkn] at HM hm
   have hgn:=hm.lt
   obtain⟨⟨c0,c1,c2,c3,c4,c5⟩,hz⟩:=hm.facts
   have HQ:=Lib.hid hm
   clear hm hf
   go_wp2
   go_end0
   rw[HM2.out]
   have hm:=HQ.out
   refine⟨rfl,(hm.cell (s':=⟨s1.text++flat H,[]⟩) (H':=[]) 4 (.slice none 0 0) rfl hm.pa hm.buf hm.uX (World.ownsRow_nil _ _ _ _) (by simp[Value.ownBlock]) rfl (by simp)).mem,HF.out.trans (fr_own hm.gX _ _)⟩
end
end Uw
end Go.Proofs.YtkkchkkpnlnbgaaGreatDoor
namespace Go.Proofs.YtkkchkkpnlnbgaaGreatDoor
open Go.RowKit Go.Maps
open Lx (nl)
open Um (Mid kid)
namespace Up
theorem kids_snoc (nd:S→Nat→S) (b:L):∀ (l:List Nat) (s:S) (x:Nat),kids nd b s (l++[x])=if l=[] then nd s x else nd (put (kids nd b s l) b) x
 | [],_,_=>rfl
 | [y],s,x=>rfl
 | y::z::l,s,x=>by
  have:=kids_snoc nd b (z::l) (put (nd s y) b) x
  rw[if_neg (by simp)] at this
  rw[if_neg (by simp)]
  simp only[List.cons_append,kids] at this⊢
  exact this
theorem lines_snoc (nd:S→Nat→S):∀ (l:List Nat) (s:S) (x:Nat),lines nd s (l++[x])=line (nd (lines nd s l) x)
 | [],_,_=>rfl
 | y::l,s,x=>lines_snoc nd l _ x
theorem lines_app (nd:S→Nat→S):∀ (l m:List Nat) (s:S),lines nd s (l++m)=lines nd (lines nd s l) m
 | [],_,_=>rfl
 | y::l,m,s=>lines_app nd l m _
theorem kids_le {nd:S→Nat→S} (h:∀ s k,size s≤size (nd s k)) (b:L) (l:List Nat) (s:S):∀ m:List Nat,size (kids nd b s l)≤size (kids nd b s (l++m))
 | []=>by simp
 | x::m=>by
  have h1:=kids_le h b (l++[x]) s m
  rw[List.append_assoc,List.singleton_append] at h1
  refine Nat.le_trans ?_ h1
  rw[kids_snoc]
  split
  ·rename_i e;subst e;exact h _ _
  ·refine Nat.le_trans ?_ (h _ _);rw[size_put];omega
end Up
namespace Uw
def WM (W:World) (X:Nat→Prop) (g:Nat) (C:WC) (s:Up.S) (p:Nat) (B1:List Bool) (done:List Nat):Prop:=∃ B,WMem W X g C s B∧Mid C.T C.ns p B1 B done
structure Kids (g:Nat) (C:WC) (nd:Up.S→Nat→Up.S) (p:Nat):Prop where
 mono:∀ s k,Up.size s≤Up.size (nd s k)
 call:∀ k,kid C.ns p k→∀ (W:World) (X:Nat→Prop) (s:Up.S) (B1:List Bool) (done:List Nat),WM W X g C s p B1 done→XL X W→k∉done→Up.size (nd s k)≤2300000000000→Calls Tryz.prog 32 #[.pointer (some ⟨g,0,none⟩),.int .i64 (k:Int)] W fun e W'=>e=.returned (.tuple #[])∧WM W' X g C (nd s k) p B1 (done++[k])∧Fr X W W'
section
variable {W W':World} {X:Nat→Prop} {g:Nat} {C:WC} {s:Up.S} {B:List Bool} {p:Nat} {B1:List Bool} {done:List Nat} {nd:Up.S→Nat→Up.S}
theorem line_lit (h:WMem W X g C s B) (hX:XL X W) (ts:List (List UInt8)) (hn:ts.length≤1000) (hl:Up.size s+ts.flatten.length+1≤20000000000000):Calls Tryz.prog 106 #[.pointer (some ⟨g,0,none⟩),.slice (some ⟨W.heap.size,0,none⟩) ts.length ts.length] (W.alloc (.cells (ts.map sv).toArray 9)) fun e W'=>e=.returned (.tuple #[])∧WMem W' X g C (Up.line (Up.put s ts.flatten)) B∧Fr X W W':=by
 have hla:=Later.alloc W (.cells (ts.map sv).toArray 9)
 have hr:=Rd.lit W 9 (ts.map sv)
 rw[List.length_map] at hr
 have hsz:(W.alloc (.cells (ts.map sv).toArray 9)).heap.size=W.heap.size+1:=by simp
 refine(line_v ((h.more [W.heap.size] (by simp)).later hla) (X:=plus X [W.heap.size]) (fun b hb=>?_) (some ⟨W.heap.size,0,none⟩) ts.length ts.length ts (by rw[hsz];exact hr) (fun _ ad e=>?_) (by omega) hl).mono fun e W' ⟨e1,h1,h2⟩=>⟨e1,h1.less h.lX,(Fr.later hla).trans h2.less⟩
 ·rcases hb with hb | hb
  ·have:=hX b hb;omega
  ·simp at hb;omega
 ·injection e with e
  subst e
  exact .inr (by simp)
theorem line_nil (h:WMem W X g C s B) (hX:XL X W) (hl:Up.size s+1≤20000000000000):Calls Tryz.prog 106 #[.pointer (some ⟨g,0,none⟩),.slice none 0 0] W fun e W'=>e=.returned (.tuple #[])∧WMem W' X g C (Up.line s) B∧Fr X W W':=by
 have h1:=line_v h hX none 0 0 [] Rd.nil_ (fun h=>absurd h (by omega)) (by omega) (by simpa using hl)
 simpa [Up.put] using h1
structure Row (ns:List Sx.Node) (p:Nat) (done l:List Nat):Prop where
 kid:∀ k∈l,kid ns p k
 nodup:l.Nodup
 out:∀ k∈l,k∉done
theorem Row.at_ {ns:List Sx.Node} {l:List Nat} (h:Row ns p done l) {k:Nat} (hk:k<l.length):Um.kid ns p l[k]∧l[k]∉done++l.take k:=by
 refine⟨h.kid _ (List.getElem_mem hk),fun e=>?_⟩
 rcases List.mem_append.1 e with e | e
 ·exact h.out _ (List.getElem_mem hk) e
 ·obtain⟨j,hj,e⟩:=List.getElem_of_mem e
  rw[List.length_take] at hj
  rw[List.getElem_take] at e
  exact List.pairwise_iff_getElem.1 h.nodup j k (by omega) hk (by omega) e
theorem WM.len (h:WM W X g C s p B1 done):g<W.heap.size:=by obtain⟨_,h,_⟩:=h;exact h.lt
theorem num_at {A:Option Addr} {n:Nat} {l:List Nat} {k:Nat} (h:Rd W W.heap.size A n (l.map iv)) (hk:k<n):∃ (ad:Addr) (hl:k<l.length),A=some ad∧W.cell? (ad.add k)=some (.int .i64 (l[k]:Int)):=by
 obtain⟨ad,hl,e,_,hc⟩:=h.at_map hk
 exact⟨ad,hl,e,hc⟩
theorem list_v (HK:Kids g C nd p) (h:WM W X g C s p B1 done) (hX:XL X W) (A:Option Addr) (n c:Nat) (l:List Nat) (hr:Rd W W.heap.size A n (l.map iv)) (hA:0<n→∀ ad,A=some ad→X ad.block) (hn:n≤1000000) (hrow:Row C.ns p done l) (hl:Up.size (Up.lines nd s l)≤2300000000000):Calls Tryz.prog 105 #[.pointer (some ⟨g,0,none⟩),.slice A n c] W fun e W'=>e=.returned (.tuple #[])∧WM W' X g C (Up.lines nd s l) p B1 (done++l)∧Fr X W W':=by
 have HH:=Lib.hid h
 have HX:=Lib.hid hX
 have HL:=Lib.hid hl
 have HR:=Lib.hid hr
 have HA:=Lib.hid hA
 have hts:l.length=n:=hr.len_map
 clear h hX hl hr hA
 go_enter Tryz.func105,Tryz.ntmps105
 go_wp2_with (go_at_call 32;fail)
 go_loopw [8] (fun i wr=>∃ k:Nat,k≤n∧i=.int .i64 (k:Int)∧WM wr X g C (Up.lines nd s (l.take k)) p B1 (done++l.take k)∧Fr X W wr) (fun i _=>n-(intOf i).toNat)
 case atStart=>exact⟨0,by omega,rfl,by simpa [Up.lines] using HH.out,Fr.refl _ _⟩
 case round=>
  obtain⟨k,hk,rfl,hm,hf⟩:=hrel
  have HM:=Lib.hid hm
  have HF:=Lib.hid hf
  clear hm hf
  have hk0:(0:Int)≤(k:Int):=by omega
  by_cases hlt:k<n
  ·obtain⟨ad,hl1,rfl,hc⟩:=num_at (rd_fr HR.out HF.out HA.out) hlt
   have hk1:(k:Int)<(n:Int):=by omega
   obtain⟨hkid,hout⟩:=hrow.at_ hl1
   have htk:l.take (k+1)=l.take k++[l[k]]:=List.take_succ_eq_append_getElem hl1
   have hsn:=Up.lines_snoc nd (l.take k) s l[k]
   rw[←htk] at hsn
   have hle:Up.size (Up.lines nd s (l.take (k+1)))≤2300000000000:=by
    refine Nat.le_trans ?_ HL.out
    have e1:=Up.lines_app nd (l.take (k+1)) (l.drop (k+1)) s
    rw[List.take_append_drop] at e1
    rw[e1]
    exact Up.mono_lines HK.mono _ _
   rw[hsn,Up.size_line] at hle
   obtain⟨x,hx⟩:∃ x,x=l[k]:=⟨_,rfl⟩
   rw[←hx] at hc hkid hout htk hsn hle
   have hcl:=HK.call x hkid wr X _ B1 _ HM.out (HX.out.mono HF.out.size) hout (by omega)
   have HC:=Lib.hid hcl
   have HT:=Lib.hid (And.intro htk (And.intro hsn hle))
   clear hx hl1 htk hsn hle hkid hout hcl
   have hgn:=HM.out.len
   go_wp2_with (go_at_call 32;fail)
   (with_reducible refine HC.out.mono ?_)
   rintro e w1 ⟨rfl,⟨B2,hm1,hd1⟩,hf1⟩
   have hln:=line_nil hm1 ((HX.out.mono HF.out.size).mono hf1.size) (by have:=HT.out.2.2;omega)
   have HLN:=Lib.hid hln
   have HD1:=Lib.hid hd1
   have HF1:=Lib.hid hf1
   clear hm1 hf1 hd1 hln
   go_wp2_with (go_at_call 106;fail)
   (with_reducible refine HLN.out.mono ?_)
   rintro e w2 ⟨rfl,hm2,hf2⟩
   have HM2:=Lib.hid hm2
   have HF2:=Lib.hid hf2
   clear hm2 hf2
   go_wp2
   go_roundw
   case rel=>
    refine⟨k+1,by omega,by go_num,?_,HF.out.trans (HF1.out.trans HF2.out)⟩
    rw[HT.out.2.1,HT.out.1,←List.append_assoc]
    exact⟨B2,HM2.out,HD1.out⟩
   case measure=>simp[intOf];omega
  ·have hk1:¬ (k:Int)<(n:Int):=by omega
   have hkn:l.take k=l:=List.take_of_length_le (by omega)
   go_wp2
   go_end0
   rw[hkn] at HM
   exact⟨rfl,HM.out,HF.out⟩
theorem row_v (HK:Kids g C nd p) (h:WM W X g C s p B1 done) (hX:XL X W) (b:List UInt8) (A:Option Addr) (n c:Nat) (l:List Nat) (hr:Rd W W.heap.size A n (l.map iv)) (hA:0<n→∀ ad,A=some ad→X ad.block) (hn:n≤1000000) (hrow:Row C.ns p done l) (hl:Up.size (Up.kids nd b s l)≤2300000000000):Calls Tryz.prog 104 #[.pointer (some ⟨g,0,none⟩),.string (mkS b),.slice A n c] W fun e W'=>e=.returned (.tuple #[])∧WM W' X g C (Up.kids nd b s l) p B1 (done++l)∧Fr X W W':=by
 have HH:=Lib.hid h
 have HX:=Lib.hid hX
 have HL:=Lib.hid hl
 have HR:=Lib.hid hr
 have HA:=Lib.hid hA
 have hts:l.length=n:=hr.len_map
 clear h hX hl hr hA
 go_enter Tryz.func104,Tryz.ntmps104
 go_wp2_with (go_at_call 32;fail)
 go_loopw [10] (fun i wr=>∃ k:Nat,k≤n∧i=.int .i64 (k:Int)∧WM wr X g C (Up.kids nd b s (l.take k)) p B1 (done++l.take k)∧Fr X W wr) (fun i _=>n-(intOf i).toNat)
 case atStart=>exact⟨0,by omega,rfl,by simpa [Up.kids] using HH.out,Fr.refl _ _⟩
 case round=>
  obtain⟨k,hk,rfl,hm,hf⟩:=hrel
  have HM:=Lib.hid hm
  have HF:=Lib.hid hf
  clear hm hf
  have hk0:(0:Int)≤(k:Int):=by omega
  by_cases hlt:k<n
  ·obtain⟨ad,hl1,rfl,hc⟩:=num_at (rd_fr HR.out HF.out HA.out) hlt
   have hk1:(k:Int)<(n:Int):=by omega
   obtain⟨hkid,hout⟩:=hrow.at_ hl1
   have htk:l.take (k+1)=l.take k++[l[k]]:=List.take_succ_eq_append_getElem hl1
   have hsn:=Up.kids_snoc nd b (l.take k) s l[k]
   rw[←htk] at hsn
   have hle:Up.size (Up.kids nd b s (l.take (k+1)))≤2300000000000:=by
    refine Nat.le_trans ?_ HL.out
    have e1:=Up.kids_le HK.mono b (l.take (k+1)) s (l.drop (k+1))
    rwa[List.take_append_drop] at e1
   obtain⟨x,hx⟩:∃ x,x=l[k]:=⟨_,rfl⟩
   rw[←hx] at hc hkid hout htk hsn
   have hgn:=HM.out.len
   by_cases hz:0<k
   ·have hk2:(0:Int)<(k:Int):=by omega
    have hne:l.take k≠[]:=by
     intro e
     have:(l.take k).length=k:=by rw[List.length_take];omega
     rw[e] at this
     simp at this
     omega
    rw[if_neg hne] at hsn
    rw[hsn] at hle
    have hm1:=HK.mono (Up.put (Up.kids nd b s (l.take k)) b) x
    obtain⟨B2,hm,hd⟩:=HM.out
    have hp:=put_lit hm (HX.out.mono HF.out.size) [b] (by simp) (by have e1:=Up.size_put (Up.kids nd b s (l.take k)) b;have e2:([b]:List (List UInt8)).flatten=b:=(by simp);rw[e2];have e3:Up.size (Up.kids nd b s (l.take k))=(Up.kids nd b s (l.take k)).text.length+(Up.kids nd b s (l.take k)).more.length:=rfl;omega)
    rw[show ([b]:List (List UInt8)).flatten=b by simp] at hp
    have HP:=Lib.hid hp
    have HT:=Lib.hid (And.intro htk (And.intro hsn hle))
    have HD:=Lib.hid hd
    have HQ:=Lib.hid (And.intro hkid hout)
    clear hx hl1 htk hsn hle hkid hout hm hd hp hm1
    go_wp2_with (go_at_call 102;fail)
    refine HP.out.mono ?_
    rintro e w1 ⟨rfl,hm1,hf1⟩
    have hcl:=HK.call x HQ.out.1 w1 X _ B1 _ ⟨B2,hm1,HD.out⟩ ((HX.out.mono HF.out.size).mono hf1.size) HQ.out.2 HT.out.2.2
    have HC:=Lib.hid hcl
    have HF1:=Lib.hid hf1
    clear hm1 hf1 hcl
    go_wp2_with (go_at_call 32;fail)
    (with_reducible refine HC.out.mono ?_)
    rintro e w2 ⟨rfl,hm2,hf2⟩
    have HM2:=Lib.hid hm2
    have HF2:=Lib.hid hf2
    clear hm2 hf2
    go_wp2
    go_roundw
    case rel=>
     refine⟨k+1,by omega,by go_num,?_,HF.out.trans (HF1.out.trans HF2.out)⟩
     rw[HT.out.2.1,HT.out.1,←List.append_assoc]
     exact HM2.out
    case measure=>simp[intOf];omega
   ·have hk2:¬ (0:Int)<(k:Int):=by omega
    have hkz:k=0:=by omega
    have hke:l.take k=[]:=by rw[hkz];rfl
    rw[if_pos hke] at hsn
    rw[hsn] at hle
    have hm0:=HM.out
    rw[hke,List.append_nil] at hm0
    have hcl:=HK.call x hkid wr X s B1 done hm0 (HX.out.mono HF.out.size) (by rw[hke,List.append_nil] at hout;exact hout) hle
    have HKE:=Lib.hid hke
    have HC:=Lib.hid hcl
    have HT:=Lib.hid (And.intro htk hsn)
    clear hx hl1 htk hsn hle hkid hout hcl hkz hke hm0
    go_wp2_with (go_at_call 32;fail)
    (with_reducible refine HC.out.mono ?_)
    rintro e w2 ⟨rfl,hm2,hf2⟩
    have HM2:=Lib.hid hm2
    have HF2:=Lib.hid hf2
    clear hm2 hf2
    go_wp2
    go_roundw
    case rel=>
     refine⟨k+1,by omega,by go_num,?_,HF.out.trans HF2.out⟩
     rw[HT.out.2,HT.out.1,HKE.out]
     exact HM2.out
    case measure=>simp[intOf];omega
  ·have hk1:¬ (k:Int)<(n:Int):=by omega
   have hkn:l.take k=l:=List.take_of_length_le (by omega)
   go_wp2
   go_end0
   rw[hkn] at HM
   exact⟨rfl,HM.out,HF.out⟩
end
end Uw
end Go.Proofs.YtkkchkkpnlnbgaaGreatDoor
namespace Go.Proofs.YtkkchkkpnlnbgaaGreatDoor
open Go.RowKit Go.Maps
namespace Uw
def dgs:ByteArray:=⟨#[48,49,50,51,52,53,54,55,56,57,97,98,99,100,101,102,103,104,105,106,107,108,109,110,111,112,113,114,115,116,117,118,119,120,121,122]⟩
def sms:ByteArray:=⟨#[48,48,48,49,48,50,48,51,48,52,48,53,48,54,48,55,48,56,48,57,49,48,49,49,49,50,49,51,49,52,49,53,49,54,49,55,49,56,49,57,50,48,50,49,50,50,50,51,50,52,50,53,50,54,50,55,50,56,50,57,51,48,51,49,51,50,51,51,51,52,51,53,51,54,51,55,51,56,51,57,52,48,52,49,52,50,52,51,52,52,52,53,52,54,52,55,52,56,52,57,53,48,53,49,53,50,53,51,53,52,53,53,53,54,53,55,53,56,53,57,54,48,54,49,54,50,54,51,54,52,54,53,54,54,54,55,54,56,54,57,55,48,55,49,55,50,55,51,55,52,55,53,55,54,55,55,55,56,55,57,56,48,56,49,56,50,56,51,56,52,56,53,56,54,56,55,56,56,56,57,57,48,57,49,57,50,57,51,57,52,57,53,57,54,57,55,57,56,57,57]⟩
theorem dgs_at:∀ i:_root_.Fin 10,(dgs.extract i.1 (i.1+1)).data.toList=Up.num i.1:=by decide
theorem sms_all:((List.range 100).all fun i=>decide (i<10) || (sms.extract (i*2) (i*2+2)).data.toList==Up.num i)=true:=by kernel_rfl
theorem sms_at (i:Nat) (hi:i<100) (h:¬ i<10):(sms.extract (i*2) (i*2+2)).data.toList=Up.num i:=by
 have:=List.all_eq_true.1 sms_all i (List.mem_range.2 hi)
 simpa [h] using this
theorem itoa_v (i:Nat) (hi:i<100) (w:World):Calls Tryz.prog 122 #[.int .i64 (i:Int)] w fun e w'=>e=.returned (.string (mkS (Up.num i)))∧w'=w:=by
 have h0:(0:Int)≤(i:Int):=by omega
 have h1:(i:Int)<100:=by omega
 go_enter Tryz.func122,Tryz.ntmps122
 by_cases h10:i<10
 ·have h2:(i:Int)<10:=by omega
  have hsl:=run_slice_string (P:=Tryz.prog) w 9 dgs .i64 .i64 (i:Int) ((i:Int)+1) Tryz.underlying9 h0 (by omega) (show (i:Int)+1≤((36:Nat):Int) by omega)
  have he:dgs.extract (i:Int).toNat ((i:Int)+1).toNat=mkS (Up.num i):=by
   rw[show ((i:Int)+1).toNat=i+1 by omega,show (i:Int).toNat=i by omega,←mkS_of (dgs.extract i (i+1)),dgs_at ⟨i,h10⟩]
  rw[he] at hsl
  have HS:=Lib.hid hsl
  clear hsl he
  go_wp2
  have hs2:=HS.out
  unfold dgs at hs2
  rw[hs2]
  clear hs2
  simp only[Result.andThen]
  rw[Oper.upon_value]
  go_wp2
  go_ret
  exact⟨rfl,rfl⟩
 ·have h2:¬ (i:Int)<10:=by omega
  have hsl:=run_slice_string (P:=Tryz.prog) w 9 sms .i64 .i64 ((i:Int)*2) ((i:Int)*2+2) Tryz.underlying9 (by omega) (by omega) (show (i:Int)*2+2≤((200:Nat):Int) by omega)
  have he:sms.extract ((i:Int)*2).toNat ((i:Int)*2+2).toNat=mkS (Up.num i):=by
   rw[show ((i:Int)*2+2).toNat=i*2+2 by omega,show ((i:Int)*2).toNat=i*2 by omega,←mkS_of (sms.extract (i*2) (i*2+2)),sms_at i hi h10]
  rw[he] at hsl
  have HS:=Lib.hid hsl
  clear hsl he
  go_wp2
  have hs2:=HS.out
  unfold sms at hs2
  rw[hs2]
  clear hs2
  simp only[Result.andThen]
  rw[Oper.upon_value]
  go_wp2
  go_ret
  exact⟨rfl,rfl⟩
end Uw
end Go.Proofs.YtkkchkkpnlnbgaaGreatDoor
