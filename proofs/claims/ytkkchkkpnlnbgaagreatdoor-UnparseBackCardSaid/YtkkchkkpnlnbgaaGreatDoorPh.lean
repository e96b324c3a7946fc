/- The writer: within a node's method. No premises. -/
import Derived.Test.YtkkchkkpnlnbgaaGreatDoorPg
set_option maxRecDepth 100000
set_option maxHeartbeats 1600000
namespace Go.Proofs.YtkkchkkpnlnbgaaGreatDoor
open Go.RowKit Go.Maps
open Lx (nl)
open Um (Mid kid)
namespace Uw
structure NodeF (C:WC) (n:Sx.Node) (Aw Ar Ak:Option Addr):Prop where
 w:Rd C.W0 C.W0.heap.size Aw n.words.length (n.words.map sv)
 r:RdR C.W0 C.W0.heap.size Ar n.redirs.length n.redirs
 k:Rd C.W0 C.W0.heap.size Ak n.kids.length (n.kids.map iv)
 sm:Sx.Sm n
 few:n.kids.length≤100000
abbrev nodeA (n:Sx.Node) (Aw Ar Ak:Option Addr) (cw cr ck:Nat) (ln:Int):Array Value:=#[.int .i64 (n.kind:Int),.string (mkS n.text),.bool n.flag,.slice Aw n.words.length cw,.int .i64 (n.sets:Int),.slice Ar n.redirs.length cr,.slice Ak n.kids.length ck,.int .i64 ln]
theorem node_run {w:World} {b o:Nat} {n:Sx.Node} {Aw Ar Ak:Option Addr} {cw cr ck:Nat} {ln:Int} (h:∀ j v,(nodeA n Aw Ar Ak cw cr ck ln)[j]?=some v→w.cell? ⟨b,o+j,none⟩=some v):(Instr.loadAt 37 (.pointer (some ⟨b,o,none⟩))).run Tryz.prog w=.ok (.agg (nodeA n Aw Ar Ak cw cr ck ln)) w:=
 run_loadAt_mid (P:=Tryz.prog) w b o 37 (nodeA n Aw Ar Ak cw cr ck ln).toList _ (fun j v hv=>h j v (by simpa using hv)) Tryz.underlying37 rfl (by kernel_rfl)
structure BX (W0 w:World) (X:Nat→Prop) (g:Nat) (C:WC) (A:Array Value) (b:Nat) (s:Up.S) (p:Nat) (B1:List Bool) (done:List Nat):Prop where
 box:w.heap[b]?=some (.cells A 37 (0,0))
 mem:WM w (plus X [b]) g C s p B1 done
 fr:Fr X W0 w
 xl:XL (plus X [b]) w
section
variable {W0 w w' W W':World} {X:Nat→Prop} {g:Nat} {C:WC} {s s':Up.S} {A:Array Value} {b p:Nat} {B B1:List Bool} {done done':List Nat} {nd:Up.S→Nat→Up.S}
theorem WM.lX (h:WM W X g C s p B1 done):∀ b,b<C.W0.heap.size→X b:=by obtain⟨_,h,_⟩:=h;exact h.lX
theorem WM.low (h:WM W X g C s p B1 done):Later C.W0 W:=by obtain⟨_,h,_⟩:=h;exact h.low
theorem WM.later (h:WM W X g C s p B1 done) (hl:Later W W'):WM W' X g C s p B1 done:=by obtain⟨B,h,hd⟩:=h;exact⟨B,h.later hl,hd⟩
theorem WM.more (h:WM W X g C s p B1 done) (l:List Nat) (hl:∀ b∈l,W.heap.size≤b):WM W (plus X l) g C s p B1 done:=by obtain⟨B,h,hd⟩:=h;exact⟨B,h.more l hl,hd⟩
theorem WM.less {l:List Nat} (h:WM W (plus X l) g C s p B1 done) (hc:∀ b,b<C.W0.heap.size→X b):WM W X g C s p B1 done:=by obtain⟨B,h,hd⟩:=h;exact⟨B,h.less hc,hd⟩
theorem BX.start (h:WM W X g C s p B1 done) (hX:XL X W) (A:Array Value):BX W (W.alloc (.cells A 37)) X g C A W.heap.size s p B1 done:=by
 refine⟨heap_alloc_new W _,(h.more [W.heap.size] (by simp)).later (Later.alloc _ _),Fr.later (Later.alloc _ _),fun b hb=>?_⟩
 rw[World.size_alloc]
 rcases hb with hb | hb
 ·have:=hX b hb;omega
 ·simp at hb;omega
theorem BX.next (h:BX W0 w X g C A b s p B1 done) (hm:WM w' (plus X [b]) g C s' p B1 done') (hf:Fr (plus X [b]) w w'):BX W0 w' X g C A b s' p B1 done':=
 ⟨hf.cells h.box (.inr (by simp)),hm,h.fr.trans hf.less,h.xl.mono hf.size⟩
theorem BX.stop (h:BX W0 w X g C A b s p B1 done) (hc:∀ b,b<C.W0.heap.size→X b):WM w X g C s p B1 done∧Fr X W0 w:=⟨h.mem.less hc,h.fr⟩
theorem BX.cell (h:BX W0 w X g C A b s p B1 done) (i:Nat):w.cell? ⟨b,i,none⟩=A[i]?:=(cell_row h.box i).1
theorem BX.put (h:BX W0 w X g C A b s p B1 done) (ts:List (List UInt8)) (hn:ts.length≤1000) (hl:Up.size s+ts.flatten.length≤20000000000000):Calls Tryz.prog 102 #[.pointer (some ⟨g,0,none⟩),.slice (some ⟨w.heap.size,0,none⟩) ts.length ts.length] (w.alloc (.cells (ts.map sv).toArray 9)) fun e w'=>e=.returned (.tuple #[])∧BX W0 w' X g C A b (Up.put s ts.flatten) p B1 done:=by
 obtain⟨B,hm,hd⟩:=h.mem
 exact(put_lit hm h.xl ts hn (by unfold Up.size at hl;omega)).mono fun e w' ⟨e1,h1,h2⟩=>⟨e1,h.next ⟨B,h1,hd⟩ h2⟩
theorem BX.line (h:BX W0 w X g C A b s p B1 done) (ts:List (List UInt8)) (hn:ts.length≤1000) (hl:Up.size s+ts.flatten.length+1≤20000000000000):Calls Tryz.prog 106 #[.pointer (some ⟨g,0,none⟩),.slice (some ⟨w.heap.size,0,none⟩) ts.length ts.length] (w.alloc (.cells (ts.map sv).toArray 9)) fun e w'=>e=.returned (.tuple #[])∧BX W0 w' X g C A b (Up.line (Up.put s ts.flatten)) p B1 done:=by
 obtain⟨B,hm,hd⟩:=h.mem
 exact(line_lit hm h.xl ts hn hl).mono fun e w' ⟨e1,h1,h2⟩=>⟨e1,h.next ⟨B,h1,hd⟩ h2⟩
theorem BX.nil (h:BX W0 w X g C A b s p B1 done) (hl:Up.size s+1≤20000000000000):Calls Tryz.prog 106 #[.pointer (some ⟨g,0,none⟩),.slice none 0 0] w fun e w'=>e=.returned (.tuple #[])∧BX W0 w' X g C A b (Up.line s) p B1 done:=by
 obtain⟨B,hm,hd⟩:=h.mem
 exact(line_nil hm h.xl hl).mono fun e w' ⟨e1,h1,h2⟩=>⟨e1,h.next ⟨B,h1,hd⟩ h2⟩
theorem low_rd {n:Nat} {Ak:Option Addr} {xs:List Value} (hr:Rd C.W0 C.W0.heap.size Ak n xs) (hl:Later C.W0 W) (hX:∀ b,b<C.W0.heap.size→X b):Rd W W.heap.size Ak n xs∧(0<n→∀ ad,Ak=some ad→X ad.block):=by
 refine⟨(hr.below hl).more hl.size,fun h0 ad e=>?_⟩
 obtain⟨ad',e',hb,_⟩:=hr.2 h0
 rw[e'] at e
 injection e with e
 subst e
 exact hX _ hb
theorem low_rdr {n:Nat} {Ak:Option Addr} {xs:List Sx.Arw} (hr:RdR C.W0 C.W0.heap.size Ak n xs) (hl:Later C.W0 W) (hX:∀ b,b<C.W0.heap.size→X b):RdR W W.heap.size Ak n xs∧(0<n→∀ ad,Ak=some ad→X ad.block):=by
 refine⟨(hr.below hl).more hl.size,fun h0 ad e=>?_⟩
 obtain⟨b,e',hb,_⟩:=hr.2 0 (by rw[hr.1];exact h0)
 rw[e'] at e
 injection e with e
 subst e
 exact hX _ hb
variable {n:Sx.Node} {Aw Ar Ak:Option Addr} {cw cr ck:Nat} {ln:Int}
theorem BX.row (h:BX W0 w X g C A b s p B1 done) (hF:NodeF C n Aw Ar Ak) (HK:Kids g C nd p) (t:List UInt8) (hrow:Row C.ns p done n.kids) (hl:Up.size (Up.kids nd t s n.kids)≤2300000000000) (ck:Nat):Calls Tryz.prog 104 #[.pointer (some ⟨g,0,none⟩),.string (mkS t),.slice Ak n.kids.length ck] w fun e w'=>e=.returned (.tuple #[])∧BX W0 w' X g C A b (Up.kids nd t s n.kids) p B1 (done++n.kids):=by
 have h1:=low_rd hF.k h.mem.low h.mem.lX
 have:=hF.few
 exact(row_v HK h.mem h.xl t Ak n.kids.length ck n.kids h1.1 h1.2 (by omega) hrow hl).mono fun e w' ⟨e1,h1,h2⟩=>⟨e1,h.next h1 h2⟩
theorem BX.list (h:BX W0 w X g C A b s p B1 done) (hF:NodeF C n Aw Ar Ak) (HK:Kids g C nd p) (hrow:Row C.ns p done n.kids) (hl:Up.size (Up.lines nd s n.kids)≤2300000000000) (ck:Nat):Calls Tryz.prog 105 #[.pointer (some ⟨g,0,none⟩),.slice Ak n.kids.length ck] w fun e w'=>e=.returned (.tuple #[])∧BX W0 w' X g C A b (Up.lines nd s n.kids) p B1 (done++n.kids):=by
 have h1:=low_rd hF.k h.mem.low h.mem.lX
 have:=hF.few
 exact(list_v HK h.mem h.xl Ak n.kids.length ck n.kids h1.1 h1.2 (by omega) hrow hl).mono fun e w' ⟨e1,h1,h2⟩=>⟨e1,h.next h1 h2⟩
theorem kid_v (h:WM W X g C s p B1 done) (hX:XL X W) (hF:NodeF C n Aw Ar Ak) (HK:Kids g C nd p) (i:Nat) (hi:i<n.kids.length) (hk:kid C.ns p n.kids[i]) (hd:n.kids[i]∉done) (hl:Up.size (nd s n.kids[i])≤2300000000000):Calls Tryz.prog 107 #[.pointer (some ⟨g,0,none⟩),.agg (nodeA n Aw Ar Ak cw cr ck ln),.int .i64 (i:Int)] W fun e W'=>e=.returned (.tuple #[])∧WM W' X g C (nd s n.kids[i]) p B1 (done++[n.kids[i]])∧Fr X W W':=by
 have hb:=BX.start h hX (nodeA n Aw Ar Ak cw cr ck ln)
 have c6:(W.alloc (.cells (nodeA n Aw Ar Ak cw cr ck ln) 37)).cell? ⟨W.heap.size,6,none⟩=some (.slice Ak n.kids.length ck):=hb.cell 6
 have h1:=low_rd hF.k hb.mem.low hb.mem.lX
 obtain⟨ad,hl1,e,hc⟩:=num_at h1.1 hi
 subst e
 have hfew:=hF.few
 obtain⟨x,hx⟩:∃ x,x=n.kids[i]:=⟨_,rfl⟩
 rw[←hx] at hc hk hd hl⊢
 have HC:=Lib.hid (HK.call x hk _ _ s B1 done hb.mem hb.xl hd hl)
 have HB:=Lib.hid hb
 have HLX:=Lib.hid h.lX
 have hi0:(0:Int)≤(i:Int):=by omega
 have hi1:(i:Int)<(n.kids.length:Int):=by omega
 have hic:((i:Int)<((n.kids.length:Nat):Int))=True:=by simp;omega
 clear h hX hb h1 hx hl1
 go_enter Tryz.func107,Tryz.ntmps107
 go_wp2_with (go_at_call 32;fail)
 (with_reducible refine HC.out.mono ?_)
 rintro e w1 ⟨rfl,hm1,hf1⟩
 have hn:=HB.out.next hm1 hf1
 have HN:=Lib.hid hn
 clear hm1 hf1 hn
 go_wp2
 go_end0
 exact⟨rfl,HN.out.stop HLX.out⟩
end
end Uw
end Go.Proofs.YtkkchkkpnlnbgaaGreatDoor
namespace Go.Proofs.YtkkchkkpnlnbgaaGreatDoor
open Go.RowKit Go.Maps
open Lx (nl)
open Um (Mid kid)
namespace Uw
def spaced (rs:List Sx.Arw):List UInt8:=rs.flatMap fun x=>32::txt x
theorem pend_cons (x:Sx.Arw) (rs:List Sx.Arw):pend (x::rs)=(if x.op=[60,60] then flatB x else [])++pend rs:=by
 unfold pend flat
 by_cases e:x.op=[60,60]
 ·rw[if_pos e];simp[e]
 ·rw[if_neg e];simp[e]
theorem behind_eq:∀ (rs:List Sx.Arw) (s:Up.S),Up.behind s rs=⟨s.text++spaced rs,s.more++pend rs⟩
 | [],s=>by simp[Up.behind,spaced,pend,flat]
 | x::rs,s=>by
  rw[Up.behind,behind_eq rs,pend_cons]
  unfold Up.redir Up.put
  by_cases e:x.op=[60,60]
  ·rw[if_pos e,if_pos e]
   simp[spaced,txt,flatB,e]
  ·rw[if_neg e,if_neg e]
   simp[spaced,txt]
theorem spaced_take (rs:List Sx.Arw) (k:Nat) (hk:k<rs.length):spaced (rs.take (k+1))=spaced (rs.take k)++32::txt rs[k]:=by
 unfold spaced
 rw[List.take_succ_eq_append_getElem hk,List.flatMap_append]
 simp
theorem spaced_le (rs:List Sx.Arw) (k:Nat):(spaced (rs.take k)).length≤(spaced rs).length:=by
 have e:spaced rs=spaced (rs.take k)++spaced (rs.drop k):=by unfold spaced;rw[←List.flatMap_append,List.take_append_drop]
 rw[e,List.length_append]
 omega
section
variable {W0 w w' W W':World} {X:Nat→Prop} {g:Nat} {C:WC} {s s':Up.S} {A:Array Value} {b p:Nat} {B B1:List Bool} {done done':List Nat} {nd:Up.S→Nat→Up.S} {n:Sx.Node} {Aw Ar Ak:Option Addr} {cw cr ck:Nat} {ln:Int}
theorem wm_at {Y:Nat→Prop} {A5:Option Addr} {m k5 base:Nat} {xs:List Value} (ho:w.ownsRow base 9 1 (.slice A5 m k5) m xs):Rd w w.heap.size A5 m xs∧(0<m→∀ ad,A5=some ad→plus Y (Value.slice A5 m k5).ownBlock.toList ad.block):=by
 refine⟨Rd.of_own ho,fun h0 ad e=>?_⟩
 rcases ho.2 with⟨e1,e2⟩ | ⟨g',cap,cur,e1,_⟩
 ·omega
 ·injection e1 with e1 _ _
  subst e1
  injection e with e
  subst e
  exact .inr (by simp[Value.ownBlock])
theorem end_v (h:WM W X g C s p B1 done) (hX:XL X W) (hF:NodeF C n Aw Ar Ak) (t:List UInt8) (hl:Up.size (Up.behind (Up.put s t) n.redirs)≤2300000000000):Calls Tryz.prog 109 #[.pointer (some ⟨g,0,none⟩),.agg (nodeA n Aw Ar Ak cw cr ck ln),.string (mkS t)] W fun e W'=>e=.returned (.tuple #[])∧WM W' X g C (Up.behind (Up.put s t) n.redirs) p B1 done∧Fr X W W':=by
 have hb:=BX.start h hX (nodeA n Aw Ar Ak cw cr ck ln)
 have hbe:=behind_eq n.redirs (Up.put s t)
 rw[hbe] at hl
 have hsz:(s.text++t).length+(spaced n.redirs).length+(s.more.length+(pend n.redirs).length)≤2300000000000:=by
  unfold Up.size Up.put at hl
  simp only[List.length_append] at hl⊢
  omega
 have hss:=hsz
 rw[List.length_append] at hss
 have hp1:=hb.put [t] (by simp) (by unfold Up.size;simp only[List.flatten_cons,List.flatten_nil,List.append_nil];omega)
 rw[show ([t]:List (List UInt8)).flatten=t by simp,World.size_alloc] at hp1
 have HP1:=Lib.hid hp1
 have HSZ:=Lib.hid hsz
 have HBE:=Lib.hid hbe
 have HLX:=Lib.hid h.lX
 have hrn:n.redirs.length≤5000:=by have:=hF.sm.r;omega
 clear h hX hb hl hsz hss hbe hp1
 go_enter Tryz.func109,Tryz.ntmps109
 go_wp2_with (go_at_call 102;fail)
 refine HP1.out.mono ?_
 rintro e w1 ⟨rfl,h1⟩
 have c5:w1.cell? ⟨W.heap.size,5,none⟩=some (.slice Ar n.redirs.length cr):=h1.cell 5
 obtain⟨B,hm1,hd1⟩:=h1.mem
 have hlr:=low_rdr hF.r h1.mem.low h1.mem.lX
 have hrd:=redirs_v hm1 h1.xl Ar n.redirs.length cr n.redirs hlr.1 hlr.2 (by omega) (fun x hx=>hF.sm.rs x hx) (by have:=HSZ.out;unfold Up.size Up.put;simp only[List.length_append] at this⊢;omega)
 have HRD:=Lib.hid hrd
 have H1:=Lib.hid h1
 have HD1:=Lib.hid hd1
 clear h1 hm1 hd1 hlr hrd HP1
 go_wp2_with (go_at_call 101;fail)
 (with_reducible refine HRD.out.mono ?_)
 rintro e w2 ⟨vt,rfl,ho2,hm2,hf2⟩
 obtain⟨A5,k5,rfl,_⟩:=own_any ho2
 have HO2:=Lib.hid ho2
 have HM2:=Lib.hid hm2
 have HF2:=Lib.hid hf2
 have hxl2:XL (plus (plus X [W.heap.size]) (Value.slice A5 n.redirs.length k5).ownBlock.toList) w2:=fun b hb=>by
  rcases hb with hb | hb
  ·exact Nat.lt_of_lt_of_le (H1.out.xl b hb) hf2.size
  ·cases e:(Value.slice A5 n.redirs.length k5).ownBlock with
   | none=>rw[e] at hb;simp at hb
   | some b'=>rw[e] at hb;have e2:b=b':=(by simpa using hb);rw[e2];exact(ho2.lt b' e).2
 have HXL2:=Lib.hid hxl2
 obtain⟨rs,hrs⟩:∃ rs,rs=n.redirs:=⟨_,rfl⟩
 obtain⟨m,hm⟩:∃ m,m=n.redirs.length:=⟨_,rfl⟩
 have hrm:rs.length=m:=by rw[hrs,hm]
 rw[←hm] at hrn
 rw[←hm,←hrs] at HO2
 rw[←hm,←hrs] at HM2
 rw[←hm] at HXL2
 rw[←hrs] at HSZ HBE
 rw[←hm]
 clear ho2 hm2 hf2 HRD c5 hxl2
 go_wp2
 go_loopw [17] (fun i wr=>∃ k:Nat,k≤m∧i=.int .i64 (k:Int)∧WMem wr (plus (plus X [W.heap.size]) (Value.slice A5 m k5).ownBlock.toList) g C ⟨s.text++t++spaced (rs.take k),s.more++pend rs⟩ B∧Fr (plus (plus X [W.heap.size]) (Value.slice A5 m k5).ownBlock.toList) w2 wr) (fun i _=>m-(intOf i).toNat)
 case atStart=>exact⟨0,by omega,rfl,by simpa [Up.put,spaced,wait] using HM2.out,Fr.refl _ _⟩
 case round=>
  obtain⟨k,hk,rfl,hm,hf⟩:=hrel
  have HM:=Lib.hid hm
  have HF:=Lib.hid hf
  clear hm hf
  have hk0:(0:Int)≤(k:Int):=by omega
  have hwa:=wm_at (Y:=plus X [W.heap.size]) HO2.out
  by_cases hlt:k<m
  ·obtain⟨ad,hl1,rfl,_,hc⟩:=(rd_fr hwa.1 HF.out hwa.2).at_map (k:=k) hlt
   have hk1:(k:Int)<(m:Int):=by omega
   have htk:=spaced_take rs k (by omega)
   have hle:=spaced_le rs (k+1)
   obtain⟨x,hx⟩:∃ x,x=rs[k]:=⟨_,rfl⟩
   have hc1:wr.cell? (ad.add k)=some (.string (mkS (txt x))):=by rw[hx];exact hc
   rw[←hx] at htk
   rw[htk,List.length_append,List.length_cons] at hle
   have hp:=put_lit HM.out (HXL2.out.mono HF.out.size) [[32],txt x] (by simp) (by have:=HSZ.out;simp only[List.flatten_cons,List.flatten_nil,List.append_nil,List.length_append,List.length_cons,List.length_nil] at this⊢;omega)
   have HP:=Lib.hid hp
   have HT:=Lib.hid htk
   clear hc hwa hle hp hx hl1 htk
   go_wp2_with (go_at_call 102;fail)
   refine HP.out.mono ?_
   rintro e w3 ⟨rfl,hm3,hf3⟩
   have HM3:=Lib.hid hm3
   have HF3:=Lib.hid hf3
   clear hm3 hf3
   go_wp2
   go_roundw
   case rel=>
    refine⟨k+1,by omega,by go_num,?_,HF.out.trans HF3.out⟩
    rw[HT.out]
    have:=HM3.out
    simpa [Up.put] using this
   case measure=>simp[intOf];omega
  ·have hk1:¬ (k:Int)<(m:Int):=by omega
   have hkn:rs.take k=rs:=List.take_of_length_le (by omega)
   clear hwa
   go_wp2
   go_end0
   rw[hkn] at HM
   have hq:=H1.out.next ⟨B,(HM.out.less (fun b hb=>.inl (HLX.out b hb))),HD1.out⟩ (HF2.out.trans HF.out.less)
   rw[hrs] at hq
   have hq2:=hq.stop HLX.out
   rw[←hrs] at hq2⊢
   rw[HBE.out]
   exact⟨rfl,hq2⟩
theorem kind_w {k:Nat} (h:WMem W X g C s B) (hr:RdN C.W0 C.A C.ns.length C.ns) (hk:k<C.ns.length) (hn:C.ns.length≤100000):Calls Tryz.prog 82 #[.pointer (some ⟨g,0,none⟩),.int .i64 (k:Int)] W fun e W'=>e=.returned (.int .i64 (C.ns[k].kind:Int))∧W'=W:=by
 obtain⟨vh,H,pa,vb,hm⟩:=h
 obtain⟨⟨c0,c1,c2,c3,c4,c5⟩,hz⟩:=hm.facts
 obtain⟨ga,A1,A2,A3,q1,q2,q3,ln,ea,hn1⟩:=(hr.later hm.low).2 k hk
 have hk0:=hn1.c0
 have hq0:¬ (k:Int)<0:=by omega
 have hq1:(k:Int)<(C.ns.length:Int):=by omega
 have hq2:¬ (C.ns.length:Int)≤(k:Int):=by omega
 have hq3:(0:Int)≤(k:Int):=by omega
 rw[ea] at c0
 obtain⟨N,hN⟩:∃ N,N=C.ns.length:=⟨_,rfl⟩
 rw[←hN] at hq1 hq2 c0 hn hk
 obtain⟨z,hz2⟩:∃ z:Int,z=(C.ns[k].kind:Int):=⟨_,rfl⟩
 rw[←hz2] at hk0⊢
 clear hn1 hr hm hN hz2
 go_enter Tryz.func82,Tryz.ntmps82
 go_wp2
 go_ret
 exact⟨rfl,rfl⟩
theorem kind_v {k:Nat} (h:WM W X g C s p B1 done) (hr:RdN C.W0 C.A C.ns.length C.ns) (hk:k<C.ns.length) (hn:C.ns.length≤100000):Calls Tryz.prog 82 #[.pointer (some ⟨g,0,none⟩),.int .i64 (k:Int)] W fun e W'=>e=.returned (.int .i64 (C.ns[k].kind:Int))∧W'=W:=by
 obtain⟨B,h,_⟩:=h
 exact kind_w h hr hk hn
end
end Uw
end Go.Proofs.YtkkchkkpnlnbgaaGreatDoor
