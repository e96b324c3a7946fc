/- Join: texts with a text between. No premises. -/
import Derived.Test.YtkkchkkpnlnbgaaGreatDoorPi
import Derived.Test.YtkkchkkpnlnbgaaGreatDoorShelf
set_option maxRecDepth 100000
set_option maxHeartbeats 1600000
namespace Go.Proofs.YtkkchkkpnlnbgaaGreatDoor
open Go.RowKit Go.Maps
namespace Uw
theorem join_words (b:List UInt8):∀ l:List (List UInt8),Lib.join l b=Up.words b l
 | []=>rfl
 | [w]=>by simp[Lib.join,Up.words]
 | w::v::l=>by
  have:=join_words b (v::l)
  simp[Lib.join,Up.words] at this⊢
  exact this
theorem join_v {W:World} {A:Option Addr} {n c:Nat} (ts:List (List UInt8)) (b:List UInt8) (hr:Rd W W.heap.size A n (ts.map sv)) (hc:n≤c) (hn:n≤1000000) (hl:(Up.words b ts).length≤20000000000000):Calls Tryz.prog 103 #[.slice A n c,.string (mkS b)] W fun e W'=>e=.returned (.string (mkS (Up.words b ts)))∧Later W W':=by
 have hts:ts.length=n:=hr.len_map
 rcases Nat.eq_zero_or_pos n with h0 | h0
 ·subst h0
  have e:ts=[]:=List.eq_nil_of_length_eq_zero hts
  subst e
  refine(Tryz.strings_Join_none A c (mkS b) W).mono ?_
  rintro e w' ⟨rfl,rfl⟩
  exact⟨rfl,Later.refl _⟩
 ·obtain⟨ad,rfl,hb,hcell⟩:=hr.2 h0
  have hsp:ad.spot=none:=by
   have h1:=hcell 0 _ (by rw[List.getElem?_map,List.getElem?_eq_getElem (by omega)];rfl)
   have:=World.cell?_spot h1
   unfold Addr.add at this
   simpa using this
  obtain⟨bk,o,sp⟩:=ad
  simp only at hsp
  subst hsp
  have hxl:(ts.map mkS).length=n:=by rw[List.length_map,hts]
  have hmap:(ts.map mkS).map (·.data.toList)=ts:=by rw[List.map_map];exact(List.map_congr_left fun x _=>mkS_list x).trans (List.map_id ts)
  have hlen:(Lib.join ((ts.map mkS).map (·.data.toList)) (mkS b).data.toList).length≤140737488355328:=by rw[hmap,mkS_list,join_words];omega
  have hj:=Tryz.strings_Join bk o c (ts.map mkS) (mkS b) W (fun j x hx=>by
   have h1:=hcell j (.string x) (by
    rw[List.getElem?_map] at hx⊢
    cases e:ts[j]? with
    | none=>rw[e] at hx;cases hx
    | some y=>rw[e] at hx;simp only[Option.map_some,Option.some.injEq] at hx⊢;rw[←hx];rfl)
   exact cell_add h1) hb (by omega) (by omega) hlen
  rw[hxl,hmap,mkS_list,join_words] at hj
  exact hj
end Uw
end Go.Proofs.YtkkchkkpnlnbgaaGreatDoor
namespace Go.Proofs.YtkkchkkpnlnbgaaGreatDoor
open Go.RowKit Go.Maps
open Lx (nl)
open Um (Mid kid)
theorem wp_callN {P:Program} {o:Oper} {a:Act} {w:World} {K:Act→World→Prop} {Q:Exit→Act→World→Prop} (f:FuncId) (xs:Array Operand) (ats:Array TypeId) (vals:Array Value) (hop:o.op=.call { callee:=.value (.func f),args:=xs,argTypes:=ats }) (hρ:a.eval (.func f)=.func (.func f) #[] #[]) (hv:xs.map a.eval=vals) (hent:∀ args w,(callFunc f args).run P w=.ok (.enter f args) w)
  (h:Calls P f vals w fun e w'=>∃ v,e=.returned v∧K (a.put o.dst v) w'):Oper.wp P o a w K Q:=by
 have e1:execOp a.eval o=callFunc f vals:=by
  subst hv
  unfold execOp
  simp[hop,resolve,Deferred.ofValue,invoke,hρ]
 unfold Oper.wp
 rw[e1,hent]
 refine h.mono fun e w' hh=>?_
 obtain⟨v,rfl,hk⟩:=hh
 exact hk
namespace Uw
theorem words_app (b:List UInt8) (w:List UInt8) (l:List (List UInt8)) (h:l≠[]):Up.words b (w::l)=w++b++Up.words b l:=by
 cases l with
 | nil=>exact absurd rfl h
 | cons v l=>rfl
theorem simple_eq (ws:List (List UInt8)):∀ (rs:List Sx.Arw) (s:Up.S),Up.put (Up.redirs (decide (ws≠[])) s rs) (Up.words [32] ws)=⟨s.text++Up.words [32] (rs.map txt++ws),s.more++pend rs⟩
 | [],s=>by simp[Up.redirs,Up.put,pend,flat]
 | [x],s=>by
  have hp:=pend_cons x []
  rw[hp]
  by_cases hw:ws=[]
  ·subst hw
   unfold Up.redirs Up.redir Up.put
   by_cases e:x.op=[60,60]
   ·rw[if_pos e];simp[Up.words,txt,flatB,e,pend,flat]
   ·rw[if_neg e];simp[Up.words,txt,e,pend,flat]
  ·have e2:decide (ws≠[])=true:=by simpa using hw
   rw[e2,List.map_cons,List.map_nil,List.singleton_append,words_app _ _ _ hw]
   unfold Up.redirs Up.redir Up.put
   by_cases e:x.op=[60,60]
   ·rw[if_pos e,if_pos e];simp[txt,flatB,e,pend,flat]
   ·rw[if_neg e,if_neg e];simp[txt,pend,flat]
 | x::y::rs,s=>by
  have hne:(y::rs).map txt++ws≠[]:=by simp
  show Up.put (Up.redirs (decide (ws≠[])) (Up.put (Up.redir s x) [32]) (y::rs)) (Up.words [32] ws)=(⟨s.text++Up.words [32] (txt x::((y::rs).map txt++ws)),s.more++pend (x::y::rs)⟩:Up.S)
  rw[simple_eq ws (y::rs),pend_cons x (y::rs),words_app _ _ _ hne]
  generalize Up.words [32] ((y::rs).map txt++ws)=Wd
  unfold Up.redir Up.put
  by_cases e:x.op=[60,60]
  ·rw[if_pos e,if_pos e];simp[txt,flatB,e]
  ·rw[if_neg e,if_neg e];simp[txt]
section
variable {W0 w w' W W':World} {X:Nat→Prop} {g:Nat} {C:WC} {s s':Up.S} {A:Array Value} {b p:Nat} {B B1:List Bool} {done done':List Nat} {nd:Up.S→Nat→Up.S} {n:Sx.Node} {Aw Ar Ak:Option Addr} {cw cr ck:Nat} {ln:Int}
theorem pipeN_v (h:WM W X g C s p B1 done) (hX:XL X W) (hF:NodeF C n Aw Ar Ak) (HK:Kids g C nd p) (hrow:Row C.ns p done n.kids) (hfl:n.flag=true) (hl:Up.size (Up.kids nd [32,124,32] (Up.put s [33,32]) n.kids)≤2300000000000):Calls Tryz.prog 70 #[.pointer (some ⟨g,0,none⟩),.agg (nodeA n Aw Ar Ak cw cr ck ln)] W fun e W'=>e=.returned (.tuple #[])∧WM W' X g C (Up.kids nd [32,124,32] (Up.put s [33,32]) n.kids) p B1 (done++n.kids)∧Fr X W W':=by
 have HLX:=Lib.hid h.lX
 have hb:=BX.start h hX (nodeA n Aw Ar Ak cw cr ck ln)
 have c2:(W.alloc (.cells (nodeA n Aw Ar Ak cw cr ck ln) 37)).cell? ⟨W.heap.size,2,none⟩=some (.bool true):=(hb.cell 2).trans (congrArg (fun z=>some (Value.bool z)) hfl)
 have hs1:([[33,32]]:List (List UInt8)).flatten=[33,32]:=rfl
 have z1:=Up.size_put s [33,32]
 have z2:=Up.mono_kids HK.mono [32,124,32] n.kids (Up.put s [33,32])
 have hc:=hb.put [[33,32]] (by simp) (by rw[hs1];omega)
 rw[World.size_alloc] at hc
 have HC0:=Lib.hid hc
 clear hc hb h hX
 go_enter Tryz.func70,Tryz.ntmps70
 go_wp2_with (go_at_call 102;fail)
 refine HC0.out.mono ?_
 rintro e w1 ⟨rfl,h1⟩
 have H1:=Lib.hid h1
 clear h1 HC0
 have hc:=H1.out.row hF HK [32,124,32] hrow hl ck
 have HC1:=Lib.hid hc
 have c1_6:w1.cell? ⟨W.heap.size,6,none⟩=some (.slice Ak n.kids.length ck):=H1.out.cell 6
 clear hc
 go_wp2_with (go_at_call 104;fail)
 refine HC1.out.mono ?_
 rintro e w2 ⟨rfl,h2⟩
 have H2:=Lib.hid h2
 clear h2 HC1 c1_6
 go_wp2
 go_end0
 exact⟨rfl,H2.out.stop HLX.out⟩
theorem pipe_v (h:WM W X g C s p B1 done) (hX:XL X W) (hF:NodeF C n Aw Ar Ak) (HK:Kids g C nd p) (hrow:Row C.ns p done n.kids) (hfl:n.flag=false) (hl:Up.size (Up.kids nd [32,124,32] s n.kids)≤2300000000000):Calls Tryz.prog 70 #[.pointer (some ⟨g,0,none⟩),.agg (nodeA n Aw Ar Ak cw cr ck ln)] W fun e W'=>e=.returned (.tuple #[])∧WM W' X g C (Up.kids nd [32,124,32] s n.kids) p B1 (done++n.kids)∧Fr X W W':=by
 have HLX:=Lib.hid h.lX
 have hb:=BX.start h hX (nodeA n Aw Ar Ak cw cr ck ln)
 have c2:(W.alloc (.cells (nodeA n Aw Ar Ak cw cr ck ln) 37)).cell? ⟨W.heap.size,2,none⟩=some (.bool false):=(hb.cell 2).trans (congrArg (fun z=>some (Value.bool z)) hfl)
 have hs1:([[33,32]]:List (List UInt8)).flatten=[33,32]:=rfl
 have z1:=Up.size_put s [33,32]
 have z2:=Up.mono_kids HK.mono [32,124,32] n.kids s
 have hc:=hb.row hF HK [32,124,32] hrow hl ck
 have HC0:=Lib.hid hc
 have c0_6:(W.alloc (.cells (nodeA n Aw Ar Ak cw cr ck ln) 37)).cell? ⟨W.heap.size,6,none⟩=some (.slice Ak n.kids.length ck):=hb.cell 6
 clear hc hb h hX
 go_enter Tryz.func70,Tryz.ntmps70
 go_wp2_with (go_at_call 104;fail)
 refine HC0.out.mono ?_
 rintro e w1 ⟨rfl,h1⟩
 have H1:=Lib.hid h1
 clear h1 HC0 c0_6
 go_wp2
 go_end0
 exact⟨rfl,H1.out.stop HLX.out⟩
theorem item_v (h:WM W X g C s p B1 done) (hX:XL X W) (hF:NodeF C n Aw Ar Ak) (hcw:n.words.length≤cw) (HK:Kids g C nd p) (a:Nat) (hk:n.kids=[a]) (hrow:Row C.ns p done n.kids) (hl:Up.size (Up.line (Up.put (Up.part nd s ([40]++Up.words [124] n.words++[41]) a) [59,59]))≤2300000000000):Calls Tryz.prog 78 #[.pointer (some ⟨g,0,none⟩),.agg (nodeA n Aw Ar Ak cw cr ck ln)] W fun e W'=>e=.returned (.tuple #[])∧WM W' X g C (Up.line (Up.put (Up.part nd s ([40]++Up.words [124] n.words++[41]) a) [59,59])) p B1 (done++n.kids)∧Fr X W W':=by
 have HLX:=Lib.hid h.lX
 have hb:=BX.start h hX (nodeA n Aw Ar Ak cw cr ck ln)
 have z1:=mono_line s ([40]++Up.words [124] n.words++[41])
 have z2:=HK.mono (Up.line (Up.put s ([40]++Up.words [124] n.words++[41]))) a
 have hl2:Up.size (Up.line (Up.put (nd (Up.line (Up.put s ([40]++Up.words [124] n.words++[41]))) a) [59,59]))≤2300000000000:=hl
 have z3:=mono_line (nd (Up.line (Up.put s ([40]++Up.words [124] n.words++[41]))) a) [59,59]
 rw[z3] at hl2
 have hwl:(Up.words [124] n.words).length≤20000000000000:=by simp only[List.length_append] at z1;omega
 have hs1:([[40],Up.words [124] n.words,[41]]:List (List UInt8)).flatten=[40]++Up.words [124] n.words++[41]:=by simp
 obtain⟨w1,hw1⟩:∃ w1,w1=W.alloc (.cells (nodeA n Aw Ar Ak cw cr ck ln) 37):=⟨_,rfl⟩
 rw[←hw1] at hb
 have hrd:=low_rd hF.w hb.mem.low hb.mem.lX
 have hnw:n.words.length≤5000:=by have:=hF.sm.w;omega
 have HJ:=Lib.hid (join_v (W:=w1) (c:=cw) n.words [124] hrd.1 hcw (by omega) hwl)
 have c3:w1.cell? ⟨W.heap.size,3,none⟩=some (.slice Aw n.words.length cw):=hb.cell 3
 have H0:=Lib.hid hb
 have HW1:=Lib.hid hw1
 have HZ:=Lib.hid (And.intro z1 (And.intro z2 hl2))
 clear hb h hX hrd hwl z1 z2 z3 hl hl2
 go_enter Tryz.func78,Tryz.ntmps78
 rw[hw1] at c3 HJ
 clear hw1
 go_wp2_with (go_at_call 103;fail)
 refine HJ.out.mono ?_
 rintro e w2 ⟨rfl,hl2⟩
 rw[←HW1.out] at hl2
 have hb2:=H0.out.next (H0.out.mem.later hl2) (Fr.later hl2)
 have hc:=hb2.line [[40],Up.words [124] n.words,[41]] (by simp) (by rw[hs1];have:=HZ.out;omega)
 have HC:=Lib.hid hc
 have H2:=Lib.hid hb2
 clear hl2 hb2 hc c3 HJ
 go_wp2_with (go_at_call 106;fail)
 refine HC.out.mono ?_
 rintro e w3 ⟨rfl,h3⟩
 rw[hs1] at h3
 have hc:=h3.kid hF HK 0 a (by rw[hk];rfl) (hrow.kid a (by rw[hk];simp)) (hrow.out a (by rw[hk];simp)) (by have:=HZ.out;omega)
 have HC2:=Lib.hid hc
 have HLD:=Lib.hid h3.load
 clear h3 hc HC
 go_wp2_with (first
  |(refine wpList_loadRun rfl 37 (.tmp 3) rfl (.pointer (some ⟨W.heap.size,0,none⟩)) (.agg (nodeA n Aw Ar Ak cw cr ck ln)) rfl HLD.out ?_)
  |(go_at_call 107;fail))
 refine HC2.out.mono ?_
 rintro e w4 ⟨rfl,h4⟩
 have hc:=h4.line [[59,59]] (by simp) (by have:=HZ.out;simp only[List.flatten_cons,List.flatten_nil,List.append_nil,List.length_cons,List.length_nil] at this⊢;omega)
 have HC3:=Lib.hid hc
 clear h4 hc HC2
 go_wp2_with (go_at_call 106;fail)
 refine HC3.out.mono ?_
 rintro e w5 ⟨rfl,h5⟩
 have H5:=Lib.hid h5
 clear h5 HC3
 go_wp2
 go_end0
 rw[hk]
 exact⟨rfl,H5.out.stop HLX.out⟩
theorem simple_v (h:WM W X g C s p B1 done) (hX:XL X W) (hF:NodeF C n Aw Ar Ak) (hl:Up.size (Up.put (Up.redirs (decide (n.words≠[])) s n.redirs) (Up.words [32] n.words))≤2300000000000):Calls Tryz.prog 69 #[.pointer (some ⟨g,0,none⟩),.agg (nodeA n Aw Ar Ak cw cr ck ln)] W fun e W'=>e=.returned (.tuple #[])∧WM W' X g C (Up.put (Up.redirs (decide (n.words≠[])) s n.redirs) (Up.words [32] n.words)) p B1 done∧Fr X W W':=by
 rw[simple_eq] at hl⊢
 have HLX:=Lib.hid h.lX
 have hb:=BX.start h hX (nodeA n Aw Ar Ak cw cr ck ln)
 obtain⟨ts,hts⟩:∃ ts,ts=n.redirs.map txt++n.words:=⟨_,rfl⟩
 rw[←hts] at hl⊢
 have hsz:s.text.length+(Up.words [32] ts).length+(s.more.length+(pend n.redirs).length)≤2300000000000:=by unfold Up.size at hl;simpa using hl
 obtain⟨i0,hi,hz0,hz1,hz2⟩:=info_parts info_string3
 obtain⟨w1,hw1⟩:∃ w1,w1=W.alloc (.cells (nodeA n Aw Ar Ak cw cr ck ln) 37):=⟨_,rfl⟩
 rw[←hw1] at hb
 have hnw:n.words.length≤5000:=by have:=hF.sm.w;omega
 have hnr:n.redirs.length≤5000:=by have:=hF.sm.r;omega
 have hw1s:W.heap.size<w1.heap.size:=by rw[hw1,World.size_alloc];omega
 obtain⟨B,hmB,hdB⟩:=hb.mem
 have hmd:=hmB.later (Later.drew w1)
 have hlr:=low_rdr hF.r hmd.low hmd.lX
 have hred:=redirs_v hmd (hb.xl.mono (Nat.le_refl _)) Ar n.redirs.length cr n.redirs hlr.1 hlr.2 (by omega) (fun x hx=>hF.sm.rs x hx) (by unfold Up.size;omega)
 let P1:Value→World→Prop:=fun vt w'=>w'.ownsRow w1.heap.size 9 1 vt n.redirs.length (n.redirs.map tsv)∧WMem w' (plus (plus X [W.heap.size]) vt.ownBlock.toList) g C (wait s (pend n.redirs)) B∧Fr (plus X [W.heap.size]) w1 w'
 let P2:Value→World→Prop:=fun v w'=>w'.ownsRow w1.heap.size 9 1 v ts.length (ts.map sv)∧WMem w' (plus (plus X [W.heap.size]) v.ownBlock.toList) g C (wait s (pend n.redirs)) B∧Fr (plus X [W.heap.size]) w1 w'
 have HRED:=Lib.hid (show Calls Tryz.prog 101 #[.pointer (some ⟨g,0,none⟩),.slice Ar n.redirs.length cr] w1.drew fun e w'=>∃ vt,e=.returned vt∧P1 vt w' from hred.mono fun e w' ⟨vt,e1,h1,h2,h3⟩=>⟨vt,e1,h1,h2,(Fr.later (Later.drew w1)).trans h3⟩)
 have HAP:=Lib.hid (show ∀ vt w',P1 vt w'→∃ v2 w2,(Builtin.append_ #[33,33] 33 #[vt,.slice Aw n.words.length cw]).run Tryz.prog w'=.ok v2 w2∧P2 v2 w2 from fun vt w' hp=>by
  obtain⟨h1,h2,h3⟩:=hp
  have hxl:(n.redirs.map tsv).length=n.redirs.length:=List.length_map ..
  have hrw:=low_rd hF.w h2.low h2.lX
  obtain⟨v2,w2,hrun,hg⟩:=run_appN (P:=Tryz.prog) w' w1.heap.size 33 33 9 i0 _ 16 Tryz.underlying33 hi hz0 hz1 hz2 rfl vt (n.redirs.map tsv) (by rw[hxl];exact h1) w'.heap.size Aw n.words.length cw (n.words.map sv) hrw.1 (by intro u hu;obtain⟨x,_,rfl⟩:=List.mem_map.1 hu;rfl) (by rw[hxl];omega) (by rw[hxl];omega) h3.size
  refine⟨v2,w2,hrun,?_,own_grow h2 (ys:=n.redirs.map tsv) (by rw[hxl];exact h1) (Nat.le_trans hmB.low.size (Nat.le_refl _)) hg,h3.trans (Fr.grown hg.2 fun b e hx=>?_)⟩
  ·have h4:=hg.1
   have e4:n.redirs.map tsv++n.words.map sv=ts.map sv:=by rw[hts,List.map_append,List.map_map];rfl
   rw[e4,List.length_map] at h4
   exact h4
  ·have h5:=(h1.lt b e).1
   have h6:=hb.xl b hx
   omega)
 have hbox:∀ u w',P1 u w'→w'.heap[W.heap.size]?=some (.cells (nodeA n Aw Ar Ak cw cr ck ln) 37 (0,0)):=fun u w' hp=>hp.2.2.cells hb.box (.inr (by simp))
 obtain⟨C0,hC0⟩:∃ C0:Nat→Value→World→Prop,C0=fun j u w=>(j=0∧w=w1.drew)∨(j=1∧P1 u w)∨(j=2∧P2 u w)∨(j=3∧P2 u w):=⟨_,rfl⟩
 have HBX:=Lib.hid (show ∀ j u w,C0 j u w→j≤1→w.cell? ⟨W.heap.size,5,none⟩=some (.slice Ar n.redirs.length cr)∧w.cell? ⟨W.heap.size,3,none⟩=some (.slice Aw n.words.length cw) from fun j u w hc hj=>by
  have hx:w.heap[W.heap.size]?=some (.cells (nodeA n Aw Ar Ak cw cr ck ln) 37 (0,0)):=by
   rw[hC0] at hc
   rcases hc with⟨_,rfl⟩ | ⟨_,hp⟩ | ⟨e,_⟩ | ⟨e,_⟩
   ·exact hb.box
   ·exact hbox u w hp
   ·omega
   ·omega
  exact⟨(cell_row hx 5).1,(cell_row hx 3).1⟩)
 have HC0:=Lib.hid (show C0 0 undef w1.drew by rw[hC0];exact .inl ⟨rfl,rfl⟩)
 have HA:=Lib.hid (show ∀ u w,C0 0 u w→w=w1.drew from fun u w hc=>by
  rw[hC0] at hc
  rcases hc with⟨_,e⟩ | ⟨e,_⟩ | ⟨e,_⟩ | ⟨e,_⟩
  ·exact e
  all_goals cases e)
 have H1:=Lib.hid (show ∀ u w,P1 u w→C0 1 u w from fun u w hp=>by rw[hC0];exact .inr (.inl ⟨rfl,hp⟩))
 have HA1:=Lib.hid (show ∀ u w,C0 1 u w→P1 u w from fun u w hc=>by
  rw[hC0] at hc
  rcases hc with⟨e,_⟩ | ⟨_,e⟩ | ⟨e,_⟩ | ⟨e,_⟩
  ·cases e
  ·exact e
  all_goals cases e)
 have H2:=Lib.hid (show ∀ u w,P2 u w→C0 2 u w from fun u w hp=>by rw[hC0];exact .inr (.inr (.inl ⟨rfl,hp⟩)))
 have H3:=Lib.hid (show ∀ u w,C0 2 u w→C0 3 u w from fun u w hc=>by
  rw[hC0] at hc⊢
  rcases hc with⟨e,_⟩ | ⟨e,_⟩ | ⟨_,e⟩ | ⟨e,_⟩
  ·cases e
  ·cases e
  ·exact .inr (.inr (.inr ⟨rfl,e⟩))
  ·cases e)
 have HE:=Lib.hid (show ∀ u w,C0 3 u w→P2 u w from fun u w hc=>by
  rw[hC0] at hc
  rcases hc with⟨e,_⟩ | ⟨e,_⟩ | ⟨e,_⟩ | ⟨_,e⟩
  ·cases e
  ·cases e
  ·cases e
  ·exact e)
 have HB:=Lib.hid hb
 have HD:=Lib.hid hdB
 have HSZ:=Lib.hid hsz
 have HTS:=Lib.hid (show ts.length≤10000 by rw[hts,List.length_append,List.length_map];omega)
 have HW1:=Lib.hid hw1
 clear h hX hl hsz hmB hdB hmd hlr hred hbox hC0 hb hts
 go_enter Tryz.func69,Tryz.ntmps69
 go_wp2
 rw[←HW1.out]
 clear hw1
 refine wp_region_seq (by kernel_rfl) [3,6,7] (C0) [some (.pointer (some ⟨g,0,none⟩)),some (.pointer (some ⟨W.heap.size,5,none⟩)),some (.slice Ar n.redirs.length cr),none,some (.pointer (some ⟨W.heap.size,3,none⟩)),some (.slice Aw n.words.length cw),none,none] (by decide) (by decide) (by kernel_rfl) (by kernel_rfl) (HC0.out) ?_ ?_
 ·refine⟨?_,?_,?_,?_,?_,?_,?_,?_,trivial⟩
  ·
   refine OwesS.q rfl fun a w j u hC hb hs=>⟨rfl,?_⟩
   have e0:a.tmps.getD 0 undef=.pointer (some ⟨g,0,none⟩):=hs.free 0 rfl
   refine ValWp.pure (v:=.pointer (some ⟨g,0,none⟩)) (fun K' hK'=>?_) ⟨rfl,rfl⟩
   simp only[ValWp,execOp,Act.eval,e0]
   go_simp
   all_goals exact hK'
  ·
   refine OwesS.q rfl fun a w j u hC hb hs=>⟨rfl,?_⟩
   have e3:a.tmps.getD 3 undef=.pointer (some ⟨W.heap.size,0,none⟩):=hs.free 3 rfl
   refine ValWp.pure (v:=.pointer (some ⟨W.heap.size,5,none⟩)) (fun K' hK'=>?_) ⟨rfl,rfl⟩
   simp only[ValWp,execOp,Act.eval,e3]
   go_simp
   all_goals exact hK'
  ·
   refine OwesS.q rfl fun a w j u hC hb hs=>⟨rfl,?_⟩
   have e6:a.tmps.getD 6 undef=.pointer (some ⟨W.heap.size,5,none⟩):=hs.dep 1 _ rfl rfl
   have hj:=hb 0 3 rfl rfl
   have q0:=(HBX.out j u w hC (by omega)).1
   refine ValWp.pure (v:=.slice Ar n.redirs.length cr) (fun K' hK'=>?_) ⟨rfl,rfl⟩
   simp only[ValWp,execOp,Act.eval,e6]
   go_simp
   all_goals exact hK'
  ·
   refine OwesS.w rfl fun a w u hC hl hs=>⟨rfl,fun K hK=>?_⟩
   have e5:a.tmps.getD 5 undef=.pointer (some ⟨g,0,none⟩):=hs.dep 0 _ rfl rfl
   have e7:a.tmps.getD 7 undef=.slice Ar n.redirs.length cr:=hs.dep 2 _ rfl rfl
   have hw:=HA.out u w hC
   subst hw
   refine wp_callN 101 _ _ #[.pointer (some ⟨g,0,none⟩),.slice Ar n.redirs.length cr] rfl rfl (by simp only[List.map_toArray,List.map_cons,List.map_nil,Act.eval,e5,e7]) (entO Tryz.func101 rfl rfl) ?_
   refine HRED.out.mono ?_
   rintro e w9 ⟨vt,rfl,hp⟩
   exact⟨vt,rfl,hK vt w9 trivial (H1.out vt w9 hp)⟩
  ·
   refine OwesS.q rfl fun a w j u hC hb hs=>⟨rfl,?_⟩
   have e3:a.tmps.getD 3 undef=.pointer (some ⟨W.heap.size,0,none⟩):=hs.free 3 rfl
   refine ValWp.pure (v:=.pointer (some ⟨W.heap.size,3,none⟩)) (fun K' hK'=>?_) ⟨rfl,rfl⟩
   simp only[ValWp,execOp,Act.eval,e3]
   go_simp
   all_goals exact hK'
  ·
   refine OwesS.q rfl fun a w j u hC hb hs=>⟨rfl,?_⟩
   have e9:a.tmps.getD 9 undef=.pointer (some ⟨W.heap.size,3,none⟩):=hs.dep 4 _ rfl rfl
   have hj:=hb 1 6 rfl rfl
   have q0:=(HBX.out j u w hC hj).2
   refine ValWp.pure (v:=.slice Aw n.words.length cw) (fun K' hK'=>?_) ⟨rfl,rfl⟩
   simp only[ValWp,execOp,Act.eval,e9]
   go_simp
   all_goals exact hK'
  ·
   refine OwesS.w rfl fun a w u hC hl hs=>⟨rfl,fun K hK=>?_⟩
   have e8:a.tmps.getD 8 undef=u:=hl
   have e10:a.tmps.getD 10 undef=.slice Aw n.words.length cw:=hs.dep 5 _ rfl rfl
   obtain⟨v2,w2,hrun,hp⟩:=HAP.out u w (HA1.out u w hC)
   exact owes_append hrun rfl e8 e10 (hK v2 w2 trivial (H2.out v2 w2 hp))
  ·
   refine OwesS.w rfl fun a w u hC hl hs=>⟨rfl,fun K hK=>?_⟩
   have e11:a.tmps.getD 11 undef=u:=hl
   refine wp_of_val ?_
   refine ValWp.pure (v:=u) (w':=w) (fun K' hK'=>?_) (hK _ _ trivial (H3.out u w hC))
   simp only[ValWp,execOp,Act.eval,e11]
   go_simp
   all_goals exact hK'
 ·intro a w u hC hl hd hsz hfree hs
  obtain⟨z0,u1,u2,z3,z4,u5,u6,u7,u8,u9,u10,u11,u12,u13,u14,u15,u16,hal⟩:=lets a 17 0
  obtain rfl:=hal.on (v:=.pointer (some ⟨g,0,none⟩)) 0 (hfree 0 rfl) rfl
  obtain rfl:=hal.on (v:=.pointer (some ⟨W.heap.size,0,none⟩)) 3 (hfree 3 rfl) rfl
  obtain rfl:=hal.on (v:=u) 4 (hl) rfl
  have hlit:=fun h=>act_lit hd h hal
  rw[hlit hsz]
  clear hlit hal hd hsz hfree hs
  obtain⟨ho,hm,hf⟩:=HE.out u w hC
  obtain⟨w2,hw2⟩:∃ w2,w2=w:=⟨_,rfl⟩
  rw[←hw2] at ho hm hf⊢
  clear hl hC hw2 HE H3 H2 HA1 H1 HA HC0 HBX HAP HRED
  obtain⟨A5,k5,rfl,hk5⟩:=own_any ho
  have HJ:=Lib.hid (join_v ts [32] (Rd.of_own ho) hk5 (by have:=HTS.out;omega) (by have:=HSZ.out;omega))
  have HM:=Lib.hid hm
  have HF2:=Lib.hid hf
  clear ho hm hf
  go_wp2_with (go_at_call 103;fail)
  refine HJ.out.mono ?_
  rintro e w3 ⟨rfl,hl3⟩
  have hb3:BX W w3 X g C (nodeA n Aw Ar Ak cw cr ck ln) W.heap.size (wait s (pend n.redirs)) p B1 done:=HB.out.next ⟨B,((HM.out.later hl3).less (fun b hb=>.inl (HLX.out b hb))),HD.out⟩ (HF2.out.thenLater hl3)
  have hc:=hb3.put [Up.words [32] ts] (by simp) (by have:=HSZ.out;unfold Up.size wait;simp only[List.flatten_cons,List.flatten_nil,List.append_nil,List.length_append];omega)
  rw[show ([Up.words [32] ts]:List (List UInt8)).flatten=Up.words [32] ts by simp] at hc
  have HC:=Lib.hid hc
  clear hl3 hb3 hc HJ
  go_wp2_with (go_at_call 102;fail)
  refine HC.out.mono ?_
  rintro e w4 ⟨rfl,h4⟩
  have H4:=Lib.hid h4
  clear h4 HC
  go_wp2
  go_end0
  exact⟨rfl,H4.out.stop HLX.out⟩
end
end Uw
end Go.Proofs.YtkkchkkpnlnbgaaGreatDoor
namespace Go.Proofs.YtkkchkkpnlnbgaaGreatDoor
open Go.RowKit Go.Maps
open Lx (nl)
open Um (Mid kid)
namespace Uw
section
variable {W0 w w' W W':World} {X:Nat→Prop} {g:Nat} {C:WC} {s s':Up.S} {A:Array Value} {b p:Nat} {B B1:List Bool} {done done':List Nat} {nd:Up.S→Nat→Up.S} {n:Sx.Node} {Aw Ar Ak:Option Addr} {cw cr ck:Nat} {ln:Int}
theorem eachT_v (h:WM W X g C s p B1 done) (hX:XL X W) (hF:NodeF C n Aw Ar Ak) (HK:Kids g C nd p) (a:Nat) (hk:n.kids=[a]) (hrow:Row C.ns p done n.kids) (hfl:n.flag=true) (hl:Up.size (Up.behind (Up.put (Up.part nd (Up.line (Up.put s ([102,111,114,32]++n.text))) Up.kDO a) Up.kDONE) n.redirs)≤2300000000000):Calls Tryz.prog 76 #[.pointer (some ⟨g,0,none⟩),.agg (nodeA n Aw Ar Ak cw cr ck ln)] W fun e W'=>e=.returned (.tuple #[])∧WM W' X g C (Up.behind (Up.put (Up.part nd (Up.line (Up.put s ([102,111,114,32]++n.text))) Up.kDO a) Up.kDONE) n.redirs) p B1 (done++n.kids)∧Fr X W W':=by
 have HLX:=Lib.hid h.lX
 have hb:=BX.start h hX (nodeA n Aw Ar Ak cw cr ck ln)
 have c02:(W.alloc (.cells (nodeA n Aw Ar Ak cw cr ck ln) 37)).cell? ⟨W.heap.size,2,none⟩=some (.bool true):=(hb.cell 2).trans (congrArg (fun z=>some (Value.bool z)) hfl)
 have hs1:([[102,111,114,32],n.text]:List (List UInt8)).flatten=[102,111,114,32]++n.text:=by simp
 have z1:=Up.size_put s ([102,111,114,32]++n.text)
 have z3:=Up.size_line (Up.put s ([102,111,114,32]++n.text))
 have z4:=Up.mono_part HK.mono (Up.line (Up.put s ([102,111,114,32]++n.text))) Up.kDO a
 have z5:=mono_end (Up.part nd (Up.line (Up.put s ([102,111,114,32]++n.text))) Up.kDO a) Up.kDONE n.redirs
 have hc:=hb.put [[102,111,114,32],n.text] (by simp) (by rw[hs1];omega)
 rw[World.size_alloc] at hc
 have HC0:=Lib.hid hc
 have c0_1:(W.alloc (.cells (nodeA n Aw Ar Ak cw cr ck ln) 37)).cell? ⟨W.heap.size,1,none⟩=some (.string (mkS n.text)):=hb.cell 1
 clear hc hb h hX
 go_enter Tryz.func76,Tryz.ntmps76
 go_wp2_with (go_at_call 102;fail)
 refine HC0.out.mono ?_
 rintro e w1 ⟨rfl,h1⟩
 have H1:=Lib.hid h1
 clear h1 HC0 c0_1
 have hc:=H1.out.nil (by rw[hs1];omega)
 have HC1:=Lib.hid hc
 have c1_2:w1.cell? ⟨W.heap.size,2,none⟩=some (.bool true):=(H1.out.cell 2).trans (congrArg (fun z=>some (Value.bool z)) hfl)
 clear hc
 go_wp2_with (go_at_call 106;fail)
 refine HC1.out.mono ?_
 rintro e w2 ⟨rfl,h2⟩
 have H2:=Lib.hid h2
 clear h2 HC1 c1_2
 have hc:=H2.out.body hF HK 0 a (by rw[hk];rfl) (hrow.kid a (by rw[hk];simp)) (hrow.out a (by rw[hk];simp)) (by rw[hs1];exact hl)
 have HC2:=Lib.hid hc
 have HLD2:=Lib.hid H2.out.load
 clear hc
 go_wp2_with (first
  |(refine wpList_loadRun rfl 37 (.tmp 3) rfl (.pointer (some ⟨W.heap.size,0,none⟩)) (.agg (nodeA n Aw Ar Ak cw cr ck ln)) rfl HLD2.out ?_)
  |(go_at_call 110;fail))
 refine HC2.out.mono ?_
 rintro e w3 ⟨rfl,h3⟩
 have H3:=Lib.hid h3
 clear h3 HC2
 go_wp2
 go_end0
 rw[hk]
 have hq:=H3.out.stop HLX.out
 rw[hs1] at hq
 exact⟨rfl,hq⟩
theorem eachF_v (h:WM W X g C s p B1 done) (hX:XL X W) (hF:NodeF C n Aw Ar Ak) (HK:Kids g C nd p) (a:Nat) (hk:n.kids=[a]) (hrow:Row C.ns p done n.kids) (hfl:n.flag=false) (hl:Up.size (Up.behind (Up.put (Up.part nd (Up.line (Up.put (Up.put s ([102,111,114,32]++n.text)) ([32,105,110]++(n.words.flatMap fun w=>32::w)))) Up.kDO a) Up.kDONE) n.redirs)≤2300000000000):Calls Tryz.prog 76 #[.pointer (some ⟨g,0,none⟩),.agg (nodeA n Aw Ar Ak cw cr ck ln)] W fun e W'=>e=.returned (.tuple #[])∧WM W' X g C (Up.behind (Up.put (Up.part nd (Up.line (Up.put (Up.put s ([102,111,114,32]++n.text)) ([32,105,110]++(n.words.flatMap fun w=>32::w)))) Up.kDO a) Up.kDONE) n.redirs) p B1 (done++n.kids)∧Fr X W W':=by
 have HLX:=Lib.hid h.lX
 have hb:=BX.start h hX (nodeA n Aw Ar Ak cw cr ck ln)
 have c02:(W.alloc (.cells (nodeA n Aw Ar Ak cw cr ck ln) 37)).cell? ⟨W.heap.size,2,none⟩=some (.bool false):=(hb.cell 2).trans (congrArg (fun z=>some (Value.bool z)) hfl)
 have hs1:([[102,111,114,32],n.text]:List (List UInt8)).flatten=[102,111,114,32]++n.text:=by simp
 have z1:=Up.size_put s ([102,111,114,32]++n.text)
 have z3:=Up.size_line (Up.put (Up.put s ([102,111,114,32]++n.text)) ([32,105,110]++(n.words.flatMap fun w=>32::w)))
 have z4:=Up.mono_part HK.mono (Up.line (Up.put (Up.put s ([102,111,114,32]++n.text)) ([32,105,110]++(n.words.flatMap fun w=>32::w)))) Up.kDO a
 have z5:=mono_end (Up.part nd (Up.line (Up.put (Up.put s ([102,111,114,32]++n.text)) ([32,105,110]++(n.words.flatMap fun w=>32::w)))) Up.kDO a) Up.kDONE n.redirs
 have z2:=Up.size_put (Up.put s ([102,111,114,32]++n.text)) ([32,105,110]++(n.words.flatMap fun w=>32::w))
 have hc:=hb.put [[102,111,114,32],n.text] (by simp) (by rw[hs1];omega)
 rw[World.size_alloc,hs1] at hc
 have HC0:=Lib.hid hc
 have c1:(W.alloc (.cells (nodeA n Aw Ar Ak cw cr ck ln) 37)).cell? ⟨W.heap.size,1,none⟩=some (.string (mkS n.text)):=hb.cell 1
 have hnw:n.words.length≤5000:=by have:=hF.sm.w;omega
 have HFL:=Lib.hid hfl
 have hzz:Up.size (Up.put s ([102,111,114,32]++n.text))+(([32,105,110]:List UInt8).length+(n.words.flatMap fun w=>32::w).length)+1≤2300000000000:=by rw[List.length_append] at z2;omega
 have HZ:=Lib.hid hzz
 have HL:=Lib.hid hl
 clear hc hb h hX hfl c02 z1 z2 z3 z4 z5 hzz hl
 go_enter Tryz.func76,Tryz.ntmps76
 go_wp2_with (go_at_call 102;fail)
 refine HC0.out.mono ?_
 rintro e w1 ⟨rfl,h1⟩
 have hc:=h1.put [[32,105,110]] (by simp) (by have:=HZ.out;simp only[List.flatten_cons,List.flatten_nil,List.append_nil] at this⊢;omega)
 have HC1:=Lib.hid hc
 have c2:w1.cell? ⟨W.heap.size,2,none⟩=some (.bool false):=(h1.cell 2).trans (congrArg (fun z=>some (Value.bool z)) HFL.out)
 clear h1 hc HC0 c1
 go_wp2_with (go_at_call 102;fail)
 refine HC1.out.mono ?_
 rintro e w2 ⟨rfl,h2⟩
 rw[show ([[32,105,110]]:List (List UInt8)).flatten=[32,105,110] from rfl] at h2
 have c3:w2.cell? ⟨W.heap.size,3,none⟩=some (.slice Aw n.words.length cw):=h2.cell 3
 have H2:=Lib.hid h2
 clear h2 HC1 c2
 obtain⟨m,hm⟩:∃ m,m=n.words.length:=⟨_,rfl⟩
 rw[←hm] at c3 hnw
 have HMM:=Lib.hid hm
 clear hm
 go_wp2
 go_loopw [20] (fun i wr=>∃ k:Nat,k≤m∧i=.int .i64 (k:Int)∧BX W wr X g C (nodeA n Aw Ar Ak cw cr ck ln) W.heap.size (Up.put (Up.put s ([102,111,114,32]++n.text)) ([32,105,110]++((n.words.take k).flatMap fun w=>32::w))) p B1 done) (fun i _=>m-(intOf i).toNat)
 case atStart=>exact⟨0,by omega,rfl,by simpa using H2.out⟩
 case round=>
  obtain⟨k,hk',rfl,hbx⟩:=hrel
  have HBX:=Lib.hid hbx
  have hk0:(0:Int)≤(k:Int):=by omega
  have hrd:=low_rd hF.w hbx.mem.low hbx.mem.lX
  rw[←HMM.out] at hrd
  clear hbx
  by_cases hlt:k<m
  ·obtain⟨ad,hl1,rfl,_,hc⟩:=hrd.1.at_map (k:=k) hlt
   have hk1:(k:Int)<(m:Int):=by omega
   have htk:((n.words.take (k+1)).flatMap fun w=>32::w)=((n.words.take k).flatMap fun w=>32::w)++(32::n.words[k]):=by rw[List.take_succ_eq_append_getElem hl1,List.flatMap_append];simp
   have hle:((n.words.take (k+1)).flatMap fun w=>32::w).length≤(n.words.flatMap fun w=>32::w).length:=by
    have e:(n.words.flatMap fun w=>32::w)=((n.words.take (k+1)).flatMap fun w=>32::w)++((n.words.drop (k+1)).flatMap fun w=>32::w):=by rw[←List.flatMap_append,List.take_append_drop]
    rw[e,List.length_append];omega
   obtain⟨x,hx⟩:∃ x,x=n.words[k]:=⟨_,rfl⟩
   have hc1:wr.cell? (ad.add k)=some (.string (mkS x)):=by rw[hx];exact hc
   rw[←hx] at htk
   rw[htk,List.length_append] at hle
   have hcc:=HBX.out.put [[32],x] (by simp) (by
    have h1:=HZ.out
    rw[Up.size_put,List.length_append]
    simp only[List.flatten_cons,List.flatten_nil,List.append_nil,List.length_append,List.length_cons,List.length_nil] at h1 hle⊢
    omega)
   have HC:=Lib.hid hcc
   have HT:=Lib.hid htk
   clear hc hrd hle hcc hx hl1 htk
   go_wp2_with (go_at_call 102;fail)
   refine HC.out.mono ?_
   rintro e w3 ⟨rfl,h3⟩
   have H3:=Lib.hid h3
   clear h3
   go_wp2
   go_roundw
   case rel=>
    refine⟨k+1,by omega,by go_num,?_⟩
    rw[HT.out]
    have:=H3.out
    simpa [Up.put] using this
   case measure=>simp[intOf];omega
  ·have hk1:¬ (k:Int)<(m:Int):=by omega
   have hkn:n.words.take k=n.words:=List.take_of_length_le (by have:=HMM.out;omega)
   rw[hkn] at HBX
   have hc:=HBX.out.nil (by have h1:=HZ.out;rw[Up.size_put,List.length_append];omega)
   have HC2:=Lib.hid hc
   clear hrd hc
   go_wp2_with (go_at_call 106;fail)
   refine HC2.out.mono ?_
   rintro e w4 ⟨rfl,h4⟩
   have hc:=h4.body hF HK 0 a (by rw[hk];rfl) (hrow.kid a (by rw[hk];simp)) (hrow.out a (by rw[hk];simp)) HL.out
   have HC3:=Lib.hid hc
   have HLD:=Lib.hid h4.load
   clear hc h4 HC2
   go_wp2_with (first
    |(refine wpList_loadRun rfl 37 (.tmp 3) rfl (.pointer (some ⟨W.heap.size,0,none⟩)) (.agg (nodeA n Aw Ar Ak cw cr ck ln)) rfl HLD.out ?_)
    |(go_at_call 110;fail))
   refine HC3.out.mono ?_
   rintro e w5 ⟨rfl,h5⟩
   have H5:=Lib.hid h5
   clear h5 HC3
   go_wp2
   go_end0
   rw[hk]
   exact⟨rfl,H5.out.stop HLX.out⟩
end
end Uw
end Go.Proofs.YtkkchkkpnlnbgaaGreatDoor
