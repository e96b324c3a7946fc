import Derived.Test.YtipdgmjplnibeaaGreatDoorG36
set_option maxRecDepth 100000
set_option maxHeartbeats 6400000
namespace Go.Proofs.YtipdgmjplnibeaaGreatDoor
open Go.RowKit Go.Maps
set_option maxRecDepth 100000
namespace Ey
open Jo (ft fm rows own_ge)
open En (E RdE Vd Rises FrE)
def Xo (X:Nat→Prop) (r:Nat) (v:Value):Nat→Prop:=fun k=>X k∨v.ownBlock=some k∨k=r
structure Rs (W wr:World) (X:Nat→Prop) (g m:Nat) (e:E) (v:Value) (ps:List P) (out:List Rw) (vo:Value):Prop where
 low:W.grownBy wr (some g)
 wt:Wt wr (Xo X W.heap.size vo) g m e
 gl:g<W.heap.size
 xw:∀ k,X k→k<W.heap.size
 glo:1<W.heap.size∧2<W.heap.size∧3<W.heap.size
 xg:X g
 ps:PsAt wr (fun k=>k<W.heap.size∧k≠g) v ps
 rs:wr.heap[W.heap.size]?=some (.cells #[.string ⟨#[]⟩,.string ⟨#[]⟩] 37 (0,0))
 own:wr.ownsRow (W.heap.size+1) 37 2 vo out.length (rows out)
 t0:Ar.Tb W g
section
variable {W wr wr':World} {X:Nat→Prop} {g m:Nat} {e e':E} {v vo v':Value} {ps:List P} {out:List Rw}
theorem Rs.psn (h:Rs W wr X g m e v ps out vo):PsAt wr (Nb g) v ps:=h.ps.kept (Nat.le_refl _) (fun _ _ _=>rfl) fun _ h=>h.2
theorem Rs.later (h:Rs W wr X g m e v ps out vo) (hl:Later wr wr'):Rs W wr' X g m e v ps out vo:=
 ⟨grown_trans h.low (later_some hl),h.wt.later hl,h.gl,h.xw,h.glo,h.xg,h.ps.kept hl.size (fun b _ hb=>hl.block b hb) fun _ h=>h,later_cells hl h.rs,own_below h.own hl,h.t0⟩
theorem Rs.set (h:Rs W wr X g m e v ps out vo) (hg:wr.grownBy wr' (some g)) (hw:Wt wr' (Xo X W.heap.size vo) g m e'):Rs W wr' X g m e' v ps out vo:=by
 have hl:=h.gl
 exact⟨grown_trans h.low hg,hw,h.gl,h.xw,h.glo,h.xg,h.ps.kept hg.size (fun b hb hlt=>hg.block b hlt fun e=>hb.2 (Option.some.inj e)) fun _ h=>h,grown_cells hg h.rs (by omega),h.own.kept hg (.inr fun e=>by have:=(own_ge h.own e).1;omega),h.t0⟩
theorem Rs.own' (h:Rs W wr X g m e v ps out vo) {n:Nat} (hn:n=out.length):wr.ownsRow (W.heap.size+1) 37 2 vo n (rows out):=by subst hn;exact h.own
theorem Rs.push {f:Rw} {n:Nat} (h:Rs W wr X g m e v ps out vo) (hn:n=out.length) (hg:GrewK wr wr' (W.heap.size+1) 37 2 vo v' (n+1) (rows out++[.string (mkS (ft f)),.string (mkS (fm f))])):Rs W wr' X g m e v ps (out++[f]) v':=by
 subst hn
 have hge:∀ k,vo.ownBlock=some k→W.heap.size+1≤k∧k<wr.heap.size:=fun k e=>own_ge h.own e
 have hgl:=h.gl
 have hne:∀ k,k≤W.heap.size→some k≠vo.ownBlock:=fun k hk e=>by have:=(hge k e.symm).1;omega
 have hbk:∀ k,k<wr.heap.size→k≤W.heap.size→wr'.heap[k]?=wr.heap[k]?:=fun k hk hw=>hg.grown.block k hk (hne k hw)
 have hlow':W.grownBy wr' (some g):=⟨hg.grown.os.trans h.low.os,hg.grown.tape.trans h.low.tape,hg.grown.output.trans h.low.output,Nat.le_trans h.low.size hg.grown.size,fun k hk hn=>(hbk k (Nat.lt_of_lt_of_le hk h.low.size) (by omega)).trans (h.low.block k hk hn)⟩
 refine⟨hlow',?_,h.gl,h.xw,h.glo,h.xg,h.ps.kept hg.grown.size (fun b hb hlt=>hbk b hlt (by omega)) fun _ h=>h,(hbk _ (lt_of_block h.rs) (Nat.le_refl _)).trans h.rs,?_,h.t0⟩
 ·obtain⟨va,aa,h1,h2⟩:=h.wt.bx
  have hmv:∀ k,v'.ownBlock=some k→vo.ownBlock=some k∨wr.heap.size≤k:=fun k e=>by
   rcases hg.moved with hm | ⟨b,hb,hle⟩
   ·left;rw[←hm];exact e
   ·right;rw[hb] at e;have:=Option.some.inj e;omega
  refine⟨⟨va,aa,(hbk g h.wt.lt (by omega)).trans h1,fun w1 k1 k2=>h2 w1 (Nat.le_trans hg.grown.size k1) fun k hk kx=>?_⟩,.inl h.xg,fun k hk=>?_,h.wt.tab.kept hg.grown (fun e=>?_),h.wt.sm,h.wt.up,vd_grown h.wt.vd hg.grown (fun k e=>?_),h.wt.lo,h.t0.kept hlow'⟩
  ·refine(k2 k (Nat.lt_of_lt_of_le hk hg.grown.size) fun e=>?_).trans (hg.grown.block k hk fun e=>kx (.inr (.inl e.symm)))
   rcases e with e | e | e
   ·exact kx (.inl e)
   ·rcases hmv k e with e | e
    ·exact kx (.inr (.inl e))
    ·omega
   ·exact kx (.inr (.inr e))
  ·rcases hk with hk | hk | hk
   ·exact Nat.lt_of_lt_of_le (h.xw k hk) (Nat.le_trans h.low.size hg.grown.size)
   ·exact(own_ge hg.own hk).2
   ·rw[hk];exact Nat.lt_of_lt_of_le (lt_of_block h.rs) hg.grown.size
  ·obtain⟨cs,hb⟩:=own_type h.own e.symm
   exact h.wt.tab.apart hb rfl
  ·have h1:=(hge k e).1
   have h2:=h.glo
   exact⟨by omega,by omega,by omega⟩
 ·have:=hg.own
  rw[←Jo.rows_app] at this
  rw[List.length_append]
  exact this
end
theorem vd_lt {W:World} (h:Vd W):1<W.heap.size∧2<W.heap.size∧3<W.heap.size:=by
 refine⟨?_,?_,?_⟩
 ·have h:=h.tb
  have hgn:Tryz.prog.globalNamed "internal/strconv.uint64pow10" = some 1:=by kernel_rfl
  unfold Lib.TabIs World.var? at h
  rw[hgn] at h
  simp only[Option.bind_some] at h
  rcases Nat.lt_or_ge 1 W.heap.size with h' | h'
  ·exact h'
  ·rw[Array.getElem?_eq_none h'] at h;cases h
 ·obtain⟨ev,h1,_⟩:=h.es
  exact World.block_lt_of_cell? W _ h1
 ·obtain⟨ev,h1,_⟩:=h.er
  exact World.block_lt_of_cell? W _ h1
theorem puts_of {g k:Nat} (h:1≤k∧k≤5):∃ f,putsT g k=some (fnv f g)∧∀ args w,(callFunc f args).run Tryz.prog w=.ok (.enter f args) w:=by
 have hk:k=1∨k=2∨k=3∨k=4∨k=5:=by omega
 rcases hk with rfl | rfl | rfl | rfl | rfl
 ·exact⟨_,rfl,entO Tryz.func72 rfl rfl⟩
 ·exact⟨_,rfl,entO Tryz.func73 rfl rfl⟩
 ·exact⟨_,rfl,entO Tryz.func76 rfl rfl⟩
 ·exact⟨_,rfl,entO Tryz.func75 rfl rfl⟩
 ·exact⟨_,rfl,entO Tryz.func74 rfl rfl⟩
theorem row_of {part:E→P→Res} (hp:PartOk part) (hk:∀ e p,part e p≠.big→1≤p.k∧p.k≤5) (W:World) (X:Nat→Prop) (g m:Nat) (e:E) (v:Value) (ps:List P) (h:Wt W X g m e) (hv:PsAt W (Nb g) v ps) (hl:ps.length≤1000) (hb:rowF part e ps []≠.big):Calls Tryz.prog 48 #[.pointer (some ⟨g,0,none⟩),v] W (RowR W X g m (rowF part e ps [])):=by
 obtain⟨A0,c0,rfl⟩:=hv.one.2
 have HV:=Lib.hid hv
 have HH:=Lib.hid h
 obtain⟨n,hn⟩:∃ n,n=ps.length:=⟨_,rfl⟩
 have HN:=Lib.hid hn
 rw[←hn] at HV hl⊢
 have HB:=Lib.hid hb
 have HS0:=Lib.hid (show Rs W (W.alloc (.cells #[.string ⟨#[]⟩,.string ⟨#[]⟩] 37)) X g m e (.slice A0 n c0) ps [] (.slice none 0 0) from⟨later_some (Later.alloc _ _),(h.wide (Later.alloc _ _)).less (fun k hk=>by rcases hk with hk | hk | hk;exact .inl hk;cases hk;exact .inr ⟨by omega,by rw[World.size_alloc];omega⟩) (.inl h.xg),h.lt,h.xl,vd_lt h.vd,h.xg,(ps_low HV.out).kept (Later.alloc _ _).size (fun b _ hb=>(Later.alloc _ _).block b hb) (fun k hk=>⟨hk.2,hk.1⟩),heap_alloc_new _ _,World.ownsRow_nil _ _ _ _,h.ta⟩)
 obtain⟨i0,hif,hz0,hz1,hz2⟩:=info_parts info_row2
 clear hn hv hb h
 go_enter Tryz.func48,Tryz.ntmps48
 go_wp2
 go_loopw [5,10] (fun s5 s10 wr=>∃ (i:Nat) (e':E) (out:List Rw),s10=.int .i64 (i:Int)∧i≤n∧out.length=i∧out.flatten.length≤100000∧rowF part e ps []=rowF part e' (ps.drop i) out.flatten∧Rs W wr X g m e' (.slice A0 n c0) ps out s5) (fun _ s10 _=>n-(intOf s10).toNat)
 case atStart=>exact⟨0,e,[],rfl,Nat.zero_le _,rfl,by simp,rfl,HS0.out⟩
 case round=>
  obtain⟨i,e',out,rfl,hi,hlen,hfl,hrow,hs⟩:=hrel
  obtain⟨Ar,cr,rfl,_⟩:=own_any (hs.own' hlen.symm)
  have HS:=Lib.hid hs
  have HL:=Lib.hid (And.intro hlen hfl)
  have HRW:=Lib.hid hrow
  have hi0:(0:Int)≤(i:Int):=by omega
  by_cases hlt:i<n
  ·have hi1:(i:Int)<(n:Int):=by omega
   have hps:i<ps.length:=by rw[←HN.out];exact hlt
   obtain⟨b,cc,e1,hcc,hbl,hat⟩:=hs.psn.get (fun e=>by rw[e] at hps;simp at hps)
   injection e1 with e1 e2 e3
   subst e1 e3
   obtain⟨p,hp0⟩:∃ p,p=ps[i]:=⟨_,rfl⟩
   obtain⟨vw,hpa⟩:=hat i p (by rw[List.getElem?_eq_getElem hps,hp0])
   have HPA:=Lib.hid hpa
   obtain⟨Aw,cw,rfl⟩:=hpa.w.one.2
   have d0:=hpa.c0
   have d1:=hpa.c1
   have d2:=hpa.c2
   have d3:=hpa.c3
   have d4:=hpa.c4
   have hi2:¬ (n:Int)≤(i:Int):=by omega
   have hdr:ps.drop i=p::ps.drop (i+1):=by rw[hp0];exact List.drop_eq_getElem_cons hps
   have hrow2:rowF part e ps []=(part e' p).then fun r2 e2=>if (out.flatten++r2).length≤100000 then rowF part e2 (ps.drop (i+1)) (out.flatten++r2) else .big:=by rw[hrow,hdr];rfl
   obtain⟨wb,hwb⟩:∃ wb,wb=wr.alloc (.cells #[.int .i64 (p.k:Int),.string (mkS p.t),.string (mkS p.o),.bool p.q,.slice Aw p.w.length cw] 105):=⟨_,rfl⟩
   have hlw:Later wr wb:=by rw[hwb];exact Later.alloc _ _
   have hlb:Later wr wb.drew:=hlw.trans (Later.drew _)
   have hbx:wb.drew.heap[wr.heap.size]?=some (.cells #[.int .i64 (p.k:Int),.string (mkS p.t),.string (mkS p.o),.bool p.q,.slice Aw p.w.length cw] 105 (0,0)):=by rw[hwb];exact later_cells (Later.drew _) (heap_alloc_new _ _)
   have hnb:part e' p≠.big:=fun e9=>HB.out (by rw[hrow2,e9];rfl)
   obtain⟨f,hpt,hen⟩:=puts_of (g:=g) (hk e' p hnb)
   have hk5:=(hk e' p hnb).2
   have hwt:=hs.wt.later hlb
   have HEN:=Lib.hid hen
   have HLL:=Lib.hid hlb
   have HLW:=Lib.hid (later_some (g:=g) hlb)
   have HM0:=Lib.hid (show wb.drew.cell? ⟨g,4,none⟩=some (.map (some m)) by obtain⟨_,_,hc⟩:=hwt.cells;exact(hc _ (Later.refl _)).1.2.2.2.2)
   have HK0:=Lib.hid (show wb.drew.cell? ⟨wr.heap.size,0,none⟩=some (.int .i64 (p.k:Int)) from(cell_row hbx 0).1)
   have HL0:=Lib.hid (show (Instr.lookup 92 (.map (some m)) (.int .i64 (p.k:Int)) false).run Tryz.prog wb.drew=.ok (.func (.func f) #[.pointer (some ⟨g,0,none⟩)] #[]) wb.drew by
    have:=hwt.tab.look p.k (by omega)
    rw[hpt] at this
    exact this)
   have HP1:=Lib.hid (part_box hbx)
   have hca:=hp wb.drew (Xo X W.heap.size (.slice Ar i cr)) g m e' (.slice Aw p.w.length cw) p f hwt (ps_grown hpa.w (later_some hlb)) hnb hpt
   have HWB:=Lib.hid hwb
   have HLN:=Lib.hid hlen.symm
   have HNO:=Lib.hid (show (Value.slice Ar i cr).ownBlock≠some wr.heap.size from fun e=>by have:=(own_ge hs.own e).2;omega)
   have HGN:=Lib.hid (show g≠wr.heap.size by have:=hs.gl;have:=hs.low.size;omega)
   have HBX:=Lib.hid hbx
   have hin9:i<1000:=by omega
   cases hres:part e' p with
   | big=>exact absurd hres hnb
   | bad en et=>
    rw[hres] at hca hrow2
    have HCA:=Lib.hid (show Calls Tryz.prog f #[.pointer (some ⟨g,0,none⟩),.agg #[.int .i64 (p.k:Int),.string (mkS p.t),.string (mkS p.o),.bool p.q,.slice Aw p.w.length cw]] wb.drew fun x W'=>x=.panicked (flt en et)∧wb.drew.grownBy W' (some g) from hca)
    rw[show rowF part e ps []=.bad en et from hrow2]
    clear hs hlen hfl hrow hpa hat hp0 e2 hcc hbl hi hnb hen hca hres hrow2 hwt hbx hlb hlw hdr hpt hk5
    go_wp2
    rw[←HWB.out]
    obtain⟨C0,hC0⟩:∃ C0:Nat→Value→World→Prop,C0=fun j u w=>j=0∧w=wb.drew:=⟨_,rfl⟩
    have HA:=Lib.hid (show ∀ (j:Nat) (u:Value) (w:World),C0 j u w→j≤0→w=wb.drew from fun j u w hc _=>by rw[hC0] at hc;exact hc.2)
    have HJ0:=Lib.hid (show ∀ (j:Nat) (u:Value) (w:World),C0 j u w→j=0 from fun j u w hc=>by rw[hC0] at hc;exact hc.1)
    have H0:=Lib.hid (show C0 0 undef wb.drew by rw[hC0];exact⟨rfl,rfl⟩)
    have HMP:=Lib.hid (show ∀ (j:Nat) (u:Value) (w:World),C0 j u w→w.cell? ⟨g,4,none⟩=some (.map (some m)) from fun j u w hc=>by rw[HA.out j u w hc (by have:=HJ0.out _ _ _ hc;omega)];exact HM0.out)
    have HKK:=Lib.hid (show ∀ (j:Nat) (u:Value) (w:World),C0 j u w→w.cell? ⟨wr.heap.size,0,none⟩=some (.int .i64 (p.k:Int)) from fun j u w hc=>by rw[HA.out j u w hc (by have:=HJ0.out _ _ _ hc;omega)];exact HK0.out)
    have HLK:=Lib.hid (show ∀ (j:Nat) (u:Value) (w:World),C0 j u w→j≤0→(Instr.lookup 92 (.map (some m)) (.int .i64 (p.k:Int)) false).run Tryz.prog w=.ok (.func (.func f) #[.pointer (some ⟨g,0,none⟩)] #[]) w from fun j u w hc hj=>by rw[HA.out j u w hc hj];exact HL0.out)
    have HPV:=Lib.hid (show ∀ (j:Nat) (u:Value) (w:World),C0 j u w→j≤0→(Instr.loadAt 105 (.pointer (some ⟨wr.heap.size,0,none⟩))).run Tryz.prog w=.ok (.agg #[.int .i64 (p.k:Int),.string (mkS p.t),.string (mkS p.o),.bool p.q,.slice Aw p.w.length cw]) w from fun j u w hc hj=>by rw[HA.out j u w hc hj];exact HP1.out)
    clear hC0
    refine wp_region_seqE (by kernel_rfl) [9,10,11,12] (C0) [some (.slice Ar i cr),some (.pointer (some ⟨g,0,none⟩)),some (.pointer (some ⟨g,0,none⟩)),some (.pointer (some ⟨g,4,none⟩)),some (.map (some m)),some (.pointer (some ⟨wr.heap.size,0,none⟩)),some (.int .i64 (p.k:Int)),some (.func (.func f) #[.pointer (some ⟨g,0,none⟩)] #[]),some (.agg #[.int .i64 (p.k:Int),.string (mkS p.t),.string (mkS p.o),.bool p.q,.slice Aw p.w.length cw]),none,none,none,none] (by decide) (by decide) (by kernel_rfl) (by kernel_rfl) 5 (by kernel_rfl) (H0.out) ?_ ?_
    ·refine⟨?_,?_,?_,?_,?_,?_,?_,?_,?_,?_,?_,?_,?_,trivial⟩
     ·
      refine OwesSE.q rfl fun a w j u hC hb he hs=>⟨rfl,?_⟩
      have e5:a.tmps.getD 5 undef=.slice Ar i cr:=he (by have:=hb 3 12 rfl rfl;simp only[List.length_cons,List.length_nil];omega)
      refine ValWp.pure (v:=.slice Ar i cr) (fun K' hK'=>?_) ⟨rfl,rfl⟩
      simp only[ValWp,execOp,Act.eval,e5]
      go_simp
      all_goals exact hK'
     ·
      refine OwesSE.q rfl fun a w j u hC hb he hs=>⟨rfl,?_⟩
      have e0:a.tmps.getD 0 undef=.pointer (some ⟨g,0,none⟩):=hs.free 0 rfl
      refine ValWp.pure (v:=.pointer (some ⟨g,0,none⟩)) (fun K' hK'=>?_) ⟨rfl,rfl⟩
      simp only[ValWp,execOp,Act.eval,e0]
      go_simp
      all_goals exact hK'
     ·
      refine OwesSE.q rfl fun a w j u hC hb he hs=>⟨rfl,?_⟩
      have e15:a.tmps.getD 15 undef=.pointer (some ⟨g,0,none⟩):=hs.dep 1 _ rfl rfl
      refine ValWp.pure (v:=.pointer (some ⟨g,0,none⟩)) (fun K' hK'=>?_) ⟨rfl,rfl⟩
      simp only[ValWp,execOp,Act.eval,e15]
      go_simp
      all_goals exact hK'
     ·
      refine OwesSE.q rfl fun a w j u hC hb he hs=>⟨rfl,?_⟩
      have e16:a.tmps.getD 16 undef=.pointer (some ⟨g,0,none⟩):=hs.dep 2 _ rfl rfl
      refine ValWp.pure (v:=.pointer (some ⟨g,4,none⟩)) (fun K' hK'=>?_) ⟨rfl,rfl⟩
      simp only[ValWp,execOp,Act.eval,e16]
      go_simp
      all_goals exact hK'
     ·
      refine OwesSE.q rfl fun a w j u hC hb he hs=>⟨rfl,?_⟩
      have e17:a.tmps.getD 17 undef=.pointer (some ⟨g,4,none⟩):=hs.dep 3 _ rfl rfl
      have q0:=HMP.out j u w hC
      refine ValWp.pure (v:=.map (some m)) (fun K' hK'=>?_) ⟨rfl,rfl⟩
      simp only[ValWp,execOp,Act.eval,e17]
      go_simp
      all_goals exact hK'
     ·
      refine OwesSE.q rfl fun a w j u hC hb he hs=>⟨rfl,?_⟩
      have e7:a.tmps.getD 7 undef=.pointer (some ⟨wr.heap.size,0,none⟩):=hs.free 7 rfl
      refine ValWp.pure (v:=.pointer (some ⟨wr.heap.size,0,none⟩)) (fun K' hK'=>?_) ⟨rfl,rfl⟩
      simp only[ValWp,execOp,Act.eval,e7]
      go_simp
      all_goals exact hK'
     ·
      refine OwesSE.q rfl fun a w j u hC hb he hs=>⟨rfl,?_⟩
      have e19:a.tmps.getD 19 undef=.pointer (some ⟨wr.heap.size,0,none⟩):=hs.dep 5 _ rfl rfl
      have q0:=HKK.out j u w hC
      refine ValWp.pure (v:=.int .i64 (p.k:Int)) (fun K' hK'=>?_) ⟨rfl,rfl⟩
      simp only[ValWp,execOp,Act.eval,e19]
      go_simp
      all_goals exact hK'
     ·
      refine OwesSE.q rfl fun a w j u hC hb he hs=>⟨rfl,?_⟩
      have e18:a.tmps.getD 18 undef=.map (some m):=hs.dep 4 _ rfl rfl
      have e20:a.tmps.getD 20 undef=.int .i64 (p.k:Int):=hs.dep 6 _ rfl rfl
      have hj:=hb 0 9 rfl rfl
      have q0:=HLK.out j u w hC hj
      refine ValWp.pure (v:=.func (.func f) #[.pointer (some ⟨g,0,none⟩)] #[]) (fun K' hK'=>?_) ⟨rfl,rfl⟩
      simp only[ValWp,execOp,Act.eval,e18,e20]
      go_simp
      all_goals exact hK'
     ·
      refine OwesSE.q rfl fun a w j u hC hb he hs=>⟨rfl,?_⟩
      have e7:a.tmps.getD 7 undef=.pointer (some ⟨wr.heap.size,0,none⟩):=hs.free 7 rfl
      have hj:=hb 0 9 rfl rfl
      exact ValWp.loadR rfl e7 (HPV.out j u w hC hj) ⟨rfl,rfl⟩
     ·
      refine OwesSE.w rfl fun a w u hC hl hs=>⟨rfl,fun K hK=>?_⟩
      have e21:a.tmps.getD 21 undef=.func (.func f) #[.pointer (some ⟨g,0,none⟩)] #[]:=hs.dep 7 _ rfl rfl
      have e22:a.tmps.getD 22 undef=.agg #[.int .i64 (p.k:Int),.string (mkS p.t),.string (mkS p.o),.bool p.q,.slice Aw p.w.length cw]:=hs.dep 8 _ rfl rfl
      have hw:=HA.out 0 u w hC (Nat.le_refl _)
      subst hw
      refine wp_callV 21 22 _ f _ _ rfl e21 e22 HEN.out (HCA.out.mono ?_)
      rintro e9 w9 ⟨rfl,hf⟩
      exact .inr ⟨_,rfl,(⟨hs.defers,rfl,grown_trans HS.out.low (grown_trans HLW.out hf)⟩:bodyPost Tryz.prog _ (RowR W X g m (.bad en et)) (Exit.panic (flt en et)) a w9)⟩
     ·
      refine OwesSE.w rfl fun a w u hC hl hs=>⟨rfl,fun K hK=>?_⟩
      have e23:a.tmps.getD 23 undef=u:=hl
      have e:=HJ0.out _ _ _ hC
      cases e
     ·
      refine OwesSE.w rfl fun a w u hC hl hs=>⟨rfl,fun K hK=>?_⟩
      have e14:a.tmps.getD 14 undef=.slice Ar i cr:=hs.dep 0 _ rfl rfl
      have e24:a.tmps.getD 24 undef=u:=hl
      have e:=HJ0.out _ _ _ hC
      cases e
     ·
      refine OwesSE.w rfl fun a w u hC hl hs=>⟨rfl,fun K hK=>?_⟩
      have e25:a.tmps.getD 25 undef=u:=hl
      have e:=HJ0.out _ _ _ hC
      cases e
    ·intro a w u hC hl hd hsz hfree hs
     have e:=HJ0.out _ _ _ hC
     simp at e
   | ok r2 ez=>
    rw[hres] at hca hrow2
    have hsm:(out.flatten++r2).length≤100000:=by
     by_cases h9:(out.flatten++r2).length≤100000
     ·exact h9
     ·exact absurd (hrow2.trans (if_neg h9)) HB.out
    have hrow3:rowF part e ps []=rowF part ez (ps.drop (i+1)) (out++[r2]).flatten:=by
     rw[List.flatten_append]
     simp only[List.flatten_cons,List.flatten_nil,List.append_nil]
     exact hrow2.trans (if_pos hsm)
    have HRW3:=Lib.hid hrow3
    have HSM:=Lib.hid (show (out++[r2]).flatten.length≤100000 by rw[List.flatten_append];simpa using hsm)
    have HCA:=Lib.hid (show Calls Tryz.prog f #[.pointer (some ⟨g,0,none⟩),.agg #[.int .i64 (p.k:Int),.string (mkS p.t),.string (mkS p.o),.bool p.q,.slice Aw p.w.length cw]] wb.drew fun x W'=>x=.returned (rv r2)∧Wt W' (Xo X W.heap.size (.slice Ar i cr)) g m ez∧wb.drew.grownBy W' (some g) from hca)
    clear hs hlen hfl hrow hpa hat hp0 e2 hcc hbl hi hnb hen hca hres hrow2 hwt hbx hlb hlw hdr hpt hk5 hsm hrow3
    go_wp2
    rw[←HWB.out]
    obtain⟨C0,hC0⟩:∃ C0:Nat→Value→World→Prop,C0=fun j u w=>(j=0∧w=wb.drew)∨(j=1∧u=rv r2∧(Rs W w X g m ez (.slice (some ⟨b,0,none⟩) n c0) ps out (.slice Ar i cr)∧w.heap[wr.heap.size]?=some (.cells #[.int .i64 (p.k:Int),.string (mkS p.t),.string (mkS p.o),.bool p.q,.slice Aw p.w.length cw] 105 (0,0))))∨(j=2∧∃ w1,(Rs W w1 X g m ez (.slice (some ⟨b,0,none⟩) n c0) ps out (.slice Ar i cr)∧w1.heap[wr.heap.size]?=some (.cells #[.int .i64 (p.k:Int),.string (mkS p.t),.string (mkS p.o),.bool p.q,.slice Aw p.w.length cw] 105 (0,0)))∧u=.slice (some ⟨w1.heap.size,0,none⟩) 1 1∧w=w1.alloc (.cells #[.string (mkS (ft r2)),.string (mkS (fm r2))] 37))∨(j=3∧(Rs W w X g m ez (.slice (some ⟨b,0,none⟩) n c0) ps (out++[r2]) u∧w.heap[wr.heap.size]?=some (.cells #[.int .i64 (p.k:Int),.string (mkS p.t),.string (mkS p.o),.bool p.q,.slice Aw p.w.length cw] 105 (0,0))))∨(j=4∧(Rs W w X g m ez (.slice (some ⟨b,0,none⟩) n c0) ps (out++[r2]) u∧w.heap[wr.heap.size]?=some (.cells #[.int .i64 (p.k:Int),.string (mkS p.t),.string (mkS p.o),.bool p.q,.slice Aw p.w.length cw] 105 (0,0)))):=⟨_,rfl⟩
    have HA:=Lib.hid (show ∀ j u w,C0 j u w→j≤0→w=wb.drew from fun j u w hc hj=>by
     rw[hC0] at hc
     rcases hc with⟨_,e⟩ | ⟨e,_⟩ | ⟨e,_⟩ | ⟨e,_⟩ | ⟨e,_⟩
     ·exact e
     all_goals omega)
    have HWX:=Lib.hid (show ∀ j u w,C0 j u w→w.cell? ⟨g,4,none⟩=some (.map (some m))∧w.heap[wr.heap.size]?=some (.cells #[.int .i64 (p.k:Int),.string (mkS p.t),.string (mkS p.o),.bool p.q,.slice Aw p.w.length cw] 105 (0,0)) from fun j u w hc=>by
     have hm:∀ w Y e',Wt w Y g m e'→w.cell? ⟨g,4,none⟩=some (.map (some m)):=fun w Y e' h=>by
      obtain⟨_,_,hc⟩:=h.cells
      exact(hc _ (Later.refl _)).1.2.2.2.2
     rw[hC0] at hc
     rcases hc with⟨_,rfl⟩ | ⟨_,_,h,hx⟩ | ⟨_,w1,⟨h,hx⟩,_,rfl⟩ | ⟨_,h,hx⟩ | ⟨_,h,hx⟩
     ·exact⟨HM0.out,HBX.out⟩
     ·exact⟨hm _ _ _ h.wt,hx⟩
     ·exact⟨hm _ _ _ (h.wt.later (Later.alloc _ _)),later_cells (Later.alloc _ _) hx⟩
     ·exact⟨hm _ _ _ h.wt,hx⟩
     ·exact⟨hm _ _ _ h.wt,hx⟩)
    have HMP:=Lib.hid (show ∀ j u w,C0 j u w→w.cell? ⟨g,4,none⟩=some (.map (some m)) from fun j u w hc=>(HWX.out j u w hc).1)
    have HKK:=Lib.hid (show ∀ j u w,C0 j u w→w.cell? ⟨wr.heap.size,0,none⟩=some (.int .i64 (p.k:Int)) from fun j u w hc=>(cell_row (HWX.out j u w hc).2 0).1)
    have HLK:=Lib.hid (show ∀ j u w,C0 j u w→j≤0→(Instr.lookup 92 (.map (some m)) (.int .i64 (p.k:Int)) false).run Tryz.prog w=.ok (.func (.func f) #[.pointer (some ⟨g,0,none⟩)] #[]) w from fun j u w hc hj=>by rw[HA.out j u w hc hj];exact HL0.out)
    have HPV:=Lib.hid (show ∀ j u w,C0 j u w→j≤0→(Instr.loadAt 105 (.pointer (some ⟨wr.heap.size,0,none⟩))).run Tryz.prog w=.ok (.agg #[.int .i64 (p.k:Int),.string (mkS p.t),.string (mkS p.o),.bool p.q,.slice Aw p.w.length cw]) w from fun j u w hc hj=>by rw[HA.out j u w hc hj];exact HP1.out)
    have H0:=Lib.hid (show C0 0 undef wb.drew by rw[hC0];exact .inl ⟨rfl,rfl⟩)
    have H1:=Lib.hid (show ∀ w9,Wt w9 (Xo X W.heap.size (.slice Ar i cr)) g m ez→wb.drew.grownBy w9 (some g)→C0 1 (rv r2) w9 from fun w9 hw hg=>by
     rw[hC0]
     exact .inr (.inl ⟨rfl,rfl,(HS.out.later HLL.out).set hg hw,grown_cells hg HBX.out (Ne.symm HGN.out)⟩))
    have HA1:=Lib.hid (show ∀ u w,C0 1 u w→u=.agg #[.string (mkS (ft r2)),.string (mkS (fm r2))]∧(Rs W w X g m ez (.slice (some ⟨b,0,none⟩) n c0) ps out (.slice Ar i cr)∧w.heap[wr.heap.size]?=some (.cells #[.int .i64 (p.k:Int),.string (mkS p.t),.string (mkS p.o),.bool p.q,.slice Aw p.w.length cw] 105 (0,0))) from fun u w hc=>by
     rw[hC0] at hc
     rcases hc with⟨e,_⟩ | ⟨_,e⟩ | ⟨e,_⟩ | ⟨e,_⟩ | ⟨e,_⟩
     ·cases e
     ·exact e
     all_goals cases e)
    have H2:=Lib.hid (show ∀ w,(Rs W w X g m ez (.slice (some ⟨b,0,none⟩) n c0) ps out (.slice Ar i cr)∧w.heap[wr.heap.size]?=some (.cells #[.int .i64 (p.k:Int),.string (mkS p.t),.string (mkS p.o),.bool p.q,.slice Aw p.w.length cw] 105 (0,0)))→C0 2 (.slice (some ⟨w.heap.size,0,none⟩) 1 1) (w.alloc (.cells #[.string (mkS (ft r2)),.string (mkS (fm r2))] 37)) from fun w h=>by rw[hC0];exact .inr (.inr (.inl ⟨rfl,w,h,rfl,rfl⟩)))
    have HA2:=Lib.hid (show ∀ u w,C0 2 u w→∃ w1,(Rs W w1 X g m ez (.slice (some ⟨b,0,none⟩) n c0) ps out (.slice Ar i cr)∧w1.heap[wr.heap.size]?=some (.cells #[.int .i64 (p.k:Int),.string (mkS p.t),.string (mkS p.o),.bool p.q,.slice Aw p.w.length cw] 105 (0,0)))∧u=.slice (some ⟨w1.heap.size,0,none⟩) 1 1∧w=w1.alloc (.cells #[.string (mkS (ft r2)),.string (mkS (fm r2))] 37) from fun u w hc=>by
     rw[hC0] at hc
     rcases hc with⟨e,_⟩ | ⟨e,_⟩ | ⟨_,e⟩ | ⟨e,_⟩ | ⟨e,_⟩
     ·cases e
     ·cases e
     ·exact e
     all_goals cases e)
    have HAP:=Lib.hid (show ∀ w1,(Rs W w1 X g m ez (.slice (some ⟨b,0,none⟩) n c0) ps out (.slice Ar i cr)∧w1.heap[wr.heap.size]?=some (.cells #[.int .i64 (p.k:Int),.string (mkS p.t),.string (mkS p.o),.bool p.q,.slice Aw p.w.length cw] 105 (0,0)))→∃ v' w',(Builtin.append_ #[30,30] 30 #[.slice Ar i cr,.slice (some ⟨w1.heap.size,0,none⟩) 1 1]).run Tryz.prog (w1.alloc (.cells #[.string (mkS (ft r2)),.string (mkS (fm r2))] 37))=.ok v' w'∧GrewK w1 w' (W.heap.size+1) 37 2 (.slice Ar i cr) v' (i+1) (rows out++[.string (mkS (ft r2)),.string (mkS (fm r2))]) from fun w1 h=>run_appK (P:=Tryz.prog) w1 #[.string (mkS (ft r2)),.string (mkS (fm r2))] 2 (by omega) rfl (by intro u hu;simp at hu;rcases hu with rfl | rfl <;> rfl) 30 30 37 i0 _ 32 Tryz.underlying30 hif hz0 hz1 hz2 rfl (W.heap.size+1) (.slice Ar i cr) i (rows out) (h.1.own' HLN.out) (by omega) (by omega) (lt_of_block h.1.rs))
    have H3:=Lib.hid (show ∀ w1 v' w',(Rs W w1 X g m ez (.slice (some ⟨b,0,none⟩) n c0) ps out (.slice Ar i cr)∧w1.heap[wr.heap.size]?=some (.cells #[.int .i64 (p.k:Int),.string (mkS p.t),.string (mkS p.o),.bool p.q,.slice Aw p.w.length cw] 105 (0,0)))→GrewK w1 w' (W.heap.size+1) 37 2 (.slice Ar i cr) v' (i+1) (rows out++[.string (mkS (ft r2)),.string (mkS (fm r2))])→C0 3 v' w' from fun w1 v' w' h h3=>by
     rw[hC0]
     exact .inr (.inr (.inr (.inl ⟨rfl,h.1.push HLN.out h3,(h3.grown.block _ (lt_of_block h.2) (fun e=>HNO.out e.symm)).trans h.2⟩))))
    have HA3:=Lib.hid (show ∀ u w,C0 3 u w→∃ A4 n4 k4,u=.slice A4 n4 k4∧(Rs W w X g m ez (.slice (some ⟨b,0,none⟩) n c0) ps (out++[r2]) u∧w.heap[wr.heap.size]?=some (.cells #[.int .i64 (p.k:Int),.string (mkS p.t),.string (mkS p.o),.bool p.q,.slice Aw p.w.length cw] 105 (0,0))) from fun u w hc=>by
     rw[hC0] at hc
     rcases hc with⟨e,_⟩ | ⟨e,_⟩ | ⟨e,_⟩ | ⟨_,e⟩ | ⟨e,_⟩
     ·cases e
     ·cases e
     ·cases e
     ·obtain⟨A4,k4,e4,_⟩:=own_any e.1.own
      exact⟨A4,_,k4,e4,e⟩
     ·cases e)
    have H4:=Lib.hid (show ∀ u w,(Rs W w X g m ez (.slice (some ⟨b,0,none⟩) n c0) ps (out++[r2]) u∧w.heap[wr.heap.size]?=some (.cells #[.int .i64 (p.k:Int),.string (mkS p.t),.string (mkS p.o),.bool p.q,.slice Aw p.w.length cw] 105 (0,0)))→C0 4 u w from fun u w h=>by rw[hC0];exact .inr (.inr (.inr (.inr ⟨rfl,h⟩))))
    have HF:=Lib.hid (show ∀ u w,C0 4 u w→Rs W w X g m ez (.slice (some ⟨b,0,none⟩) n c0) ps (out++[r2]) u from fun u w hc=>by
     rw[hC0] at hc
     rcases hc with⟨e,_⟩ | ⟨e,_⟩ | ⟨e,_⟩ | ⟨e,_⟩ | ⟨_,e⟩
     ·cases e
     ·cases e
     ·cases e
     ·cases e
     ·exact e.1)
    clear hC0
    refine wp_region_seqE (by kernel_rfl) [9,10,11,12] (C0) [some (.slice Ar i cr),some (.pointer (some ⟨g,0,none⟩)),some (.pointer (some ⟨g,0,none⟩)),some (.pointer (some ⟨g,4,none⟩)),some (.map (some m)),some (.pointer (some ⟨wr.heap.size,0,none⟩)),some (.int .i64 (p.k:Int)),some (.func (.func f) #[.pointer (some ⟨g,0,none⟩)] #[]),some (.agg #[.int .i64 (p.k:Int),.string (mkS p.t),.string (mkS p.o),.bool p.q,.slice Aw p.w.length cw]),none,none,none,none] (by decide) (by decide) (by kernel_rfl) (by kernel_rfl) 5 (by kernel_rfl) (H0.out) ?_ ?_
    ·refine⟨?_,?_,?_,?_,?_,?_,?_,?_,?_,?_,?_,?_,?_,trivial⟩
     ·
      refine OwesSE.q rfl fun a w j u hC hb he hs=>⟨rfl,?_⟩
      have e5:a.tmps.getD 5 undef=.slice Ar i cr:=he (by have:=hb 3 12 rfl rfl;simp only[List.length_cons,List.length_nil];omega)
      refine ValWp.pure (v:=.slice Ar i cr) (fun K' hK'=>?_) ⟨rfl,rfl⟩
      simp only[ValWp,execOp,Act.eval,e5]
      go_simp
      all_goals exact hK'
     ·
      refine OwesSE.q rfl fun a w j u hC hb he hs=>⟨rfl,?_⟩
      have e0:a.tmps.getD 0 undef=.pointer (some ⟨g,0,none⟩):=hs.free 0 rfl
      refine ValWp.pure (v:=.pointer (some ⟨g,0,none⟩)) (fun K' hK'=>?_) ⟨rfl,rfl⟩
      simp only[ValWp,execOp,Act.eval,e0]
      go_simp
      all_goals exact hK'
     ·
      refine OwesSE.q rfl fun a w j u hC hb he hs=>⟨rfl,?_⟩
      have e15:a.tmps.getD 15 undef=.pointer (some ⟨g,0,none⟩):=hs.dep 1 _ rfl rfl
      refine ValWp.pure (v:=.pointer (some ⟨g,0,none⟩)) (fun K' hK'=>?_) ⟨rfl,rfl⟩
      simp only[ValWp,execOp,Act.eval,e15]
      go_simp
      all_goals exact hK'
     ·
      refine OwesSE.q rfl fun a w j u hC hb he hs=>⟨rfl,?_⟩
      have e16:a.tmps.getD 16 undef=.pointer (some ⟨g,0,none⟩):=hs.dep 2 _ rfl rfl
      refine ValWp.pure (v:=.pointer (some ⟨g,4,none⟩)) (fun K' hK'=>?_) ⟨rfl,rfl⟩
      simp only[ValWp,execOp,Act.eval,e16]
      go_simp
      all_goals exact hK'
     ·
      refine OwesSE.q rfl fun a w j u hC hb he hs=>⟨rfl,?_⟩
      have e17:a.tmps.getD 17 undef=.pointer (some ⟨g,4,none⟩):=hs.dep 3 _ rfl rfl
      have q0:=HMP.out j u w hC
      refine ValWp.pure (v:=.map (some m)) (fun K' hK'=>?_) ⟨rfl,rfl⟩
      simp only[ValWp,execOp,Act.eval,e17]
      go_simp
      all_goals exact hK'
     ·
      refine OwesSE.q rfl fun a w j u hC hb he hs=>⟨rfl,?_⟩
      have e7:a.tmps.getD 7 undef=.pointer (some ⟨wr.heap.size,0,none⟩):=hs.free 7 rfl
      refine ValWp.pure (v:=.pointer (some ⟨wr.heap.size,0,none⟩)) (fun K' hK'=>?_) ⟨rfl,rfl⟩
      simp only[ValWp,execOp,Act.eval,e7]
      go_simp
      all_goals exact hK'
     ·
      refine OwesSE.q rfl fun a w j u hC hb he hs=>⟨rfl,?_⟩
      have e19:a.tmps.getD 19 undef=.pointer (some ⟨wr.heap.size,0,none⟩):=hs.dep 5 _ rfl rfl
      have q0:=HKK.out j u w hC
      refine ValWp.pure (v:=.int .i64 (p.k:Int)) (fun K' hK'=>?_) ⟨rfl,rfl⟩
      simp only[ValWp,execOp,Act.eval,e19]
      go_simp
      all_goals exact hK'
     ·
      refine OwesSE.q rfl fun a w j u hC hb he hs=>⟨rfl,?_⟩
      have e18:a.tmps.getD 18 undef=.map (some m):=hs.dep 4 _ rfl rfl
      have e20:a.tmps.getD 20 undef=.int .i64 (p.k:Int):=hs.dep 6 _ rfl rfl
      have hj:=hb 0 9 rfl rfl
      have q0:=HLK.out j u w hC hj
      refine ValWp.pure (v:=.func (.func f) #[.pointer (some ⟨g,0,none⟩)] #[]) (fun K' hK'=>?_) ⟨rfl,rfl⟩
      simp only[ValWp,execOp,Act.eval,e18,e20]
      go_simp
      all_goals exact hK'
     ·
      refine OwesSE.q rfl fun a w j u hC hb he hs=>⟨rfl,?_⟩
      have e7:a.tmps.getD 7 undef=.pointer (some ⟨wr.heap.size,0,none⟩):=hs.free 7 rfl
      have hj:=hb 0 9 rfl rfl
      exact ValWp.loadR rfl e7 (HPV.out j u w hC hj) ⟨rfl,rfl⟩
     ·
      refine OwesSE.w rfl fun a w u hC hl hs=>⟨rfl,fun K hK=>?_⟩
      have e21:a.tmps.getD 21 undef=.func (.func f) #[.pointer (some ⟨g,0,none⟩)] #[]:=hs.dep 7 _ rfl rfl
      have e22:a.tmps.getD 22 undef=.agg #[.int .i64 (p.k:Int),.string (mkS p.t),.string (mkS p.o),.bool p.q,.slice Aw p.w.length cw]:=hs.dep 8 _ rfl rfl
      have hw:=HA.out 0 u w hC (Nat.le_refl _)
      subst hw
      refine wp_callV 21 22 _ f _ _ rfl e21 e22 HEN.out (HCA.out.mono ?_)
      rintro e9 w9 ⟨rfl,hw9,hf⟩
      exact .inl ⟨_,rfl,hK _ _ trivial (H1.out w9 hw9 hf)⟩
     ·
      refine OwesSE.w rfl fun a w u hC hl hs=>⟨rfl,fun K hK=>?_⟩
      have e23:a.tmps.getD 23 undef=u:=hl
      obtain⟨hu,h1⟩:=HA1.out u w hC
      subst hu
      refine wp_of_val ?_
      refine ValWp.pure (v:=.slice (some ⟨w.heap.size,0,none⟩) 1 1) (w':=w.alloc (.cells #[.string (mkS (ft r2)),.string (mkS (fm r2))] 37)) (fun K' hK'=>?_) (hK _ _ trivial (H2.out w h1))
      simp only[ValWp,execOp,Act.eval,List.map_toArray,List.map_cons,List.map_nil,e23]
      go_simp
      all_goals exact hK'
     ·
      refine OwesSE.w rfl fun a w u hC hl hs=>⟨rfl,fun K hK=>?_⟩
      have e14:a.tmps.getD 14 undef=.slice Ar i cr:=hs.dep 0 _ rfl rfl
      have e24:a.tmps.getD 24 undef=u:=hl
      obtain⟨w1,h1,hu,hw⟩:=HA2.out u w hC
      subst hu
      subst hw
      obtain⟨v',w',hrun,h3⟩:=HAP.out w1 h1
      exact owes_append hrun rfl e14 e24 (hK v' w' trivial (H3.out w1 v' w' h1 h3))
     ·
      refine OwesSE.w rfl fun a w u hC hl hs=>⟨rfl,fun K hK=>?_⟩
      have e25:a.tmps.getD 25 undef=u:=hl
      obtain⟨A4,n4,k4,hu,h4⟩:=HA3.out u w hC
      subst hu
      refine wp_of_val ?_
      refine ValWp.pure (v:=.slice A4 n4 k4) (w':=w) (fun K' hK'=>?_) (hK _ _ trivial (H4.out _ w h4))
      simp only[ValWp,execOp,Act.eval,e25]
      go_simp
      all_goals exact hK'
    ·intro a w u hC hl hd hsz hfree hs
     obtain⟨u14,hu14⟩:∃ u,u=a.tmps.getD 14 undef:=⟨_,rfl⟩
     obtain⟨u15,hu15⟩:∃ u,u=a.tmps.getD 15 undef:=⟨_,rfl⟩
     obtain⟨u16,hu16⟩:∃ u,u=a.tmps.getD 16 undef:=⟨_,rfl⟩
     obtain⟨u17,hu17⟩:∃ u,u=a.tmps.getD 17 undef:=⟨_,rfl⟩
     obtain⟨u18,hu18⟩:∃ u,u=a.tmps.getD 18 undef:=⟨_,rfl⟩
     obtain⟨u19,hu19⟩:∃ u,u=a.tmps.getD 19 undef:=⟨_,rfl⟩
     obtain⟨u20,hu20⟩:∃ u,u=a.tmps.getD 20 undef:=⟨_,rfl⟩
     obtain⟨u21,hu21⟩:∃ u,u=a.tmps.getD 21 undef:=⟨_,rfl⟩
     obtain⟨u22,hu22⟩:∃ u,u=a.tmps.getD 22 undef:=⟨_,rfl⟩
     obtain⟨u23,hu23⟩:∃ u,u=a.tmps.getD 23 undef:=⟨_,rfl⟩
     obtain⟨u24,hu24⟩:∃ u,u=a.tmps.getD 24 undef:=⟨_,rfl⟩
     obtain⟨u25,hu25⟩:∃ u,u=a.tmps.getD 25 undef:=⟨_,rfl⟩
     have hal:AllAt a 0 [_,_,_,_,_,u,_,_,_,_,_,_,_,_,u14,u15,u16,u17,u18,u19,u20,u21,u22,u23,u24,u25,_,_,_]:=⟨hfree 0 rfl,hfree 1 rfl,hfree 2 rfl,hfree 3 rfl,hfree 4 rfl,hl,hfree 6 rfl,hfree 7 rfl,hfree 8 rfl,hfree 9 rfl,hfree 10 rfl,hfree 11 rfl,hfree 12 rfl,hfree 13 rfl,hu14.symm,hu15.symm,hu16.symm,hu17.symm,hu18.symm,hu19.symm,hu20.symm,hu21.symm,hu22.symm,hu23.symm,hu24.symm,hu25.symm,hfree 26 rfl,hfree 27 rfl,hfree 28 rfl,trivial⟩
     have hlit:=fun h=>act_lit hd h hal
     rw[hlit hsz]
     simp only[Array.getD_eq_getD_getElem?,List.getElem?_toArray,List.getElem?_cons_zero,List.getElem?_cons_succ,Option.getD_some]
     clear hlit hal hd hsz hfree hs hu14 hu15 hu16 hu17 hu18 hu19 hu20 hu21 hu22 hu23 hu24 hu25
     have HSF:=Lib.hid (HF.out u w hC)
     obtain⟨A4,k4,hu4,_⟩:=own_any HSF.out.own
     clear hC hl
     go_wp2
     go_roundw
     case rel=>exact⟨i+1,ez,out++[r2],by go_num,by omega,by rw[List.length_append,←HLN.out];rfl,HSM.out,HRW3.out,HSF.out⟩
     case measure=>simp[intOf];omega
  ·have hin:i=n:=by omega
   have hend:rowF part e ps []=.ok out.flatten e':=by
    rw[hrow,show ps.drop i=[] from List.drop_eq_nil_of_le (by rw[←HN.out];omega)]
    rfl
   have hsml:out.flatten.length≤100000:=hfl
   have hj:=Jo.join_v _ _ wr (Jo.RdR.of_own hs.own) (by rw[allC_pr];omega) (by rw[List.length_map];omega) (by
    intro x hx
    obtain⟨f,hfm,rfl⟩:=List.mem_map.1 hx
    show (ft f).length≤_
    have h1:=mem_flat hfm
    unfold ft;rw[List.length_map];omega)
   rw[allC_pr] at hj
   have HJ:=Lib.hid (show Calls Tryz.prog 63 #[.slice Ar i cr] wr fun e w'=>e=.returned (.agg #[.string (mkS (ft out.flatten)),.string (mkS (fm out.flatten))])∧Later wr w' from hj)
   have hni:¬ (i:Int)<(n:Int):=by omega
   have HEND:=Lib.hid hend
   clear hin hj hfl hrow hlen hend hsml hs
   go_wp2_with (go_at_call 63;(with_reducible refine HJ.out.mono ?_);rintro e w3 ⟨rfl,hl3⟩;(have hn3:=later_cells hl3 HS.out.rs);obtain⟨r0,z0⟩:=cell_row hn3 0;obtain⟨r1,z1⟩:=cell_row hn3 1;(have HN3:=Lib.hid hn3);(have HL3:=Lib.hid hl3);clear hl3 hn3)
   refine end_row rfl rfl HN3.out rfl rfl fun w4 h4=>?_
   rw[HEND.out]
   refine⟨rfl,?_,?_⟩
   ·have hs3:=HS.out.later HL3.out
    have hgl:=hs3.gl
    obtain⟨va,aa,h1,h2⟩:=hs3.wt.bx
    have hglo:=hs3.glo
    refine⟨⟨va,aa,grown_cells h4 h1 (by omega),(h2.grown h4 fun k e=>.inr (.inr (Option.some.inj e).symm)).less fun k hk=>.inl hk⟩,hs3.xg,fun k hk=>Nat.lt_of_lt_of_le (hs3.xw k hk) (Nat.le_trans hs3.low.size h4.size),hs3.wt.tab.kept h4 (fun e=>?_),hs3.wt.sm,hs3.wt.up,vd_grown hs3.wt.vd h4 (fun k e=>?_),hs3.wt.lo,hs3.t0.kept ⟨h4.os.trans hs3.low.os,h4.tape.trans hs3.low.tape,h4.output.trans hs3.low.output,Nat.le_trans hs3.low.size h4.size,fun k hk hn=>(h4.block k (Nat.lt_of_lt_of_le hk hs3.low.size) (fun e=>by have:=Option.some.inj e;omega)).trans (hs3.low.block k hk hn)⟩⟩
    ·exact hs3.wt.tab.apart hs3.rs (Option.some.inj e)
    ·have:=Option.some.inj e
     exact⟨by omega,by omega,by omega⟩
   ·have hs3:=HS.out.later HL3.out
    have hgl:=hs3.gl
    exact⟨h4.os.trans hs3.low.os,h4.tape.trans hs3.low.tape,h4.output.trans hs3.low.output,Nat.le_trans hs3.low.size h4.size,fun k hk hn=>(h4.block k (Nat.lt_of_lt_of_le hk hs3.low.size) (fun e=>by have:=Option.some.inj e;omega)).trans (hs3.low.block k hk hn)⟩
end Ey
end Go.Proofs.YtipdgmjplnibeaaGreatDoor
