/- The writer's node: a node's text, by its kind. No premises. -/
import Derived.Test.YtkkchkkpnlnbgaaGreatDoorPk
import Derived.BigQuiet
set_option maxRecDepth 100000
set_option maxHeartbeats 3200000
namespace Go.Proofs.YtkkchkkpnlnbgaaGreatDoor
open Go.RowKit Go.Maps
open Lx (nl)
open Um (Mid kid Rdy Beg Tr)
namespace Uw
structure Tree (C:WC):Prop where
 tr:Tr C.ns
 rd:RdN C.W0 C.A C.ns.length C.ns
 nf:∀ k (h:k<C.ns.length),∃ g Aw Ar Ak cw cr ck ln,C.A=some ⟨g,0,none⟩∧NodeC C.W0 g (k*8) C.ns[k] Aw Ar Ak cw cr ck ln∧C.ns[k].words.length≤cw
 sm:∀ n∈C.ns,Sx.Sm n
 few:C.ns.length≤100000
 kids:∀ n∈C.ns,n.kids.length≤100000
section
variable {W W':World} {X:Nat→Prop} {g:Nat} {C:WC} {s:Up.S} {B B1:List Bool} {p k:Nat} {nd:Up.S→Nat→Up.S}
theorem row_of (hT:Tr C.ns) (hp:p<C.ns.length):Row C.ns p [] C.ns[p].kids:=
 ⟨fun _ hk=>⟨hp,hk⟩,hT.nodup p hp,by simp⟩
theorem meth_v (hT:Tree C) (HK:Kids g C nd p) (hp:p<C.ns.length) {Aw Ar Ak:Option Addr} {cw cr ck:Nat} {ln:Int} (hF:NodeF C C.ns[p] Aw Ar Ak) (hcw:C.ns[p].words.length≤cw):∃ f,fnN C.ns[p].kind=some f∧(∀ args w,(callFunc f args).run Tryz.prog w=.ok (.enter f args) w)∧C.ns[p].kind≤13∧∀ W X s B1,WM W X g C s p B1 []→XL X W→Up.size (Up.body nd (Up.isIf C.ns) s C.ns[p])≤2300000000000→Calls Tryz.prog f #[.pointer (some ⟨g,0,none⟩),.agg (nodeA C.ns[p] Aw Ar Ak cw cr ck ln)] W fun e W'=>e=.returned (.tuple #[])∧WM W' X g C (Up.body nd (Up.isIf C.ns) s C.ns[p]) p B1 C.ns[p].kids∧Fr X W W':=by
 have hrow:=row_of hT.tr hp
 have hs:=hT.tr.shape _ (List.getElem_mem hp)
 have hlt:∀ c∈C.ns[p].kids,c<C.ns.length:=fun c hc=>Nat.lt_trans (hT.tr.lt p hp c hc) hp
 obtain⟨n,hn⟩:∃ n,n=C.ns[p]:=⟨_,rfl⟩
 rw[←hn] at hF hcw hrow hs hlt⊢
 have hs0:=hs
 unfold Sx.shapeB at hs0
 by_cases k1:n.kind=1
 ·refine⟨_,by unfold fnN;rw[if_pos k1],fun _ _=>run_enter Tryz.func69 rfl rfl _ _,by omega,fun W X s B1 h hX hl=>?_⟩
  rw[if_pos k1] at hs0
  simp only[Bool.and_eq_true,beq_iff_eq] at hs0
  have hk:n.kids=[]:=List.eq_nil_of_length_eq_zero hs0.1.1
  have hb:Up.body nd (Up.isIf C.ns) s n=Up.put (Up.redirs (decide (n.words≠[])) s n.redirs) (Up.words [32] n.words):=by unfold Up.body;rw[if_pos k1]
  rw[hb] at hl⊢
  rw[hk]
  exact simple_v h hX hF hl
 rw[if_neg k1] at hs0
 by_cases k2:n.kind=2
 ·refine⟨_,by unfold fnN;rw[if_neg k1,if_pos k2],fun _ _=>run_enter Tryz.func70 rfl rfl _ _,by omega,fun W X s B1 h hX hl=>?_⟩
  have hb:Up.body nd (Up.isIf C.ns) s n=Up.kids nd [32,124,32] (if n.flag then Up.put s [33,32] else s) n.kids:=by unfold Up.body;rw[if_neg k1,if_pos k2]
  rw[hb] at hl⊢
  by_cases hfl:n.flag=true
  ·rw[if_pos hfl] at hl⊢
   have:=pipeN_v h hX hF HK hrow hfl hl (cw:=cw) (cr:=cr) (ck:=ck) (ln:=ln)
   simpa using this
  ·rw[if_neg hfl] at hl⊢
   have:=pipe_v h hX hF HK hrow (by simpa using hfl) hl (cw:=cw) (cr:=cr) (ck:=ck) (ln:=ln)
   simpa using this
 rw[if_neg k2] at hs0
 by_cases k3:n.kind=3
 ·refine⟨_,by unfold fnN;rw[if_neg k1,if_neg k2,if_pos k3],fun _ _=>run_enter Tryz.func71 rfl rfl _ _,by omega,fun W X s B1 h hX hl=>?_⟩
  have hb:Up.body nd (Up.isIf C.ns) s n=Up.kids nd [32,38,38,32] s n.kids:=by unfold Up.body;rw[if_neg k1,if_neg k2,if_pos k3]
  rw[hb] at hl⊢
  have:=and_v h hX hF HK hrow hl (cw:=cw) (cr:=cr) (ck:=ck) (ln:=ln)
  simpa using this
 by_cases k4:n.kind=4
 ·refine⟨_,by unfold fnN;rw[if_neg k1,if_neg k2,if_neg k3,if_pos k4],fun _ _=>run_enter Tryz.func72 rfl rfl _ _,by omega,fun W X s B1 h hX hl=>?_⟩
  have hb:Up.body nd (Up.isIf C.ns) s n=Up.kids nd [32,124,124,32] s n.kids:=by unfold Up.body;rw[if_neg k1,if_neg k2,if_neg k3,if_pos k4]
  rw[hb] at hl⊢
  have:=or_v h hX hF HK hrow hl (cw:=cw) (cr:=cr) (ck:=ck) (ln:=ln)
  simpa using this
 by_cases k5:n.kind=5
 ·refine⟨_,by unfold fnN;rw[if_neg k1,if_neg k2,if_neg k3,if_neg k4,if_pos k5],fun _ _=>run_enter Tryz.func73 rfl rfl _ _,by omega,fun W X s B1 h hX hl=>?_⟩
  have hb:Up.body nd (Up.isIf C.ns) s n=Up.lines nd s n.kids:=by unfold Up.body;rw[if_neg k1,if_neg k2,if_neg k3,if_neg k4,if_pos k5]
  rw[hb] at hl⊢
  have:=seq_v h hX hF HK hrow hl (cw:=cw) (cr:=cr) (ck:=ck) (ln:=ln)
  simpa using this
 have hbase:n.kind≠13→n.kind≠10→∀ s,Up.body nd (Up.isIf C.ns) s n=Up.behind (Up.compound nd (Up.isIf C.ns) s n) n.redirs:=fun h13 h10 s=>by unfold Up.body;rw[if_neg k1,if_neg k2,if_neg k3,if_neg k4,if_neg k5,if_neg h13,if_neg h10]
 by_cases k6:n.kind=6
 ·refine⟨_,by unfold fnN;rw[if_neg k1,if_neg k2,if_neg k3,if_neg k4,if_neg k5,if_pos k6],fun _ _=>run_enter Tryz.func74 rfl rfl _ _,by omega,fun W X s B1 h hX hl=>?_⟩
  rw[if_neg (by rw[k6];decide),if_pos k6] at hs0
  simp only[Bool.or_eq_true,beq_iff_eq] at hs0
  rcases hs0 with h0 | h0
  ·match hk:n.kids,h0 with
   | [a,b],_=>
    have hb:Up.body nd (Up.isIf C.ns) s n=Up.behind (Up.put (nd (Up.line (Up.put (nd (Up.line (Up.put s [105,102])) a) [116,104,101,110])) b) [102,105]) n.redirs:=by
     rw[hbase (by rw[k6];decide) (by rw[k6];decide)]
     unfold Up.compound
     simp only[if_pos k6,hk]
     rfl
    rw[hb] at hl⊢
    have:=choice2_v h hX hF HK a b hk hrow hl (cw:=cw) (cr:=cr) (ck:=ck) (ln:=ln)
    rw[hk,List.nil_append] at this
    exact this
  ·match hk:n.kids,h0 with
   | [a,b,c],_=>
    have hb:Up.body nd (Up.isIf C.ns) s n=Up.behind (Up.put (othS C.ns nd (Up.line (Up.put (nd (Up.line (Up.put (nd (Up.line (Up.put s [105,102])) a) [116,104,101,110])) b) [101,108,115,101])) c) [102,105]) n.redirs:=by
     rw[hbase (by rw[k6];decide) (by rw[k6];decide)]
     unfold Up.compound
     simp only[if_pos k6,hk]
     rfl
    rw[hb] at hl⊢
    have:=choice3_v h hX hF HK a b c hk hrow hT.rd hT.few (hlt c (by rw[hk];simp)) hl (cw:=cw) (cr:=cr) (ck:=ck) (ln:=ln)
    rw[hk,List.nil_append] at this
    exact this
 rw[if_neg k6] at hs0
 by_cases k7:n.kind=7
 ·refine⟨_,by unfold fnN;rw[if_neg k1,if_neg k2,if_neg k3,if_neg k4,if_neg k5,if_neg k6,if_pos k7],fun _ _=>run_enter Tryz.func75 rfl rfl _ _,by omega,fun W X s B1 h hX hl=>?_⟩
  rw[if_pos (.inr (.inr k7))] at hs0
  simp only[beq_iff_eq] at hs0
  match hk:n.kids,hs0 with
  | [a,b],_=>
   have hb:Up.body nd (Up.isIf C.ns) s n=Up.behind (Up.put (Up.part nd (Up.part nd s (if n.flag then [117,110,116,105,108] else [119,104,105,108,101]) a) Up.kDO b) Up.kDONE) n.redirs:=by
    rw[hbase (by rw[k7];decide) (by rw[k7];decide)]
    unfold Up.compound
    simp only[if_neg k6,if_pos k7,hk]
    rfl
   rw[hb] at hl⊢
   by_cases hfl:n.flag=true
   ·rw[if_pos hfl] at hl⊢
    have:=until_v h hX hF HK a b hk hrow hfl hl (cw:=cw) (cr:=cr) (ck:=ck) (ln:=ln)
    rw[hk,List.nil_append] at this
    exact this
   ·rw[if_neg hfl] at hl⊢
    have:=while_v h hX hF HK a b hk hrow (by simpa using hfl) hl (cw:=cw) (cr:=cr) (ck:=ck) (ln:=ln)
    rw[hk,List.nil_append] at this
    exact this
 rw[if_neg (by rintro(e | e | e);exact k3 e;exact k4 e;exact k7 e)] at hs0
 by_cases k9:n.kind=9
 ·refine⟨_,by unfold fnN;rw[if_neg k1,if_neg k2,if_neg k3,if_neg k4,if_neg k5,if_neg k6,if_neg k7,if_neg (by rw[k9];decide),if_pos k9],fun _ _=>run_enter Tryz.func77 rfl rfl _ _,by omega,fun W X s B1 h hX hl=>?_⟩
  have hb:Up.body nd (Up.isIf C.ns) s n=Up.behind (Up.put (Up.kids nd [] (Up.line (Up.put s ([99,97,115,101,32]++n.text++[32,105,110]))) n.kids) [101,115,97,99]) n.redirs:=by
   rw[hbase (by rw[k9];decide) (by rw[k9];decide)]
   unfold Up.compound
   simp only[if_neg k6,if_neg k7,if_neg (show ¬ n.kind=8 by rw[k9];decide),if_pos k9]
  rw[hb] at hl⊢
  have:=match_v h hX hF HK hrow hl (cw:=cw) (cr:=cr) (ck:=ck) (ln:=ln)
  rw[List.nil_append] at this
  exact this
 by_cases hg:n.kind=8∨n.kind=11∨n.kind=12∨n.kind=13∨n.kind=10
 ·rw[if_pos hg] at hs0
  simp only[beq_iff_eq] at hs0
  match hk:n.kids,hs0 with
  | [a],_=>
   by_cases k8:n.kind=8
   ·refine⟨_,by unfold fnN;rw[if_neg k1,if_neg k2,if_neg k3,if_neg k4,if_neg k5,if_neg k6,if_neg k7,if_pos k8],fun _ _=>run_enter Tryz.func76 rfl rfl _ _,by omega,fun W X s B1 h hX hl=>?_⟩
    have hb:Up.body nd (Up.isIf C.ns) s n=Up.behind (Up.put (Up.part nd (Up.line (if n.flag then Up.put s ([102,111,114,32]++n.text) else Up.put (Up.put s ([102,111,114,32]++n.text)) ([32,105,110]++(n.words.flatMap fun w=>32::w)))) Up.kDO a) Up.kDONE) n.redirs:=by
     rw[hbase (by rw[k8];decide) (by rw[k8];decide)]
     unfold Up.compound
     simp only[if_neg k6,if_neg k7,if_pos k8,hk]
     rfl
    rw[hb] at hl⊢
    by_cases hfl:n.flag=true
    ·rw[if_pos hfl] at hl⊢
     have:=eachT_v h hX hF HK a hk hrow hfl hl (cw:=cw) (cr:=cr) (ck:=ck) (ln:=ln)
     rw[hk,List.nil_append] at this
     exact this
    ·rw[if_neg hfl] at hl⊢
     have:=eachF_v h hX hF HK a hk hrow (by simpa using hfl) hl (cw:=cw) (cr:=cr) (ck:=ck) (ln:=ln)
     rw[hk,List.nil_append] at this
     exact this
   by_cases k10:n.kind=10
   ·refine⟨_,by unfold fnN;rw[if_neg k1,if_neg k2,if_neg k3,if_neg k4,if_neg k5,if_neg k6,if_neg k7,if_neg k8,if_neg k9,if_pos k10],fun _ _=>run_enter Tryz.func78 rfl rfl _ _,by omega,fun W X s B1 h hX hl=>?_⟩
    have hb:Up.body nd (Up.isIf C.ns) s n=Up.line (Up.put (Up.part nd s ([40]++Up.words [124] n.words++[41]) a) [59,59]):=by
     unfold Up.body
     rw[if_neg k1,if_neg k2,if_neg k3,if_neg k4,if_neg k5,if_neg (by rw[k10];decide),if_pos k10,hk]
     rfl
    rw[hb] at hl⊢
    have:=item_v h hX hF hcw HK a hk hrow hl (cr:=cr) (ck:=ck) (ln:=ln)
    rw[hk,List.nil_append] at this
    exact this
   by_cases k13:n.kind=13
   ·refine⟨_,by unfold fnN;rw[if_neg k1,if_neg k2,if_neg k3,if_neg k4,if_neg k5,if_neg k6,if_neg k7,if_neg k8,if_neg k9,if_neg k10,if_neg (by rw[k13];decide),if_neg (by rw[k13];decide),if_pos k13],fun _ _=>run_enter Tryz.func81 rfl rfl _ _,by omega,fun W X s B1 h hX hl=>?_⟩
    have hb:Up.body nd (Up.isIf C.ns) s n=nd (Up.put s (n.text++[40,41,32])) a:=by
     unfold Up.body
     rw[if_neg k1,if_neg k2,if_neg k3,if_neg k4,if_neg k5,if_pos k13,hk]
     rfl
    rw[hb] at hl⊢
    have:=function_v h hX hF HK a hk hrow hl (cw:=cw) (cr:=cr) (ck:=ck) (ln:=ln)
    rw[hk,List.nil_append] at this
    exact this
   by_cases k11:n.kind=11
   ·refine⟨_,by unfold fnN;rw[if_neg k1,if_neg k2,if_neg k3,if_neg k4,if_neg k5,if_neg k6,if_neg k7,if_neg k8,if_neg k9,if_neg k10,if_pos k11],fun _ _=>run_enter Tryz.func79 rfl rfl _ _,by omega,fun W X s B1 h hX hl=>?_⟩
    have hb:Up.body nd (Up.isIf C.ns) s n=Up.behind (Up.put (Up.part nd s [123] a) [125]) n.redirs:=by
     rw[hbase k13 k10]
     unfold Up.compound
     simp only[if_neg k6,if_neg k7,if_neg k8,if_neg k9,if_pos k11,hk]
     rfl
    rw[hb] at hl⊢
    have:=group_v h hX hF HK a hk hrow hl (cw:=cw) (cr:=cr) (ck:=ck) (ln:=ln)
    rw[hk,List.nil_append] at this
    exact this
   ·have k12:n.kind=12:=by omega
    refine⟨_,by unfold fnN;rw[if_neg k1,if_neg k2,if_neg k3,if_neg k4,if_neg k5,if_neg k6,if_neg k7,if_neg k8,if_neg k9,if_neg k10,if_neg k11,if_pos k12],fun _ _=>run_enter Tryz.func80 rfl rfl _ _,by omega,fun W X s B1 h hX hl=>?_⟩
    have hb:Up.body nd (Up.isIf C.ns) s n=Up.behind (Up.put (Up.part nd s [40] a) [41]) n.redirs:=by
     rw[hbase k13 k10]
     unfold Up.compound
     simp only[if_neg k6,if_neg k7,if_neg k8,if_neg k9,if_neg k11,hk]
     rfl
    rw[hb] at hl⊢
    have:=sub_v h hX hF HK a hk hrow hl (cw:=cw) (cr:=cr) (ck:=ck) (ln:=ln)
    rw[hk,List.nil_append] at this
    exact this
 ·rw[if_neg hg] at hs0
  simp only[Bool.or_eq_true,beq_iff_eq] at hs0
  exact absurd hs0 (by rintro(e | e);exact k9 e;exact k5 e)
end
end Uw
end Go.Proofs.YtkkchkkpnlnbgaaGreatDoor
namespace Go.Proofs.YtkkchkkpnlnbgaaGreatDoor
open Go.RowKit Go.Maps
open Lx (nl)
open Um (Mid kid Rdy Beg Tr)
namespace Uw
section
variable {W W':World} {X:Nat→Prop} {g:Nat} {C:WC} {s:Up.S} {B B1:List Bool} {p k:Nat} {nd:Up.S→Nat→Up.S}
theorem beg_cell {A:Option Addr} {m c:Nat} {B:List Bool} {base:Nat} (h:W.ownsRow base 4 1 (.slice A m c) m (B.map tv)) (hk:k<B.length):∃ b,A=some ⟨b,0,none⟩∧W.cell? ⟨b,k,none⟩=some (.bool B[k]):=by
 exact Pz.row_cell h (by rw[List.getElem?_map,List.getElem?_eq_getElem hk];rfl)
theorem wpList_callW {ops:Array Oper} {rest:List Oper} {o:Oper} {a:Act} {w:World} {Q:Exit→Act→World→Prop} (hgd:o.guard=none) (i j:Tmp) (ats:Array TypeId) (f g:Nat) (v:Value) (hop:o.op=.call { callee:=.value (.tmp i),args:=#[.tmp j],argTypes:=ats }) (hi:a.tmps.getD i undef=fnW g f) (hj:a.tmps.getD j undef=v) (hent:∀ args w,(callFunc f args).run Tryz.prog w=.ok (.enter f args) w)
  (h:Calls Tryz.prog f #[.pointer (some ⟨g,0,none⟩),v] w fun e w'=>∃ r,e=.returned r∧wpList Tryz.prog ops Q rest (a.put o.dst r) w'):wpList Tryz.prog ops Q (o::rest) a w:=
 wpList_plain hgd fun K hK=>by
  have e1:execOp a.eval o=callFunc f #[.pointer (some ⟨g,0,none⟩),v]:=by
   unfold execOp
   simp[hop,resolve,Deferred.ofValue,invoke,Act.eval,hi,hj,fnW]
  unfold Oper.wp
  rw[e1,hent]
  refine h.mono fun e w' hh=>?_
  obtain⟨r,rfl,hk⟩:=hh
  exact hK _ _ hk
theorem own_write {w:World} {base b n c k:Nat} {e:TypeId} {xs:List Value} (h:w.ownsRow base e 1 (.slice (some ⟨b,0,none⟩) n c) n xs) (_hk:k<n) (u:Value):(w.setCell ⟨b,k,none⟩ u).ownsRow base e 1 (.slice (some ⟨b,0,none⟩) n c) n (xs.set k u):=by
 refine⟨by rw[List.length_set];exact h.1,?_⟩
 rcases h.2 with⟨h1,_⟩ | ⟨g,cap,cur,h1,h2,h3,h4,h5,h6,h7⟩
 ·cases h1
 ·injection h1 with e1 _ e3
  injection e1 with e1
  injection e1 with e1
  subst e1
  refine .inr ⟨b,cap,cur.setIfInBounds k u,by rw[e3],h2,set_row h3 k u,h4,h5,by simpa using h6,?_⟩
  rw[Array.toList_setIfInBounds,List.take_set,h7]
theorem begun_set {pa vb vh:Value} {H:List Sx.Arw} {b c k:Nat} (h:WMemX W X g C s B pa vb vh H) (hv:C.vB=.slice (some ⟨b,0,none⟩) C.ns.length c) (hk:k<C.ns.length):WMemX (W.setCell ⟨b,k,none⟩ (.bool true)) X g C s (B.set k true) pa vb vh H∧Fr X W (W.setCell ⟨b,k,none⟩ (.bool true)):=by
 have hbo:C.vB.ownBlock=some b:=by rw[hv];rfl
 have hbX:=h.bX b hbo
 have hs:=set_only W b k (.bool true)
 have hne:∀ {v:Value} {base size n:Nat} {e:TypeId} {xs:List Value},W.ownsRow base e size v n xs→e≠4→v.ownBlock=none∨v.ownBlock≠some b:=fun ho he=>by
  have:=own_ne ho h.beg he
  rwa[hbo] at this
 have hg:g≠b:=fun e=>h.ne_g h.beg (by decide) (by rw[hbo,e])
 have hm:C.m≠b:=fun e=>h.m_ne h.beg (by rw[hbo,e])
 have hbeg:(W.setCell ⟨b,k,none⟩ (.bool true)).ownsRow 0 4 1 C.vB C.ns.length ((B.set k true).map tv):=by
  have:=h.beg
  rw[hv] at this⊢
  have h1:=own_write this hk (tv true)
  rwa[←List.map_set] at h1
 exact⟨⟨(hs.block g h.lt (fun e=>hg (by injection e))).trans h.box,h.pa,h.gX,low_kept h.low hs (fun x e=>by injection e with e;rw[←e];exact h.ge hbX),h.lX,by rw[List.length_set];exact h.len,hbeg,h.bX,h.buf.kept hs (hne h.buf (by decide)),h.uX,h.hs.kept hs (hne h.hs (by decide)),h.hX,h.hm,h.sm,h.tab.kept hs (fun e=>hm (by injection e)),h.mX⟩,Fr.grown hs fun x e=>by injection e with e;rw[←e];exact hbX⟩
theorem step_v (hT:Tree C) (HK:Kids g C nd p) (hp:p<C.ns.length) (h:WMem W X g C s B) (hX:XL X W) (hr:Rdy C.T C.ns B p) (hl:Up.size (Up.body nd (Up.isIf C.ns) s C.ns[p])≤2300000000000):Calls Tryz.prog 32 #[.pointer (some ⟨g,0,none⟩),.int .i64 (p:Int)] W fun e W'=>e=.returned (.tuple #[])∧(∃ B',WMem W' X g C (Up.body nd (Up.isIf C.ns) s C.ns[p]) B'∧Beg C.T C.ns B B' p)∧Fr X W W':=by
 obtain⟨ga,Aw,Ar,Ak,cw,cr,ck,ln,eA,hnc,hcw⟩:=hT.nf p hp
 have hF:NodeF C C.ns[p] Aw Ar Ak:=⟨hnc.w,hnc.r,hnc.k,hT.sm _ (List.getElem_mem hp),hT.kids _ (List.getElem_mem hp)⟩
 obtain⟨f,hf,hent,hk13,hmeth⟩:=meth_v hT HK hp hF hcw (cr:=cr) (ck:=ck) (ln:=ln)
 have hki:∀ W',Later W W'→Calls Tryz.prog 82 #[.pointer (some ⟨g,0,none⟩),.int .i64 (p:Int)] W' fun e W''=>e=.returned (.int .i64 (C.ns[p].kind:Int))∧W''=W':=fun W' hW=>kind_w (h.later hW) hT.rd hp hT.few
 obtain⟨vh,H,pa,vb,hm⟩:=h
 obtain⟨⟨c0,c1,c2,c3,c4,c5⟩,hz⟩:=hm.facts
 have HLK:=Lib.hid (fun w (hw:Later W w)=>(hm.later hw).tab.look C.ns[p].kind (by omega))
 have HKI:=Lib.hid hki
 obtain⟨z,hz2⟩:∃ z,z=C.ns[p].kind:=⟨_,rfl⟩
 rw[←hz2] at HKI HLK hf
 have htab:tabW g z=some (fnW g f):=by unfold tabW;rw[hf];rfl
 rw[htab] at HLK
 obtain⟨C0,hC0⟩:∃ C0:Nat→Value→World→Prop,C0=fun j _ w=>j=0∧w=W.drew:=⟨_,rfl⟩
 have H0:=Lib.hid (show C0 0 undef W.drew by rw[hC0];exact⟨rfl,rfl⟩)
 have HW:=Lib.hid (show ∀ j u w,C0 j u w→w=W.drew from fun j u w hc=>by rw[hC0] at hc;exact hc.2)
 have HC5:=Lib.hid (show ∀ j u w,C0 j u w→w.cell? ⟨g,5,none⟩=some (.map (some C.m)) from fun j u w hc=>by rw[hC0] at hc;rw[hc.2];exact c5)
 have HM:=Lib.hid hm
 have HX:=Lib.hid hX
 have HR:=Lib.hid hr
 have HL:=Lib.hid hl
 have HME:=Lib.hid hmeth
 have HENT:=Lib.hid hent
 have HNC:=Lib.hid hnc
 have hgn:=hm.lt
 clear hz2 hm hX hr hl hmeth hent hnc hC0 hki htab c0 c1 c2 c3 c4 c5 hz hk13 hf
 go_enter Tryz.func32,Tryz.ntmps32
 go_wp2
 refine wp_region_seq (by kernel_rfl) [] (C0) [some (.pointer (some ⟨g,0,none⟩)),some (.pointer (some ⟨g,0,none⟩)),some (.pointer (some ⟨g,5,none⟩)),some (.map (some C.m)),some (.pointer (some ⟨g,0,none⟩)),some (.int .i64 (p:Int)),some (.int .i64 (z:Int)),some (.tuple #[fnW g f,.bool true]),some (.tuple #[fnW g f,.bool true]),some (fnW g f),some (.bool true),some (fnW g f),some (.bool true)] (by decide) (by decide) (by kernel_rfl) (by kernel_rfl) (H0.out) ?_ ?_
 ·refine⟨?_,?_,?_,?_,?_,?_,?_,?_,?_,?_,?_,?_,?_,trivial⟩
  ·
   refine OwesS.q rfl fun a w j u hC hb hs=>⟨rfl,?_⟩
   have e0:a.tmps.getD 0 undef=.pointer (some ⟨g,0,none⟩):=hs.free 0 rfl
   refine ValWp.pure (v:=.pointer (some ⟨g,0,none⟩)) (fun K' hK'=>?_) ⟨rfl,rfl⟩
   simp only[ValWp,execOp,Act.eval,e0]
   go_simp
   all_goals exact hK'
  ·
   refine OwesS.q rfl fun a w j u hC hb hs=>⟨rfl,?_⟩
   have e7:a.tmps.getD 7 undef=.pointer (some ⟨g,0,none⟩):=hs.dep 0 _ rfl rfl
   refine ValWp.pure (v:=.pointer (some ⟨g,0,none⟩)) (fun K' hK'=>?_) ⟨rfl,rfl⟩
   simp only[ValWp,execOp,Act.eval,e7]
   go_simp
   all_goals exact hK'
  ·
   refine OwesS.q rfl fun a w j u hC hb hs=>⟨rfl,?_⟩
   have e8:a.tmps.getD 8 undef=.pointer (some ⟨g,0,none⟩):=hs.dep 1 _ rfl rfl
   refine ValWp.pure (v:=.pointer (some ⟨g,5,none⟩)) (fun K' hK'=>?_) ⟨rfl,rfl⟩
   simp only[ValWp,execOp,Act.eval,e8]
   go_simp
   all_goals exact hK'
  ·
   refine OwesS.q rfl fun a w j u hC hb hs=>⟨rfl,?_⟩
   have e9:a.tmps.getD 9 undef=.pointer (some ⟨g,5,none⟩):=hs.dep 2 _ rfl rfl
   have q0:=HC5.out j u w hC
   refine ValWp.pure (v:=.map (some C.m)) (fun K' hK'=>?_) ⟨rfl,rfl⟩
   simp only[ValWp,execOp,Act.eval,e9]
   go_simp
   all_goals exact hK'
  ·
   refine OwesS.q rfl fun a w j u hC hb hs=>⟨rfl,?_⟩
   have e0:a.tmps.getD 0 undef=.pointer (some ⟨g,0,none⟩):=hs.free 0 rfl
   refine ValWp.pure (v:=.pointer (some ⟨g,0,none⟩)) (fun K' hK'=>?_) ⟨rfl,rfl⟩
   simp only[ValWp,execOp,Act.eval,e0]
   go_simp
   all_goals exact hK'
  ·
   refine OwesS.q rfl fun a w j u hC hb hs=>⟨rfl,?_⟩
   have e1:a.tmps.getD 1 undef=.int .i64 (p:Int):=hs.free 1 rfl
   refine ValWp.pure (v:=.int .i64 (p:Int)) (fun K' hK'=>?_) ⟨rfl,rfl⟩
   simp only[ValWp,execOp,Act.eval,e1]
   go_simp
   all_goals exact hK'
  ·
   refine OwesS.q rfl fun a w j u hC hb hs=>⟨rfl,?_⟩
   have e11:a.tmps.getD 11 undef=.pointer (some ⟨g,0,none⟩):=hs.dep 4 _ rfl rfl
   have e12:a.tmps.getD 12 undef=.int .i64 (p:Int):=hs.dep 5 _ rfl rfl
   refine ValWp.call #[.pointer (some ⟨g,0,none⟩),.int .i64 (p:Int)] rfl rfl Tryz.func82 rfl rfl (by simp only[List.map_toArray,List.map_cons,List.map_nil,Act.eval,e11,e12]) ?_
   have hw:=HW.out j u w hC
   subst hw
   refine(HKI.out _ (Later.drew _)).mono ?_
   rintro r w9 ⟨rfl,rfl⟩
   exact⟨_,rfl,rfl,rfl⟩
  ·
   refine OwesS.q rfl fun a w j u hC hb hs=>⟨rfl,?_⟩
   have e10:a.tmps.getD 10 undef=.map (some C.m):=hs.dep 3 _ rfl rfl
   have e13:a.tmps.getD 13 undef=.int .i64 (z:Int):=hs.dep 6 _ rfl rfl
   have hw:=HW.out j u w hC
   subst hw
   have q0:=HLK.out _ (Later.drew W)
   refine ValWp.pure (v:=.tuple #[fnW g f,.bool true]) (fun K' hK'=>?_) ⟨rfl,rfl⟩
   simp only[ValWp,execOp,Act.eval,e10,e13]
   go_simp
   all_goals exact hK'
  ·
   refine OwesS.q rfl fun a w j u hC hb hs=>⟨rfl,?_⟩
   have e14:a.tmps.getD 14 undef=.tuple #[fnW g f,.bool true]:=hs.dep 7 _ rfl rfl
   refine ValWp.pure (v:=.tuple #[fnW g f,.bool true]) (fun K' hK'=>?_) ⟨rfl,rfl⟩
   simp only[ValWp,execOp,Act.eval,e14]
   go_simp
   all_goals exact hK'
  ·
   refine OwesS.q rfl fun a w j u hC hb hs=>⟨rfl,?_⟩
   have e6:a.tmps.getD 6 undef=.tuple #[fnW g f,.bool true]:=hs.dep 8 _ rfl rfl
   refine ValWp.pure (v:=fnW g f) (fun K' hK'=>?_) ⟨rfl,rfl⟩
   simp only[ValWp,execOp,Act.eval,e6]
   go_simp
   all_goals exact hK'
  ·
   refine OwesS.q rfl fun a w j u hC hb hs=>⟨rfl,?_⟩
   have e6:a.tmps.getD 6 undef=.tuple #[fnW g f,.bool true]:=hs.dep 8 _ rfl rfl
   refine ValWp.pure (v:=.bool true) (fun K' hK'=>?_) ⟨rfl,rfl⟩
   simp only[ValWp,execOp,Act.eval,e6]
   go_simp
   all_goals exact hK'
  ·
   refine OwesS.q rfl fun a w j u hC hb hs=>⟨rfl,?_⟩
   have e15:a.tmps.getD 15 undef=fnW g f:=hs.dep 9 _ rfl rfl
   refine ValWp.pure (v:=fnW g f) (fun K' hK'=>?_) ⟨rfl,rfl⟩
   simp only[ValWp,execOp,Act.eval,e15]
   go_simp
   all_goals exact hK'
  ·
   refine OwesS.q rfl fun a w j u hC hb hs=>⟨rfl,?_⟩
   have e16:a.tmps.getD 16 undef=.bool true:=hs.dep 10 _ rfl rfl
   refine ValWp.pure (v:=.bool true) (fun K' hK'=>?_) ⟨rfl,rfl⟩
   simp only[ValWp,execOp,Act.eval,e16]
   go_simp
   all_goals exact hK'
 ·intro a w u hC hl hd hsz hfree hs
  obtain⟨z0,z1,u2,u3,z4,z5,u6,u7,u8,u9,u10,u11,u12,u13,u14,u15,u16,u17,u18,u19,u20,u21,u22,u23,u24,u25,u26,u27,u28,u29,u30,u31,u32,u33,u34,u35,u36,u37,u38,u39,u40,u41,u42,hal⟩:=lets a 43 0
  obtain rfl:=hal.on (v:=.pointer (some ⟨g,0,none⟩)) 0 (hfree 0 rfl) rfl
  obtain rfl:=hal.on (v:=.int .i64 (p:Int)) 1 (hfree 1 rfl) rfl
  obtain rfl:=hal.on (v:=fnW g f) 4 (hs 11 _ rfl) rfl
  obtain rfl:=hal.on (v:=.bool true) 5 (hs 12 _ rfl) rfl
  have hlit:=fun h=>act_lit hd h hal
  rw[hlit hsz]
  clear hlit hal hd hsz hfree hs
  have hw:=HW.out _ _ _ hC
  subst hw
  clear hC hl
  have hmd:=HM.out.later (Later.drew W)
  obtain⟨AB,cB,evB,hcB⟩:=own_any hmd.beg
  have hpB:p<B.length:=by rw[hmd.len];exact hp
  have hbg:=hmd.beg
  rw[evB] at hbg
  obtain⟨gb,rfl,hbeg⟩:=beg_cell hbg hpB
  have hB0:B[p]=false:=by
   have:=HR.out.no
   unfold Um.bg at this
   rw[List.getElem?_eq_getElem hpB] at this
   simpa using this
  rw[hB0] at hbeg
  obtain⟨⟨c0,c1,_,_,_,_⟩,hz⟩:=hmd.facts
  rw[evB] at c1
  have hst:=begun_set hmd evB hp
  obtain⟨w2,hw2⟩:∃ w2,w2=(W.setCell ⟨gb,p,none⟩ (.bool true)).drew:=⟨_,rfl⟩
  rw[show W.drew.setCell ⟨gb,p,none⟩ (.bool true)=w2 from hw2.symm] at hst
  obtain⟨hm2,hf2⟩:=hst
  have hzb:W.drew.frozen? ⟨gb,p,none⟩=false:=by
   rcases hbg.2 with⟨e1,_⟩ | ⟨g',cap,cur,e1,_,h3,_⟩
   ·cases e1
   ·injection e1 with e1 _ _
    injection e1 with e1
    injection e1 with e1
    rw[e1]
    exact(cell_row h3 p).2
  have hp0:(0:Int)≤(p:Int):=by omega
  have hp1:(p:Int)<((C.ns.length:Nat):Int):=by omega
  obtain⟨N,hN⟩:∃ N,N=C.ns.length:=⟨_,rfl⟩
  have d0:w2.cell? ⟨g,0,none⟩=some (.slice (some ⟨ga,0,none⟩) N C.c):=by rw[hm2.facts.1.1,eA,hN]
  have hnl:(Instr.loadAt 37 (.pointer (some ⟨ga,p*8,none⟩))).run Tryz.prog w2=.ok (.agg (nodeA C.ns[p] Aw Ar Ak cw cr ck ln)) w2:=node_run fun j v hj=>by
   have hn:=HNC.out.later hm2.low
   have hj8:j<8:=(Array.getElem?_eq_some_iff.1 hj).1
   match j,hj8 with
   | 0,_=>cases hj;exact hn.c0
   | 1,_=>cases hj;exact hn.c1
   | 2,_=>cases hj;exact hn.c2
   | 3,_=>cases hj;exact hn.c3
   | 4,_=>cases hj;exact hn.c4
   | 5,_=>cases hj;exact hn.c5
   | 6,_=>cases hj;exact hn.c6
   | 7,_=>cases hj;exact hn.c7
  have hmid:=Um.Mid.start hT.tr HR.out
  have hcm:=HME.out w2 X s (B.set p true) ⟨B.set p true,hm2.mem,hmid⟩ (HX.out.mono hf2.size) HL.out
  rw[hw2] at d0 hnl hcm hf2
  have HNL:=Lib.hid hnl
  have HCM:=Lib.hid hcm
  have HF2:=Lib.hid hf2
  rw[←hN] at c1 hp1
  have HNN:=Lib.hid hN
  clear hmd evB hcB hbg hm2 hf2 hpB hB0 hnl hmid hcm hw2 hN c0 hz HLK HKI H0 HC5 HW
  go_wp2_with (first
   |(refine wpList_loadRun rfl 37 (.tmp 40) rfl (.pointer (some ⟨ga,p*8,none⟩)) (.agg (nodeA C.ns[p] Aw Ar Ak cw cr ck ln)) rfl HNL.out ?_)
   |(refine wpList_callW rfl 34 41 _ f g (.agg (nodeA C.ns[p] Aw Ar Ak cw cr ck ln)) rfl rfl rfl HENT.out (HCM.out.mono ?_);rintro e w9 ⟨rfl,hm9,hf9⟩;refine⟨_,rfl,?_⟩;have HM9:=Lib.hid hm9;have HF9:=Lib.hid hf9;clear hm9 hf9))
  go_end0
  obtain⟨B',hmB,hdB⟩:=HM9.out
  exact⟨rfl,⟨B',hmB,Um.Mid.stop HR.out hdB⟩,(Fr.later (Later.drew W)).trans (HF2.out.trans HF9.out)⟩
theorem node_v (hT:Tree C):∀ (f k:Nat),k<f→∀ (_:k<C.ns.length) (W:World) (X:Nat→Prop) (s:Up.S) (B:List Bool),WMem W X g C s B→XL X W→Rdy C.T C.ns B k→Up.size (Up.nodeF C.ns f s k)≤2300000000000→Calls Tryz.prog 32 #[.pointer (some ⟨g,0,none⟩),.int .i64 (k:Int)] W fun e W'=>e=.returned (.tuple #[])∧(∃ B',WMem W' X g C (Up.nodeF C.ns f s k) B'∧Beg C.T C.ns B B' k)∧Fr X W W':=by
 intro f
 induction f with
 | zero=>intro k h;omega
 | succ f ih=>
  intro k hkf hk W X s B hm hX hr hl
  have hbody:Up.nodeF C.ns (f+1) s k=Up.body (Up.nodeF C.ns f) (Up.isIf C.ns) s C.ns[k]:=by
   rw[Up.nodeF,List.getElem?_eq_getElem hk]
  rw[hbody] at hl⊢
  refine step_v hT ⟨fun s j=>Up.mono_node C.ns f s j,fun j hj W X s B1 done hw hX hd hl=>?_⟩ hk hm hX hr hl
  obtain⟨B2,hm2,hmid⟩:=hw
  obtain⟨h1,h2⟩:=hj
  have hlt:=hT.tr.lt k h1 j h2
  refine(ih j (by omega) (by omega) W X s B2 hm2 hX (hmid.rdy hT.tr ⟨h1,h2⟩ hd) hl).mono ?_
  rintro e W' ⟨rfl,⟨B3,hm3,hb3⟩,hf3⟩
  exact⟨rfl,⟨B3,hm3,hmid.step hT.tr ⟨h1,h2⟩ hb3⟩,hf3⟩
end
end Uw
end Go.Proofs.YtkkchkkpnlnbgaaGreatDoor
namespace Go.Proofs.YtkkchkkpnlnbgaaGreatDoor
open Go.RowKit Go.Maps
open Lx (nl)
theorem TabI.made (W:World):TabI (W.alloc (.map #[] 0)) W.heap.size 0 fun _=>none:=
 ⟨.map [],0,World.ownsMap_made W _ _ _,by omega,fun c=>⟨rfl,fun z=>rfl⟩⟩
def putI (f:Nat→Option Value) (c:Nat) (v:Value):Nat→Option Value:=fun x=>if x=c then some v else f x
theorem nat_ne {a b:Nat} (h:a≠b):(Lit.int .i64 (a:Int))≠.int .i64 (b:Int):=by
 intro e
 injection e with _ e
 omega
theorem TabI.put {W:World} {m k:Nat} {f:Nat→Option Value} (h:TabI W m k f) (hk:k≤29) (c:Nat) (hc:c≤100) (v:Value):∃ W',(Instr.mapUpdate 73 (.map (some m)) (.int .i64 (c:Int)) v).run Tryz.prog W=.ok () W'∧TabI W' m (k+1) (putI f c v)∧W.grownBy W' (some m):=by
 obtain⟨D,n,h1,h2,h3⟩:=h
 obtain⟨W',hr,h4,h5⟩:=h1.update int_key Tryz.underlying73 (by unfold maxLen;omega) (keyOf_nat c hc) (val:=v) (d:=.held v) (ps:=[]) rfl
 refine⟨W',hr,⟨_,n+1,h4,by omega,fun x=>?_⟩,h5⟩
 unfold putI
 by_cases hx:x=c
 ·subst hx
  rw[if_pos rfl]
  exact⟨has_put_same h1.isMap (show WideAt.IsKeyLit (.int .i64 (x:Int)) from trivial) _,fun z=>atKey_put_same h1.isMap (show WideAt.IsKeyLit (.int .i64 (x:Int)) from trivial) _ _⟩
 ·rw[if_neg hx,has_put_other (nat_ne hx)]
  exact⟨(h3 x).1,fun z=>by rw[atKey_put_other (nat_ne hx)];exact(h3 x).2 z⟩
section
variable {ops:Array Oper} {rest:List Oper} {o:Oper} {a:Act} {Q:Exit→Act→World→Prop}
theorem wpList_tabIIns (w:World) (hgd:o.guard=none) (mo xo vo:Operand) (hop:o.op=.insert 73 mo xo vo) (m k:Nat) (f:Nat→Option Value) (c:Nat) (hc:c≤100) (v:Value) (hm:a.eval mo=.map (some m)) (hx:a.eval xo=.int .i64 (c:Int)) (hv:a.eval vo=v)
  (h:TabI w m k f) (hk:k≤29) (hK:∀ w',TabI w' m (k+1) (putI f c v)→w.grownBy w' (some m)→wpList Tryz.prog ops Q rest (a.put o.dst undef) w'):wpList Tryz.prog ops Q (o::rest) a w:=by
 refine wpList_plain hgd fun K' hK'=>?_
 obtain⟨w',hrun,r1,r2⟩:=h.put hk c hc v
 unfold Oper.wp
 simp[execOp,hop,hm,hx,hv,hrun,Result.andThen]
 exact hK' _ _ (hK w' r1 r2)
theorem wpList_mkF (w:World) (hgd:o.guard=none) (f:Nat) (x:Operand) (hop:o.op=.makeFunc (.func f) #[x] #[]) (g:Nat) (hx:a.eval x=.pointer (some ⟨g,0,none⟩)) (h:wpList Tryz.prog ops Q rest (a.put o.dst (fnW g f)) w):wpList Tryz.prog ops Q (o::rest) a w:=by
 refine wpList_plain hgd fun K' hK'=>?_
 have hrun:(Instr.makeFunc (.func f) #[.pointer (some ⟨g,0,none⟩)] #[]).run Tryz.prog w=.ok (fnW g f) w:=rfl
 unfold Oper.wp
 simp[execOp,hop,hx,hrun,Result.andThen]
 exact hK' _ _ h
end
namespace Uw
theorem make_bools (w:World) (m:Nat) (hm:m≤100000):(Instr.makeSlice 68 (.int .i64 (m:Int)) (.int .i64 (m:Int))).run Tryz.prog w=.ok (.slice (some ⟨w.heap.size,0,none⟩) m m) (w.alloc (.cells (Array.replicate m (.bool false)) 4)):=by
 have hib:(Tryz.prog.info? 4).map (fun i=>(i.zero,i.size,i.bytes))=some (some (.bool false),1,1):=by kernel_rfl
 obtain⟨i0,hi,hz0,hz1,hz2⟩:=info_parts hib
 have:=run_make (P:=Tryz.prog) w 68 4 i0 (.bool false) Tryz.underlying68 hi hz0 .i64 .i64 (m:Int) (m:Int) (by omega) (by omega) (by rw[hz2];omega) (by omega)
 simp only[Int.toNat_natCast,hz1,Nat.mul_one] at this
 rw[this]
 show _=Result.ok _ (w.alloc (.cells _ 4))
 have e:madeCells (#[.bool false]:Array Value) m=Array.replicate m (.bool false):=by
  apply Array.ext
  ·simp[madeCells]
  ·intro i h1 h2
   simp[madeCells,Nat.mod_one]
 rw[←e]
 rfl
theorem tab_eq (g:Nat) (c:Nat):(putI (putI (putI (putI (putI (putI (putI (putI (putI (putI (putI (putI (putI (fun _=>none) 1 (fnW g 69)) 2 (fnW g 70)) 3 (fnW g 71)) 4 (fnW g 72)) 5 (fnW g 73)) 6 (fnW g 74)) 7 (fnW g 75)) 8 (fnW g 76)) 9 (fnW g 77)) 10 (fnW g 78)) 11 (fnW g 79)) 12 (fnW g 80)) 13 (fnW g 81)) c=tabW g c:=by
 simp only[putI,tabW,fnN]
 by_cases h1:c=1
 ·subst h1;rfl
 by_cases h2:c=2
 ·subst h2;rfl
 by_cases h3:c=3
 ·subst h3;rfl
 by_cases h4:c=4
 ·subst h4;rfl
 by_cases h5:c=5
 ·subst h5;rfl
 by_cases h6:c=6
 ·subst h6;rfl
 by_cases h7:c=7
 ·subst h7;rfl
 by_cases h8:c=8
 ·subst h8;rfl
 by_cases h9:c=9
 ·subst h9;rfl
 by_cases h10:c=10
 ·subst h10;rfl
 by_cases h11:c=11
 ·subst h11;rfl
 by_cases h12:c=12
 ·subst h12;rfl
 by_cases h13:c=13
 ·subst h13;rfl
 simp[h1,h2,h3,h4,h5,h6,h7,h8,h9,h10,h11,h12,h13]
theorem TabI.congr {W:World} {m k:Nat} {f f':Nat→Option Value} (h:TabI W m k f) (he:∀ c,f c=f' c):TabI W m k f':=by
 obtain⟨D,n,h1,h2,h3⟩:=h
 exact⟨D,n,h1,h2,fun c=>by rw[←he c];exact h3 c⟩
theorem TabI.more {W:World} {m k k':Nat} {f:Nat→Option Value} (h:TabI W m k f) (hk:k≤k'):TabI W m k' f:=by
 obtain⟨D,n,h1,h2,h3⟩:=h
 exact⟨D,n,h1,by omega,h3⟩
theorem open_v (W:World) (A:Option Addr) (c:Nat) (ns:List Sx.Node) (T:Nat) (hn:ns.length≤100000):Calls Tryz.prog 31 #[.agg #[.slice A ns.length c]] W fun e W'=>∃ g C X,e=.returned (.pointer (some ⟨g,0,none⟩))∧C.W0=W∧C.A=A∧C.c=c∧C.ns=ns∧C.T=T∧WMem W' X g C ⟨[],[]⟩ (List.replicate ns.length false)∧XL X W'∧Later W W':=by
 obtain⟨n,hnn⟩:∃ n,n=ns.length:=⟨_,rfl⟩
 have hn0:(0:Int)≤(n:Int):=by omega
 have hn1:(n:Int)≤100000:=by omega
 rw[←hnn]
 have HN:=Lib.hid hnn
 have hmk:=fun w=>make_bools w n (by omega)
 have hmf:∀ (fn:Fn) (first cap:Array Value) (w:World),(Instr.makeFunc fn first cap).run Tryz.prog w=.ok (.func fn first cap) w:=fun _ _ _ _=>rfl
 have hmm:=@run_makeMap Tryz.prog
 clear hnn
 go_enter Tryz.func31,Tryz.ntmps31
 go_wp2
 go_region
 clear hmk
 obtain⟨wa,hwa⟩:∃ wa,wa=(((W.alloc (.cells #[.slice A n c] 25)).alloc (.cells (Array.replicate n (.bool false)) 4)).alloc (.cells #[.slice A n c,.slice (some ⟨W.heap.size+1,0,none⟩) n n,.pointer none,.slice none 0 0,.slice none 0 0,.map none] 75)).drew:=⟨_,rfl⟩
 rw[←hwa]
 have hsz:wa.heap.size=W.heap.size+3:=by rw[hwa];simp[World.drew]
 have hla:Later W wa:=by rw[hwa];exact((Later.alloc _ _).trans (Later.alloc _ _)).trans ((Later.alloc _ _).trans (Later.drew _))
 have hbx:wa.heap[W.heap.size+2]?=some (.cells #[.slice A n c,.slice (some ⟨W.heap.size+1,0,none⟩) n n,.pointer none,.slice none 0 0,.slice none 0 0,.map none] 75 (0,0)):=by
  have h1:=heap_alloc_new ((W.alloc (.cells #[.slice A n c] 25)).alloc (.cells (Array.replicate n (.bool false)) 4)) (.cells #[.slice A n c,.slice (some ⟨W.heap.size+1,0,none⟩) n n,.pointer none,.slice none 0 0,.slice none 0 0,.map none] 75)
  rw[World.size_alloc,World.size_alloc] at h1
  rw[hwa]
  exact h1
 have hbb:wa.heap[W.heap.size+1]?=some (.cells (Array.replicate n (.bool false)) 4 (0,0)):=by
  have h1:=heap_alloc_new (W.alloc (.cells #[.slice A n c] 25)) (.cells (Array.replicate n (.bool false)) 4)
  rw[World.size_alloc] at h1
  have h2:=later_cells (Later.alloc ((W.alloc (.cells #[.slice A n c] 25)).alloc (.cells (Array.replicate n (.bool false)) 4)) (.cells #[.slice A n c,.slice (some ⟨W.heap.size+1,0,none⟩) n n,.pointer none,.slice none 0 0,.slice none 0 0,.map none] 75)) h1
  rw[hwa]
  exact h2
 have hT0:=TabI.made wa
 rw[hsz] at hT0
 have HT0:=Lib.hid hT0
 have HL0:=Lib.hid (Later.alloc wa (.map #[] 0))
 have HSZ:=Lib.hid hsz
 have HB:=Lib.hid (And.intro hla (And.intro hbx hbb))
 have hsz2:wa.heap.size=W.heap.size+3:=hsz
 clear hwa hla hbx hbb hT0 hsz
 go_wp2_with (first
  |(refine wpList_mkF _ rfl 69 (.tmp 14) rfl (W.heap.size+2) rfl ?_)
  |(refine wpList_tabIIns _ rfl (.tmp 13) (.const (.int .i64 1)) (.tmp 15) rfl (W.heap.size+3) 0 _ 1 (by omega) (fnW (W.heap.size+2) 69) rfl rfl rfl HT0.out (by omega) ?_;intro w1 ht hg;have HT1:=Lib.hid ht;have HL1:=Lib.hid (later_of_new HL0.out hg (Nat.le_of_eq HSZ.out));clear ht hg)
  |(refine wpList_mkF _ rfl 70 (.tmp 16) rfl (W.heap.size+2) rfl ?_)
  |(refine wpList_tabIIns _ rfl (.tmp 13) (.const (.int .i64 2)) (.tmp 17) rfl (W.heap.size+3) 1 _ 2 (by omega) (fnW (W.heap.size+2) 70) rfl rfl rfl HT1.out (by omega) ?_;intro w2 ht hg;have HT2:=Lib.hid ht;have HL2:=Lib.hid (later_of_new HL1.out hg (Nat.le_of_eq HSZ.out));clear ht hg)
  |(refine wpList_mkF _ rfl 71 (.tmp 18) rfl (W.heap.size+2) rfl ?_)
  |(refine wpList_tabIIns _ rfl (.tmp 13) (.const (.int .i64 3)) (.tmp 19) rfl (W.heap.size+3) 2 _ 3 (by omega) (fnW (W.heap.size+2) 71) rfl rfl rfl HT2.out (by omega) ?_;intro w3 ht hg;have HT3:=Lib.hid ht;have HL3:=Lib.hid (later_of_new HL2.out hg (Nat.le_of_eq HSZ.out));clear ht hg)
  |(refine wpList_mkF _ rfl 72 (.tmp 20) rfl (W.heap.size+2) rfl ?_)
  |(refine wpList_tabIIns _ rfl (.tmp 13) (.const (.int .i64 4)) (.tmp 21) rfl (W.heap.size+3) 3 _ 4 (by omega) (fnW (W.heap.size+2) 72) rfl rfl rfl HT3.out (by omega) ?_;intro w4 ht hg;have HT4:=Lib.hid ht;have HL4:=Lib.hid (later_of_new HL3.out hg (Nat.le_of_eq HSZ.out));clear ht hg)
  |(refine wpList_mkF _ rfl 73 (.tmp 22) rfl (W.heap.size+2) rfl ?_)
  |(refine wpList_tabIIns _ rfl (.tmp 13) (.const (.int .i64 5)) (.tmp 23) rfl (W.heap.size+3) 4 _ 5 (by omega) (fnW (W.heap.size+2) 73) rfl rfl rfl HT4.out (by omega) ?_;intro w5 ht hg;have HT5:=Lib.hid ht;have HL5:=Lib.hid (later_of_new HL4.out hg (Nat.le_of_eq HSZ.out));clear ht hg)
  |(refine wpList_mkF _ rfl 74 (.tmp 24) rfl (W.heap.size+2) rfl ?_)
  |(refine wpList_tabIIns _ rfl (.tmp 13) (.const (.int .i64 6)) (.tmp 25) rfl (W.heap.size+3) 5 _ 6 (by omega) (fnW (W.heap.size+2) 74) rfl rfl rfl HT5.out (by omega) ?_;intro w6 ht hg;have HT6:=Lib.hid ht;have HL6:=Lib.hid (later_of_new HL5.out hg (Nat.le_of_eq HSZ.out));clear ht hg)
  |(refine wpList_mkF _ rfl 75 (.tmp 26) rfl (W.heap.size+2) rfl ?_)
  |(refine wpList_tabIIns _ rfl (.tmp 13) (.const (.int .i64 7)) (.tmp 27) rfl (W.heap.size+3) 6 _ 7 (by omega) (fnW (W.heap.size+2) 75) rfl rfl rfl HT6.out (by omega) ?_;intro w7 ht hg;have HT7:=Lib.hid ht;have HL7:=Lib.hid (later_of_new HL6.out hg (Nat.le_of_eq HSZ.out));clear ht hg)
  |(refine wpList_mkF _ rfl 76 (.tmp 28) rfl (W.heap.size+2) rfl ?_)
  |(refine wpList_tabIIns _ rfl (.tmp 13) (.const (.int .i64 8)) (.tmp 29) rfl (W.heap.size+3) 7 _ 8 (by omega) (fnW (W.heap.size+2) 76) rfl rfl rfl HT7.out (by omega) ?_;intro w8 ht hg;have HT8:=Lib.hid ht;have HL8:=Lib.hid (later_of_new HL7.out hg (Nat.le_of_eq HSZ.out));clear ht hg)
  |(refine wpList_mkF _ rfl 77 (.tmp 30) rfl (W.heap.size+2) rfl ?_)
  |(refine wpList_tabIIns _ rfl (.tmp 13) (.const (.int .i64 9)) (.tmp 31) rfl (W.heap.size+3) 8 _ 9 (by omega) (fnW (W.heap.size+2) 77) rfl rfl rfl HT8.out (by omega) ?_;intro w9 ht hg;have HT9:=Lib.hid ht;have HL9:=Lib.hid (later_of_new HL8.out hg (Nat.le_of_eq HSZ.out));clear ht hg)
  |(refine wpList_mkF _ rfl 78 (.tmp 32) rfl (W.heap.size+2) rfl ?_)
  |(refine wpList_tabIIns _ rfl (.tmp 13) (.const (.int .i64 10)) (.tmp 33) rfl (W.heap.size+3) 9 _ 10 (by omega) (fnW (W.heap.size+2) 78) rfl rfl rfl HT9.out (by omega) ?_;intro w10 ht hg;have HT10:=Lib.hid ht;have HL10:=Lib.hid (later_of_new HL9.out hg (Nat.le_of_eq HSZ.out));clear ht hg)
  |(refine wpList_mkF _ rfl 79 (.tmp 34) rfl (W.heap.size+2) rfl ?_)
  |(refine wpList_tabIIns _ rfl (.tmp 13) (.const (.int .i64 11)) (.tmp 35) rfl (W.heap.size+3) 10 _ 11 (by omega) (fnW (W.heap.size+2) 79) rfl rfl rfl HT10.out (by omega) ?_;intro w11 ht hg;have HT11:=Lib.hid ht;have HL11:=Lib.hid (later_of_new HL10.out hg (Nat.le_of_eq HSZ.out));clear ht hg)
  |(refine wpList_mkF _ rfl 80 (.tmp 36) rfl (W.heap.size+2) rfl ?_)
  |(refine wpList_tabIIns _ rfl (.tmp 13) (.const (.int .i64 12)) (.tmp 37) rfl (W.heap.size+3) 11 _ 12 (by omega) (fnW (W.heap.size+2) 80) rfl rfl rfl HT11.out (by omega) ?_;intro w12 ht hg;have HT12:=Lib.hid ht;have HL12:=Lib.hid (later_of_new HL11.out hg (Nat.le_of_eq HSZ.out));clear ht hg)
  |(refine wpList_mkF _ rfl 81 (.tmp 38) rfl (W.heap.size+2) rfl ?_)
  |(refine wpList_tabIIns _ rfl (.tmp 13) (.const (.int .i64 13)) (.tmp 39) rfl (W.heap.size+3) 12 _ 13 (by omega) (fnW (W.heap.size+2) 81) rfl rfl rfl HT12.out (by omega) ?_;intro w13 ht hg;have HT13:=Lib.hid ht;have HL13:=Lib.hid (later_of_new HL12.out hg (Nat.le_of_eq HSZ.out));clear ht hg;have q:=later_cells HL13.out HB.out.2.1;have d5:w13.cell? ⟨W.heap.size+1+1,5,none⟩=some (.map none):=(cell_row q 5).1;have z5:w13.frozen? ⟨W.heap.size+1+1,5,none⟩=false:=(cell_row q 5).2;have hq:=lt_of_block q;have Q:=Lib.hid q;clear q))
 go_ret
 have hnn:=HN.out
 have hsz:=HSZ.out
 have hl13:Later wa w13:=HL13.out
 have hl:Later W (w13.setCell ⟨W.heap.size+1+1,5,none⟩ (.map (some (W.heap.size+3)))):=low_kept (HB.out.1.trans hl13) (set_only w13 (W.heap.size+1+1) 5 _) (fun b e=>by injection e with e;omega)
 have hbb:(w13.setCell ⟨W.heap.size+1+1,5,none⟩ (.map (some (W.heap.size+3)))).heap[W.heap.size+1]?=some (.cells (Array.replicate n (.bool false)) 4 (0,0)):=(Below.heap_setCell _ ⟨W.heap.size+1+1,5,none⟩ _ _ (by show W.heap.size+1≠W.heap.size+1+1;omega)).trans (later_cells hl13 HB.out.2.2)
 have htab:TabI w13 (W.heap.size+3) 30 (tabW (W.heap.size+2)):=Uw.TabI.congr (Uw.TabI.more HT13.out (by omega)) (tab_eq (W.heap.size+2))
 have hs13:wa.heap.size≤w13.heap.size:=hl13.size
 have hs14:(w13.setCell ⟨W.heap.size+1+1,5,none⟩ (.map (some (W.heap.size+3)))).heap.size=w13.heap.size:=by simp
 subst hnn
 refine⟨W.heap.size+2,⟨W,A,c,ns,.slice (some ⟨W.heap.size+1,0,none⟩) ns.length ns.length,W.heap.size+3,T⟩,fun b=>b<W.heap.size+1,rfl,rfl,rfl,rfl,rfl,rfl,⟨.slice none 0 0,[],.pointer none,.slice none 0 0,?_⟩,fun b hb=>by rw[hs14];omega,hl⟩
 refine⟨set_row Q.out 5 _,.inl rfl,by omega,hl,fun b hb=>Nat.lt_succ_of_lt hb,by simp,⟨by simp,.inr ⟨W.heap.size+1,ns.length,Array.replicate ns.length (.bool false),rfl,Nat.zero_le _,hbb,Nat.le_refl _,by unfold maxLen;omega,by simp,by simp[tv]⟩⟩,fun b e=>by injection e with e;simp only at e;omega,World.ownsRow_nil _ _ _ _,by simp[Value.ownBlock],World.ownsRow_nil _ _ _ _,by simp[Value.ownBlock],rfl,by simp,htab.kept (set_only w13 (W.heap.size+1+1) 5 _) (fun e=>by injection e with e;omega),by show ¬ W.heap.size+3<W.heap.size+1;omega⟩
end Uw
end Go.Proofs.YtkkchkkpnlnbgaaGreatDoor
