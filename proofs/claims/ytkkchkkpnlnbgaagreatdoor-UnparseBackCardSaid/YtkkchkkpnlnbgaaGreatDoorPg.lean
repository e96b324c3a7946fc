/- A statement of open order in which several operations write, the last one of them a temporary that others read ahead of it (x = append(x, ..)). No premises. -/
import Derived.Test.YtkkchkkpnlnbgaaGreatDoorNo
import Derived.Test.YtkkchkkpnlnbgaaGreatDoorPf
import Derived.Test.YtkkchkkpnlnbgaaGreatDoorNs
set_option maxRecDepth 100000
set_option maxHeartbeats 1600000
namespace Go.Proofs.YtkkchkkpnlnbgaaGreatDoor
open Go.RowKit
section
variable {P:Program} {ops:Array Oper} {Q:Exit→Act→World→Prop} {a0:Act} {C:Nat→Value→World→Prop} {R:Nat→Value→World→Prop}
def onlyB (ops:Array Oper) (ps:List Nat) (t0:Tmp):Bool:=(List.range ops.size).all fun i=>match ops[i]? with
 | some o=>o.dst != some t0 || ps.getLast?==some i
 | none=>true
theorem onlyB_at {ps:List Nat} {t0:Tmp} (h:onlyB ops ps t0=true) {i:Nat} {o:Oper} (ho:ops[i]?=some o) (hd:o.dst=some t0):ps[ps.length-1]?=some i:=by
 unfold onlyB at h
 rw[List.all_eq_true] at h
 have:=h i (List.mem_range.2 (Array.getElem?_eq_some_iff.1 ho).1)
 rw[ho] at this
 simp only[hd,bne_self_eq_false,Bool.false_or,beq_iff_eq] at this
 rw[←List.getLast?_eq_getElem?]
 exact this
def OwesQE (P:Program) (ops:Array Oper) (C:Nat→Value→World→Prop) (ps:List Nat) (R:Nat→Value→World→Prop) (a0:Act) (t0:Tmp) (i:Nat) (o:Oper):Prop:=
 ∀ (a:Act) (w:World) (j:Nat) (u:Value),C j u w→(∀ k p,ps[k]?=some p→depOn ops p i=true→j≤k)→(j<ps.length→a.tmps.getD t0 undef=a0.tmps.getD t0 undef)→Sees ops a0 R o a w →
  Region.wanted o (yielded ops a.tmps)=true∧ValWp P o a.eval w fun v w'=>R i (if o.dst.isSome then v else undef) w'∧w'=w
def OwesSE (P:Program) (ops:Array Oper) (Q:Exit→Act→World→Prop) (C:Nat→Value→World→Prop) (ps:List Nat) (R:Nat→Value→World→Prop) (a0:Act) (t0:Tmp) (i:Nat) (o:Oper):Prop:=
 match idx ps i with
 | some j=>OwesW P ops Q C ps R a0 i o j
 | none=>OwesQE P ops C ps R a0 t0 i o
theorem OwesSE.w {ps:List Nat} {t0:Tmp} {i j:Nat} {o:Oper} (h:idx ps i=some j) (hw:OwesW P ops Q C ps R a0 i o j):OwesSE P ops Q C ps R a0 t0 i o:=by unfold OwesSE;rw[h];exact hw
theorem OwesSE.q {ps:List Nat} {t0:Tmp} {i:Nat} {o:Oper} (h:idx ps i=none) (hw:OwesQE P ops C ps R a0 t0 i o):OwesSE P ops Q C ps R a0 t0 i o:=by unfold OwesSE;rw[h];exact hw
def OwesAllSE (P:Program) (ops:Array Oper) (Q:Exit→Act→World→Prop) (C:Nat→Value→World→Prop) (ps:List Nat) (R:Nat→Value→World→Prop) (a0:Act) (t0:Tmp):Nat→List Oper→Prop
 | _,[]=>True
 | n,o::l=>OwesSE P ops Q C ps R a0 t0 n o∧OwesAllSE P ops Q C ps R a0 t0 (n+1) l
theorem owesAllSE_at {ps:List Nat} {t0:Tmp}:∀ (l:List Oper) (n i:Nat) (o:Oper),OwesAllSE P ops Q C ps R a0 t0 n l→l[i]?=some o→OwesSE P ops Q C ps R a0 t0 (n+i) o
 | [],_,i,o,_,h=>by simp at h
 | x::l,n,0,o,h,ho=>by simp at ho;subst ho;exact h.1
 | x::l,n,i+1,o,h,ho=>by
  have:=owesAllSE_at l (n+1) i o h.2 (by simpa using ho)
  rwa[show n+1+i=n+(i+1) by omega] at this
theorem wp_region_seqE {id:Nat} {w:World} {l:List Oper} (hm:P.follows .mixedOrders=true) (ps:List Nat) (C:Nat→Value→World→Prop) (rv:List (Option Value)) (hps:∀ p∈ps,p<l.length) (hnd:ps.Nodup) (hch:chainB l.toArray ps=true) (hok:softB l.toArray a0.tmps.size=true) (t0:Tmp) (hon:onlyB l.toArray ps t0=true)
  (hC:C 0 undef w.drew) (hstep:OwesAllSE P l.toArray Q C ps (RV rv) a0 t0 0 l)
  (hQ:∀ a w u,C ps.length u w→lastIs l.toArray ps ps.length a u→a.defers=a0.defers→a.tmps.size=a0.tmps.size→(∀ t,freeTmp l.toArray t=true→a.tmps.getD t undef=a0.tmps.getD t undef)→(∀ (i:Nat) o,l[i]?=some o→RV rv i (slotOf o.dst a) w)→Q .normal a w) :
  (Code.region id l.toArray true).wp P Q a0 w:=by
 have hmono:∀ i v w w',(fun _ _=>True:World→World→Prop) w w'→RV rv i v w→RV rv i v w':=fun i v w w' _ h=>h
 have hso:=SoftOk.of hok
 refine wp_region_any hm (wpAny_softA (C:=fun listed a w=>∃ j u,PhaseS l.toArray ps C j u listed a w∧(j<ps.length→a.tmps.getD t0 undef=a0.tmps.getD t0 undef)) (R:=RV rv) (G:=fun _ _=>True) hso hmono (fun i o ho listed a w hsz hun hdeps hc hsize hsee K hK=>?_)
  (fun listed a w hall hc h=>?_) l.toArray.size (Array.replicate l.toArray.size false) a0 w.drew ?_ ?_ ⟨by simp,rfl,rfl,fun _ _=>rfl,fun i o ho hl=>?_⟩)
 ·have hil:i<listed.size:=by rw[hsz];exact(Array.getElem?_eq_some_iff.1 ho).1
  have hf:listed.getD i false=false:=by simp[hil] at hun⊢;exact hun
  have hw:=owesAllSE_at l 0 i o hstep (by simpa using ho)
  rw[Nat.zero_add] at hw
  unfold OwesSE at hw
  obtain⟨j,u,hp,he⟩:=hc
  have hdl:=fun d hd=>deps_listed ho hdeps d hd
  cases hi:idx ps i with
  | some j0=>
   rw[hi] at hw
   simp only at hw
   have hj0:=idx_some hi
   have h1:=hp.at_ j0 i hj0
   rw[hf] at h1
   have hle:j≤j0:=by simpa using h1.symm
   have hge:j0≤j:=by
    cases j0 with
    | zero=>omega
    | succ k=>
     have hlt:k<ps.length:=by have:=(List.getElem?_eq_some_iff.1 hj0).1;omega
     have h2:ps[k]?=some ps[k]:=by simp[hlt]
     have h3:=hdl _ (chainB_at hch k ps[k] i h2 hj0)
     rw[hp.at_ k _ h2] at h3
     have:=of_decide_eq_true h3
     omega
   have hje:j=j0:=by omega
   subst hje
   obtain⟨hw1,hw2⟩:=hw a w u hp.c hp.last hsee
   rw[if_pos hw1]
   refine hw2 K fun v w' hR hC'=>hK v w' hR ⟨j+1,v,⟨(List.getElem?_eq_some_iff.1 hj0).1,hC',?_,fun k p hk=>?_,fun k p hk hkj d hd=>?_⟩,fun hjl=>?_⟩ trivial
   ·show (match (ps[j]?).bind fun p=>(l.toArray[p]?).bind (·.dst) with | some t=>(a.put o.dst v).tmps.getD t undef=v | none=>True)
    rw[hj0]
    simp only[Option.bind_some,ho]
    cases hdst:o.dst with
    | none=>trivial
    | some t=>
     have h9:=slot_put_same (a:=a) (d:=o.dst) (v:=v) (fun t' ht'=>by rw[hsize];exact hso.inn i o t' ho ht')
     rw[hdst] at h9
     simpa [slotOf] using h9
   ·by_cases hpi:i=p
    ·subst hpi
     rw[getD_set_same hil,nodup_at hnd hk hj0]
     simp
    ·rw[getD_set_ne hpi,hp.at_ k p hk]
     have hkj:k≠j:=fun e=>hpi (by rw[e,hj0] at hk;exact Option.some.inj hk)
     simp only[decide_eq_decide]
     omega
   ·by_cases hkj':k=j
    ·subst hkj'
     rw[hj0] at hk
     cases hk
     exact listed_more hil (hdl d hd)
    ·exact listed_more hil (hp.dep k p hk (by omega) d hd)
   ·rw[←he (by omega)]
    have h9:=slot_put_other (a:=a) (d:=o.dst) (e:=some t0) (v:=v) (fun t' ht' e=>by
     injection e with e
     subst e
     have h8:=onlyB_at hon ho ht'
     have:=nodup_at hnd hj0 h8
     omega)
    exact h9
  | none=>
   rw[hi] at hw
   simp only at hw
   have hni:=idx_none hi
   have hb:∀ k p,ps[k]?=some p→depOn l.toArray p i=true→j≤k:=fun k p hk hd=>by
    by_cases hkj:k<j
    ·have:=hp.dep k p hk hkj i hd
     rw[hf] at this
     cases this
    ·omega
   obtain⟨hw1,hw2⟩:=hw a w j u hp.c hb he hsee
   rw[if_pos hw1]
   refine wp_of_val (hw2.mono fun v w' hk=>hK v w' hk.1 ?_ trivial)
   obtain⟨_,rfl⟩:=hk
   refine⟨j,u,⟨hp.le,hp.c,?_,fun k p hk=>?_,fun k p hk hkj d hd=>listed_more hil (hp.dep k p hk hkj d hd)⟩,fun hjl=>?_⟩
   ·cases j with
    | zero=>trivial
    | succ j=>
     have h5:=hp.last
     unfold lastIs at h5⊢
     simp only at h5⊢
     cases hpj:ps[j]? with
     | none=>trivial
     | some p=>
      rw[hpj] at h5
      simp only[Option.bind_some] at h5⊢
      cases hpo:l.toArray[p]? with
      | none=>trivial
      | some op=>
       rw[hpo] at h5
       simp only[Option.bind_some] at h5⊢
       cases hpt:op.dst with
       | none=>trivial
       | some t=>
        rw[hpt] at h5
        simp only at h5⊢
        have h9:=slot_put_other (a:=a) (d:=o.dst) (e:=some t) (v:=v) (fun t' ht' e=>hni j (by rw[hpj,hso.one i p o op t' ho hpo ht' (by rw[hpt];exact e)]))
        exact(show (a.put o.dst v).tmps.getD t undef=a.tmps.getD t undef from h9).trans h5
   ·have hpi:i≠p:=fun e=>hni k (by rw[hk,e])
    rw[getD_set_ne hpi,hp.at_ k p hk]
   ·rw[←he hjl]
    have h9:=slot_put_other (a:=a) (d:=o.dst) (e:=some t0) (v:=v) (fun t' ht' e=>by
     injection e with e
     subst e
     exact hni _ (onlyB_at hon ho ht'))
    exact h9
 ·obtain⟨j,u,hp,he⟩:=hc
  have hje:j=ps.length:=by
   by_cases hlt:j<ps.length
   ·have h2:ps[j]?=some ps[j]:=by simp[hlt]
    have h3:=hp.at_ j _ h2
    rw[hall ps[j] (by simpa using hps _ (List.getElem_mem hlt))] at h3
    simp at h3
   ·have:=hp.le;omega
  subst hje
  refine hQ a w u hp.c hp.last h.defers h.size (fun t ht=>h.outer t fun j oj' hj _ hd=>?_) fun i o ho=>h.inner i o (by simpa using ho) (by have:=(List.getElem?_eq_some_iff.1 ho).1;simp[this])
  unfold freeTmp at ht
  rw[List.all_eq_true] at ht
  have:=ht oj' (Array.mem_toList_iff.2 (Array.mem_of_getElem? hj))
  simp[hd] at this
 ·unfold open_;exact Nat.le_trans List.countP_le_length (by simp)
 ·refine⟨0,undef,⟨Nat.zero_le _,hC,trivial,fun k p hk=>?_,fun k p _ hk=>by omega⟩,fun _=>rfl⟩
  by_cases hp:p<l.length <;> simp[hp]
 ·exfalso
  have hi:=(Array.getElem?_eq_some_iff.1 ho).1
  rw[List.size_toArray] at hi
  simp[hi] at hl
end
end Go.Proofs.YtkkchkkpnlnbgaaGreatDoor
namespace Go.Proofs.YtkkchkkpnlnbgaaGreatDoor
open Go.RowKit Go.Maps
open Lx (nl)
namespace Uw
def txt (x:Sx.Arw):List UInt8:=Up.num x.fd++x.op++x.word
def tsv (x:Sx.Arw):Value:=.string (mkS (txt x))
def pend (rs:List Sx.Arw):List UInt8:=flat (rs.filter fun x=>x.op==[60,60])
def wait (s:Up.S) (m:List UInt8):Up.S:=⟨s.text,s.more++m⟩
section
variable {W W':World} {X:Nat→Prop} {g:Nat} {C:WC} {s:Up.S} {B:List Bool}
theorem pend_snoc (rs:List Sx.Arw) (x:Sx.Arw):pend (rs++[x])=pend rs++if x.op=[60,60] then flatB x else []:=by
 unfold pend flat
 rw[List.filter_append,List.flatMap_append]
 by_cases e:x.op=[60,60]
 ·rw[if_pos e];simp[e]
 ·rw[if_neg e];simp[e]
theorem pend_le (rs:List Sx.Arw) (k:Nat):(pend (rs.take k)).length≤(pend rs).length:=by
 have e:pend rs=pend (rs.take k)++pend (rs.drop k):=by
  conv=>lhs;rw[←List.take_append_drop k rs]
  unfold pend flat
  rw[List.filter_append,List.flatMap_append]
 rw[e,List.length_append]
 omega
theorem own_grow {w w2:World} {base:Nat} {e:TypeId} {vt v':Value} {xs ys:List Value} (hm:WMem w (plus X vt.ownBlock.toList) g C s B) (ho:w.ownsRow base e 1 vt ys.length ys) (hbase:C.W0.heap.size≤base) (hg:Grew w w2 base e vt v' xs):WMem w2 (plus X v'.ownBlock.toList) g C s B:=by
 have hgr:=hg.2
 have key:∀ {Y:Nat→Prop},(∀ b,vt.ownBlock=some b→Y b)→WMem w Y g C s B→WMem w2 Y g C s B:=fun {Y} hy hm=>by
  cases hv:vt.ownBlock with
  | none=>
   rw[hv] at hgr
   obtain⟨vh,H,pa,vb,h⟩:=hm
   exact(h.kept hgr nofun nofun (by cases C.vB.ownBlock <;> simp) (by cases vb.ownBlock <;> simp) (by cases vh.ownBlock <;> simp) nofun).mem
  | some b=>
   rw[hv] at hgr
   exact hm.other hgr (hy b hv) (Nat.le_trans hbase (ho.lt b hv).1)
 rcases hg.3 with e1 | ⟨k,e1,e2⟩
 ·rw[e1]
  exact key (fun b e=>.inr (by rw[e];simp)) hm
 ·rw[e1]
  have h1:=key (Y:=plus (plus X vt.ownBlock.toList) [k]) (fun b e=>.inl (.inr (by rw[e];simp))) (hm.more [k] (by simpa using e2))
  refine h1.sub (fun b hb=>?_) fun b hb=>.inl (hm.lX b hb |>.elim id fun h=>?_)
  ·rcases hb with hb | hb
   ·exact .inl (.inl hb)
   ·exact .inr (by simpa using hb)
  ·exfalso
   cases hv:vt.ownBlock with
   | none=>rw[hv] at h;simp at h
   | some b'=>
    rw[hv] at h
    simp at h
    have:=(ho.lt b' hv).1
    omega
theorem rdr_fr {A:Option Addr} {n:Nat} {rs:List Sx.Arw} (h:RdR W W.heap.size A n rs) (hf:Fr X W W') (hA:0<n→∀ ad,A=some ad→X ad.block):RdR W' W'.heap.size A n rs:=by
 refine⟨h.1,fun k hk=>?_⟩
 obtain⟨b,e,hb,c0,c1,c2,c3⟩:=h.2 k hk
 have key:∀ o v,W.cell? ⟨b,o,none⟩=some v→W'.cell? ⟨b,o,none⟩=some v:=fun o v hv=>by
  rw[←hv]
  unfold World.cell?
  rw[hf.block b hb (hA (by have:=h.1;omega) _ e)]
 exact⟨b,e,Nat.lt_of_lt_of_le hb hf.size,key _ _ c0,key _ _ c1,key _ _ c2,key _ _ c3⟩
theorem redirs_v (h:WMem W X g C s B) (hX:XL X W) (A:Option Addr) (n c:Nat) (rs:List Sx.Arw) (hr:RdR W W.heap.size A n rs) (hA:0<n→∀ ad,A=some ad→X ad.block) (hn:n≤1000000) (hsm:∀ x∈rs,x.fd≤99∧x.op.length≤2∧x.word.length≤4100∧x.body.length≤4100) (hl:Up.size s+(pend rs).length≤2400000000000) :
  Calls Tryz.prog 101 #[.pointer (some ⟨g,0,none⟩),.slice A n c] W fun e W'=>∃ vt,e=.returned vt∧W'.ownsRow W.heap.size 9 1 vt n (rs.map tsv)∧WMem W' (plus X vt.ownBlock.toList) g C (wait s (pend rs)) B∧Fr X W W':=by
 have HH:=Lib.hid h
 have HX:=Lib.hid hX
 have HLM:=Lib.hid hl
 have HR:=Lib.hid hr
 have HAA:=Lib.hid hA
 have hts:rs.length=n:=hr.1
 clear h hX hr hA hl
 go_enter Tryz.func101,Tryz.ntmps101
 go_wp2_with (go_at_call 32;fail)
 go_loopw [5,10] (fun v i wr=>∃ k:Nat,k≤n∧i=.int .i64 (k:Int)∧wr.ownsRow W.heap.size 9 1 v k ((rs.take k).map tsv)∧WMem wr (plus X v.ownBlock.toList) g C (wait s (pend (rs.take k))) B∧Fr X W wr) (fun _ i _=>n-(intOf i).toNat)
 case atStart=>exact⟨0,by omega,rfl,World.ownsRow_nil _ _ _ _,by have:=HH.out.more [] nofun;simpa [wait,pend,flat,Value.ownBlock] using this,Fr.refl _ _⟩
 case round=>
  obtain⟨k,hk,rfl,ho,hm,hf⟩:=hrel
  have HM:=Lib.hid hm
  have HF:=Lib.hid hf
  have HO:=Lib.hid ho
  have hk0:(0:Int)≤(k:Int):=by omega
  by_cases hlt:k<n
  ·obtain⟨A0,k0,rfl,_⟩:=own_any ho
   obtain⟨ga,ea,_,c0,c1,c2,c3⟩:=(rdr_fr HR.out HF.out HAA.out).2 k (by omega)
   subst ea
   have hk1:(k:Int)<(n:Int):=by omega
   have hxs:=hsm rs[k] (List.getElem_mem (by omega))
   have htk:rs.take (k+1)=rs.take k++[rs[k]]:=List.take_succ_eq_append_getElem (by omega)
   obtain⟨x,hx⟩:∃ x,x=rs[k]:=⟨_,rfl⟩
   rw[←hx] at c0 c1 c2 c3 hxs htk
   have HLD:=Lib.hid (arw_load c0 c1 c2 c3)
   have hst:=arw_store wr #[.int .i64 0,.string ⟨#[]⟩,.string ⟨#[]⟩,.string ⟨#[]⟩] x rfl
   have HST:=Lib.hid hst
   clear hm hf ho c0 c1 c2 c3 hst hx
   go_wp2_with (first
    |(refine wpList_loadRun rfl 79 (.tmp 12) rfl (.pointer (some ⟨ga,k*4,none⟩)) (.agg (arwA x)) rfl HLD.out ?_)
    |(refine wpList_storeRun rfl 79 (.tmp 7) (.tmp 13) rfl _ _ rfl rfl HST.out ?_))
   obtain⟨i0,hi,hz0,hz1,hz2⟩:=info_parts info_string3
   obtain⟨w1,hw1⟩:∃ w1,w1=wr.alloc (.cells (arwA x) 79):=⟨_,rfl⟩
   rw[←hw1]
   have hl1:Later wr w1:=by rw[hw1];exact Later.alloc _ _
   have hb1:w1.heap[wr.heap.size]?=some (.cells (arwA x) 79 (0,0)):=by rw[hw1];exact heap_alloc_new wr _
   obtain⟨wa,hwa⟩:∃ wa,wa=w1.drew.alloc (.cells #[.string (mkS (txt x))] 9):=⟨_,rfl⟩
   have hla:Later w1 wa:=by rw[hwa];exact(Later.drew _).trans (Later.alloc _ _)
   have hba:wa.heap[w1.drew.heap.size]?=some (.cells #[.string (mkS (txt x))] 9 (0,0)):=by rw[hwa];exact heap_alloc_new w1.drew _
   have hxsl:((rs.take k).map tsv).length=k:=by rw[List.length_map,List.length_take];omega
   let P3:Value→World→Prop:=fun v' w'=>Grew wa w' W.heap.size 9 (.slice A0 k k0) v' ((rs.take (k+1)).map tsv)
   have HAP0:∃ v' w',(Builtin.append_ #[33,33] 33 #[.slice A0 k k0,.slice (some ⟨w1.drew.heap.size,0,none⟩) 1 1]).run Tryz.prog wa=.ok v' w'∧P3 v' w':=by
    have hown:=own_below HO.out (hl1.trans hla)
    rw[←hxsl] at hown
    obtain⟨v',w',hrun,hg⟩:=run_appN (P:=Tryz.prog) wa W.heap.size 33 33 9 i0 _ 16 Tryz.underlying33 hi hz0 hz1 hz2 rfl (.slice A0 k k0) ((rs.take k).map tsv) (by rw[hxsl] at hown⊢;exact hown) (w1.drew.heap.size+1) (some ⟨w1.drew.heap.size,0,none⟩) 1 1 [tsv x] (by rw[hwa];exact Rd.lit w1.drew 9 [tsv x]) (by simp[tsv,Value.oneCell']) (by rw[hxsl];omega) (by rw[hxsl];omega) (Nat.le_trans HF.out.size (hl1.trans hla).size)
    refine⟨v',w',hrun,?_⟩
    show Grew wa w' W.heap.size 9 (.slice A0 k k0) v' _
    rw[htk,List.map_append]
    exact hg
   obtain⟨C0,hC0⟩:∃ C0:Nat→Value→World→Prop,C0=fun j u w=>(j=0∧w=w1.drew)∨(j=1∧u=.slice (some ⟨w1.drew.heap.size,0,none⟩) 1 1∧w=wa)∨(j=2∧P3 u w)∨(j=3∧P3 u w):=⟨_,rfl⟩
   have hP:∀ u w,P3 u w→w.heap[wr.heap.size]?=some (.cells (arwA x) 79 (0,0)):=fun u w hp=>by
    have h1:=hla.block wr.heap.size (lt_of_block hb1)
    rw[hp.2.block wr.heap.size (Nat.lt_of_lt_of_le (lt_of_block hb1) hla.size) (fun e=>by have:=(HO.out.lt wr.heap.size e.symm).2;omega),h1,hb1]
   have hbox:∀ j u w,C0 j u w→w.heap[wr.heap.size]?=some (.cells (arwA x) 79 (0,0)):=fun j u w hc=>by
    rw[hC0] at hc
    rcases hc with⟨_,rfl⟩ | ⟨_,_,rfl⟩ | ⟨_,hp⟩ | ⟨_,hp⟩
    ·exact hb1
    ·exact later_cells hla hb1
    ·exact hP u w hp
    ·exact hP u w hp
   have HB:=Lib.hid (show ∀ j u w,C0 j u w→w.cell? ⟨wr.heap.size,0,none⟩=some (.int .i64 (x.fd:Int))∧w.cell? ⟨wr.heap.size,1,none⟩=some (.string (mkS x.op))∧w.cell? ⟨wr.heap.size,2,none⟩=some (.string (mkS x.word)) from fun j u w hc=>⟨(cell_row (hbox j u w hc) 0).1,(cell_row (hbox j u w hc) 1).1,(cell_row (hbox j u w hc) 2).1⟩)
   have HBX:=Lib.hid (show ∀ u w,C0 3 u w→P3 u w∧w.heap[wr.heap.size]?=some (.cells (arwA x) 79 (0,0)) from fun u w hc=>⟨by
    rw[hC0] at hc
    rcases hc with⟨e,_⟩ | ⟨e,_⟩ | ⟨e,_⟩ | ⟨_,e⟩
    ·cases e
    ·cases e
    ·cases e
    ·exact e,hbox 3 u w hc⟩)
   have H0:=Lib.hid (show C0 0 undef w1.drew by rw[hC0];exact .inl ⟨rfl,rfl⟩)
   have HA':=Lib.hid (show ∀ u w,C0 0 u w→w=w1.drew from fun u w hc=>by
    rw[hC0] at hc
    rcases hc with⟨_,e⟩ | ⟨e,_⟩ | ⟨e,_⟩ | ⟨e,_⟩
    ·exact e
    all_goals cases e)
   have H1:=Lib.hid (show C0 1 (.slice (some ⟨w1.drew.heap.size,0,none⟩) 1 1) (w1.drew.alloc (.cells #[.string (mkS (txt x))] 9)) by rw[hC0,←hwa];exact .inr (.inl ⟨rfl,rfl,rfl⟩))
   have HA1:=Lib.hid (show ∀ u w,C0 1 u w→u=.slice (some ⟨w1.drew.heap.size,0,none⟩) 1 1∧w=wa from fun u w hc=>by
    rw[hC0] at hc
    rcases hc with⟨e,_⟩ | ⟨_,e1,e2⟩ | ⟨e,_⟩ | ⟨e,_⟩
    ·cases e
    ·exact⟨e1,e2⟩
    all_goals cases e)
   have HAP:=Lib.hid HAP0
   have H2:=Lib.hid (show ∀ v' w',P3 v' w'→C0 2 v' w' from fun v' w' hp=>by rw[hC0];exact .inr (.inr (.inl ⟨rfl,hp⟩)))
   have H3:=Lib.hid (show ∀ u w,C0 2 u w→C0 3 u w from fun u w hc=>by
    rw[hC0] at hc⊢
    rcases hc with⟨e,_⟩ | ⟨e,_⟩ | ⟨_,e⟩ | ⟨e,_⟩
    ·cases e
    ·cases e
    ·exact .inr (.inr (.inr ⟨rfl,e⟩))
    ·cases e)
   have HI:=Lib.hid (fun w=>itoa_v x.fd (by omega) w)
   have HS1:=Lib.hid (mkS_add (Up.num x.fd) x.op)
   have HS2:=Lib.hid (show mkS (Up.num x.fd++x.op)++mkS x.word=mkS (txt x) from mkS_add _ _)
   have hnl:=Up.num_len x.fd
   have HS3:=Lib.hid (show (mkS (Up.num x.fd)).size+(mkS x.op).size≤9223372036854775807 by rw[mkS_size,mkS_size];omega)
   have HS4:=Lib.hid (show (mkS (Up.num x.fd++x.op)).size+(mkS x.word).size≤9223372036854775807 by rw[mkS_size,mkS_size,List.length_append];omega)
   have HT:=Lib.hid htk
   have HXS:=Lib.hid hxs
   have HL1:=Lib.hid (And.intro hl1 hla)
   have HA:=HA'
   clear HA' HAP0 hP hbox hC0 hba hb1 hla hl1 hwa hw1 hxsl hnl htk hxs HLD HST
   refine wp_region_seqE (by kernel_rfl) [10,11,12] (C0) [some (.slice A0 k k0),some (.pointer (some ⟨wr.heap.size,0,none⟩)),some (.int .i64 (x.fd:Int)),some (.string (mkS (Up.num x.fd))),some (.pointer (some ⟨wr.heap.size,1,none⟩)),some (.string (mkS x.op)),some (.string (mkS (Up.num x.fd++x.op))),some (.pointer (some ⟨wr.heap.size,2,none⟩)),some (.string (mkS x.word)),some (.string (mkS (txt x))),none,none,none] (by decide) (by decide) (by kernel_rfl) (by kernel_rfl) 5 (by kernel_rfl) (H0.out) ?_ ?_
   ·refine⟨?_,?_,?_,?_,?_,?_,?_,?_,?_,?_,?_,?_,?_,trivial⟩
    ·
     refine OwesSE.q rfl fun a w j u hC hb he hs=>⟨rfl,?_⟩
     have e5:a.tmps.getD 5 undef=.slice A0 k k0:=he (by have:=hb 2 12 rfl rfl;simp only[List.length_cons,List.length_nil];omega)
     refine ValWp.pure (v:=.slice A0 k k0) (fun K' hK'=>?_) ⟨rfl,rfl⟩
     simp only[ValWp,execOp,Act.eval,e5]
     go_simp
     all_goals exact hK'
    ·
     refine OwesSE.q rfl fun a w j u hC hb he hs=>⟨rfl,?_⟩
     have e7:a.tmps.getD 7 undef=.pointer (some ⟨wr.heap.size,0,none⟩):=hs.free 7 rfl
     refine ValWp.pure (v:=.pointer (some ⟨wr.heap.size,0,none⟩)) (fun K' hK'=>?_) ⟨rfl,rfl⟩
     simp only[ValWp,execOp,Act.eval,e7]
     go_simp
     all_goals exact hK'
    ·
     refine OwesSE.q rfl fun a w j u hC hb he hs=>⟨rfl,?_⟩
     have e15:a.tmps.getD 15 undef=.pointer (some ⟨wr.heap.size,0,none⟩):=hs.dep 1 _ rfl rfl
     have q0:=(HB.out j u w hC).1
     refine ValWp.pure (v:=.int .i64 (x.fd:Int)) (fun K' hK'=>?_) ⟨rfl,rfl⟩
     simp only[ValWp,execOp,Act.eval,e15]
     go_simp
     all_goals exact hK'
    ·
     refine OwesSE.q rfl fun a w j u hC hb he hs=>⟨rfl,?_⟩
     have e16:a.tmps.getD 16 undef=.int .i64 (x.fd:Int):=hs.dep 2 _ rfl rfl
     refine ValWp.call #[.int .i64 (x.fd:Int)] rfl rfl Tryz.func122 rfl rfl (by simp only[List.map_toArray,List.map_cons,List.map_nil,Act.eval,e16]) ?_
     refine(HI.out w).mono ?_
     rintro r w' ⟨rfl,rfl⟩
     exact⟨_,rfl,rfl,rfl⟩
    ·
     refine OwesSE.q rfl fun a w j u hC hb he hs=>⟨rfl,?_⟩
     have e7:a.tmps.getD 7 undef=.pointer (some ⟨wr.heap.size,0,none⟩):=hs.free 7 rfl
     refine ValWp.pure (v:=.pointer (some ⟨wr.heap.size,1,none⟩)) (fun K' hK'=>?_) ⟨rfl,rfl⟩
     simp only[ValWp,execOp,Act.eval,e7]
     go_simp
     all_goals exact hK'
    ·
     refine OwesSE.q rfl fun a w j u hC hb he hs=>⟨rfl,?_⟩
     have e18:a.tmps.getD 18 undef=.pointer (some ⟨wr.heap.size,1,none⟩):=hs.dep 4 _ rfl rfl
     have q0:=(HB.out j u w hC).2.1
     refine ValWp.pure (v:=.string (mkS x.op)) (fun K' hK'=>?_) ⟨rfl,rfl⟩
     simp only[ValWp,execOp,Act.eval,e18]
     go_simp
     all_goals exact hK'
    ·
     refine OwesSE.q rfl fun a w j u hC hb he hs=>⟨rfl,?_⟩
     have e17:a.tmps.getD 17 undef=.string (mkS (Up.num x.fd)):=hs.dep 3 _ rfl rfl
     have e19:a.tmps.getD 19 undef=.string (mkS x.op):=hs.dep 5 _ rfl rfl
     have q0:=HS1.out
     have q1:¬ 9223372036854775807<(mkS (Up.num x.fd)).size+(mkS x.op).size:=by have:=HS3.out;omega
     refine ValWp.pure (v:=.string (mkS (Up.num x.fd++x.op))) (fun K' hK'=>?_) ⟨rfl,rfl⟩
     simp only[ValWp,execOp,Act.eval,e17,e19]
     go_simp
     all_goals exact hK'
    ·
     refine OwesSE.q rfl fun a w j u hC hb he hs=>⟨rfl,?_⟩
     have e7:a.tmps.getD 7 undef=.pointer (some ⟨wr.heap.size,0,none⟩):=hs.free 7 rfl
     refine ValWp.pure (v:=.pointer (some ⟨wr.heap.size,2,none⟩)) (fun K' hK'=>?_) ⟨rfl,rfl⟩
     simp only[ValWp,execOp,Act.eval,e7]
     go_simp
     all_goals exact hK'
    ·
     refine OwesSE.q rfl fun a w j u hC hb he hs=>⟨rfl,?_⟩
     have e21:a.tmps.getD 21 undef=.pointer (some ⟨wr.heap.size,2,none⟩):=hs.dep 7 _ rfl rfl
     have q0:=(HB.out j u w hC).2.2
     refine ValWp.pure (v:=.string (mkS x.word)) (fun K' hK'=>?_) ⟨rfl,rfl⟩
     simp only[ValWp,execOp,Act.eval,e21]
     go_simp
     all_goals exact hK'
    ·
     refine OwesSE.q rfl fun a w j u hC hb he hs=>⟨rfl,?_⟩
     have e20:a.tmps.getD 20 undef=.string (mkS (Up.num x.fd++x.op)):=hs.dep 6 _ rfl rfl
     have e22:a.tmps.getD 22 undef=.string (mkS x.word):=hs.dep 8 _ rfl rfl
     have q0:=HS2.out
     have q1:¬ 9223372036854775807<(mkS (Up.num x.fd++x.op)).size+(mkS x.word).size:=by have:=HS4.out;omega
     refine ValWp.pure (v:=.string (mkS (txt x))) (fun K' hK'=>?_) ⟨rfl,rfl⟩
     simp only[ValWp,execOp,Act.eval,e20,e22]
     go_simp
     all_goals exact hK'
    ·
     refine OwesSE.w rfl fun a w u hC hl hs=>⟨rfl,fun K hK=>?_⟩
     have e23:a.tmps.getD 23 undef=.string (mkS (txt x)):=hs.dep 9 _ rfl rfl
     have hw:=HA.out u w hC
     subst hw
     refine wp_of_val ?_
     refine ValWp.pure (v:=.slice (some ⟨w1.drew.heap.size,0,none⟩) 1 1) (w':=w1.drew.alloc (.cells #[.string (mkS (txt x))] 9)) (fun K' hK'=>?_) (hK _ _ trivial H1.out)
     simp only[ValWp,execOp,Act.eval,List.map_toArray,List.map_cons,List.map_nil,e23]
     go_simp
     all_goals exact hK'
    ·
     refine OwesSE.w rfl fun a w u hC hl hs=>⟨rfl,fun K hK=>?_⟩
     have e14:a.tmps.getD 14 undef=.slice A0 k k0:=hs.dep 0 _ rfl rfl
     have e24:a.tmps.getD 24 undef=u:=hl
     obtain⟨hu,hw⟩:=HA1.out u w hC
     subst hu
     subst hw
     obtain⟨v',w',hrun,h3⟩:=HAP.out
     exact owes_append hrun rfl e14 e24 (hK v' w' trivial (H2.out v' w' h3))
    ·
     refine OwesSE.w rfl fun a w u hC hl hs=>⟨rfl,fun K hK=>?_⟩
     have e25:a.tmps.getD 25 undef=u:=hl
     refine wp_of_val ?_
     refine ValWp.pure (v:=u) (w':=w) (fun K' hK'=>?_) (hK _ _ trivial (H3.out u w hC))
     simp only[ValWp,execOp,Act.eval,e25]
     go_simp
     all_goals exact hK'
   ·intro a w u hC hl hd hsz hfree hs
    obtain⟨u11,hu11⟩:∃ u,u=a.tmps.getD 11 undef:=⟨_,rfl⟩
    obtain⟨u12,hu12⟩:∃ u,u=a.tmps.getD 12 undef:=⟨_,rfl⟩
    obtain⟨u13,hu13⟩:∃ u,u=a.tmps.getD 13 undef:=⟨_,rfl⟩
    obtain⟨u14,hu14⟩:∃ u,u=a.tmps.getD 14 undef:=⟨_,rfl⟩
    obtain⟨u15,hu15⟩:∃ u,u=a.tmps.getD 15 undef:=⟨_,rfl⟩
    obtain⟨u16,hu16⟩:∃ u,u=a.tmps.getD 16 undef:=⟨_,rfl⟩
    obtain⟨u17,hu17⟩:∃ u,u=a.tmps.getD 17 undef:=⟨_,rfl⟩
    obtain⟨u18,hu18⟩:∃ u,u=a.tmps.getD 18 undef:=⟨_,rfl⟩
    obtain⟨u19,hu19⟩:∃ u,u=a.tmps.getD 19 undef:=⟨_,rfl⟩
    obtain⟨u20,hu20⟩:∃ u,u=a.tmps.getD 20 undef:=⟨_,rfl⟩
    obtain⟨u21,hu21⟩:∃ u,u=a.tmps.getD 21 undef:=⟨_,rfl⟩
    obtain⟨u22,hu22⟩:∃ u,u=a.tmps.getD 22 undef:=⟨_,rfl⟩
    obtain⟨u23,hu23⟩:∃ u,u=a.tmps.getD 23 undef:=⟨_,rfl⟩
    obtain⟨u24,hu24⟩:∃ u,u=a.tmps.getD 24 undef:=⟨_,rfl⟩
    obtain⟨u25,hu25⟩:∃ u,u=a.tmps.getD 25 undef:=⟨_,rfl⟩
    obtain⟨u26,hu26⟩:∃ u,u=a.tmps.getD 26 undef:=⟨_,rfl⟩
    obtain⟨u27,hu27⟩:∃ u,u=a.tmps.getD 27 undef:=⟨_,rfl⟩
    obtain⟨u28,hu28⟩:∃ u,u=a.tmps.getD 28 undef:=⟨_,rfl⟩
    obtain⟨u29,hu29⟩:∃ u,u=a.tmps.getD 29 undef:=⟨_,rfl⟩
    obtain⟨u30,hu30⟩:∃ u,u=a.tmps.getD 30 undef:=⟨_,rfl⟩
    obtain⟨u31,hu31⟩:∃ u,u=a.tmps.getD 31 undef:=⟨_,rfl⟩
    obtain⟨u32,hu32⟩:∃ u,u=a.tmps.getD 32 undef:=⟨_,rfl⟩
    obtain⟨u33,hu33⟩:∃ u,u=a.tmps.getD 33 undef:=⟨_,rfl⟩
    obtain⟨u34,hu34⟩:∃ u,u=a.tmps.getD 34 undef:=⟨_,rfl⟩
    obtain⟨u35,hu35⟩:∃ u,u=a.tmps.getD 35 undef:=⟨_,rfl⟩
    obtain⟨u36,hu36⟩:∃ u,u=a.tmps.getD 36 undef:=⟨_,rfl⟩
    obtain⟨u37,hu37⟩:∃ u,u=a.tmps.getD 37 undef:=⟨_,rfl⟩
    obtain⟨u38,hu38⟩:∃ u,u=a.tmps.getD 38 undef:=⟨_,rfl⟩
    obtain⟨u39,hu39⟩:∃ u,u=a.tmps.getD 39 undef:=⟨_,rfl⟩
    have hal:AllAt a 0 [.pointer (some ⟨g,0,none⟩),.slice (some ⟨ga,0,none⟩) n c,undef,undef,.slice none 0 0,u,undef,.pointer (some ⟨wr.heap.size,0,none⟩),.slice (some ⟨ga,0,none⟩) n c,.int .i64 (n:Int),.int .i64 (k:Int),u11,u12,u13,u14,u15,u16,u17,u18,u19,u20,u21,u22,u23,u24,u25,u26,u27,u28,u29,u30,u31,u32,u33,u34,u35,u36,u37,u38,u39,undef]:=⟨hfree 0 rfl,hfree 1 rfl,hfree 2 rfl,hfree 3 rfl,hfree 4 rfl,hl,hfree 6 rfl,hfree 7 rfl,hfree 8 rfl,hfree 9 rfl,hfree 10 rfl,hu11.symm,hu12.symm,hu13.symm,hu14.symm,hu15.symm,hu16.symm,hu17.symm,hu18.symm,hu19.symm,hu20.symm,hu21.symm,hu22.symm,hu23.symm,hu24.symm,hu25.symm,hu26.symm,hu27.symm,hu28.symm,hu29.symm,hu30.symm,hu31.symm,hu32.symm,hu33.symm,hu34.symm,hu35.symm,hu36.symm,hu37.symm,hu38.symm,hu39.symm,hfree 40 rfl,trivial⟩
    have hlit:=fun h=>act_lit hd h hal
    rw[hlit hsz]
    clear hlit hal hd hsz hfree hs hu11 hu12 hu13 hu14 hu15 hu16 hu17 hu18 hu19 hu20 hu21 hu22 hu23 hu24 hu25 hu26 hu27 hu28 hu29 hu30 hu31 hu32 hu33 hu34 hu35 hu36 hu37 hu38 hu39
    obtain⟨hp,hbx⟩:=HBX.out u w hC
    obtain⟨w2,hw2⟩:∃ w2,w2=w:=⟨_,rfl⟩
    rw[←hw2] at hp hbx⊢
    clear hl hC hw2 HB HBX H0 H1 HA HA1 HAP H2 H3 HI HS1 HS2 HS3 HS4
    have hlen5:((rs.take (k+1)).map tsv).length=k+1:=by rw[List.length_map,List.length_take];omega
    have ho2:=hp.1
    obtain⟨A5,k5,e5,_⟩:=own_any ho2
    rw[hlen5] at e5 ho2
    subst e5
    have hbase:C.W0.heap.size≤W.heap.size:=HH.out.low.size
    have hfr2:Fr X W w2:=(HF.out.thenLater (HL1.out.1.trans HL1.out.2)).trans (Fr.grown hp.2 fun b e hx=>by have:=(HO.out.lt b e).1;have:=HX.out b hx;omega)
    have hown:=own_below HO.out (HL1.out.1.trans HL1.out.2)
    have hxsl:((rs.take k).map tsv).length=k:=by rw[List.length_map,List.length_take];omega
    have hm2:WMem w2 (plus X (Value.slice A5 (k+1) k5).ownBlock.toList) g C (wait s (pend (rs.take k))) B:=own_grow (HM.out.later (HL1.out.1.trans HL1.out.2)) (ys:=(rs.take k).map tsv) (by rw[hxsl];exact hown) hbase hp
    have HFR:=Lib.hid hfr2
    have HO2:=Lib.hid ho2
    have HM2:=Lib.hid hm2
    have HBX:=Lib.hid hbx
    have q1:w2.cell? ⟨wr.heap.size,1,none⟩=some (.string (mkS x.op)):=(cell_row hbx 1).1
    clear hp hfr2 ho2 hm2 hown hxsl hlen5 HM HO HL1
    by_cases hop:x.op=[60,60]
    ·have hq:((mkS x.op).toList==[60,60])=true:=by rw[toList_mkS,hop];rfl
     have HOP:=Lib.hid hop
     obtain⟨vh,H,pa,vb,hm2⟩:=HM2.out
     have hgn:=hm2.lt
     obtain⟨⟨c0,c1,c2,c3,c4,c5⟩,hz⟩:=hm2.facts
     obtain⟨A7,k7,rfl,hk7⟩:=own_any hm2.hs
     obtain⟨m7,hm7⟩:∃ m7,m7=H.length:=⟨_,rfl⟩
     rw[←hm7] at c4
     have HMX:=Lib.hid hm2
     clear hm2 hbx hop
     go_wp2
     clear q1 hq c0 c1 c2 c3 c4 c5 hz
     obtain⟨i1,hj,hy0,hy1,hy2⟩:=info_parts info_redir3
     obtain⟨wb,hwb⟩:∃ wb,wb=w2.drew.alloc (.cells (arwA x) 79):=⟨_,rfl⟩
     have hlb:Later w2 wb:=by rw[hwb];exact(Later.drew _).trans (Later.alloc _ _)
     have hbb:wb.heap[w2.drew.heap.size]?=some (.cells (arwA x) 79 (0,0)):=by rw[hwb];exact heap_alloc_new w2.drew _
     have hmb:=HMX.out.later hlb
     have hHl:H.length≤2400000000000:=by
      have h1:s.more++pend (rs.take k)=flat H:=hmb.hm
      have h2:=flat_len H
      rw[←h1,List.length_append] at h2
      have h3:=HLM.out
      have h4:=pend_le rs k
      unfold Up.size at h3
      omega
     let Y:Nat→Prop:=plus X (Value.slice A5 (k+1) k5).ownBlock.toList
     let Q3:Value→World→Prop:=fun v' w'=>w'.ownsRow 0 79 4 v' (m7+1) ((H++[x]).flatMap rcs)∧wb.grownBy w' (Value.slice A7 H.length k7).ownBlock∧(v'.ownBlock=(Value.slice A7 H.length k7).ownBlock∨∃ b,v'.ownBlock=some b∧wb.heap.size≤b)
     have HAP0:∃ v' w',(Builtin.append_ #[34,34] 34 #[.slice A7 H.length k7,.slice (some ⟨w2.drew.heap.size,0,none⟩) 1 1]).run Tryz.prog wb=.ok v' w'∧Q3 v' w':=by
      obtain⟨v',w',hrun,h2,h3,_,h5⟩:=run_append_own_at (P:=Tryz.prog) wb 0 34 34 79 i1 _ 4 56 Tryz.underlying34 hj hy0 hy1 hy2 rfl (by omega) (.slice A7 H.length k7) H.length (H.flatMap rcs) hmb.hs ⟨w2.drew.heap.size,0,none⟩ 1 1 (rcs x) rfl
       (fun j u hj=>by rw[add_lit0,(cell_row hbb j).1];simpa [rcs,iv,sv] using hj) (by intro u hu;simp only[rcs,List.mem_cons,List.not_mem_nil,or_false] at hu;rcases hu with rfl | rfl | rfl | rfl <;> rfl) (by unfold maxLen;omega) (by omega) (Nat.zero_le _)
      refine⟨v',w',hrun,by rw[hm7,List.flatMap_append];simpa using h2,h3,?_⟩
      rcases h5 with h5 | h5
      ·exact .inl h5
      ·exact .inr ⟨_,h5,Nat.le_refl _⟩
     have HQ0:∀ v' w',Q3 v' w'→(∃ A4 n4 k4,v'=.slice A4 n4 k4)∧w'.cell? ⟨g,4,none⟩=some (.slice A7 m7 k7)∧w'.frozen? ⟨g,4,none⟩=false∧WMem (w'.setCell ⟨g,4,none⟩ v') Y g C (wait s (pend (rs.take (k+1)))) B∧Fr Y w2 (w'.setCell ⟨g,4,none⟩ v'):=by
      intro v' w' hp
      obtain⟨A4,k4,e4,_⟩:=own_any hp.1
      have hne:(Value.slice A7 H.length k7).ownBlock≠some g:=hmb.ne_g hmb.hs (by decide)
      have hgb:=hp.2.1.block g hmb.lt (fun e=>hne e.symm)
      have hbx:=hgb.trans hmb.box
      have hXY:XL Y wb:=fun b hb=>by
       rcases hb with hb | hb
       ·exact Nat.lt_of_lt_of_le (HX.out b hb) (Nat.le_trans HFR.out.size hlb.size)
       ·obtain⟨b',hb'⟩:∃ b',(Value.slice A5 (k+1) k5).ownBlock=some b':=by
         cases e:(Value.slice A5 (k+1) k5).ownBlock with
         | none=>rw[e] at hb;simp at hb
         | some b'=>exact⟨b',rfl⟩
        rw[hb'] at hb
        have:=(HO2.out.lt b' hb').2
        have e2:b=b':=by simpa using hb
        rw[e2]
        exact Nat.lt_of_lt_of_le this hlb.size
      have hgs:=grown_set (W1:=w') (i:=4) (u:=v') (s':=wait s (pend (rs.take (k+1)))) (H':=H++[x]) (pa':=pa) (vb':=vb) (vh':=v') hmb hp.2.1 hmb.hX hne (own_ne hmb.beg hmb.hs (by decide)) (hmb.m_ne hmb.hs) rfl hmb.pa (hmb.buf.kept hp.2.1 (own_ne hmb.buf hmb.hs (by decide))) hmb.uX (by rw[List.length_append,List.length_singleton,←hm7];exact hp.1) (moved_new (W1:=w') hmb.hX hXY hp.2.2) (by
       have h1:(wait s (pend (rs.take k))).more=flat H:=hmb.hm
       unfold wait at h1⊢
       simp only at h1⊢
       rw[HT.out,pend_snoc,if_pos HOP.out,←List.append_assoc,h1]
       simp[flat]) (fun y hy=>by
        rcases List.mem_append.1 hy with hy | hy
        ·exact hmb.sm y hy
        ·rw[List.mem_singleton.1 hy];exact HXS.out)
      exact⟨⟨A4,_,k4,e4⟩,by rw[(cell_row hbx 4).1,hm7];rfl,(cell_row hbx 4).2,hgs.1.mem,(Fr.later hlb).trans hgs.2⟩
     rw[←hm7] at HAP0
     obtain⟨C1,hC1⟩:∃ C1:Nat→Value→World→Prop,C1=fun j u w=>(j=0∧w=w2.drew)∨(j=1∧u=.slice (some ⟨w2.drew.heap.size,0,none⟩) 1 1∧w=wb)∨(j=2∧Q3 u w)∨(j=3∧∃ v' w',Q3 v' w'∧w=w'.setCell ⟨g,4,none⟩ v'):=⟨_,rfl⟩
     have hc4:∀ w,Later w2 w→w.cell? ⟨g,4,none⟩=some (.slice A7 m7 k7):=fun w hw=>by rw[hm7];exact(HMX.out.later hw).facts.1.2.2.2.2.1
     have HC4:=Lib.hid (show ∀ j u w,C1 j u w→j≤1→w.cell? ⟨g,4,none⟩=some (.slice A7 m7 k7) from fun j u w hc hj=>by
      rw[hC1] at hc
      rcases hc with⟨_,rfl⟩ | ⟨_,_,rfl⟩ | ⟨e,_⟩ | ⟨e,_⟩
      ·exact hc4 _ (Later.drew _)
      ·exact hc4 _ hlb
      ·omega
      ·omega)
     have HB:=Lib.hid (show ∀ j u w,C1 j u w→j≤0→(Instr.loadAt 79 (.pointer (some ⟨wr.heap.size,0,none⟩))).run Tryz.prog w=.ok (.agg (arwA x)) w from fun j u w hc hj=>by
      rw[hC1] at hc
      rcases hc with⟨_,rfl⟩ | ⟨e,_⟩ | ⟨e,_⟩ | ⟨e,_⟩
      ·exact arw_load (cell_row HBX.out 0).1 (cell_row HBX.out 1).1 (cell_row HBX.out 2).1 (cell_row HBX.out 3).1
      ·omega
      ·omega
      ·omega)
     have H0:=Lib.hid (show C1 0 undef w2.drew by rw[hC1];exact .inl ⟨rfl,rfl⟩)
     have HA:=Lib.hid (show ∀ u w,C1 0 u w→w=w2.drew from fun u w hc=>by
      rw[hC1] at hc
      rcases hc with⟨_,e⟩ | ⟨e,_⟩ | ⟨e,_⟩ | ⟨e,_⟩
      ·exact e
      all_goals cases e)
     have H1:=Lib.hid (show C1 1 (.slice (some ⟨w2.drew.heap.size,0,none⟩) 1 1) (w2.drew.alloc (.cells (arwA x) 79)) by rw[hC1,←hwb];exact .inr (.inl ⟨rfl,rfl,rfl⟩))
     have HA1:=Lib.hid (show ∀ u w,C1 1 u w→u=.slice (some ⟨w2.drew.heap.size,0,none⟩) 1 1∧w=wb from fun u w hc=>by
      rw[hC1] at hc
      rcases hc with⟨e,_⟩ | ⟨_,e1,e2⟩ | ⟨e,_⟩ | ⟨e,_⟩
      ·cases e
      ·exact⟨e1,e2⟩
      all_goals cases e)
     have HAP:=Lib.hid HAP0
     have H2:=Lib.hid (show ∀ v' w',Q3 v' w'→C1 2 v' w' from fun v' w' hp=>by rw[hC1];exact .inr (.inr (.inl ⟨rfl,hp⟩)))
     have hA2:∀ u w,C1 2 u w→Q3 u w:=fun u w hc=>by
      rw[hC1] at hc
      rcases hc with⟨e,_⟩ | ⟨e,_⟩ | ⟨_,e⟩ | ⟨e,_⟩
      ·cases e
      ·cases e
      ·exact e
      ·cases e
     have HU:=Lib.hid (show ∀ u w,C1 2 u w→∃ A4 n4 k4,u=.slice A4 n4 k4∧w.cell? ⟨g,4,none⟩=some (.slice A7 m7 k7)∧w.frozen? ⟨g,4,none⟩=false from fun u w hc=>by
      obtain⟨⟨A4,n4,k4,e⟩,e2,e3,_⟩:=HQ0 u w (hA2 u w hc)
      exact⟨A4,n4,k4,e,e2,e3⟩)
     have H3:=Lib.hid (show ∀ u w,C1 2 u w→C1 3 undef (w.setCell ⟨g,4,none⟩ u) from fun u w hc=>by have:=hA2 u w hc;rw[hC1];exact .inr (.inr (.inr ⟨rfl,u,w,this,rfl⟩)))
     have HE:=Lib.hid (show ∀ u w,C1 3 u w→WMem w Y g C (wait s (pend (rs.take (k+1)))) B∧Fr Y w2 w from fun u w hc=>by
      rw[hC1] at hc
      rcases hc with⟨e,_⟩ | ⟨e,_⟩ | ⟨e,_⟩ | ⟨_,v',w',hp,rfl⟩
      ·cases e
      ·cases e
      ·cases e
      ·exact(HQ0 v' w' hp).2.2.2)
     clear hC1 hA2 HQ0 HAP0 hc4 hmb hbb hlb hwb hHl hm7
     refine wp_region_seq (by kernel_rfl) [6,7,10] (C1) [some (.pointer (some ⟨g,0,none⟩)),some (.pointer (some ⟨g,0,none⟩)),some (.pointer (some ⟨g,0,none⟩)),some (.pointer (some ⟨g,4,none⟩)),some (.slice A7 m7 k7),some (.agg (arwA x)),none,none,some (.pointer (some ⟨g,0,none⟩)),some (.pointer (some ⟨g,4,none⟩)),none] (by decide) (by decide) (by kernel_rfl) (by kernel_rfl) (H0.out) ?_ ?_
     ·refine⟨?_,?_,?_,?_,?_,?_,?_,?_,?_,?_,?_,trivial⟩
      ·
       refine OwesS.q rfl fun a w j u hC hb hs=>⟨rfl,?_⟩
       have e0:a.tmps.getD 0 undef=.pointer (some ⟨g,0,none⟩):=hs.free 0 rfl
       refine ValWp.pure (v:=.pointer (some ⟨g,0,none⟩)) (fun K' hK'=>?_) ⟨rfl,rfl⟩
       simp only[ValWp,execOp,Act.eval,e0]
       go_simp
       all_goals exact hK'
      ·
       refine OwesS.q rfl fun a w j u hC hb hs=>⟨rfl,?_⟩
       have e0:a.tmps.getD 0 undef=.pointer (some ⟨g,0,none⟩):=hs.free 0 rfl
       refine ValWp.pure (v:=.pointer (some ⟨g,0,none⟩)) (fun K' hK'=>?_) ⟨rfl,rfl⟩
       simp only[ValWp,execOp,Act.eval,e0]
       go_simp
       all_goals exact hK'
      ·
       refine OwesS.q rfl fun a w j u hC hb hs=>⟨rfl,?_⟩
       have e30:a.tmps.getD 30 undef=.pointer (some ⟨g,0,none⟩):=hs.dep 1 _ rfl rfl
       refine ValWp.pure (v:=.pointer (some ⟨g,0,none⟩)) (fun K' hK'=>?_) ⟨rfl,rfl⟩
       simp only[ValWp,execOp,Act.eval,e30]
       go_simp
       all_goals exact hK'
      ·
       refine OwesS.q rfl fun a w j u hC hb hs=>⟨rfl,?_⟩
       have e31:a.tmps.getD 31 undef=.pointer (some ⟨g,0,none⟩):=hs.dep 2 _ rfl rfl
       refine ValWp.pure (v:=.pointer (some ⟨g,4,none⟩)) (fun K' hK'=>?_) ⟨rfl,rfl⟩
       simp only[ValWp,execOp,Act.eval,e31]
       go_simp
       all_goals exact hK'
      ·
       refine OwesS.q rfl fun a w j u hC hb hs=>⟨rfl,?_⟩
       have e32:a.tmps.getD 32 undef=.pointer (some ⟨g,4,none⟩):=hs.dep 3 _ rfl rfl
       have hj:=hb 1 7 rfl rfl
       have q0:=HC4.out j u w hC hj
       refine ValWp.pure (v:=.slice A7 m7 k7) (fun K' hK'=>?_) ⟨rfl,rfl⟩
       simp only[ValWp,execOp,Act.eval,e32]
       go_simp
       all_goals exact hK'
      ·
       refine OwesS.q rfl fun a w j u hC hb hs=>⟨rfl,?_⟩
       have e7:a.tmps.getD 7 undef=.pointer (some ⟨wr.heap.size,0,none⟩):=hs.free 7 rfl
       have hj:=hb 0 6 rfl rfl
       exact ValWp.loadR rfl e7 (HB.out j u w hC hj) ⟨rfl,rfl⟩
      ·
       refine OwesS.w rfl fun a w u hC hl hs=>⟨rfl,fun K hK=>?_⟩
       have e34:a.tmps.getD 34 undef=.agg (arwA x):=hs.dep 5 _ rfl rfl
       have hw:=HA.out u w hC
       subst hw
       refine wp_of_val ?_
       refine ValWp.pure (v:=.slice (some ⟨w2.drew.heap.size,0,none⟩) 1 1) (w':=w2.drew.alloc (.cells (arwA x) 79)) (fun K' hK'=>?_) (hK _ _ trivial H1.out)
       simp only[ValWp,execOp,Act.eval,List.map_toArray,List.map_cons,List.map_nil,e34]
       go_simp
       all_goals exact hK'
      ·
       refine OwesS.w rfl fun a w u hC hl hs=>⟨rfl,fun K hK=>?_⟩
       have e33:a.tmps.getD 33 undef=.slice A7 m7 k7:=hs.dep 4 _ rfl rfl
       have e35:a.tmps.getD 35 undef=u:=hl
       obtain⟨hu,hw⟩:=HA1.out u w hC
       subst hu
       subst hw
       obtain⟨v',w',hrun,h3⟩:=HAP.out
       exact owes_append hrun rfl e33 e35 (hK v' w' trivial (H2.out v' w' h3))
      ·
       refine OwesS.q rfl fun a w j u hC hb hs=>⟨rfl,?_⟩
       have e29:a.tmps.getD 29 undef=.pointer (some ⟨g,0,none⟩):=hs.dep 0 _ rfl rfl
       refine ValWp.pure (v:=.pointer (some ⟨g,0,none⟩)) (fun K' hK'=>?_) ⟨rfl,rfl⟩
       simp only[ValWp,execOp,Act.eval,e29]
       go_simp
       all_goals exact hK'
      ·
       refine OwesS.q rfl fun a w j u hC hb hs=>⟨rfl,?_⟩
       have e37:a.tmps.getD 37 undef=.pointer (some ⟨g,0,none⟩):=hs.dep 8 _ rfl rfl
       refine ValWp.pure (v:=.pointer (some ⟨g,4,none⟩)) (fun K' hK'=>?_) ⟨rfl,rfl⟩
       simp only[ValWp,execOp,Act.eval,e37]
       go_simp
       all_goals exact hK'
      ·
       refine OwesS.w rfl fun a w u hC hl hs=>⟨rfl,fun K hK=>?_⟩
       have e38:a.tmps.getD 38 undef=.pointer (some ⟨g,4,none⟩):=hs.dep 9 _ rfl rfl
       have e36:a.tmps.getD 36 undef=u:=hl
       obtain⟨A4,n4,k4,hu,q4,qz⟩:=HU.out u w hC
       subst hu
       refine wp_of_val ?_
       refine ValWp.pure (v:=undef) (w':=w.setCell ⟨g,4,none⟩ (.slice A4 n4 k4)) (fun K' hK'=>?_) (hK _ _ trivial (H3.out _ w hC))
       simp only[ValWp,execOp,Act.eval,e38,e36]
       go_simp
       all_goals exact hK'
     ·intro a w u hC hl hd hsz hfree hs
      obtain⟨u11,hu11⟩:∃ u,u=a.tmps.getD 11 undef:=⟨_,rfl⟩
      obtain⟨u12,hu12⟩:∃ u,u=a.tmps.getD 12 undef:=⟨_,rfl⟩
      obtain⟨u13,hu13⟩:∃ u,u=a.tmps.getD 13 undef:=⟨_,rfl⟩
      obtain⟨u14,hu14⟩:∃ u,u=a.tmps.getD 14 undef:=⟨_,rfl⟩
      obtain⟨u15,hu15⟩:∃ u,u=a.tmps.getD 15 undef:=⟨_,rfl⟩
      obtain⟨u16,hu16⟩:∃ u,u=a.tmps.getD 16 undef:=⟨_,rfl⟩
      obtain⟨u17,hu17⟩:∃ u,u=a.tmps.getD 17 undef:=⟨_,rfl⟩
      obtain⟨u18,hu18⟩:∃ u,u=a.tmps.getD 18 undef:=⟨_,rfl⟩
      obtain⟨u19,hu19⟩:∃ u,u=a.tmps.getD 19 undef:=⟨_,rfl⟩
      obtain⟨u20,hu20⟩:∃ u,u=a.tmps.getD 20 undef:=⟨_,rfl⟩
      obtain⟨u21,hu21⟩:∃ u,u=a.tmps.getD 21 undef:=⟨_,rfl⟩
      obtain⟨u22,hu22⟩:∃ u,u=a.tmps.getD 22 undef:=⟨_,rfl⟩
      obtain⟨u23,hu23⟩:∃ u,u=a.tmps.getD 23 undef:=⟨_,rfl⟩
      obtain⟨u24,hu24⟩:∃ u,u=a.tmps.getD 24 undef:=⟨_,rfl⟩
      obtain⟨u25,hu25⟩:∃ u,u=a.tmps.getD 25 undef:=⟨_,rfl⟩
      obtain⟨u26,hu26⟩:∃ u,u=a.tmps.getD 26 undef:=⟨_,rfl⟩
      obtain⟨u27,hu27⟩:∃ u,u=a.tmps.getD 27 undef:=⟨_,rfl⟩
      obtain⟨u28,hu28⟩:∃ u,u=a.tmps.getD 28 undef:=⟨_,rfl⟩
      obtain⟨u29,hu29⟩:∃ u,u=a.tmps.getD 29 undef:=⟨_,rfl⟩
      obtain⟨u30,hu30⟩:∃ u,u=a.tmps.getD 30 undef:=⟨_,rfl⟩
      obtain⟨u31,hu31⟩:∃ u,u=a.tmps.getD 31 undef:=⟨_,rfl⟩
      obtain⟨u32,hu32⟩:∃ u,u=a.tmps.getD 32 undef:=⟨_,rfl⟩
      obtain⟨u33,hu33⟩:∃ u,u=a.tmps.getD 33 undef:=⟨_,rfl⟩
      obtain⟨u34,hu34⟩:∃ u,u=a.tmps.getD 34 undef:=⟨_,rfl⟩
      obtain⟨u35,hu35⟩:∃ u,u=a.tmps.getD 35 undef:=⟨_,rfl⟩
      obtain⟨u36,hu36⟩:∃ u,u=a.tmps.getD 36 undef:=⟨_,rfl⟩
      obtain⟨u37,hu37⟩:∃ u,u=a.tmps.getD 37 undef:=⟨_,rfl⟩
      obtain⟨u38,hu38⟩:∃ u,u=a.tmps.getD 38 undef:=⟨_,rfl⟩
      obtain⟨u39,hu39⟩:∃ u,u=a.tmps.getD 39 undef:=⟨_,rfl⟩
      have hal:AllAt a 0 [.pointer (some ⟨g,0,none⟩),.slice (some ⟨ga,0,none⟩) n c,undef,undef,.slice none 0 0,.slice A5 (k+1) k5,undef,.pointer (some ⟨wr.heap.size,0,none⟩),.slice (some ⟨ga,0,none⟩) n c,.int .i64 (n:Int),.int .i64 (k:Int),u11,u12,u13,u14,u15,u16,u17,u18,u19,u20,u21,u22,u23,u24,u25,u26,u27,u28,u29,u30,u31,u32,u33,u34,u35,u36,u37,u38,u39,undef]:=⟨hfree 0 rfl,hfree 1 rfl,hfree 2 rfl,hfree 3 rfl,hfree 4 rfl,hfree 5 rfl,hfree 6 rfl,hfree 7 rfl,hfree 8 rfl,hfree 9 rfl,hfree 10 rfl,hu11.symm,hu12.symm,hu13.symm,hu14.symm,hu15.symm,hu16.symm,hu17.symm,hu18.symm,hu19.symm,hu20.symm,hu21.symm,hu22.symm,hu23.symm,hu24.symm,hu25.symm,hu26.symm,hu27.symm,hu28.symm,hu29.symm,hu30.symm,hu31.symm,hu32.symm,hu33.symm,hu34.symm,hu35.symm,hu36.symm,hu37.symm,hu38.symm,hu39.symm,hfree 40 rfl,trivial⟩
      have hlit:=fun h=>act_lit hd h hal
      rw[hlit hsz]
      clear hlit hal hd hsz hfree hs hu11 hu12 hu13 hu14 hu15 hu16 hu17 hu18 hu19 hu20 hu21 hu22 hu23 hu24 hu25 hu26 hu27 hu28 hu29 hu30 hu31 hu32 hu33 hu34 hu35 hu36 hu37 hu38 hu39
      obtain⟨h5,h6⟩:=HE.out u w hC
      have H5:=Lib.hid h5
      have H6:=Lib.hid h6
      clear h5 h6 hC hl
      go_wp2
      go_roundw
      case rel=>exact⟨k+1,by omega,by go_num,H6.out.row HO2.out (fun i e=>.inr (by rw[e];simp)),H5.out,HFR.out.trans H6.out.less⟩
      case measure=>simp[intOf];omega
    ·have hq:((mkS x.op).toList==[60,60])=false:=by rw[toList_mkS];simpa using hop
     have HOP:=Lib.hid hop
     clear hbx hop
     go_wp2
     go_roundw
     case rel=>
      refine⟨k+1,by omega,by go_num,HO2.out,?_,HFR.out⟩
      rw[HT.out,pend_snoc,if_neg HOP.out,List.append_nil]
      exact HM2.out
     case measure=>simp[intOf];omega
  ·have hk1:¬ (k:Int)<(n:Int):=by omega
   have hkn:rs.take k=rs:=List.take_of_length_le (by omega)
   clear hm hf ho
   rw[hkn] at HM HO
   have hkn2:k=n:=by omega
   subst hkn2
   go_wp2
   go_ret
   exact⟨_,rfl,HO.out,HM.out,HF.out⟩
end
end Uw
end Go.Proofs.YtkkchkkpnlnbgaaGreatDoor
