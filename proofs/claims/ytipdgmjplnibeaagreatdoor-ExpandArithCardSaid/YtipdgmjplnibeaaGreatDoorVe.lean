import Derived.Test.YtipdgmjplnibeaaGreatDoorG29
import Derived.Test.YtipdgmjplnibeaaGreatDoorG23
set_option maxRecDepth 100000
set_option maxHeartbeats 6400000
namespace Go.Proofs.YtipdgmjplnibeaaGreatDoor
open Go.RowKit Go.Maps
set_option maxRecDepth 100000
theorem run_appK {P:Program} (w:World) (cs:Array Value) (k:Nat) (hk:0<k) (hcs:cs.size=k) (h1:∀ u∈cs.toList,u.oneCell'=true) (t ty e:TypeId) (i0:TypeInfo) (z:Value) (bytes:Nat) (ht:P.underlying t=some (.slice e)) (hi:P.info? e=some i0) (hz:i0.zero=some z)
  (hsize:i0.size=k) (hby:i0.bytes=bytes) (hzs:z.cells.size=k) (base:Nat) (v:Value) (n:Nat) (xs:List Value) (hown:w.ownsRow base e k v n xs) (hn:(n+1)*bytes≤140737488355328) (hn2:n+1≤140737488355328) (hbase:base≤w.heap.size) :
  ∃ v' w',(Builtin.append_ #[t,t] ty #[v,.slice (some ⟨w.heap.size,0,none⟩) 1 1]).run P (w.alloc (.cells cs e))=.ok v' w'∧GrewK w w' base e k v v' (n+1) (xs++cs.toList):=by
 have hla:=Later.alloc w (.cells cs e)
 obtain⟨v',w',hrun,h2,h3,_,h5⟩:=run_append_own_at (P:=P) (w.alloc (.cells cs e)) base t ty e i0 z k bytes ht hi hz hsize hby hzs hk v n xs (hown.alloc _) ⟨w.heap.size,0,none⟩ 1 1 cs.toList (by simpa using hcs) (fun j u hj=>by
  rw[add_lit0,cell_of_row _ _ j cs e (0,0) (heap_alloc_new w _)]
  simpa using hj) h1 (by unfold maxLen;omega) hn (Nat.le_trans hbase hla.size)
 refine⟨v',w',hrun,h2,?_,?_⟩
 ·exact⟨h3.os.trans hla.os,h3.tape.trans hla.tape,h3.output.trans hla.output,Nat.le_trans hla.size h3.size,fun k hk hne=>(h3.block k (Nat.lt_of_lt_of_le hk hla.size) hne).trans (hla.block k hk)⟩
 ·rcases h5 with h5 | h5
  ·exact .inl h5
  ·exact .inr ⟨_,h5,hla.size⟩
namespace Ey
open Jo (ft fm rows own_ge mkS_get)
theorem mid_text (S:L) (p q:Nat):(mkS S).extract p q=mkS ((S.drop p).take (q-p)):=by
 apply ByteArray.ext
 simp[mkS]
def so (r:Rw):Nat→List Rw×Nat
 | 0=>([],0)
 | i+1=>if (r.getD i (0,0)).2=101 then ((so r i).1++[(r.take i).drop (so r i).2],i+1) else so r i
theorem so_succ (r:Rw) (i:Nat):so r (i+1)=if (r.getD i (0,0)).2=101 then ((so r i).1++[(r.take i).drop (so r i).2],i+1) else so r i:=rfl
theorem so_le (r:Rw):∀ i,(so r i).2≤i∧(so r i).1.length≤i
 | 0=>⟨Nat.le_refl _,Nat.le_refl _⟩
 | i+1=>by
  have:=so_le r i
  rw[so_succ]
  split
  ·simp;omega
  ·omega
theorem so_flat (r:Rw):∀ i,i≤r.length→(so r i).1.flatten++(r.take i).drop (so r i).2=solid (r.take i)
 | 0,_=>by simp[so,solid]
 | i+1,h=>by
  have ih:=so_flat r i (by omega)
  have hle:=(so_le r i).1
  have hg:r.getD i (0,0)=r[i]:=by simp[List.getD_eq_getElem?_getD,List.getElem?_eq_getElem (show i<r.length by omega)]
  have ht:r.take (i+1)=r.take i++[r[i]]:=List.take_succ_eq_append_getElem (by omega)
  have hl:(r.take i).length=i:=by rw[List.length_take];omega
  have hs:solid (r.take (i+1))=solid (r.take i)++solid [r[i]]:=by rw[ht];unfold solid;rw[List.filter_append]
  rw[hs,←ih,so_succ,hg]
  by_cases hc:(r[i]).2=101
  ·rw[if_pos hc]
   have h1:solid [r[i]]=[]:=by simp[solid,hc]
   have h2:(r.take (i+1)).drop (i+1)=[]:=List.drop_eq_nil_of_le (by rw[List.length_take];omega)
   rw[h1,h2]
   simp
  ·rw[if_neg hc]
   have h1:solid [r[i]]=[r[i]]:=by simp[solid,hc]
   rw[h1,ht,List.drop_append_of_le_length (by omega),List.append_assoc]
theorem mem_flat {l:List Rw} {f:Rw} (h:f∈l):f.length≤l.flatten.length:=by
 induction l with
 | nil=>cases h
 | cons a l ih=>
  rw[List.flatten_cons,List.length_append]
  rcases List.mem_cons.1 h with rfl | h
  ·omega
  ·have:=ih h;omega
theorem info_row2:(Tryz.prog.info? 37).map (fun i=>(i.zero,i.size,i.bytes))=some (some (.agg #[.string ⟨#[]⟩,.string ⟨#[]⟩]),2,32):=by kernel_rfl
structure So (W wr:World) (r:Rw) (out:List Rw) (v:Value):Prop where
 low:Later W wr
 bx:wr.heap[W.heap.size]?=some (.cells #[.string (mkS (ft r)),.string (mkS (fm r))] 37 (0,0))
 rs:wr.heap[W.heap.size+1]?=some (.cells #[.string ⟨#[]⟩,.string ⟨#[]⟩] 37 (0,0))
 own:wr.ownsRow (W.heap.size+2) 37 2 v out.length (rows out)
theorem So.later {W wr wr':World} {r:Rw} {out:List Rw} {v:Value} (h:So W wr r out v) (hl:Later wr wr'):So W wr' r out v:=
 ⟨h.low.trans hl,later_cells hl h.bx,later_cells hl h.rs,own_below h.own hl⟩
theorem So.push {W wr wr':World} {r:Rw} {out:List Rw} {v v':Value} {f:Rw} (h:So W wr r out v) (hg:GrewK wr wr' (W.heap.size+2) 37 2 v v' (out.length+1) (rows out++[.string (mkS (ft f)),.string (mkS (fm f))])):So W wr' r (out++[f]) v':=by
 have kp:∀ {k:Nat} {o:Obj},k<W.heap.size+2→wr.heap[k]?=some o→wr'.heap[k]?=some o:=fun hk ho=>(hg.grown.block _ (lt_of_block ho) (fun e=>by have:=(own_ge h.own e.symm).1;omega)).trans ho
 refine⟨⟨hg.grown.os.trans h.low.os,hg.grown.tape.trans h.low.tape,hg.grown.output.trans h.low.output,Nat.le_trans h.low.size hg.grown.size,fun k hk=>(hg.grown.block k (Nat.lt_of_lt_of_le hk h.low.size) fun e=>by have:=(own_ge h.own e.symm).1;omega).trans (h.low.block k hk)⟩,kp (by omega) h.bx,kp (by omega) h.rs,?_⟩
 have:=hg.own
 rw[←Jo.rows_app] at this
 rw[List.length_append]
 exact this
theorem allC_pr (l:List Rw):Jo.allC (l.map Jo.pr)=l.flatten:=by
 induction l with
 | nil=>rfl
 | cons f l ih=>
  unfold Jo.allC at ih⊢
  rw[List.map_cons,List.flatMap_cons,ih,List.flatten_cons]
  congr 1
  show List.zip (f.map (·.1)) (f.map (·.2))=f
  induction f with
  | nil=>rfl
  | cons a f ih=>simp only[List.map_cons,List.zip_cons_cons,ih]
theorem solid_v (r:Rw) (hr:r.length≤100000) (W:World):Calls Tryz.prog 33 #[rv r] W fun x W'=>x=.returned (rv (solid r))∧Later W W':=by
 unfold rv
 have HLA:=Lib.hid (fun W o=>Later.alloc W o)
 obtain⟨TX,hTX⟩:∃ TX,TX=ft r:=⟨_,rfl⟩
 obtain⟨MX,hMX⟩:∃ MX,MX=fm r:=⟨_,rfl⟩
 have HTX:=Lib.hid hTX
 have HMX:=Lib.hid hMX
 rw[←hTX,←hMX]
 obtain⟨n,hn⟩:∃ n,n=r.length:=⟨_,rfl⟩
 have HN:=Lib.hid hn
 rw[←hn] at hr
 have hlt:TX.length=n:=by rw[hTX,hn];exact List.length_map ..
 have hlm:MX.length=n:=by rw[hMX,hn];exact List.length_map ..
 have htz:((mkS TX).size:Int)=(n:Int):=by rw[mkS_size,hlt]
 have hmz:((mkS MX).size:Int)=(n:Int):=by rw[mkS_size,hlm]
 have HLT:=Lib.hid hlt
 have HLM:=Lib.hid hlm
 have h0:So W ((W.alloc (.cells #[.string (mkS TX),.string (mkS MX)] 37)).alloc (.cells #[.string ⟨#[]⟩,.string ⟨#[]⟩] 37)) r [] (.slice none 0 0):=by
  have h1:=heap_alloc_new W (.cells #[.string (mkS TX),.string (mkS MX)] 37)
  have h2:=heap_alloc_new (W.alloc (.cells #[.string (mkS TX),.string (mkS MX)] 37)) (.cells #[.string ⟨#[]⟩,.string ⟨#[]⟩] 37)
  rw[World.size_alloc] at h2
  exact⟨(Later.alloc _ _).trans (Later.alloc _ _),by rw[←hTX,←hMX];exact later_cells (Later.alloc _ _) h1,h2,World.ownsRow_nil _ _ _ _⟩
 have HS0:=Lib.hid h0
 obtain⟨i0,hif,hz0,hz1,hz2⟩:=info_parts info_row2
 clear h0 hTX hMX hn hlt hlm
 go_enter Tryz.func33,Tryz.ntmps33
 go_wp2
 go_loopw [3,4,9] (fun s3 s4 s9 wr=>∃ i:Nat,s4=.int .i64 ((so r i).2:Int)∧s9=.int .i64 (i:Int)∧i≤n∧So W wr r (so r i).1 s3) (fun _ _ s9 _=>n-(intOf s9).toNat)
 case atStart=>exact⟨0,rfl,rfl,Nat.zero_le _,HS0.out⟩
 case round=>
  obtain⟨i,rfl,rfl,hi,hs⟩:=hrel
  obtain⟨Ar,cr,rfl,_⟩:=own_any hs.own
  have HS:=Lib.hid hs
  obtain⟨hfi,hfo⟩:=so_le r i
  have hi0:(0:Int)≤(i:Int):=by omega
  have b0:wr.cell? ⟨W.heap.size,0,none⟩=some (.string (mkS TX)):=by rw[HTX.out];exact(cell_row hs.bx 0).1
  have b1:wr.cell? ⟨W.heap.size,1,none⟩=some (.string (mkS MX)):=by rw[HMX.out];exact(cell_row hs.bx 1).1
  have hfn:((so r i).2:Int)≤(i:Int):=by omega
  have hf0:(0:Int)≤((so r i).2:Int):=by omega
  have hin2:(i:Int)≤(n:Int):=by omega
  clear hs
  by_cases hlt:i<n
  ·have hi1:(i:Int)<(n:Int):=by omega
   have him:i<(mkS MX).size:=by rw[mkS_size,HLM.out];exact hlt
   have hri:i<r.length:=by rw[←HN.out];exact hlt
   have HGM:=Lib.hid (show (mkS MX)[i]'him=(r.getD i (0,0)).2 by
    rw[mkS_get MX i him (by rw[HLM.out];exact hlt)]
    have h1:MX[i]?=some (r[i]).2:=by rw[HMX.out];unfold fm;rw[List.getElem?_map,List.getElem?_eq_getElem hri];rfl
    rw[List.getElem?_eq_getElem (by rw[HLM.out];exact hlt)] at h1
    rw[Option.some.inj h1,List.getD_eq_getElem?_getD,List.getElem?_eq_getElem hri]
    rfl)
   by_cases hc:(r.getD i (0,0)).2=101
   ·have hcb:((((mkS MX)[i]'him).toNat:Int)==101)=true:=by rw[HGM.out,hc];rfl
    have HPT:=Lib.hid (show (mkS TX).extract (so r i).2 i=mkS (ft ((r.take i).drop (so r i).2)) by
     rw[mid_text,HTX.out];unfold ft;rw[List.drop_take,List.map_take,List.map_drop])
    have HPM:=Lib.hid (show (mkS MX).extract (so r i).2 i=mkS (fm ((r.take i).drop (so r i).2)) by
     rw[mid_text,HMX.out];unfold fm;rw[List.drop_take,List.map_take,List.map_drop])
    have HSO:=Lib.hid (show so r (i+1)=((so r i).1++[(r.take i).drop (so r i).2],i+1) by rw[so_succ,if_pos hc])
    clear hc
    have HAP:=Lib.hid (run_appK (P:=Tryz.prog) wr.drew #[.string ((mkS TX).extract (so r i).2 i),.string ((mkS MX).extract (so r i).2 i)] 2 (by omega) rfl (by intro u hu;simp at hu;rcases hu with rfl | rfl <;> rfl) 30 30 37 i0 _ 32 Tryz.underlying30 hif hz0 hz1 hz2 rfl (W.heap.size+2) (.slice Ar (so r i).1.length cr) (so r i).1.length (rows (so r i).1) (own_below HS.out.own (Later.drew wr)) (by omega) (by omega) (lt_of_block (HS.out.later (Later.drew wr)).rs))
    obtain⟨C0,hC0⟩:∃ C0:Nat→Value→World→Prop,C0=fun j u w=>(j=0∧w=wr.drew)∨(j=1∧u=.slice (some ⟨wr.drew.heap.size,0,none⟩) 1 1∧w=wr.drew.alloc (.cells #[.string ((mkS TX).extract (so r i).2 i),.string ((mkS MX).extract (so r i).2 i)] 37))∨(j=2∧GrewK wr.drew w (W.heap.size+2) 37 2 (.slice Ar (so r i).1.length cr) u ((so r i).1.length+1) (rows (so r i).1++[.string ((mkS TX).extract (so r i).2 i),.string ((mkS MX).extract (so r i).2 i)]))∨(j=3∧So W w r ((so r i).1++[(r.take i).drop (so r i).2]) u):=⟨_,rfl⟩
    have HB:=Lib.hid (show ∀ j u w,C0 j u w→w.heap[W.heap.size]?=some (.cells #[.string (mkS TX),.string (mkS MX)] 37 (0,0)) from fun j u w hc=>by
     rw[hC0] at hc
     have hs:=HS.out.later (Later.drew wr)
     rw[HTX.out,HMX.out]
     rcases hc with⟨_,rfl⟩ | ⟨_,_,rfl⟩ | ⟨_,h⟩ | ⟨_,h⟩
     ·exact hs.bx
     ·exact later_cells (Later.alloc _ _) hs.bx
     ·exact(h.grown.block _ (lt_of_block hs.bx) (fun e=>by have:=(own_ge hs.own e.symm).1;omega)).trans hs.bx
     ·exact h.bx)
    have HB0:=Lib.hid (show ∀ j u w,C0 j u w→w.cell? ⟨W.heap.size,0,none⟩=some (.string (mkS TX)) from fun j u w hc=>(cell_row (HB.out j u w hc) 0).1)
    have HB1:=Lib.hid (show ∀ j u w,C0 j u w→w.cell? ⟨W.heap.size,1,none⟩=some (.string (mkS MX)) from fun j u w hc=>(cell_row (HB.out j u w hc) 1).1)
    have H0:=Lib.hid (show C0 0 undef wr.drew by rw[hC0];exact .inl ⟨rfl,rfl⟩)
    have HA:=Lib.hid (show ∀ u w,C0 0 u w→w=wr.drew from fun u w hc=>by
     rw[hC0] at hc
     rcases hc with⟨_,e⟩ | ⟨e,_⟩ | ⟨e,_⟩ | ⟨e,_⟩
     ·exact e
     ·cases e
     ·cases e
     ·cases e)
    have H1:=Lib.hid (show C0 1 (.slice (some ⟨wr.drew.heap.size,0,none⟩) 1 1) (wr.drew.alloc (.cells #[.string ((mkS TX).extract (so r i).2 i),.string ((mkS MX).extract (so r i).2 i)] 37)) by rw[hC0];exact .inr (.inl ⟨rfl,rfl,rfl⟩))
    have HA1:=Lib.hid (show ∀ u w,C0 1 u w→u=.slice (some ⟨wr.drew.heap.size,0,none⟩) 1 1∧w=wr.drew.alloc (.cells #[.string ((mkS TX).extract (so r i).2 i),.string ((mkS MX).extract (so r i).2 i)] 37) from fun u w hc=>by
     rw[hC0] at hc
     rcases hc with⟨e,_⟩ | ⟨_,e⟩ | ⟨e,_⟩ | ⟨e,_⟩
     ·cases e
     ·exact e
     ·cases e
     ·cases e)
    have H2:=Lib.hid (show ∀ v' w',GrewK wr.drew w' (W.heap.size+2) 37 2 (.slice Ar (so r i).1.length cr) v' ((so r i).1.length+1) (rows (so r i).1++[.string ((mkS TX).extract (so r i).2 i),.string ((mkS MX).extract (so r i).2 i)])→C0 2 v' w' from fun v' w' h=>by rw[hC0];exact .inr (.inr (.inl ⟨rfl,h⟩)))
    have HG2:=Lib.hid (show ∀ u w,C0 2 u w→GrewK wr.drew w (W.heap.size+2) 37 2 (.slice Ar (so r i).1.length cr) u ((so r i).1.length+1) (rows (so r i).1++[.string ((mkS TX).extract (so r i).2 i),.string ((mkS MX).extract (so r i).2 i)]) from fun u w hc=>by
     rw[hC0] at hc
     rcases hc with⟨e,_⟩ | ⟨e,_⟩ | ⟨_,e⟩ | ⟨e,_⟩
     ·cases e
     ·cases e
     ·exact e
     ·cases e)
    have HU:=Lib.hid (show ∀ u w,C0 2 u w→∃ A4 n4 k4,u=.slice A4 n4 k4 from fun u w hc=>by
     obtain⟨A4,k4,e4,_⟩:=own_any (HG2.out u w hc).own
     exact⟨A4,_,k4,e4⟩)
    have H3:=Lib.hid (show ∀ u w,C0 2 u w→C0 3 u w from fun u w hc=>by
     have hg2:=HG2.out u w hc
     rw[HPT.out,HPM.out] at hg2
     rw[hC0]
     exact .inr (.inr (.inr ⟨rfl,(HS.out.later (Later.drew wr)).push hg2⟩)))
    have HF:=Lib.hid (show ∀ u w,C0 3 u w→So W w r ((so r i).1++[(r.take i).drop (so r i).2]) u from fun u w hc=>by
     rw[hC0] at hc
     rcases hc with⟨e,_⟩ | ⟨e,_⟩ | ⟨e,_⟩ | ⟨_,e⟩
     ·cases e
     ·cases e
     ·cases e
     ·exact e)
    clear hC0
    go_wp2
    refine wp_region_seqE (by kernel_rfl) [12,13,14] (C0) [some (.slice Ar (so r i).1.length cr),some (.pointer (some ⟨W.heap.size,0,none⟩)),some (.string (mkS TX)),some (.int .i64 ((so r i).2:Int)),some (.int .i64 (i:Int)),some (.string ((mkS TX).extract (so r i).2 i)),some (.pointer (some ⟨W.heap.size,1,none⟩)),some (.string (mkS MX)),some (.int .i64 ((so r i).2:Int)),some (.int .i64 (i:Int)),some (.string ((mkS MX).extract (so r i).2 i)),some (.agg #[.string ((mkS TX).extract (so r i).2 i),.string ((mkS MX).extract (so r i).2 i)]),none,none,none] (by decide) (by decide) (by kernel_rfl) (by kernel_rfl) 3 (by kernel_rfl) (H0.out) ?_ ?_
    ·refine⟨?_,?_,?_,?_,?_,?_,?_,?_,?_,?_,?_,?_,?_,?_,?_,trivial⟩
     ·
      refine OwesSE.q rfl fun a w j u hC hb he hs=>⟨rfl,?_⟩
      have e3:a.tmps.getD 3 undef=.slice Ar (so r i).1.length cr:=he (by have:=hb 2 14 rfl rfl;simp only[List.length_cons,List.length_nil];omega)
      refine ValWp.pure (v:=.slice Ar (so r i).1.length cr) (fun K' hK'=>?_) ⟨rfl,rfl⟩
      simp only[ValWp,execOp,Act.eval,e3]
      go_simp
      all_goals exact hK'
     ·
      refine OwesSE.q rfl fun a w j u hC hb he hs=>⟨rfl,?_⟩
      have e1:a.tmps.getD 1 undef=.pointer (some ⟨W.heap.size,0,none⟩):=hs.free 1 rfl
      refine ValWp.pure (v:=.pointer (some ⟨W.heap.size,0,none⟩)) (fun K' hK'=>?_) ⟨rfl,rfl⟩
      simp only[ValWp,execOp,Act.eval,e1]
      go_simp
      all_goals exact hK'
     ·
      refine OwesSE.q rfl fun a w j u hC hb he hs=>⟨rfl,?_⟩
      have e18:a.tmps.getD 18 undef=.pointer (some ⟨W.heap.size,0,none⟩):=hs.dep 1 _ rfl rfl
      have q0:=(HB0.out j u w hC)
      refine ValWp.pure (v:=.string (mkS TX)) (fun K' hK'=>?_) ⟨rfl,rfl⟩
      simp only[ValWp,execOp,Act.eval,e18]
      go_simp
      all_goals exact hK'
     ·
      refine OwesSE.q rfl fun a w j u hC hb he hs=>⟨rfl,?_⟩
      have e4:a.tmps.getD 4 undef=.int .i64 ((so r i).2:Int):=hs.free 4 rfl
      refine ValWp.pure (v:=.int .i64 ((so r i).2:Int)) (fun K' hK'=>?_) ⟨rfl,rfl⟩
      simp only[ValWp,execOp,Act.eval,e4]
      go_simp
      all_goals exact hK'
     ·
      refine OwesSE.q rfl fun a w j u hC hb he hs=>⟨rfl,?_⟩
      have e5:a.tmps.getD 5 undef=.int .i64 (i:Int):=hs.free 5 rfl
      refine ValWp.pure (v:=.int .i64 (i:Int)) (fun K' hK'=>?_) ⟨rfl,rfl⟩
      simp only[ValWp,execOp,Act.eval,e5]
      go_simp
      all_goals exact hK'
     ·
      refine OwesSE.q rfl fun a w j u hC hb he hs=>⟨rfl,?_⟩
      have e19:a.tmps.getD 19 undef=.string (mkS TX):=hs.dep 2 _ rfl rfl
      have e20:a.tmps.getD 20 undef=.int .i64 ((so r i).2:Int):=hs.dep 3 _ rfl rfl
      have e21:a.tmps.getD 21 undef=.int .i64 (i:Int):=hs.dep 4 _ rfl rfl
      refine ValWp.pure (v:=.string ((mkS TX).extract (so r i).2 i)) (fun K' hK'=>?_) ⟨rfl,rfl⟩
      simp only[ValWp,execOp,Act.eval,e19]
      go_simp
      all_goals exact hK'
     ·
      refine OwesSE.q rfl fun a w j u hC hb he hs=>⟨rfl,?_⟩
      have e1:a.tmps.getD 1 undef=.pointer (some ⟨W.heap.size,0,none⟩):=hs.free 1 rfl
      refine ValWp.pure (v:=.pointer (some ⟨W.heap.size,1,none⟩)) (fun K' hK'=>?_) ⟨rfl,rfl⟩
      simp only[ValWp,execOp,Act.eval,e1]
      go_simp
      all_goals exact hK'
     ·
      refine OwesSE.q rfl fun a w j u hC hb he hs=>⟨rfl,?_⟩
      have e23:a.tmps.getD 23 undef=.pointer (some ⟨W.heap.size,1,none⟩):=hs.dep 6 _ rfl rfl
      have q0:=(HB1.out j u w hC)
      refine ValWp.pure (v:=.string (mkS MX)) (fun K' hK'=>?_) ⟨rfl,rfl⟩
      simp only[ValWp,execOp,Act.eval,e23]
      go_simp
      all_goals exact hK'
     ·
      refine OwesSE.q rfl fun a w j u hC hb he hs=>⟨rfl,?_⟩
      have e4:a.tmps.getD 4 undef=.int .i64 ((so r i).2:Int):=hs.free 4 rfl
      refine ValWp.pure (v:=.int .i64 ((so r i).2:Int)) (fun K' hK'=>?_) ⟨rfl,rfl⟩
      simp only[ValWp,execOp,Act.eval,e4]
      go_simp
      all_goals exact hK'
     ·
      refine OwesSE.q rfl fun a w j u hC hb he hs=>⟨rfl,?_⟩
      have e5:a.tmps.getD 5 undef=.int .i64 (i:Int):=hs.free 5 rfl
      refine ValWp.pure (v:=.int .i64 (i:Int)) (fun K' hK'=>?_) ⟨rfl,rfl⟩
      simp only[ValWp,execOp,Act.eval,e5]
      go_simp
      all_goals exact hK'
     ·
      refine OwesSE.q rfl fun a w j u hC hb he hs=>⟨rfl,?_⟩
      have e24:a.tmps.getD 24 undef=.string (mkS MX):=hs.dep 7 _ rfl rfl
      have e25:a.tmps.getD 25 undef=.int .i64 ((so r i).2:Int):=hs.dep 8 _ rfl rfl
      have e26:a.tmps.getD 26 undef=.int .i64 (i:Int):=hs.dep 9 _ rfl rfl
      refine ValWp.pure (v:=.string ((mkS MX).extract (so r i).2 i)) (fun K' hK'=>?_) ⟨rfl,rfl⟩
      simp only[ValWp,execOp,Act.eval,e24]
      go_simp
      all_goals exact hK'
     ·
      refine OwesSE.q rfl fun a w j u hC hb he hs=>⟨rfl,?_⟩
      have e22:a.tmps.getD 22 undef=.string ((mkS TX).extract (so r i).2 i):=hs.dep 5 _ rfl rfl
      have e27:a.tmps.getD 27 undef=.string ((mkS MX).extract (so r i).2 i):=hs.dep 10 _ rfl rfl
      refine ValWp.pure (v:=.agg #[.string ((mkS TX).extract (so r i).2 i),.string ((mkS MX).extract (so r i).2 i)]) (fun K' hK'=>?_) ⟨rfl,rfl⟩
      simp only[ValWp,execOp,Act.eval,List.map_toArray,List.map_cons,List.map_nil,e22,e27]
      go_simp
      all_goals exact hK'
     ·
      refine OwesSE.w rfl fun a w u hC hl hs=>⟨rfl,fun K hK=>?_⟩
      have e28:a.tmps.getD 28 undef=.agg #[.string ((mkS TX).extract (so r i).2 i),.string ((mkS MX).extract (so r i).2 i)]:=hs.dep 11 _ rfl rfl
      have hw:=HA.out u w hC
      subst hw
      refine wp_of_val ?_
      refine ValWp.pure (v:=.slice (some ⟨wr.drew.heap.size,0,none⟩) 1 1) (w':=wr.drew.alloc (.cells #[.string ((mkS TX).extract (so r i).2 i),.string ((mkS MX).extract (so r i).2 i)] 37)) (fun K' hK'=>?_) (hK _ _ trivial H1.out)
      simp only[ValWp,execOp,Act.eval,List.map_toArray,List.map_cons,List.map_nil,e28]
      go_simp
      all_goals exact hK'
     ·
      refine OwesSE.w rfl fun a w u hC hl hs=>⟨rfl,fun K hK=>?_⟩
      have e17:a.tmps.getD 17 undef=.slice Ar (so r i).1.length cr:=hs.dep 0 _ rfl rfl
      have e29:a.tmps.getD 29 undef=u:=hl
      obtain⟨hu,hw⟩:=HA1.out u w hC
      subst hu
      subst hw
      obtain⟨v',w',hrun,h3⟩:=HAP.out
      exact owes_append hrun rfl e17 e29 (hK v' w' trivial (H2.out v' w' h3))
     ·
      refine OwesSE.w rfl fun a w u hC hl hs=>⟨rfl,fun K hK=>?_⟩
      have e30:a.tmps.getD 30 undef=u:=hl
      obtain⟨A4,n4,k4,hu⟩:=HU.out u w hC
      subst hu
      refine wp_of_val ?_
      refine ValWp.pure (v:=.slice A4 n4 k4) (w':=w) (fun K' hK'=>?_) (hK _ _ trivial (H3.out _ w hC))
      simp only[ValWp,execOp,Act.eval,e30]
      go_simp
      all_goals exact hK'
    ·intro a w u hC hl hd hsz hfree hs
     obtain⟨u17,hu17⟩:∃ u,u=a.tmps.getD 17 undef:=⟨_,rfl⟩
     obtain⟨u18,hu18⟩:∃ u,u=a.tmps.getD 18 undef:=⟨_,rfl⟩
     obtain⟨u19,hu19⟩:∃ u,u=a.tmps.getD 19 undef:=⟨_,rfl⟩
     obtain⟨u20,hu20⟩:∃ u,u=a.tmps.getD 20 undef:=⟨_,rfl⟩
     obtain⟨u21,hu21⟩:∃ u,u=a.tmps.getD 21 undef:=⟨_,rfl⟩
     obtain⟨u22,hu22⟩:∃ u,u=a.tmps.getD 22 undef:=⟨_,rfl⟩
     obtain⟨u23,hu23⟩:∃ u,u=a.tmps.getD 23 undef:=⟨_,rfl⟩
     obtain⟨u24,hu24⟩:∃ u,u=a.tmps.getD 24 undef:=⟨_,rfl⟩
     obtain⟨u25,hu25⟩:∃ u,u=a.tmps.getD 25 undef:=⟨_,rfl⟩
     obtain⟨u26,hu26⟩:∃ u,u=a.tmps.getD 26 undef:=⟨_,rfl⟩
     obtain⟨u27,hu27⟩:∃ u,u=a.tmps.getD 27 undef:=⟨_,rfl⟩
     obtain⟨u28,hu28⟩:∃ u,u=a.tmps.getD 28 undef:=⟨_,rfl⟩
     obtain⟨u29,hu29⟩:∃ u,u=a.tmps.getD 29 undef:=⟨_,rfl⟩
     obtain⟨u30,hu30⟩:∃ u,u=a.tmps.getD 30 undef:=⟨_,rfl⟩
     have hal:AllAt a 0 [_,_,_,u,_,_,_,_,_,_,_,_,_,_,_,_,_,u17,u18,u19,u20,u21,u22,u23,u24,u25,u26,u27,u28,u29,u30,_,_,_,_,_,_,_,_,_,_,_,_,_,_,_,_,_]:=⟨hfree 0 rfl,hfree 1 rfl,hfree 2 rfl,hl,hfree 4 rfl,hfree 5 rfl,hfree 6 rfl,hfree 7 rfl,hfree 8 rfl,hfree 9 rfl,hfree 10 rfl,hfree 11 rfl,hfree 12 rfl,hfree 13 rfl,hfree 14 rfl,hfree 15 rfl,hfree 16 rfl,hu17.symm,hu18.symm,hu19.symm,hu20.symm,hu21.symm,hu22.symm,hu23.symm,hu24.symm,hu25.symm,hu26.symm,hu27.symm,hu28.symm,hu29.symm,hu30.symm,hfree 31 rfl,hfree 32 rfl,hfree 33 rfl,hfree 34 rfl,hfree 35 rfl,hfree 36 rfl,hfree 37 rfl,hfree 38 rfl,hfree 39 rfl,hfree 40 rfl,hfree 41 rfl,hfree 42 rfl,hfree 43 rfl,hfree 44 rfl,hfree 45 rfl,hfree 46 rfl,hfree 47 rfl,trivial⟩
     have hlit:=fun h=>act_lit hd h hal
     rw[hlit hsz]
     simp only[Array.getD_eq_getD_getElem?,List.getElem?_toArray,List.getElem?_cons_zero,List.getElem?_cons_succ,Option.getD_some]
     clear hlit hal hd hsz hfree hs hu17 hu18 hu19 hu20 hu21 hu22 hu23 hu24 hu25 hu26 hu27 hu28 hu29 hu30
     have HSF:=Lib.hid (HF.out u w hC)
     clear hC hl
     go_wp2
     go_roundw
     case rel=>exact⟨i+1,by rw[HSO.out];go_num,by go_num,by omega,by rw[HSO.out];exact HSF.out⟩
     case measure=>simp[intOf];omega
   ·have hcb:((((mkS MX)[i]'him).toNat:Int)==101)=false:=by rw[HGM.out];exact byt_ne 101 hc
    have HSO:=Lib.hid (show so r (i+1)=so r i by rw[so_succ,if_neg hc])
    clear hc
    go_wp2
    go_roundw
    case rel=>exact⟨i+1,by rw[HSO.out],by go_num,by omega,by rw[HSO.out];exact HS.out⟩
    case measure=>simp[intOf];omega
  ·have hin:i=n:=by omega
   have hfl:=so_flat r i (by rw[←HN.out];exact hi)
   have htk:r.take i=r:=by rw[hin,HN.out];exact List.take_length
   rw[htk] at hfl
   have HFL:=Lib.hid hfl
   have HTK:=Lib.hid htk
   have HPT:=Lib.hid (show (mkS TX).extract (so r i).2 (mkS TX).size=mkS (ft (r.drop (so r i).2)) by
    rw[drop_text,HTX.out];unfold ft;rw[List.map_drop])
   have HPM:=Lib.hid (show (mkS MX).extract (so r i).2 (mkS MX).size=mkS (fm (r.drop (so r i).2)) by
    rw[drop_text,HMX.out];unfold fm;rw[List.map_drop])
   have hni:¬ (i:Int)<(n:Int):=by omega
   have hfn2:(so r i).2≤n:=by omega
   clear hfl htk hin
   have HAP:=Lib.hid (run_appK (P:=Tryz.prog) wr.drew #[.string ((mkS TX).extract (so r i).2 (mkS TX).size),.string ((mkS MX).extract (so r i).2 (mkS MX).size)] 2 (by omega) rfl (by intro u hu;simp at hu;rcases hu with rfl | rfl <;> rfl) 30 30 37 i0 _ 32 Tryz.underlying30 hif hz0 hz1 hz2 rfl (W.heap.size+2) (.slice Ar (so r i).1.length cr) (so r i).1.length (rows (so r i).1) (own_below HS.out.own (Later.drew wr)) (by omega) (by omega) (lt_of_block (HS.out.later (Later.drew wr)).rs))
   obtain⟨C0,hC0⟩:∃ C0:Nat→Value→World→Prop,C0=fun j u w=>(j=0∧w=wr.drew)∨(j=1∧u=.slice (some ⟨wr.drew.heap.size,0,none⟩) 1 1∧w=wr.drew.alloc (.cells #[.string ((mkS TX).extract (so r i).2 (mkS TX).size),.string ((mkS MX).extract (so r i).2 (mkS MX).size)] 37))∨(j=2∧GrewK wr.drew w (W.heap.size+2) 37 2 (.slice Ar (so r i).1.length cr) u ((so r i).1.length+1) (rows (so r i).1++[.string ((mkS TX).extract (so r i).2 (mkS TX).size),.string ((mkS MX).extract (so r i).2 (mkS MX).size)]))∨(j=3∧So W w r ((so r i).1++[r.drop (so r i).2]) u):=⟨_,rfl⟩
   have HB:=Lib.hid (show ∀ j u w,C0 j u w→w.heap[W.heap.size]?=some (.cells #[.string (mkS TX),.string (mkS MX)] 37 (0,0)) from fun j u w hc=>by
    rw[hC0] at hc
    have hs:=HS.out.later (Later.drew wr)
    rw[HTX.out,HMX.out]
    rcases hc with⟨_,rfl⟩ | ⟨_,_,rfl⟩ | ⟨_,h⟩ | ⟨_,h⟩
    ·exact hs.bx
    ·exact later_cells (Later.alloc _ _) hs.bx
    ·exact(h.grown.block _ (lt_of_block hs.bx) (fun e=>by have:=(own_ge hs.own e.symm).1;omega)).trans hs.bx
    ·exact h.bx)
   have HB0:=Lib.hid (show ∀ j u w,C0 j u w→w.cell? ⟨W.heap.size,0,none⟩=some (.string (mkS TX)) from fun j u w hc=>(cell_row (HB.out j u w hc) 0).1)
   have HB1:=Lib.hid (show ∀ j u w,C0 j u w→w.cell? ⟨W.heap.size,1,none⟩=some (.string (mkS MX)) from fun j u w hc=>(cell_row (HB.out j u w hc) 1).1)
   have H0:=Lib.hid (show C0 0 undef wr.drew by rw[hC0];exact .inl ⟨rfl,rfl⟩)
   have HA:=Lib.hid (show ∀ u w,C0 0 u w→w=wr.drew from fun u w hc=>by
    rw[hC0] at hc
    rcases hc with⟨_,e⟩ | ⟨e,_⟩ | ⟨e,_⟩ | ⟨e,_⟩
    ·exact e
    ·cases e
    ·cases e
    ·cases e)
   have H1:=Lib.hid (show C0 1 (.slice (some ⟨wr.drew.heap.size,0,none⟩) 1 1) (wr.drew.alloc (.cells #[.string ((mkS TX).extract (so r i).2 (mkS TX).size),.string ((mkS MX).extract (so r i).2 (mkS MX).size)] 37)) by rw[hC0];exact .inr (.inl ⟨rfl,rfl,rfl⟩))
   have HA1:=Lib.hid (show ∀ u w,C0 1 u w→u=.slice (some ⟨wr.drew.heap.size,0,none⟩) 1 1∧w=wr.drew.alloc (.cells #[.string ((mkS TX).extract (so r i).2 (mkS TX).size),.string ((mkS MX).extract (so r i).2 (mkS MX).size)] 37) from fun u w hc=>by
    rw[hC0] at hc
    rcases hc with⟨e,_⟩ | ⟨_,e⟩ | ⟨e,_⟩ | ⟨e,_⟩
    ·cases e
    ·exact e
    ·cases e
    ·cases e)
   have H2:=Lib.hid (show ∀ v' w',GrewK wr.drew w' (W.heap.size+2) 37 2 (.slice Ar (so r i).1.length cr) v' ((so r i).1.length+1) (rows (so r i).1++[.string ((mkS TX).extract (so r i).2 (mkS TX).size),.string ((mkS MX).extract (so r i).2 (mkS MX).size)])→C0 2 v' w' from fun v' w' h=>by rw[hC0];exact .inr (.inr (.inl ⟨rfl,h⟩)))
   have HG2:=Lib.hid (show ∀ u w,C0 2 u w→GrewK wr.drew w (W.heap.size+2) 37 2 (.slice Ar (so r i).1.length cr) u ((so r i).1.length+1) (rows (so r i).1++[.string ((mkS TX).extract (so r i).2 (mkS TX).size),.string ((mkS MX).extract (so r i).2 (mkS MX).size)]) from fun u w hc=>by
    rw[hC0] at hc
    rcases hc with⟨e,_⟩ | ⟨e,_⟩ | ⟨_,e⟩ | ⟨e,_⟩
    ·cases e
    ·cases e
    ·exact e
    ·cases e)
   have HU:=Lib.hid (show ∀ u w,C0 2 u w→∃ A4 n4 k4,u=.slice A4 n4 k4 from fun u w hc=>by
    obtain⟨A4,k4,e4,_⟩:=own_any (HG2.out u w hc).own
    exact⟨A4,_,k4,e4⟩)
   have H3:=Lib.hid (show ∀ u w,C0 2 u w→C0 3 u w from fun u w hc=>by
    have hg2:=HG2.out u w hc
    rw[HPT.out,HPM.out] at hg2
    rw[hC0]
    exact .inr (.inr (.inr ⟨rfl,(HS.out.later (Later.drew wr)).push hg2⟩)))
   have HF:=Lib.hid (show ∀ u w,C0 3 u w→So W w r ((so r i).1++[r.drop (so r i).2]) u from fun u w hc=>by
    rw[hC0] at hc
    rcases hc with⟨e,_⟩ | ⟨e,_⟩ | ⟨e,_⟩ | ⟨_,e⟩
    ·cases e
    ·cases e
    ·cases e
    ·exact e)
   clear hC0
   go_wp2
   refine wp_region_seqE (by kernel_rfl) [10,11,12] (C0) [some (.slice Ar (so r i).1.length cr),some (.pointer (some ⟨W.heap.size,0,none⟩)),some (.string (mkS TX)),some (.int .i64 ((so r i).2:Int)),some (.string ((mkS TX).extract (so r i).2 (mkS TX).size)),some (.pointer (some ⟨W.heap.size,1,none⟩)),some (.string (mkS MX)),some (.int .i64 ((so r i).2:Int)),some (.string ((mkS MX).extract (so r i).2 (mkS MX).size)),some (.agg #[.string ((mkS TX).extract (so r i).2 (mkS TX).size),.string ((mkS MX).extract (so r i).2 (mkS MX).size)]),none,none,none] (by decide) (by decide) (by kernel_rfl) (by kernel_rfl) 3 (by kernel_rfl) (H0.out) ?_ ?_
   ·refine⟨?_,?_,?_,?_,?_,?_,?_,?_,?_,?_,?_,?_,?_,trivial⟩
    ·
     refine OwesSE.q rfl fun a w j u hC hb he hs=>⟨rfl,?_⟩
     have e3:a.tmps.getD 3 undef=.slice Ar (so r i).1.length cr:=he (by have:=hb 2 12 rfl rfl;simp only[List.length_cons,List.length_nil];omega)
     refine ValWp.pure (v:=.slice Ar (so r i).1.length cr) (fun K' hK'=>?_) ⟨rfl,rfl⟩
     simp only[ValWp,execOp,Act.eval,e3]
     go_simp
     all_goals exact hK'
    ·
     refine OwesSE.q rfl fun a w j u hC hb he hs=>⟨rfl,?_⟩
     have e1:a.tmps.getD 1 undef=.pointer (some ⟨W.heap.size,0,none⟩):=hs.free 1 rfl
     refine ValWp.pure (v:=.pointer (some ⟨W.heap.size,0,none⟩)) (fun K' hK'=>?_) ⟨rfl,rfl⟩
     simp only[ValWp,execOp,Act.eval,e1]
     go_simp
     all_goals exact hK'
    ·
     refine OwesSE.q rfl fun a w j u hC hb he hs=>⟨rfl,?_⟩
     have e35:a.tmps.getD 35 undef=.pointer (some ⟨W.heap.size,0,none⟩):=hs.dep 1 _ rfl rfl
     have q0:=(HB0.out j u w hC)
     refine ValWp.pure (v:=.string (mkS TX)) (fun K' hK'=>?_) ⟨rfl,rfl⟩
     simp only[ValWp,execOp,Act.eval,e35]
     go_simp
     all_goals exact hK'
    ·
     refine OwesSE.q rfl fun a w j u hC hb he hs=>⟨rfl,?_⟩
     have e4:a.tmps.getD 4 undef=.int .i64 ((so r i).2:Int):=hs.free 4 rfl
     refine ValWp.pure (v:=.int .i64 ((so r i).2:Int)) (fun K' hK'=>?_) ⟨rfl,rfl⟩
     simp only[ValWp,execOp,Act.eval,e4]
     go_simp
     all_goals exact hK'
    ·
     refine OwesSE.q rfl fun a w j u hC hb he hs=>⟨rfl,?_⟩
     have e36:a.tmps.getD 36 undef=.string (mkS TX):=hs.dep 2 _ rfl rfl
     have e37:a.tmps.getD 37 undef=.int .i64 ((so r i).2:Int):=hs.dep 3 _ rfl rfl
     refine ValWp.pure (v:=.string ((mkS TX).extract (so r i).2 (mkS TX).size)) (fun K' hK'=>?_) ⟨rfl,rfl⟩
     simp only[ValWp,execOp,Act.eval,e36]
     go_simp
     all_goals exact hK'
    ·
     refine OwesSE.q rfl fun a w j u hC hb he hs=>⟨rfl,?_⟩
     have e1:a.tmps.getD 1 undef=.pointer (some ⟨W.heap.size,0,none⟩):=hs.free 1 rfl
     refine ValWp.pure (v:=.pointer (some ⟨W.heap.size,1,none⟩)) (fun K' hK'=>?_) ⟨rfl,rfl⟩
     simp only[ValWp,execOp,Act.eval,e1]
     go_simp
     all_goals exact hK'
    ·
     refine OwesSE.q rfl fun a w j u hC hb he hs=>⟨rfl,?_⟩
     have e39:a.tmps.getD 39 undef=.pointer (some ⟨W.heap.size,1,none⟩):=hs.dep 5 _ rfl rfl
     have q0:=(HB1.out j u w hC)
     refine ValWp.pure (v:=.string (mkS MX)) (fun K' hK'=>?_) ⟨rfl,rfl⟩
     simp only[ValWp,execOp,Act.eval,e39]
     go_simp
     all_goals exact hK'
    ·
     refine OwesSE.q rfl fun a w j u hC hb he hs=>⟨rfl,?_⟩
     have e4:a.tmps.getD 4 undef=.int .i64 ((so r i).2:Int):=hs.free 4 rfl
     refine ValWp.pure (v:=.int .i64 ((so r i).2:Int)) (fun K' hK'=>?_) ⟨rfl,rfl⟩
     simp only[ValWp,execOp,Act.eval,e4]
     go_simp
     all_goals exact hK'
    ·
     refine OwesSE.q rfl fun a w j u hC hb he hs=>⟨rfl,?_⟩
     have e40:a.tmps.getD 40 undef=.string (mkS MX):=hs.dep 6 _ rfl rfl
     have e41:a.tmps.getD 41 undef=.int .i64 ((so r i).2:Int):=hs.dep 7 _ rfl rfl
     refine ValWp.pure (v:=.string ((mkS MX).extract (so r i).2 (mkS MX).size)) (fun K' hK'=>?_) ⟨rfl,rfl⟩
     simp only[ValWp,execOp,Act.eval,e40]
     go_simp
     all_goals exact hK'
    ·
     refine OwesSE.q rfl fun a w j u hC hb he hs=>⟨rfl,?_⟩
     have e38:a.tmps.getD 38 undef=.string ((mkS TX).extract (so r i).2 (mkS TX).size):=hs.dep 4 _ rfl rfl
     have e42:a.tmps.getD 42 undef=.string ((mkS MX).extract (so r i).2 (mkS MX).size):=hs.dep 8 _ rfl rfl
     refine ValWp.pure (v:=.agg #[.string ((mkS TX).extract (so r i).2 (mkS TX).size),.string ((mkS MX).extract (so r i).2 (mkS MX).size)]) (fun K' hK'=>?_) ⟨rfl,rfl⟩
     simp only[ValWp,execOp,Act.eval,List.map_toArray,List.map_cons,List.map_nil,e38,e42]
     go_simp
     all_goals exact hK'
    ·
     refine OwesSE.w rfl fun a w u hC hl hs=>⟨rfl,fun K hK=>?_⟩
     have e43:a.tmps.getD 43 undef=.agg #[.string ((mkS TX).extract (so r i).2 (mkS TX).size),.string ((mkS MX).extract (so r i).2 (mkS MX).size)]:=hs.dep 9 _ rfl rfl
     have hw:=HA.out u w hC
     subst hw
     refine wp_of_val ?_
     refine ValWp.pure (v:=.slice (some ⟨wr.drew.heap.size,0,none⟩) 1 1) (w':=wr.drew.alloc (.cells #[.string ((mkS TX).extract (so r i).2 (mkS TX).size),.string ((mkS MX).extract (so r i).2 (mkS MX).size)] 37)) (fun K' hK'=>?_) (hK _ _ trivial H1.out)
     simp only[ValWp,execOp,Act.eval,List.map_toArray,List.map_cons,List.map_nil,e43]
     go_simp
     all_goals exact hK'
    ·
     refine OwesSE.w rfl fun a w u hC hl hs=>⟨rfl,fun K hK=>?_⟩
     have e34:a.tmps.getD 34 undef=.slice Ar (so r i).1.length cr:=hs.dep 0 _ rfl rfl
     have e44:a.tmps.getD 44 undef=u:=hl
     obtain⟨hu,hw⟩:=HA1.out u w hC
     subst hu
     subst hw
     obtain⟨v',w',hrun,h3⟩:=HAP.out
     exact owes_append hrun rfl e34 e44 (hK v' w' trivial (H2.out v' w' h3))
    ·
     refine OwesSE.w rfl fun a w u hC hl hs=>⟨rfl,fun K hK=>?_⟩
     have e45:a.tmps.getD 45 undef=u:=hl
     obtain⟨A4,n4,k4,hu⟩:=HU.out u w hC
     subst hu
     refine wp_of_val ?_
     refine ValWp.pure (v:=.slice A4 n4 k4) (w':=w) (fun K' hK'=>?_) (hK _ _ trivial (H3.out _ w hC))
     simp only[ValWp,execOp,Act.eval,e45]
     go_simp
     all_goals exact hK'
   ·intro a w u hC hl hd hsz hfree hs
    obtain⟨u34,hu34⟩:∃ u,u=a.tmps.getD 34 undef:=⟨_,rfl⟩
    obtain⟨u35,hu35⟩:∃ u,u=a.tmps.getD 35 undef:=⟨_,rfl⟩
    obtain⟨u36,hu36⟩:∃ u,u=a.tmps.getD 36 undef:=⟨_,rfl⟩
    obtain⟨u37,hu37⟩:∃ u,u=a.tmps.getD 37 undef:=⟨_,rfl⟩
    obtain⟨u38,hu38⟩:∃ u,u=a.tmps.getD 38 undef:=⟨_,rfl⟩
    obtain⟨u39,hu39⟩:∃ u,u=a.tmps.getD 39 undef:=⟨_,rfl⟩
    obtain⟨u40,hu40⟩:∃ u,u=a.tmps.getD 40 undef:=⟨_,rfl⟩
    obtain⟨u41,hu41⟩:∃ u,u=a.tmps.getD 41 undef:=⟨_,rfl⟩
    obtain⟨u42,hu42⟩:∃ u,u=a.tmps.getD 42 undef:=⟨_,rfl⟩
    obtain⟨u43,hu43⟩:∃ u,u=a.tmps.getD 43 undef:=⟨_,rfl⟩
    obtain⟨u44,hu44⟩:∃ u,u=a.tmps.getD 44 undef:=⟨_,rfl⟩
    obtain⟨u45,hu45⟩:∃ u,u=a.tmps.getD 45 undef:=⟨_,rfl⟩
    have hal:AllAt a 0 [_,_,_,u,_,_,_,_,_,_,_,_,_,_,_,_,_,_,_,_,_,_,_,_,_,_,_,_,_,_,_,_,_,_,u34,u35,u36,u37,u38,u39,u40,u41,u42,u43,u44,u45,_,_]:=⟨hfree 0 rfl,hfree 1 rfl,hfree 2 rfl,hl,hfree 4 rfl,hfree 5 rfl,hfree 6 rfl,hfree 7 rfl,hfree 8 rfl,hfree 9 rfl,hfree 10 rfl,hfree 11 rfl,hfree 12 rfl,hfree 13 rfl,hfree 14 rfl,hfree 15 rfl,hfree 16 rfl,hfree 17 rfl,hfree 18 rfl,hfree 19 rfl,hfree 20 rfl,hfree 21 rfl,hfree 22 rfl,hfree 23 rfl,hfree 24 rfl,hfree 25 rfl,hfree 26 rfl,hfree 27 rfl,hfree 28 rfl,hfree 29 rfl,hfree 30 rfl,hfree 31 rfl,hfree 32 rfl,hfree 33 rfl,hu34.symm,hu35.symm,hu36.symm,hu37.symm,hu38.symm,hu39.symm,hu40.symm,hu41.symm,hu42.symm,hu43.symm,hu44.symm,hu45.symm,hfree 46 rfl,hfree 47 rfl,trivial⟩
    have hlit:=fun h=>act_lit hd h hal
    rw[hlit hsz]
    simp only[Array.getD_eq_getD_getElem?,List.getElem?_toArray,List.getElem?_cons_zero,List.getElem?_cons_succ,Option.getD_some]
    clear hlit hal hd hsz hfree hs hu34 hu35 hu36 hu37 hu38 hu39 hu40 hu41 hu42 hu43 hu44 hu45
    have HSF:=Lib.hid (HF.out u w hC)
    obtain⟨Aj,cj,rfl,_⟩:=own_any HSF.out.own
    have hsq:solid r=((so r i).1++[r.drop (so r i).2]).flatten:=by rw[←HFL.out];simp
    have hsl:(solid r).length≤n:=by rw[HN.out];exact List.length_filter_le _ _
    have hrd:=Jo.RdR.of_own HSF.out.own
    have hj:=(Jo.join_v _ _ w hrd (by rw[allC_pr,←hsq];omega) (by rw[List.length_map,List.length_append];simp;omega) (by
     intro x hx
     obtain⟨f,hf,rfl⟩:=List.mem_map.1 hx
     show (ft f).length≤_
     have h1:f.length≤(solid r).length:=by rw[hsq];exact mem_flat hf
     unfold ft;rw[List.length_map];omega))
    rw[show ((so r i).1++[r.drop (so r i).2]).length=(so r i).1.length+1 by simp,allC_pr,←hsq] at hj
    have HJ:=Lib.hid hj
    clear hj
    clear hC hl hrd hsq hsl
    go_wp2_with (go_at_call 63;(with_reducible refine HJ.out.mono ?_);rintro e w3 ⟨rfl,hl3⟩;(have hn3:=later_cells hl3 HSF.out.rs);obtain⟨r0,z0⟩:=cell_row hn3 0;obtain⟨r1,z1⟩:=cell_row hn3 1;(have HN3:=Lib.hid hn3);(have HL3:=Lib.hid (HSF.out.low.trans hl3));clear hl3 hn3)
    refine end_row rfl rfl HN3.out rfl rfl fun w4 h4=>⟨rfl,later_of_new HL3.out h4 (by omega)⟩
end Ey
end Go.Proofs.YtipdgmjplnibeaaGreatDoor
