import Derived.RangeFuncLeaves
import Derived.Test.YtipdgmjplnibeaaGreatDoorG18
set_option maxRecDepth 100000
set_option maxHeartbeats 6400000
namespace Go.Proofs.YtipdgmjplnibeaaGreatDoor
open Go.RowKit Go.Maps Go.Shelf
attribute [local go_sem] Oper.semAt_some
namespace Jo
open Bu
theorem loadBx {W:World} {b:Nat} {p:C2} (h:W.heap[b]?=some (.cells #[.int .u8 (p.1.toNat:Int),.int .u8 (p.2.toNat:Int)] 146 (0,0))):(Instr.loadAt 146 (.pointer (some ⟨b,0,none⟩))).run Tryz.prog W=.ok (.agg #[.int .u8 (p.1.toNat:Int),.int .u8 (p.2.toNat:Int)]) W:=
 cell_load (p:=p) (cell_row h 0).1 (cell_row h 1).1
def RoundF (W0:World) (r1:Rng) (lb:Nat):Prop:=∀ (out:List Rw) (vo:Value) (f:Rw) (W:World),OutSt W0 r1 lb W vo out→out.length≤1000000 →
 YieldAt Fence.wide 3 Tryz.prog (r1.D+1) #[.agg #[.string (mkS (ft f)),.string (mkS (fm f))]] W fun e W'=>e=.returned (.bool true)∧∃ vo',OutSt W0 r1 lb W' vo' (out++[f])∧Fr (ButO r1 lb vo) W W'∧Moved W vo vo'
section
variable {W0:World} {r1 r2:Rng} {lb g yk fk bk:Nat} {t m ifs:L}
theorem fields_it (W:World) (r1:Rng) (lb rb fk:Nat) (t m ifs:L) (hr:RBox W rb t m) (hfb:W.heap[fk]?=some (.cells #[.string (mkS ifs)] 9 (0,0))) (ho:OutSt W0 r1 lb W (.slice none 0 0) []) (ht0:t.length≤9223372036854775807) (hlen:(t.zip m).length≤100000) (hYY:RoundF W0 r1 lb) :
  CallsIn Fence.wide 5 Tryz.prog 87 (#[.func (.yield (r1.D+1)) #[] #[]]++#[.pointer (some ⟨rb,0,none⟩),.pointer (some ⟨fk,0,none⟩)]) W fun e W2=>(∃ v,e=.returned v)∧∃ vo,OutSt W0 r1 lb W2 vo (split ifs (t.zip m)):=by
 have HYY:=Lib.hid hYY
 clear hYY
 have hrl:=lt_of_block hr
 have hw0:=ho.low.size
 have hd1:=ho.at1.lt
 refine callsIn_of_wp_marks Tryz.func87 rfl trivial ?_ rfl
 simp only[Tryz.ntmps87,List.size_toArray,List.length_cons,List.length_nil,Nat.reduceAdd,Nat.reduceSub,Array.replicate_succ,Array.replicate_zero,List.push_toArray,List.append_toArray,List.nil_append,List.cons_append]
 obtain⟨o1,ho1⟩:∃ o:Obj,o=.cells #[.func (.yield (r1.D+1)) #[] #[]] 138:=⟨_,rfl⟩
 obtain⟨o2,ho2⟩:∃ o:Obj,o=.cells #[.slice none 0 0,.bool false,.bool false] 141:=⟨_,rfl⟩
 obtain⟨o3,ho3⟩:∃ o:Obj,o=.cells #[.string (mkS t),.string (mkS m)] 37:=⟨_,rfl⟩
 have l1:=Later.alloc W o1
 have l2:=Later.alloc (W.alloc o1) o2
 have l3:=Later.alloc ((W.alloc o1).alloc o2) o3
 have n1:=heap_alloc_new W o1
 have n2:=heap_alloc_new (W.alloc o1) o2
 have n3:=heap_alloc_new ((W.alloc o1).alloc o2) o3
 have z1:(W.alloc o1).heap.size=W.heap.size+1:=World.size_alloc ..
 have z2:((W.alloc o1).alloc o2).heap.size=W.heap.size+1+1:=by rw[World.size_alloc,z1]
 have z3:(((W.alloc o1).alloc o2).alloc o3).heap.size=W.heap.size+1+1+1:=by rw[World.size_alloc,z2]
 rw[z1] at n2
 rw[z2] at n3
 have hr2:RBox ((W.alloc o1).alloc o2) rb t m:=later_cells l2 (later_cells l1 hr)
 have hL:=(l1.trans l2).trans l3
 obtain⟨Wc,hWc⟩:∃ Wc,Wc=((W.alloc o1).alloc o2).alloc o3:=⟨_,rfl⟩
 have HST0:=Lib.hid (show OutSt W0 r1 lb Wc (.slice none 0 0) []∧Wc.heap[W.heap.size]?=some o1∧Wc.heap[W.heap.size+1]?=some o2∧Wc.heap[W.heap.size+1+1]?=some o3∧Wc.heap[fk]?=some (.cells #[.string (mkS ifs)] 9 (0,0))∧Wc.heap.size=W.heap.size+1+1+1 from by
  rw[hWc]
  exact⟨ho.later hL,later_cells l3 (later_cells l2 n1),later_cells l3 n2,n3,later_cells hL hfb,z3⟩)
 have q0:((W.alloc o1).alloc o2).cell? ⟨rb,0,none⟩=some (.string (mkS t)):=(cell_row hr2 0).1
 have q1:((W.alloc o1).alloc o2).cell? ⟨rb,1,none⟩=some (.string (mkS m)):=(cell_row hr2 1).1
 rw[ho1,ho2] at q0 q1
 rw[ho1,ho2,ho3] at hWc HST0
 clear l1 l2 l3 n1 n2 n3 z1 z2 z3 hL hr2 hr hfb ho ho1 ho2 ho3 o1 o2 o3
 gi_wp2_with (refine⟨trivial,?_⟩;gi_at_call 88;refine(callsIn_wide.2 (cells_v t m _)).mono ?_;rintro e w' ⟨rfl,rfl⟩)
 rw[←hWc]
 clear hWc q0 q1
 obtain⟨hs1,hs2,hs3,hs4,hs5,hs6⟩:=HST0.out
 refine wpIn_rangeFunc_at2 rfl (by omega) (gf:=119) (lb:=#[.pointer (some ⟨W.heap.size+1+1,0,none⟩)]) rfl trivial (enters_of Tryz.func119 (by kernel_rfl) rfl) ?_
 intro fn hfn r2 hrr W1 hat hb1 hz1
 have hD:r2.D=W.heap.size+1+1+1:=by rw[hrr,←hs6]
 have hps:r2.ps=#[8]:=by rw[hrr]
 have hl1:Later Wc W1:=hb1
 have hinn:∃ vo v,Inn W0 r1 r2 .ready lb (W.heap.size+1) W.heap.size fk (W.heap.size+1+1) t m ifs W1 vo v (run ifs ((t.zip m).take 0)):=by
  refine⟨.slice none 0 0,.slice none 0 0,hs1.later hl1,hat,⟨later_cells hl1 hs3,World.ownsRow_nil _ _ _ 2⟩,later_cells hl1 hs2,later_cells hl1 hs5,later_cells hl1 hs4,by simp[Value.ownBlock],fun k e=>by simp[Value.ownBlock] at e,by omega,by omega⟩
 obtain⟨g,hg⟩:∃ g,g=W.heap.size+1:=⟨_,rfl⟩
 obtain⟨yk,hyk⟩:∃ yk,yk=W.heap.size:=⟨_,rfl⟩
 obtain⟨bk,hbk⟩:∃ bk,bk=W.heap.size+1+1:=⟨_,rfl⟩
 rw[←hbk,←hg,←hyk] at hinn
 rw[←hbk,←hg,←hyk]
 have HRR:=Lib.hid hrr
 refine CallsIn.mono (cells_it (r2.D+1) bk t m ht0 (fun i W'=>∃ vo v,Inn W0 r1 r2 .ready lb g yk fk bk t m ifs W' vo v (run ifs ((t.zip m).take i))) (fun i W' ⟨_,_,h⟩=>h.bx) (fun i W' ⟨vo,v,h⟩=>⟨vo,v,h.later (Later.drew _)⟩) ?hround W1 hinn) ?done
 case hround=>
  rintro i hi Wr ⟨vo,v,hin⟩
  obtain⟨p,hp⟩:∃ p,p=(t.zip m)[i]:=⟨_,rfl⟩
  rw[←hp]
  have HST:=Lib.hid (run_take (ifs:=ifs) hi)
  rw[←hp,step_by (run_ok ifs _)] at HST
  have hln:=run_len ifs (t.zip m) i (by omega)
  obtain⟨σ,hσ⟩:∃ σ,σ=run ifs ((t.zip m).take i):=⟨_,rfl⟩
  rw[←hσ] at hin HST hln
  refine Rng.yield hin.at2 hfn (by rw[hps];rfl) ?_
  have e1:=congrArg Rng.assign hrr
  have e2:=congrArg Rng.body hrr
  have e3:=congrArg Rng.tmps hrr
  dsimp only at e1 e2 e3
  rw[←hbk,←hg,←hyk] at e3
  rw[e1,e2,e3,hps]
  obtain⟨o,ho⟩:∃ o:Obj,o=.cells #[.int .u8 (p.1.toNat:Int),.int .u8 (p.2.toNat:Int)] 146:=⟨_,rfl⟩
  have hl:=Later.alloc Wr o
  have HIA:=Lib.hid (hin.later hl)
  have HNW:=Lib.hid (heap_alloc_new Wr o)
  rw[ho] at HIA HNW
  have HNL:=Lib.hid hln.1
  have HOL:=Lib.hid hln.2
  have HI:=Lib.hid hi
  have HD:=Lib.hid hD
  have hck0:r2.D+1<Wr.heap.size:=hin.at2.lt
  clear e1 e2 e3 hps hrr hin hat hb1 hinn hl ho hz1 hl1 hs1 hs2 hs3 hs4 hs5 hs6 hln hp hσ hi hD hg hyk hbk
  simp only[cl,bv,List.zip_toArray,List.zip_cons_cons,List.zip_nil_right,List.foldl_toArray',List.foldl_cons,List.foldl_nil,List.size_toArray,List.setIfInBounds_toArray,List.set_cons_succ,List.set_cons_zero]
  gi_wp2
  refine⟨HIA.out.at2,?_⟩
  generalize Wr.alloc (.cells #[.int .u8 (p.1.toNat:Int),.int .u8 (p.2.toNat:Int)] 146)=Wa at HIA HNW
  intro w1 ht2 hat2
  have HIN:=Lib.hid (HIA.out.turn ht2 hat2)
  have HCK:=Lib.hid (show w1.heap[Wr.heap.size]?=some (.cells #[.int .u8 (p.1.toNat:Int),.int .u8 (p.2.toNat:Int)] 146 (0,0)) from(ht2.grown.block _ (lt_of_block HNW.out) (fun e=>by injection e with e;omega)).trans HNW.out)
  obtain⟨ck,hck⟩:∃ ck,ck=Wr.heap.size:=⟨_,rfl⟩
  rw[←hck] at HCK⊢
  clear ht2 hat2 HIA HNW hck0 hck
  have HK:=Lib.hid (fun w=>kind_v ifs p w)
  unfold cl at HK
  simp only[bv] at HK
  obtain⟨kk,hkk⟩:∃ kk,kk=kindN ifs p:=⟨_,rfl⟩
  rw[←hkk] at HK HST
  obtain⟨now,hnow⟩:∃ now,now=nowA kk σ.now p:=⟨_,rfl⟩
  obtain⟨bg,hbg⟩:∃ bg,bg=begA kk σ.begun:=⟨_,rfl⟩
  obtain⟨af,haf⟩:∃ af,af=blkA kk σ.begun σ.blank:=⟨_,rfl⟩
  rw[←hnow,←hbg,←haf] at HST
  have HNL2:=Lib.hid (show now.length≤200000 by have:=HNL.out;have:=HI.out;have:=hlen;rw[hnow];unfold nowA;split <;> simp <;> omega)
  have HKK:=Lib.hid hkk
  have HNOW:=Lib.hid hnow
  have HBG:=Lib.hid hbg
  have HAF:=Lib.hid haf
  have HLEN:=Lib.hid hlen
  clear hkk hnow hbg haf hlen
  cases hends:endsB kk σ.begun σ.blank with
  | true=>
   rw[hends,if_pos rfl] at HST
   have HENDS:=Lib.hid hends
   clear hends
   obtain⟨C0,hC0⟩:∃ C0:List Bool→World→Prop,C0=fun bits w=>(bits=[false,false,false,false]∧(Inn W0 r1 r2 .busy lb g yk fk bk t m ifs w vo v σ∧w.heap[ck]?=some (.cells #[.int .u8 (p.1.toNat:Int),.int .u8 (p.2.toNat:Int)] 146 (0,0))))∨(bits=[true,false,false,false]∧(Inn W0 r1 r2 .busy lb g yk fk bk t m ifs w vo v σ∧w.heap[ck]?=some (.cells #[.int .u8 (p.1.toNat:Int),.int .u8 (p.2.toNat:Int)] 146 (0,0))))∨(bits=[true,true,false,false]∧(∃ v2,Inn W0 r1 r2 .busy lb g yk fk bk t m ifs w vo v2 ⟨σ.out,now,bg,af⟩))∨(bits=[true,true,true,false]∧(∃ v3,Inn W0 r1 r2 .busy lb g yk fk bk t m ifs w vo v3 ⟨σ.out,[],false,af⟩))∨(bits=[true,true,true,true]∧(∃ vo4 v4,Inn W0 r1 r2 .busy lb g yk fk bk t m ifs w vo4 v4 ⟨σ.out++[now],[],false,af⟩)):=⟨_,rfl⟩
   have hin0:∀ w,(Inn W0 r1 r2 .busy lb g yk fk bk t m ifs w vo v σ∧w.heap[ck]?=some (.cells #[.int .u8 (p.1.toNat:Int),.int .u8 (p.2.toNat:Int)] 146 (0,0)))→C0 [false,false,false,false] w:=fun w h=>by rw[hC0];exact .inl ⟨rfl,h⟩
   have hin1:∀ w,(Inn W0 r1 r2 .busy lb g yk fk bk t m ifs w vo v σ∧w.heap[ck]?=some (.cells #[.int .u8 (p.1.toNat:Int),.int .u8 (p.2.toNat:Int)] 146 (0,0)))→C0 [true,false,false,false] w:=fun w h=>by rw[hC0];exact .inr (.inl ⟨rfl,h⟩)
   have hin2:∀ w,(∃ v2,Inn W0 r1 r2 .busy lb g yk fk bk t m ifs w vo v2 ⟨σ.out,now,bg,af⟩)→C0 [true,true,false,false] w:=fun w h=>by rw[hC0];exact .inr (.inr (.inl ⟨rfl,h⟩))
   have hin3:∀ w,(∃ v3,Inn W0 r1 r2 .busy lb g yk fk bk t m ifs w vo v3 ⟨σ.out,[],false,af⟩)→C0 [true,true,true,false] w:=fun w h=>by rw[hC0];exact .inr (.inr (.inr (.inl ⟨rfl,h⟩)))
   have hin4:∀ w,(∃ vo4 v4,Inn W0 r1 r2 .busy lb g yk fk bk t m ifs w vo4 v4 ⟨σ.out++[now],[],false,af⟩)→C0 [true,true,true,true] w:=fun w h=>by rw[hC0];exact .inr (.inr (.inr (.inr (⟨rfl,h⟩))))
   have H0:=Lib.hid (hin0 w1.drew ⟨HIN.out.later (Later.drew _),HCK.out⟩)
   have HS0:=Lib.hid (show ∀ (bits:List Bool) (w:World),C0 bits w→bits[0]?=some false→bits=[false,false,false,false]∧(Inn W0 r1 r2 .busy lb g yk fk bk t m ifs w vo v σ∧w.heap[ck]?=some (.cells #[.int .u8 (p.1.toNat:Int),.int .u8 (p.2.toNat:Int)] 146 (0,0))) from fun bits w h x0=>by
    rw[hC0] at h
    rcases h with⟨hb,h⟩ | ⟨hb,h⟩ | ⟨hb,h⟩ | ⟨hb,h⟩ | ⟨hb,h⟩
    ·exact⟨hb,h⟩
    ·rw[hb] at x0;cases x0
    ·rw[hb] at x0;cases x0
    ·rw[hb] at x0;cases x0
    ·rw[hb] at x0;cases x0)
   have HS1:=Lib.hid (show ∀ (bits:List Bool) (w:World),C0 bits w→bits[0]?=some true→bits[1]?=some false→bits=[true,false,false,false]∧∃ vv,vv=v∧(Inn W0 r1 r2 .busy lb g yk fk bk t m ifs w vo v σ∧w.heap[ck]?=some (.cells #[.int .u8 (p.1.toNat:Int),.int .u8 (p.2.toNat:Int)] 146 (0,0))) from fun bits w h x0 x1=>by
    rw[hC0] at h
    rcases h with⟨hb,h⟩ | ⟨hb,h⟩ | ⟨hb,h⟩ | ⟨hb,h⟩ | ⟨hb,h⟩
    ·rw[hb] at x0;cases x0
    ·exact⟨hb,⟨v,rfl,h⟩⟩
    ·rw[hb] at x1;cases x1
    ·rw[hb] at x1;cases x1
    ·rw[hb] at x1;cases x1)
   have HS2:=Lib.hid (show ∀ (bits:List Bool) (w:World),C0 bits w→bits[1]?=some true→bits[2]?=some false→bits=[true,true,false,false]∧(∃ v2,Inn W0 r1 r2 .busy lb g yk fk bk t m ifs w vo v2 ⟨σ.out,now,bg,af⟩) from fun bits w h x1 x2=>by
    rw[hC0] at h
    rcases h with⟨hb,h⟩ | ⟨hb,h⟩ | ⟨hb,h⟩ | ⟨hb,h⟩ | ⟨hb,h⟩
    ·rw[hb] at x1;cases x1
    ·rw[hb] at x1;cases x1
    ·exact⟨hb,h⟩
    ·rw[hb] at x2;cases x2
    ·rw[hb] at x2;cases x2)
   have HS3:=Lib.hid (show ∀ (bits:List Bool) (w:World),C0 bits w→bits[2]?=some true→bits[3]?=some false→bits=[true,true,true,false]∧∃ vo9 v3,vo9=vo∧Inn W0 r1 r2 .busy lb g yk fk bk t m ifs w vo9 v3 ⟨σ.out,[],false,af⟩ from fun bits w h x2 x3=>by
    rw[hC0] at h
    rcases h with⟨hb,h⟩ | ⟨hb,h⟩ | ⟨hb,h⟩ | ⟨hb,h⟩ | ⟨hb,h⟩
    ·rw[hb] at x2;cases x2
    ·rw[hb] at x2;cases x2
    ·rw[hb] at x2;cases x2
    ·exact⟨hb,by obtain⟨v3,h⟩:=h;exact⟨vo,v3,rfl,h⟩⟩
    ·rw[hb] at x3;cases x3)
   have HB:=Lib.hid (show ∀ (bits:List Bool) (w:World),C0 bits w→bits[1]?=some false→(Instr.loadAt 146 (.pointer (some ⟨ck,0,none⟩))).run Tryz.prog w=.ok (.agg #[.int .u8 (p.1.toNat:Int),.int .u8 (p.2.toNat:Int)]) w from fun bits w h x1=>by
    rw[hC0] at h
    rcases h with⟨hb,h⟩ | ⟨hb,h⟩ | ⟨hb,h⟩ | ⟨hb,h⟩ | ⟨hb,h⟩
    ·exact loadBx h.2
    ·exact loadBx h.2
    ·rw[hb] at x1;cases x1
    ·rw[hb] at x1;cases x1
    ·rw[hb] at x1;cases x1)
   have HB0:=Lib.hid (show ∀ (bits:List Bool) (w:World),C0 bits w→bits[0]?=some false→(Instr.loadAt 146 (.pointer (some ⟨ck,0,none⟩))).run Tryz.prog w=.ok (.agg #[.int .u8 (p.1.toNat:Int),.int .u8 (p.2.toNat:Int)]) w from fun bits w h x0=>by
    rw[hC0] at h
    rcases h with⟨hb,h⟩ | ⟨hb,h⟩ | ⟨hb,h⟩ | ⟨hb,h⟩ | ⟨hb,h⟩
    ·exact loadBx h.2
    ·rw[hb] at x0;cases x0
    ·rw[hb] at x0;cases x0
    ·rw[hb] at x0;cases x0
    ·rw[hb] at x0;cases x0)
   have HF:=Lib.hid (show ∀ (bits:List Bool) (w:World),C0 bits w→w.cell? ⟨fk,0,none⟩=some (.string (mkS ifs)) from fun bits w h=>by
    rw[hC0] at h
    rcases h with⟨hb,h⟩ | ⟨hb,h⟩ | ⟨hb,h⟩ | ⟨hb,h⟩ | ⟨hb,h⟩
    ·exact(cell_row h.1.fb 0).1
    ·exact(cell_row h.1.fb 0).1
    ·obtain⟨_,h⟩:=h;exact(cell_row h.fb 0).1
    ·obtain⟨_,h⟩:=h;exact(cell_row h.fb 0).1
    ·obtain⟨_,_,h⟩:=h;exact(cell_row h.fb 0).1)
   have HYB:=Lib.hid (show ∀ (bits:List Bool) (w:World),C0 bits w→w.cell? ⟨yk,0,none⟩=some (.func (.yield (r1.D+1)) #[] #[]) from fun bits w h=>by
    rw[hC0] at h
    rcases h with⟨hb,h⟩ | ⟨hb,h⟩ | ⟨hb,h⟩ | ⟨hb,h⟩ | ⟨hb,h⟩
    ·exact(cell_row h.1.yb 0).1
    ·exact(cell_row h.1.yb 0).1
    ·obtain⟨_,h⟩:=h;exact(cell_row h.yb 0).1
    ·obtain⟨_,h⟩:=h;exact(cell_row h.yb 0).1
    ·obtain⟨_,_,h⟩:=h;exact(cell_row h.yb 0).1)
   have HG0:=Lib.hid (show ∀ w w',(Inn W0 r1 r2 .busy lb g yk fk bk t m ifs w vo v σ∧w.heap[ck]?=some (.cells #[.int .u8 (p.1.toNat:Int),.int .u8 (p.2.toNat:Int)] 146 (0,0)))→Later w w'→C0 [true,false,false,false] w' from fun w w' h hl=>hin1 w' ⟨h.1.later hl,later_cells hl h.2⟩)
   have HG1:=Lib.hid (show ∀ w w' vv v',(vv=v∧(Inn W0 r1 r2 .busy lb g yk fk bk t m ifs w vo v σ∧w.heap[ck]?=some (.cells #[.int .u8 (p.1.toNat:Int),.int .u8 (p.2.toNat:Int)] 146 (0,0))))→Rdr w' g v' now bg af→Fr (But g vv) w w'→Moved w vv v'→C0 [true,true,false,false] w' from fun w w' vv v' h hr hf hm=>hin2 w' ⟨v',by obtain⟨rfl,h⟩:=h;exact h.1.read hr hf hm⟩)
   have HO:=Lib.hid (show ∀ w vv,(vv=v∧(Inn W0 r1 r2 .busy lb g yk fk bk t m ifs w vo v σ∧w.heap[ck]?=some (.cells #[.int .u8 (p.1.toNat:Int),.int .u8 (p.2.toNat:Int)] 146 (0,0))))→Calls Tryz.prog 89 #[.pointer (some ⟨g,0,none⟩),.agg #[.int .u8 (p.1.toNat:Int),.int .u8 (p.2.toNat:Int)],.int .i64 (kk:Int)] w (Over w g vv (.bool true) now bg af) from fun w vv h=>by
    obtain⟨rfl,h⟩:=h
    have:=over_v h.1.rd p kk (by rw[HKK.out];exact kindN_lt ifs p) (by have:=HNL.out;have:=HI.out;have:=HLEN.out;omega)
    rw[HKK.out] at this
    rw[←HENDS.out,HNOW.out,HBG.out,HAF.out,HKK.out]
    exact this)
   have HT:=Lib.hid (show ∀ w vv,Inn W0 r1 r2 .busy lb g yk fk bk t m ifs w vo vv ⟨σ.out,now,bg,af⟩→Calls Tryz.prog 91 #[.pointer (some ⟨g,0,none⟩)] w (Over w g vv (.agg #[.string (mkS (ft now)),.string (mkS (fm now))]) [] false af) from fun w vv h=>take_v h.rd (by have:=HNL2.out;omega))
   have HG2:=Lib.hid (show ∀ w w' vv v',Inn W0 r1 r2 .busy lb g yk fk bk t m ifs w vo vv ⟨σ.out,now,bg,af⟩→Rdr w' g v' [] false af→Fr (But g vv) w w'→Moved w vv v'→C0 [true,true,true,false] w' from fun w w' vv v' h hr hf hm=>hin3 w' ⟨v',h.read hr hf hm⟩)
   have HY:=Lib.hid (show ∀ w vo9 v3,(vo9=vo∧Inn W0 r1 r2 .busy lb g yk fk bk t m ifs w vo9 v3 ⟨σ.out,[],false,af⟩)→YieldAt Fence.wide 3 Tryz.prog (r1.D+1) #[.agg #[.string (mkS (ft now)),.string (mkS (fm now))]] w fun e W'=>e=.returned (.bool true)∧∃ vo',OutSt W0 r1 lb W' vo' (σ.out++[now])∧Fr (ButO r1 lb vo9) w W'∧Moved w vo9 vo' from fun w vo9 v3 h=>HYY.out σ.out vo9 now w h.2.o (by have:=HOL.out;have:=HI.out;have:=HLEN.out;omega))
   have HG3:=Lib.hid (show ∀ w w' vo9 vo2 v3,(vo9=vo∧Inn W0 r1 r2 .busy lb g yk fk bk t m ifs w vo9 v3 ⟨σ.out,[],false,af⟩)→OutSt W0 r1 lb w' vo2 (σ.out++[now])→Fr (ButO r1 lb vo9) w w'→Moved w vo9 vo2→C0 [true,true,true,true] w' from fun w w' vo9 vo2 v3 h ho hf hm=>hin4 w' ⟨vo2,v3,h.2.told ho hf hm⟩)
   have HE:=Lib.hid (show ∀ w,C0 [true,true,true,true] w→(∃ vo4 v4,Inn W0 r1 r2 .busy lb g yk fk bk t m ifs w vo4 v4 ⟨σ.out++[now],[],false,af⟩) from fun w h=>by
    rw[hC0] at h
    rcases h with⟨hb,h⟩ | ⟨hb,h⟩ | ⟨hb,h⟩ | ⟨hb,h⟩ | ⟨hb,h⟩
    ·cases hb
    ·cases hb
    ·cases hb
    ·cases hb
    ·exact h)
   clear hC0 hin0 hin1 hin2 hin3 hin4
   gi_wp2
   refine wpIn_region_bits (Free.round _) (by kernel_rfl) [3,4,7,8] (C0) [some (.agg #[.int .u8 (p.1.toNat:Int),.int .u8 (p.2.toNat:Int)]),some (.agg #[.int .u8 (p.1.toNat:Int),.int .u8 (p.2.toNat:Int)]),some (.string (mkS ifs)),some (.int .i64 (kk:Int)),some (.bool true),some (.bool true),some (.func (.yield (r1.D+1)) #[] #[]),some (.agg #[.string (mkS (ft now)),.string (mkS (fm now))]),some (.bool true),some (.bool false),some (.bool false)] (by decide) (by decide) (by kernel_rfl) (H0.out) ?_ ?_
   ·refine⟨?_,?_,?_,?_,?_,?_,?_,?_,?_,?_,?_,trivial⟩
    ·
     refine OwesI.q (Free.round _) rfl (fun c h=>by cases h) fun a w bits hC hd hu hs=>?_
     refine⟨rfl,?_⟩
     have e5:a.tmps.getD 5 undef=.pointer (some ⟨ck,0,none⟩):=hs.free 5 rfl
     exact ValWp.loadR rfl e5 (HB.out bits w hC (hu 1 4 rfl (.inr rfl))) ⟨rfl,rfl⟩
    ·
     refine OwesI.q (Free.round _) rfl (fun c h=>by cases h) fun a w bits hC hd hu hs=>?_
     refine⟨rfl,?_⟩
     have e5:a.tmps.getD 5 undef=.pointer (some ⟨ck,0,none⟩):=hs.free 5 rfl
     exact ValWp.loadR rfl e5 (HB0.out bits w hC (hu 0 3 rfl (.inr rfl))) ⟨rfl,rfl⟩
    ·
     refine OwesI.q (Free.round _) rfl (fun c h=>by cases h) fun a w bits hC hd hu hs=>?_
     refine⟨rfl,?_⟩
     have e2:a.tmps.getD 2 undef=.pointer (some ⟨fk,0,none⟩):=hs.free 2 rfl
     have q0:=HF.out bits w hC
     refine ValWp.pure (v:=.string (mkS ifs)) (fun K' hK'=>?_) ⟨rfl,rfl⟩
     simp only[ValWp,execOp,Act.eval,e2]
     go_simp
     all_goals exact hK'
    ·
     refine fun a w bits hC hd hu hs=>.inl ?_
     refine⟨rfl,fun K hK=>?_⟩
     have e10:a.tmps.getD 10 undef=.agg #[.int .u8 (p.1.toNat:Int),.int .u8 (p.2.toNat:Int)]:=hs.dep 1 _ rfl rfl
     have e11:a.tmps.getD 11 undef=.string (mkS ifs):=hs.dep 2 _ rfl rfl
     obtain⟨hbits,hj⟩:=HS0.out bits w hC (hu 0 3 rfl (.inl rfl))
     subst hbits
     refine wpIn_of_val (Free.round _) (fun c h=>by cases h) (ValWp.call #[.agg #[.int .u8 (p.1.toNat:Int),.int .u8 (p.2.toNat:Int)],.string (mkS ifs)] rfl rfl Tryz.func90 (by kernel_rfl) rfl (by simp only[List.map_toArray,List.map_cons,List.map_nil,Act.eval,e10,e11]) ((HK.out w).mono ?_))
     rintro e w' ⟨rfl,hl⟩
     exact⟨_,rfl,hK _ _ rfl (HG0.out w w' hj hl)⟩
    ·
     refine fun a w bits hC hd hu hs=>.inl ?_
     refine⟨rfl,fun K hK=>?_⟩
     have e4:a.tmps.getD 4 undef=.pointer (some ⟨g,0,none⟩):=hs.free 4 rfl
     have e9:a.tmps.getD 9 undef=.agg #[.int .u8 (p.1.toNat:Int),.int .u8 (p.2.toNat:Int)]:=hs.dep 0 _ rfl rfl
     have e12:a.tmps.getD 12 undef=.int .i64 (kk:Int):=hs.dep 3 _ rfl rfl
     obtain⟨hbits,vv,hj⟩:=HS1.out bits w hC (hd 0 3 rfl (.inl rfl)) (hu 1 4 rfl (.inl rfl))
     subst hbits
     refine wpIn_of_val (Free.round _) (fun c h=>by cases h) (ValWp.call #[.pointer (some ⟨g,0,none⟩),.agg #[.int .u8 (p.1.toNat:Int),.int .u8 (p.2.toNat:Int)],.int .i64 (kk:Int)] rfl rfl Tryz.func89 (by kernel_rfl) rfl (by simp only[List.map_toArray,List.map_cons,List.map_nil,Act.eval,e4,e9,e12]) ((HO.out w vv hj).mono ?_))
     rintro e w' ⟨rfl,v',hr,hf,hm⟩
     exact⟨_,rfl,hK _ _ rfl (HG1.out w w' vv v' hj hr hf hm)⟩
    ·
     refine OwesI.q (Free.round _) rfl (fun c h=>by cases h) fun a w bits hC hd hu hs=>?_
     refine⟨rfl,?_⟩
     have e13:a.tmps.getD 13 undef=.bool true:=hs.dep 4 _ rfl rfl
     refine ValWp.pure (v:=.bool true) (fun K' hK'=>?_) ⟨rfl,rfl⟩
     simp only[ValWp,execOp,Act.eval,e13]
     go_simp
     all_goals exact hK'
    ·
     refine OwesI.q (Free.round _) rfl (fun c h=>by cases h) fun a w bits hC hd hu hs=>?_
     have eg:a.tmps.getD 14 undef=.bool true:=hs.dep 5 _ rfl rfl
     refine⟨by unfold Region.wanted;dsimp only;rw[yielded_bool (d:=14) rfl eg];rfl,?_⟩
     clear eg
     have e3:a.tmps.getD 3 undef=.pointer (some ⟨yk,0,none⟩):=hs.free 3 rfl
     have q0:=HYB.out bits w hC
     refine ValWp.pure (v:=.func (.yield (r1.D+1)) #[] #[]) (fun K' hK'=>?_) ⟨rfl,rfl⟩
     simp only[ValWp,execOp,Act.eval,e3]
     go_simp
     all_goals exact hK'
    ·
     refine fun a w bits hC hd hu hs=>.inl ?_
     have eg:a.tmps.getD 14 undef=.bool true:=hs.dep 5 _ rfl rfl
     refine⟨by unfold Region.wanted;dsimp only;rw[yielded_bool (d:=14) rfl eg];rfl,fun K hK=>?_⟩
     clear eg
     have e4:a.tmps.getD 4 undef=.pointer (some ⟨g,0,none⟩):=hs.free 4 rfl
     obtain⟨hbits,vv,hj⟩:=HS2.out bits w hC (hd 1 4 rfl (.inr ⟨5,rfl,rfl⟩)) (hu 2 7 rfl (.inl rfl))
     subst hbits
     refine wpIn_of_val (Free.round _) (fun c h=>by cases h) (ValWp.call #[.pointer (some ⟨g,0,none⟩)] rfl rfl Tryz.func91 (by kernel_rfl) rfl (by simp only[List.map_toArray,List.map_cons,List.map_nil,Act.eval,e4]) ((HT.out w vv hj).mono ?_))
     rintro e w' ⟨rfl,v',hr,hf,hm⟩
     exact⟨_,rfl,hK _ _ rfl (HG2.out w w' vv v' hj hr hf hm)⟩
    ·
     refine fun a w bits hC hd hu hs=>.inl ?_
     have eg:a.tmps.getD 14 undef=.bool true:=hs.dep 5 _ rfl rfl
     refine⟨by unfold Region.wanted;dsimp only;rw[yielded_bool (d:=14) rfl eg];rfl,fun K hK=>?_⟩
     clear eg
     have e15:a.tmps.getD 15 undef=.func (.yield (r1.D+1)) #[] #[]:=hs.dep 6 _ rfl rfl
     have e16:a.tmps.getD 16 undef=.agg #[.string (mkS (ft now)),.string (mkS (fm now))]:=hs.dep 7 _ rfl rfl
     obtain⟨hbits,vo',vv,hj⟩:=HS3.out bits w hC (hd 2 7 rfl (.inl rfl)) (hu 3 8 rfl (.inl rfl))
     subst hbits
     refine wpIn_of_yield (Free.round _) (args:=#[.agg #[.string (mkS (ft now)),.string (mkS (fm now))]]) rfl e15 (by simp only[List.map_toArray,List.map_cons,List.map_nil,Act.eval,e16]) ((HY.out w vo' vv hj).mono ?_)
     rintro e w' ⟨rfl,vo2,ho2,hf2,hm2⟩
     exact⟨_,rfl,hK _ _ rfl (HG3.out w w' vo' vo2 vv hj ho2 hf2 hm2)⟩
    ·
     refine OwesI.q (Free.round _) rfl (fun c h=>by cases h) fun a w bits hC hd hu hs=>?_
     have eg:a.tmps.getD 14 undef=.bool true:=hs.dep 5 _ rfl rfl
     refine⟨by unfold Region.wanted;dsimp only;rw[yielded_bool (d:=14) rfl eg];rfl,?_⟩
     clear eg
     have e17:a.tmps.getD 17 undef=.bool true:=hs.dep 8 _ rfl rfl
     refine ValWp.pure (v:=.bool false) (fun K' hK'=>?_) ⟨rfl,rfl⟩
     simp only[ValWp,execOp,Act.eval,e17]
     go_simp
     all_goals exact hK'
    ·
     refine OwesI.q (Free.round _) rfl (fun c h=>by cases h) fun a w bits hC hd hu hs=>?_
     refine⟨rfl,?_⟩
     have e14:a.tmps.getD 14 undef=.bool true:=hs.dep 5 _ rfl rfl
     have e18:a.tmps.getD 18 undef=.bool false:=hs.dep 9 _ rfl rfl
     refine ValWp.pure (v:=.bool false) (fun K' hK'=>?_) ⟨rfl,rfl⟩
     simp only[ValWp,execOp,Act.eval,e14,e18]
     go_simp
     all_goals exact hK'
   ·intro a w hC hd hsz hfree hs
    obtain⟨u0,u1,u2,u3,u4,u5,u6,u7,u8,u9,u10,u11,u12,u13,u14,u15,u16,u17,u18,z19,u20,u21,u22,u23,u24,hal⟩:=lets a 25 0
    obtain rfl:=hal.on (v:=.bool false) 19 (hs 10 _ rfl) rfl
    have hlit:=fun h=>act_litD hd h hal
    rw[hlit hsz]
    clear hlit hal hd hsz hfree hs
    have hE:=HE.out w hC
    clear hC
    obtain⟨vo4,v4,hE⟩:=hE
    have HEE:=Lib.hid hE
    clear hE
    gi_wp2
    refine⟨HEE.out.at2,fun w' ht h2=>⟨rfl,vo4,v4,?_⟩⟩
    rw[HST.out]
    exact HEE.out.turn ht h2
  | false=>
   rw[hends,if_neg (by simp)] at HST
   have HENDS:=Lib.hid hends
   clear hends
   obtain⟨C0,hC0⟩:∃ C0:List Bool→World→Prop,C0=fun bits w=>(bits=[false,false]∧(Inn W0 r1 r2 .busy lb g yk fk bk t m ifs w vo v σ∧w.heap[ck]?=some (.cells #[.int .u8 (p.1.toNat:Int),.int .u8 (p.2.toNat:Int)] 146 (0,0))))∨(bits=[true,false]∧(Inn W0 r1 r2 .busy lb g yk fk bk t m ifs w vo v σ∧w.heap[ck]?=some (.cells #[.int .u8 (p.1.toNat:Int),.int .u8 (p.2.toNat:Int)] 146 (0,0))))∨(bits=[true,true]∧(∃ v2,Inn W0 r1 r2 .busy lb g yk fk bk t m ifs w vo v2 ⟨σ.out,now,bg,af⟩)):=⟨_,rfl⟩
   have hin0:∀ w,(Inn W0 r1 r2 .busy lb g yk fk bk t m ifs w vo v σ∧w.heap[ck]?=some (.cells #[.int .u8 (p.1.toNat:Int),.int .u8 (p.2.toNat:Int)] 146 (0,0)))→C0 [false,false] w:=fun w h=>by rw[hC0];exact .inl ⟨rfl,h⟩
   have hin1:∀ w,(Inn W0 r1 r2 .busy lb g yk fk bk t m ifs w vo v σ∧w.heap[ck]?=some (.cells #[.int .u8 (p.1.toNat:Int),.int .u8 (p.2.toNat:Int)] 146 (0,0)))→C0 [true,false] w:=fun w h=>by rw[hC0];exact .inr (.inl ⟨rfl,h⟩)
   have hin2:∀ w,(∃ v2,Inn W0 r1 r2 .busy lb g yk fk bk t m ifs w vo v2 ⟨σ.out,now,bg,af⟩)→C0 [true,true] w:=fun w h=>by rw[hC0];exact .inr (.inr (⟨rfl,h⟩))
   have H0:=Lib.hid (hin0 w1.drew ⟨HIN.out.later (Later.drew _),HCK.out⟩)
   have HS0:=Lib.hid (show ∀ (bits:List Bool) (w:World),C0 bits w→bits[0]?=some false→bits=[false,false]∧(Inn W0 r1 r2 .busy lb g yk fk bk t m ifs w vo v σ∧w.heap[ck]?=some (.cells #[.int .u8 (p.1.toNat:Int),.int .u8 (p.2.toNat:Int)] 146 (0,0))) from fun bits w h x0=>by
    rw[hC0] at h
    rcases h with⟨hb,h⟩ | ⟨hb,h⟩ | ⟨hb,h⟩
    ·exact⟨hb,h⟩
    ·rw[hb] at x0;cases x0
    ·rw[hb] at x0;cases x0)
   have HS1:=Lib.hid (show ∀ (bits:List Bool) (w:World),C0 bits w→bits[0]?=some true→bits[1]?=some false→bits=[true,false]∧∃ vv,vv=v∧(Inn W0 r1 r2 .busy lb g yk fk bk t m ifs w vo v σ∧w.heap[ck]?=some (.cells #[.int .u8 (p.1.toNat:Int),.int .u8 (p.2.toNat:Int)] 146 (0,0))) from fun bits w h x0 x1=>by
    rw[hC0] at h
    rcases h with⟨hb,h⟩ | ⟨hb,h⟩ | ⟨hb,h⟩
    ·rw[hb] at x0;cases x0
    ·exact⟨hb,⟨v,rfl,h⟩⟩
    ·rw[hb] at x1;cases x1)
   have HB:=Lib.hid (show ∀ (bits:List Bool) (w:World),C0 bits w→bits[1]?=some false→(Instr.loadAt 146 (.pointer (some ⟨ck,0,none⟩))).run Tryz.prog w=.ok (.agg #[.int .u8 (p.1.toNat:Int),.int .u8 (p.2.toNat:Int)]) w from fun bits w h x1=>by
    rw[hC0] at h
    rcases h with⟨hb,h⟩ | ⟨hb,h⟩ | ⟨hb,h⟩
    ·exact loadBx h.2
    ·exact loadBx h.2
    ·rw[hb] at x1;cases x1)
   have HB0:=Lib.hid (show ∀ (bits:List Bool) (w:World),C0 bits w→bits[0]?=some false→(Instr.loadAt 146 (.pointer (some ⟨ck,0,none⟩))).run Tryz.prog w=.ok (.agg #[.int .u8 (p.1.toNat:Int),.int .u8 (p.2.toNat:Int)]) w from fun bits w h x0=>by
    rw[hC0] at h
    rcases h with⟨hb,h⟩ | ⟨hb,h⟩ | ⟨hb,h⟩
    ·exact loadBx h.2
    ·rw[hb] at x0;cases x0
    ·rw[hb] at x0;cases x0)
   have HF:=Lib.hid (show ∀ (bits:List Bool) (w:World),C0 bits w→w.cell? ⟨fk,0,none⟩=some (.string (mkS ifs)) from fun bits w h=>by
    rw[hC0] at h
    rcases h with⟨hb,h⟩ | ⟨hb,h⟩ | ⟨hb,h⟩
    ·exact(cell_row h.1.fb 0).1
    ·exact(cell_row h.1.fb 0).1
    ·obtain⟨_,h⟩:=h;exact(cell_row h.fb 0).1)
   have HG0:=Lib.hid (show ∀ w w',(Inn W0 r1 r2 .busy lb g yk fk bk t m ifs w vo v σ∧w.heap[ck]?=some (.cells #[.int .u8 (p.1.toNat:Int),.int .u8 (p.2.toNat:Int)] 146 (0,0)))→Later w w'→C0 [true,false] w' from fun w w' h hl=>hin1 w' ⟨h.1.later hl,later_cells hl h.2⟩)
   have HG1:=Lib.hid (show ∀ w w' vv v',(vv=v∧(Inn W0 r1 r2 .busy lb g yk fk bk t m ifs w vo v σ∧w.heap[ck]?=some (.cells #[.int .u8 (p.1.toNat:Int),.int .u8 (p.2.toNat:Int)] 146 (0,0))))→Rdr w' g v' now bg af→Fr (But g vv) w w'→Moved w vv v'→C0 [true,true] w' from fun w w' vv v' h hr hf hm=>hin2 w' ⟨v',by obtain⟨rfl,h⟩:=h;exact h.1.read hr hf hm⟩)
   have HO:=Lib.hid (show ∀ w vv,(vv=v∧(Inn W0 r1 r2 .busy lb g yk fk bk t m ifs w vo v σ∧w.heap[ck]?=some (.cells #[.int .u8 (p.1.toNat:Int),.int .u8 (p.2.toNat:Int)] 146 (0,0))))→Calls Tryz.prog 89 #[.pointer (some ⟨g,0,none⟩),.agg #[.int .u8 (p.1.toNat:Int),.int .u8 (p.2.toNat:Int)],.int .i64 (kk:Int)] w (Over w g vv (.bool false) now bg af) from fun w vv h=>by
    obtain⟨rfl,h⟩:=h
    have:=over_v h.1.rd p kk (by rw[HKK.out];exact kindN_lt ifs p) (by have:=HNL.out;have:=HI.out;have:=HLEN.out;omega)
    rw[HKK.out] at this
    rw[←HENDS.out,HNOW.out,HBG.out,HAF.out,HKK.out]
    exact this)
   have HE:=Lib.hid (show ∀ w,C0 [true,true] w→(∃ v2,Inn W0 r1 r2 .busy lb g yk fk bk t m ifs w vo v2 ⟨σ.out,now,bg,af⟩) from fun w h=>by
    rw[hC0] at h
    rcases h with⟨hb,h⟩ | ⟨hb,h⟩ | ⟨hb,h⟩
    ·cases hb
    ·cases hb
    ·exact h)
   clear hC0 hin0 hin1 hin2
   gi_wp2
   refine wpIn_region_bits (Free.round _) (by kernel_rfl) [3,4] (C0) [some (.agg #[.int .u8 (p.1.toNat:Int),.int .u8 (p.2.toNat:Int)]),some (.agg #[.int .u8 (p.1.toNat:Int),.int .u8 (p.2.toNat:Int)]),some (.string (mkS ifs)),some (.int .i64 (kk:Int)),some (.bool false),some (.bool false),some (undef),some (undef),some (undef),some (undef),some (.bool false)] (by decide) (by decide) (by kernel_rfl) (H0.out) ?_ ?_
   ·refine⟨?_,?_,?_,?_,?_,?_,?_,?_,?_,?_,?_,trivial⟩
    ·
     refine OwesI.q (Free.round _) rfl (fun c h=>by cases h) fun a w bits hC hd hu hs=>?_
     refine⟨rfl,?_⟩
     have e5:a.tmps.getD 5 undef=.pointer (some ⟨ck,0,none⟩):=hs.free 5 rfl
     exact ValWp.loadR rfl e5 (HB.out bits w hC (hu 1 4 rfl (.inr rfl))) ⟨rfl,rfl⟩
    ·
     refine OwesI.q (Free.round _) rfl (fun c h=>by cases h) fun a w bits hC hd hu hs=>?_
     refine⟨rfl,?_⟩
     have e5:a.tmps.getD 5 undef=.pointer (some ⟨ck,0,none⟩):=hs.free 5 rfl
     exact ValWp.loadR rfl e5 (HB0.out bits w hC (hu 0 3 rfl (.inr rfl))) ⟨rfl,rfl⟩
    ·
     refine OwesI.q (Free.round _) rfl (fun c h=>by cases h) fun a w bits hC hd hu hs=>?_
     refine⟨rfl,?_⟩
     have e2:a.tmps.getD 2 undef=.pointer (some ⟨fk,0,none⟩):=hs.free 2 rfl
     have q0:=HF.out bits w hC
     refine ValWp.pure (v:=.string (mkS ifs)) (fun K' hK'=>?_) ⟨rfl,rfl⟩
     simp only[ValWp,execOp,Act.eval,e2]
     go_simp
     all_goals exact hK'
    ·
     refine fun a w bits hC hd hu hs=>.inl ?_
     refine⟨rfl,fun K hK=>?_⟩
     have e10:a.tmps.getD 10 undef=.agg #[.int .u8 (p.1.toNat:Int),.int .u8 (p.2.toNat:Int)]:=hs.dep 1 _ rfl rfl
     have e11:a.tmps.getD 11 undef=.string (mkS ifs):=hs.dep 2 _ rfl rfl
     obtain⟨hbits,hj⟩:=HS0.out bits w hC (hu 0 3 rfl (.inl rfl))
     subst hbits
     refine wpIn_of_val (Free.round _) (fun c h=>by cases h) (ValWp.call #[.agg #[.int .u8 (p.1.toNat:Int),.int .u8 (p.2.toNat:Int)],.string (mkS ifs)] rfl rfl Tryz.func90 (by kernel_rfl) rfl (by simp only[List.map_toArray,List.map_cons,List.map_nil,Act.eval,e10,e11]) ((HK.out w).mono ?_))
     rintro e w' ⟨rfl,hl⟩
     exact⟨_,rfl,hK _ _ rfl (HG0.out w w' hj hl)⟩
    ·
     refine fun a w bits hC hd hu hs=>.inl ?_
     refine⟨rfl,fun K hK=>?_⟩
     have e4:a.tmps.getD 4 undef=.pointer (some ⟨g,0,none⟩):=hs.free 4 rfl
     have e9:a.tmps.getD 9 undef=.agg #[.int .u8 (p.1.toNat:Int),.int .u8 (p.2.toNat:Int)]:=hs.dep 0 _ rfl rfl
     have e12:a.tmps.getD 12 undef=.int .i64 (kk:Int):=hs.dep 3 _ rfl rfl
     obtain⟨hbits,vv,hj⟩:=HS1.out bits w hC (hd 0 3 rfl (.inl rfl)) (hu 1 4 rfl (.inl rfl))
     subst hbits
     refine wpIn_of_val (Free.round _) (fun c h=>by cases h) (ValWp.call #[.pointer (some ⟨g,0,none⟩),.agg #[.int .u8 (p.1.toNat:Int),.int .u8 (p.2.toNat:Int)],.int .i64 (kk:Int)] rfl rfl Tryz.func89 (by kernel_rfl) rfl (by simp only[List.map_toArray,List.map_cons,List.map_nil,Act.eval,e4,e9,e12]) ((HO.out w vv hj).mono ?_))
     rintro e w' ⟨rfl,v',hr,hf,hm⟩
     exact⟨_,rfl,hK _ _ rfl (HG1.out w w' vv v' hj hr hf hm)⟩
    ·
     refine OwesI.q (Free.round _) rfl (fun c h=>by cases h) fun a w bits hC hd hu hs=>?_
     refine⟨rfl,?_⟩
     have e13:a.tmps.getD 13 undef=.bool false:=hs.dep 4 _ rfl rfl
     refine ValWp.pure (v:=.bool false) (fun K' hK'=>?_) ⟨rfl,rfl⟩
     simp only[ValWp,execOp,Act.eval,e13]
     go_simp
     all_goals exact hK'
    ·
     refine OwesI.off rfl fun a w hs=>?_
     have e14:a.tmps.getD 14 undef=.bool false:=hs.dep 5 _ rfl rfl
     refine⟨by unfold Region.wanted;dsimp only;rw[yielded_bool (d:=14) rfl e14];rfl,rfl⟩
    ·
     refine OwesI.off rfl fun a w hs=>?_
     have e14:a.tmps.getD 14 undef=.bool false:=hs.dep 5 _ rfl rfl
     refine⟨by unfold Region.wanted;dsimp only;rw[yielded_bool (d:=14) rfl e14];rfl,rfl⟩
    ·
     refine OwesI.off rfl fun a w hs=>?_
     have e14:a.tmps.getD 14 undef=.bool false:=hs.dep 5 _ rfl rfl
     refine⟨by unfold Region.wanted;dsimp only;rw[yielded_bool (d:=14) rfl e14];rfl,rfl⟩
    ·
     refine OwesI.off rfl fun a w hs=>?_
     have e14:a.tmps.getD 14 undef=.bool false:=hs.dep 5 _ rfl rfl
     refine⟨by unfold Region.wanted;dsimp only;rw[yielded_bool (d:=14) rfl e14];rfl,rfl⟩
    ·
     refine OwesI.q (Free.round _) rfl (fun c h=>by cases h) fun a w bits hC hd hu hs=>?_
     refine⟨rfl,?_⟩
     have e14:a.tmps.getD 14 undef=.bool false:=hs.dep 5 _ rfl rfl
     have e18:a.tmps.getD 18 undef=undef:=hs.dep 9 _ rfl rfl
     refine ValWp.pure (v:=.bool false) (fun K' hK'=>?_) ⟨rfl,rfl⟩
     simp only[ValWp,execOp,Act.eval,e14,e18]
     go_simp
     all_goals exact hK'
   ·intro a w hC hd hsz hfree hs
    obtain⟨u0,u1,u2,u3,u4,u5,u6,u7,u8,u9,u10,u11,u12,u13,u14,u15,u16,u17,u18,z19,u20,u21,u22,u23,u24,hal⟩:=lets a 25 0
    obtain rfl:=hal.on (v:=.bool false) 19 (hs 10 _ rfl) rfl
    have hlit:=fun h=>act_litD hd h hal
    rw[hlit hsz]
    clear hlit hal hd hsz hfree hs
    have hE:=HE.out w hC
    clear hC
    obtain⟨v4,hE⟩:=hE
    have HEE:=Lib.hid hE
    clear hE
    gi_wp2
    refine⟨HEE.out.at2,fun w' ht h2=>⟨rfl,vo,v4,?_⟩⟩
    rw[HST.out]
    exact HEE.out.turn ht h2
 case done=>
  rintro e W2 ⟨⟨v0,rfl⟩,vo,v,hin⟩
  rw[List.take_of_length_le (Nat.le_refl _)] at hin
  have hln:=run_len ifs (t.zip m) (t.zip m).length (Nat.le_refl _)
  rw[List.take_of_length_le (Nat.le_refl _)] at hln
  have HSP:=Lib.hid (show split ifs (t.zip m)=fin (run ifs (t.zip m)) from rfl)
  obtain⟨σ,hσ⟩:∃ σ,σ=run ifs (t.zip m):=⟨_,rfl⟩
  rw[←hσ] at hin hln HSP
  refine⟨⟨_,rfl⟩,.ready,none,hin.at2,by simp,fun W3 ht hX=>?_⟩
  have hi3:=hin.turn ht hX
  obtain⟨out,now,bg,af⟩:=σ
  simp only at hln
  have HIN:=Lib.hid hi3
  have hcb:W3.cell? ⟨g,1,none⟩=some (.bool bg):=(cell_row hi3.rd.box 1).1
  have HNL:=Lib.hid hln
  have HLEN:=Lib.hid hlen
  have HDD:=Lib.hid hD
  clear hi3 hin ht hX hrr hps hat hb1 hinn hs1 hs2 hs3 hs4 hs5 hs6 hz1 hl1 hσ hln hlen hg hyk hbk hD
  dsimp only
  cases bg with
  | false=>
   rw[show fin ⟨out,now,false,af⟩=out from rfl] at HSP
   gi_wp2
   have hK:=HIN.out.at2.2
   refine⟨by simp,.inl ⟨_,_,rfl,run_takeDeferred hK,?_⟩⟩
   refine⟨_,results_none rfl _ _ _,⟨_,rfl⟩,vo,?_⟩
   rw[HSP.out]
   exact HIN.out.o.shut hK HIN.out.dd
  | true=>
   rw[show fin ⟨out,now,true,af⟩=out++[now] from rfl] at HSP
   obtain⟨C0,hC0⟩:∃ C0:List Bool→World→Prop,C0=fun bits w=>(bits=[false,false]∧(Inn W0 r1 r2 .exhausted lb g yk fk bk t m ifs w vo v ⟨out,now,true,af⟩))∨(bits=[true,false]∧(∃ v3,Inn W0 r1 r2 .exhausted lb g yk fk bk t m ifs w vo v3 ⟨out,[],false,af⟩))∨(bits=[true,true]∧(∃ vo4 v4,Inn W0 r1 r2 .exhausted lb g yk fk bk t m ifs w vo4 v4 ⟨out++[now],[],false,af⟩)):=⟨_,rfl⟩
   have H0:=Lib.hid (show C0 [false,false] W3.drew by rw[hC0];exact .inl ⟨rfl,HIN.out.later (Later.drew _)⟩)
   have HS2:=Lib.hid (show ∀ (bits:List Bool) (w:World),C0 bits w→bits[0]?=some false→bits=[false,false]∧∃ vv,vv=v∧(Inn W0 r1 r2 .exhausted lb g yk fk bk t m ifs w vo v ⟨out,now,true,af⟩) from fun bits w h x=>by
    rw[hC0] at h
    rcases h with⟨hb,h⟩ | ⟨hb,h⟩ | ⟨hb,h⟩
    ·exact⟨hb,v,rfl,h⟩
    ·rw[hb] at x;cases x
    ·rw[hb] at x;cases x)
   have HS3:=Lib.hid (show ∀ (bits:List Bool) (w:World),C0 bits w→bits[0]?=some true→bits[1]?=some false→bits=[true,false]∧∃ vo9 v3,vo9=vo∧Inn W0 r1 r2 .exhausted lb g yk fk bk t m ifs w vo9 v3 ⟨out,[],false,af⟩ from fun bits w h x x2=>by
    rw[hC0] at h
    rcases h with⟨hb,h⟩ | ⟨hb,h⟩ | ⟨hb,h⟩
    ·rw[hb] at x;cases x
    ·obtain⟨v3,h⟩:=h;exact⟨hb,vo,v3,rfl,h⟩
    ·rw[hb] at x2;cases x2)
   have HYB:=Lib.hid (show ∀ (bits:List Bool) (w:World),C0 bits w→w.cell? ⟨yk,0,none⟩=some (.func (.yield (r1.D+1)) #[] #[]) from fun bits w h=>by
    rw[hC0] at h
    rcases h with⟨hb,h⟩ | ⟨hb,_,h⟩ | ⟨hb,_,_,h⟩ <;> exact(cell_row h.yb 0).1)
   have HT:=Lib.hid (show ∀ w vv,(vv=v∧(Inn W0 r1 r2 .exhausted lb g yk fk bk t m ifs w vo v ⟨out,now,true,af⟩))→Calls Tryz.prog 91 #[.pointer (some ⟨g,0,none⟩)] w (Over w g vv (.agg #[.string (mkS (ft now)),.string (mkS (fm now))]) [] false af) from fun w vv h=>by obtain⟨rfl,h⟩:=h;exact take_v h.rd (by have:=HNL.out;have:=HLEN.out;omega))
   have HG2:=Lib.hid (show ∀ w w' vv v',(vv=v∧(Inn W0 r1 r2 .exhausted lb g yk fk bk t m ifs w vo v ⟨out,now,true,af⟩))→Rdr w' g v' [] false af→Fr (But g vv) w w'→Moved w vv v'→C0 [true,false] w' from fun w w' vv v' h hr hf hm=>by rw[hC0];obtain⟨rfl,h⟩:=h;exact .inr (.inl ⟨rfl,v',h.read hr hf hm⟩))
   have HY:=Lib.hid (show ∀ w vo9 v3,(vo9=vo∧Inn W0 r1 r2 .exhausted lb g yk fk bk t m ifs w vo9 v3 ⟨out,[],false,af⟩)→YieldAt Fence.wide 3 Tryz.prog (r1.D+1) #[.agg #[.string (mkS (ft now)),.string (mkS (fm now))]] w fun e W'=>e=.returned (.bool true)∧∃ vo',OutSt W0 r1 lb W' vo' (out++[now])∧Fr (ButO r1 lb vo9) w W'∧Moved w vo9 vo' from fun w vo9 v3 h=>HYY.out out vo9 now w h.2.o (by have:=HNL.out;have:=HLEN.out;omega))
   have HG3:=Lib.hid (show ∀ w w' vo9 vo2 v3,(vo9=vo∧Inn W0 r1 r2 .exhausted lb g yk fk bk t m ifs w vo9 v3 ⟨out,[],false,af⟩)→OutSt W0 r1 lb w' vo2 (out++[now])→Fr (ButO r1 lb vo9) w w'→Moved w vo9 vo2→C0 [true,true] w' from fun w w' vo9 vo2 v3 h ho hf hm=>by rw[hC0];exact .inr (.inr ⟨rfl,vo2,v3,h.2.told ho hf hm⟩))
   have HE:=Lib.hid (show ∀ w,C0 [true,true] w→(∃ vo4 v4,Inn W0 r1 r2 .exhausted lb g yk fk bk t m ifs w vo4 v4 ⟨out++[now],[],false,af⟩) from fun w h=>by
    rw[hC0] at h
    rcases h with⟨hb,h⟩ | ⟨hb,h⟩ | ⟨hb,h⟩
    ·cases hb
    ·cases hb
    ·exact h)
   clear hC0
   gi_wp2
   refine wpIn_region_bits (Free.wide) (by kernel_rfl) [1,2] (C0) [some (.func (.yield (r1.D+1)) #[] #[]),some (.agg #[.string (mkS (ft now)),.string (mkS (fm now))]),some (.bool true)] (by decide) (by decide) (by kernel_rfl) (H0.out) ?_ ?_
   ·refine⟨?_,?_,?_,trivial⟩
    ·
     refine OwesI.q (Free.wide) rfl (fun c h=>by cases h) fun a w bits hC hd hu hs=>?_
     refine⟨rfl,?_⟩
     have e3:a.tmps.getD 3 undef=.pointer (some ⟨yk,0,none⟩):=hs.free 3 rfl
     have q0:=HYB.out bits w hC
     refine ValWp.pure (v:=.func (.yield (r1.D+1)) #[] #[]) (fun K' hK'=>?_) ⟨rfl,rfl⟩
     simp only[ValWp,execOp,Act.eval,e3]
     go_simp
     all_goals exact hK'
    ·
     refine fun a w bits hC hd hu hs=>.inl ?_
     refine⟨rfl,fun K hK=>?_⟩
     have e4:a.tmps.getD 4 undef=.pointer (some ⟨g,0,none⟩):=hs.free 4 rfl
     obtain⟨hbits,vv,hj⟩:=HS2.out bits w hC (hu 0 1 rfl (.inl rfl))
     subst hbits
     refine wpIn_of_val (Free.wide) (fun c h=>by cases h) (ValWp.call #[.pointer (some ⟨g,0,none⟩)] rfl rfl Tryz.func91 (by kernel_rfl) rfl (by simp only[List.map_toArray,List.map_cons,List.map_nil,Act.eval,e4]) ((HT.out w vv hj).mono ?_))
     rintro e w' ⟨rfl,v',hr,hf,hm⟩
     exact⟨_,rfl,hK _ _ rfl (HG2.out w w' vv v' hj hr hf hm)⟩
    ·
     refine fun a w bits hC hd hu hs=>.inl ?_
     refine⟨rfl,fun K hK=>?_⟩
     have e22:a.tmps.getD 22 undef=.func (.yield (r1.D+1)) #[] #[]:=hs.dep 0 _ rfl rfl
     have e23:a.tmps.getD 23 undef=.agg #[.string (mkS (ft now)),.string (mkS (fm now))]:=hs.dep 1 _ rfl rfl
     obtain⟨hbits,vo',vv,hj⟩:=HS3.out bits w hC (hd 0 1 rfl (.inl rfl)) (hu 1 2 rfl (.inl rfl))
     subst hbits
     refine wpIn_of_yield (Free.wide) (args:=#[.agg #[.string (mkS (ft now)),.string (mkS (fm now))]]) rfl e22 (by simp only[List.map_toArray,List.map_cons,List.map_nil,Act.eval,e23]) ((HY.out w vo' vv hj).mono ?_)
     rintro e w' ⟨rfl,vo2,ho2,hf2,hm2⟩
     exact⟨_,rfl,hK _ _ rfl (HG3.out w w' vo' vo2 vv hj ho2 hf2 hm2)⟩
   ·intro a w hC hd hsz hfree hs
    obtain⟨u0,u1,u2,u3,u4,u5,u6,u7,u8,u9,u10,u11,u12,u13,u14,u15,u16,u17,u18,u19,u20,u21,u22,u23,u24,hal⟩:=lets a 25 0
    have hlit:=fun h=>act_litD hd h hal
    rw[hlit hsz]
    clear hlit hal hd hsz hfree hs
    have hE:=HE.out w hC
    clear hC
    obtain⟨vo4,v4,hE⟩:=hE
    have HEE:=Lib.hid hE
    clear hE
    gi_wp2
    have hK:=HEE.out.at2.2
    refine⟨by simp,.inl ⟨_,_,rfl,run_takeDeferred hK,?_⟩⟩
    refine⟨_,results_none rfl _ _ _,⟨_,rfl⟩,vo4,?_⟩
    rw[HSP.out]
    exact HEE.out.o.shut hK HEE.out.dd
end
end Jo
end Go.Proofs.YtipdgmjplnibeaaGreatDoor
