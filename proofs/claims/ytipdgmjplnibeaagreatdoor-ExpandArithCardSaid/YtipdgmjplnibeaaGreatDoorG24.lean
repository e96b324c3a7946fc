import Derived.Test.YtipdgmjplnibeaaGreatDoorG23
import Derived.Test.YtipdgmjplnibeaaGreatDoorG05
import Derived.JoinedCond
set_option maxRecDepth 100000
set_option maxHeartbeats 3200000
namespace Go.Proofs.YtipdgmjplnibeaaGreatDoor
open Go.RowKit Go.Maps
set_option maxRecDepth 100000
namespace En
theorem Tx.keep {w w':World} {base:Nat} {v:Value} {l:List B} {row:Option Nat} (h:Tx w base v l) (hg:w.grownBy w' row) (hne:∀ _:w.ownsRow base 9 1 v l.length (svs l),v.ownBlock=none∨v.ownBlock≠row):Tx w' base v l:=by
 obtain⟨A,c,rfl,h1,h2,h3⟩:=h
 exact⟨A,c,rfl,h1,h2,h3.imp id fun ho=>ho.kept hg (hne ho)⟩
theorem Tx.later {w w':World} {base:Nat} {v:Value} {l:List B} (h:Tx w base v l) (hl:Later w w'):Tx w' base v l:=h.keep (grown_of_later hl none) fun _=>by cases v.ownBlock <;> simp
structure Aw (W wr:World) (ab a2 a3:Value) (args:List B) (v:Value) (l:Vs):Prop where
 low:Later W wr
 bx:wr.heap[W.heap.size]?=some (.cells #[v,ab,a2,a3] 28 (0,0))
 rs:wr.heap[W.heap.size+1]?=some (.cells #[.slice none 0 0,.slice none 0 0,.int .i64 0,.string ⟨#[]⟩] 28 (0,0))
 own:wr.ownsRow (W.heap.size+2) 65 2 v l.length (prs l)
 tx:Tx wr (W.heap.size+2) ab args
theorem Aw.later {W wr wr':World} {ab a2 a3 v:Value} {args:List B} {l:Vs} (h:Aw W wr ab a2 a3 args v l) (hl:Later wr wr'):Aw W wr' ab a2 a3 args v l:=
 ⟨h.low.trans hl,later_cells hl h.bx,later_cells hl h.rs,h.own.kept (grown_of_later hl none) (by cases v.ownBlock <;> simp),h.tx.later hl⟩
theorem Aw.push {W wr wr':World} {ab a2 a3 v v':Value} {args:List B} {l m:Vs} (h:Aw W wr ab a2 a3 args v l) (hg:GrewK wr wr' (W.heap.size+2) 65 2 v v' (l.length+m.length) (prs l++prs m)) :
  wr'.heap[W.heap.size]?=some (.cells #[v,ab,a2,a3] 28 (0,0))∧Aw W (wr'.setCell ⟨W.heap.size,0,none⟩ v') ab a2 a3 args v' (l++m):=by
 have kp:∀ {k:Nat} {o:Obj},k<W.heap.size+2→wr.heap[k]?=some o→wr'.heap[k]?=some o:=fun hk ho=>(hg.grown.block _ (lt_of_block ho) (fun e=>by have:=(own_ge h.own e.symm).1;omega)).trans ho
 have hb:=kp (by omega) h.bx
 have hr:=kp (by omega) h.rs
 have hlow:Later W wr':=⟨hg.grown.os.trans h.low.os,hg.grown.tape.trans h.low.tape,hg.grown.output.trans h.low.output,Nat.le_trans h.low.size hg.grown.size,fun k hk=>(hg.grown.block k (Nat.lt_of_lt_of_le hk h.low.size) fun e=>by have:=(own_ge h.own e.symm).1;omega).trans (h.low.block k hk)⟩
 have hset:=set_only wr' W.heap.size 0 v'
 refine⟨hb,later_of_new hlow hset (Nat.le_refl _),set_row hb 0 v',grown_cells hset hr (by omega),?_,?_⟩
 ·rw[prs_app,List.length_append]
  refine hg.own.kept hset (.inr fun e=>?_)
  have:=(own_ge hg.own e).1;omega
 ·have t1:Tx wr' (W.heap.size+2) ab args:=h.tx.keep hg.grown fun ho=>apart_types ho h.own (by decide)
  exact t1.keep hset fun ho=>.inr fun e=>by have:=(own_ge ho e).1;omega
theorem Aw.tell {W wr:World} {ab a2 a3 v:Value} {args:List B} {l:Vs} (h:Aw W wr ab a2 a3 args v l):∃ wr',wr'=(((wr.setCell ⟨W.heap.size+1,0,none⟩ v).setCell ⟨W.heap.size+1,1,none⟩ ab).setCell ⟨W.heap.size+1,2,none⟩ a2).setCell ⟨W.heap.size+1,3,none⟩ a3∧Later W wr'∧wr'.heap[W.heap.size+1]?=some (.cells #[v,ab,a2,a3] 28 (0,0))∧wr'.ownsRow (W.heap.size+2) 65 2 v l.length (prs l)∧Tx wr' (W.heap.size+2) ab args:=by
 have g1:=set_only wr (W.heap.size+1) 0 v
 have g2:=set_only (wr.setCell ⟨W.heap.size+1,0,none⟩ v) (W.heap.size+1) 1 ab
 have g3:=set_only ((wr.setCell ⟨W.heap.size+1,0,none⟩ v).setCell ⟨W.heap.size+1,1,none⟩ ab) (W.heap.size+1) 2 a2
 have g4:=set_only (((wr.setCell ⟨W.heap.size+1,0,none⟩ v).setCell ⟨W.heap.size+1,1,none⟩ ab).setCell ⟨W.heap.size+1,2,none⟩ a2) (W.heap.size+1) 3 a3
 have hn:v.ownBlock≠some (W.heap.size+1):=fun e=>by have:=(own_ge h.own e).1;omega
 have ht:∀ {w:World} (ho:w.ownsRow (W.heap.size+2) 9 1 ab args.length (svs args)),ab.ownBlock≠some (W.heap.size+1):=fun ho e=>by have:=(own_ge ho e).1;omega
 refine⟨_,rfl,?_,?_,?_,?_⟩
 ·exact later_of_new (later_of_new (later_of_new (later_of_new h.low g1 (by omega)) g2 (by omega)) g3 (by omega)) g4 (by omega)
 ·exact set_row (set_row (set_row (set_row h.rs 0 v) 1 ab) 2 a2) 3 a3
 ·exact((((h.own.kept g1 (.inr hn)).kept g2 (.inr hn)).kept g3 (.inr hn)).kept g4 (.inr hn))
 ·exact(((h.tx.keep g1 fun ho=>.inr (ht ho)).keep g2 fun ho=>.inr (ht ho)).keep g3 fun ho=>.inr (ht ho)).keep g4 fun ho=>.inr (ht ho)
theorem results_Env {fn:Func} {p:Tmp} (h:fn.results=#[.cell p 28]) (tmps:Array Value) (w:World) (g:Nat) (cs:Array Value) (fr:Nat×Nat) (hp:tmps.getD p undef=.pointer (some ⟨g,0,none⟩)) (hg:w.heap[g]?=some (.cells cs 28 fr)) (hs:cs.size=4):(results fn tmps).run Tryz.prog w=.ok (.agg cs) w:=
 results_cell_row h tmps w g _ cs fr _ hp hg Tryz.underlying28 rfl (by rw[hs];kernel_rfl)
theorem own_move {w w':World} {base size n:Nat} {t:TypeId} {v:Value} {xs:List Value} (h:w.ownsRow base t size v n xs) (hk:∀ k,base≤k→k<w.heap.size→w'.heap[k]?=w.heap[k]?):w'.ownsRow base t size v n xs:=by
 refine⟨h.1,h.2.imp id ?_⟩
 rintro⟨g,cap,cur,e,hb,hh,hr⟩
 exact⟨g,cap,cur,e,hb,(hk g hb (lt_of_block hh)).trans hh,hr⟩
theorem Tx.move {w w':World} {base:Nat} {v:Value} {l:List B} (h:Tx w base v l) (hk:∀ k,base≤k→k<w.heap.size→w'.heap[k]?=w.heap[k]?):Tx w' base v l:=by
 obtain⟨A,c,rfl,h1,h2,h3⟩:=h
 exact⟨A,c,rfl,h1,h2,h3.imp id fun ho=>own_move ho hk⟩
def FrE (base:Nat) (w:World) (v:Value) (e:E):Prop:=∀ w':World,w.heap.size≤w'.heap.size→(∀ k,base≤k→k<w.heap.size→w'.heap[k]?=w.heap[k]?)→RdE w' v e
theorem FrE.rd {base:Nat} {w:World} {v:Value} {e:E} (h:FrE base w v e):RdE w v e:=h w (Nat.le_refl _) fun _ _ _=>rfl
theorem FrE.less {base base':Nat} {w:World} {v:Value} {e:E} (h:FrE base w v e) (hb:base'≤base):FrE base' w v e:=fun w' h1 h2=>h w' h1 fun k hk=>h2 k (Nat.le_trans hb hk)
theorem FrE.later {base:Nat} {w w1:World} {v:Value} {e:E} (h:FrE base w v e) (hl:Later w w1):FrE base w1 v e:=fun w' h1 h2=>h w' (Nat.le_trans hl.size h1) fun k hk hk2=>(h2 k hk (Nat.lt_of_lt_of_le hk2 hl.size)).trans (hl.block k hk2)
theorem FrE.set {base:Nat} {w w1:World} {v:Value} {e:E} {x:Nat} (h:FrE base w v e) (hg:w.grownBy w1 (some x)) (hx:x<base):FrE base w1 v e:=fun w' h1 h2=>h w' (Nat.le_trans hg.size h1) fun k hk hk2=>(h2 k hk (Nat.lt_of_lt_of_le hk2 hg.size)).trans (hg.block k hk2 (fun e=>by injection e with e;omega))
def Told (W W':World) (x:Ending) (e:E):Prop:=(∃ v,x=.returned v∧FrE W.heap.size W' v e)∧Later W W'
theorem fre_of {w:World} {base:Nat} {v ab:Value} {args:List B} {l:Vs} {st:Nat} {fl:B} (hv:w.ownsRow base 65 2 v l.length (prs l)) (ht:Tx w base ab args):FrE base w (.agg #[v,ab,.int .i64 (st:Int),.string (mkS fl)]) ⟨l,args,st,fl⟩:=by
 intro w' h1 h2
 obtain⟨A,c,rfl,h3,h4,h5⟩:=(ht.move h2).rd
 exact⟨v,A,args.length,c,rfl,RdP.of_own (own_move hv h2),h5,h3,h4⟩
theorem Aw.begin {W w3:World} {base:Nat} {a0 a1 a2 a3 ab:Value} {args:List B} (hl:Later W w3) (hbx:w3.heap[W.heap.size]?=some (.cells #[a0,a1,a2,a3] 28 (0,0))) (hrs:w3.heap[W.heap.size+1]?=some (.cells #[.slice none 0 0,.slice none 0 0,.int .i64 0,.string ⟨#[]⟩] 28 (0,0))) (ht:Tx w3 base ab args) (hB:base=W.heap.size+2) :
  ∃ w4,w4=(w3.setCell ⟨W.heap.size,0,none⟩ (.slice none 0 0)).setCell ⟨W.heap.size,1,none⟩ ab∧Aw W w4 ab a2 a3 args (.slice none 0 0) []:=by
 subst hB
 have g1:=set_only w3 W.heap.size 0 (.slice none 0 0)
 have g2:=set_only (w3.setCell ⟨W.heap.size,0,none⟩ (.slice none 0 0)) W.heap.size 1 ab
 refine⟨_,rfl,later_of_new (later_of_new hl g1 (Nat.le_refl _)) g2 (Nat.le_refl _),set_row (set_row hbx 0 _) 1 _,grown_cells g2 (grown_cells g1 hrs (by omega)) (by omega),World.ownsRow_nil _ _ _ _,?_⟩
 exact(ht.keep g1 fun ho=>.inr fun e=>by have:=(own_ge ho e).1;omega).keep g2 fun ho=>.inr fun e=>by have:=(own_ge ho e).1;omega
theorem with_v (va lv:Value) (e:E) (ls:Vs) (W:World) (h:RdE W va e) (hls:RdP W W.heap.size lv ls) (hn:ls.length≤1000000) (ha:e.args.length≤1000000):Calls Tryz.prog 32 #[va,lv] W fun x W'=>Told W W' x { e with vars:=ls }:=by
 obtain⟨v0,A,n,c,rfl,hv,hr,hc1,hc2⟩:=h
 obtain⟨A0,c0,rfl,hcv0,hcw0,_⟩:=hv.le
 obtain⟨Al,cl,rfl,hcl,hcw,_⟩:=hls.le
 obtain⟨n0,hn0⟩:∃ n0,n0=e.vars.length:=⟨_,rfl⟩
 obtain⟨st,hst⟩:∃ st,st=e.status:=⟨_,rfl⟩
 obtain⟨fl,hfl⟩:∃ fl,fl=mkS e.flags:=⟨_,rfl⟩
 have HE:=Lib.hid (And.intro hst hfl)
 rw[←hn0,←hst,←hfl]
 have HCL:=Lib.hid (show ∀ W',Later W W'→Calls Tryz.prog 62 #[.slice A n c] W' fun e' W''=>(∃ v,e'=.returned v∧Tx W'' W'.heap.size v e.args)∧Later W' W'' from fun W' hl=>clone_v A n c e.args W' ((hr.below hl).more hl.size) ha)
 obtain⟨m,hm⟩:∃ m,m=ls.length:=⟨_,rfl⟩
 have HM:=Lib.hid hm
 have HN:=Lib.hid hn
 have HLS:=Lib.hid hls
 rw[←hm] at hcl⊢
 have HL2:=Lib.hid (show Later W ((W.alloc (.cells #[.slice A0 n0 c0,.slice A n c,.int .i64 (st:Int),.string fl] 28)).alloc (.cells #[.slice none 0 0,.slice none 0 0,.int .i64 0,.string ⟨#[]⟩] 28)) from(Later.alloc _ _).trans (Later.alloc _ _))
 have HB2:=Lib.hid (show ((W.alloc (.cells #[.slice A0 n0 c0,.slice A n c,.int .i64 (st:Int),.string fl] 28)).alloc (.cells #[.slice none 0 0,.slice none 0 0,.int .i64 0,.string ⟨#[]⟩] 28)).heap[W.heap.size]?=some (.cells #[.slice A0 n0 c0,.slice A n c,.int .i64 (st:Int),.string fl] 28 (0,0)) from later_cells (Later.alloc _ _) (heap_alloc_new W _))
 have hr2:=heap_alloc_new (W.alloc (.cells #[.slice A0 n0 c0,.slice A n c,.int .i64 (st:Int),.string fl] 28)) (.cells #[.slice none 0 0,.slice none 0 0,.int .i64 0,.string ⟨#[]⟩] 28)
 rw[World.size_alloc] at hr2
 have HR2:=Lib.hid hr2
 have HSZ:=Lib.hid (show ((W.alloc (.cells #[.slice A0 n0 c0,.slice A n c,.int .i64 (st:Int),.string fl] 28)).alloc (.cells #[.slice none 0 0,.slice none 0 0,.int .i64 0,.string ⟨#[]⟩] 28)).heap.size=W.heap.size+2 by rw[World.size_alloc,World.size_alloc])
 clear hv hr hc1 hc2 hcv0 hcw0 hls hcw hn0 hst hfl hm hn ha hr2
 go_enter Tryz.func32,Tryz.ntmps32
 go_wp2_with (go_at_call 62;(with_reducible refine(HCL.out _ HL2.out).mono ?_);rintro x w3 ⟨⟨ab,rfl,htx⟩,hl3⟩;(have HT3:=Lib.hid htx);obtain⟨A',c',rfl,_,_,_⟩:=htx;(have HL3:=Lib.hid hl3);(have hbx:=later_cells hl3 HB2.out);(have b0:w3.cell? ⟨W.heap.size,0,none⟩=some (.slice A0 n0 c0):=(cell_row hbx 0).1);(have b1:w3.cell? ⟨W.heap.size,1,none⟩=some (.slice A n c):=(cell_row hbx 1).1);(have z0:=fun i=>(cell_row hbx i).2);clear hl3 hbx)
 obtain⟨n1,hn1⟩:∃ n1,n1=e.args.length:=⟨_,rfl⟩
 rw[←hn1] at HT3⊢
 have HN1:=Lib.hid hn1
 obtain⟨w4,hw4,haw⟩:=Aw.begin (HL2.out.trans HL3.out) (later_cells HL3.out HB2.out) (later_cells HL3.out HR2.out) HT3.out HSZ.out
 rw[←hw4]
 have HA4:=Lib.hid haw
 obtain⟨i0,hif,hz0,hz1,hz2⟩:=info_parts info_Var
 clear b0 b1 z0 hw4 haw hn1
 go_loopw [14] (fun s14 wr=>∃ (i:Nat) (v:Value),s14=.int .i64 (i:Int)∧i≤m∧Aw W wr (.slice A' n1 c') (.int .i64 (st:Int)) (.string fl) e.args v (ls.take i)) (fun i _=>m-(intOf i).toNat)
 case atStart=>exact⟨0,_,rfl,Nat.zero_le _,by rw[List.take_zero];exact HA4.out⟩
 case round=>
  obtain⟨i,v,rfl,hi,haw⟩:=hrel
  obtain⟨Av,cv,rfl,_⟩:=own_any haw.own
  have HTL:=Lib.hid (show (ls.take i).length=i by rw[List.length_take,←HM.out];omega)
  rw[HTL.out] at haw
  have HA:=Lib.hid haw
  have hi0:(0:Int)≤(i:Int):=by omega
  have hm6:m≤1000000:=by rw[HM.out];exact HN.out
  clear haw
  by_cases hlt:i<m
  ·have hi1:(i:Int)<(m:Int):=by omega
   obtain⟨g,o,c9,e1,hg,hcc⟩:=HLS.out.at_ (by rw[←HM.out];omega)
   injection e1 with e1 _ e2
   subst e1 e2
   have hlt2:i<ls.length:=by rw[←HM.out];exact hlt
   obtain⟨x,hx⟩:∃ x,x=ls[i]:=⟨_,rfl⟩
   have p1:=(HA.out.low.cell (p:=⟨g,o+i*2,none⟩) hg).trans (hcc i hlt2).1
   have p2:=(HA.out.low.cell (p:=⟨g,o+i*2+1,none⟩) hg).trans (hcc i hlt2).2
   rw[←hx] at p1 p2
   have HLD:=Lib.hid (load_mid 72 _ Tryz.underlying72 (by kernel_rfl) p1 p2)
   have HST:=Lib.hid (show ls.take (i+1)=ls.take i++[x] by rw[hx,List.take_succ_eq_append_getElem hlt2])
   have HA3:=Lib.hid (HA.out.later (Later.alloc wr (.cells #[.string (mkS x.1),.string (mkS x.2)] 72)))
   have b0:(wr.alloc (.cells #[.string (mkS x.1),.string (mkS x.2)] 72)).cell? ⟨W.heap.size,0,none⟩=some (.slice Av i cv):=(cell_row HA3.out.bx 0).1
   have hown:=HA3.out.own
   rw[HTL.out] at hown
   have HOW:=Lib.hid hown
   clear hown
   have HBS:=Lib.hid (show W.heap.size+2≤(wr.alloc (.cells #[.string (mkS x.1),.string (mkS x.2)] 72)).heap.size from lt_of_block HA3.out.rs)
   clear hcc hg hx p1 p2 hlt2
   go_wp2_with (first
    |(refine wpList_loadRun rfl 72 (.tmp 16) rfl _ _ rfl HLD.out ?_)
    |(at_builtin;refine wpList_appK _ #[.string (mkS x.1),.string (mkS x.2)] 2 (by omega) rfl (by intro u hu;simp at hu;rcases hu with rfl | rfl <;> rfl) rfl (.tmp 19) (.tmp 21) 26 65 rfl i0 _ 32 Tryz.underlying26 hif hz0 hz1 hz2 rfl (W.heap.size+2) (.slice Av i cv) i (prs (ls.take i)) rfl HOW.out (wr.heap.size+1) (by rw[World.size_alloc]) rfl (by omega) (by omega) HBS.out ?_;intro v3 w3 hg3;obtain⟨A9,c9,hv9,_⟩:=own_any hg3.own;subst hv9;obtain⟨hb9,hp9⟩:=HA3.out.push (m:=[x]) (by rw[HTL.out];exact hg3);(have HP:=Lib.hid hp9);(have b9:w3.cell? ⟨W.heap.size,0,none⟩=some (.slice Av i cv):=(cell_row hb9 0).1);(have z9:=fun i=>(cell_row hb9 i).2);clear hg3 hb9 hp9))
   go_roundw
   case rel=>exact⟨i+1,_,by go_num,by omega,by rw[HST.out];exact HP.out⟩
   case measure=>simp[intOf];omega
  ·have hin:i=m:=by omega
   have hfull:ls.take i=ls:=by rw[hin,HM.out,List.take_length]
   have hA5:=HA.out
   rw[hfull] at hA5
   have HA5:=Lib.hid hA5
   have b0:wr.cell? ⟨W.heap.size,0,none⟩=some (.slice Av i cv):=(cell_row hA5.bx 0).1
   have b1:wr.cell? ⟨W.heap.size,1,none⟩=some (.slice A' n1 c'):=(cell_row hA5.bx 1).1
   have b2:wr.cell? ⟨W.heap.size,2,none⟩=some (.int .i64 (st:Int)):=(cell_row hA5.bx 2).1
   have b3:wr.cell? ⟨W.heap.size,3,none⟩=some (.string fl):=(cell_row hA5.bx 3).1
   have r0:wr.cell? ⟨W.heap.size+1,0,none⟩=some (.slice none 0 0):=(cell_row hA5.rs 0).1
   have r1:wr.cell? ⟨W.heap.size+1,1,none⟩=some (.slice none 0 0):=(cell_row hA5.rs 1).1
   have r2:wr.cell? ⟨W.heap.size+1,2,none⟩=some (.int .i64 0):=(cell_row hA5.rs 2).1
   have r3:wr.cell? ⟨W.heap.size+1,3,none⟩=some (.string ⟨#[]⟩):=(cell_row hA5.rs 3).1
   have z0:=fun i=>(cell_row hA5.bx i).2
   have z1:=fun i=>(cell_row hA5.rs i).2
   clear hA5 hfull hin
   go_wp2
   obtain⟨w9,hw9,hl9,hr9,hv9,ht9⟩:=HA5.out.tell
   rw[←hw9]
   refine bodyPost_ret (results_Env rfl _ _ (W.heap.size+1) _ (0,0) rfl hr9 rfl) rfl ?_
   obtain⟨hs1,hf1⟩:=HE.out
   refine⟨⟨_,rfl,?_⟩,hl9⟩
   have:=fre_of (st:=e.status) (fl:=e.flags) hv9 ht9
   rw[←hs1,←hf1] at this
   exact this.less (by omega)
end En
end Go.Proofs.YtipdgmjplnibeaaGreatDoor
namespace Go.Proofs.YtipdgmjplnibeaaGreatDoor
open Go.RowKit Go.Maps
namespace En
structure Bx (W w:World) (b0 b1 b2 b3:Value):Prop where
 low:Later W w
 bx:w.heap[W.heap.size]?=some (.cells #[b0,b1,b2,b3] 28 (0,0))
 rs:w.heap[W.heap.size+1]?=some (.cells #[.slice none 0 0,.slice none 0 0,.int .i64 0,.string ⟨#[]⟩] 28 (0,0))
theorem Bx.new (W:World) (b0 b1 b2 b3:Value):Bx W ((W.alloc (.cells #[b0,b1,b2,b3] 28)).alloc (.cells #[.slice none 0 0,.slice none 0 0,.int .i64 0,.string ⟨#[]⟩] 28)) b0 b1 b2 b3:=by
 have h:=heap_alloc_new (W.alloc (.cells #[b0,b1,b2,b3] 28)) (.cells #[.slice none 0 0,.slice none 0 0,.int .i64 0,.string ⟨#[]⟩] 28)
 rw[World.size_alloc] at h
 exact⟨(Later.alloc _ _).trans (Later.alloc _ _),later_cells (Later.alloc _ _) (heap_alloc_new W _),h⟩
theorem Bx.later {W w w':World} {b0 b1 b2 b3:Value} (h:Bx W w b0 b1 b2 b3) (hl:Later w w'):Bx W w' b0 b1 b2 b3:=⟨h.low.trans hl,later_cells hl h.bx,later_cells hl h.rs⟩
theorem drew_later (w:World):Later w w.drew:=Later.drew w
theorem Bx.c {W w:World} {b0 b1 b2 b3:Value} (h:Bx W w b0 b1 b2 b3):w.cell? ⟨W.heap.size,0,none⟩=some b0∧w.cell? ⟨W.heap.size,1,none⟩=some b1∧w.cell? ⟨W.heap.size,2,none⟩=some b2∧w.cell? ⟨W.heap.size,3,none⟩=some b3:=
 ⟨(cell_row h.bx 0).1,(cell_row h.bx 1).1,(cell_row h.bx 2).1,(cell_row h.bx 3).1⟩
theorem Bx.r {W w:World} {b0 b1 b2 b3:Value} (h:Bx W w b0 b1 b2 b3):w.cell? ⟨W.heap.size+1,0,none⟩=some (.slice none 0 0)∧w.cell? ⟨W.heap.size+1,1,none⟩=some (.slice none 0 0)∧w.cell? ⟨W.heap.size+1,2,none⟩=some (.int .i64 0)∧w.cell? ⟨W.heap.size+1,3,none⟩=some (.string ⟨#[]⟩)∧∀ i,w.frozen? ⟨W.heap.size+1,i,none⟩=false:=
 ⟨(cell_row h.rs 0).1,(cell_row h.rs 1).1,(cell_row h.rs 2).1,(cell_row h.rs 3).1,fun i=>(cell_row h.rs i).2⟩
theorem Bx.tell {W w:World} {b0 b1 b2 b3 v0 v1 v2 v3:Value} (h:Bx W w b0 b1 b2 b3) {e:E} {base:Nat} (hr:FrE base w (.agg #[v0,v1,v2,v3]) e) (hb:W.heap.size+1<base) :
  ∃ w9,w9=(((w.setCell ⟨W.heap.size+1,0,none⟩ v0).setCell ⟨W.heap.size+1,1,none⟩ v1).setCell ⟨W.heap.size+1,2,none⟩ v2).setCell ⟨W.heap.size+1,3,none⟩ v3∧Later W w9∧w9.heap[W.heap.size+1]?=some (.cells #[v0,v1,v2,v3] 28 (0,0))∧FrE base w9 (.agg #[v0,v1,v2,v3]) e:=by
 refine⟨_,rfl,?_,?_,?_⟩
 ·exact later_of_new (later_of_new (later_of_new (later_of_new h.low (set_only _ _ _ _) (by omega)) (set_only _ _ _ _) (by omega)) (set_only _ _ _ _) (by omega)) (set_only _ _ _ _) (by omega)
 ·exact set_row (set_row (set_row (set_row h.rs 0 v0) 1 v1) 2 v2) 3 v3
 ·exact(((hr.set (set_only _ _ _ _) hb).set (set_only _ _ _ _) hb).set (set_only _ _ _ _) hb).set (set_only _ _ _ _) hb
theorem anew_v (va:Value) (e:E) (W:World) (h:RdE W va e) (hn:e.vars.length≤1000000) (ha:e.args.length≤1000000):Calls Tryz.prog 43 #[va] W fun x W'=>Told W W' x e:=by
 obtain⟨v0,A,n,c,rfl,hv,hr,hc1,hc2⟩:=h
 obtain⟨A0,c0,rfl,hcv0,hcw0,_⟩:=hv.le
 obtain⟨n0,hn0⟩:∃ n0,n0=e.vars.length:=⟨_,rfl⟩
 have HV:=Lib.hid (show ∀ W',Later W W'→Calls Tryz.prog 27 #[.agg #[.slice A0 n0 c0,.slice A n c,.int .i64 (e.status:Int),.string (mkS e.flags)]] W' fun x W''=>(∃ g,x=.returned (.slice (some ⟨g,0,none⟩) n0 n0)∧W'.heap.size≤g∧PrB W'' g e.vars [])∧Later W' W'' from fun W' hl=>by
  rw[hn0]
  exact variables_v _ _ e.vars _ _ W' (hv.later hl) hn)
 have HW:=Lib.hid (show ∀ W' g,Later W W'→PrB W' g e.vars []→Calls Tryz.prog 32 #[.agg #[.slice A0 n0 c0,.slice A n c,.int .i64 (e.status:Int),.string (mkS e.flags)],.slice (some ⟨g,0,none⟩) n0 n0] W' fun x W''=>Told W' W'' x e from fun W' g hl hp=>by
  have:=with_v (.agg #[.slice A0 n0 c0,.slice A n c,.int .i64 (e.status:Int),.string (mkS e.flags)]) (.slice (some ⟨g,0,none⟩) n0 n0) e e.vars W' ⟨_,A,n,c,by rw[hn0],hv.later hl,(hr.below hl).more hl.size,hc1,hc2⟩ (by rw[hn0];exact hp.rd (Nat.le_refl _) (by omega)) hn ha
  exact this)
 obtain⟨st,hst⟩:∃ st:Int,st=(e.status:Int):=⟨_,rfl⟩
 obtain⟨fl,hfl⟩:∃ fl,fl=mkS e.flags:=⟨_,rfl⟩
 rw[←hn0,←hst,←hfl]
 rw[←hst,←hfl] at HV HW
 have HB:=Lib.hid (Bx.new W (.slice A0 n0 c0) (.slice A n c) (.int .i64 st) (.string fl))
 have HSZ:=Lib.hid (show ((W.alloc (.cells #[.slice A0 n0 c0,.slice A n c,.int .i64 st,.string fl] 28)).alloc (.cells #[.slice none 0 0,.slice none 0 0,.int .i64 0,.string ⟨#[]⟩] 28)).heap.size=W.heap.size+2 by rw[World.size_alloc,World.size_alloc])
 clear hv hr hc1 hc2 hcv0 hcw0 hn0 hst hfl hn ha
 go_enter Tryz.func43,Tryz.ntmps43
 go_wp2_with fail
 obtain⟨W2,hW2⟩:∃ W2,W2=(W.alloc (.cells #[.slice A0 n0 c0,.slice A n c,.int .i64 st,.string fl] 28)).alloc (.cells #[.slice none 0 0,.slice none 0 0,.int .i64 0,.string ⟨#[]⟩] 28):=⟨_,rfl⟩
 rw[←hW2] at HB HSZ⊢
 clear hW2
 obtain⟨b0,b1,b2,b3⟩:=HB.out.c
 go_region_with (first
  |(go_at_call 27;(with_reducible refine(HV.out _ (HB.out.low.trans (drew_later _))).mono ?_);rintro x w3 ⟨⟨g,rfl,_,hp⟩,hl3⟩;(have HP:=Lib.hid hp);(have HB3:=Lib.hid (HB.out.later ((drew_later _).trans hl3)));obtain⟨q0,q1,q2,q3⟩:=HB3.out.c;clear hp hl3)
  |(go_at_call 32;(with_reducible refine(HW.out _ _ HB3.out.low HP.out).mono ?_);rintro x w4 ⟨⟨v,rfl,hf⟩,hl4⟩;(have HF:=Lib.hid hf);obtain⟨v0,A4,n4,c4,rfl,hv4,_⟩:=hf.rd;obtain⟨A5,c5,rfl,_⟩:=hv4.le;(have HB4:=Lib.hid (HB3.out.later hl4));obtain⟨r0,r1,r2,r3,r4⟩:=HB4.out.r;clear hf hl4 hv4))
 all_goals (
  go_wp2
  have hs3:=lt_of_block HB3.out.rs
  obtain⟨w9,hw9,hl9,hr9,hf9⟩:=HB4.out.tell HF.out hs3
  rw[←hw9]
  refine bodyPost_ret (results_Env rfl _ _ (W.heap.size+1) _ (0,0) rfl hr9 rfl) rfl ?_
  exact⟨⟨_,rfl,hf9.less (by omega)⟩,hl9⟩)
end En
end Go.Proofs.YtipdgmjplnibeaaGreatDoor
namespace Go.Proofs.YtipdgmjplnibeaaGreatDoor
open Go.RowKit Go.Maps
namespace Ar
theorem sgetk (l:List UInt8) (k:Nat) (_:k<l.length):∀ h2:k<(mkS l).size,(mkS l)[k]'h2=l[k]:=fun _=>rfl
theorem isEmpty_bne (l:List UInt8):(!l.isEmpty)=(l != []):=by cases l <;> rfl
theorem nameB_snoc (l:List UInt8) (x:UInt8) (h:l≠[]):nameB (l++[x])=(nameB l && (letB x || dig x)):=by
 cases l with
 | nil=>exact absurd rfl h
 | cons c r=>simp[nameB,Bool.and_assoc]
theorem letB_dig (x:UInt8) (h:letB x=true):dig x=false:=by
 have:∀ n:_root_.Fin 256,letB (UInt8.ofNat n.1)=true→dig (UInt8.ofNat n.1)=false:=by decide +kernel
 have:=this ⟨x.toNat,x.toNat_lt⟩
 simpa using this (by simpa using h)
theorem nameB_one (x:UInt8):nameB [x]=letB x:=by
 cases h:letB x with
 | true=>simp[nameB,h,letB_dig x h]
 | false=>cases h2:dig x <;> simp[nameB,h,h2]
theorem nameB_take (l:List UInt8) (k:Nat) (hk:0<k) (h:nameB l=true):nameB (l.take k)=true:=by
 cases l with
 | nil=>simp[nameB] at h
 | cons c r=>
  obtain⟨j,rfl⟩:∃ j,k=j+1:=⟨k-1,by omega⟩
  simp only[nameB,Bool.and_eq_true,List.all_eq_true] at h
  simp only[List.take_succ_cons,nameB,Bool.and_eq_true,List.all_eq_true]
  refine⟨h.1,fun x hx=>h.2 x ?_⟩
  rcases List.mem_cons.1 hx with hx | hx
  ·exact List.mem_cons.2 (.inl hx)
  ·exact List.mem_cons.2 (.inr (List.mem_of_mem_take hx))
end Ar
end Go.Proofs.YtipdgmjplnibeaaGreatDoor
namespace Go.Proofs.YtipdgmjplnibeaaGreatDoor
open Go.RowKit Go.Maps
set_option maxRecDepth 100000
namespace En
theorem RdP.off {w w':World} {v:Value} {l:Vs} {x n c n' c':Nat} {A A':Option Addr} {st:Int} {fl:ByteArray} {t:TypeId} (h:RdP w w.heap.size v l) (hx:w.heap[x]?=some (.cells #[.slice A n c,.slice A' n' c',.int .i64 st,.string fl] t (0,0))) (hk:∀ k,k<w.heap.size→k≠x→w'.heap[k]?=w.heap[k]?):RdP w' w.heap.size v l:=by
 refine⟨h.le,fun h0=>?_⟩
 obtain⟨g,o,cc,e,hb,hc⟩:=h.at_ h0
 have hne:g≠x:=by
  rintro rfl
  obtain⟨h1,h2⟩:=hc 0 h0
  rw[(cell_row hx _).1] at h1 h2
  obtain⟨j,hj⟩:∃ j,j=o+0*2:=⟨_,rfl⟩
  rw[←hj] at h1 h2
  match j with
  | 0=>simp at h1
  | 1=>simp at h1
  | 2=>simp at h1
  | 3=>simp at h2
  | j+4=>simp at h1
 exact⟨g,o,cc,e,hb,fun k hk2=>⟨(World.cell?_of_block (hk g hb hne)).trans (hc k hk2).1,(World.cell?_of_block (hk g hb hne)).trans (hc k hk2).2⟩⟩
theorem add_at (g o j:Nat):(⟨g,o,none⟩:Addr).add j=⟨g,o+j,none⟩:=by unfold Addr.add;split <;> simp_all
theorem prs_take {l:Vs} {k j:Nat} {u:Value} (h:(prs (l.take k))[j]?=some u):(prs l)[j]?=some u:=by
 rw[←List.take_append_drop k l,prs_app,List.getElem?_append_left (List.getElem?_eq_some_iff.1 h).1]
 exact h
theorem prs_drop {l:Vs} {k j:Nat} {u:Value} (hk:k≤l.length) (h:(prs (l.drop k))[j]?=some u):(prs l)[k*2+j]?=some u:=by
 have hl:(prs (l.take k)).length=k*2:=by rw[prs_len,List.length_take,Nat.min_eq_left hk]
 rw[←List.take_append_drop k l,prs_app,List.getElem?_append_right (by omega)]
 rw[hl,show k*2+j-k*2=j by omega]
 exact h
theorem prs_lie {w:World} {g o:Nat} {l:Vs} (hc:∀ (k:Nat) (h:k<l.length),w.cell? ⟨g,o+k*2,none⟩=some (.string (mkS l[k].1))∧w.cell? ⟨g,o+k*2+1,none⟩=some (.string (mkS l[k].2))) {j:Nat} {u:Value} (h:(prs l)[j]?=some u):w.cell? ⟨g,o+j,none⟩=some u:=by
 obtain⟨k,hk,⟨rfl,rfl⟩ | ⟨rfl,rfl⟩⟩:=prs_cell h
 ·exact(hc k hk).1
 ·exact(hc k hk).2
theorem Later.setN {a b:World} {x i:Nat} {u:Value} (h:Later a b) (hx:a.heap.size≤x):Later a (b.setCell ⟨x,i,none⟩ u):=later_of_new h (set_only _ _ _ _) hx
abbrev nm:B→Bool:=Ar.nameB
def setX (b:Bool) (l:Vs) (s y:B):Vs:=if b=true then setV l s y else l
end En
end Go.Proofs.YtipdgmjplnibeaaGreatDoor
namespace Go.Proofs.YtipdgmjplnibeaaGreatDoor
open Go.RowKit Go.Maps
namespace Pm
theorem w64 (x:Int) (h:-9223372036854775808≤x∧x<9223372036854775808):wrap64 x=x:=by unfold wrap64;omega
theorem dec_small {n:Nat} (h:n<10):Lib.decDigits n=[UInt8.ofNat (48+n)]:=by rw[Lib.decDigits,dif_pos h]
theorem dec_big {n:Nat} (h:¬ n<10):Lib.decDigits n=Lib.decDigits (n / 10)++[UInt8.ofNat (48+n % 10)]:=by rw[Lib.decDigits,dif_neg h]
theorem byte_of (n:Nat) (h:n<10):((UInt8.ofNat (48+n)).toNat:Int)=48+(n:Int):=by
 have:(UInt8.ofNat (48+n)).toNat=(48+n) % 256:=rfl
 rw[this]
 omega
theorem dec_len:∀ (k n:Nat),n<10 ^ (k+1)→(Lib.decDigits n).length≤k+1
 | 0,n,h=>by rw[dec_small (by omega)];simp
 | k+1,n,h=>by
  by_cases h10:n<10
  ·rw[dec_small h10];simp
  ·rw[dec_big h10]
   have:=dec_len k (n / 10) (by rw[Nat.pow_succ] at h;omega)
   simp
   omega
abbrev Tb (w:World):Prop:=Lib.TabIs Tryz.prog w "internal/strconv.uint64pow10" .u64 Lib.pow10Tab
end Pm
end Go.Proofs.YtipdgmjplnibeaaGreatDoor
namespace Go.Proofs.YtipdgmjplnibeaaGreatDoor
open Go.RowKit Go.Maps
namespace En
def tellV (r:B×Bool):Value:=.tuple #[.string (mkS r.1),.bool r.2]
theorem take_one (f:B):(mkS f).extract 0 1=mkS (f.take 1):=by
 apply ByteArray.ext
 simp[mkS]
theorem block_add' (ad:Addr) (j:Nat):(ad.add j).block=ad.block:=block_add ad j
end En
end Go.Proofs.YtipdgmjplnibeaaGreatDoor
namespace Go.Proofs.YtipdgmjplnibeaaGreatDoor
open Go.RowKit Go.Maps
namespace En
theorem value_v (va:Value) (e:E) (s:B) (W:World) (h:RdE W va e):Calls Tryz.prog 37 #[va,.string (mkS s)] W fun x W'=>x=.returned (tellV (told (var e.vars s)))∧Later W W':=by
 obtain⟨v0,A,n,c,rfl,hv,_,_,_⟩:=h
 obtain⟨Av,cv,rfl,hcv,hcw,_⟩:=hv.le
 obtain⟨st,hst⟩:∃ st:Int,st=(e.status:Int):=⟨_,rfl⟩
 obtain⟨fl,hfl⟩:∃ fl,fl=mkS e.flags:=⟨_,rfl⟩
 obtain⟨vs,hvs⟩:∃ vs,vs=e.vars:=⟨_,rfl⟩
 rw[←hst,←hfl]
 rw[←hvs] at hv hcv⊢
 have HV:=Lib.hid hv
 have hlen:vs.length≤9223372036854775807:=by omega
 have HLA:=Lib.hid (Later.alloc W (.cells #[.slice Av vs.length cv,.slice A n c,.int .i64 st,.string fl] 28))
 have HNA:=Lib.hid (heap_alloc_new W (.cells #[.slice Av vs.length cv,.slice A n c,.int .i64 st,.string fl] 28))
 clear hv hcv hcw hst hfl hvs
 go_enter Tryz.func37,Tryz.ntmps37
 go_wp2_with fail
 go_loopw [11] (fun s11 wr=>∃ i:Nat,s11=.int .i64 (i:Int)∧i≤vs.length∧(∀ j (h:j<vs.length),j<i→vs[j].1≠s)∧Later (W.alloc (.cells #[.slice Av vs.length cv,.slice A n c,.int .i64 st,.string fl] 28)) wr) (fun i _=>vs.length-(intOf i).toNat)
 case atStart=>exact⟨0,rfl,Nat.zero_le _,fun j _ hj=>absurd hj (Nat.not_lt_zero _),Later.refl _⟩
 case round=>
  obtain⟨i,rfl,hi,hno,hlw⟩:=hrel
  have HNO:=Lib.hid hno
  have HLW:=Lib.hid (HLA.out.trans hlw)
  have HL1:=Lib.hid hlw
  clear hno hlw
  have hi0:(0:Int)≤(i:Int):=by omega
  by_cases hlt:i<vs.length
  ·have hi1:(i:Int)<(vs.length:Int):=by omega
   obtain⟨g,o,c',e1,hg,hcc⟩:=HV.out.at_ (by omega)
   injection e1 with e1 _ e2
   subst e1 e2
   obtain⟨x,hx⟩:∃ x,x=vs[i]:=⟨_,rfl⟩
   have p1:=(HLW.out.cell (p:=⟨g,o+i*2,none⟩) hg).trans (hcc i hlt).1
   have p2:=(HLW.out.cell (p:=⟨g,o+i*2+1,none⟩) hg).trans (hcc i hlt).2
   rw[←hx] at p1 p2
   have HLD:=Lib.hid (load_mid 65 _ Tryz.underlying65 (by kernel_rfl) p1 p2)
   have HN3:=Lib.hid (heap_alloc_new wr (.cells #[.string (mkS x.1),.string (mkS x.2)] 65))
   have HL3:=Lib.hid (Later.alloc wr (.cells #[.string (mkS x.1),.string (mkS x.2)] 65))
   have HX:=Lib.hid hx
   have HAG:=Lib.hid (fun W=>against_v x.1 x.2 s W)
   obtain⟨k,hk⟩:∃ k,k=Lib.compareBytes x.1 s:=⟨_,rfl⟩
   rw[←hk] at HAG
   have HK:=Lib.hid hk
   clear hcc hg hx hk p1 p2
   by_cases hk0:k=0
   ·have f1:(k==0)=true:=by simpa using hk0
    have HE:=Lib.hid ((cmp_eq x.1 s).1 (HK.out.symm.trans hk0))
    clear hk0
    go_wp2_with (first
     |(refine wpList_loadRun rfl 65 (.tmp 13) rfl _ _ rfl HLD.out ?_)
     |(go_at_call 30;(with_reducible refine(HAG.out _).mono ?_);rintro x9 w5 ⟨rfl,hl5⟩;(have HL5:=Lib.hid (HLW.out.trans (HL3.out.trans hl5)));(have q1:w5.cell? ⟨wr.heap.size,1,none⟩=some (.string (mkS x.2)):=(cell_row (later_cells hl5 HN3.out) 1).1);clear hl5))
    go_ret2
    have hva:var vs s=some x.2:=by rw[HX.out];exact var_at hlt HNO.out (by rw[←HX.out];exact HE.out)
    exact⟨by rw[hva];rfl,HL5.out⟩
   ·have f1:(k==0)=false:=by simpa using hk0
    have HE:=Lib.hid (fun e2=>hk0 (HK.out.trans ((cmp_eq x.1 s).2 e2)))
    clear hk0
    go_wp2_with (first
     |(refine wpList_loadRun rfl 65 (.tmp 13) rfl _ _ rfl HLD.out ?_)
     |(go_at_call 30;(with_reducible refine(HAG.out _).mono ?_);rintro x9 w5 ⟨rfl,hl5⟩;(have HL5:=Lib.hid (HL1.out.trans (HL3.out.trans hl5)));clear hl5))
    go_roundw
    case rel=>
     refine⟨i+1,by go_num,by omega,?_,HL5.out⟩
     intro j hj hji
     rcases Nat.lt_succ_iff_lt_or_eq.1 hji with h1 | rfl
     ·exact HNO.out j hj h1
     ·rw[←HX.out];exact HE.out
    case measure=>simp[intOf];omega
  ·have hva:var vs s=none:=none_of fun j hj _=>HNO.out j hj (by omega)
   have HVA:=Lib.hid hva
   clear hva
   go_wp2
   go_ret2
   exact⟨by rw[HVA.out];rfl,HLW.out⟩
theorem ifs_v (va:Value) (e:E) (W:World) (h:RdE W va e):Calls Tryz.prog 24 #[va] W fun x W'=>x=.returned (.string (mkS (ifs e.vars)))∧Later W W':=by
 have HVA:=Lib.hid (show ∀ W',Later W W'→Calls Tryz.prog 37 #[va,.string ⟨#[73,70,83]⟩] W' fun x W''=>x=.returned (tellV (told (var e.vars IFS)))∧Later W' W'' from fun W' hl=>value_v va e IFS W' (h.later hl))
 obtain⟨v0,A,n,c,rfl,hv,_,_,_⟩:=h
 obtain⟨Av,cv,rfl,hcv,hcw,_⟩:=hv.le
 obtain⟨n0,hn0⟩:∃ n0,n0=e.vars.length:=⟨_,rfl⟩
 obtain⟨st,hst⟩:∃ st:Int,st=(e.status:Int):=⟨_,rfl⟩
 obtain⟨fl,hfl⟩:∃ fl,fl=mkS e.flags:=⟨_,rfl⟩
 rw[←hn0,←hst,←hfl] at HVA⊢
 have HLA:=Lib.hid (Later.alloc W (.cells #[.slice Av n0 cv,.slice A n c,.int .i64 st,.string fl] 28))
 have hna:=heap_alloc_new W (.cells #[.slice Av n0 cv,.slice A n c,.int .i64 st,.string fl] 28)
 obtain⟨o,ho⟩:∃ o,o=var e.vars IFS:=⟨_,rfl⟩
 rw[←ho] at HVA
 have HO:=Lib.hid ho
 clear hv hcv hcw hst hfl hn0 hna ho
 cases o with
 | none=>
  go_enter Tryz.func24,Tryz.ntmps24
  go_wp2_with (go_at_call 37;(with_reducible refine(HVA.out _ HLA.out).mono ?_);rintro x w3 ⟨rfl,hl3⟩;(have HL3:=Lib.hid (HLA.out.trans hl3));unfold tellV told;dsimp only;clear hl3)
  go_ret
  exact⟨by unfold ifs;rw[←HO.out];rfl,HL3.out⟩
 | some t=>
  go_enter Tryz.func24,Tryz.ntmps24
  go_wp2_with (go_at_call 37;(with_reducible refine(HVA.out _ HLA.out).mono ?_);rintro x w3 ⟨rfl,hl3⟩;(have HL3:=Lib.hid (HLA.out.trans hl3));unfold tellV told;dsimp only;clear hl3)
  go_ret
  exact⟨by unfold ifs;rw[←HO.out];rfl,HL3.out⟩
end En
end Go.Proofs.YtipdgmjplnibeaaGreatDoor
