/- The lexer's reader in memory: its struct, its tokens, its two tables. No premises. -/
import Derived.Test.YtkkchkkpnlnbgaaGreatDoorNd
import Derived.Test.YtkkchkkpnlnbgaaGreatDoorNb
import Derived.Maps.OwnSet
import Derived.Maps.Views
import Derived.Deep.QuietTactic
set_option maxRecDepth 100000
namespace Go.Proofs.YtkkchkkpnlnbgaaGreatDoor
open Go.RowKit Go.Maps
abbrev L:=Lx.L
theorem cell_row {w:World} {g:Nat} {cs:Array Value} {t:TypeId} (h:w.heap[g]?=some (.cells cs t (0,0))) (i:Nat):w.cell? ⟨g,i,none⟩=cs[i]?∧w.frozen? ⟨g,i,none⟩=false:=
 ⟨by simp[World.cell?,h],by simp[World.frozen?,h]⟩
theorem set_row {w:World} {g:Nat} {cs:Array Value} {t:TypeId} (h:w.heap[g]?=some (.cells cs t (0,0))) (i:Nat) (u:Value):(w.setCell ⟨g,i,none⟩ u).heap[g]?=some (.cells (cs.setIfInBounds i u) t (0,0)):=by
 have hlt:=lt_of_block h
 have h':w.heap[g]=.cells cs t (0,0):=by simpa [Array.getElem?_eq_getElem hlt] using h
 show (w.heap.modify g _)[g]?=_
 rw[Array.getElem?_eq_getElem (by simpa using hlt),Array.getElem_modify_self,h']
 rfl
theorem set_only (w:World) (g i:Nat) (u:Value):w.grownBy (w.setCell ⟨g,i,none⟩ u) (some g):=
 ⟨rfl,rfl,rfl,by simp[World.setCell],fun k _ hk=>Below.heap_setCell _ _ _ _ (fun e=>hk (by rw[e]))⟩
theorem apart_types {w:World} {base size n base' size' n':Nat} {e e':TypeId} {v v':Value} {xs xs':List Value} (h:w.ownsRow base e size v n xs) (h':w.ownsRow base' e' size' v' n' xs') (hne:e≠e'):v.ownBlock=none∨v.ownBlock≠v'.ownBlock:=by
 rcases h.2 with⟨rfl,_⟩ | ⟨g,cap,cur,rfl,_,hg,_⟩
 ·exact .inl rfl
 ·refine .inr fun e1=>?_
  rcases h'.2 with⟨rfl,_⟩ | ⟨g',cap',cur',rfl,_,hg',_⟩
  ·cases e1
  ·simp only[Value.ownBlock,Option.some.injEq] at e1
   subst e1
   rw[hg] at hg'
   simp only[Option.some.injEq,Obj.cells.injEq] at hg'
   exact hne hg'.2.1
theorem apart_block {w:World} {base size n g:Nat} {e e':TypeId} {v:Value} {xs:List Value} {cs:Array Value} {fr:Nat×Nat} (h:w.ownsRow base e size v n xs) (h':w.heap[g]?=some (.cells cs e' fr)) (hne:e≠e'):v.ownBlock≠some g:=by
 rcases h.2 with⟨rfl,_⟩ | ⟨k,cap,cur,rfl,_,hg,_⟩
 ·nofun
 ·intro e1
  simp only[Value.ownBlock,Option.some.injEq] at e1
  subst e1
  rw[hg] at h'
  simp only[Option.some.injEq,Obj.cells.injEq] at h'
  exact hne h'.2.1
def heldR (v:Value):Option (DataW Value×List MemPlace):=some (.held v,[])
def keyL (c:UInt8):Lit:=.int .u8 (c.toNat:Int)
def Tab (W:World) (m:Nat) (f:UInt8→Option Value):Prop:=
 ∃ D n,W.ownsMap Tryz.prog 5 heldR m n D∧n≤30∧∀ c,Maps.has D (keyL c)=(f c).isSome∧∀ z,D.atKey (keyL c) (.held z)=.held ((f c).getD z)
theorem u8_keyed:Keyed Tryz.prog 5:=int_keyed Tryz.underlying5
theorem key_wf (c:UInt8):(Lit.int .u8 (c.toNat:Int)).wf=true:=by
 have:=c.toNat_lt
 simp[Lit.wf,IntKind.min,IntKind.max,IntKind.bits,IntKind.signed]
 omega
theorem keyOf_u8 (c:UInt8):keyOf Tryz.prog 5 (bv c)=some (keyL c):=keyOf_int_mk Tryz.underlying5 (key_wf c)
theorem key_ne {a b:UInt8} (h:a≠b):keyL a≠keyL b:=by
 intro e
 simp only[keyL,Lit.int.injEq,true_and] at e
 exact h (UInt8.toNat_inj.1 (by omega))
theorem Tab.kept {W W':World} {m:Nat} {f:UInt8→Option Value} {row:Option Nat} (h:Tab W m f) (hg:W.grownBy W' row) (hne:some m≠row):Tab W' m f:=by
 obtain⟨D,n,h1,h2,h3⟩:=h
 exact⟨D,n,h1.kept hg hne,h2,h3⟩
theorem Tab.apart {W:World} {m g:Nat} {f:UInt8→Option Value} {cs:Array Value} {e:TypeId} {fr:Nat×Nat} (h:Tab W m f) (h':W.heap[g]?=some (.cells cs e fr)):m≠g:=by
 obtain⟨D,n,⟨es,cl,h1,_⟩,_⟩:=h
 rintro rfl
 rw[h1] at h'
 cases h'
theorem Tab.apart_row {W:World} {m base size n:Nat} {f:UInt8→Option Value} {e:TypeId} {v:Value} {xs:List Value} (h:Tab W m f) (h':W.ownsRow base e size v n xs):some m≠v.ownBlock:=by
 rcases h'.2 with⟨rfl,_⟩ | ⟨k,cap,cur,rfl,_,hg,_⟩
 ·nofun
 ·intro e1
  simp only[Value.ownBlock,Option.some.injEq] at e1
  exact h.apart hg e1
theorem Tab.look {W:World} {m:Nat} {f:UInt8→Option Value} (h:Tab W m f) (c:UInt8):∀ n,(Instr.lookup 80 (.map (some m)) (bv c) true).run Tryz.prog (W.drewN n)=.ok (.tuple #[(f c).getD .nilFunc,.bool (f c).isSome]) (W.drewN n):=by
 intro n
 obtain⟨D,k,h1,_,h3⟩:=h
 obtain⟨v,ps,hrun,hv⟩:=World.ownsMap.look_ok (w:=W.drewN n) (show (W.drewN n).ownsMap _ _ _ _ _ _ from h1) u8_keyed Tryz.underlying80 (z:=.nilFunc) (by kernel_rfl) (zd:=.held .nilFunc) (zp:=[]) rfl (keyOf_u8 c)
 rw[(h3 c).2 .nilFunc] at hv
 simp only[heldR,Option.some.injEq,Prod.mk.injEq,DataW.held.injEq] at hv
 rw[hrun,hv.1,(h3 c).1]
end Go.Proofs.YtkkchkkpnlnbgaaGreatDoor
namespace Go.Proofs.YtkkchkkpnlnbgaaGreatDoor
open Go.RowKit Go.Maps
open Lx (nl Tok)
structure St where
 l:L
 q:L
 j:Bool
 d:Nat
 b:Nat
 ts:List Tok
 hs:List Nat
def iv (x:Nat):Value:=.int .i64 (x:Int)
def tcs (N:Nat) (t:Tok):Array Value:=#[.int .i64 (t.kind:Int),.string (mkS t.text),.string (mkS t.body),.int .i64 ((1+N-t.left:Nat):Int)]
def cellsT (N:Nat) (ts:List Tok):List Value:=ts.flatMap fun t=>(tcs N t).toList
abbrev RC (S:L) (p n b:Nat) (vt vh vx:Value) (j:Bool) (d ms mp:Nat):Array Value:=#[.string (mkS S),.int .i64 (p:Int),.int .i64 (n:Int),.int .i64 (b:Int),vt,vh,vx,.bool j,.int .i64 (d:Int),.map (some ms),.map (some mp)]
def fnv (f g:Nat):Value:=.func (.func f) #[.pointer (some ⟨g,0,none⟩)] #[]
def startsT (g:Nat) (c:UInt8):Option Value:=
 if c=92 then some (fnv 36 g)
 else if c=35 then some (fnv 37 g)
 else if c=10 then some (fnv 38 g)
 else if c=32∨c=9 then some (fnv 39 g)
 else if c=59∨c=38∨c=124∨c=40∨c=41∨c=60∨c=62 then some (fnv 40 g)
 else none
def partsT (g:Nat) (c:UInt8):Option Value:=
 if c=92 then some (fnv 41 g)
 else if c=39 then some (fnv 42 g)
 else if c=34 then some (fnv 43 g)
 else if c=36 then some (fnv 44 g)
 else if c=96 then some (fnv 45 g)
 else none
structure MemX (W:World) (B g:Nat) (S:L) (σ:St) (p n:Nat) (vt vh vx:Value) (ms mp:Nat):Prop where
 box:W.heap[g]?=some (.cells (RC S p n σ.b vt vh vx σ.j σ.d ms mp) 82 (0,0))
 low:B≤g
 big:S.length≤4096
 cut:σ.l=S.drop p
 at_:p+σ.l.length=S.length
 ln:n+nl σ.l=1+nl S
 tok:W.ownsRow B 63 4 vt σ.ts.length (cellsT (nl S) σ.ts)
 her:W.ownsRow B 3 1 vh (σ.hs.map iv).length (σ.hs.map iv)
 txt:W.ownsRow B 5 1 vx (σ.q.map bv).length (σ.q.map bv)
 ls:B≤ms
 lp:B≤mp
 st:Tab W ms (startsT g)
 pa:Tab W mp (partsT g)
def Mem (W:World) (B g:Nat) (S:L) (σ:St):Prop:=∃ p n vt vh vx ms mp,MemX W B g S σ p n vt vh vx ms mp
theorem nl_le (l:L):nl l≤l.length:=by
 induction l with
 | nil=>simp[nl]
 | cons c r ih=>unfold nl;split <;> simp only[List.length_cons] <;> omega
section
variable {W W':World} {B g p n ms mp:Nat} {S:L} {σ:St} {vt vh vx:Value}
theorem MemX.facts (h:MemX W B g S σ p n vt vh vx ms mp) :
  (W.cell? ⟨g,0,none⟩=some (.string (mkS S))∧W.cell? ⟨g,1,none⟩=some (.int .i64 (p:Int))∧W.cell? ⟨g,2,none⟩=some (.int .i64 (n:Int))∧W.cell? ⟨g,3,none⟩=some (.int .i64 (σ.b:Int))∧W.cell? ⟨g,4,none⟩=some vt∧W.cell? ⟨g,5,none⟩=some vh∧W.cell? ⟨g,6,none⟩=some vx∧W.cell? ⟨g,7,none⟩=some (.bool σ.j)∧W.cell? ⟨g,8,none⟩=some (.int .i64 (σ.d:Int))∧W.cell? ⟨g,9,none⟩=some (.map (some ms))∧W.cell? ⟨g,10,none⟩=some (.map (some mp)))∧(∀ i,W.frozen? ⟨g,i,none⟩=false):=
 ⟨⟨(cell_row h.box 0).1,(cell_row h.box 1).1,(cell_row h.box 2).1,(cell_row h.box 3).1,(cell_row h.box 4).1,(cell_row h.box 5).1,(cell_row h.box 6).1,(cell_row h.box 7).1,(cell_row h.box 8).1,(cell_row h.box 9).1,(cell_row h.box 10).1⟩,fun i=>(cell_row h.box i).2⟩
theorem MemX.lt (h:MemX W B g S σ p n vt vh vx ms mp):g<W.heap.size:=lt_of_block h.box
theorem MemX.mem (h:MemX W B g S σ p n vt vh vx ms mp):Mem W B g S σ:=⟨p,n,vt,vh,vx,ms,mp,h⟩
theorem MemX.small (h:MemX W B g S σ p n vt vh vx ms mp):p≤4096∧n≤4097:=by
 have h1:=h.at_;have h2:=h.big;have h3:=h.ln;have h4:=nl_le S
 omega
theorem MemX.kept (h:MemX W B g S σ p n vt vh vx ms mp) (hl:Later W W'):MemX W' B g S σ p n vt vh vx ms mp:=by
 have hg:W.grownBy W' none:=⟨hl.os,hl.tape,hl.output,hl.size,fun k hk _=>hl.block k hk⟩
 exact⟨(hl.block g h.lt).trans h.box,h.low,h.big,h.cut,h.at_,h.ln,own_below h.tok hl,own_below h.her hl,own_below h.txt hl,h.ls,h.lp,h.st.kept hg nofun,h.pa.kept hg nofun⟩
theorem MemX.drewN (h:MemX W B g S σ p n vt vh vx ms mp) (k:Nat):MemX (W.drewN k) B g S σ p n vt vh vx ms mp:=
 ⟨h.box,h.low,h.big,h.cut,h.at_,h.ln,h.tok,h.her,h.txt,h.ls,h.lp,h.st,h.pa⟩
theorem MemX.into (h:MemX W B g S σ p n vt vh vx ms mp) {σ':St} {p' n':Nat} (hg:W.grownBy W' (some g)) (hb:W'.heap[g]?=some (.cells (RC S p' n' σ'.b vt vh vx σ'.j σ'.d ms mp) 82 (0,0)))
  (h1:σ'.l=S.drop p') (h2:p'+σ'.l.length=S.length) (h3:n'+nl σ'.l=1+nl S) (h4:σ'.ts=σ.ts) (h5:σ'.hs=σ.hs) (h6:σ'.q=σ.q):MemX W' B g S σ' p' n' vt vh vx ms mp:=by
 refine⟨hb,h.low,h.big,h1,h2,h3,?_,?_,?_,h.ls,h.lp,h.st.kept hg (fun e=>h.st.apart h.box (Option.some.inj e)),h.pa.kept hg (fun e=>h.pa.apart h.box (Option.some.inj e))⟩
 ·rw[h4];exact h.tok.kept hg (.inr (apart_block h.tok h.box (by decide)))
 ·rw[h5];exact h.her.kept hg (.inr (apart_block h.her h.box (by decide)))
 ·rw[h6];exact h.txt.kept hg (.inr (apart_block h.txt h.box (by decide)))
theorem MemX.set (h:MemX W B g S σ p n vt vh vx ms mp) (i:Nat) (u:Value) {σ':St} {p' n':Nat} (hc:(RC S p n σ.b vt vh vx σ.j σ.d ms mp).setIfInBounds i u=RC S p' n' σ'.b vt vh vx σ'.j σ'.d ms mp)
  (h1:σ'.l=S.drop p') (h2:p'+σ'.l.length=S.length) (h3:n'+nl σ'.l=1+nl S) (h4:σ'.ts=σ.ts) (h5:σ'.hs=σ.hs) (h6:σ'.q=σ.q):MemX (W.setCell ⟨g,i,none⟩ u) B g S σ' p' n' vt vh vx ms mp:=
 h.into (set_only W g i u) (by rw[set_row h.box,hc]) h1 h2 h3 h4 h5 h6
theorem only_trans {a b c:World} {g:Nat} (h:a.grownBy b (some g)) (k:b.grownBy c (some g)):a.grownBy c (some g):=
 ⟨k.os.trans h.os,k.tape.trans h.tape,k.output.trans h.output,Nat.le_trans h.size k.size,fun i hi hne=>(k.block i (Nat.lt_of_lt_of_le hi h.size) hne).trans (h.block i hi hne)⟩
theorem MemX.set2 (h:MemX W B g S σ p n vt vh vx ms mp) (i:Nat) (u:Value) (i':Nat) (u':Value) {σ':St} {p' n':Nat} (hc:((RC S p n σ.b vt vh vx σ.j σ.d ms mp).setIfInBounds i u).setIfInBounds i' u'=RC S p' n' σ'.b vt vh vx σ'.j σ'.d ms mp)
  (h1:σ'.l=S.drop p') (h2:p'+σ'.l.length=S.length) (h3:n'+nl σ'.l=1+nl S) (h4:σ'.ts=σ.ts) (h5:σ'.hs=σ.hs) (h6:σ'.q=σ.q):MemX ((W.setCell ⟨g,i,none⟩ u).setCell ⟨g,i',none⟩ u') B g S σ' p' n' vt vh vx ms mp:=
 h.into (only_trans (set_only W g i u) (set_only _ g i' u')) (by rw[set_row (set_row h.box i u),hc]) h1 h2 h3 h4 h5 h6
theorem MemX.text (h:MemX W B g S σ p n vt vh vx ms mp) {v':Value} {q':L} (hg:Grew W W' B 5 vx v' (q'.map bv)):MemX (W'.setCell ⟨g,6,none⟩ v') B g S { σ with q:=q' } p n vt vh v' ms mp:=by
 have hgn:=hg.grown
 have hbx:W'.heap[g]?=some (.cells (RC S p n σ.b vt vh vx σ.j σ.d ms mp) 82 (0,0)):=(hgn.block g h.lt (fun e=>apart_block h.txt h.box (by decide) e.symm)).trans h.box
 have k1:=h.tok.kept hgn (apart_types h.tok h.txt (by decide))
 have k2:=h.her.kept hgn (apart_types h.her h.txt (by decide))
 have k3:=h.st.kept hgn (h.st.apart_row h.txt)
 have k4:=h.pa.kept hgn (h.pa.apart_row h.txt)
 have hs:=set_only W' g 6 v'
 refine⟨set_row hbx 6 v',h.low,h.big,h.cut,h.at_,h.ln,k1.kept hs (.inr (apart_block k1 hbx (by decide))),k2.kept hs (.inr (apart_block k2 hbx (by decide))),hg.own.kept hs (.inr (apart_block hg.own hbx (by decide))),h.ls,h.lp,k3.kept hs (fun e=>k3.apart hbx (Option.some.inj e)),k4.kept hs (fun e=>k4.apart hbx (Option.some.inj e))⟩
theorem MemX.toks (h:MemX W B g S σ p n vt vh vx ms mp) {v':Value} {ts':List Tok} (ho:W'.ownsRow B 63 4 v' ts'.length (cellsT (nl S) ts')) (hgn:W.grownBy W' vt.ownBlock):MemX (W'.setCell ⟨g,4,none⟩ v') B g S { σ with ts:=ts' } p n v' vh vx ms mp:=by
 have hbx:W'.heap[g]?=some (.cells (RC S p n σ.b vt vh vx σ.j σ.d ms mp) 82 (0,0)):=(hgn.block g h.lt (fun e=>apart_block h.tok h.box (by decide) e.symm)).trans h.box
 have k1:=h.her.kept hgn (apart_types h.her h.tok (by decide))
 have k2:=h.txt.kept hgn (apart_types h.txt h.tok (by decide))
 have k3:=h.st.kept hgn (h.st.apart_row h.tok)
 have k4:=h.pa.kept hgn (h.pa.apart_row h.tok)
 have hs:=set_only W' g 4 v'
 refine⟨set_row hbx 4 v',h.low,h.big,h.cut,h.at_,h.ln,ho.kept hs (.inr (apart_block ho hbx (by decide))),k1.kept hs (.inr (apart_block k1 hbx (by decide))),k2.kept hs (.inr (apart_block k2 hbx (by decide))),h.ls,h.lp,k3.kept hs (fun e=>k3.apart hbx (Option.some.inj e)),k4.kept hs (fun e=>k4.apart hbx (Option.some.inj e))⟩
theorem Mem.drewN (h:Mem W B g S σ) (k:Nat):Mem (W.drewN k) B g S σ:=by
 obtain⟨p,n,vt,vh,vx,ms,mp,h⟩:=h
 exact(h.drewN k).mem
theorem Mem.kept (h:Mem W B g S σ) (hl:Later W W'):Mem W' B g S σ:=by
 obtain⟨p,n,vt,vh,vx,ms,mp,h⟩:=h
 exact(h.kept hl).mem
end
theorem bodyPost_panic {P:Program} {fn:Func} {R:Ending→World→Prop} {ch:List PanicEntry} {a:Act} {w:World} (hd:a.defers=[]) (h:R (.panicked ch) w):bodyPost P fn R (.panic ch) a w:=⟨hd,h⟩
def flt (e:Int) (b:Nat):List PanicEntry:=[{ v:=.iface 55 (.agg #[.int .i64 e,.int .i64 (b:Int)]),recovered:=false }]
theorem fail_v (B g:Nat) (S:L) (σ:St) (e:Int) (W:World) (h:Mem W B g S σ):Calls Tryz.prog 93 #[.pointer (some ⟨g,0,none⟩),.int .i64 e] W fun r W'=>r=.panicked (flt e σ.b)∧W'=W:=by
 obtain⟨p,n,vt,vh,vx,ms,mp,h⟩:=h
 obtain⟨⟨_,_,_,c3,_⟩,_⟩:=h.facts
 obtain⟨b,hb⟩:∃ b,σ.b=b:=⟨_,rfl⟩
 rw[hb] at c3⊢
 clear h
 go_enter Tryz.func93,Tryz.ntmps93
 go_wp2
 exact bodyPost_panic rfl ⟨rfl,rfl⟩
end Go.Proofs.YtkkchkkpnlnbgaaGreatDoor
namespace Go.Proofs.YtkkchkkpnlnbgaaGreatDoor
open Go.RowKit Go.Maps
open Lx (nl Tok)
theorem ret_bool {a b:Bool} (h:a=b):Ending.returned (.bool a)=.returned (.bool b):=by rw[h]
theorem refuse_v (B g:Nat) (S:L) (σ:St) (W:World) (h:Mem W B g S σ):Calls Tryz.prog 45 #[.pointer (some ⟨g,0,none⟩)] W fun r W'=>r=.panicked (flt 20 σ.b)∧W'=W:=by
 have HC:=Lib.hid (fail_v B g S σ 20 W h)
 clear h
 go_enter Tryz.func45,Tryz.ntmps45
 go_wp2_with (go_at_call 93;(with_reducible refine HC.out.mono ?_);rintro e w1 ⟨rfl,rfl⟩)
 exact bodyPost_panic rfl ⟨rfl,rfl⟩
theorem left_v (B g:Nat) (S:L) (σ:St) (W:World) (h:Mem W B g S σ):Calls Tryz.prog 46 #[.pointer (some ⟨g,0,none⟩)] W fun r W'=>r=.returned (.bool (decide (σ.l≠[])))∧∃ m,W'=W.drewN m:=by
 obtain⟨p,n,vt,vh,vx,ms,mp,h⟩:=h
 obtain⟨⟨c0,c1,_⟩,_⟩:=h.facts
 have hv:decide (p<(mkS S).size)=decide (σ.l≠[]):=by
  have h1:=h.at_
  rw[mkS_size,decide_eq_decide]
  constructor
  ·intro h2 h3;rw[h3] at h1;simp at h1;omega
  ·intro h2;have:=List.length_pos_iff.2 h2;omega
 have HV:=Lib.hid hv
 clear h hv
 go_enter Tryz.func46,Tryz.ntmps46
 go_wp2
 go_quiet (fail)
 go_wp2
 go_ret
 exact⟨ret_bool HV.out,_,rfl⟩
theorem ret_byte {x:UInt8} {c:UInt8} (h:x=c):Ending.returned (.int .u8 (x.toNat:Int))=.returned (.int .u8 (c.toNat:Int)):=by rw[h]
theorem byt_eq {c:UInt8} (k:UInt8) (h:c=k):((c.toNat:Int)==(k.toNat:Int))=true:=by rw[h];exact beq_self_eq_true _
theorem byt_ne {c:UInt8} (k:UInt8) (h:c≠k):((c.toNat:Int)==(k.toNat:Int))=false:=beq_eq_false_iff_ne.2 fun e=>h (UInt8.toNat_inj.1 (by omega))
theorem byt_neq {c:UInt8} (k:UInt8) (h:c≠k):((c.toNat:Int) != (k.toNat:Int))=true:=by unfold bne;rw[byt_ne k h];rfl
theorem byt_nne {c:UInt8} (k:UInt8) (h:c=k):((c.toNat:Int) != (k.toNat:Int))=false:=by unfold bne;rw[byt_eq k h];rfl
theorem MemX.byte {W:World} {B g p n ms mp:Nat} {S:L} {σ:St} {vt vh vx:Value} {c:UInt8} {r:L} (h:MemX W B g S σ p n vt vh vx ms mp) (hl:σ.l=c::r):∃ hp:p<(mkS S).size,(mkS S).get p hp=c:=by
 have h1:=h.at_
 have h2:=h.cut
 rw[hl] at h1 h2
 have hp:p<S.length:=by simp only[List.length_cons] at h1;omega
 refine⟨by rw[mkS_size];exact hp,?_⟩
 rw[List.drop_eq_getElem_cons hp] at h2
 injection h2 with h2 _
 rw[h2]
 simp[mkS,ByteArray.get]
theorem peek_v (B g:Nat) (S:L) (σ:St) (c:UInt8) (r:L) (hl:σ.l=c::r) (W:World) (h:Mem W B g S σ):Calls Tryz.prog 47 #[.pointer (some ⟨g,0,none⟩)] W fun e W'=>e=.returned (.int .u8 (c.toNat:Int))∧∃ m,W'=W.drewN m:=by
 have HL:=Lib.hid (left_v B g S σ W h)
 obtain⟨p,n,vt,vh,vx,ms,mp,h⟩:=h
 obtain⟨⟨c0,c1,_⟩,_⟩:=h.facts
 obtain⟨hp,hc⟩:=h.byte hl
 have hdec:decide (σ.l≠[])=true:=by rw[hl];rfl
 rw[hdec] at HL
 have HC:=Lib.hid hc
 have hp0:(0:Int)≤(p:Int):=by omega
 have hp1:(p:Int)<((mkS S).size:Int):=by omega
 clear h hc hdec hl
 go_enter Tryz.func47,Tryz.ntmps47
 go_wp2_with (go_at_call 46;(with_reducible refine HL.out.mono ?_);rintro e w1 ⟨rfl,m,rfl⟩)
 go_quiet (fail)
 go_wp2
 go_ret
 exact⟨ret_byte HC.out,_,(World.drewN_drewN _ _ _)⟩
theorem peek_bad (B g:Nat) (S:L) (σ:St) (hl:σ.l=[]) (W:World) (h:Mem W B g S σ):Calls Tryz.prog 47 #[.pointer (some ⟨g,0,none⟩)] W fun e W'=>e=.panicked (flt 20 σ.b)∧∃ m,W'=W.drewN m:=by
 have HL:=Lib.hid (left_v B g S σ W h)
 have hdec:decide (σ.l≠[])=false:=by rw[hl];rfl
 rw[hdec] at HL
 have HR:=Lib.hid (fun m=>refuse_v B g S σ (W.drewN m) (h.drewN m))
 clear h hdec hl
 go_enter Tryz.func47,Tryz.ntmps47
 go_wp2_with (first
  |(go_at_call 46;(with_reducible refine HL.out.mono ?_);rintro e w1 ⟨rfl,m,rfl⟩)
  |(go_at_call 45;(with_reducible refine(HR.out _).mono ?_);rintro e w1 ⟨rfl,rfl⟩))
 exact bodyPost_panic rfl ⟨rfl,_,rfl⟩
end Go.Proofs.YtkkchkkpnlnbgaaGreatDoor
