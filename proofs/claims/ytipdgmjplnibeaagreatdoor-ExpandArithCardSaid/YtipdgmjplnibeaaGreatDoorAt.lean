import Derived.Test.YtipdgmjplnibeaaGreatDoorG10
set_option maxRecDepth 100000
set_option maxHeartbeats 6400000
namespace Go.Proofs.YtipdgmjplnibeaaGreatDoor
open Go.RowKit Go.Maps
theorem ValWp.callV {P:Program} {o:Oper} {f:FuncId} {xs:Array Operand} {ats:Array TypeId} {ρ:Operand→Value} {w:World} {K:Value→World→Prop} {cap:Array Value} (x:Operand) (vals:Array Value)
  (hop:o.op=.call { callee:=.value x,args:=xs,argTypes:=ats }) (hρ:ρ x=.func (.func f) #[] cap) (hent:∀ (args:Array Value) (w:World),(callFunc f args).run P w=.ok (.enter f args) w)
  (hv:xs.map ρ=vals) (h:Calls P f (vals++cap) w fun e w''=>∃ v,e=.returned v∧K v w''):ValWp P o ρ w K:=by
 have e1:execOp ρ o=callFunc f (vals++cap):=by
  subst hv
  unfold execOp
  simp[hop,resolve,Deferred.ofValue,invoke,hρ]
 unfold ValWp
 rw[e1,hent]
 exact h
namespace Ar
theorem row_mem {t:L} (h:0≤rowOf t):t∈rows.flatten:=by
 unfold rowOf at h
 cases e:rows.findIdx? (·.contains t) with
 | none=>rw[e] at h;simp at h
 | some i=>
  rw[List.findIdx?_eq_some_iff_getElem] at e
  obtain⟨hi,h2,_⟩:=e
  exact List.mem_flatten.2 ⟨rows[i],List.getElem_mem _,List.contains_iff_mem.1 h2⟩
theorem row_le (t:L):rowOf t≤9:=by
 unfold rowOf
 cases e:rows.findIdx? (·.contains t) with
 | none=>simp
 | some i=>
  rw[List.findIdx?_eq_some_iff_getElem] at e
  obtain⟨hi,_⟩:=e
  have:rows.length=10:=rfl
  simp only
  omega
def PairOk (b:Nat) (t:L) (F:Nat) (cap:Array Value):Prop:=∀ (W:World) (g:Nat) (C:Ct) (s:St) (a m:Int),C.bx=b→RM W g C s→Calls Tryz.prog F (#[.int .i64 a,.int .i64 m]++cap) W (Rt W g C (.int .i64 (op2 t a m)) (div0 t m s))
theorem pair_plain {b:Nat} {t:L} {F:Nat} (h:∀ (a m:Int) (W:World),Calls Tryz.prog F #[.int .i64 a,.int .i64 m] W fun e W'=>e=.returned (.int .i64 (op2 t a m))∧W'=W) (ht:t≠[47]∧t≠[37]):PairOk b t F #[]:=by
 intro W g C s a m _ hr
 have e:div0 t m s=s:=by unfold div0;rw[if_neg (fun e=>by rcases e.1 with e | e;exact ht.1 e;exact ht.2 e)]
 rw[e]
 refine(h a m W).mono ?_
 rintro e w' ⟨rfl,rfl⟩
 exact⟨rfl,hr,only_refl _ _⟩
theorem pair_some {t:L} (h:0≤rowOf t) (b:Nat):∃ F cap,pairT b t=some (.func (.func F) #[] cap)∧Enters F∧PairOk b t F cap:=by
 have hm:=row_mem h
 simp only[rows,List.flatten_cons,List.flatten_nil,List.append_nil,List.cons_append,List.nil_append,List.mem_cons,List.not_mem_nil,or_false] at hm
 rcases hm with rfl | rfl | rfl | rfl | rfl | rfl | rfl | rfl | rfl | rfl | rfl | rfl | rfl | rfl | rfl | rfl | rfl | rfl
 ·exact⟨_,_,rfl,fun args w=>run_enter Tryz.func188 (by kernel_rfl) rfl args w,pair_plain pair1 (by decide)⟩
 ·exact⟨_,_,rfl,fun args w=>run_enter Tryz.func189 (by kernel_rfl) rfl args w,pair_plain pair2 (by decide)⟩
 ·exact⟨_,_,rfl,fun args w=>run_enter Tryz.func190 (by kernel_rfl) rfl args w,pair_plain pair3 (by decide)⟩
 ·exact⟨_,_,rfl,fun args w=>run_enter Tryz.func191 (by kernel_rfl) rfl args w,pair_plain pair4 (by decide)⟩
 ·exact⟨_,_,rfl,fun args w=>run_enter Tryz.func192 (by kernel_rfl) rfl args w,pair_plain pair5 (by decide)⟩
 ·exact⟨_,_,rfl,fun args w=>run_enter Tryz.func193 (by kernel_rfl) rfl args w,pair_plain pair6 (by decide)⟩
 ·exact⟨_,_,rfl,fun args w=>run_enter Tryz.func194 (by kernel_rfl) rfl args w,pair_plain pair7 (by decide)⟩
 ·exact⟨_,_,rfl,fun args w=>run_enter Tryz.func195 (by kernel_rfl) rfl args w,pair_plain pair8 (by decide)⟩
 ·exact⟨_,_,rfl,fun args w=>run_enter Tryz.func196 (by kernel_rfl) rfl args w,pair_plain pair9 (by decide)⟩
 ·exact⟨_,_,rfl,fun args w=>run_enter Tryz.func197 (by kernel_rfl) rfl args w,pair_plain pair10 (by decide)⟩
 ·exact⟨_,_,rfl,fun args w=>run_enter Tryz.func198 (by kernel_rfl) rfl args w,pair_plain pair11 (by decide)⟩
 ·exact⟨_,_,rfl,fun args w=>run_enter Tryz.func199 (by kernel_rfl) rfl args w,pair_plain pair12 (by decide)⟩
 ·exact⟨_,_,rfl,fun args w=>run_enter Tryz.func200 (by kernel_rfl) rfl args w,pair_plain pair13 (by decide)⟩
 ·exact⟨_,_,rfl,fun args w=>run_enter Tryz.func201 (by kernel_rfl) rfl args w,pair_plain pair14 (by decide)⟩
 ·exact⟨_,_,rfl,fun args w=>run_enter Tryz.func202 (by kernel_rfl) rfl args w,pair_plain pair15 (by decide)⟩
 ·exact⟨_,_,rfl,fun args w=>run_enter Tryz.func203 (by kernel_rfl) rfl args w,pair_plain pair16 (by decide)⟩
 ·exact⟨_,_,rfl,fun args w=>run_enter Tryz.func204 (by kernel_rfl) rfl args w,fun W g C s a m hb hr=>by subst hb;exact pair17 hr a m⟩
 ·exact⟨_,_,rfl,fun args w=>run_enter Tryz.func206 (by kernel_rfl) rfl args w,fun W g C s a m hb hr=>by subst hb;exact pair18 hr a m⟩
section
variable {W W' w w':World} {g:Nat} {C:Ct} {s s' s1 s2 s3 t:St} {k:Nat} {n:Int} {b2 b6:Nat} {row:Int} {bits:List Bool}
def C7 (w0:World) (g:Nat) (C:Ct) (b2 b6:Nat) (row:Int) (s1 s2 s3:St) (r:Int) (j:Nat) (u:Value) (w:World):Prop:=
 ((j=0∧RM w g C s1)∨(j=1∧RM w g C s2)∨(2≤j∧(j=3→u=.int .i64 r)∧RM w g C s3))∧Loc w g b2 b6 row∧w0.grownBy w (some g)
theorem c7_all {j:Nat} {u:Value} {r:Int} (h:C7 W g C b2 b6 row s1 s2 s3 r j u w):(∃ s,RM w g C s)∧Loc w g b2 b6 row:=by
 obtain⟨⟨_,h1⟩ | ⟨_,h1⟩ | ⟨_,_,h1⟩,h2,_⟩:=h <;> exact⟨⟨_,h1⟩,h2⟩
theorem c7_at1 {u:Value} {r:Int} (h:C7 W g C b2 b6 row s1 s2 s3 r 0 u w):RM w g C s1∧Loc w g b2 b6 row∧W.grownBy w (some g):=by
 obtain⟨⟨_,h1⟩ | ⟨h1,_⟩ | ⟨h1,_⟩,h2⟩:=h
 ·exact⟨h1,h2⟩
 ·omega
 ·omega
theorem c7_at2 {u:Value} {r:Int} (h:C7 W g C b2 b6 row s1 s2 s3 r 1 u w):RM w g C s2∧Loc w g b2 b6 row∧W.grownBy w (some g):=by
 obtain⟨⟨h1,_⟩ | ⟨_,h1⟩ | ⟨h1,_⟩,h2⟩:=h
 ·omega
 ·exact⟨h1,h2⟩
 ·omega
theorem c7_at3 {u:Value} {r:Int} (h:C7 W g C b2 b6 row s1 s2 s3 r 3 u w):u=.int .i64 r∧RM w g C s3∧Loc w g b2 b6 row∧W.grownBy w (some g):=by
 obtain⟨⟨h1,_⟩ | ⟨h1,_⟩ | ⟨_,h1,h3⟩,h2⟩:=h
 ·omega
 ·omega
 ·exact⟨h1 rfl,h3,h2⟩
theorem c7_one {u v:Value} {r:Int} (h:C7 W g C b2 b6 row s1 s2 s3 r 0 u w) (h1:RM w' g C s2) (hg:w.grownBy w' (some g)):C7 W g C b2 b6 row s1 s2 s3 r 1 v w':=by
 obtain⟨_,h3,h4⟩:=c7_at1 h
 exact⟨.inr (.inl ⟨rfl,h1⟩),h3.kept hg,only_trans h4 hg⟩
theorem c7_two {u v:Value} {r:Int} (h:C7 W g C b2 b6 row s1 s2 s3 r 1 u w) (h1:RM w' g C s3) (hg:w.grownBy w' (some g)):C7 W g C b2 b6 row s1 s2 s3 r 2 v w':=by
 obtain⟨_,h3,h4⟩:=c7_at2 h
 exact⟨.inr (.inr ⟨Nat.le_refl _,fun e=>by omega,h1⟩),h3.kept hg,only_trans h4 hg⟩
theorem c7_three {u:Value} {r:Int} (h:C7 W g C b2 b6 row s1 s2 s3 r 2 u w):C7 W g C b2 b6 row s1 s2 s3 r 3 (.int .i64 r) w:=by
 obtain⟨⟨h1,_⟩ | ⟨h1,_⟩ | ⟨_,_,h3⟩,h2⟩:=h
 ·omega
 ·omega
 ·exact⟨.inr (.inr ⟨by omega,fun _=>rfl,h3⟩),h2⟩
def mz (g:Nat) (w:World):Nat:=match w.cell? ⟨g,0,none⟩,w.cell? ⟨g,1,none⟩ with
 | some (.string a),some (.string b)=>a.size+b.size
 | _,_=>0
theorem mz_rm (h:RM W g C s):mz g W=m s:=by
 unfold mz m
 rw[h.facts.1.1,h.facts.1.2.1]
 simp only[mkS_size]
theorem grow_new {a b c:World} {x:Nat} (h:a.grownBy b (some g)) (k:b.grownBy c (some x)) (hx:a.heap.size≤x):a.grownBy c (some g):=
 ⟨k.os.trans h.os,k.tape.trans h.tape,k.output.trans h.output,Nat.le_trans h.size k.size,fun i hi hne=>(k.block i (Nat.lt_of_lt_of_le hi h.size) (fun e=>by injection e with e;omega)).trans (h.block i hi hne)⟩
theorem loc_new {wa wb:World} {x:Int} (h:RM wa g C s) (hW:g<W.heap.size) (hg:W.grownBy wa (some g)) (h2:wa.heap[W.heap.size]?=some (.cells #[.pointer (some ⟨g,0,none⟩)] 183 (0,0))) (hb:wb=wa.alloc (.cells #[.int .i64 x] 3)):RM wb g C s∧Loc wb g W.heap.size wa.heap.size x∧W.heap.size≤wa.heap.size∧W.grownBy wb (some g):=by
 subst hb
 have hlt:=lt_of_block h2
 have hl:=h.lt
 exact⟨h.later (Later.alloc _ _),⟨later_cells (Later.alloc _ _) h2,heap_alloc_new _ _,by omega,by omega,by omega⟩,hg.size,only_later hg (Later.alloc _ _)⟩
theorem row_ne {t:L} (h:0≤rowOf t):t≠[]:=by
 rintro rfl
 exact absurd h (by decide)
theorem between_v (ih:∀ j,j<k→BtOk j∧SgOk j):BtOk k:=by
 intro W g C least s nf tf hl h hs
 cases hs with
 | @mk _ j0 i0 _ _ s1 _ n1 _ hj0 hi0 hsg hlp=>
 have hgl:=h.lt
 have hbn:W.heap.size≠g:=by omega
 have HS:=Lib.hid (fun w1 (h1:RM w1 g C s)=>(ih _ hj0).2 w1 g C s n1 s1 h1 hsg)
 have HLP:=Lib.hid hlp
 have H:=Lib.hid h
 have HI:=Lib.hid hi0
 have HIH:=Lib.hid ih
 clear h hsg hlp hi0 ih hj0
 go_enter Tryz.func163,Tryz.ntmps163
 go_wp2_with (first
  |(go_at_call 209;have HL0:=Lib.hid (Later.alloc W (.cells #[.pointer (some ⟨g,0,none⟩)] 183));(with_reducible refine(HS.out _ (H.out.later HL0.out)).mono ?_);rintro e w1 ⟨rfl,h1,g1⟩;have hb2:=(g1.block W.heap.size (by simp) (fun e=>hbn (by injection e))).trans (heap_alloc_new W (.cells #[.pointer (some ⟨g,0,none⟩)] 183));obtain⟨⟨d0,d1,d2,d3,d4,d5,d6,d7,d8⟩,dz⟩:=h1.facts;have q2:=(cell_row hb2 0).1;have HB2:=Lib.hid hb2;have H1:=Lib.hid h1;have G1:=Lib.hid (only_trans (only_later (only_refl W g) HL0.out) g1);clear h1 g1 hb2)
  |(go_at_call 210;(with_reducible refine(rowOf_v H1.out.en.tbs s1.tok).mono ?_);rintro e w2 ⟨rfl,rfl⟩))
 have hlo:=loc_new H1.out hgl G1.out HB2.out (wb:=w2.alloc (.cells #[.int .i64 (rowOf s1.tok)] 3)) rfl
 have HLO:=Lib.hid hlo
 clear hlo d0 d1 d2 d3 d4 d5 d6 d7 d8 dz q2
 go_loopw [5,6] (fun nv pv wr=>∃ (n:Int) (b6:Nat) (s:St) (j:Nat),nv=.int .i64 n∧pv=.pointer (some ⟨b6,0,none⟩)∧Hid (j<k)∧Hid (Lp C.vs j least n s nf tf)∧Hid (RM wr g C s)∧Hid (Loc wr g W.heap.size b6 (rowOf s.tok))∧Hid (W.heap.size≤b6)∧Hid (W.grownBy wr (some g))) (fun _ _ wr=>mz g wr)
 case atStart=>exact⟨n1,_,s1,i0,rfl,rfl,HI,HLP,Lib.hid HLO.out.1,Lib.hid HLO.out.2.1,Lib.hid HLO.out.2.2.1,Lib.hid HLO.out.2.2.2⟩
 case round=>
  obtain⟨n,b6,s,j,rfl,rfl,hj,hlp,hr,hlc,hb6,hg⟩:=hrel
  obtain⟨⟨c0,c1,c2,c3,c4,c5,c6,c7,c8⟩,hz⟩:=hr.out.facts
  obtain⟨q2,q6,z6,_⟩:=hlc.out.facts
  obtain⟨ro,hro⟩:∃ ro,ro=rowOf s.tok:=⟨_,rfl⟩
  have hro9:ro≤9:=by rw[hro];exact row_le _
  cases hlp.out with
  | done hlt=>
   rw[←hro] at q6 hlt
   have hlt2:¬ ((least:Int)≤ro):=by omega
   clear hro hlp hlt
   go_wp2
   go_ret
   exact⟨rfl,hr.out,hg.out⟩
  | @more _ ja ia _ row _ m _ _ t _ hja hia hrow hle hbt hlp2=>
   rw[hrow] at hro
   subst hro
   rw[hrow] at q6
   have hle2:(least:Int)≤(row:Int):=by omega
   have hrow0:0≤rowOf s.tok:=by omega
   obtain⟨F,cap,hpt,hent,hop⟩:=pair_some hrow0 C.bx
   have hms:=m_strict s (row_ne hrow0)
   have hbm:=Bt.m hbt
   rw[m_rest] at hbm
   have hki:=(keep_all C.vs ja).2.1 _ _ _ _ hbt
   have hroom:=rest_room (pass s) (needs s.tok n) (by have:=hr.out.sml;have e:(pass s).idle=s.idle:=rfl;omega)
   obtain⟨nd,hnd⟩:∃ nd,nd=needs s.tok n:=⟨_,rfl⟩
   have HND:=Lib.hid (fun w=>needs_v s.tok n w)
   rw[←hnd] at HND hroom hbt hlp2 hki
   obtain⟨s2,hs2⟩:∃ s2,s2=back t nd:=⟨_,rfl⟩
   obtain⟨s3,hs3⟩:∃ s3,s3=div0 s.tok m s2:=⟨_,rfl⟩
   obtain⟨r,hrr⟩:∃ r,r=op2 s.tok n m:=⟨_,rfl⟩
   rw[←hs2,←hs3,←hrr] at hlp2
   have HM3:=Lib.hid (show Ar.m s3<Ar.m s by rw[hs3,m_div0,hs2,m_back];omega)
   have HEN:=Lib.hid (show ∀ (args:Array Value) (w:World),(callFunc F args).run Tryz.prog w=.ok (.enter F args) w from hent)
   have htk:s.tok.length≤5000:=by have:=hr.out.tok_len;omega
   have HQ:=Lib.hid (show ∀ w4 j u w,C7 w4 g C W.heap.size b6 (row:Int) (pass s) s2 s3 r j u w→w.cell? ⟨W.heap.size,0,none⟩=some (.pointer (some ⟨g,0,none⟩))∧w.cell? ⟨b6,0,none⟩=some (.int .i64 (row:Int))∧w.cell? ⟨g,8,none⟩=some (.map (some C.mb))∧(Instr.lookup 187 (.map (some C.mb)) (.string (mkS s.tok)) false).run Tryz.prog w=.ok (.func (.func F) #[] cap) w from fun w4 j u w hC=>by
    obtain⟨⟨sx,hx⟩,hL⟩:=c7_all hC
    have hl:=hx.en.tb.look2 s.tok htk
    rw[hpt] at hl
    exact⟨hL.facts.1,hL.facts.2.1,hx.facts.1.2.2.2.2.2.2.2.2,hl⟩)
   have HPT:=Lib.hid (show ∀ w4 u w,C7 w4 g C W.heap.size b6 (row:Int) (pass s) s2 s3 r 0 u w→Calls Tryz.prog 165 #[.pointer (some ⟨g,0,none⟩),.bool nd,.func (.func 212) #[] #[.pointer (some ⟨W.heap.size,0,none⟩),.pointer (some ⟨b6,0,none⟩)]] w (Rt w g C (.int .i64 m) s2) from fun w4 u w hC=>by
    obtain⟨hx,hL,_⟩:=c7_at1 hC
    rw[hs2]
    exact partB hx hroom hki.1 fun w1 h1 g1=>thunk_v (HIH.out _ (Nat.lt_trans hja hj.out)).1 h1 row (by omega) (hL.kept g1) hbt)
   have HOP:=Lib.hid (show ∀ w4 u w,C7 w4 g C W.heap.size b6 (row:Int) (pass s) s2 s3 r 1 u w→Calls Tryz.prog F (#[.int .i64 n,.int .i64 m]++cap) w (Rt w g C (.int .i64 r) s3) from fun w4 u w hC=>by
    obtain⟨hx,hL,_⟩:=c7_at2 hC
    rw[hs3,hrr]
    exact hop w g C s2 n m rfl hx)
   have HL2:=Lib.hid hlp2
   have HJ:=Lib.hid (Nat.lt_trans hia hj.out)
   have HROW:=Lib.hid hrow
   clear hroom hki hbm hms hpt hent hop hnd hs2 hs3 hrr hlp2 hbt hle hja hia hj hlp hrow0 hrow
   go_wp2_with (go_at_call 162;(with_reducible refine(pass_v hr.out).mono ?_);rintro e w4 ⟨rfl,h4,g4⟩;have H4:=Lib.hid h4;have G4:=Lib.hid g4;have HL4:=Lib.hid (show Loc w4 g W.heap.size b6 (row:Int) from HROW.out ▸ hlc.out.kept g4);clear h4 g4 c0 c1 c2 c3 c4 c5 c6 c7 c8 hz q2 q6 z6)
   have H0:=Lib.hid (show C7 w4 g C W.heap.size b6 (row:Int) (pass s) s2 s3 r 0 undef w4.drew from⟨.inl ⟨rfl,H4.out.later (Later.drew _)⟩,HL4.out.kept (grown_of_later (Later.drew _) _),grown_of_later (Later.drew _) _⟩)
   refine wp_region_seqE (by kernel_rfl) [12,13,14] (C7 w4 g C W.heap.size b6 (row:Int) (pass s) s2 s3 r) [some (.pointer (some ⟨g,0,none⟩)),some (.pointer (some ⟨g,0,none⟩)),some (.pointer (some ⟨g,8,none⟩)),some (.map (some C.mb)),some (.string (mkS s.tok)),some (.func (.func F) #[] cap),some (.int .i64 n),some (.pointer (some ⟨g,0,none⟩)),some (.string (mkS s.tok)),some (.int .i64 n),some (.bool nd),some (.func (.func 212) #[] #[.pointer (some ⟨W.heap.size,0,none⟩),.pointer (some ⟨b6,0,none⟩)]),some (.int .i64 m),some (.int .i64 r),none] (by decide) (by decide) (by kernel_rfl) (by kernel_rfl) 5 (by kernel_rfl) (H0.out) ?_ ?_
   ·refine⟨?_,?_,?_,?_,?_,?_,?_,?_,?_,?_,?_,?_,?_,?_,?_,trivial⟩
    ·
     refine OwesSE.q rfl fun a w j u hC hb he hs=>⟨rfl,?_⟩
     have e2:a.tmps.getD 2 undef=.pointer (some ⟨W.heap.size,0,none⟩):=hs.free 2 rfl
     have q:=HQ.out w4 _ _ w hC
     obtain⟨q2,q6,q8,qt⟩:=q
     refine ValWp.pure (v:=.pointer (some ⟨g,0,none⟩)) (fun K' hK'=>?_) ⟨rfl,rfl⟩
     simp only[ValWp,execOp,Act.eval,e2]
     go_simp
     all_goals exact hK'
    ·
     refine OwesSE.q rfl fun a w j u hC hb he hs=>⟨rfl,?_⟩
     have e29:a.tmps.getD 29 undef=.pointer (some ⟨g,0,none⟩):=hs.dep 0 _ rfl rfl
     refine ValWp.pure (v:=.pointer (some ⟨g,0,none⟩)) (fun K' hK'=>?_) ⟨rfl,rfl⟩
     simp only[ValWp,execOp,Act.eval,e29]
     go_simp
     all_goals exact hK'
    ·
     refine OwesSE.q rfl fun a w j u hC hb he hs=>⟨rfl,?_⟩
     have e30:a.tmps.getD 30 undef=.pointer (some ⟨g,0,none⟩):=hs.dep 1 _ rfl rfl
     refine ValWp.pure (v:=.pointer (some ⟨g,8,none⟩)) (fun K' hK'=>?_) ⟨rfl,rfl⟩
     simp only[ValWp,execOp,Act.eval,e30]
     go_simp
     all_goals exact hK'
    ·
     refine OwesSE.q rfl fun a w j u hC hb he hs=>⟨rfl,?_⟩
     have e31:a.tmps.getD 31 undef=.pointer (some ⟨g,8,none⟩):=hs.dep 2 _ rfl rfl
     have q:=HQ.out w4 _ _ w hC
     obtain⟨q2,q6,q8,qt⟩:=q
     refine ValWp.pure (v:=.map (some C.mb)) (fun K' hK'=>?_) ⟨rfl,rfl⟩
     simp only[ValWp,execOp,Act.eval,e31]
     go_simp
     all_goals exact hK'
    ·
     refine OwesSE.q rfl fun a w j u hC hb he hs=>⟨rfl,?_⟩
     have e7:a.tmps.getD 7 undef=.string (mkS s.tok):=hs.free 7 rfl
     refine ValWp.pure (v:=.string (mkS s.tok)) (fun K' hK'=>?_) ⟨rfl,rfl⟩
     simp only[ValWp,execOp,Act.eval,e7]
     go_simp
     all_goals exact hK'
    ·
     refine OwesSE.q rfl fun a w j u hC hb he hs=>⟨rfl,?_⟩
     have e32:a.tmps.getD 32 undef=.map (some C.mb):=hs.dep 3 _ rfl rfl
     have e33:a.tmps.getD 33 undef=.string (mkS s.tok):=hs.dep 4 _ rfl rfl
     have q:=HQ.out w4 _ _ w hC
     obtain⟨q2,q6,q8,qt⟩:=q
     refine ValWp.pure (v:=.func (.func F) #[] cap) (fun K' hK'=>?_) ⟨rfl,rfl⟩
     simp only[ValWp,execOp,Act.eval,e32,e33]
     simp only[Sem.run_bind,qt,Result.andThen_ok,Sem.run_pure]
     exact hK'
    ·
     refine OwesSE.q rfl fun a w j u hC hb he hs=>⟨rfl,?_⟩
     have e5:a.tmps.getD 5 undef=.int .i64 n:=he (by have:=hb 2 14 rfl rfl;simp only[List.length_cons,List.length_nil];omega)
     refine ValWp.pure (v:=.int .i64 n) (fun K' hK'=>?_) ⟨rfl,rfl⟩
     simp only[ValWp,execOp,Act.eval,e5]
     go_simp
     all_goals exact hK'
    ·
     refine OwesSE.q rfl fun a w j u hC hb he hs=>⟨rfl,?_⟩
     have e2:a.tmps.getD 2 undef=.pointer (some ⟨W.heap.size,0,none⟩):=hs.free 2 rfl
     have q:=HQ.out w4 _ _ w hC
     obtain⟨q2,q6,q8,qt⟩:=q
     refine ValWp.pure (v:=.pointer (some ⟨g,0,none⟩)) (fun K' hK'=>?_) ⟨rfl,rfl⟩
     simp only[ValWp,execOp,Act.eval,e2]
     go_simp
     all_goals exact hK'
    ·
     refine OwesSE.q rfl fun a w j u hC hb he hs=>⟨rfl,?_⟩
     have e7:a.tmps.getD 7 undef=.string (mkS s.tok):=hs.free 7 rfl
     refine ValWp.pure (v:=.string (mkS s.tok)) (fun K' hK'=>?_) ⟨rfl,rfl⟩
     simp only[ValWp,execOp,Act.eval,e7]
     go_simp
     all_goals exact hK'
    ·
     refine OwesSE.q rfl fun a w j u hC hb he hs=>⟨rfl,?_⟩
     have e5:a.tmps.getD 5 undef=.int .i64 n:=he (by have:=hb 2 14 rfl rfl;simp only[List.length_cons,List.length_nil];omega)
     refine ValWp.pure (v:=.int .i64 n) (fun K' hK'=>?_) ⟨rfl,rfl⟩
     simp only[ValWp,execOp,Act.eval,e5]
     go_simp
     all_goals exact hK'
    ·
     refine OwesSE.q rfl fun a w j u hC hb he hs=>⟨rfl,?_⟩
     have e37:a.tmps.getD 37 undef=.string (mkS s.tok):=hs.dep 8 _ rfl rfl
     have e38:a.tmps.getD 38 undef=.int .i64 n:=hs.dep 9 _ rfl rfl
     refine ValWp.call #[.string (mkS s.tok),.int .i64 n] rfl rfl Tryz.func211 rfl rfl (by simp only[List.map_toArray,List.map_cons,List.map_nil,Act.eval,e37,e38]) ?_
     refine(HND.out w).mono ?_
     rintro e w' ⟨rfl,rfl⟩
     exact⟨_,rfl,rfl,rfl⟩
    ·
     refine OwesSE.q rfl fun a w j u hC hb he hs=>⟨rfl,?_⟩
     have e2:a.tmps.getD 2 undef=.pointer (some ⟨W.heap.size,0,none⟩):=hs.free 2 rfl
     have e6:a.tmps.getD 6 undef=.pointer (some ⟨b6,0,none⟩):=hs.free 6 rfl
     refine ValWp.pure (v:=.func (.func 212) #[] #[.pointer (some ⟨W.heap.size,0,none⟩),.pointer (some ⟨b6,0,none⟩)]) (fun K' hK'=>?_) ⟨rfl,rfl⟩
     simp only[ValWp,execOp,Act.eval,List.map_toArray,List.map_cons,List.map_nil,e2,e6]
     exact hK'
    ·
     refine OwesSE.w rfl fun a w u hC hl hs=>⟨rfl,fun K hK=>?_⟩
     have e36:a.tmps.getD 36 undef=.pointer (some ⟨g,0,none⟩):=hs.dep 7 _ rfl rfl
     have e39:a.tmps.getD 39 undef=.bool nd:=hs.dep 10 _ rfl rfl
     have e40:a.tmps.getD 40 undef=.func (.func 212) #[] #[.pointer (some ⟨W.heap.size,0,none⟩),.pointer (some ⟨b6,0,none⟩)]:=hs.dep 11 _ rfl rfl
     refine wp_of_val ?_
     refine ValWp.call #[.pointer (some ⟨g,0,none⟩),.bool nd,.func (.func 212) #[] #[.pointer (some ⟨W.heap.size,0,none⟩),.pointer (some ⟨b6,0,none⟩)]] rfl rfl Tryz.func165 rfl rfl (by simp only[List.map_toArray,List.map_cons,List.map_nil,Act.eval,e36,e39,e40]) ?_
     refine(HPT.out w4 _ w hC).mono ?_
     rintro e w' ⟨rfl,h1,g1⟩
     exact⟨_,rfl,hK _ _ rfl (c7_one hC h1 g1)⟩
    ·
     refine OwesSE.w rfl fun a w u hC hl hs=>⟨rfl,fun K hK=>?_⟩
     have e34:a.tmps.getD 34 undef=.func (.func F) #[] cap:=hs.dep 5 _ rfl rfl
     have e35:a.tmps.getD 35 undef=.int .i64 n:=hs.dep 6 _ rfl rfl
     have e41:a.tmps.getD 41 undef=.int .i64 m:=hs.dep 12 _ rfl rfl
     refine wp_of_val ?_
     refine ValWp.callV (cap:=cap) (.tmp 34) #[.int .i64 n,.int .i64 m] rfl (by simp only[Act.eval,e34]) HEN.out (by simp only[List.map_toArray,List.map_cons,List.map_nil,Act.eval,e35,e41]) ?_
     refine(HOP.out w4 _ w hC).mono ?_
     rintro e w' ⟨rfl,h1,g1⟩
     exact⟨_,rfl,hK _ _ rfl (c7_two hC h1 g1)⟩
    ·
     refine OwesSE.w rfl fun a w u hC hl hs=>⟨rfl,fun K hK=>?_⟩
     have e42:a.tmps.getD 42 undef=.int .i64 r:=hs.dep 13 _ rfl rfl
     refine wp_of_val ?_
     refine ValWp.pure (v:=.int .i64 r) (w':=w) (fun K' hK'=>?_) (hK _ _ trivial (c7_three hC))
     simp only[ValWp,execOp,Act.eval,e42]
     go_simp
     all_goals exact hK'
   ·intro a w u hC hl hd hsz hfree hs
    obtain⟨u15,hu15⟩:∃ u,u=a.tmps.getD 15 undef:=⟨_,rfl⟩
    obtain⟨u16,hu16⟩:∃ u,u=a.tmps.getD 16 undef:=⟨_,rfl⟩
    obtain⟨u17,hu17⟩:∃ u,u=a.tmps.getD 17 undef:=⟨_,rfl⟩
    obtain⟨u18,hu18⟩:∃ u,u=a.tmps.getD 18 undef:=⟨_,rfl⟩
    obtain⟨u19,hu19⟩:∃ u,u=a.tmps.getD 19 undef:=⟨_,rfl⟩
    obtain⟨u20,hu20⟩:∃ u,u=a.tmps.getD 20 undef:=⟨_,rfl⟩
    obtain⟨u21,hu21⟩:∃ u,u=a.tmps.getD 21 undef:=⟨_,rfl⟩
    obtain⟨u22,hu22⟩:∃ u,u=a.tmps.getD 22 undef:=⟨_,rfl⟩
    obtain⟨u23,hu23⟩:∃ u,u=a.tmps.getD 23 undef:=⟨_,rfl⟩
    obtain⟨u24,hu24⟩:∃ u,u=a.tmps.getD 24 undef:=⟨_,rfl⟩
    obtain⟨u25,hu25⟩:∃ u,u=a.tmps.getD 25 undef:=⟨_,rfl⟩
    obtain⟨u26,hu26⟩:∃ u,u=a.tmps.getD 26 undef:=⟨_,rfl⟩
    obtain⟨u27,hu27⟩:∃ u,u=a.tmps.getD 27 undef:=⟨_,rfl⟩
    obtain⟨u28,hu28⟩:∃ u,u=a.tmps.getD 28 undef:=⟨_,rfl⟩
    obtain⟨u29,hu29⟩:∃ u,u=a.tmps.getD 29 undef:=⟨_,rfl⟩
    obtain⟨u30,hu30⟩:∃ u,u=a.tmps.getD 30 undef:=⟨_,rfl⟩
    obtain⟨u31,hu31⟩:∃ u,u=a.tmps.getD 31 undef:=⟨_,rfl⟩
    obtain⟨u32,hu32⟩:∃ u,u=a.tmps.getD 32 undef:=⟨_,rfl⟩
    obtain⟨u33,hu33⟩:∃ u,u=a.tmps.getD 33 undef:=⟨_,rfl⟩
    obtain⟨u34,hu34⟩:∃ u,u=a.tmps.getD 34 undef:=⟨_,rfl⟩
    obtain⟨u35,hu35⟩:∃ u,u=a.tmps.getD 35 undef:=⟨_,rfl⟩
    obtain⟨u36,hu36⟩:∃ u,u=a.tmps.getD 36 undef:=⟨_,rfl⟩
    obtain⟨u37,hu37⟩:∃ u,u=a.tmps.getD 37 undef:=⟨_,rfl⟩
    obtain⟨u38,hu38⟩:∃ u,u=a.tmps.getD 38 undef:=⟨_,rfl⟩
    obtain⟨u39,hu39⟩:∃ u,u=a.tmps.getD 39 undef:=⟨_,rfl⟩
    obtain⟨u40,hu40⟩:∃ u,u=a.tmps.getD 40 undef:=⟨_,rfl⟩
    obtain⟨u41,hu41⟩:∃ u,u=a.tmps.getD 41 undef:=⟨_,rfl⟩
    obtain⟨u42,hu42⟩:∃ u,u=a.tmps.getD 42 undef:=⟨_,rfl⟩
    obtain⟨u43,hu43⟩:∃ u,u=a.tmps.getD 43 undef:=⟨_,rfl⟩
    have hal:AllAt a 0 [.pointer (some ⟨g,0,none⟩),.int .i64 (least:Int),.pointer (some ⟨W.heap.size,0,none⟩),undef,.int .i64 0,u,.pointer (some ⟨b6,0,none⟩),.string (mkS s.tok),.pointer (some ⟨g,0,none⟩),.int .i64 n1,.pointer (some ⟨g,0,none⟩),.pointer (some ⟨g,0,none⟩),.pointer (some ⟨g,0,none⟩),.string (mkS s1.tok),.int .i64 (rowOf s1.tok),u15,u16,u17,u18,u19,u20,u21,u22,u23,u24,u25,u26,u27,u28,u29,u30,u31,u32,u33,u34,u35,u36,u37,u38,u39,u40,u41,u42,u43,undef]:=⟨hfree 0 rfl,hfree 1 rfl,hfree 2 rfl,hfree 3 rfl,hfree 4 rfl,hl,hfree 6 rfl,hfree 7 rfl,hfree 8 rfl,hfree 9 rfl,hfree 10 rfl,hfree 11 rfl,hfree 12 rfl,hfree 13 rfl,hfree 14 rfl,hu15.symm,hu16.symm,hu17.symm,hu18.symm,hu19.symm,hu20.symm,hu21.symm,hu22.symm,hu23.symm,hu24.symm,hu25.symm,hu26.symm,hu27.symm,hu28.symm,hu29.symm,hu30.symm,hu31.symm,hu32.symm,hu33.symm,hu34.symm,hu35.symm,hu36.symm,hu37.symm,hu38.symm,hu39.symm,hu40.symm,hu41.symm,hu42.symm,hu43.symm,hfree 44 rfl,trivial⟩
    have hlit:=fun h=>act_lit hd h hal
    rw[hlit hsz]
    clear hlit hal hd hsz hfree hs hu15 hu16 hu17 hu18 hu19 hu20 hu21 hu22 hu23 hu24 hu25 hu26 hu27 hu28 hu29 hu30 hu31 hu32 hu33 hu34 hu35 hu36 hu37 hu38 hu39 hu40 hu41 hu42 hu43
    clear hl
    obtain⟨hu5,h5,hL5,hg5⟩:=c7_at3 hC
    subst hu5
    obtain⟨⟨d0,d1,d2,d3,d4,d5,d6,d7,d8⟩,dz⟩:=h5.facts
    obtain⟨q2,q6,z6,_⟩:=hL5.facts
    have H5:=Lib.hid h5
    have HL5:=Lib.hid hL5
    have HG5:=Lib.hid (only_trans hg.out (only_trans G4.out hg5))
    have hwg:g<w.heap.size:=h5.lt
    have hw2:W.heap.size<w.heap.size:=lt_of_block hL5.h2
    have hw6:b6<w.heap.size:=lt_of_block hL5.h6
    clear h5 hL5 hg5 hC
    go_wp2_with (go_at_call 210;have h6:=H5.out.later (Later.alloc w (.cells #[.int .i64 (row:Int)] 3));(with_reducible refine(rowOf_v h6.en.tbs s3.tok).mono ?_);rintro e w6 ⟨rfl,rfl⟩)
    have h7:=loc_new H5.out hgl HG5.out HL5.out.h2 (wb:=w.alloc (.cells #[.int .i64 (rowOf s3.tok)] 3)) rfl
    go_roundw
    case rel=>exact⟨r,_,s3,ia,rfl,rfl,HJ,HL2,Lib.hid h7.1,Lib.hid h7.2.1,Lib.hid h7.2.2.1,Lib.hid h7.2.2.2⟩
    case measure=>rw[mz_rm h7.1,mz_rm hr.out];exact HM3.out
end
end Ar
end Go.Proofs.YtipdgmjplnibeaaGreatDoor
