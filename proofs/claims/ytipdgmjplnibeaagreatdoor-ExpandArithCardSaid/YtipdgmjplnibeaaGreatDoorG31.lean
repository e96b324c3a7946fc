import Derived.Test.YtipdgmjplnibeaaGreatDoorVe
import Derived.Test.YtipdgmjplnibeaaGreatDoorG21
set_option maxRecDepth 100000
set_option maxHeartbeats 6400000
namespace Go.Proofs.YtipdgmjplnibeaaGreatDoor
open Go.RowKit Go.Maps
set_option maxRecDepth 100000
namespace Ey
open Jo (ft fm rows own_ge)
open En (E RdE Vd Rises FrE)
def ag (c:UInt8) (l:List B):Nat→List Rw
 | 0=>[]
 | i+1=>ag c l i++((if 0<i then [[(32,98)]] else [])++[pt (l.getD i []) c])
theorem ag_succ (c:UInt8) (l:List B) (i:Nat):ag c l (i+1)=ag c l i++((if 0<i then [[(32,98)]] else [])++[pt (l.getD i []) c]):=rfl
theorem args_snoc (c:UInt8) (l:List B) (x:B):args c (l++[x])=args c l++((if l=[] then [] else [(32,98)])++pt x c):=by
 cases l with
 | nil=>simp[args]
 | cons y l=>simp[args]
theorem ag_flat (c:UInt8) (l:List B):∀ i,i≤l.length→(ag c l i).flatten=args c (l.take i)
 | 0,_=>by simp[ag,args]
 | i+1,h=>by
  have hl:l.take (i+1)=l.take i++[l[i]]:=List.take_succ_eq_append_getElem (by omega)
  have hg:l.getD i []=l[i]:=by simp[List.getD_eq_getElem?_getD,List.getElem?_eq_getElem (show i<l.length by omega)]
  rw[ag_succ,List.flatten_append,ag_flat c l i (by omega),hl,args_snoc,hg]
  congr 1
  rcases Nat.eq_zero_or_pos i with h0 | h0
  ·subst h0;simp
  ·have h1:l.take i≠[]:=fun e=>by
    have:=congrArg List.length e
    rw[List.length_take,List.length_nil] at this
    omega
   rw[if_pos h0,if_neg h1]
   simp
theorem ag_len (c:UInt8) (l:List B):∀ i,(ag c l i).length≤2*i
 | 0=>Nat.le_refl _
 | i+1=>by
  have:=ag_len c l i
  rw[ag_succ,List.length_append,List.length_append]
  split <;> simp <;> omega
theorem Wt.args {W:World} {X:Nat→Prop} {g m:Nat} {e:E} (h:Wt W X g m e):∃ A c,(∀ W',Later W W'→W'.cell? ⟨g,1,none⟩=some (.slice A e.args.length c))∧Rd W W.heap.size A e.args.length (e.args.map fun x=>.string (mkS x)):=by
 obtain⟨va,aa,hc⟩:=h.cells
 obtain⟨va',A,n,c,e1,_,h2,_⟩:=(hc W (Later.refl W)).2
 injection e1 with e1
 simp only[Array.mk.injEq,List.cons.injEq,and_true] at e1
 obtain⟨rfl,rfl⟩:=e1
 have hn:e.args.length=n:=h2.len_map
 subst hn
 exact⟨A,c,fun W' hl=>(hc W' hl).1.2.1,h2⟩
structure Ag (W wr:World) (out:List Rw) (v:Value):Prop where
 low:Later W wr
 rs:wr.heap[W.heap.size]?=some (.cells #[.string ⟨#[]⟩,.string ⟨#[]⟩] 37 (0,0))
 own:wr.ownsRow (W.heap.size+1) 37 2 v out.length (rows out)
theorem Ag.later {W wr wr':World} {out:List Rw} {v:Value} (h:Ag W wr out v) (hl:Later wr wr'):Ag W wr' out v:=
 ⟨h.low.trans hl,later_cells hl h.rs,own_below h.own hl⟩
theorem Ag.push {W wr wr':World} {out:List Rw} {v v':Value} {f:Rw} (h:Ag W wr out v) (hg:GrewK wr wr' (W.heap.size+1) 37 2 v v' (out.length+1) (rows out++[.string (mkS (ft f)),.string (mkS (fm f))])):Ag W wr' (out++[f]) v':=by
 have kp:∀ {k:Nat} {o:Obj},k<W.heap.size+1→wr.heap[k]?=some o→wr'.heap[k]?=some o:=fun hk ho=>(hg.grown.block _ (lt_of_block ho) (fun e=>by have:=(own_ge h.own e.symm).1;omega)).trans ho
 refine⟨⟨hg.grown.os.trans h.low.os,hg.grown.tape.trans h.low.tape,hg.grown.output.trans h.low.output,Nat.le_trans h.low.size hg.grown.size,fun k hk=>(hg.grown.block k (Nat.lt_of_lt_of_le hk h.low.size) fun e=>by have:=(own_ge h.own e.symm).1;omega).trans (h.low.block k hk)⟩,kp (by omega) h.rs,?_⟩
 have:=hg.own
 rw[←Jo.rows_app] at this
 rw[List.length_append]
 exact this
theorem Ag.own' {W wr:World} {out:List Rw} {v:Value} (h:Ag W wr out v) {n:Nat} (hn:n=out.length):wr.ownsRow (W.heap.size+1) 37 2 v n (rows out):=by subst hn;exact h.own
theorem Ag.push' {W wr wr':World} {out:List Rw} {v v':Value} {f:Rw} {n:Nat} (h:Ag W wr out v) (hn:n=out.length) (hg:GrewK wr wr' (W.heap.size+1) 37 2 v v' (n+1) (rows out++[.string (mkS (ft f)),.string (mkS (fm f))])):∃ A c,v'=.slice A (n+1) c∧Ag W wr' (out++[f]) (.slice A (n+1) c):=by
 subst hn
 have hp:=h.push hg
 obtain⟨A,c,e,_⟩:=own_any hp.own
 rw[show (out++[f]).length=out.length+1 by simp] at e
 exact⟨A,c,e,by rw[←e];exact hp⟩
theorem Ag.join {W wr:World} {out:List Rw} {A:Option Addr} {n c:Nat} {r:Rw} (h:Ag W wr out (.slice A n c)) (hn:n=out.length) (hf:out.flatten=r) (hr:r.length≤100000) (hl:n≤100000):Calls Tryz.prog 63 #[.slice A n c] wr fun e w'=>e=.returned (rv r)∧Later wr w':=by
 subst hn
 have hj:=Jo.join_v _ _ wr (Jo.RdR.of_own h.own) (by rw[allC_pr,hf];omega) (by rw[List.length_map];omega) (by
  intro x hx
  obtain⟨f,hfm,rfl⟩:=List.mem_map.1 hx
  show (ft f).length≤_
  have h1:=mem_flat hfm
  rw[hf] at h1
  unfold ft;rw[List.length_map];omega)
 rw[allC_pr,hf] at hj
 exact hj
theorem arguments_v {W:World} {X:Nat→Prop} {g m:Nat} {e:E} (h:Wt W X g m e) (c:UInt8) (hr:(args c e.args).length≤100000):Calls Tryz.prog 107 #[.pointer (some ⟨g,0,none⟩),.int .u8 (c.toNat:Int)] W fun x W'=>x=.returned (rv (args c e.args))∧Later W W':=by
 obtain⟨Aa,ca,hc,hrd⟩:=h.args
 obtain⟨_,_,hal,has,_⟩:=sm_facts h.sm
 obtain⟨n,hn⟩:∃ n,n=e.args.length:=⟨_,rfl⟩
 have HN:=Lib.hid hn
 rw[←hn] at hal hc hrd
 have HRD:=Lib.hid hrd
 have HAS:=Lib.hid has
 have HR:=Lib.hid hr
 have q1:=hc (W.alloc (.cells #[.string ⟨#[]⟩,.string ⟨#[]⟩] 37)) (Later.alloc _ _)
 have hcn:(c.toNat:Int)=(c.toNat:Int):=rfl
 have HRR:=Lib.hid (fun r:Rw=>show rv r=.agg #[.string (mkS (ft r)),.string (mkS (fm r))] from rfl)
 have HPT:=Lib.hid (show ∀ x,x.length≤100000→∀ W,Calls Tryz.prog 102 #[.string (mkS x),.int .u8 (c.toNat:Int)] W fun e W'=>e=.returned (rv (pt x c))∧Later W W' from fun x hx W=>put_v x c hx W)
 have HOF:=Lib.hid (show ∀ W,Calls Tryz.prog 136 #[.string ⟨#[32]⟩,.int .u8 98] W fun e w'=>e=.returned (.agg #[.string (mkS (ft [(32,98)])),.string (mkS (fm [(32,98)]))])∧Later W w' from fun W=>Jo.of_v [32] 98 W (by decide))
 have HA0:=Lib.hid (show Ag W (W.alloc (.cells #[.string ⟨#[]⟩,.string ⟨#[]⟩] 37)) [] (.slice none 0 0) from⟨Later.alloc _ _,heap_alloc_new _ _,World.ownsRow_nil _ _ _ _⟩)
 obtain⟨i0,hif,hz0,hz1,hz2⟩:=info_parts info_row2
 obtain⟨cn,hcn2⟩:∃ cn:Int,cn=(c.toNat:Int):=⟨_,rfl⟩
 rw[←hcn2] at HPT⊢
 clear hn hrd has hr hc h hcn hcn2
 go_enter Tryz.func107,Tryz.ntmps107
 go_wp2
 go_loopw [5,14] (fun s5 s14 wr=>∃ i:Nat,s14=.int .i64 (i:Int)∧i≤n∧Ag W wr (ag c e.args i) s5) (fun _ s14 _=>n-(intOf s14).toNat)
 case atStart=>exact⟨0,rfl,Nat.zero_le _,HA0.out⟩
 case round=>
  obtain⟨i,rfl,hi,hs⟩:=hrel
  obtain⟨Ar,cr,rfl,_⟩:=own_any hs.own
  have HS:=Lib.hid hs
  have hi0:(0:Int)≤(i:Int):=by omega
  have HLN:=Lib.hid (ag_len c e.args i)
  by_cases hlt:i<n
  ·have hi1:(i:Int)<(n:Int):=by omega
   obtain⟨ad,hk,rfl,hb,hcx⟩:=((HRD.out.below hs.low).more hs.low.size).at_map hlt
   obtain⟨x,hx⟩:∃ x,x=e.args[i]:=⟨_,rfl⟩
   rw[←hx] at hcx
   have HPX:=Lib.hid (HPT.out x (by rw[hx];exact HAS.out _ (List.getElem_mem _)))
   have HAG:=Lib.hid (show ag c e.args (i+1)=ag c e.args i++((if 0<i then [[(32,98)]] else [])++[pt x c]) by rw[ag_succ,hx];congr 3;simp[List.getD_eq_getElem?_getD,List.getElem?_eq_getElem hk])
   have HII:=Lib.hid hi
   clear hs hx hi
   by_cases h0:0<i
   ·have hi2:(0:Int)<(i:Int):=by omega
    have hag:=HAG.out
    rw[if_pos h0,←List.append_assoc] at hag
    have HAG1:=Lib.hid hag
    clear hag h0 HAG
    go_wp2_with (first
     |(go_at_call 136;(with_reducible refine(HOF.out _).mono ?_);rintro e w1 ⟨rfl,hl1⟩;(have HS1:=Lib.hid (HS.out.later hl1));clear hl1)
     |(at_builtin;refine wpList_appK w1 #[.string (mkS (ft [(32,98)])),.string (mkS (fm [(32,98)]))] 2 (by omega) rfl (by intro u hu;simp at hu;rcases hu with rfl | rfl <;> rfl) rfl (.tmp 21) (.tmp 23) 30 37 rfl i0 _ 32 Tryz.underlying30 hif hz0 hz1 hz2 rfl (W.heap.size+1) (.slice Ar (ag c e.args i).length cr) (ag c e.args i).length (rows (ag c e.args i)) rfl (HS1.out.own' (by simp)) _ rfl rfl (by have:=HLN.out;have:=HII.out;omega) (by have:=HLN.out;have:=HII.out;omega) (lt_of_block HS1.out.rs) ?_;intro v2 w2 hg2;obtain⟨A2,c2,rfl,hp2⟩:=HS1.out.push' (by simp) hg2;(have HQ2:=Lib.hid hp2);clear hg2 hp2)
     |(go_at_call 102;(with_reducible refine(HPX.out _).mono ?_);rintro e w3 ⟨rfl,hl3⟩;rw[HRR.out];(have HS3:=Lib.hid (HQ2.out.later hl3));clear hl3)
     |(at_builtin;refine wpList_appK w3 #[.string (mkS (ft (pt x c))),.string (mkS (fm (pt x c)))] 2 (by omega) rfl (by intro u hu;simp at hu;rcases hu with rfl | rfl <;> rfl) rfl (.tmp 25) (.tmp 29) 30 37 rfl i0 _ 32 Tryz.underlying30 hif hz0 hz1 hz2 rfl (W.heap.size+1) (.slice A2 ((ag c e.args i).length+1) c2) ((ag c e.args i).length+1) (rows (ag c e.args i++[[(32,98)]])) rfl (HS3.out.own' (by simp)) _ rfl rfl (by have:=HLN.out;have:=HII.out;omega) (by have:=HLN.out;have:=HII.out;omega) (lt_of_block HS3.out.rs) ?_;intro v4 w4 hg4;obtain⟨A4,c4,rfl,hp4⟩:=HS3.out.push' (by simp) hg4;(have HQ4:=Lib.hid hp4);clear hg4 hp4))
    go_roundw
    case rel=>exact⟨i+1,by go_num,by omega,by rw[HAG1.out];exact HQ4.out⟩
    case measure=>simp[intOf];omega
   ·have hi2:¬ (0:Int)<(i:Int):=by omega
    have hag:=HAG.out
    rw[if_neg h0,List.nil_append] at hag
    have HAG1:=Lib.hid hag
    clear hag h0 HAG
    go_wp2_with (first
     |(go_at_call 102;(with_reducible refine(HPX.out _).mono ?_);rintro e w3 ⟨rfl,hl3⟩;rw[HRR.out];(have HS3:=Lib.hid (HS.out.later hl3));clear hl3)
     |(at_builtin;refine wpList_appK w3 #[.string (mkS (ft (pt x c))),.string (mkS (fm (pt x c)))] 2 (by omega) rfl (by intro u hu;simp at hu;rcases hu with rfl | rfl <;> rfl) rfl (.tmp 25) (.tmp 29) 30 37 rfl i0 _ 32 Tryz.underlying30 hif hz0 hz1 hz2 rfl (W.heap.size+1) (.slice Ar (ag c e.args i).length cr) (ag c e.args i).length (rows (ag c e.args i)) rfl (HS3.out.own' (by simp)) _ rfl rfl (by have:=HLN.out;have:=HII.out;omega) (by have:=HLN.out;have:=HII.out;omega) (lt_of_block HS3.out.rs) ?_;intro v4 w4 hg4;obtain⟨A4,c4,rfl,hp4⟩:=HS3.out.push' (by simp) hg4;(have HQ4:=Lib.hid hp4);clear hg4 hp4))
    go_roundw
    case rel=>exact⟨i+1,by go_num,by omega,by rw[HAG1.out];exact HQ4.out⟩
    case measure=>simp[intOf];omega
  ·have hin:i=n:=by omega
   have hfl:=ag_flat c e.args i (by rw[←HN.out];exact hi)
   rw[show e.args.take i=e.args by rw[hin,HN.out];exact List.take_length] at hfl
   have HJ:=Lib.hid (HS.out.join rfl hfl HR.out (by have:=HLN.out;omega))
   have hni:¬ (i:Int)<(n:Int):=by omega
   clear hfl hin hs
   go_wp2_with (go_at_call 63;(with_reducible refine HJ.out.mono ?_);rintro e w3 ⟨rfl,hl3⟩;rw[HRR.out];(have hn3:=later_cells hl3 HS.out.rs);obtain⟨r0,z0⟩:=cell_row hn3 0;obtain⟨r1,z1⟩:=cell_row hn3 1;(have HN3:=Lib.hid hn3);(have HL3:=Lib.hid (HS.out.low.trans hl3));clear hl3 hn3)
   refine end_row rfl rfl HN3.out rfl rfl fun w4 h4=>⟨rfl,later_of_new HL3.out h4 (Nat.le_refl _)⟩
end Ey
end Go.Proofs.YtipdgmjplnibeaaGreatDoor
namespace Go.Proofs.YtipdgmjplnibeaaGreatDoor
open Go.RowKit Go.Maps
set_option maxRecDepth 100000
theorem modify_comm {α:Type} (A:Array α) (i j:Nat) (f f2:α→α) (h:i≠j):(A.modify i f).modify j f2=(A.modify j f2).modify i f:=by
 apply Array.ext
 ·simp
 ·intro k h1 h2
  simp only[Array.getElem_modify]
  by_cases e1:i=k <;> by_cases e2:j=k <;> simp_all
theorem set_comm (w:World) (a b:Addr) (u v:Value) (h:a.block≠b.block):(w.setCell a u).setCell b v=(w.setCell b v).setCell a u:=by
 unfold World.setCell
 simp only[World.mk.injEq,true_and]
 exact⟨modify_comm _ _ _ _ _ h,trivial⟩
theorem sets_comm (b:Nat) (a:Addr) (u:Value) (h:a.block≠b):∀ (vs:List Value) (o:Nat) (w:World),(w.setCell a u).setCells b o vs=(w.setCells b o vs).setCell a u
 | [],_,_=>rfl
 | v::r,o,w=>by
  rw[World.setCells,World.setCells,set_comm w a ⟨b,o,none⟩ u v h,sets_comm b a u h r (o+1)]
theorem sets_own {b c n base size:Nat} {e:TypeId}:∀ (vs:List Value) (o:Nat) (w:World) (xs:List Value),w.ownsRow base e size (.slice (some ⟨b,0,none⟩) n c) n xs→o+vs.length=xs.length→(w.setCells b o vs).ownsRow base e size (.slice (some ⟨b,0,none⟩) n c) n (xs.take o++vs)∧w.grownBy (w.setCells b o vs) (some b)
 | [],o,w,xs,h,hl=>by
  rw[List.append_nil,List.take_of_length_le (by simp at hl;omega)]
  exact⟨h,World.grownBy.refl _ _⟩
 | v::r,o,w,xs,h,hl=>by
  rw[World.setCells]
  obtain⟨h1,h2⟩:=h.stored o v
  obtain⟨h3,h4⟩:=sets_own r (o+1) (w.setCell ⟨b,o,none⟩ v) (xs.set o v) h1 (by rw[List.length_set];simp at hl;omega)
  refine⟨?_,only_trans h2 h4⟩
  have e1:(xs.set o v).take (o+1)++r=xs.take o++v::r:=by
   have ho:o<xs.length:=by simp at hl;omega
   rw[List.take_succ_eq_append_getElem (by rw[List.length_set];exact ho),List.getElem_set_self,List.take_set_of_le (Nat.le_refl _)]
   simp
  rw[e1] at h3
  exact h3
theorem sets_cell {b:Nat} {a:Addr} (h:a.block≠b) (vs:List Value) (o:Nat) (w:World):(w.setCells b o vs).cell? a=w.cell? a:=World.cell?_setCells_out b vs o w a (fun e=>absurd e h)
theorem sets_frozen {b:Nat} {a:Addr}:∀ (vs:List Value) (o:Nat) (w:World),(w.setCells b o vs).frozen? a=w.frozen? a
 | [],_,_=>rfl
 | v::r,o,w=>by rw[World.setCells,sets_frozen r (o+1),World.frozen?_setCell]
def zp:List Value:=[.int .i64 0,.string ⟨#[]⟩,.string ⟨#[]⟩,.bool false,.slice none 0 0]
structure Push (W:World) (g:Nat) (vp v':Value) (b n:Nat) (cs:List Value) (C:List Bool→World→Prop) (F:World→Prop):Prop where
 c0:C [false,false,false,false] W.drew
 a0:∀ w,C [false,false,false,false] w→w=W.drew
 c1:C [true,false,false,false] (W.drew.alloc (.cells zp.toArray 105))
 a1:∀ w,C [true,false,false,false] w→∃ w',(Builtin.append_ #[86,86] 86 #[vp,.slice (some ⟨W.drew.heap.size,0,none⟩) 1 1]).run Tryz.prog w=.ok v' w'∧C [true,true,false,false] w'
 s2:∀ w y,C [true,true,false,y] w→w.there b (n*5) 5∧C [true,true,true,y] (w.setCells b (n*5) cs)
 s3:∀ w y,C [true,true,y,false] w→(w.cell? ⟨g,0,none⟩=some vp∧w.frozen? ⟨g,0,none⟩=false)∧C [true,true,y,true] (w.setCell ⟨g,0,none⟩ v')
 q:∀ bits w,C bits w→bits[1]?=some false→Later W w
 len:∀ bits w,C bits w→∃ a b c d,bits=[a,b,c,d]∧(c=true→b=true)∧(d=true→b=true)∧(b=true→a=true)
 v:∃ k,v'=.slice (some ⟨b,0,none⟩) (n+1) k∧n+1≤k
 f:∀ w,C [true,true,true,true] w→F w
theorem push {W:World} {X T:Nat→Prop} {g s dp:Nat} {raw:L} {r:Wd.R} {x:Wd.S} {vp vt:Value} {nd:List (Wd.P×Value)} (h:RMx W X T g s raw dp r x vp vt nd) (y:Wd.P×Value) (hy:PsAt W T y.2 y.1.w) (hlen:nd.length≤1000000000) :
  ∃ v' b C,Push W g vp v' b nd.length (pcs y) C fun w=>RMx w X T g s raw dp ⟨r.ps++[y.1],r.k,r.t⟩ x v' vt (nd++[y])∧Fr (un X T) W w:=by
 obtain⟨i0,hi,hz0,hz1,hz2⟩:=info_parts info_part3
 obtain⟨wa,hwa⟩:∃ wa,wa=W.drew.alloc (.cells zp.toArray 105):=⟨_,rfl⟩
 have hla:Later W wa:=by rw[hwa];exact(Later.drew W).trans (Later.alloc _ _)
 have hba:wa.heap[W.drew.heap.size]?=some (.cells zp.toArray 105 (0,0)):=by rw[hwa];exact heap_alloc_new W.drew _
 obtain⟨v',w2,hrun,h2,h3,h4,h5⟩:=run_append_own_at (P:=Tryz.prog) wa 0 86 86 105 i0 _ 5 72 Tryz.underlying86 hi hz0 hz1 hz2 rfl (by omega) vp nd.length (cellsP nd) (own_below h.row hla) ⟨W.drew.heap.size,0,none⟩ 1 1 zp rfl
  (fun j u hj=>by rw[add_lit0,(cell_row hba j).1];simpa using hj) (by intro u hu;simp only[zp,List.mem_cons,List.not_mem_nil,or_false] at hu;rcases hu with rfl | rfl | rfl | rfl | rfl <;> rfl) (by unfold maxLen;omega) (by omega) (Nat.zero_le _)
 obtain⟨b,k,hv,hk⟩:∃ b k,v'=.slice (some ⟨b,0,none⟩) (nd.length+1) k∧nd.length+1≤k:=by
  rcases h2.2 with⟨_,h0⟩ | ⟨g',cap,cur,hv,_,_,hnc,_⟩
  ·omega
  ·exact⟨g',cap,hv,hnc⟩
 have hg2:W.grownBy w2 vp.ownBlock:=later_grown hla h3
 have hm:Moved W vp v':=by
  rcases h5 with h5 | h5
  ·exact .inl h5
  ·exact .inr ⟨_,h5,hla.size⟩
 subst hv
 have hpl:(pcs y).length=5:=rfl
 have hcl:=cellsP_len nd
 have hw3:=sets_own (pcs y) (nd.length*5) w2 _ h2 (by rw[List.length_append,hcl,hpl];rfl)
 rw[←hcl,List.take_left,hcl] at hw3
 have hg3:W.grownBy (w2.setCells b (nd.length*5) (pcs y)) vp.ownBlock:=by
  refine⟨hw3.2.os.trans hg2.os,hw3.2.tape.trans hg2.tape,hw3.2.output.trans hg2.output,Nat.le_trans hg2.size hw3.2.size,fun i hi hne=>?_⟩
  refine(hw3.2.block i (Nat.lt_of_lt_of_le hi hg2.size) fun e=>?_).trans (hg2.block i hi hne)
  rcases hm with e1 | ⟨j,e1,hj⟩
  ·exact hne (by rw[←e1];exact e)
  ·injection e1 with e1
   have e1:b=j:=e1
   injection e with e
   omega
 have hgb:w2.heap[g]?=W.heap[g]?:=hg2.block g h.lt fun e=>row_ne h.box h.row (by decide) e.symm
 have hbg:b≠g:=fun e=>by
  obtain⟨cs',hb'⟩:=own_type h2 (b:=b) rfl
  rw[e,hgb,h.box] at hb'
  injection hb' with hb'
  injection hb' with _ hb' _
  revert hb'
  decide
 have hth:∀ w:World,(∀ j,w.cell? ⟨b,j,none⟩=w2.cell? ⟨b,j,none⟩)→(∀ j,w.frozen? ⟨b,j,none⟩=w2.frozen? ⟨b,j,none⟩)→w.there b (nd.length*5) 5:=fun w hc hf j hj=>by
  rw[hc,hf]
  refine⟨?_,h2.frozenAt _⟩
  have hl2:nd.length*5+j<(cellsP nd++zp).length:=by rw[List.length_append,hcl];show _<_+5;omega
  have h8:=h2.cells (g:=b) rfl (nd.length*5+j) _ (List.getElem?_eq_getElem hl2)
  rw[add_lit0] at h8
  rw[h8];rfl
 have hc0:∀ w:World,w.heap[g]?=W.heap[g]?→w.cell? ⟨g,0,none⟩=some vp∧w.frozen? ⟨g,0,none⟩=false:=fun w e=>by
  have h9:=cell_row (e.trans h.box) 0
  exact⟨h9.1,h9.2⟩
 have hfin:=h.added (W1:=w2.setCells b (nd.length*5) (pcs y)) (y:=y) hw3.1 hg3 hm hy
 have hbs:∀ (u:Value) (w:World),(w.setCell ⟨g,0,none⟩ u).setCells b (nd.length*5) (pcs y)=(w.setCells b (nd.length*5) (pcs y)).setCell ⟨g,0,none⟩ u:=fun u w=>sets_comm b ⟨g,0,none⟩ u (fun e=>hbg e.symm) (pcs y) (nd.length*5) w
 let C:List Bool→World→Prop:=fun bits w=>match bits with
  | [false,false,false,false]=>w=W.drew
  | [true,false,false,false]=>w=wa
  | [true,true,false,false]=>w=w2
  | [true,true,true,false]=>w=w2.setCells b (nd.length*5) (pcs y)
  | [true,true,false,true]=>w=w2.setCell ⟨g,0,none⟩ (.slice (some ⟨b,0,none⟩) (nd.length+1) k)
  | [true,true,true,true]=>w=(w2.setCells b (nd.length*5) (pcs y)).setCell ⟨g,0,none⟩ (.slice (some ⟨b,0,none⟩) (nd.length+1) k)
  | _=>False
 refine⟨.slice (some ⟨b,0,none⟩) (nd.length+1) k,b,C,⟨rfl,fun w hw=>hw,hwa.symm,fun w hw=>⟨w2,by rw[show w=wa from hw];exact hrun,rfl⟩,fun w yb hw=>?_,fun w yb hw=>?_,fun bits w hw hb=>?_,fun bits w hw=>?_,⟨k,rfl,hk⟩,fun w hw=>?_⟩⟩
 ·cases yb with
  | false=>
   have e1:w=w2:=hw
   subst e1
   exact⟨hth _ (fun _=>rfl) (fun _=>rfl),rfl⟩
  | true=>
   have e1:w=w2.setCell ⟨g,0,none⟩ (.slice (some ⟨b,0,none⟩) (nd.length+1) k):=hw
   subst e1
   exact⟨hth _ (fun j=>World.cell?_setCell_other _ _ _ _ (by simp[hbg])) (fun j=>World.frozen?_setCell _ _ _ _),hbs _ _⟩
 ·cases yb with
  | false=>
   have e1:w=w2:=hw
   subst e1
   exact⟨hc0 _ hgb,rfl⟩
  | true=>
   have e1:w=w2.setCells b (nd.length*5) (pcs y):=hw
   subst e1
   exact⟨hc0 _ ((hw3.2.block g (Nat.lt_of_lt_of_le h.lt hg2.size) (fun e=>hbg (by injection e with e;exact e.symm))).trans hgb),rfl⟩
 ·match bits,hw,hb with
  | [false,false,false,false],hw,_=>rw[show w=W.drew from hw];exact Later.drew W
  | [true,false,false,false],hw,_=>rw[show w=wa from hw];exact hla
  | [true,true,false,false],_,hb=>cases hb
  | [true,true,true,false],_,hb=>cases hb
  | [true,true,false,true],_,hb=>cases hb
  | [true,true,true,true],_,hb=>cases hb
 ·match bits,hw with
  | [false,false,false,false],_=>exact⟨_,_,_,_,rfl,by simp⟩
  | [true,false,false,false],_=>exact⟨_,_,_,_,rfl,by simp⟩
  | [true,true,false,false],_=>exact⟨_,_,_,_,rfl,by simp⟩
  | [true,true,true,false],_=>exact⟨_,_,_,_,rfl,by simp⟩
  | [true,true,false,true],_=>exact⟨_,_,_,_,rfl,by simp⟩
  | [true,true,true,true],_=>exact⟨_,_,_,_,rfl,by simp⟩
 ·rw[show w=_ from hw]
  exact hfin
end Go.Proofs.YtipdgmjplnibeaaGreatDoor
