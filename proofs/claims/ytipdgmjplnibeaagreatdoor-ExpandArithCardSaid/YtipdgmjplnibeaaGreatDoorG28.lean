import Derived.Test.YtipdgmjplnibeaaGreatDoorG27
set_option maxRecDepth 100000
set_option maxHeartbeats 12800000
namespace Go.Proofs.YtipdgmjplnibeaaGreatDoor
open Go.RowKit Go.Maps
namespace En
def InsOk (W W':World) (e:Ending) (l:Vs):Prop:=(∃ (g c:Nat) (z:List Value),e=.returned (.slice (some ⟨g,0,none⟩) l.length c)∧PrB W' g l z∧l.length≤c∧c≤9223372036854775807∧W.heap.size≤g)∧Later W W'
theorem insert_end (g gv:Nat) (vs:Vs) (x:B×B) (W:World) (hp:PrB W g vs []) (hv:PrB W gv [x] []) (hn:vs.length≤1000000):Calls Tryz.prog 31 #[.slice (some ⟨g,0,none⟩) vs.length vs.length,.int .i64 (vs.length:Int),.slice (some ⟨gv,0,none⟩) 1 1] W fun e W'=>InsOk W W' e (vs++[x]):=by
 have HINS:=Lib.hid (fun ty=>ins_end hp hv hn ty)
 obtain⟨n,hnn⟩:∃ n,n=vs.length:=⟨_,rfl⟩
 have HN:=Lib.hid hnn
 rw[←hnn] at HINS hn⊢
 have hnn1:n≤n:=Nat.le_refl _
 obtain⟨A',hA'⟩:∃ A':Option Addr,A'=if n=n then some ⟨g,0,none⟩ else some ⟨g,n*2,none⟩:=⟨_,rfl⟩
 clear hp hv hnn
 go_enter Tryz.func31,Tryz.ntmps31
 go_wp2_with (at_builtin;obtain⟨c,w',z,hr,hp',h1,h2,h3⟩:=HINS.out _;refine Lib.wpList_append_run _ rfl _ _ _ _ rfl _ _ rfl rfl _ _ hr ?_;(have HP:=Lib.hid (And.intro hp' (And.intro h1 (And.intro h2 h3))));clear hr hp' h1 h2 h3)
 go_ret
 obtain⟨h1,h2,h3,h4⟩:=HP.out
 refine⟨⟨W.heap.size,c,z,?_,h1,?_,h3,Nat.le_refl _⟩,h4⟩
 ·rw[List.length_append,←HN.out];rfl
 ·rw[List.length_append,←HN.out];exact h2
theorem take_one_more {α:Type} {A Z:List α} {x:α} {i:Nat} (h:A.length=i):(A++x::Z).take (i+1)=A++[x]:=by
 subst h
 rw[show A++x::Z=(A++[x])++Z by simp,show A.length+1=(A++[x]).length by simp,List.take_left]
theorem insert_mid (g gv:Nat) (vs:Vs) (x:B×B) (i:Nat) (hi:i<vs.length) (W:World) (hp:PrB W g vs []) (hv:PrB W gv [x] []) (hn:vs.length≤1000000):Calls Tryz.prog 31 #[.slice (some ⟨g,0,none⟩) vs.length vs.length,.int .i64 (i:Int),.slice (some ⟨gv,0,none⟩) 1 1] W fun e W'=>InsOk W W' e (vs.take i++x::vs.drop i):=by
 have HMK:=Lib.hid (fun ty=>ins_make hp hn hi ty)
 have HGN:=Lib.hid (And.intro (lt_of_block hp) (lt_of_block hv))
 have HPP:=Lib.hid (And.intro hp hv)
 obtain⟨n,hnn⟩:∃ n,n=vs.length:=⟨_,rfl⟩
 have HN:=Lib.hid hnn
 rw[←hnn] at HMK hn hi⊢
 have hi0:(0:Int)≤(i:Int):=by omega
 have hi1:(i:Int)≤(n:Int):=by omega
 have hi2:¬ (i:Int)=(n:Int):=by omega
 have hi3:(n:Int)<(n:Int)+1:=by omega
 have hi4:(n:Int)+1-(i:Int)=((n+1-i:Nat):Int):=by omega
 clear hp hv hnn
 go_enter Tryz.func31,Tryz.ntmps31
 go_wp2_with (at_builtin;obtain⟨c,w1,z,hr1,hp1,hc1,hc2,hl1⟩:=HMK.out _;refine Lib.wpList_append_run _ rfl _ _ _ _ rfl _ _ rfl rfl _ _ hr1 ?_;(have HP1:=Lib.hid (And.intro hp1 hl1));(have hci:¬ c=i:=by omega);(have hic:(i:Int)≤(c:Int):=by omega);(have hci1:¬ c=i+1:=by omega);(have HCC:=Lib.hid (And.intro hc1 hc2));(have hc1':n+1≤c:=hc1);clear hr1 hp1 hl1 hc1 hc2;obtain⟨w2,hr2,hp2,hg2⟩:=HP1.out.1.copy (k:=i) (m:=[x]) (by rw[List.length_append,List.length_take,zs_len,←HN.out];show i+1≤_;omega) 3 (n+1-i) (c-i) 1 1 ⟨gv,0,none⟩ (by show Nat.min 1 (n+1-i)=1;simp only[Nat.min_def];split <;> omega) (fun j u hu=>by rw[add_lit0];have:=(HPP.out.2.later HP1.out.2).lie (k:=0) (Nat.zero_le _) (by rw[List.drop_zero];exact hu);simpa using this);(have HP2:=Lib.hid (And.intro hp2 (later_of_new HP1.out.2 hg2 (Nat.le_refl _))));clear hp2 hg2)
 have hrow:(vs.take i++zs (n+1-i)).take i++[x]++(vs.take i++zs (n+1-i)).drop (i+[x].length)=vs.take i++x::zs (n-i):=by
  have h1:(vs.take i).length=i:=by rw[List.length_take,←HN.out];omega
  rw[List.take_append_of_le_length (by omega),List.take_of_length_le (by omega),List.drop_append,List.drop_of_length_le (by simp;omega),List.nil_append,h1]
  show vs.take i++[x]++(zs (n+1-i)).drop (i+1-i)=_
  rw[show i+1-i=1 by omega,show n+1-i=(n-i)+1 by omega,zs,List.replicate_succ,List.drop_succ_cons,List.drop_zero,List.append_assoc]
  rfl
 have hlen:(vs.take i++x::zs (n-i)).length=n+1:=by rw[List.length_append,List.length_cons,zs_len,List.length_take,←HN.out];omega
 have hp2:=HP2.out.1
 rw[hrow] at hp2
 have hp2d:PrB w2.drew W.heap.size (vs.take i++x::zs (n-i)) z:=hp2
 obtain⟨w3,hr3,hp3,hg3⟩:=hp2d.copy (k:=i+1) (m:=vs.drop i) (by rw[hlen,List.length_drop,←HN.out];omega) 3 (n+1-(i+1)) (c-(i+1)) (n-i) (n-i) ⟨g,i*2,none⟩ (by rw[List.length_drop,←HN.out];simp only[Nat.min_def];split <;> omega) (fun j u hu=>by rw[add_at];exact(HPP.out.1.later (HP2.out.2.trans (Later.drew w2))).lie (by rw[←HN.out];omega) hu)
 have hrow3:(vs.take i++x::zs (n-i)).take (i+1)++vs.drop i++(vs.take i++x::zs (n-i)).drop (i+1+(vs.drop i).length)=vs.take i++x::vs.drop i:=by
  have hd:n+1≤i+1+(vs.drop i).length:=by rw[List.length_drop,←HN.out];omega
  rw[List.drop_of_length_le (Nat.le_trans (Nat.le_of_eq hlen) hd),List.append_nil,take_one_more (by rw[List.length_take,←HN.out];omega)]
  simp
 rw[hrow3] at hp3
 have HP3:=Lib.hid (And.intro hp3 (later_of_new (HP2.out.2.trans (Later.drew w2)) hg3 (Nat.le_refl _)))
 clear hrow hlen hp2 hp2d hp3 hg3 hrow3 hr2
 have mixed:Tryz.prog.follows .mixedOrders=true:=by kernel_rfl
 have hw1:IntKind.i64.wrap ((i:Int)+1)=(i:Int)+1:=by rw[IntKind.wrap_i64];omega
 have hb1:(0:Int)≤(i:Int)+1:=by omega
 have hb2:(i:Int)+1≤(n:Int)+1:=by omega
 have hb3:(i:Int)≤(n:Int):=hi1
 have htn:((i:Int)+1).toNat=i+1:=by omega
 have hin:i≤n:=by omega
 have hni:¬ n=i:=by omega
 go_region_law_o (refine step_copy_runI rfl _ _ 67 67 rfl (.slice (some ⟨W.heap.size,(i+1)*2,none⟩) (n+1-(i+1)) (c-(i+1))) (.slice (some ⟨g,i*2,none⟩) (n-i) (n-i)) (by simp[Act.eval,Act.put]) (by simp[Act.eval,Act.put]) hr3 ?_)
 go_wp2
 go_ret
 refine⟨⟨W.heap.size,c,z,?_,HP3.out.1,?_,HCC.out.2,Nat.le_refl _⟩,HP3.out.2⟩
 ·rw[show (vs.take i++x::vs.drop i).length=n+1 by rw[List.length_append,List.length_cons,List.length_take,List.length_drop,←HN.out];omega];rfl
 ·rw[show (vs.take i++x::vs.drop i).length=n+1 by rw[List.length_append,List.length_cons,List.length_take,List.length_drop,←HN.out];omega];exact HCC.out.1
theorem insert_v (g gv:Nat) (vs:Vs) (x:B×B) (i:Nat) (hi:i≤vs.length) (W:World) (hp:PrB W g vs []) (hv:PrB W gv [x] []) (hn:vs.length≤1000000):Calls Tryz.prog 31 #[.slice (some ⟨g,0,none⟩) vs.length vs.length,.int .i64 (i:Int),.slice (some ⟨gv,0,none⟩) 1 1] W fun e W'=>InsOk W W' e (vs.take i++x::vs.drop i):=by
 by_cases h:i<vs.length
 ·exact insert_mid g gv vs x i h W hp hv hn
 ·have e:i=vs.length:=by omega
  subst e
  rw[List.take_length,List.drop_length]
  exact insert_end g gv vs x W hp hv hn
end En
end Go.Proofs.YtipdgmjplnibeaaGreatDoor
namespace Go.Proofs.YtipdgmjplnibeaaGreatDoor
open Go.RowKit Go.Maps
namespace En
theorem del_app {w:World} {g:Nat} {vs:Vs} (hp:PrB w g vs []) {i:Nat} (hi:i<vs.length) (ty:TypeId) (c2:Nat) (A:Option Addr) (hA:A=if vs.length=i+1 then some ⟨g,0,none⟩ else some ⟨g,(i+1)*2,none⟩) :
  ∃ w' x,(Builtin.append_ #[67,67] ty #[.slice (some ⟨g,0,none⟩) i vs.length,.slice A (vs.length-(i+1)) c2]).run Tryz.prog w=.ok (.slice (some ⟨g,0,none⟩) (vs.length-1) vs.length) w'∧PrB w' g (vs.take i++vs.drop (i+1)) (prs [x])∧w.grownBy w' (some g):=by
 obtain⟨i0,hif,hz0,hz1,hz2⟩:=info_parts info_var
 obtain⟨ad,had⟩:∃ ad,A=some ad:=by rw[hA];split <;> exact⟨_,rfl⟩
 have hsrc:∀ j u,(prs (vs.drop (i+1)))[j]?=some u→w.cell? (ad.add j)=some u:=by
  intro j u hu
  by_cases h:vs.length=i+1
  ·have e:vs.drop (i+1)=[]:=List.drop_of_length_le (by omega)
   rw[e] at hu
   cases hu
  ·rw[if_neg h,had] at hA
   have e:ad=⟨g,(i+1)*2,none⟩:=Option.some.inj hA
   rw[e,add_at]
   exact hp.lie (by omega) hu
 have hl:=prs_len vs
 have hd:=prs_len (vs.drop (i+1))
 rw[List.length_drop] at hd
 have hti:(vs.take i).length=i:=by rw[List.length_take];omega
 have hr:=run_append_room (P:=Tryz.prog) w 67 ty 72 i0 Tryz.underlying67 hif g i vs.length _ hp ad (vs.length-(i+1)) c2 (prs (vs.drop (i+1))) (by rw[hz1,hd]) hsrc (prs_one_cell _) (by omega) (by rw[hz1];simp;omega)
 rw[hz1,show i+(vs.length-(i+1))=vs.length-1 by omega] at hr
 rw[had]
 refine⟨_,vs[vs.length-1],hr,?_,setRow_grown _ _ _⟩
 unfold PrB
 rw[setRow_heap _ _ _ _ _ _ hp]
 show some (Obj.cells ((prs vs++[]).take (i*2)++prs (vs.drop (i+1))++(prs vs++[]).drop (i*2+(prs (vs.drop (i+1))).length)).toArray _ _)=_
 rw[List.append_nil,hd,prs_take_eq (by omega),show i*2+(vs.length-(i+1))*2=(vs.length-1)*2 by omega,prs_drop_eq (by omega),prs_app]
 rw[show vs.drop (vs.length-1)=[vs[vs.length-1]] by
  rw[List.drop_eq_getElem_cons (by omega),List.drop_of_length_le (by omega)]]
theorem step_append_runI {P:Program} {ops:Array Oper} {o:Oper} {a:Act} {w:World} {K:Act→World→Prop} {Q:Exit→Act→World→Prop} {E:Prop}
  (hg:o.guard=none) (d x:Operand) (dT sT:TypeId) (hop:o.op=Op.call { callee:=Callee.builtin Builtin.append,args:=#[d,x],argTypes:=#[dT,sT] })
  (v u:Value) (hd:a.eval d=v) (hx:a.eval x=u) {v':Value} {w':World} (hr:(Builtin.append_ #[dT,sT] o.type #[v,u]).run P w=.ok v' w') (hK:K (a.put o.dst v') w') :
  if Region.wanted o (yielded ops a.tmps)=true then Oper.wp P o a w K Q else E:=by
 have hw:Region.wanted o (yielded ops a.tmps)=true:=by simp[Region.wanted,hg]
 rw[if_pos hw]
 unfold Oper.wp
 simp[execOp,hop,resolve,invoke,builtin,hd,hx,hr,Result.andThen]
 exact hK
theorem del_clear {w:World} {g:Nat} {l:Vs} {x:B×B} (hp:PrB w g l (prs [x])) (ty:TypeId) (c:Nat) :
  ∃ w' z,(Builtin.clear_ #[67] ty #[.slice (some ⟨g,l.length*2,none⟩) 1 c]).run Tryz.prog w=.ok (.tuple #[]) w'∧PrB w' g l z∧w.grownBy w' (some g):=by
 have hl:=prs_len l
 obtain⟨cur,h1,h2,h3⟩:=run_clear_row (P:=Tryz.prog) w 67 ty 72 _ Tryz.underlying67 Tryz.zeroValue72 g (l.length*2) 1 c _ _ hp (by omega) (by show l.length*2+1*2≤(prs l++prs [x]).length;rw[List.length_append,prs_len,prs_len];exact Nat.le_refl _) (by rw[zero_pairs];exact prs_one_cell _)
 refine⟨_,cur.toList.drop (l.length*2),h3,?_,setRow_grown _ _ _⟩
 unfold PrB
 rw[setRow_heap _ _ _ _ _ _ hp]
 have h4:cur.toList=prs l++cur.toList.drop (l.length*2):=by
  have h5:(prs l++prs [x]).take (l.length*2)=prs l:=by rw[List.take_append_of_le_length (by omega),List.take_of_length_le (by omega)]
  have h6:cur.toList.take (l.length*2)=prs l:=h2.trans h5
  rw[←h6,List.take_append_drop]
 rw[←h4]
theorem delete_v (g:Nat) (vs:Vs) (i:Nat) (hi:i<vs.length) (W0:World) (hp:PrB W0 g vs []) (hn:vs.length≤1000000):Calls Tryz.prog 41 #[.slice (some ⟨g,0,none⟩) vs.length vs.length,.int .i64 (i:Int),.int .i64 ((i:Int)+1)] W0 fun e W'=>(∃ z,e=.returned (.slice (some ⟨g,0,none⟩) (vs.length-1) vs.length)∧PrB W' g (vs.take i++vs.drop (i+1)) z)∧W0.grownBy W' (some g):=by
 obtain⟨A,hA⟩:∃ A:Option Addr,A=if vs.length=i+1 then some ⟨g,0,none⟩ else some ⟨g,(i+1)*2,none⟩:=⟨_,rfl⟩
 have hpd:PrB W0.drew g vs []:=hp
 obtain⟨w1,x,hr1,hp1,hg1⟩:=del_app hpd hi 67 (vs.length-(i+1)) A hA
 have hl1:(vs.take i++vs.drop (i+1)).length=vs.length-1:=by rw[List.length_append,List.length_take,List.length_drop];omega
 obtain⟨w2,z,hr2,hp2,hg2⟩:=del_clear hp1 0 1
 rw[hl1] at hr2
 obtain⟨n,hnn⟩:∃ n,n=vs.length:=⟨_,rfl⟩
 have HN:=Lib.hid hnn
 rw[←hnn] at hr1 hr2 hn hi hA⊢
 have HP:=Lib.hid (And.intro hp2 (And.intro hg1 hg2))
 obtain⟨m,rfl⟩:∃ m,n=m+1:=⟨n-1,by omega⟩
 rw[show m+1-1=m by omega] at hr1 hr2⊢
 have HR1:=Lib.hid hr1
 have hi0:(0:Int)≤(i:Int):=by omega
 have hi1:(i:Int)+1≤(m:Int)+1:=by omega
 have hi2:¬ (i:Int)=(i:Int)+1:=by omega
 have hi3:(i:Int)≤(m:Int)+1:=by omega
 have hi4:(i:Int)≤(i:Int)+1:=by omega
 have hi5:(0:Int)≤(i:Int)+1:=by omega
 have htn:((i:Int)+1).toNat=i+1:=by omega
 have hw1:IntKind.i64.wrap ((i:Int)+1)=(i:Int)+1:=by rw[IntKind.wrap_i64];omega
 have mixed:Tryz.prog.follows .mixedOrders=true:=by kernel_rfl
 clear hp hpd hp1 hg1 hp2 hg2 hnn hr1 hl1
 go_enter Tryz.func41,Tryz.ntmps41
 go_wp2_with fail
 subst hA
 have hr1:=HR1.out
 have hin:i≤m+1:=by omega
 go_region_law_o (refine step_append_runI rfl (.tmp 22) (.tmp 25) 67 67 rfl (.slice (some ⟨g,0,none⟩) i (m+1)) (.slice (if m+1=i+1 then some ⟨g,0,none⟩ else some ⟨g,(i+1)*2,none⟩) (m+1-(i+1)) (m+1-(i+1))) (by simp[Act.eval,Act.put]) (by simp[Act.eval,Act.put]) hr1 ?_)
 all_goals (
  go_wp2
  all_goals (
   go_ret
   refine⟨⟨rfl,z,HP.out.1⟩,?_⟩
   obtain⟨_,g1,g2⟩:=HP.out
   exact⟨g2.os.trans g1.os,g2.tape.trans g1.tape,g2.output.trans g1.output,Nat.le_trans g1.size g2.size,fun k hk hne=>(g2.block k (Nat.lt_of_lt_of_le hk g1.size) hne).trans (g1.block k hk hne)⟩))
end En
end Go.Proofs.YtipdgmjplnibeaaGreatDoor
namespace Go.Proofs.YtipdgmjplnibeaaGreatDoor
open Go.RowKit Go.Maps
namespace En
theorem Bx.set {W w w':World} {b0 b1 b2 b3:Value} {x:Nat} (h:Bx W w b0 b1 b2 b3) (hg:w.grownBy w' (some x)) (hx:W.heap.size+1<x):Bx W w' b0 b1 b2 b3:=
 ⟨later_of_new h.low hg (by omega),grown_cells hg h.bx (by omega),grown_cells hg h.rs (by omega)⟩
theorem PrB.value {w:World} {g:Nat} {l:Vs} {z:List Value} (h:PrB w g l z) {k:Nat} (hk:k<l.length) (y:B):PrB (w.setCell ⟨g,k*2+1,none⟩ (.string (mkS y))) g (l.take k++(l[k].1,y)::l.drop (k+1)) z:=by
 unfold PrB
 rw[set_row h]
 have hA:(prs (l.take k)).length=k*2:=by rw[prs_len,List.length_take];omega
 have hl:l=l.take k++l[k]::l.drop (k+1):=by
  rw[←List.drop_eq_getElem_cons hk,List.take_append_drop]
 have e:∀ b:B,prs (l.take k++(l[k].1,b)::l.drop (k+1))=prs (l.take k)++([.string (mkS l[k].1),.string (mkS b)]++prs (l.drop (k+1))):=fun b=>by
  rw[prs_app];rfl
 have e0:prs l=prs (l.take k)++([.string (mkS l[k].1),.string (mkS l[k].2)]++prs (l.drop (k+1))):=(congrArg prs hl).trans (e l[k].2)
 rw[e y,e0]
 congr 2
 apply Array.ext'
 rw[Array.toList_setIfInBounds]
 show List.set _ _ _=_
 rw[List.append_assoc,List.set_append_right _ _ (by omega),hA,show k*2+1-k*2=1 by omega,List.append_assoc]
 show _=prs (l.take k)++([.string (mkS l[k].1),.string (mkS y)]++prs (l.drop (k+1)))++z
 rw[List.append_assoc,List.append_assoc]
 rfl
theorem place_lt {vs:Vs} {s:B} {k:Nat} {b:Bool} (h:Place vs s k b):∀ q∈vs.take k,q.1<s:=fun q hq=>by
 obtain⟨j,hj,rfl⟩:=List.mem_iff_getElem.1 hq
 rw[List.length_take] at hj
 rw[List.getElem_take]
 exact h.2.1 j (by omega) (by omega)
theorem place_gt {vs:Vs} {s:B} {k:Nat} {b:Bool} (h:Place vs s k b) {m:Nat} (hm:k≤m) (hne:∀ j (hj:j<vs.length),m≤j→vs[j].1≠s):∀ q∈vs.drop m,s<q.1:=fun q hq=>by
 obtain⟨j,hj,rfl⟩:=List.mem_iff_getElem.1 hq
 rw[List.length_drop] at hj
 rw[List.getElem_drop]
 exact lt_of (h.2.2.1 (m+j) (by omega) (by omega)) (hne (m+j) (by omega) (by omega))
theorem set_new {vs:Vs} {s:B} {k:Nat} (y:B) (h:Place vs s k false) (hr:Rises vs):setV vs s y=vs.take k++(s,y)::vs.drop k:=by
 have hne:∀ j (hj:j<vs.length),k≤j→vs[j].1≠s:=fun j hj hkj e=>by
  rcases Nat.lt_or_ge k j with h1 | h1
  ·have h2:=rises_at hr (by omega) hj h1
   rw[e] at h2
   exact h.2.2.1 k (by omega) (Nat.le_refl _) h2
  ·have e2:j=k:=by omega
   subst e2
   have:=h.2.2.2.2 ⟨hj,e⟩
   cases this
 have:=set_split (a:=vs.take k) (m:=[]) (b:=vs.drop k) y (place_lt h) (place_gt h (Nat.le_refl _) hne) (.inl rfl)
 rwa[List.append_nil,List.take_append_drop] at this
theorem set_old {vs:Vs} {s:B} {k:Nat} (y:B) (h:Place vs s k true) (hr:Rises vs):∃ hk:k<vs.length,vs[k].1=s∧setV vs s y=vs.take k++(s,y)::vs.drop (k+1)∧unset vs s=vs.take k++vs.drop (k+1):=by
 obtain⟨hk,e⟩:=h.2.2.2.1 rfl
 have hne:∀ j (hj:j<vs.length),k+1≤j→vs[j].1≠s:=fun j hj hkj e2=>by
  have h2:=rises_at hr hk hj (by omega)
  rw[e,e2] at h2
  exact lt_irrefl _ h2
 have hl:vs.take k++[(s,vs[k].2)]++vs.drop (k+1)=vs:=by
  rw[←e,List.append_assoc]
  show vs.take k++(vs[k]::vs.drop (k+1))=vs
  rw[←List.drop_eq_getElem_cons hk,List.take_append_drop]
 have h1:=set_split (a:=vs.take k) (m:=[(s,vs[k].2)]) (b:=vs.drop (k+1)) y (place_lt h) (place_gt h (by omega) hne) (.inr ⟨_,rfl⟩)
 have h2:=unset_split (a:=vs.take k) (m:=[(s,vs[k].2)]) (b:=vs.drop (k+1)) (place_lt h) (place_gt h (by omega) hne) (.inr ⟨_,rfl⟩)
 rw[hl] at h1 h2
 exact⟨hk,e,h1,h2⟩
theorem unset_none {vs:Vs} {s:B} {k:Nat} (h:Place vs s k false) (hr:Rises vs):unset vs s=vs:=unset_of fun q hq e=>by
 obtain⟨j,hj,rfl⟩:=List.mem_iff_getElem.1 hq
 rcases Nat.lt_or_ge j k with h1 | h1
 ·have:=h.2.1 j hj h1
  rw[e] at this
  exact lt_irrefl _ this
 ·rcases Nat.lt_or_ge k j with h3 | h3
  ·have h2:=rises_at hr (by omega) hj h3
   rw[e] at h2
   exact h.2.2.1 k (by omega) (Nat.le_refl _) h2
  ·have e2:j=k:=by omega
   subst e2
   have:=h.2.2.2.2 ⟨hj,e⟩
   cases this
end En
end Go.Proofs.YtipdgmjplnibeaaGreatDoor
namespace Go.Proofs.YtipdgmjplnibeaaGreatDoor
open Go.RowKit Go.Maps
namespace En
structure Cx (W:World) (b0 b1 b2 b3:Value) (vs:Vs) (n0:Nat) (mk:Vs→E):Prop where
 vars:∀ W',Later W W'→Calls Tryz.prog 27 #[.agg #[b0,b1,b2,b3]] W' fun x W''=>(∃ g,x=.returned (.slice (some ⟨g,0,none⟩) n0 n0)∧W'.heap.size≤g∧PrB W'' g vs [])∧Later W' W''
 made:∀ W' lv ls,Later W W'→RdP W' W'.heap.size lv ls→ls.length≤1000000→Calls Tryz.prog 32 #[.agg #[b0,b1,b2,b3],lv] W' fun x W''=>Told W' W'' x (mk ls)
 len:n0=vs.length
 few:n0≤999999
 rises:Rises vs
theorem Cx.of {W:World} {va:Value} {e:E} (h:RdE W va e) (hr:Rises e.vars) (hn:e.vars.length≤999999) (ha:e.args.length≤1000000):∃ Av n0 cv A n c st fl,va=.agg #[.slice Av n0 cv,.slice A n c,.int .i64 st,.string fl]∧Cx W (.slice Av n0 cv) (.slice A n c) (.int .i64 st) (.string fl) e.vars n0 (fun ls=>{ e with vars:=ls }):=by
 have hh:=h
 obtain⟨v0,A,n,c,rfl,hv,hr',hc1,hc2⟩:=h
 obtain⟨Av,cv,rfl,_⟩:=hv.le
 exact⟨Av,_,cv,A,n,c,_,_,rfl,fun W' hl=>variables_v _ _ e.vars _ _ W' (hv.later hl) (by omega),fun W' lv ls hl h1 h2=>with_v _ lv e ls W' (hh.later hl) h1 h2 ha,rfl,hn,hr⟩
theorem Cx.search {W:World} {b0 b1 b2 b3:Value} {vs:Vs} {n0:Nat} {mk:Vs→E} (h:Cx W b0 b1 b2 b3 vs n0 mk) (s:B) (g:Nat) (W':World) (hp:PrB W' g vs []):Calls Tryz.prog 29 #[.slice (some ⟨g,0,none⟩) n0 n0,.string (mkS s),.func (.func 30) #[] #[]] W' fun e W''=>SrOk vs s e∧Later W' W'':=by
 have h1:=h.few
 rw[h.len] at h1⊢
 exact search_v g vs s [] W' hp h.rises (by omega)
theorem Cx.delete {W:World} {b0 b1 b2 b3:Value} {vs:Vs} {n0:Nat} {mk:Vs→E} (h:Cx W b0 b1 b2 b3 vs n0 mk) (g i:Nat) (hi:i<vs.length) (W':World) (hp:PrB W' g vs []):Calls Tryz.prog 41 #[.slice (some ⟨g,0,none⟩) n0 n0,.int .i64 (i:Int),.int .i64 ((i:Int)+1)] W' fun e W''=>(∃ z,e=.returned (.slice (some ⟨g,0,none⟩) (n0-1) n0)∧PrB W'' g (vs.take i++vs.drop (i+1)) z)∧W'.grownBy W'' (some g):=by
 have h1:=h.few
 rw[h.len] at h1⊢
 exact delete_v g vs i hi W' hp (by omega)
theorem unset_v (va:Value) (e:E) (s:B) (W:World) (h:RdE W va e) (hr:Rises e.vars) (hn:e.vars.length≤999999) (ha:e.args.length≤1000000):Calls Tryz.prog 19 #[va,.string (mkS s)] W fun x W'=>Told W W' x (unsetE e s):=by
 obtain⟨Av,n0,cv,A,n,c,st,fl,rfl,hcx⟩:=Cx.of h hr hn ha
 have HCX:=Lib.hid hcx
 have HB:=Lib.hid (Bx.new W (.slice Av n0 cv) (.slice A n c) (.int .i64 st) (.string fl))
 have hn0:=hcx.few
 clear h hcx hr hn ha
 go_enter Tryz.func19,Tryz.ntmps19
 go_wp2_with fail
 go_at_call 27
 with_reducible refine(HCX.out.vars _ HB.out.low).mono ?_
 rintro x w3 ⟨⟨g,rfl,hg,hp⟩,hl3⟩
 have hs2:=lt_of_block HB.out.rs
 have HG:=Lib.hid (show W.heap.size+1<g by omega)
 have HP:=Lib.hid hp
 have HB3:=Lib.hid (HB.out.later hl3)
 clear hg hp hl3 hs2
 go_wp2_with fail
 go_at_call 29
 with_reducible refine(HCX.out.search s g _ HP.out).mono ?_
 rintro x w4 ⟨⟨k,b,rfl,hpl⟩,hl4⟩
 have HPL:=Lib.hid hpl
 have HB4:=Lib.hid (HB3.out.later hl4)
 have HP4:=Lib.hid (HP.out.later hl4)
 have hkn:k≤n0:=by have:=hpl.1;have:=HCX.out.len;omega
 obtain⟨q0,q1,q2,q3⟩:=HB4.out.c
 clear hl4 hpl
 cases b with
 | false=>
  have HRD:=Lib.hid (HP4.out.rd (c:=n0) (by have:=HCX.out.len;omega) (by omega))
  rw[←HCX.out.len] at HRD
  go_wp2_with (go_at_call 32;(with_reducible refine(HCX.out.made _ _ _ HB4.out.low HRD.out (by have:=HCX.out.len;omega)).mono ?_);rintro x w5 ⟨⟨v,rfl,hf⟩,hl5⟩;(have HF:=Lib.hid hf);obtain⟨v0,A4,n4,c4,rfl,hv4,_⟩:=hf.rd;obtain⟨A5,c5,rfl,_⟩:=hv4.le;(have HB5:=Lib.hid (HB4.out.later hl5));obtain⟨r0,r1,r2,r3,r4⟩:=HB5.out.r;clear hf hl5 hv4)
  have hs5:=lt_of_block HB4.out.rs
  obtain⟨w9,hw9,hl9,hr9,hf9⟩:=HB5.out.tell HF.out hs5
  rw[←hw9]
  refine bodyPost_ret (results_Env rfl _ _ (W.heap.size+1) _ (0,0) rfl hr9 rfl) rfl ?_
  have e1:unsetE e s={ e with vars:=e.vars }:=by unfold unsetE;rw[unset_none HPL.out HCX.out.rises]
  rw[e1]
  exact⟨⟨_,rfl,hf9.less (by omega)⟩,hl9⟩
 | true=>
  obtain⟨hk,hks,_,hun⟩:=set_old [] HPL.out HCX.out.rises
  have HUN:=Lib.hid hun
  have HDE:=Lib.hid (HCX.out.delete g k hk w4 HP4.out)
  have hk1:(k:Int)<(n0:Int):=by have:=HCX.out.len;omega
  have hk0:(0:Int)≤(k:Int):=by omega
  have hll:(e.vars.take k++e.vars.drop (k+1)).length=n0-1:=by have:=HCX.out.len;rw[List.length_append,List.length_take,List.length_drop];omega
  obtain⟨ls,hls⟩:∃ ls,ls=e.vars.take k++e.vars.drop (k+1):=⟨_,rfl⟩
  rw[←hls] at HDE HUN hll
  have HLL:=Lib.hid hll
  clear hk hks hun hll hls
  go_wp2_with (first
   |(go_at_call 41;(with_reducible refine(HDE.out).mono ?_);rintro x w6 ⟨⟨z,rfl,hp6⟩,hg6⟩;(have HB6:=Lib.hid (HB4.out.set hg6 HG.out));(have hrd:=PrB.rd hp6 (c:=n0) (by rw[HLL.out];omega) (by omega));rw[HLL.out] at hrd;(have HRD:=Lib.hid hrd);clear q0 q1 q2 q3;obtain⟨q0,q1,q2,q3⟩:=HB6.out.c;clear hp6 hg6 hrd)
   |(go_at_call 32;(with_reducible refine(HCX.out.made _ _ _ HB6.out.low HRD.out (by rw[HLL.out];omega)).mono ?_);rintro x w5 ⟨⟨v,rfl,hf⟩,hl5⟩;(have HF:=Lib.hid hf);obtain⟨v0,A4,n4,c4,rfl,hv4,_⟩:=hf.rd;obtain⟨A5,c5,rfl,_⟩:=hv4.le;(have HB5:=Lib.hid (HB6.out.later hl5));obtain⟨r0,r1,r2,r3,r4⟩:=HB5.out.r;clear hf hl5 hv4))
  have hs5:=lt_of_block HB6.out.rs
  obtain⟨w9,hw9,hl9,hr9,hf9⟩:=HB5.out.tell HF.out hs5
  rw[←hw9]
  refine bodyPost_ret (results_Env rfl _ _ (W.heap.size+1) _ (0,0) rfl hr9 rfl) rfl ?_
  have e1:unsetE e s={ e with vars:=ls }:=by unfold unsetE;rw[HUN.out]
  rw[e1]
  exact⟨⟨_,rfl,hf9.less (by omega)⟩,hl9⟩
end En
end Go.Proofs.YtipdgmjplnibeaaGreatDoor
