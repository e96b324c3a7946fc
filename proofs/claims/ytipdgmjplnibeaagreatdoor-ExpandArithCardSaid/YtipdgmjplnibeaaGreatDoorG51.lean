import Derived.Test.YtipdgmjplnibeaaGreatDoorG50
import Derived.Test.YtipdgmjplnibeaaGreatDoorRows
import Derived.Test.YtipdgmjplnibeaaGreatDoorG49
import Derived.Stop.LaidErr
import Derived.LaidMore
import Derived.LaidLaws
import Derived.Lay
import Derived.OpenShut
import Derived.ProofKit
import Derived.Test.YtipdgmjplnibeaaGreatDoorG12
import Derived.Test.YtipdgmjplnibeaaGreatDoorG01
import Derived.ShutString
import Derived.SliceStrings
import Derived.ChangeOld
import Derived.Test.YtipdgmjplnibeaaGreatDoorCards
import Derived.Test.YtipdgmjplnibeaaGreatDoorTie
import Derived.SevenTiedAt
set_option maxRecDepth 100000
namespace Go.Proofs.YtipdgmjplnibeaaGreatDoor
open Go.RowKit Go.Maps
namespace expandArith
theorem walk (W:World) (hg:Ey.Gw W) (x:Int) (hx:(Lit.int .i64 x).wf=true) (y:Int) (hy:(Lit.int .i64 y).wf=true) (s:ByteArray) (_:s.size≤maxLen):Calls Tryz.prog 8 #[.int .i64 x,.int .i64 y,.string s] W fun r W'=>r=.returned (.bool true)∧Below W.heap.size W W':=by
 have h1:=bounds_i64 hx
 have h2:=bounds_i64 hy
 have h:=Ey.arithlaw_v W hg x y ⟨by omega,by omega⟩ ⟨by omega,by omega⟩ s.data.toList
 rw[mkS_of] at h
 exact h
end expandArith
end Go.Proofs.YtipdgmjplnibeaaGreatDoor
namespace Go.Proofs.YtipdgmjplnibeaaGreatDoor
open Go.RowKit Go.ChangeShapes Go.WideShapes Go.ChangeAt
section
variable {H:Type} {enc:TypeId×Value→H} {P:Program} {w:World} {base:Nat} {spare:Nat→Bool} {held:Bool}
theorem rd_ints {t e:TypeId} {k:IntKind} {a:Option Addr} {len cap:Nat} {d:DataW H} {p:List MemPlace} (ht:P.underlying t=some (.slice e)) (he:P.underlying e=some (.int k)) (hc:P.cellsOf e=1)
  (h:DataW.Trod enc P w base spare held t (.slice a len cap) d p) :
  ∃ zs:List Int,Rd w w.heap.size a len (zs.map (Value.int k))∧(∀ n∈zs,(Lit.int k n).wf=true)∧len≤cap∧cap≤maxLen:=by
 obtain⟨fuel,hf⟩:=h
 rcases open_ints ht he hc hf with⟨hcs,_⟩ | ⟨x,l,c,zs,hcs,_,hl,hm,hz,_,hcell,hwz⟩
 ·simp[Value.cells] at hcs
  obtain⟨rfl,rfl,rfl⟩:=hcs
  exact⟨[],Rd.nil_,by simp,Nat.le_refl _,by simp[maxLen]⟩
 ·simp[Value.cells] at hcs
  obtain⟨rfl,rfl,rfl⟩:=hcs
  have hlz:len≤zs.length:=by rw[hz];split <;> omega
  refine⟨zs.take len,⟨by simp;omega,fun h0=>⟨x,rfl,?_,fun j u hu=>?_⟩⟩,fun n hn=>hwz n (List.mem_of_mem_take hn),hl,hm⟩
  ·have:=hcell 0 (by omega)
   have:=World.block_lt_of_cell? w _ this
   rwa[block_add] at this
  ·rw[List.getElem?_map,List.getElem?_take] at hu
   split at hu
   ·rename_i hj
    rw[List.getElem?_eq_getElem (show j<zs.length by omega)] at hu
    simp at hu
    subst hu
    rw[hcell j (by omega)]
    simp[List.getD,List.getElem?_eq_getElem (show j<zs.length by omega)]
   ·cases hu
theorem bytes_of:∀ zs:List Int,(∀ n∈zs,(Lit.int .u8 n).wf=true)→∃ bs:List UInt8,zs.map (Value.int .u8)=bs.map bv
 | [],_=>⟨[],rfl⟩
 | z::zs,h=>by
  obtain⟨bs,hb⟩:=bytes_of zs fun n hn=>h n (List.mem_cons_of_mem _ hn)
  have hz:=bounds_u8 (h z (List.mem_cons_self ..))
  refine⟨UInt8.ofNat z.toNat::bs,?_⟩
  simp only[List.map_cons,hb,bv]
  congr 2
  rw[show (UInt8.ofNat z.toNat).toNat=z.toNat by simp;omega]
  omega
theorem nats_of:∀ zs:List Int,(∀ n∈zs,(Lit.int .u64 n).wf=true)→∃ l:List Nat,zs.map (Value.int .u64)=l.map nv∧∀ x∈l,x<18446744073709551616
 | [],_=>⟨[],rfl,by simp⟩
 | z::zs,h=>by
  obtain⟨bs,hb,hc⟩:=nats_of zs fun n hn=>h n (List.mem_cons_of_mem _ hn)
  have hz:=bounds_u64 (h z (List.mem_cons_self ..))
  refine⟨z.toNat::bs,?_,?_⟩
  ·simp only[List.map_cons,hb,nv]
   congr 2
   omega
  ·intro x hx
   rcases List.mem_cons.1 hx with rfl | hx
   ·omega
   ·exact hc x hx
theorem rd_bytes {t e:TypeId} {a:Option Addr} {len cap:Nat} {d:DataW H} {p:List MemPlace} (ht:P.underlying t=some (.slice e)) (he:P.underlying e=some (.int .u8)) (hc:P.cellsOf e=1)
  (h:DataW.Trod enc P w base spare held t (.slice a len cap) d p):∃ bs:List UInt8,Rd w w.heap.size a len (bs.map bv)∧len≤cap∧cap≤maxLen:=by
 obtain⟨zs,h1,h2,h3⟩:=rd_ints ht he hc h
 obtain⟨bs,hb⟩:=bytes_of zs h2
 exact⟨bs,hb ▸ h1,h3⟩
theorem rd_nats {t e:TypeId} {a:Option Addr} {len cap:Nat} {d:DataW H} {p:List MemPlace} (ht:P.underlying t=some (.slice e)) (he:P.underlying e=some (.int .u64)) (hc:P.cellsOf e=1)
  (h:DataW.Trod enc P w base spare held t (.slice a len cap) d p):∃ l:List Nat,Rd w w.heap.size a len (l.map nv)∧(∀ x∈l,x<18446744073709551616)∧len≤cap∧cap≤maxLen:=by
 obtain⟨zs,h1,h2,h3⟩:=rd_ints ht he hc h
 obtain⟨bs,hb,hx⟩:=nats_of zs h2
 exact⟨bs,hb ▸ h1,hx,h3⟩
theorem rd_strings {t e:TypeId} {a:Option Addr} {len cap:Nat} {d:DataW H} {p:List MemPlace} (ht:P.underlying t=some (.slice e)) (he:P.underlying e=some .string) (hc:P.cellsOf e=1)
  (h:DataW.Trod enc P w base spare held t (.slice a len cap) d p):∃ l:List ByteArray,Rd w w.heap.size a len (l.map Value.string)∧(∀ s∈l,s.size≤maxLen)∧len≤cap∧cap≤maxLen:=by
 obtain⟨fuel,hf⟩:=h
 rcases open_strings ht he hc hf with⟨hcs,_⟩ | ⟨x,l,c,zs,hcs,_,hl,hm,hz,_,hcell,hwz⟩
 ·simp[Value.cells] at hcs
  obtain⟨rfl,rfl,rfl⟩:=hcs
  exact⟨[],Rd.nil_,by simp,Nat.le_refl _,by simp[maxLen]⟩
 ·simp[Value.cells] at hcs
  obtain⟨rfl,rfl,rfl⟩:=hcs
  have hlz:len≤zs.length:=by rw[hz];split <;> omega
  refine⟨zs.take len,⟨by simp;omega,fun h0=>⟨x,rfl,?_,fun j u hu=>?_⟩⟩,fun n hn=>hwz n (List.mem_of_mem_take hn),hl,hm⟩
  ·have:=hcell 0 (by omega)
   have:=World.block_lt_of_cell? w _ this
   rwa[block_add] at this
  ·rw[List.getElem?_map,List.getElem?_take] at hu
   split at hu
   ·rename_i hj
    rw[List.getElem?_eq_getElem (show j<zs.length by omega)] at hu
    simp at hu
    subst hu
    rw[hcell j (by omega)]
    simp[List.getD,List.getElem?_eq_getElem (show j<zs.length by omega)]
   ·cases hu
end
end Go.Proofs.YtipdgmjplnibeaaGreatDoor
namespace Go.Proofs.YtipdgmjplnibeaaGreatDoor
open Go.ChangeShapes Go.WideShapes Go.ChangeAt Go.RowKit
noncomputable abbrev laidL:List (String×DataW Unit):=[("math/bits.deBruijn32tab",Rows.laid_math_bits_deBruijn32tab),("math/bits.deBruijn64tab",Rows.laid_math_bits_deBruijn64tab),("internal/strconv.uint64pow10",Rows.laid_internal_strconv_uint64pow10),("unicode/utf8.acceptRanges",Rows.laid_unicode_utf8_acceptRanges),("strconv.ErrRange",Rows.laid_strconv_ErrRange),("strconv.ErrSyntax",Rows.laid_strconv_ErrSyntax),("kinetoscope/arith.rows",Rows.laid_kinetoscope_arith_rows),("kinetoscope/arith.longs",Rows.laid_kinetoscope_arith_longs),("kinetoscope/word.ops",Rows.laid_kinetoscope_word_ops),("unicode/utf8.first",Rows.laid_unicode_utf8_first)]
theorem gNames:Tryz.prog.globalNamed "internal/strconv.uint64pow10" = some 1:=by kernel_rfl
theorem tNames:(Tryz.prog.globals[1]?).map (·.type)=some 199:=by kernel_rfl
theorem gOps:Tryz.prog.globalNamed "kinetoscope/word.ops" = some 4:=by kernel_rfl
theorem tOps:(Tryz.prog.globals[4]?).map (·.type)=some 242:=by kernel_rfl
theorem gES:Tryz.prog.globalNamed "strconv.ErrSyntax" = some 2:=by kernel_rfl
theorem gER:Tryz.prog.globalNamed "strconv.ErrRange" = some 3:=by kernel_rfl
theorem tES:(Tryz.prog.globals[2]?).map (·.type)=some 121:=by kernel_rfl
theorem tER:(Tryz.prog.globals[3]?).map (·.type)=some 121:=by kernel_rfl
theorem cU64:Tryz.prog.cellsOf 124=1:=by kernel_rfl
theorem c20:Tryz.prog.cellsOf 199=20:=by kernel_rfl
theorem c9:Tryz.prog.cellsOf 9=1:=by kernel_rfl
theorem c52:Tryz.prog.cellsOf 242=12:=by kernel_rfl
theorem door_met (os:Os) (args:Array Value):laidMetH Tryz.prog laidL ((World.laidAll Tryz.prog os laidL).forCall (fun _ _=>0) ⟨#[],args,[]⟩).memory:=by
 rw[MakeChecks.laidMetH_plain _ _ _ (by kernel_rfl)]
 exact laidMet_laidAll _ (by kernel_rfl) (by kernel_rfl)
theorem laid_at:∀ i:_root_.Fin 12,(match Rows.laid_kinetoscope_word_ops (H:=Unit) with | .agg l=>l | _=>[])[i.1]?=some (.lit (.string (mkS (Wd.ops.getD i.1 [])).data.toList)):=by
 intro i
 match i with
 | 0=>rfl
 | 1=>rfl
 | 2=>rfl
 | 3=>rfl
 | 4=>rfl
 | 5=>rfl
 | 6=>rfl
 | 7=>rfl
 | 8=>rfl
 | 9=>rfl
 | 10=>rfl
 | 11=>rfl
theorem laid_tab:Rows.laid_internal_strconv_uint64pow10 (H:=Unit)=Lib.tabData .u64 Lib.pow10Tab:=by kernel_rfl
theorem star : "*"++ "errors.errorString" = "*errors.errorString":=by decide
theorem erow (u:TypeId) (h:Tryz.prog.typeName? 3 u=some "*errors.errorString"):u=216:=
 typeName_ptr_named (nm:= "errors.errorString") (by rw[star];kernel_rfl) (by kernel_rfl) (by decide) u (by rw[star];exact h)
theorem errAt_of {W:World} {n:String} {g:Nat} (hg:Tryz.prog.globalNamed n=some g) {tp:TypeId} {p:Value} (h:W.var? Tryz.prog n=some #[.iface tp p]):En.ErrAt W g:=
 ⟨.iface tp p,(World.var?_cell hg h 0).trans rfl,Or.inr ⟨tp,p,rfl⟩⟩
theorem ops_of_laid {W:World} (h:laidMetH Tryz.prog laidL W):Ops W:=by
 rw[MakeChecks.laidMetH_plain _ _ _ (by kernel_rfl)] at h
 obtain⟨ps,⟨g0,t0,cs0,f0,p0,q0,hg0,ht0,hv0,hd0,_⟩,_⟩:=h.tail.tail.tail.tail.tail.tail.tail.tail
 obtain rfl:=Option.some.inj (gOps.symm.trans hg0)
 obtain rfl:=Option.some.inj (tOps.symm.trans ht0)
 obtain⟨xs,m1,_,hx,hlen,hn,hel⟩:=DataW.trod_array Tryz.underlying242 hd0
 rw[c52] at hlen
 simp only[Prod.mk.injEq] at hx
 have hx1:=hx.1
 intro i hi
 have h1:=hel i hi
 rw[c9] at h1
 have hix:i<xs.length:=by omega
 rw[List.getElem?_eq_getElem hix] at h1
 obtain⟨s,hs1,hs2,_⟩:=DataW.trod_string Tryz.underlying9 h1
 have hl:=laid_at ⟨i,hi⟩
 rw[show Rows.laid_kinetoscope_word_ops (H:=Unit)=.agg (xs.map (·.1)) from hx1] at hl
 dsimp only at hl
 rw[List.getElem?_map,List.getElem?_eq_getElem hix,hs2] at hl
 simp only[Option.map_some,Option.some.injEq,DataW.lit.injEq,Lit.string.injEq] at hl
 have hs:s=mkS (Wd.ops.getD i []):=ByteArray.ext (Array.ext' hl)
 subst hs
 rw[World.var?_cell gOps hv0 i]
 have hci:i<cs0.toList.length:=by rw[hlen];exact hi
 rw[Nat.mul_one,List.drop_eq_getElem_cons hci,List.take_succ_cons,List.take_zero] at hs1
 injection hs1 with hs1
 rw[←Array.getElem?_toList,List.getElem?_eq_getElem hci,hs1]
theorem vd_of_laid {W:World} (h:laidMetH Tryz.prog laidL W):En.Vd W:=by
 rw[MakeChecks.laidMetH_plain _ _ _ (by kernel_rfl)] at h
 have h2:=h.tail.tail.tail.tail
 obtain⟨a1,s1,e1,_⟩:=laid_sentinel h2 gER tER Tryz.underlying121 erow Tryz.underlying216 Tryz.underlying218 rfl rfl Tryz.underlying9 (by kernel_rfl) (by kernel_rfl)
 obtain⟨a2,s2,e2,_⟩:=laid_sentinel h2.tail gES tES Tryz.underlying121 erow Tryz.underlying216 Tryz.underlying218 rfl rfl Tryz.underlying9 (by kernel_rfl) (by kernel_rfl)
 refine⟨?_,errAt_of gES e2,errAt_of gER e1⟩
 obtain⟨ps,⟨_,_,_,_,_,_,_,_,_,_,⟨_,_,_,_,_,_,_,_,_,_,⟨g0,t0,cs0,f0,p0,q0,hg0,ht0,hv0,hd0,_⟩,_⟩,_⟩,_⟩:=h
 obtain rfl:=Option.some.inj (gNames.symm.trans hg0)
 obtain rfl:=Option.some.inj (tNames.symm.trans ht0)
 rw[laid_tab] at hd0
 show Lib.TabIs _ _ _ _ _
 unfold Lib.TabIs
 rw[hv0,←Lib.cells_of_tab Tryz.underlying199 Tryz.underlying124 cU64 c20 hd0]
theorem gRows:Tryz.prog.globalNamed "kinetoscope/arith.rows" = some 8:=by kernel_rfl
theorem tRows:(Tryz.prog.globals[8]?).map (·.type)=some 254:=by kernel_rfl
theorem gLongs:Tryz.prog.globalNamed "kinetoscope/arith.longs" = some 7:=by kernel_rfl
theorem tLongs:(Tryz.prog.globals[7]?).map (·.type)=some 252:=by kernel_rfl
theorem cStr:Tryz.prog.cellsOf 9=1:=by kernel_rfl
theorem cSl:Tryz.prog.cellsOf 23=1:=by kernel_rfl
theorem cLongs:Tryz.prog.cellsOf 252=9:=by kernel_rfl
theorem cRows:Tryz.prog.cellsOf 254=10:=by kernel_rfl
theorem longs_at:∀ i:_root_.Fin 9,(match Rows.laid_kinetoscope_arith_longs (H:=Unit) with | .agg l=>l | _=>[])[i.1]?=some (.lit (.string (mkS (Ar.longs.getD i.1 [])).data.toList)):=by
 intro i
 match i with
 | 0=>rfl
 | 1=>rfl
 | 2=>rfl
 | 3=>rfl
 | 4=>rfl
 | 5=>rfl
 | 6=>rfl
 | 7=>rfl
 | 8=>rfl
theorem rows_at:∀ i:_root_.Fin 10,(match Rows.laid_kinetoscope_arith_rows (H:=Unit) with | .agg l=>l | _=>[])[i.1]?=some (.slice ((Ar.rows.getD i.1 []).map fun t=>.lit (.string (mkS t).data.toList)) []):=by
 intro i
 match i with
 | 0=>rfl
 | 1=>rfl
 | 2=>rfl
 | 3=>rfl
 | 4=>rfl
 | 5=>rfl
 | 6=>rfl
 | 7=>rfl
 | 8=>rfl
 | 9=>rfl
theorem map_getD {β:Type} (f:List UInt8→β) (l:List (List UInt8)) (j:Nat) (hj:j<l.length):(l.map f)[j]?=some (f (l.getD j [])):=by
 rw[List.getElem?_map,List.getD_eq_getElem?_getD,List.getElem?_eq_getElem hj]
 rfl
theorem text_of {s:ByteArray} {t:List UInt8} (h:s.data.toList=(mkS t).data.toList):s=mkS t:=ByteArray.ext (Array.ext' h)
theorem tb_of_laid {W:World} (h:laidMetH Tryz.prog laidL W):Ar.Tb0 W:=by
 rw[MakeChecks.laidMetH_plain _ _ _ (by kernel_rfl)] at h
 obtain⟨ps,⟨_,_,_,_,_,_,_,_,_,_,⟨_,_,_,_,_,_,_,_,_,_,⟨_,_,_,_,_,_,_,_,_,_,⟨_,_,_,_,_,_,_,_,_,_,⟨_,_,_,_,_,_,_,_,_,_,⟨_,_,_,_,_,_,_,_,_,_,⟨g0,t0,cs0,f0,p0,q0,hg0,ht0,hv0,hd0,⟨g1,t1,cs1,f1,p1,q1,hg1,ht1,hv1,hd1,_⟩,_⟩,_⟩,_⟩,_⟩,_⟩,_⟩,_⟩,_⟩:=h
 obtain rfl:=Option.some.inj (gRows.symm.trans hg0)
 obtain rfl:=Option.some.inj (tRows.symm.trans ht0)
 obtain rfl:=Option.some.inj (gLongs.symm.trans hg1)
 obtain rfl:=Option.some.inj (tLongs.symm.trans ht1)
 refine⟨?_,?_⟩
 ·obtain⟨xs,m1,_,hx,hlen,hn,hel⟩:=DataW.trod_array Tryz.underlying252 hd1
  rw[cLongs] at hlen
  simp only[Prod.mk.injEq] at hx
  have hx1:=hx.1
  intro i hi
  have h1:=hel i hi
  rw[cStr] at h1
  have hix:i<xs.length:=by omega
  rw[List.getElem?_eq_getElem hix] at h1
  obtain⟨s,hs1,hs2,_⟩:=DataW.trod_string Tryz.underlying9 h1
  have hl:=longs_at ⟨i,hi⟩
  rw[show Rows.laid_kinetoscope_arith_longs (H:=Unit)=.agg (xs.map (·.1)) from hx1] at hl
  dsimp only at hl
  rw[List.getElem?_map,List.getElem?_eq_getElem hix,hs2] at hl
  simp only[Option.map_some,Option.some.injEq,DataW.lit.injEq,Lit.string.injEq] at hl
  have hs:=text_of hl
  subst hs
  rw[World.var?_cell gLongs hv1 i]
  have hci:i<cs1.toList.length:=by rw[hlen];exact hi
  rw[Nat.mul_one,List.drop_eq_getElem_cons hci,List.take_succ_cons,List.take_zero] at hs1
  injection hs1 with hs1
  rw[←Array.getElem?_toList,List.getElem?_eq_getElem hci,hs1]
 ·obtain⟨xs,m1,_,hx,hlen,hn,hel⟩:=DataW.trod_array Tryz.underlying254 hd0
  rw[cRows] at hlen
  simp only[Prod.mk.injEq] at hx
  have hx1:=hx.1
  have key:∀ i:Nat,i<10→∃ (ad:Addr) (cp:Nat),W.cell? ⟨8,i,none⟩=some (.slice (some ad) (Ar.rows.getD i []).length cp)∧∀ j:Nat,j<(Ar.rows.getD i []).length→W.cell? (ad.add j)=some (.string (mkS ((Ar.rows.getD i []).getD j []))):=by
   intro i hi
   have h1:=hel i hi
   rw[cSl] at h1
   have hix:i<xs.length:=by omega
   rw[List.getElem?_eq_getElem hix] at h1
   have hl:=rows_at ⟨i,hi⟩
   rw[show Rows.laid_kinetoscope_arith_rows (H:=Unit)=.agg (xs.map (·.1)) from hx1] at hl
   dsimp only at hl
   rw[List.getElem?_map,List.getElem?_eq_getElem hix] at hl
   simp only[Option.map_some,Option.some.injEq] at hl
   have h2:DataW.trod _ Tryz.prog W 0 _ _ _ 23 _=some (.slice ((Ar.rows.getD i []).map fun t=>.lit (.string (mkS t).data.toList)) [],_):=h1.trans (by rw[←hl])
   obtain⟨a,cap,hc,_,hcell⟩:=open_row Tryz.underlying23 cStr h2
   rw[List.length_map] at hc
   refine⟨a,cap,?_,fun j hj=>?_⟩
   ·rw[World.var?_cell gRows hv0 i]
    have hci:i<cs0.toList.length:=by rw[hlen];exact hi
    rw[Nat.mul_one,List.drop_eq_getElem_cons hci,List.take_succ_cons,List.take_zero] at hc
    injection hc with hc
    rw[←Array.getElem?_toList,List.getElem?_eq_getElem hci,hc]
   ·obtain⟨v,n,q,hv,ht⟩:=hcell j (.lit (.string (mkS ((Ar.rows.getD i []).getD j [])).data.toList)) (map_getD _ _ j hj)
    obtain⟨s,hs1,hs2,_⟩:=DataW.trod_string Tryz.underlying9 ht
    have hs3:=(Prod.mk.inj hs2).1
    injection hs3 with hs3
    injection hs3 with hs3
    have hs:=text_of hs3.symm
    subst hs
    injection hs1 with hs1
    rw[hv,hs1]
  refine⟨fun i=>if h:i<10 then (key i h).choose else ⟨0,0,none⟩,fun i=>if h:i<10 then (key i h).choose_spec.choose else 0,fun i hi=>?_⟩
  dsimp only
  rw[dif_pos hi,dif_pos hi]
  exact(key i hi).choose_spec.choose_spec
theorem gw_of_laid {W:World} (h:laidMetH Tryz.prog laidL W):Ey.Gw W:=⟨vd_of_laid h,ops_of_laid h,World.block_lt_of_cell? W _ (ops_of_laid h 0 (by decide)),tb_of_laid h⟩
end Go.Proofs.YtipdgmjplnibeaaGreatDoor
namespace Go.Proofs.YtipdgmjplnibeaaGreatDoor
namespace expandArith
open Go.ChangeShapes Go.WideShapes Go.ChangeAt Go.RowKit
open Go.ChangeMaps (open_string shut_string)
theorem own:ownKnob Tryz.prog.godebug=none:=by kernel_rfl
theorem laidOut:laidOutB Tryz.prog=true:=by kernel_rfl
theorem contract (H:Type) (enc:TypeId×Value→H) (W:World) (base:Nat) (args:Array Value) (ds gs:List (DataW H)) (before:List MemPlace)
  (hval0:∀ (j:Nat) t v,Tryz.f8.params[j]?=some t→args[j]?=some v→Value.okWide Tryz.prog W .any base t v)
  (hW:DataW.Whole enc Tryz.prog Tryz.f8.params.toList Rows.expandArithSpec.vars false W args.toList ds gs before) (hNames:Ey.Gw W) :
  Calls Tryz.prog 8 args W fun e W'=>∃ v,e=.returned v∧Rows.expandArithSpec.post enc Tryz.prog Tryz.f8 false true false false W args v W':=by
 have hval:∀ (j:Nat) t v,Tryz.f8.params[j]?=some t→args[j]?=some v→Value.okWide Tryz.prog W .any base t v:=hval0
 have hW':=hW
 obtain⟨p,q,hA0,hV,rfl,hfz,hnd⟩:=hW
 have hA:DataW.TrodAll enc Tryz.prog W 0 (fun _=>true) true Tryz.f8.params.toList args.toList ds p:=hA0
 rw[Tryz.params8] at hA hval
 obtain⟨v0,vs0,d0,ds0,p0,q0,hargs,rfl,rfl,h0,r0⟩:=trodAll_cons hA
 obtain⟨v1,vs1,d1,ds1,p1,q1,rfl,rfl,rfl,h1,r1⟩:=trodAll_cons r0
 obtain⟨v2,vs2,d2,ds2,p2,q2,rfl,rfl,rfl,h2,r2⟩:=trodAll_cons r1
 obtain⟨rfl,rfl,rfl⟩:=trodAll_nil r2
 obtain rfl:args=#[v0,v1,v2]:=by cases args;simp_all
 obtain⟨rfl,rfl⟩:=trodVars_none hV
 have k0:=h0
 have lt0:∀ x∈p0,x.block<W.heap.size:=by obtain⟨m,hm⟩:=k0;exact DataW.trod_lt m _ _ _ hm
 have k1:=h1
 have lt1:∀ x∈p1,x.block<W.heap.size:=by obtain⟨m,hm⟩:=k1;exact DataW.trod_lt m _ _ _ hm
 have k2:=h2
 have lt2:∀ x∈p2,x.block<W.heap.size:=by obtain⟨m,hm⟩:=k2;exact DataW.trod_lt m _ _ _ hm
 obtain⟨a0,rfl,rfl,rfl,w0⟩:=open_int Tryz.underlying2 (hval 0 2 v0 rfl rfl) h0
 obtain⟨a1,rfl,rfl,rfl,w1⟩:=open_int Tryz.underlying2 (hval 1 2 v1 rfl rfl) h1
 obtain⟨a2,rfl,rfl,rfl,w2⟩:=open_string Tryz.underlying9 (hval 2 9 v2 rfl rfl) h2
 clear hA0 hval0
 refine(walk W hNames a0 w0 a1 w1 a2 w2).mono fun e W' ⟨he,bel⟩=>?_
 subst he
 exact⟨_,rfl,_,_,_,[],_,[],hW',trodAll_mk1 (shut_bool Tryz.underlying4 _),(trodAll_cons_mk (Below.trod laidOut (by kernel_rfl) (of_decide_eq_true (by kernel_rfl)) k0 bel lt0) (trodAll_cons_mk (Below.trod laidOut (by kernel_rfl) (of_decide_eq_true (by kernel_rfl)) k1 bel lt1) (trodAll_cons_mk (Below.trod laidOut (by kernel_rfl) (of_decide_eq_true (by kernel_rfl)) k2 bel lt2) trodAll_mk0))),rfl,bel.frame _,fun h=>by cases h⟩
theorem lifted (os:Os) (started:os.Started) (H:Type) (enc:TypeId×Value→H) :
  ReturnsInHanded {} Tryz.checked os 8 .any (fun w args=>(Rows.expandArithSpec.pre enc Tryz.prog Tryz.f8 [] false w args∧laidMetH Tryz.prog laidL w)∧sizedMet enc Tryz.prog Tryz.f8 (OpenSpec.ofChange Rows.expandArithSpec) false w args) (Rows.expandArithSpec.post enc Tryz.prog Tryz.f8 false true false false):=by
 refine returnsInHanded_of_change_and (C:=Tryz.checked) (X:=fun w _=>laidMetH Tryz.prog laidL w) (fun _ _ _ hh h=>h.of_heap hh) own started (by kernel_rfl) Tryz.func8
  (ChangeSpec.witness_shaped (enc:=enc) (C:=Tryz.checked) (os:=os) (X:=fun w _=>laidMetH Tryz.prog laidL w) false (World.laidAll Tryz.prog os laidL) #[.int .i64 0,.int .i64 0,.string ByteArray.empty] 8 (World.laidAll_os _ _ _) (World.shaped_of_ZipB (by kernel_rfl) (by kernel_rfl)) (by kernel_rfl) (by kernel_rfl) (by kernel_rfl) (door_met os _)) ?_
 intro W base args ds gs before hval0 hW _ _ hL _
 exact contract H enc W base args ds gs before hval0 hW (gw_of_laid hL)
end expandArith
end Go.Proofs.YtipdgmjplnibeaaGreatDoor
