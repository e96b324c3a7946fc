import Derived.Test.YtipdgmjplnibeaaGreatDoorG01
import Derived.ProofKit
import Derived.OpenShut
import Derived.ShutString
import Derived.SliceStrings
import Derived.Test.YtipdgmjplnibeaaGreatDoorRows
import Derived.Test.YtipdgmjplnibeaaGreatDoorG47
import Derived.Stop.LaidErr
import Derived.LaidMore
import Derived.LaidLaws
import Derived.Lay
namespace Go.Proofs.YtipdgmjplnibeaaGreatDoor
open Go.RowKit Go.ChangeShapes Go.WideShapes Go.ChangeAt
section
variable {H:Type} {enc:TypeId×Value→H} {P:Program} {w:World} {base:Nat} {spare:Nat→Bool} {held:Bool}
theorem rd_ints {t e:TypeId} {k:IntKind} {a:Option Addr} {len cap:Nat} {d:DataW H} {p:List MemPlace} (ht:P.underlying t=some (.slice e)) (he:P.underlying e=some (.int k)) (hc:P.cellsOf e=1)
  (h:DataW.Trod enc P w base spare held t (.slice a len cap) d p) :
  ∃ zs:List Int,Rd w w.heap.size a len (zs.map (Value.int k))∧(∀ n∈zs,(Lit.int k n).wf=true)∧len≤cap∧cap≤maxLen:=by
 obtain⟨fuel,hf⟩:=h
 rcases open_ints ht he hc hf with⟨hcs,_⟩ | ⟨x,l,c,zs,hcs,_,hl,hm,hz,_,hcell,hwz⟩
 ·simp[Value.cells] at hcs
  obtain⟨rfl,rfl,rfl⟩:=hcs
  exact⟨[],Rd.nil_,by simp,Nat.le_refl _,by simp[maxLen]⟩
 ·simp[Value.cells] at hcs
  obtain⟨rfl,rfl,rfl⟩:=hcs
  have hlz:len≤zs.length:=by rw[hz];split <;> omega
  refine⟨zs.take len,⟨by simp;omega,fun h0=>⟨x,rfl,?_,fun j u hu=>?_⟩⟩,fun n hn=>hwz n (List.mem_of_mem_take hn),hl,hm⟩
  ·have:=hcell 0 (by omega)
   have:=World.block_lt_of_cell? w _ this
   rwa[block_add] at this
  ·rw[List.getElem?_map,List.getElem?_take] at hu
   split at hu
   ·rename_i hj
    rw[List.getElem?_eq_getElem (show j<zs.length by omega)] at hu
    simp at hu
    subst hu
    rw[hcell j (by omega)]
    simp[List.getD,List.getElem?_eq_getElem (show j<zs.length by omega)]
   ·cases hu
theorem bytes_of:∀ zs:List Int,(∀ n∈zs,(Lit.int .u8 n).wf=true)→∃ bs:List UInt8,zs.map (Value.int .u8)=bs.map bv
 | [],_=>⟨[],rfl⟩
 | z::zs,h=>by
  obtain⟨bs,hb⟩:=bytes_of zs fun n hn=>h n (List.mem_cons_of_mem _ hn)
  have hz:=bounds_u8 (h z (List.mem_cons_self ..))
  refine⟨UInt8.ofNat z.toNat::bs,?_⟩
  simp only[List.map_cons,hb,bv]
  congr 2
  rw[show (UInt8.ofNat z.toNat).toNat=z.toNat by simp;omega]
  omega
theorem nats_of:∀ zs:List Int,(∀ n∈zs,(Lit.int .u64 n).wf=true)→∃ l:List Nat,zs.map (Value.int .u64)=l.map nv∧∀ x∈l,x<18446744073709551616
 | [],_=>⟨[],rfl,by simp⟩
 | z::zs,h=>by
  obtain⟨bs,hb,hc⟩:=nats_of zs fun n hn=>h n (List.mem_cons_of_mem _ hn)
  have hz:=bounds_u64 (h z (List.mem_cons_self ..))
  refine⟨z.toNat::bs,?_,?_⟩
  ·simp only[List.map_cons,hb,nv]
   congr 2
   omega
  ·intro x hx
   rcases List.mem_cons.1 hx with rfl | hx
   ·omega
   ·exact hc x hx
theorem rd_bytes {t e:TypeId} {a:Option Addr} {len cap:Nat} {d:DataW H} {p:List MemPlace} (ht:P.underlying t=some (.slice e)) (he:P.underlying e=some (.int .u8)) (hc:P.cellsOf e=1)
  (h:DataW.Trod enc P w base spare held t (.slice a len cap) d p):∃ bs:List UInt8,Rd w w.heap.size a len (bs.map bv)∧len≤cap∧cap≤maxLen:=by
 obtain⟨zs,h1,h2,h3⟩:=rd_ints ht he hc h
 obtain⟨bs,hb⟩:=bytes_of zs h2
 exact⟨bs,hb ▸ h1,h3⟩
theorem rd_nats {t e:TypeId} {a:Option Addr} {len cap:Nat} {d:DataW H} {p:List MemPlace} (ht:P.underlying t=some (.slice e)) (he:P.underlying e=some (.int .u64)) (hc:P.cellsOf e=1)
  (h:DataW.Trod enc P w base spare held t (.slice a len cap) d p):∃ l:List Nat,Rd w w.heap.size a len (l.map nv)∧(∀ x∈l,x<18446744073709551616)∧len≤cap∧cap≤maxLen:=by
 obtain⟨zs,h1,h2,h3⟩:=rd_ints ht he hc h
 obtain⟨bs,hb,hx⟩:=nats_of zs h2
 exact⟨bs,hb ▸ h1,hx,h3⟩
theorem rd_strings {t e:TypeId} {a:Option Addr} {len cap:Nat} {d:DataW H} {p:List MemPlace} (ht:P.underlying t=some (.slice e)) (he:P.underlying e=some .string) (hc:P.cellsOf e=1)
  (h:DataW.Trod enc P w base spare held t (.slice a len cap) d p):∃ l:List ByteArray,Rd w w.heap.size a len (l.map Value.string)∧(∀ s∈l,s.size≤maxLen)∧len≤cap∧cap≤maxLen:=by
 obtain⟨fuel,hf⟩:=h
 rcases open_strings ht he hc hf with⟨hcs,_⟩ | ⟨x,l,c,zs,hcs,_,hl,hm,hz,_,hcell,hwz⟩
 ·simp[Value.cells] at hcs
  obtain⟨rfl,rfl,rfl⟩:=hcs
  exact⟨[],Rd.nil_,by simp,Nat.le_refl _,by simp[maxLen]⟩
 ·simp[Value.cells] at hcs
  obtain⟨rfl,rfl,rfl⟩:=hcs
  have hlz:len≤zs.length:=by rw[hz];split <;> omega
  refine⟨zs.take len,⟨by simp;omega,fun h0=>⟨x,rfl,?_,fun j u hu=>?_⟩⟩,fun n hn=>hwz n (List.mem_of_mem_take hn),hl,hm⟩
  ·have:=hcell 0 (by omega)
   have:=World.block_lt_of_cell? w _ this
   rwa[block_add] at this
  ·rw[List.getElem?_map,List.getElem?_take] at hu
   split at hu
   ·rename_i hj
    rw[List.getElem?_eq_getElem (show j<zs.length by omega)] at hu
    simp at hu
    subst hu
    rw[hcell j (by omega)]
    simp[List.getD,List.getElem?_eq_getElem (show j<zs.length by omega)]
   ·cases hu
end
end Go.Proofs.YtipdgmjplnibeaaGreatDoor
namespace Go.Proofs.YtipdgmjplnibeaaGreatDoor
open Go.ChangeShapes Go.WideShapes Go.ChangeAt Go.RowKit
noncomputable abbrev laidL:List (String×DataW Unit):=[("math/bits.deBruijn32tab",Rows.laid_math_bits_deBruijn32tab),("math/bits.deBruijn64tab",Rows.laid_math_bits_deBruijn64tab),("internal/strconv.uint64pow10",Rows.laid_internal_strconv_uint64pow10),("unicode/utf8.acceptRanges",Rows.laid_unicode_utf8_acceptRanges),("strconv.ErrRange",Rows.laid_strconv_ErrRange),("strconv.ErrSyntax",Rows.laid_strconv_ErrSyntax),("kinetoscope/arith.rows",Rows.laid_kinetoscope_arith_rows),("kinetoscope/arith.longs",Rows.laid_kinetoscope_arith_longs),("kinetoscope/word.ops",Rows.laid_kinetoscope_word_ops),("unicode/utf8.first",Rows.laid_unicode_utf8_first)]
theorem gNames:Tryz.prog.globalNamed "internal/strconv.uint64pow10" = some 1:=by kernel_rfl
theorem tNames:(Tryz.prog.globals[1]?).map (·.type)=some 199:=by kernel_rfl
theorem gOps:Tryz.prog.globalNamed "kinetoscope/word.ops" = some 4:=by kernel_rfl
theorem tOps:(Tryz.prog.globals[4]?).map (·.type)=some 242:=by kernel_rfl
theorem gES:Tryz.prog.globalNamed "strconv.ErrSyntax" = some 2:=by kernel_rfl
theorem gER:Tryz.prog.globalNamed "strconv.ErrRange" = some 3:=by kernel_rfl
theorem tES:(Tryz.prog.globals[2]?).map (·.type)=some 121:=by kernel_rfl
theorem tER:(Tryz.prog.globals[3]?).map (·.type)=some 121:=by kernel_rfl
theorem cU64:Tryz.prog.cellsOf 124=1:=by kernel_rfl
theorem c20:Tryz.prog.cellsOf 199=20:=by kernel_rfl
theorem c9:Tryz.prog.cellsOf 9=1:=by kernel_rfl
theorem c52:Tryz.prog.cellsOf 242=12:=by kernel_rfl
theorem door_met (os:Os) (args:Array Value):laidMetH Tryz.prog laidL ((World.laidAll Tryz.prog os laidL).forCall (fun _ _=>0) ⟨#[],args,[]⟩).memory:=by
 rw[MakeChecks.laidMetH_plain _ _ _ (by kernel_rfl)]
 exact laidMet_laidAll _ (by kernel_rfl) (by kernel_rfl)
theorem laid_at:∀ i:_root_.Fin 12,(match Rows.laid_kinetoscope_word_ops (H:=Unit) with | .agg l=>l | _=>[])[i.1]?=some (.lit (.string (mkS (Wd.ops.getD i.1 [])).data.toList)):=by
 intro i
 match i with
 | 0=>rfl
 | 1=>rfl
 | 2=>rfl
 | 3=>rfl
 | 4=>rfl
 | 5=>rfl
 | 6=>rfl
 | 7=>rfl
 | 8=>rfl
 | 9=>rfl
 | 10=>rfl
 | 11=>rfl
theorem laid_tab:Rows.laid_internal_strconv_uint64pow10 (H:=Unit)=Lib.tabData .u64 Lib.pow10Tab:=by kernel_rfl
theorem star : "*"++ "errors.errorString" = "*errors.errorString":=by decide
theorem erow (u:TypeId) (h:Tryz.prog.typeName? 3 u=some "*errors.errorString"):u=216:=
 typeName_ptr_named (nm:= "errors.errorString") (by rw[star];kernel_rfl) (by kernel_rfl) (by decide) u (by rw[star];exact h)
theorem errAt_of {W:World} {n:String} {g:Nat} (hg:Tryz.prog.globalNamed n=some g) {tp:TypeId} {p:Value} (h:W.var? Tryz.prog n=some #[.iface tp p]):En.ErrAt W g:=
 ⟨.iface tp p,(World.var?_cell hg h 0).trans rfl,Or.inr ⟨tp,p,rfl⟩⟩
theorem ops_of_laid {W:World} (h:laidMetH Tryz.prog laidL W):Ops W:=by
 rw[MakeChecks.laidMetH_plain _ _ _ (by kernel_rfl)] at h
 obtain⟨ps,⟨g0,t0,cs0,f0,p0,q0,hg0,ht0,hv0,hd0,_⟩,_⟩:=h.tail.tail.tail.tail.tail.tail.tail.tail
 obtain rfl:=Option.some.inj (gOps.symm.trans hg0)
 obtain rfl:=Option.some.inj (tOps.symm.trans ht0)
 obtain⟨xs,m1,_,hx,hlen,hn,hel⟩:=DataW.trod_array Tryz.underlying242 hd0
 rw[c52] at hlen
 simp only[Prod.mk.injEq] at hx
 have hx1:=hx.1
 intro i hi
 have h1:=hel i hi
 rw[c9] at h1
 have hix:i<xs.length:=by omega
 rw[List.getElem?_eq_getElem hix] at h1
 obtain⟨s,hs1,hs2,_⟩:=DataW.trod_string Tryz.underlying9 h1
 have hl:=laid_at ⟨i,hi⟩
 rw[show Rows.laid_kinetoscope_word_ops (H:=Unit)=.agg (xs.map (·.1)) from hx1] at hl
 dsimp only at hl
 rw[List.getElem?_map,List.getElem?_eq_getElem hix,hs2] at hl
 simp only[Option.map_some,Option.some.injEq,DataW.lit.injEq,Lit.string.injEq] at hl
 have hs:s=mkS (Wd.ops.getD i []):=ByteArray.ext (Array.ext' hl)
 subst hs
 rw[World.var?_cell gOps hv0 i]
 have hci:i<cs0.toList.length:=by rw[hlen];exact hi
 rw[Nat.mul_one,List.drop_eq_getElem_cons hci,List.take_succ_cons,List.take_zero] at hs1
 injection hs1 with hs1
 rw[←Array.getElem?_toList,List.getElem?_eq_getElem hci,hs1]
theorem vd_of_laid {W:World} (h:laidMetH Tryz.prog laidL W):En.Vd W:=by
 rw[MakeChecks.laidMetH_plain _ _ _ (by kernel_rfl)] at h
 have h2:=h.tail.tail.tail.tail
 obtain⟨a1,s1,e1,_⟩:=laid_sentinel h2 gER tER Tryz.underlying121 erow Tryz.underlying216 Tryz.underlying218 rfl rfl Tryz.underlying9 (by kernel_rfl) (by kernel_rfl)
 obtain⟨a2,s2,e2,_⟩:=laid_sentinel h2.tail gES tES Tryz.underlying121 erow Tryz.underlying216 Tryz.underlying218 rfl rfl Tryz.underlying9 (by kernel_rfl) (by kernel_rfl)
 refine⟨?_,errAt_of gES e2,errAt_of gER e1⟩
 obtain⟨ps,⟨_,_,_,_,_,_,_,_,_,_,⟨_,_,_,_,_,_,_,_,_,_,⟨g0,t0,cs0,f0,p0,q0,hg0,ht0,hv0,hd0,_⟩,_⟩,_⟩,_⟩:=h
 obtain rfl:=Option.some.inj (gNames.symm.trans hg0)
 obtain rfl:=Option.some.inj (tNames.symm.trans ht0)
 rw[laid_tab] at hd0
 show Lib.TabIs _ _ _ _ _
 unfold Lib.TabIs
 rw[hv0,←Lib.cells_of_tab Tryz.underlying199 Tryz.underlying124 cU64 c20 hd0]
theorem gw_of_laid {W:World} (h:laidMetH Tryz.prog laidL W):Ex.Gw W:=⟨vd_of_laid h,ops_of_laid h,World.block_lt_of_cell? W _ (ops_of_laid h 0 (by decide))⟩
end Go.Proofs.YtipdgmjplnibeaaGreatDoor
