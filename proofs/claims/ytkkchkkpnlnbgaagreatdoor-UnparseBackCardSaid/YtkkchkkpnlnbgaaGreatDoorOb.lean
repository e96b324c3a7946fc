/- Arguments as the walks take them: slices of numbers, of bytes, of texts. No premises. -/
import Derived.Test.YtkkchkkpnlnbgaaGreatDoorNa
import Derived.ProofKit
import Derived.OpenShut
import Derived.ShutString
import Derived.SliceStrings
import Derived.Test.YtkkchkkpnlnbgaaGreatDoorRows
import Derived.Test.YtkkchkkpnlnbgaaGreatDoorNl
import Derived.LaidMore
namespace Go.Proofs.YtkkchkkpnlnbgaaGreatDoor
open Go.RowKit Go.ChangeShapes Go.WideShapes Go.ChangeAt
end Go.Proofs.YtkkchkkpnlnbgaaGreatDoor
namespace Go.Proofs.YtkkchkkpnlnbgaaGreatDoor
open Go.ChangeShapes Go.WideShapes Go.ChangeAt Go.RowKit
abbrev laidL:List (String×DataW Unit):=[("math/bits.deBruijn32tab",Rows.laid_math_bits_deBruijn32tab),("math/bits.deBruijn64tab",Rows.laid_math_bits_deBruijn64tab),("internal/strconv.uint64pow10",Rows.laid_internal_strconv_uint64pow10),("kinetoscope/lexer.signs",Rows.laid_kinetoscope_lexer_signs)]
theorem gNames:Tryz.prog.globalNamed "kinetoscope/lexer.signs" = some 0:=by kernel_rfl
theorem tNames:(Tryz.prog.globals[0]?).map (·.type)=some 98:=by kernel_rfl
theorem c9:Tryz.prog.cellsOf 9=1:=by kernel_rfl
theorem c52:Tryz.prog.cellsOf 98=11:=by kernel_rfl
theorem door_met (os:Os) (args:Array Value):laidMetH Tryz.prog laidL ((World.doorLaid Tryz.prog 40 os).forCall (fun _ _=>0) ⟨#[],args,[]⟩).memory:=
 laidMetH_of_parts3 (fuel:=8) (laidMet_of_run' 8 (by kernel_rfl) (by kernel_rfl)) (by kernel_rfl) (by kernel_rfl)
theorem laid_at:∀ i:_root_.Fin 11,(match Rows.laid_kinetoscope_lexer_signs (H:=Unit) with | .agg l=>l | _=>[])[i.1]?=some (.lit (.string (sgT i.1).data.toList)):=by
 intro i
 match i with
 | 0=>rfl
 | 1=>rfl
 | 2=>rfl
 | 3=>rfl
 | 4=>rfl
 | 5=>rfl
 | 6=>rfl
 | 7=>rfl
 | 8=>rfl
 | 9=>rfl
 | 10=>rfl
theorem sgn_of_laid {W:World} (h:laidMetH Tryz.prog laidL W):Sgn W:=by
 rw[MakeChecks.laidMetH_plain _ _ _ (by kernel_rfl)] at h
 obtain⟨ps,⟨_,_,_,_,_,_,_,_,_,_,⟨_,_,_,_,_,_,_,_,_,_,⟨_,_,_,_,_,_,_,_,_,_,⟨g0,t0,cs0,f0,p0,q0,hg0,ht0,hv0,hd0,_⟩,_⟩,_⟩,_⟩,_⟩:=h
 obtain rfl:=Option.some.inj (gNames.symm.trans hg0)
 obtain rfl:=Option.some.inj (tNames.symm.trans ht0)
 obtain⟨xs,m1,_,hx,hlen,hn,hel⟩:=DataW.trod_array Tryz.underlying98 hd0
 rw[c52] at hlen
 simp only[Prod.mk.injEq] at hx
 have hx1:=hx.1
 intro i hi
 have h1:=hel i hi
 rw[c9] at h1
 have hix:i<xs.length:=by omega
 rw[List.getElem?_eq_getElem hix] at h1
 obtain⟨s,hs1,hs2,_⟩:=DataW.trod_string Tryz.underlying9 h1
 have hl:=laid_at ⟨i,hi⟩
 rw[show Rows.laid_kinetoscope_lexer_signs (H:=Unit)=.agg (xs.map (·.1)) from hx1] at hl
 dsimp only at hl
 rw[List.getElem?_map,List.getElem?_eq_getElem hix,hs2] at hl
 simp only[Option.map_some,Option.some.injEq,DataW.lit.injEq,Lit.string.injEq] at hl
 have hs:s=sgT i:=ByteArray.ext (Array.ext' hl)
 subst hs
 rw[World.var?_cell gNames hv0 i]
 have hci:i<cs0.toList.length:=by rw[hlen];exact hi
 rw[Nat.mul_one,List.drop_eq_getElem_cons hci,List.take_succ_cons,List.take_zero] at hs1
 injection hs1 with hs1
 rw[←Array.getElem?_toList,List.getElem?_eq_getElem hci,hs1]
end Go.Proofs.YtkkchkkpnlnbgaaGreatDoor
