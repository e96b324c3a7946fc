import Derived.Test.YtipdgmjplnibeaaGreatDoorXQuoQ
import Derived.Test.YtipdgmjplnibeaaGreatDoorRows
import Derived.Test.YtipdgmjplnibeaaGreatDoorAL
import Derived.ChangeOld
import Derived.Test.YtipdgmjplnibeaaGreatDoorCards
import Derived.Test.YtipdgmjplnibeaaGreatDoorTie
import Derived.SevenTiedAt
set_option maxHeartbeats 25600000
namespace Go.Proofs.YtipdgmjplnibeaaGreatDoor
namespace expandQuoted
open Go.ChangeShapes Go.WideShapes Go.ChangeAt Go.RowKit
open Go.ChangeMaps (open_string shut_string)
theorem said:Rows.ExpandQuotedSaid:=
 OpenClaim.holds_of_wide 3 Tryz.f3 rfl rfl rfl rfl rfl rfl rfl ⟨rfl,rfl,rfl,rfl,rfl⟩ rfl rfl rfl rfl rfl (by as_aux_lemma=>kernel_rfl) Tryz.func3 (by as_aux_lemma=>kernel_rfl)
  (of_decide_eq_true (by as_aux_lemma=>kernel_rfl)) (by as_aux_lemma=>unfold Func.isWrapper;first | (rw[if_pos (by decide +kernel)];kernel_rfl) | (rw[if_neg (by decide +kernel)];exact⟨rfl,rfl⟩))
  (fun os started H enc _=>lifted os started H enc)
theorem proved:Rows.ExpandQuotedCardSaid:=
 Claim7.holds_tied_plain_at .later [] [.data,.data,.data,.data,.sentinel,.sentinel,.widerDeep,.data,.data,.pinned] true Rows.expandQuotedCard.stood.harness Rows.expandQuotedCard.stood.looks said (fun _ h=>by cases h) (by kernel_rfl) (fun _ h=>by cases h) expandQuoted_row_tie rfl ⟨rfl,rfl⟩ (by kernel_rfl) rfl
  (fun f fn hf hfn=>by
   obtain rfl:f=3:=Option.some.inj ((show Tryz.prog.funcNamed "kinetoscope/kinetoscopelaw15.ExpandQuoted" = some 3 by kernel_rfl).symm.trans hf) |>.symm
   obtain rfl:fn=Tryz.f3:=(Option.some.inj (Tryz.func3.symm.trans hfn)).symm
   exact⟨by kernel_rfl,fun j t ht=>by
    rw[Tryz.params3] at ht
    have hm:t∈[22,23,5,9]:=by simpa using Array.mem_of_getElem? ht
    have hall:([22,23,5,9].all fun u=>!Tryz.prog.wantsStandIn u)=true:=by kernel_rfl
    exact(show Tryz.prog.wantsStandIn t=false by simpa using List.all_eq_true.1 hall t hm)⟩)
  (by kernel_rfl)
end expandQuoted
end Go.Proofs.YtipdgmjplnibeaaGreatDoor
