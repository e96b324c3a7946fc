import Derived.Test.YtipdgmjplnibeaaGreatDoorG51
import Derived.Test.YtipdgmjplnibeaaGreatDoorRows
import Derived.ChangeOld
import Derived.Test.YtipdgmjplnibeaaGreatDoorCards
import Derived.Test.YtipdgmjplnibeaaGreatDoorTie
import Derived.SevenTiedAt
set_option maxHeartbeats 25600000
namespace Go.Proofs.YtipdgmjplnibeaaGreatDoor
namespace expandArith
open Go.ChangeShapes Go.WideShapes Go.ChangeAt Go.RowKit
open Go.ChangeMaps (open_string shut_string)
theorem said:Rows.ExpandArithSaid:=
 OpenClaim.holds_of_wide 8 Tryz.f8 rfl rfl rfl rfl rfl rfl rfl ⟨rfl,rfl,rfl,rfl,rfl⟩ rfl rfl rfl rfl rfl (by as_aux_lemma=>kernel_rfl) Tryz.func8 (by as_aux_lemma=>kernel_rfl)
  (of_decide_eq_true (by as_aux_lemma=>kernel_rfl)) (by as_aux_lemma=>unfold Func.isWrapper;first | (rw[if_pos (by decide +kernel)];kernel_rfl) | (rw[if_neg (by decide +kernel)];exact⟨rfl,rfl⟩))
  (fun os started H enc _=>lifted os started H enc)
theorem proved:Rows.ExpandArithCardSaid:=
 Claim7.holds_tied_plain_at .later [] [.data,.data,.data,.data,.sentinel,.sentinel,.widerDeep,.data,.data,.pinned] true Rows.expandArithCard.stood.harness Rows.expandArithCard.stood.looks said (fun _ h=>by cases h) (by kernel_rfl) (fun _ h=>by cases h) expandArith_row_tie rfl ⟨rfl,rfl⟩ (by kernel_rfl) rfl
  (fun f fn hf hfn=>by
   obtain rfl:f=8:=Option.some.inj ((show Tryz.prog.funcNamed "kinetoscope/kinetoscopelaw15.ExpandArith" = some 8 by kernel_rfl).symm.trans hf) |>.symm
   obtain rfl:fn=Tryz.f8:=(Option.some.inj (Tryz.func8.symm.trans hfn)).symm
   exact⟨by kernel_rfl,fun j t ht=>by
    rw[Tryz.params8] at ht
    have hm:t∈[2,2,9]:=by simpa using Array.mem_of_getElem? ht
    have hall:([2,2,9].all fun u=>!Tryz.prog.wantsStandIn u)=true:=by kernel_rfl
    exact(show Tryz.prog.wantsStandIn t=false by simpa using List.all_eq_true.1 hall t hm)⟩)
  (by kernel_rfl)
end expandArith
end Go.Proofs.YtipdgmjplnibeaaGreatDoor
