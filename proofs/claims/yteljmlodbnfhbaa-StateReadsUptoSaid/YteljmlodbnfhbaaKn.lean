/- The functions that go over a struct take it in. No premises. -/
import Derived.Test.YteljmlodbnfhbaaKl
namespace Go.Proofs.Yteljmlodbnfhbaa
open Go.RowKit
namespace Ks
set_option maxRecDepth 100000
def zI : Value := .int .i64 0
def zS : Value := .string ⟨#[]⟩
def zL : Value := .slice none 0 0
def zB : Value := .bool false
theorem in_var : InS (one1 67) prR prC [.string ⟨#[]⟩, .string ⟨#[]⟩] := (in_txt.seq in_txt (wd := 1) rfl).imp fun g bs o W _ h => variable_cps g bs o W _ h
theorem in_row : InS (one1 59) prR prC [.string ⟨#[]⟩, .string ⟨#[]⟩] := (in_txt.seq in_txt (wd := 1) rfl).imp fun g bs o W _ h => masked_cps g bs o W _ h
theorem in_trap : InS (one1 48) tpR tpC [.int .i64 0, .string ⟨#[]⟩] := (in_int.seq in_txt (wd := 1) rfl).imp fun g bs o W _ h => trap_cps g bs o W _ h
theorem in_pair : InS (one1 50) fdR fdC [.int .i64 0, .int .i64 0] := (in_int.seq in_int64 (wd := 1) rfl).imp fun g bs o W _ h => pair_cps g bs o W _ h
theorem in_fn : InS (one1 46) fnR fnC [.string ⟨#[]⟩, .int .i64 0, .int .i64 0] := (in_txt.seq (in_ints 1 (by omega)) (wd := 1) rfl).imp fun g bs o W _ h => function_cps g bs o W _ h
def zEnv : List Value := [.slice none 0 0, .slice none 0 0, .int .i64 0, .string ⟨#[]⟩]
def zKeep : List Value := zEnv ++ [.slice none 0 0, .slice none 0 0, .slice none 0 0]
def zReq : List Value := [.int .i64 0, .int .i64 0, .int .i64 0, .string ⟨#[]⟩, .slice none 0 0]
def zAns : List Value := [.int .i64 0, .int .i64 0, .int .i64 0, .int .i64 0, .string ⟨#[]⟩, .slice none 0 0, .int .i64 0]
theorem in_env : InS (one1 44) envR envC zEnv := ((inR_vars in_var).seq ((inR_txts inT_txt).seq (in_int.seq in_txt (wd := 1) rfl) (wd := 1) rfl) (wd := 1) rfl).imp fun g bs o W _ h => known_cps g bs o W _ h
theorem in_keep : InS (one1 27) kpR kpC zKeep := (in_env.seq ((inR_fns in_fn).seq ((inR_traps in_trap).seq (inR_fds in_pair) (wd := 1) rfl) (wd := 1) rfl) (wd := 4) rfl).iso.imp fun g bs o W _ h => kept_cps g bs o W _ h
theorem in_req : InS (one1 32) rqR rqC zReq :=
  (in_int.seq (InS.flat (n := 1) ((in_int64s 1 (by omega)).seq (in_txt.seq (inR_txts inT_txt) (wd := 1) rfl) (wd := 2) rfl)) (wd := 1) rfl).iso.imp fun g bs o W _ h => request_cps g bs o W _ h
theorem in_ans : InS (one1 33) anR anC zAns :=
  (InS.flat (n := 1) ((in_ints 1 (by omega)).seq (InS.flat (n := 1) ((in_int64s 1 (by omega)).seq (in_txt.seq ((inR_txts inT_txt).seq in_int (wd := 1) rfl) (wd := 1) rfl) (wd := 2) rfl)) (wd := 2) rfl)).iso.imp fun g bs o W _ h => answer_cps g bs o W _ h
theorem in_frame : InS (one1 31) fmR fmC [.int .i64 0, .int .i64 0, .int .i64 0, .int .i64 0, .int .i64 0, .bool false, .int .i64 0, .int .i64 0, .string ⟨#[]⟩, .slice none 0 0, .slice none 0 0, .slice none 0 0, .slice none 0 0, .slice none 0 0, .int .i64 0, .string ⟨#[]⟩, .slice none 0 0, .slice none 0 0, .slice none 0 0] :=
  (InS.flat (n := 4) ((in_ints 4 (by omega)).seq (in_bit.seq (InS.flat (n := 1) ((in_int64s 1 (by omega)).seq (in_txt.seq ((inR_num64s inT_int64).seq ((inR_txts inT_txt).seq ((inR_rows in_row).seq in_keep (wd := 1) rfl) (wd := 1) rfl) (wd := 1) rfl) (wd := 1) rfl) (wd := 2) rfl)) (wd := 1) rfl) (wd := 5) rfl)).iso.imp fun g bs o W _ h => frame_cps g bs o W _ h
def zState : List Value := [.slice none 0 0, .slice none 0 0, .int .i64 0, .string ⟨#[]⟩, .slice none 0 0, .slice none 0 0, .slice none 0 0, .slice none 0 0, .slice none 0 0, .int .i64 0, .int .i64 0, .int .i64 0, .string ⟨#[]⟩, .slice none 0 0, .int .i64 0, .int .i64 0, .int .i64 0, .int .i64 0, .string ⟨#[]⟩, .slice none 0 0, .int .i64 0, .slice none 0 0, .int .i64 0, .int .i64 0, .int .i64 0, .bool false, .bool false, .bool false, .int .i64 0]
theorem in_state : InS (one1 14) stR stC zState :=
  (in_keep.seq ((inR_txts inT_txt).seq ((inR_frames in_frame).seq (in_req.seq (in_ans.seq ((inR_nums inT_int).seq (InS.flat (n := 2) ((in_ints 2 (by omega)).seq (in_bit.seq (in_bit.seq (in_bit.seq in_errno (wd := 1) rfl) (wd := 1) rfl) (wd := 1) rfl) (wd := 3) rfl)) (wd := 1) rfl) (wd := 7) rfl) (wd := 5) rfl) (wd := 1) rfl) (wd := 1) rfl) (wd := 7) rfl).iso.imp fun g bs o W _ h => whole_cps g bs o W _ h
end Ks
end Go.Proofs.Yteljmlodbnfhbaa
