/- A state, its parts, their bytes, and their cells. No premises. -/
import Derived.Test.YteljmlodbnfhbaaKr
namespace Go.Proofs.Yteljmlodbnfhbaa
open Go.RowKit Go.ChangeShapes Go.WideShapes Go.ChangeAt
namespace Ks
structure Kp where
  vars : List (B × B)
  args : List B
  status : Int
  flags : B
  funcs : List (B × Int × Int)
  traps : List (Int × B)
  fds : List (Int × Int)
structure Fm where
  op : Int
  prog : Int
  node : Int
  phase : Int
  i : Int
  quiet : Bool
  a : Int
  b : Int
  text : B
  nums : List Int
  words : List B
  rows : List (B × B)
  keep : Kp
structure Rq where
  kind : Int
  n : Int
  m : Int
  text : B
  list : List B
structure An where
  kind : Int
  err : Int
  n : Int
  m : Int
  text : B
  list : List B
  sig : Int
structure St where
  keep : Kp
  progs : List B
  stack : List Fm
  asked : Rq
  got : An
  sigs : List Int
  loose : Int
  n : Int
  deep : Int
  trapping : Bool
  ended : Bool
  done : Bool
  fail : Int
abbrev EnvT := List (B × B) × List B × Int × B
abbrev KpT := EnvT × List (B × Int × Int) × List (Int × B) × List (Int × Int)
def kpF (x : KpT) : Kp := ⟨x.1.1, x.1.2.1, x.1.2.2.1, x.1.2.2.2, x.2.1, x.2.2.1, x.2.2.2⟩
def kpG (k : Kp) : KpT := ((k.vars, k.args, k.status, k.flags), k.funcs, k.traps, k.fds)
abbrev FmT := Int × Int × Int × Int × Int × Bool × Int × Int × B × List Int × List B × List (B × B) × Kp
def fmF (x : FmT) : Fm := ⟨x.1, x.2.1, x.2.2.1, x.2.2.2.1, x.2.2.2.2.1, x.2.2.2.2.2.1, x.2.2.2.2.2.2.1, x.2.2.2.2.2.2.2.1, x.2.2.2.2.2.2.2.2.1, x.2.2.2.2.2.2.2.2.2.1, x.2.2.2.2.2.2.2.2.2.2.1, x.2.2.2.2.2.2.2.2.2.2.2.1, x.2.2.2.2.2.2.2.2.2.2.2.2⟩
def fmG (f : Fm) : FmT := (f.op, f.prog, f.node, f.phase, f.i, f.quiet, f.a, f.b, f.text, f.nums, f.words, f.rows, f.keep)
abbrev RqT := Int × Int × Int × B × List B
def rqF (x : RqT) : Rq := ⟨x.1, x.2.1, x.2.2.1, x.2.2.2.1, x.2.2.2.2⟩
def rqG (q : Rq) : RqT := (q.kind, q.n, q.m, q.text, q.list)
abbrev AnT := Int × Int × Int × Int × B × List B × Int
def anF (x : AnT) : An := ⟨x.1, x.2.1, x.2.2.1, x.2.2.2.1, x.2.2.2.2.1, x.2.2.2.2.2.1, x.2.2.2.2.2.2⟩
def anG (q : An) : AnT := (q.kind, q.err, q.n, q.m, q.text, q.list, q.sig)
abbrev StT := Kp × List B × List Fm × Rq × An × List Int × Int × Int × Int × Bool × Bool × Bool × Int
def stF (x : StT) : St := ⟨x.1, x.2.1, x.2.2.1, x.2.2.2.1, x.2.2.2.2.1, x.2.2.2.2.2.1, x.2.2.2.2.2.2.1, x.2.2.2.2.2.2.2.1, x.2.2.2.2.2.2.2.2.1, x.2.2.2.2.2.2.2.2.2.1, x.2.2.2.2.2.2.2.2.2.2.1, x.2.2.2.2.2.2.2.2.2.2.2.1, x.2.2.2.2.2.2.2.2.2.2.2.2⟩
def stG (s : St) : StT := (s.keep, s.progs, s.stack, s.asked, s.got, s.sigs, s.loose, s.n, s.deep, s.trapping, s.ended, s.done, s.fail)
def txts : Cd (List B) := row txt
def prC : Cd (B × B) := seq txt txt
def fnC : Cd (B × Int × Int) := seq txt (seq num num)
def tpC : Cd (Int × B) := seq num txt
def fdC : Cd (Int × Int) := seq num num
def envC : Cd EnvT := seq (row prC) (seq txts (seq num txt))
def kpC : Cd Kp := iso (seq envC (seq (row fnC) (seq (row tpC) (row fdC)))) kpF kpG (fun _ => rfl) (fun _ => rfl)
def fmC : Cd Fm := iso (seq num (seq num (seq num (seq num (seq num (seq bit (seq num (seq num (seq txt (seq (row num) (seq txts (seq (row prC) kpC)))))))))))) fmF fmG (fun _ => rfl) (fun _ => rfl)
def rqC : Cd Rq := iso (seq num (seq num (seq num (seq txt txts)))) rqF rqG (fun _ => rfl) (fun _ => rfl)
def anC : Cd An := iso (seq num (seq num (seq num (seq num (seq txt (seq txts num)))))) anF anG (fun _ => rfl) (fun _ => rfl)
def stC : Cd St := iso (seq kpC (seq txts (seq (row fmC) (seq rqC (seq anC (seq (row num) (seq num (seq num (seq num (seq bit (seq bit (seq bit num)))))))))))) stF stG (fun _ => rfl) (fun _ => rfl)
def txtsR : Rp (List B) := rrow rtxt
def prR : Rp (B × B) := rseq rtxt rtxt
def fnR : Rp (B × Int × Int) := rseq rtxt (rseq rnum rnum)
def tpR : Rp (Int × B) := rseq rnum rtxt
def fdR : Rp (Int × Int) := rseq rnum rnum
def envR : Rp EnvT := rseq (rrow prR) (rseq txtsR (rseq rnum rtxt))
def kpR : Rp Kp := riso (rseq envR (rseq (rrow fnR) (rseq (rrow tpR) (rrow fdR)))) kpG
def fmR : Rp Fm := riso (rseq rnum (rseq rnum (rseq rnum (rseq rnum (rseq rnum (rseq rbit (rseq rnum (rseq rnum (rseq rtxt (rseq (rrow rnum) (rseq txtsR (rseq (rrow prR) kpR)))))))))))) fmG
def rqR : Rp Rq := riso (rseq rnum (rseq rnum (rseq rnum (rseq rtxt txtsR)))) rqG
def anR : Rp An := riso (rseq rnum (rseq rnum (rseq rnum (rseq rnum (rseq rtxt (rseq txtsR rnum)))))) anG
def stR : Rp St := riso (rseq kpR (rseq txtsR (rseq (rrow fmR) (rseq rqR (rseq anR (rseq (rrow rnum) (rseq rnum (rseq rnum (rseq rnum (rseq rbit (rseq rbit (rseq rbit rnum)))))))))))) stG

theorem tk_int : Takes Try.prog 3 rnum num := takes_num Try.underlying3 (by kernel_rfl)
theorem tk_int64 : Takes Try.prog 2 rnum num := takes_num Try.underlying2 (by kernel_rfl)
theorem tk_errno : Takes Try.prog 38 rnum num := takes_num Try.underlying38 (by kernel_rfl)
theorem tk_bool : Takes Try.prog 4 rbit bit := takes_bit Try.underlying4 (by kernel_rfl)
theorem tk_str : Takes Try.prog 9 rtxt txt := takes_txt Try.underlying9 (by kernel_rfl)
theorem tk_strs : Takes Try.prog 23 txtsR txts := takes_row Try.underlying23 (by kernel_rfl) (by decide) tk_str
theorem tk_ints : Takes Try.prog 37 (rrow rnum) (row num) := takes_row Try.underlying37 (by kernel_rfl) (by decide) tk_int
theorem tk_int64s : Takes Try.prog 67 (rrow rnum) (row num) := takes_row Try.underlying67 (by kernel_rfl) (by decide) tk_int64
theorem tk_var : Takes Try.prog 130 prR prC := takes_struct Try.underlying130 (by kernel_rfl) (takesF_cons tk_str rfl (takesF_one tk_str))
theorem tk_row : Takes Try.prog 91 prR prC := takes_struct Try.underlying91 (by kernel_rfl) (takesF_cons tk_str rfl (takesF_one tk_str))
theorem tk_fn : Takes Try.prog 132 fnR fnC := takes_struct Try.underlying132 (by kernel_rfl) (takesF_cons tk_str rfl (takesF_cons tk_int rfl (takesF_one tk_int)))
theorem tk_trap : Takes Try.prog 133 tpR tpC := takes_struct Try.underlying133 (by kernel_rfl) (takesF_cons tk_int rfl (takesF_one tk_str))
theorem tk_pair : Takes Try.prog 134 fdR fdC := takes_struct Try.underlying134 (by kernel_rfl) (takesF_cons tk_int rfl (takesF_one tk_int64))
theorem tk_vars : Takes Try.prog 22 (rrow prR) (row prC) := takes_row Try.underlying22 (by kernel_rfl) (by decide) tk_var
theorem tk_rows : Takes Try.prog 68 (rrow prR) (row prC) := takes_row Try.underlying68 (by kernel_rfl) (by decide) tk_row
theorem tk_fns : Takes Try.prog 26 (rrow fnR) (row fnC) := takes_row Try.underlying26 (by kernel_rfl) (by decide) tk_fn
theorem tk_traps : Takes Try.prog 27 (rrow tpR) (row tpC) := takes_row Try.underlying27 (by kernel_rfl) (by decide) tk_trap
theorem tk_table : Takes Try.prog 29 (rrow fdR) (row fdC) := takes_row Try.underlying29 (by kernel_rfl) (by decide) tk_pair
theorem tk_env : Takes Try.prog 25 envR envC := takes_struct Try.underlying25 (by kernel_rfl) (takesF_cons tk_vars rfl (takesF_cons tk_strs rfl (takesF_cons tk_int rfl (takesF_one tk_str))))
theorem tk_keep : Takes Try.prog 31 kpR kpC := takes_iso (P := Try.prog) kpF kpG (fun _ => rfl) (fun _ => rfl) (takes_struct Try.underlying31 (by kernel_rfl) (takesF_cons tk_env rfl (takesF_cons tk_fns rfl (takesF_cons tk_traps rfl (takesF_one tk_table)))))
theorem tk_frame : Takes Try.prog 70 fmR fmC := takes_iso (P := Try.prog) fmF fmG (fun _ => rfl) (fun _ => rfl) (takes_struct Try.underlying70 (by kernel_rfl)
  (takesF_cons tk_int rfl (takesF_cons tk_int rfl (takesF_cons tk_int rfl (takesF_cons tk_int rfl (takesF_cons tk_int rfl (takesF_cons tk_bool rfl (takesF_cons tk_int64 rfl (takesF_cons tk_int64 rfl (takesF_cons tk_str rfl (takesF_cons tk_int64s rfl (takesF_cons tk_strs rfl (takesF_cons tk_rows rfl (takesF_one tk_keep))))))))))))))
theorem tk_req : Takes Try.prog 34 rqR rqC := takes_iso (P := Try.prog) rqF rqG (fun _ => rfl) (fun _ => rfl) (takes_struct Try.underlying34 (by kernel_rfl) (takesF_cons tk_int rfl (takesF_cons tk_int64 rfl (takesF_cons tk_int64 rfl (takesF_cons tk_str rfl (takesF_one tk_strs))))))
theorem tk_ans : Takes Try.prog 36 anR anC := takes_iso (P := Try.prog) anF anG (fun _ => rfl) (fun _ => rfl) (takes_struct Try.underlying36 (by kernel_rfl) (takesF_cons tk_int rfl (takesF_cons tk_int rfl (takesF_cons tk_int64 rfl (takesF_cons tk_int64 rfl (takesF_cons tk_str rfl (takesF_cons tk_strs rfl (takesF_one tk_int))))))))
theorem tk_frames : Takes Try.prog 32 (rrow fmR) (row fmC) := takes_row Try.underlying32 (by kernel_rfl) (by decide) tk_frame
theorem tk_state : Takes Try.prog 40 stR stC := takes_iso (P := Try.prog) stF stG (fun _ => rfl) (fun _ => rfl) (takes_struct Try.underlying40 (by kernel_rfl)
  (takesF_cons tk_keep rfl (takesF_cons tk_strs rfl (takesF_cons tk_frames rfl (takesF_cons tk_req rfl (takesF_cons tk_ans rfl (takesF_cons tk_ints rfl (takesF_cons tk_int rfl (takesF_cons tk_int rfl (takesF_cons tk_int rfl (takesF_cons tk_bool rfl (takesF_cons tk_bool rfl (takesF_cons tk_bool rfl (takesF_one tk_errno))))))))))))))
end Ks
end Go.Proofs.Yteljmlodbnfhbaa
