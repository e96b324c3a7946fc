/- The functions that go over a struct put it out. No premises. -/
import Derived.Test.YteljmlodbnfhbaaKt
namespace Go.Proofs.Yteljmlodbnfhbaa
open Go.RowKit
namespace Ks
set_option maxRecDepth 100000
/-- So many numbers, and what stands behind. -/
def appT : Nat → Type → Type
  | 0, σ => Int × σ
  | n + 1, σ => Int × appT n σ
def appR {σ : Type} (s : Rp σ) : (n : Nat) → Rp (appT n σ)
  | 0 => rseq rnum s
  | n + 1 => rseq rnum (appR s n)
def appC {σ : Type} (d : Cd σ) : (n : Nat) → Cd (appT n σ)
  | 0 => Ks.seq num d
  | n + 1 => Ks.seq num (appC d n)
def split {σ : Type} : (n : Nat) → appT n σ → numsT n × σ
  | 0, x => x
  | n + 1, x => ((x.1, (split n x.2).1), (split n x.2).2)
theorem appR_C {σ : Type} {s : Rp σ} : ∀ (n : Nat) {w : World} {N : Nat} {cs : List Value} {a : appT n σ}, (appR s n).C w N cs a → (rseq (numsR n) s).C w N cs (split n a)
  | 0, _, _, _, _, h => h
  | n + 1, w, N, cs, a, h => by
    obtain ⟨c1, c2, rfl, h1, h2⟩ := h
    obtain ⟨c3, c4, rfl, h3, h4⟩ := appR_C n h2
    exact ⟨c1 ++ c3, c4, (List.append_assoc _ _ _).symm, ⟨c1, c3, rfl, h1, h3⟩, h4⟩
theorem appC_put {σ : Type} {d : Cd σ} : ∀ (n : Nat) (a : appT n σ), (appC d n).put a = (Ks.seq (numsC n) d).put (split n a)
  | 0, _ => rfl
  | n + 1, a => by
    have h1 : (appC d (n + 1)).put a = num.put a.1 ++ (appC d n).put a.2 := rfl
    rw [h1, appC_put n a.2]
    exact (List.append_assoc _ _ _).symm
theorem appC_ok {σ : Type} {d : Cd σ} : ∀ (n : Nat) {a : appT n σ}, (appC d n).ok a → (Ks.seq (numsC n) d).ok (split n a)
  | 0, _, h => h
  | n + 1, a, h => by
    obtain ⟨h1, h2⟩ := h
    obtain ⟨h3, h4⟩ := appC_ok n h2
    exact ⟨⟨h1, h3⟩, h4⟩
theorem OutS.flat {σ : Type} {K : Nat → Nat → Nat → World → (World → Prop) → Prop} {s : Rp σ} {d : Cd σ} {n : Nat} (h : OutS K (rseq (numsR n) s) (Ks.seq (numsC n) d)) : OutS K (appR s n) (appC d n) :=
  ⟨fun N hp hX hN hc hcell hok hlen hq => h.go N hp hX hN (appR_C n hc) hcell (appC_ok n hok) (by rw [← appC_put]; exact hlen) (by rw [← appC_put]; exact hq)⟩
theorem numsR_wd : ∀ n, (numsR n).wd = n + 1
  | 0 => rfl
  | n + 1 => by
    have h1 : (numsR (n + 1)).wd = 1 + (numsR n).wd := rfl
    rw [h1, numsR_wd n]; omega
theorem out_var : OutS (one1 67) prR prC := (out_txt.seq out_txt (wd := 1) rfl).imp fun g bs o W _ h => variable_cps g bs o W _ h
theorem out_row : OutS (one1 59) prR prC := (out_txt.seq out_txt (wd := 1) rfl).imp fun g bs o W _ h => masked_cps g bs o W _ h
theorem out_trap : OutS (one1 48) tpR tpC := (out_int.seq out_txt (wd := 1) rfl).imp fun g bs o W _ h => trap_cps g bs o W _ h
theorem out_pair : OutS (one1 50) fdR fdC := (out_int.seq out_int64 (wd := 1) rfl).imp fun g bs o W _ h => pair_cps g bs o W _ h
theorem out_fn : OutS (one1 46) fnR fnC := (out_txt.seq (out_ints 1 (by omega)) (wd := 1) rfl).imp fun g bs o W _ h => function_cps g bs o W _ h
theorem out_env : OutS (one1 44) envR envC := ((outR_vars out_var).seq ((outR_txts out_txt).seq (out_int.seq out_txt (wd := 1) rfl) (wd := 1) rfl) (wd := 1) rfl).imp fun g bs o W _ h => known_cps g bs o W _ h
theorem out_keep : OutS (one1 27) kpR kpC := (out_env.seq ((outR_fns out_fn).seq ((outR_traps out_trap).seq (outR_fds out_pair) (wd := 1) rfl) (wd := 1) rfl) (wd := 4) rfl).iso.imp fun g bs o W _ h => kept_cps g bs o W _ h
theorem out_req : OutS (one1 32) rqR rqC :=
  (out_int.seq (OutS.flat (n := 1) ((out_int64s 1 (by omega)).seq (out_txt.seq (outR_txts out_txt) (wd := 1) rfl) (wd := 2) rfl)) (wd := 1) rfl).iso.imp fun g bs o W _ h => request_cps g bs o W _ h
theorem out_ans : OutS (one1 33) anR anC :=
  (OutS.flat (n := 1) ((out_ints 1 (by omega)).seq (OutS.flat (n := 1) ((out_int64s 1 (by omega)).seq (out_txt.seq ((outR_txts out_txt).seq out_int (wd := 1) rfl) (wd := 1) rfl) (wd := 2) rfl)) (wd := 2) rfl)).iso.imp fun g bs o W _ h => answer_cps g bs o W _ h
theorem out_frame : OutS (one1 31) fmR fmC :=
  (OutS.flat (n := 4) ((out_ints 4 (by omega)).seq (out_bit.seq (OutS.flat (n := 1) ((out_int64s 1 (by omega)).seq (out_txt.seq ((outR_num64s out_int64).seq ((outR_txts out_txt).seq ((outR_rows out_row).seq out_keep (wd := 1) rfl) (wd := 1) rfl) (wd := 1) rfl) (wd := 1) rfl) (wd := 2) rfl)) (wd := 1) rfl) (wd := 5) rfl)).iso.imp fun g bs o W _ h => frame_cps g bs o W _ h
theorem out_state : OutS (one1 14) stR stC :=
  (out_keep.seq ((outR_txts out_txt).seq ((outR_frames out_frame).seq (out_req.seq (out_ans.seq ((outR_nums out_int).seq (OutS.flat (n := 2) ((out_ints 2 (by omega)).seq (out_bit.seq (out_bit.seq (out_bit.seq out_errno (wd := 1) rfl) (wd := 1) rfl) (wd := 1) rfl) (wd := 3) rfl)) (wd := 1) rfl) (wd := 7) rfl) (wd := 5) rfl) (wd := 1) rfl) (wd := 1) rfl) (wd := 7) rfl).iso.imp fun g bs o W _ h => whole_cps g bs o W _ h
end Ks
end Go.Proofs.Yteljmlodbnfhbaa
