/- few: are things few? No premises. -/
import Derived.Test.YtmijploffdoenaaDoorNk
import Derived.Test.YtmijploffdoenaaDoorNn
import Derived.BigQuiet
namespace Go.Proofs.YtmijploffdoenaaDoor
open Go.RowKit Go.Maps
namespace En
def fewOne (a : Doing) : Bool := decide (a.name.length ≤ 30) && decide (a.value.length ≤ 60)
def fewB (l : List Doing) : Bool := l.all fewOne && decide (l.length ≤ 60)
theorem few_at {l : List Doing} (h : fewB l = true) : l.length ≤ 60 ∧ ∀ x ∈ l, x.name.length ≤ 30 ∧ x.value.length ≤ 60 := by
  unfold fewB fewOne at h
  simp only [Bool.and_eq_true, List.all_eq_true, decide_eq_true_eq] at h
  exact ⟨h.2, h.1⟩
set_option maxRecDepth 100000 in
set_option maxHeartbeats 1600000 in
theorem few_v (A : Option Addr) (n c : Nat) (l : List Doing) (W : World) (h : RdD W W.heap.size A n l) (hn : n ≤ 9223372036854775807) : Calls Tryd.prog 7 #[.slice A n c] W fun x W' => x = .returned (.bool (fewB l)) ∧ Later W W' := by
  have HR := Lib.hid h
  have HLN := Lib.hid h.len
  clear h
  go_enter Tryd.func7, Tryd.ntmps7
  go_wp2_with fail
  go_loopw [3] (fun s3 wr => ∃ i : Nat, s3 = .int .i64 (i : Int) ∧ i ≤ n ∧ (∀ x ∈ l.take i, fewOne x = true) ∧ wr = W) (fun i _ => n - (intOf i).toNat)
  case atStart => exact ⟨0, rfl, Nat.zero_le _, by simp, rfl⟩
  case round =>
    obtain ⟨i, rfl, hi, hno, hw⟩ := hrel
    have hw := hw.symm
    subst hw
    have HNO := Lib.hid hno
    clear hno
    have hi0 : (0 : Int) ≤ (i : Int) := by omega
    by_cases hlt : i < n
    · have hi1 : (i : Int) < (n : Int) := by omega
      have hl := HLN.out
      have hil : i < l.length := by omega
      obtain ⟨ad, rfl, hb, hd⟩ := HR.out.at_ i hil
      obtain ⟨x, hx⟩ : ∃ x, x = l[i] := ⟨_, rfl⟩
      rw [← hx] at hd
      have p1 := hd.c1
      have p2 := hd.c2
      have z1 : ((mkS x.name).size : Int) = (x.name.length : Int) := by rw [mkS_size]
      have z2 : ((mkS x.value).size : Int) = (x.value.length : Int) := by rw [mkS_size]
      have HTK := Lib.hid (show l.take (i + 1) = l.take i ++ [x] by rw [hx]; exact List.take_succ_eq_append_getElem hil)
      have HX := Lib.hid (show x ∈ l by rw [hx]; exact List.getElem_mem hil)
      clear hd hb hx hl hil
      by_cases g1 : x.name.length ≤ 30
      · have k1 : ¬ (30 : Int) < (x.name.length : Int) := by omega
        by_cases g2 : x.value.length ≤ 60
        · have k2 : ¬ (60 : Int) < (x.value.length : Int) := by omega
          have HF := Lib.hid (show fewOne x = true by unfold fewOne; rw [decide_eq_true g1, decide_eq_true g2]; rfl)
          go_wp2
          go_roundw
          case rel =>
            refine ⟨i + 1, by go_num, by omega, ?_, trivial⟩
            intro y hy
            rw [HTK.out] at hy
            rcases List.mem_append.1 hy with hy | hy
            · exact HNO.out y hy
            · rw [List.mem_singleton.1 hy]; exact HF.out
          case measure => simp [intOf]; omega
        · have k2 : (60 : Int) < (x.value.length : Int) := by omega
          have HF := Lib.hid (show fewB l = false by
            rw [← Bool.not_eq_true]
            intro h
            exact g2 ((few_at h).2 x HX.out).2)
          go_wp2
          go_ret
          exact ⟨by rw [HF.out]; rfl, Later.refl _⟩
      · have k1 : (30 : Int) < (x.name.length : Int) := by omega
        have HF := Lib.hid (show fewB l = false by
          rw [← Bool.not_eq_true]
          intro h
          exact g1 ((few_at h).2 x HX.out).1)
        go_wp2
        go_ret
        exact ⟨by rw [HF.out]; rfl, Later.refl _⟩
    · have hall : l.all fewOne = true := by
        have hl := HLN.out
        have h := HNO.out
        rw [List.take_of_length_le (by omega)] at h
        rw [List.all_eq_true]
        exact h
      have HF := Lib.hid (show fewB l = decide (n ≤ 60) by unfold fewB; rw [hall, HLN.out]; rfl)
      clear hall
      by_cases g : n ≤ 60
      · have g1 : (n : Int) ≤ 60 := by omega
        have HG := Lib.hid g
        clear g
        go_wp2
        go_ret
        exact ⟨by rw [HF.out, decide_eq_true HG.out]; rfl, Later.refl _⟩
      · have g1 : ¬ (n : Int) ≤ 60 := by omega
        have HG := Lib.hid g
        clear g
        go_wp2
        go_ret
        exact ⟨by rw [HF.out, decide_eq_false HG.out]; rfl, Later.refl _⟩
end En
end Go.Proofs.YtmijploffdoenaaDoor
