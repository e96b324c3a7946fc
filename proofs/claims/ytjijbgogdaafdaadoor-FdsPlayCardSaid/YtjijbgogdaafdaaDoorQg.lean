/- slices.DeleteFunc of one number; Without. No premises. -/
import Derived.Test.YtjijbgogdaafdaaDoorQf
namespace Go.Proofs.YtjijbgogdaafdaaDoor
open Go.RowKit Go.Maps
namespace Fd
set_option maxRecDepth 100000
theorem wo1_v (a b x : Int) (bx : Nat) (W : World) (h : W.cell? ⟨bx, 0, none⟩ = some (.int .i64 x)) : Calls Tryd.prog 19 #[.agg #[.int .i64 a, .int .i64 b], .pointer (some ⟨bx, 0, none⟩)] W fun e W' => e = .returned (.bool (decide (a = x))) ∧ Later W W' := by
  have HLA := Lib.hid (Later.alloc W (.cells #[.int .i64 a, .int .i64 b] 44))
  have hb : (W.alloc (.cells #[.int .i64 a, .int .i64 b] 44)).cell? ⟨bx, 0, none⟩ = some (.int .i64 x) := (HLA.out.cell (World.block_lt_of_cell? W _ h)).trans h
  by_cases he : a = x
  · have hq : (a == x) = true := by simpa using he
    rw [decide_eq_true he]
    clear h he
    go_enter Tryd.func19, Tryd.ntmps19
    go_wp2
    go_ret
    exact ⟨rfl, HLA.out⟩
  · have hq : (a == x) = false := by simpa using he
    rw [decide_eq_false he]
    clear h he
    go_enter Tryd.func19, Tryd.ntmps19
    go_wp2
    go_ret
    exact ⟨rfl, HLA.out⟩
/-- Where the first one is. -/
def IxOk (l : Ps) (x : Int) (e : Ending) : Prop := (e = .returned (.int .i64 (-1)) ∧ ∀ p ∈ l, p.1 ≠ x) ∨ ∃ i : Nat, e = .returned (.int .i64 (i : Int)) ∧ ∃ h : i < l.length, l[i].1 = x ∧ ∀ p ∈ l.take i, p.1 ≠ x
set_option maxHeartbeats 6400000 in
theorem index_v (g c : Nat) (l : Ps) (z : List Value) (x : Int) (bx : Nat) (W : World) (hp : PB W g l z) (hb : W.cell? ⟨bx, 0, none⟩ = some (.int .i64 x)) (hn : l.length ≤ 1000000) : Calls Tryd.prog 25 #[.slice (some ⟨g, 0, none⟩) l.length c, .func (.func 19) #[] #[.pointer (some ⟨bx, 0, none⟩)]] W fun e W' => IxOk l x e ∧ Later W W' := by
  obtain ⟨n, hnn⟩ : ∃ n, n = l.length := ⟨_, rfl⟩
  have HN := Lib.hid hnn
  have HP := Lib.hid hp
  have HB := Lib.hid hb
  rw [← hnn] at hn ⊢
  clear hnn hp hb
  go_enter Tryd.func25, Tryd.ntmps25
  go_wp2_with fail
  go_loopw [8] (fun s8 wr => ∃ i : Nat, s8 = .int .i64 (i : Int) ∧ i ≤ n ∧ Later W wr ∧ Hid (∀ p ∈ l.take i, p.1 ≠ x)) (fun i _ => n - (intOf i).toNat)
  case atStart => exact ⟨0, rfl, Nat.zero_le _, Later.refl _, Lib.hid (by simp)⟩
  case round =>
    obtain ⟨i, rfl, hi, hlw, hin⟩ := hrel
    have HLW := Lib.hid hlw
    have hi0 : (0 : Int) ≤ (i : Int) := by omega
    clear hlw
    by_cases hlt : i < n
    · have hlt1 : (i : Int) < (n : Int) := by omega
      have hml : i < l.length := by rw [← HN.out]; exact hlt
      obtain ⟨p, hp⟩ : ∃ p, p = l[i] := ⟨_, rfl⟩
      obtain ⟨p1, p2⟩ := (PrB.later HP.out HLW.out).cells i hml
      rw [← hp] at p1 p2
      have HLD := Lib.hid (load_pair 44 _ Tryd.underlying44 (by kernel_rfl) p1 p2)
      have HW1 := Lib.hid (wo1_v p.1 p.2 x bx wr ((HLW.out.cell (World.block_lt_of_cell? W _ HB.out)).trans HB.out))
      have HX := Lib.hid hp
      have HTK := Lib.hid (show l.take (i + 1) = l.take i ++ [p] by rw [hp]; exact List.take_succ_eq_append_getElem hml)
      clear hp p1 p2
      by_cases he : p.1 = x
      · have hd : decide (p.1 = x) = true := decide_eq_true he
        rw [hd] at HW1
        have HE := Lib.hid he
        clear he hd
        go_wp2_with (first
          | (refine wpList_loadRun rfl 44 (.tmp 14) rfl _ _ rfl HLD.out ?_)
          | (go_at_call 19; (with_reducible refine HW1.out.mono ?_); rintro x9 w5 ⟨rfl, hl5⟩; (have HL5 := Lib.hid (HLW.out.trans hl5)); clear hl5))
        go_ret
        exact ⟨.inr ⟨i, rfl, hml, by rw [← HX.out]; exact HE.out, hin.out⟩, HL5.out⟩
      · have hd : decide (p.1 = x) = false := decide_eq_false he
        rw [hd] at HW1
        have HE := Lib.hid he
        clear he hd
        go_wp2_with (first
          | (refine wpList_loadRun rfl 44 (.tmp 14) rfl _ _ rfl HLD.out ?_)
          | (go_at_call 19; (with_reducible refine HW1.out.mono ?_); rintro x9 w5 ⟨rfl, hl5⟩; (have HL5 := Lib.hid (HLW.out.trans hl5)); clear hl5))
        go_roundw
        case rel =>
          refine ⟨i + 1, by go_num, by omega, HL5.out, Lib.hid ?_⟩
          intro q hq
          rw [HTK.out] at hq
          rcases List.mem_append.1 hq with hq | hq
          · exact hin.out q hq
          · rw [List.mem_singleton.1 hq]; exact HE.out
        case measure => simp [intOf]; omega
    · have hlt2 : ¬ (i : Int) < (n : Int) := by omega
      go_wp2
      go_ret
      refine ⟨.inl ⟨rfl, ?_⟩, HLW.out⟩
      have h := hin.out
      rw [List.take_of_length_le (by rw [← HN.out]; omega)] at h
      exact h
theorem index0_v (A : Option Addr) (c : Nat) (fv : Value) (W : World) : Calls Tryd.prog 25 #[.slice A 0 c, fv] W fun e W' => e = .returned (.int .i64 (-1)) ∧ W' = W := by
  go_enter Tryd.func25, Tryd.ntmps25
  go_wp2_with fail
  go_loopw [8] (fun s8 wr => s8 = .int .i64 0 ∧ wr = W) (fun _ _ => 0)
  case atStart => exact ⟨rfl, rfl⟩
  case round =>
    obtain ⟨rfl, rfl⟩ := hrel
    go_wp2
    go_ret
    exact ⟨rfl, rfl⟩
end Fd
end Go.Proofs.YtjijbgogdaafdaaDoor
