/- Rows that come in through a port. No premises. -/
import Derived.Test.YteljmlodbnfhbaaKj
namespace Go.Proofs.Yteljmlodbnfhbaa
open Go.RowKit
namespace Ks
set_option maxRecDepth 100000
/-- How many things are to come, and these. -/
def tkN {α : Type} (c : Cd α) (st : Except Nat B) (n : Int) : Except Nat (List α × B) := match st with
  | .error k => .error k
  | .ok b => if n < 0 ∨ 100000 < n then .error 11 else manyG c n.toNat b
theorem tkN_good {α : Type} (c : Cd α) (st : Except Nat B) {m : Nat} (h : m ≤ 100000) (_h0 : ∀ k, st = .error k → (m : Int) = 0) : tkN c st (m : Int) = nxtK c m st := by
  cases st with
  | error k => rfl
  | ok b =>
    show (if (m : Int) < 0 ∨ 100000 < (m : Int) then _ else _) = _
    rw [if_neg (by omega)]
    rfl
theorem taken_txts_bad0 {W : World} {B0 g gr e : Nat} {bs : B} {n : Int} (h : PIx W B0 g gr true e bs) :
    Calls Try.prog 51 #[.pointer (some ⟨g, 0, none⟩), .int .i64 n, .func (.func 29) #[] #[]] W fun x W' => x = .returned (.slice none 0 0) ∧ PI W' B0 g gr (.error 11) ∧ Fr (Ne2 g gr) W W' := by
  have q2 := (cell_row h.box 2).1
  have z2 := (cell_row h.box 2).2
  simp at q2
  have HE := Lib.hid (ends_v (h.formed true))
  have HP := Lib.hid (show PI (W.setCell ⟨g, 2, none⟩ (.bool true)) B0 g gr (.error 11) ∧ Fr (Ne2 g gr) W (W.setCell ⟨g, 2, none⟩ (.bool true)) from ⟨⟨true, e, bs, h.formed true, rfl⟩, Fr.grown (set_only W g 2 (.bool true)) fun x e hx => hx.1 (by injection e with e; exact e.symm)⟩)
  clear h
  go_enter Try.func51, Try.ntmps51
  go_wp2_with fail
  go_loopw [7, 25] (fun v i wr => v = .slice none 0 0 ∧ i = .int .i64 0 ∧ wr = W.setCell ⟨g, 2, none⟩ (.bool true)) (fun _ _ _ => 0)
  case atStart => exact ⟨rfl, rfl, rfl⟩
  case round =>
    obtain ⟨rfl, rfl, rfl⟩ := hrel
    by_cases hlt : 0 < n
    · go_wp2_with (go_at_call 71; (with_reducible refine HE.out.mono ?_); rintro e w' ⟨rfl, rfl⟩)
      go_ret
      exact ⟨rfl, HP.out⟩
    · go_wp2
      go_ret
      exact ⟨rfl, HP.out⟩
theorem taken_txts_bad1 {W : World} {B0 g gr e : Nat} {bs : B} {n : Int} (h : PIx W B0 g gr false e bs) (hn0 : n < 0) :
    Calls Try.prog 51 #[.pointer (some ⟨g, 0, none⟩), .int .i64 n, .func (.func 29) #[] #[]] W fun x W' => x = .returned (.slice none 0 0) ∧ PI W' B0 g gr (.error 11) ∧ Fr (Ne2 g gr) W W' := by
  have q2 := (cell_row h.box 2).1
  have z2 := (cell_row h.box 2).2
  simp at q2
  have HE := Lib.hid (ends_v (h.formed true))
  have HP := Lib.hid (show PI (W.setCell ⟨g, 2, none⟩ (.bool true)) B0 g gr (.error 11) ∧ Fr (Ne2 g gr) W (W.setCell ⟨g, 2, none⟩ (.bool true)) from ⟨⟨true, e, bs, h.formed true, rfl⟩, Fr.grown (set_only W g 2 (.bool true)) fun x e hx => hx.1 (by injection e with e; exact e.symm)⟩)
  clear h
  go_enter Try.func51, Try.ntmps51
  go_wp2_with fail
  go_loopw [7, 25] (fun v i wr => v = .slice none 0 0 ∧ i = .int .i64 0 ∧ wr = W.setCell ⟨g, 2, none⟩ (.bool true)) (fun _ _ _ => 0)
  case atStart => exact ⟨rfl, rfl, rfl⟩
  case round =>
    obtain ⟨rfl, rfl, rfl⟩ := hrel
    by_cases hlt : 0 < n
    · go_wp2_with (go_at_call 71; (with_reducible refine HE.out.mono ?_); rintro e w' ⟨rfl, rfl⟩)
      go_ret
      exact ⟨rfl, HP.out⟩
    · go_wp2
      go_ret
      exact ⟨rfl, HP.out⟩
theorem taken_txts_bad2 {W : World} {B0 g gr e : Nat} {bs : B} {n : Int} (h : PIx W B0 g gr false e bs) (hn0 : ¬ n < 0) (hn1 : 100000 < n) :
    Calls Try.prog 51 #[.pointer (some ⟨g, 0, none⟩), .int .i64 n, .func (.func 29) #[] #[]] W fun x W' => x = .returned (.slice none 0 0) ∧ PI W' B0 g gr (.error 11) ∧ Fr (Ne2 g gr) W W' := by
  have q2 := (cell_row h.box 2).1
  have z2 := (cell_row h.box 2).2
  simp at q2
  have HE := Lib.hid (ends_v (h.formed true))
  have HP := Lib.hid (show PI (W.setCell ⟨g, 2, none⟩ (.bool true)) B0 g gr (.error 11) ∧ Fr (Ne2 g gr) W (W.setCell ⟨g, 2, none⟩ (.bool true)) from ⟨⟨true, e, bs, h.formed true, rfl⟩, Fr.grown (set_only W g 2 (.bool true)) fun x e hx => hx.1 (by injection e with e; exact e.symm)⟩)
  clear h
  go_enter Try.func51, Try.ntmps51
  go_wp2_with fail
  go_loopw [7, 25] (fun v i wr => v = .slice none 0 0 ∧ i = .int .i64 0 ∧ wr = W.setCell ⟨g, 2, none⟩ (.bool true)) (fun _ _ _ => 0)
  case atStart => exact ⟨rfl, rfl, rfl⟩
  case round =>
    obtain ⟨rfl, rfl, rfl⟩ := hrel
    by_cases hlt : 0 < n
    · go_wp2_with (go_at_call 71; (with_reducible refine HE.out.mono ?_); rintro e w' ⟨rfl, rfl⟩)
      go_ret
      exact ⟨rfl, HP.out⟩
    · go_wp2
      go_ret
      exact ⟨rfl, HP.out⟩
set_option maxHeartbeats 1600000 in
theorem taken_txts_good (hF : InT (one1 29) rtxt txt [.string ⟨#[]⟩] shT) {W : World} {B0 g gr e m : Nat} {bs : B} (h : PIx W B0 g gr false e bs) (hm : m ≤ 100000) :
    Calls Try.prog 51 #[.pointer (some ⟨g, 0, none⟩), .int .i64 (m : Int), .func (.func 29) #[] #[]] W fun x W' => ∃ A n cap st', x = .returned (.slice A n cap) ∧ TkD rtxt (nxtK txt m (stE false e bs)) W B0 g gr W' A n cap st' := by
  have q2 := (cell_row h.box 2).1
  have z2 := (cell_row h.box 2).2
  simp at q2
  obtain ⟨st0, hst⟩ : ∃ s, s = stE false e bs := ⟨_, rfl⟩
  rw [← hst]
  have hpi : PI W B0 g gr st0 := ⟨false, e, bs, h, hst.symm⟩
  have HG := Lib.hid (show B0 ≤ W.heap.size ∧ g < W.heap.size ∧ gr < W.heap.size by have := hpi.g; omega)
  have HS := Lib.hid (TkR.start (r := rtxt) (c := txt) (ET := 9) (W := W) (w := W.setCell ⟨g, 2, none⟩ (.bool false)) (st0 := st0) ⟨false, e, bs, h.formed false, hst.symm⟩ (Fr.grown (set_only W g 2 (.bool false)) fun x e hx => hx.1 (by injection e with e; exact e.symm)))
  have hn0 : ¬ (m : Int) < 0 := by omega
  have hn1 : ¬ (100000 : Int) < (m : Int) := by omega
  obtain ⟨i0, hi, hz0, hz1, hz2⟩ := info_parts (show (Try.prog.info? 9).map (fun i => (i.zero, i.size, i.bytes)) = some (some (.string ⟨#[]⟩), 1, 16) by kernel_rfl)
  clear h hpi hst
  go_enter Try.func51, Try.ntmps51
  go_wp2_with fail
  go_loopw [7, 25] (fun v i wr => ∃ (k : Nat) (xss : List (List Value)) (st' : Except Nat B), k ≤ m ∧ i = .int .i64 (k : Int) ∧ Hid (TkR rtxt txt 9 W B0 g gr st0 k wr v xss st')) (fun _ i _ => m - (intOf i).toNat)
  case atStart => exact ⟨0, [], st0, Nat.zero_le _, rfl, HS⟩
  case round =>
    obtain ⟨k, xss, st', hk, rfl, HT⟩ := hrel
    clear q2 z2
    by_cases hlt : k < m
    · have hk2 : (k : Int) < (m : Int) := by omega
      obtain ⟨form, e', bs', hpx, hst'⟩ := HT.out.pi
      have hends := ends_v hpx
      cases hen : (form || decide (e' ≠ 0)) with
      | true =>
        rw [hen] at hends
        have HE := Lib.hid hends
        have hse : ∃ e2, st' = .error e2 := by
          rw [← hst']
          unfold stE
          cases form with
          | true => exact ⟨11, rfl⟩
          | false =>
            have he : e' ≠ 0 := by simpa using hen
            exact ⟨e', by simp [he]⟩
        obtain ⟨e2, rfl⟩ := hse
        have HD := Lib.hid (HT.out.stop hk)
        clear hends hst' hpx hen HT
        go_wp2_with (go_at_call 71; (with_reducible refine HE.out.mono ?_); rintro e w' ⟨rfl, rfl⟩)
        go_ret
        exact ⟨_, _, _, _, rfl, HD.out⟩
      | false =>
        rw [hen] at hends
        have HE := Lib.hid hends
        have hgl := HG.out
        have hsz := HT.out.fr.size
        have hnw := heap_alloc_new wr (.cells #[.string ⟨#[]⟩] 9)
        have HC := Lib.hid (hF.go (Q := fun W' => ∃ st2 cs, PI W' B0 g gr st2 ∧ Fr (Ne3 g gr wr.heap.size) (wr.alloc (.cells #[.string ⟨#[]⟩] 9)) W' ∧ W'.heap[wr.heap.size]? = some (.cells ([] ++ cs ++ []).toArray 9 (0, 0)) ∧ Stp rtxt txt (wr.alloc (.cells #[.string ⟨#[]⟩] 9)).heap.size W' st' st2 cs ∧ shT cs) (W := wr.alloc (.cells #[.string ⟨#[]⟩] 9)) (bx := wr.heap.size) (o := 0) (pre := []) (post := []) (ty := 9) (HT.out.pi.later (Later.alloc _ _)) rfl hnw (by omega) (by omega) (fun W' st2 cs h1 h2 h3 h4 h5 => ⟨st2, cs, h1, h2, h3, h4, h5⟩))
        have HOW := Lib.hid (show ∀ w1 : World, Fr (Ne3 g gr wr.heap.size) (wr.alloc (.cells #[.string ⟨#[]⟩] 9)) w1 → ∃ A1 c1, u7 = .slice A1 k c1 ∧ w1.ownsRow W.heap.size 9 1 (.slice A1 k c1) k xss.flatten ∧ W.heap.size ≤ w1.heap.size from fun w1 hf => by
          obtain ⟨A1, c1, hv, _⟩ := own_any HT.out.own
          subst hv
          refine ⟨A1, c1, rfl, ?_, by have := hf.size; rw [World.size_alloc] at this; omega⟩
          have h1 := own_below HT.out.own (Later.alloc wr (.cells #[.string ⟨#[]⟩] 9))
          refine hf.row h1 fun i hi => ?_
          have := HT.out.own.lt i hi
          exact ⟨by omega, by omega, by omega⟩)
        obtain ⟨A0, c0, hv0⟩ : ∃ A0 c0, u7 = .slice A0 k c0 := by obtain ⟨A1, c1, hv, _⟩ := own_any HT.out.own; exact ⟨A1, c1, hv⟩
        subst hv0
        have hk0 : (0 : Int) ≤ (k : Int) := by omega
        have HGG := Lib.hid hgl
        unfold one1 at HC
        clear hends hst' hpx hen hnw hsz hgl
        go_wp2_with (first
          | (go_at_call 71; (with_reducible refine HE.out.mono ?_); rintro e w' ⟨rfl, rfl⟩)
          | (go_at_call 29; (with_reducible refine HC.out.mono ?_); rintro e w1 ⟨rfl, st2, cs, hp1, hf1, hx1, hs1, hsh1⟩; obtain ⟨a0, rfl⟩ := hsh1; (have hb1 : w1.heap[wr.heap.size]? = some (.cells #[.string a0] 9 (0, 0)) := hx1); have q5 : w1.cell? ⟨wr.heap.size, 0, none⟩ = some (.string a0) := (by rw [(cell_row hb1 0).1]; rfl); (have HONE := Lib.hid hs1.one); obtain ⟨A1, c1, hv1, how1, hsz1⟩ := HOW.out w1 hf1; injection hv1 with hv1 _ hv2; subst hv1; subst hv2; (have HOW1 := Lib.hid how1); (have HSZ1 := Lib.hid hsz1); (have HPU := Lib.hid (fun v2 w2 hg => TkR.push (w2 := w2) (v2 := v2) HT.out HGG.out hp1 hf1 hs1 hg)); clear hp1 hf1 hx1 hs1 hb1 how1 hsz1)
                | (at_builtin; refine wpList_appK w1 #[.string a0] 1 (by omega) rfl HONE.out rfl (.tmp 32) (.tmp 34) 23 9 rfl i0 _ 16 Try.underlying23 hi hz0 hz1 hz2 rfl W.heap.size (.slice A0 k c0) k xss.flatten rfl HOW1.out _ rfl rfl (by omega) (by omega) HSZ1.out ?_; intro v3 w3 hg3; obtain ⟨A9, c9, hv9, _⟩ := own_any hg3.own; subst hv9; (have HP := Lib.hid (HPU.out _ _ hg3)); clear hg3))
        go_roundw
        case rel => exact ⟨k + 1, _, _, by omega, by go_num, HP⟩
        case measure => simp [intOf]; omega
    · have e1 : k = m := by omega
      subst e1
      obtain ⟨A, cap, hv, hd⟩ := HT.out.done
      subst hv
      have HD := Lib.hid hd
      clear hd HT
      go_wp2
      go_ret
      exact ⟨_, _, _, _, rfl, HD.out⟩
theorem taken_txts (hF : InT (one1 29) rtxt txt [.string ⟨#[]⟩] shT) {W : World} {B0 g gr e : Nat} {form : Bool} {bs : B} {n : Int} (h : PIx W B0 g gr form e bs) (h0 : form = false → e ≠ 0 → n = 0) :
    Calls Try.prog 51 #[.pointer (some ⟨g, 0, none⟩), .int .i64 n, .func (.func 29) #[] #[]] W fun x W' => ∃ A m cap st', x = .returned (.slice A m cap) ∧ TkD rtxt (tkN txt (stE form e bs) n) W B0 g gr W' A m cap st' := by
  have bad : tkN txt (stE form e bs) n = .error 11 → ∀ {e' : Ending} {W' : World}, e' = .returned (.slice none 0 0) ∧ PI W' B0 g gr (.error 11) ∧ Fr (Ne2 g gr) W W' → ∃ A m cap st', e' = .returned (.slice A m cap) ∧ TkD rtxt (tkN txt (stE form e bs) n) W B0 g gr W' A m cap st' := fun hb e' W' hq =>
    ⟨none, 0, 0, .error 11, hq.1, hq.2.1, hq.2.2, fun k hk => by rw [hb] at hk; injection hk with hk; rw [hk], fun l q hk => by rw [hb] at hk; cases hk⟩
  cases form with
  | true => exact (taken_txts_bad0 (n := n) h).mono fun e' W' hq => bad rfl hq
  | false =>
    by_cases hn0 : n < 0
    · have he : e = 0 := by
        by_cases he : e = 0
        · exact he
        · have := h0 rfl he; omega
      subst he
      exact (taken_txts_bad1 h hn0).mono fun e' W' hq => bad (by unfold tkN stE; simp [hn0]) hq
    · by_cases hn1 : 100000 < n
      · have he : e = 0 := by
          by_cases he : e = 0
          · exact he
          · have := h0 rfl he; omega
        subst he
        exact (taken_txts_bad2 h hn0 hn1).mono fun e' W' hq => bad (by unfold tkN stE; simp [hn1]) hq
      · obtain ⟨m, rfl⟩ := Int.eq_ofNat_of_zero_le (show 0 ≤ n by omega)
        rw [show tkN txt (stE false e bs) (m : Int) = nxtK txt m (stE false e bs) from tkN_good _ _ (by omega) (by
          intro k hk
          unfold stE at hk
          by_cases he : e = 0
          · simp [he] at hk
          · have := h0 rfl he; omega)]
        exact taken_txts_good hF h (by omega)
theorem taken_nums_bad0 {W : World} {B0 g gr e : Nat} {bs : B} {n : Int} (h : PIx W B0 g gr true e bs) :
    Calls Try.prog 60 #[.pointer (some ⟨g, 0, none⟩), .int .i64 n, .func (.func 35) #[] #[]] W fun x W' => x = .returned (.slice none 0 0) ∧ PI W' B0 g gr (.error 11) ∧ Fr (Ne2 g gr) W W' := by
  have q2 := (cell_row h.box 2).1
  have z2 := (cell_row h.box 2).2
  simp at q2
  have HE := Lib.hid (ends_v (h.formed true))
  have HP := Lib.hid (show PI (W.setCell ⟨g, 2, none⟩ (.bool true)) B0 g gr (.error 11) ∧ Fr (Ne2 g gr) W (W.setCell ⟨g, 2, none⟩ (.bool true)) from ⟨⟨true, e, bs, h.formed true, rfl⟩, Fr.grown (set_only W g 2 (.bool true)) fun x e hx => hx.1 (by injection e with e; exact e.symm)⟩)
  clear h
  go_enter Try.func60, Try.ntmps60
  go_wp2_with fail
  go_loopw [7, 25] (fun v i wr => v = .slice none 0 0 ∧ i = .int .i64 0 ∧ wr = W.setCell ⟨g, 2, none⟩ (.bool true)) (fun _ _ _ => 0)
  case atStart => exact ⟨rfl, rfl, rfl⟩
  case round =>
    obtain ⟨rfl, rfl, rfl⟩ := hrel
    by_cases hlt : 0 < n
    · go_wp2_with (go_at_call 71; (with_reducible refine HE.out.mono ?_); rintro e w' ⟨rfl, rfl⟩)
      go_ret
      exact ⟨rfl, HP.out⟩
    · go_wp2
      go_ret
      exact ⟨rfl, HP.out⟩
theorem taken_nums_bad1 {W : World} {B0 g gr e : Nat} {bs : B} {n : Int} (h : PIx W B0 g gr false e bs) (hn0 : n < 0) :
    Calls Try.prog 60 #[.pointer (some ⟨g, 0, none⟩), .int .i64 n, .func (.func 35) #[] #[]] W fun x W' => x = .returned (.slice none 0 0) ∧ PI W' B0 g gr (.error 11) ∧ Fr (Ne2 g gr) W W' := by
  have q2 := (cell_row h.box 2).1
  have z2 := (cell_row h.box 2).2
  simp at q2
  have HE := Lib.hid (ends_v (h.formed true))
  have HP := Lib.hid (show PI (W.setCell ⟨g, 2, none⟩ (.bool true)) B0 g gr (.error 11) ∧ Fr (Ne2 g gr) W (W.setCell ⟨g, 2, none⟩ (.bool true)) from ⟨⟨true, e, bs, h.formed true, rfl⟩, Fr.grown (set_only W g 2 (.bool true)) fun x e hx => hx.1 (by injection e with e; exact e.symm)⟩)
  clear h
  go_enter Try.func60, Try.ntmps60
  go_wp2_with fail
  go_loopw [7, 25] (fun v i wr => v = .slice none 0 0 ∧ i = .int .i64 0 ∧ wr = W.setCell ⟨g, 2, none⟩ (.bool true)) (fun _ _ _ => 0)
  case atStart => exact ⟨rfl, rfl, rfl⟩
  case round =>
    obtain ⟨rfl, rfl, rfl⟩ := hrel
    by_cases hlt : 0 < n
    · go_wp2_with (go_at_call 71; (with_reducible refine HE.out.mono ?_); rintro e w' ⟨rfl, rfl⟩)
      go_ret
      exact ⟨rfl, HP.out⟩
    · go_wp2
      go_ret
      exact ⟨rfl, HP.out⟩
theorem taken_nums_bad2 {W : World} {B0 g gr e : Nat} {bs : B} {n : Int} (h : PIx W B0 g gr false e bs) (hn0 : ¬ n < 0) (hn1 : 100000 < n) :
    Calls Try.prog 60 #[.pointer (some ⟨g, 0, none⟩), .int .i64 n, .func (.func 35) #[] #[]] W fun x W' => x = .returned (.slice none 0 0) ∧ PI W' B0 g gr (.error 11) ∧ Fr (Ne2 g gr) W W' := by
  have q2 := (cell_row h.box 2).1
  have z2 := (cell_row h.box 2).2
  simp at q2
  have HE := Lib.hid (ends_v (h.formed true))
  have HP := Lib.hid (show PI (W.setCell ⟨g, 2, none⟩ (.bool true)) B0 g gr (.error 11) ∧ Fr (Ne2 g gr) W (W.setCell ⟨g, 2, none⟩ (.bool true)) from ⟨⟨true, e, bs, h.formed true, rfl⟩, Fr.grown (set_only W g 2 (.bool true)) fun x e hx => hx.1 (by injection e with e; exact e.symm)⟩)
  clear h
  go_enter Try.func60, Try.ntmps60
  go_wp2_with fail
  go_loopw [7, 25] (fun v i wr => v = .slice none 0 0 ∧ i = .int .i64 0 ∧ wr = W.setCell ⟨g, 2, none⟩ (.bool true)) (fun _ _ _ => 0)
  case atStart => exact ⟨rfl, rfl, rfl⟩
  case round =>
    obtain ⟨rfl, rfl, rfl⟩ := hrel
    by_cases hlt : 0 < n
    · go_wp2_with (go_at_call 71; (with_reducible refine HE.out.mono ?_); rintro e w' ⟨rfl, rfl⟩)
      go_ret
      exact ⟨rfl, HP.out⟩
    · go_wp2
      go_ret
      exact ⟨rfl, HP.out⟩
set_option maxHeartbeats 1600000 in
theorem taken_nums_good (hF : InT (one1 35) rnum num [.int .i64 0] shI) {W : World} {B0 g gr e m : Nat} {bs : B} (h : PIx W B0 g gr false e bs) (hm : m ≤ 100000) :
    Calls Try.prog 60 #[.pointer (some ⟨g, 0, none⟩), .int .i64 (m : Int), .func (.func 35) #[] #[]] W fun x W' => ∃ A n cap st', x = .returned (.slice A n cap) ∧ TkD rnum (nxtK num m (stE false e bs)) W B0 g gr W' A n cap st' := by
  have q2 := (cell_row h.box 2).1
  have z2 := (cell_row h.box 2).2
  simp at q2
  obtain ⟨st0, hst⟩ : ∃ s, s = stE false e bs := ⟨_, rfl⟩
  rw [← hst]
  have hpi : PI W B0 g gr st0 := ⟨false, e, bs, h, hst.symm⟩
  have HG := Lib.hid (show B0 ≤ W.heap.size ∧ g < W.heap.size ∧ gr < W.heap.size by have := hpi.g; omega)
  have HS := Lib.hid (TkR.start (r := rnum) (c := num) (ET := 3) (W := W) (w := W.setCell ⟨g, 2, none⟩ (.bool false)) (st0 := st0) ⟨false, e, bs, h.formed false, hst.symm⟩ (Fr.grown (set_only W g 2 (.bool false)) fun x e hx => hx.1 (by injection e with e; exact e.symm)))
  have hn0 : ¬ (m : Int) < 0 := by omega
  have hn1 : ¬ (100000 : Int) < (m : Int) := by omega
  obtain ⟨i0, hi, hz0, hz1, hz2⟩ := info_parts (show (Try.prog.info? 3).map (fun i => (i.zero, i.size, i.bytes)) = some (some (.int .i64 0), 1, 8) by kernel_rfl)
  clear h hpi hst
  go_enter Try.func60, Try.ntmps60
  go_wp2_with fail
  go_loopw [7, 25] (fun v i wr => ∃ (k : Nat) (xss : List (List Value)) (st' : Except Nat B), k ≤ m ∧ i = .int .i64 (k : Int) ∧ Hid (TkR rnum num 3 W B0 g gr st0 k wr v xss st')) (fun _ i _ => m - (intOf i).toNat)
  case atStart => exact ⟨0, [], st0, Nat.zero_le _, rfl, HS⟩
  case round =>
    obtain ⟨k, xss, st', hk, rfl, HT⟩ := hrel
    clear q2 z2
    by_cases hlt : k < m
    · have hk2 : (k : Int) < (m : Int) := by omega
      obtain ⟨form, e', bs', hpx, hst'⟩ := HT.out.pi
      have hends := ends_v hpx
      cases hen : (form || decide (e' ≠ 0)) with
      | true =>
        rw [hen] at hends
        have HE := Lib.hid hends
        have hse : ∃ e2, st' = .error e2 := by
          rw [← hst']
          unfold stE
          cases form with
          | true => exact ⟨11, rfl⟩
          | false =>
            have he : e' ≠ 0 := by simpa using hen
            exact ⟨e', by simp [he]⟩
        obtain ⟨e2, rfl⟩ := hse
        have HD := Lib.hid (HT.out.stop hk)
        clear hends hst' hpx hen HT
        go_wp2_with (go_at_call 71; (with_reducible refine HE.out.mono ?_); rintro e w' ⟨rfl, rfl⟩)
        go_ret
        exact ⟨_, _, _, _, rfl, HD.out⟩
      | false =>
        rw [hen] at hends
        have HE := Lib.hid hends
        have hgl := HG.out
        have hsz := HT.out.fr.size
        have hnw := heap_alloc_new wr (.cells #[.int .i64 0] 3)
        have HC := Lib.hid (hF.go (Q := fun W' => ∃ st2 cs, PI W' B0 g gr st2 ∧ Fr (Ne3 g gr wr.heap.size) (wr.alloc (.cells #[.int .i64 0] 3)) W' ∧ W'.heap[wr.heap.size]? = some (.cells ([] ++ cs ++ []).toArray 3 (0, 0)) ∧ Stp rnum num (wr.alloc (.cells #[.int .i64 0] 3)).heap.size W' st' st2 cs ∧ shI cs) (W := wr.alloc (.cells #[.int .i64 0] 3)) (bx := wr.heap.size) (o := 0) (pre := []) (post := []) (ty := 3) (HT.out.pi.later (Later.alloc _ _)) rfl hnw (by omega) (by omega) (fun W' st2 cs h1 h2 h3 h4 h5 => ⟨st2, cs, h1, h2, h3, h4, h5⟩))
        have HOW := Lib.hid (show ∀ w1 : World, Fr (Ne3 g gr wr.heap.size) (wr.alloc (.cells #[.int .i64 0] 3)) w1 → ∃ A1 c1, u7 = .slice A1 k c1 ∧ w1.ownsRow W.heap.size 3 1 (.slice A1 k c1) k xss.flatten ∧ W.heap.size ≤ w1.heap.size from fun w1 hf => by
          obtain ⟨A1, c1, hv, _⟩ := own_any HT.out.own
          subst hv
          refine ⟨A1, c1, rfl, ?_, by have := hf.size; rw [World.size_alloc] at this; omega⟩
          have h1 := own_below HT.out.own (Later.alloc wr (.cells #[.int .i64 0] 3))
          refine hf.row h1 fun i hi => ?_
          have := HT.out.own.lt i hi
          exact ⟨by omega, by omega, by omega⟩)
        obtain ⟨A0, c0, hv0⟩ : ∃ A0 c0, u7 = .slice A0 k c0 := by obtain ⟨A1, c1, hv, _⟩ := own_any HT.out.own; exact ⟨A1, c1, hv⟩
        subst hv0
        have hk0 : (0 : Int) ≤ (k : Int) := by omega
        have HGG := Lib.hid hgl
        unfold one1 at HC
        clear hends hst' hpx hen hnw hsz hgl
        go_wp2_with (first
          | (go_at_call 71; (with_reducible refine HE.out.mono ?_); rintro e w' ⟨rfl, rfl⟩)
          | (go_at_call 35; (with_reducible refine HC.out.mono ?_); rintro e w1 ⟨rfl, st2, cs, hp1, hf1, hx1, hs1, hsh1⟩; obtain ⟨a0, rfl⟩ := hsh1; (have hb1 : w1.heap[wr.heap.size]? = some (.cells #[.int .i64 a0] 3 (0, 0)) := hx1); have q5 : w1.cell? ⟨wr.heap.size, 0, none⟩ = some (.int .i64 a0) := (by rw [(cell_row hb1 0).1]; rfl); (have HONE := Lib.hid hs1.one); obtain ⟨A1, c1, hv1, how1, hsz1⟩ := HOW.out w1 hf1; injection hv1 with hv1 _ hv2; subst hv1; subst hv2; (have HOW1 := Lib.hid how1); (have HSZ1 := Lib.hid hsz1); (have HPU := Lib.hid (fun v2 w2 hg => TkR.push (w2 := w2) (v2 := v2) HT.out HGG.out hp1 hf1 hs1 hg)); clear hp1 hf1 hx1 hs1 hb1 how1 hsz1)
                | (at_builtin; refine wpList_appK w1 #[.int .i64 a0] 1 (by omega) rfl HONE.out rfl (.tmp 32) (.tmp 34) 37 3 rfl i0 _ 8 Try.underlying37 hi hz0 hz1 hz2 rfl W.heap.size (.slice A0 k c0) k xss.flatten rfl HOW1.out _ rfl rfl (by omega) (by omega) HSZ1.out ?_; intro v3 w3 hg3; obtain ⟨A9, c9, hv9, _⟩ := own_any hg3.own; subst hv9; (have HP := Lib.hid (HPU.out _ _ hg3)); clear hg3))
        go_roundw
        case rel => exact ⟨k + 1, _, _, by omega, by go_num, HP⟩
        case measure => simp [intOf]; omega
    · have e1 : k = m := by omega
      subst e1
      obtain ⟨A, cap, hv, hd⟩ := HT.out.done
      subst hv
      have HD := Lib.hid hd
      clear hd HT
      go_wp2
      go_ret
      exact ⟨_, _, _, _, rfl, HD.out⟩
theorem taken_nums (hF : InT (one1 35) rnum num [.int .i64 0] shI) {W : World} {B0 g gr e : Nat} {form : Bool} {bs : B} {n : Int} (h : PIx W B0 g gr form e bs) (h0 : form = false → e ≠ 0 → n = 0) :
    Calls Try.prog 60 #[.pointer (some ⟨g, 0, none⟩), .int .i64 n, .func (.func 35) #[] #[]] W fun x W' => ∃ A m cap st', x = .returned (.slice A m cap) ∧ TkD rnum (tkN num (stE form e bs) n) W B0 g gr W' A m cap st' := by
  have bad : tkN num (stE form e bs) n = .error 11 → ∀ {e' : Ending} {W' : World}, e' = .returned (.slice none 0 0) ∧ PI W' B0 g gr (.error 11) ∧ Fr (Ne2 g gr) W W' → ∃ A m cap st', e' = .returned (.slice A m cap) ∧ TkD rnum (tkN num (stE form e bs) n) W B0 g gr W' A m cap st' := fun hb e' W' hq =>
    ⟨none, 0, 0, .error 11, hq.1, hq.2.1, hq.2.2, fun k hk => by rw [hb] at hk; injection hk with hk; rw [hk], fun l q hk => by rw [hb] at hk; cases hk⟩
  cases form with
  | true => exact (taken_nums_bad0 (n := n) h).mono fun e' W' hq => bad rfl hq
  | false =>
    by_cases hn0 : n < 0
    · have he : e = 0 := by
        by_cases he : e = 0
        · exact he
        · have := h0 rfl he; omega
      subst he
      exact (taken_nums_bad1 h hn0).mono fun e' W' hq => bad (by unfold tkN stE; simp [hn0]) hq
    · by_cases hn1 : 100000 < n
      · have he : e = 0 := by
          by_cases he : e = 0
          · exact he
          · have := h0 rfl he; omega
        subst he
        exact (taken_nums_bad2 h hn0 hn1).mono fun e' W' hq => bad (by unfold tkN stE; simp [hn1]) hq
      · obtain ⟨m, rfl⟩ := Int.eq_ofNat_of_zero_le (show 0 ≤ n by omega)
        rw [show tkN num (stE false e bs) (m : Int) = nxtK num m (stE false e bs) from tkN_good _ _ (by omega) (by
          intro k hk
          unfold stE at hk
          by_cases he : e = 0
          · simp [he] at hk
          · have := h0 rfl he; omega)]
        exact taken_nums_good hF h (by omega)
theorem taken_num64s_bad0 {W : World} {B0 g gr e : Nat} {bs : B} {n : Int} (h : PIx W B0 g gr true e bs) :
    Calls Try.prog 74 #[.pointer (some ⟨g, 0, none⟩), .int .i64 n, .func (.func 57) #[] #[]] W fun x W' => x = .returned (.slice none 0 0) ∧ PI W' B0 g gr (.error 11) ∧ Fr (Ne2 g gr) W W' := by
  have q2 := (cell_row h.box 2).1
  have z2 := (cell_row h.box 2).2
  simp at q2
  have HE := Lib.hid (ends_v (h.formed true))
  have HP := Lib.hid (show PI (W.setCell ⟨g, 2, none⟩ (.bool true)) B0 g gr (.error 11) ∧ Fr (Ne2 g gr) W (W.setCell ⟨g, 2, none⟩ (.bool true)) from ⟨⟨true, e, bs, h.formed true, rfl⟩, Fr.grown (set_only W g 2 (.bool true)) fun x e hx => hx.1 (by injection e with e; exact e.symm)⟩)
  clear h
  go_enter Try.func74, Try.ntmps74
  go_wp2_with fail
  go_loopw [7, 25] (fun v i wr => v = .slice none 0 0 ∧ i = .int .i64 0 ∧ wr = W.setCell ⟨g, 2, none⟩ (.bool true)) (fun _ _ _ => 0)
  case atStart => exact ⟨rfl, rfl, rfl⟩
  case round =>
    obtain ⟨rfl, rfl, rfl⟩ := hrel
    by_cases hlt : 0 < n
    · go_wp2_with (go_at_call 71; (with_reducible refine HE.out.mono ?_); rintro e w' ⟨rfl, rfl⟩)
      go_ret
      exact ⟨rfl, HP.out⟩
    · go_wp2
      go_ret
      exact ⟨rfl, HP.out⟩
theorem taken_num64s_bad1 {W : World} {B0 g gr e : Nat} {bs : B} {n : Int} (h : PIx W B0 g gr false e bs) (hn0 : n < 0) :
    Calls Try.prog 74 #[.pointer (some ⟨g, 0, none⟩), .int .i64 n, .func (.func 57) #[] #[]] W fun x W' => x = .returned (.slice none 0 0) ∧ PI W' B0 g gr (.error 11) ∧ Fr (Ne2 g gr) W W' := by
  have q2 := (cell_row h.box 2).1
  have z2 := (cell_row h.box 2).2
  simp at q2
  have HE := Lib.hid (ends_v (h.formed true))
  have HP := Lib.hid (show PI (W.setCell ⟨g, 2, none⟩ (.bool true)) B0 g gr (.error 11) ∧ Fr (Ne2 g gr) W (W.setCell ⟨g, 2, none⟩ (.bool true)) from ⟨⟨true, e, bs, h.formed true, rfl⟩, Fr.grown (set_only W g 2 (.bool true)) fun x e hx => hx.1 (by injection e with e; exact e.symm)⟩)
  clear h
  go_enter Try.func74, Try.ntmps74
  go_wp2_with fail
  go_loopw [7, 25] (fun v i wr => v = .slice none 0 0 ∧ i = .int .i64 0 ∧ wr = W.setCell ⟨g, 2, none⟩ (.bool true)) (fun _ _ _ => 0)
  case atStart => exact ⟨rfl, rfl, rfl⟩
  case round =>
    obtain ⟨rfl, rfl, rfl⟩ := hrel
    by_cases hlt : 0 < n
    · go_wp2_with (go_at_call 71; (with_reducible refine HE.out.mono ?_); rintro e w' ⟨rfl, rfl⟩)
      go_ret
      exact ⟨rfl, HP.out⟩
    · go_wp2
      go_ret
      exact ⟨rfl, HP.out⟩
theorem taken_num64s_bad2 {W : World} {B0 g gr e : Nat} {bs : B} {n : Int} (h : PIx W B0 g gr false e bs) (hn0 : ¬ n < 0) (hn1 : 100000 < n) :
    Calls Try.prog 74 #[.pointer (some ⟨g, 0, none⟩), .int .i64 n, .func (.func 57) #[] #[]] W fun x W' => x = .returned (.slice none 0 0) ∧ PI W' B0 g gr (.error 11) ∧ Fr (Ne2 g gr) W W' := by
  have q2 := (cell_row h.box 2).1
  have z2 := (cell_row h.box 2).2
  simp at q2
  have HE := Lib.hid (ends_v (h.formed true))
  have HP := Lib.hid (show PI (W.setCell ⟨g, 2, none⟩ (.bool true)) B0 g gr (.error 11) ∧ Fr (Ne2 g gr) W (W.setCell ⟨g, 2, none⟩ (.bool true)) from ⟨⟨true, e, bs, h.formed true, rfl⟩, Fr.grown (set_only W g 2 (.bool true)) fun x e hx => hx.1 (by injection e with e; exact e.symm)⟩)
  clear h
  go_enter Try.func74, Try.ntmps74
  go_wp2_with fail
  go_loopw [7, 25] (fun v i wr => v = .slice none 0 0 ∧ i = .int .i64 0 ∧ wr = W.setCell ⟨g, 2, none⟩ (.bool true)) (fun _ _ _ => 0)
  case atStart => exact ⟨rfl, rfl, rfl⟩
  case round =>
    obtain ⟨rfl, rfl, rfl⟩ := hrel
    by_cases hlt : 0 < n
    · go_wp2_with (go_at_call 71; (with_reducible refine HE.out.mono ?_); rintro e w' ⟨rfl, rfl⟩)
      go_ret
      exact ⟨rfl, HP.out⟩
    · go_wp2
      go_ret
      exact ⟨rfl, HP.out⟩
set_option maxHeartbeats 1600000 in
theorem taken_num64s_good (hF : InT (one1 57) rnum num [.int .i64 0] shI) {W : World} {B0 g gr e m : Nat} {bs : B} (h : PIx W B0 g gr false e bs) (hm : m ≤ 100000) :
    Calls Try.prog 74 #[.pointer (some ⟨g, 0, none⟩), .int .i64 (m : Int), .func (.func 57) #[] #[]] W fun x W' => ∃ A n cap st', x = .returned (.slice A n cap) ∧ TkD rnum (nxtK num m (stE false e bs)) W B0 g gr W' A n cap st' := by
  have q2 := (cell_row h.box 2).1
  have z2 := (cell_row h.box 2).2
  simp at q2
  obtain ⟨st0, hst⟩ : ∃ s, s = stE false e bs := ⟨_, rfl⟩
  rw [← hst]
  have hpi : PI W B0 g gr st0 := ⟨false, e, bs, h, hst.symm⟩
  have HG := Lib.hid (show B0 ≤ W.heap.size ∧ g < W.heap.size ∧ gr < W.heap.size by have := hpi.g; omega)
  have HS := Lib.hid (TkR.start (r := rnum) (c := num) (ET := 2) (W := W) (w := W.setCell ⟨g, 2, none⟩ (.bool false)) (st0 := st0) ⟨false, e, bs, h.formed false, hst.symm⟩ (Fr.grown (set_only W g 2 (.bool false)) fun x e hx => hx.1 (by injection e with e; exact e.symm)))
  have hn0 : ¬ (m : Int) < 0 := by omega
  have hn1 : ¬ (100000 : Int) < (m : Int) := by omega
  obtain ⟨i0, hi, hz0, hz1, hz2⟩ := info_parts (show (Try.prog.info? 2).map (fun i => (i.zero, i.size, i.bytes)) = some (some (.int .i64 0), 1, 8) by kernel_rfl)
  clear h hpi hst
  go_enter Try.func74, Try.ntmps74
  go_wp2_with fail
  go_loopw [7, 25] (fun v i wr => ∃ (k : Nat) (xss : List (List Value)) (st' : Except Nat B), k ≤ m ∧ i = .int .i64 (k : Int) ∧ Hid (TkR rnum num 2 W B0 g gr st0 k wr v xss st')) (fun _ i _ => m - (intOf i).toNat)
  case atStart => exact ⟨0, [], st0, Nat.zero_le _, rfl, HS⟩
  case round =>
    obtain ⟨k, xss, st', hk, rfl, HT⟩ := hrel
    clear q2 z2
    by_cases hlt : k < m
    · have hk2 : (k : Int) < (m : Int) := by omega
      obtain ⟨form, e', bs', hpx, hst'⟩ := HT.out.pi
      have hends := ends_v hpx
      cases hen : (form || decide (e' ≠ 0)) with
      | true =>
        rw [hen] at hends
        have HE := Lib.hid hends
        have hse : ∃ e2, st' = .error e2 := by
          rw [← hst']
          unfold stE
          cases form with
          | true => exact ⟨11, rfl⟩
          | false =>
            have he : e' ≠ 0 := by simpa using hen
            exact ⟨e', by simp [he]⟩
        obtain ⟨e2, rfl⟩ := hse
        have HD := Lib.hid (HT.out.stop hk)
        clear hends hst' hpx hen HT
        go_wp2_with (go_at_call 71; (with_reducible refine HE.out.mono ?_); rintro e w' ⟨rfl, rfl⟩)
        go_ret
        exact ⟨_, _, _, _, rfl, HD.out⟩
      | false =>
        rw [hen] at hends
        have HE := Lib.hid hends
        have hgl := HG.out
        have hsz := HT.out.fr.size
        have hnw := heap_alloc_new wr (.cells #[.int .i64 0] 2)
        have HC := Lib.hid (hF.go (Q := fun W' => ∃ st2 cs, PI W' B0 g gr st2 ∧ Fr (Ne3 g gr wr.heap.size) (wr.alloc (.cells #[.int .i64 0] 2)) W' ∧ W'.heap[wr.heap.size]? = some (.cells ([] ++ cs ++ []).toArray 2 (0, 0)) ∧ Stp rnum num (wr.alloc (.cells #[.int .i64 0] 2)).heap.size W' st' st2 cs ∧ shI cs) (W := wr.alloc (.cells #[.int .i64 0] 2)) (bx := wr.heap.size) (o := 0) (pre := []) (post := []) (ty := 2) (HT.out.pi.later (Later.alloc _ _)) rfl hnw (by omega) (by omega) (fun W' st2 cs h1 h2 h3 h4 h5 => ⟨st2, cs, h1, h2, h3, h4, h5⟩))
        have HOW := Lib.hid (show ∀ w1 : World, Fr (Ne3 g gr wr.heap.size) (wr.alloc (.cells #[.int .i64 0] 2)) w1 → ∃ A1 c1, u7 = .slice A1 k c1 ∧ w1.ownsRow W.heap.size 2 1 (.slice A1 k c1) k xss.flatten ∧ W.heap.size ≤ w1.heap.size from fun w1 hf => by
          obtain ⟨A1, c1, hv, _⟩ := own_any HT.out.own
          subst hv
          refine ⟨A1, c1, rfl, ?_, by have := hf.size; rw [World.size_alloc] at this; omega⟩
          have h1 := own_below HT.out.own (Later.alloc wr (.cells #[.int .i64 0] 2))
          refine hf.row h1 fun i hi => ?_
          have := HT.out.own.lt i hi
          exact ⟨by omega, by omega, by omega⟩)
        obtain ⟨A0, c0, hv0⟩ : ∃ A0 c0, u7 = .slice A0 k c0 := by obtain ⟨A1, c1, hv, _⟩ := own_any HT.out.own; exact ⟨A1, c1, hv⟩
        subst hv0
        have hk0 : (0 : Int) ≤ (k : Int) := by omega
        have HGG := Lib.hid hgl
        unfold one1 at HC
        clear hends hst' hpx hen hnw hsz hgl
        go_wp2_with (first
          | (go_at_call 71; (with_reducible refine HE.out.mono ?_); rintro e w' ⟨rfl, rfl⟩)
          | (go_at_call 57; (with_reducible refine HC.out.mono ?_); rintro e w1 ⟨rfl, st2, cs, hp1, hf1, hx1, hs1, hsh1⟩; obtain ⟨a0, rfl⟩ := hsh1; (have hb1 : w1.heap[wr.heap.size]? = some (.cells #[.int .i64 a0] 2 (0, 0)) := hx1); have q5 : w1.cell? ⟨wr.heap.size, 0, none⟩ = some (.int .i64 a0) := (by rw [(cell_row hb1 0).1]; rfl); (have HONE := Lib.hid hs1.one); obtain ⟨A1, c1, hv1, how1, hsz1⟩ := HOW.out w1 hf1; injection hv1 with hv1 _ hv2; subst hv1; subst hv2; (have HOW1 := Lib.hid how1); (have HSZ1 := Lib.hid hsz1); (have HPU := Lib.hid (fun v2 w2 hg => TkR.push (w2 := w2) (v2 := v2) HT.out HGG.out hp1 hf1 hs1 hg)); clear hp1 hf1 hx1 hs1 hb1 how1 hsz1)
                | (at_builtin; refine wpList_appK w1 #[.int .i64 a0] 1 (by omega) rfl HONE.out rfl (.tmp 32) (.tmp 34) 67 2 rfl i0 _ 8 Try.underlying67 hi hz0 hz1 hz2 rfl W.heap.size (.slice A0 k c0) k xss.flatten rfl HOW1.out _ rfl rfl (by omega) (by omega) HSZ1.out ?_; intro v3 w3 hg3; obtain ⟨A9, c9, hv9, _⟩ := own_any hg3.own; subst hv9; (have HP := Lib.hid (HPU.out _ _ hg3)); clear hg3))
        go_roundw
        case rel => exact ⟨k + 1, _, _, by omega, by go_num, HP⟩
        case measure => simp [intOf]; omega
    · have e1 : k = m := by omega
      subst e1
      obtain ⟨A, cap, hv, hd⟩ := HT.out.done
      subst hv
      have HD := Lib.hid hd
      clear hd HT
      go_wp2
      go_ret
      exact ⟨_, _, _, _, rfl, HD.out⟩
theorem taken_num64s (hF : InT (one1 57) rnum num [.int .i64 0] shI) {W : World} {B0 g gr e : Nat} {form : Bool} {bs : B} {n : Int} (h : PIx W B0 g gr form e bs) (h0 : form = false → e ≠ 0 → n = 0) :
    Calls Try.prog 74 #[.pointer (some ⟨g, 0, none⟩), .int .i64 n, .func (.func 57) #[] #[]] W fun x W' => ∃ A m cap st', x = .returned (.slice A m cap) ∧ TkD rnum (tkN num (stE form e bs) n) W B0 g gr W' A m cap st' := by
  have bad : tkN num (stE form e bs) n = .error 11 → ∀ {e' : Ending} {W' : World}, e' = .returned (.slice none 0 0) ∧ PI W' B0 g gr (.error 11) ∧ Fr (Ne2 g gr) W W' → ∃ A m cap st', e' = .returned (.slice A m cap) ∧ TkD rnum (tkN num (stE form e bs) n) W B0 g gr W' A m cap st' := fun hb e' W' hq =>
    ⟨none, 0, 0, .error 11, hq.1, hq.2.1, hq.2.2, fun k hk => by rw [hb] at hk; injection hk with hk; rw [hk], fun l q hk => by rw [hb] at hk; cases hk⟩
  cases form with
  | true => exact (taken_num64s_bad0 (n := n) h).mono fun e' W' hq => bad rfl hq
  | false =>
    by_cases hn0 : n < 0
    · have he : e = 0 := by
        by_cases he : e = 0
        · exact he
        · have := h0 rfl he; omega
      subst he
      exact (taken_num64s_bad1 h hn0).mono fun e' W' hq => bad (by unfold tkN stE; simp [hn0]) hq
    · by_cases hn1 : 100000 < n
      · have he : e = 0 := by
          by_cases he : e = 0
          · exact he
          · have := h0 rfl he; omega
        subst he
        exact (taken_num64s_bad2 h hn0 hn1).mono fun e' W' hq => bad (by unfold tkN stE; simp [hn1]) hq
      · obtain ⟨m, rfl⟩ := Int.eq_ofNat_of_zero_le (show 0 ≤ n by omega)
        rw [show tkN num (stE false e bs) (m : Int) = nxtK num m (stE false e bs) from tkN_good _ _ (by omega) (by
          intro k hk
          unfold stE at hk
          by_cases he : e = 0
          · simp [he] at hk
          · have := h0 rfl he; omega)]
        exact taken_num64s_good hF h (by omega)
theorem taken_vars_bad0 {W : World} {B0 g gr e : Nat} {bs : B} {n : Int} (h : PIx W B0 g gr true e bs) :
    Calls Try.prog 77 #[.pointer (some ⟨g, 0, none⟩), .int .i64 n, .func (.func 67) #[] #[]] W fun x W' => x = .returned (.slice none 0 0) ∧ PI W' B0 g gr (.error 11) ∧ Fr (Ne2 g gr) W W' := by
  have q2 := (cell_row h.box 2).1
  have z2 := (cell_row h.box 2).2
  simp at q2
  have HE := Lib.hid (ends_v (h.formed true))
  have HP := Lib.hid (show PI (W.setCell ⟨g, 2, none⟩ (.bool true)) B0 g gr (.error 11) ∧ Fr (Ne2 g gr) W (W.setCell ⟨g, 2, none⟩ (.bool true)) from ⟨⟨true, e, bs, h.formed true, rfl⟩, Fr.grown (set_only W g 2 (.bool true)) fun x e hx => hx.1 (by injection e with e; exact e.symm)⟩)
  clear h
  go_enter Try.func77, Try.ntmps77
  go_wp2_with fail
  go_loopw [7, 25] (fun v i wr => v = .slice none 0 0 ∧ i = .int .i64 0 ∧ wr = W.setCell ⟨g, 2, none⟩ (.bool true)) (fun _ _ _ => 0)
  case atStart => exact ⟨rfl, rfl, rfl⟩
  case round =>
    obtain ⟨rfl, rfl, rfl⟩ := hrel
    by_cases hlt : 0 < n
    · go_wp2_with (go_at_call 71; (with_reducible refine HE.out.mono ?_); rintro e w' ⟨rfl, rfl⟩)
      go_ret
      exact ⟨rfl, HP.out⟩
    · go_wp2
      go_ret
      exact ⟨rfl, HP.out⟩
theorem taken_vars_bad1 {W : World} {B0 g gr e : Nat} {bs : B} {n : Int} (h : PIx W B0 g gr false e bs) (hn0 : n < 0) :
    Calls Try.prog 77 #[.pointer (some ⟨g, 0, none⟩), .int .i64 n, .func (.func 67) #[] #[]] W fun x W' => x = .returned (.slice none 0 0) ∧ PI W' B0 g gr (.error 11) ∧ Fr (Ne2 g gr) W W' := by
  have q2 := (cell_row h.box 2).1
  have z2 := (cell_row h.box 2).2
  simp at q2
  have HE := Lib.hid (ends_v (h.formed true))
  have HP := Lib.hid (show PI (W.setCell ⟨g, 2, none⟩ (.bool true)) B0 g gr (.error 11) ∧ Fr (Ne2 g gr) W (W.setCell ⟨g, 2, none⟩ (.bool true)) from ⟨⟨true, e, bs, h.formed true, rfl⟩, Fr.grown (set_only W g 2 (.bool true)) fun x e hx => hx.1 (by injection e with e; exact e.symm)⟩)
  clear h
  go_enter Try.func77, Try.ntmps77
  go_wp2_with fail
  go_loopw [7, 25] (fun v i wr => v = .slice none 0 0 ∧ i = .int .i64 0 ∧ wr = W.setCell ⟨g, 2, none⟩ (.bool true)) (fun _ _ _ => 0)
  case atStart => exact ⟨rfl, rfl, rfl⟩
  case round =>
    obtain ⟨rfl, rfl, rfl⟩ := hrel
    by_cases hlt : 0 < n
    · go_wp2_with (go_at_call 71; (with_reducible refine HE.out.mono ?_); rintro e w' ⟨rfl, rfl⟩)
      go_ret
      exact ⟨rfl, HP.out⟩
    · go_wp2
      go_ret
      exact ⟨rfl, HP.out⟩
theorem taken_vars_bad2 {W : World} {B0 g gr e : Nat} {bs : B} {n : Int} (h : PIx W B0 g gr false e bs) (hn0 : ¬ n < 0) (hn1 : 100000 < n) :
    Calls Try.prog 77 #[.pointer (some ⟨g, 0, none⟩), .int .i64 n, .func (.func 67) #[] #[]] W fun x W' => x = .returned (.slice none 0 0) ∧ PI W' B0 g gr (.error 11) ∧ Fr (Ne2 g gr) W W' := by
  have q2 := (cell_row h.box 2).1
  have z2 := (cell_row h.box 2).2
  simp at q2
  have HE := Lib.hid (ends_v (h.formed true))
  have HP := Lib.hid (show PI (W.setCell ⟨g, 2, none⟩ (.bool true)) B0 g gr (.error 11) ∧ Fr (Ne2 g gr) W (W.setCell ⟨g, 2, none⟩ (.bool true)) from ⟨⟨true, e, bs, h.formed true, rfl⟩, Fr.grown (set_only W g 2 (.bool true)) fun x e hx => hx.1 (by injection e with e; exact e.symm)⟩)
  clear h
  go_enter Try.func77, Try.ntmps77
  go_wp2_with fail
  go_loopw [7, 25] (fun v i wr => v = .slice none 0 0 ∧ i = .int .i64 0 ∧ wr = W.setCell ⟨g, 2, none⟩ (.bool true)) (fun _ _ _ => 0)
  case atStart => exact ⟨rfl, rfl, rfl⟩
  case round =>
    obtain ⟨rfl, rfl, rfl⟩ := hrel
    by_cases hlt : 0 < n
    · go_wp2_with (go_at_call 71; (with_reducible refine HE.out.mono ?_); rintro e w' ⟨rfl, rfl⟩)
      go_ret
      exact ⟨rfl, HP.out⟩
    · go_wp2
      go_ret
      exact ⟨rfl, HP.out⟩
set_option maxHeartbeats 1600000 in
theorem taken_vars_good (hF : InS (one1 67) prR prC [.string ⟨#[]⟩, .string ⟨#[]⟩]) {W : World} {B0 g gr e m : Nat} {bs : B} (h : PIx W B0 g gr false e bs) (hm : m ≤ 100000) :
    Calls Try.prog 77 #[.pointer (some ⟨g, 0, none⟩), .int .i64 (m : Int), .func (.func 67) #[] #[]] W fun x W' => ∃ A n cap st', x = .returned (.slice A n cap) ∧ TkD prR (nxtK prC m (stE false e bs)) W B0 g gr W' A n cap st' := by
  have q2 := (cell_row h.box 2).1
  have z2 := (cell_row h.box 2).2
  simp at q2
  obtain ⟨st0, hst⟩ : ∃ s, s = stE false e bs := ⟨_, rfl⟩
  rw [← hst]
  have hpi : PI W B0 g gr st0 := ⟨false, e, bs, h, hst.symm⟩
  have HG := Lib.hid (show B0 ≤ W.heap.size ∧ g < W.heap.size ∧ gr < W.heap.size by have := hpi.g; omega)
  have HS := Lib.hid (TkR.start (r := prR) (c := prC) (ET := 130) (W := W) (w := W.setCell ⟨g, 2, none⟩ (.bool false)) (st0 := st0) ⟨false, e, bs, h.formed false, hst.symm⟩ (Fr.grown (set_only W g 2 (.bool false)) fun x e hx => hx.1 (by injection e with e; exact e.symm)))
  have hn0 : ¬ (m : Int) < 0 := by omega
  have hn1 : ¬ (100000 : Int) < (m : Int) := by omega
  obtain ⟨i0, hi, hz0, hz1, hz2⟩ := info_parts (show (Try.prog.info? 130).map (fun i => (i.zero, i.size, i.bytes)) = some (some (.agg #[.string ⟨#[]⟩, .string ⟨#[]⟩]), 2, 32) by kernel_rfl)
  clear h hpi hst
  go_enter Try.func77, Try.ntmps77
  go_wp2_with fail
  go_loopw [7, 25] (fun v i wr => ∃ (k : Nat) (xss : List (List Value)) (st' : Except Nat B), k ≤ m ∧ i = .int .i64 (k : Int) ∧ Hid (TkR prR prC 130 W B0 g gr st0 k wr v xss st')) (fun _ i _ => m - (intOf i).toNat)
  case atStart => exact ⟨0, [], st0, Nat.zero_le _, rfl, HS⟩
  case round =>
    obtain ⟨k, xss, st', hk, rfl, HT⟩ := hrel
    clear q2 z2
    by_cases hlt : k < m
    · have hk2 : (k : Int) < (m : Int) := by omega
      obtain ⟨form, e', bs', hpx, hst'⟩ := HT.out.pi
      have hends := ends_v hpx
      cases hen : (form || decide (e' ≠ 0)) with
      | true =>
        rw [hen] at hends
        have HE := Lib.hid hends
        have hse : ∃ e2, st' = .error e2 := by
          rw [← hst']
          unfold stE
          cases form with
          | true => exact ⟨11, rfl⟩
          | false =>
            have he : e' ≠ 0 := by simpa using hen
            exact ⟨e', by simp [he]⟩
        obtain ⟨e2, rfl⟩ := hse
        have HD := Lib.hid (HT.out.stop hk)
        clear hends hst' hpx hen HT
        go_wp2_with (go_at_call 71; (with_reducible refine HE.out.mono ?_); rintro e w' ⟨rfl, rfl⟩)
        go_ret
        exact ⟨_, _, _, _, rfl, HD.out⟩
      | false =>
        rw [hen] at hends
        have HE := Lib.hid hends
        have hgl := HG.out
        have hsz := HT.out.fr.size
        have hnw := heap_alloc_new wr (.cells #[.string ⟨#[]⟩, .string ⟨#[]⟩] 130)
        have HC := Lib.hid (hF.go (Q := fun W' => ∃ st2 cs, PI W' B0 g gr st2 ∧ Fr (Ne3 g gr wr.heap.size) (wr.alloc (.cells #[.string ⟨#[]⟩, .string ⟨#[]⟩] 130)) W' ∧ W'.heap[wr.heap.size]? = some (.cells ([] ++ cs ++ []).toArray 130 (0, 0)) ∧ Stp prR prC (wr.alloc (.cells #[.string ⟨#[]⟩, .string ⟨#[]⟩] 130)).heap.size W' st' st2 cs) (W := wr.alloc (.cells #[.string ⟨#[]⟩, .string ⟨#[]⟩] 130)) (bx := wr.heap.size) (o := 0) (pre := []) (post := []) (ty := 130) (HT.out.pi.later (Later.alloc _ _)) rfl hnw (by omega) (by omega) (fun W' st2 cs h1 h2 h3 h4 => ⟨st2, cs, h1, h2, h3, h4⟩))
        have HOW := Lib.hid (show ∀ w1 : World, Fr (Ne3 g gr wr.heap.size) (wr.alloc (.cells #[.string ⟨#[]⟩, .string ⟨#[]⟩] 130)) w1 → ∃ A1 c1, u7 = .slice A1 k c1 ∧ w1.ownsRow W.heap.size 130 2 (.slice A1 k c1) k xss.flatten ∧ W.heap.size ≤ w1.heap.size from fun w1 hf => by
          obtain ⟨A1, c1, hv, _⟩ := own_any HT.out.own
          subst hv
          refine ⟨A1, c1, rfl, ?_, by have := hf.size; rw [World.size_alloc] at this; omega⟩
          have h1 := own_below HT.out.own (Later.alloc wr (.cells #[.string ⟨#[]⟩, .string ⟨#[]⟩] 130))
          refine hf.row h1 fun i hi => ?_
          have := HT.out.own.lt i hi
          exact ⟨by omega, by omega, by omega⟩)
        obtain ⟨A0, c0, hv0⟩ : ∃ A0 c0, u7 = .slice A0 k c0 := by obtain ⟨A1, c1, hv, _⟩ := own_any HT.out.own; exact ⟨A1, c1, hv⟩
        subst hv0
        have hk0 : (0 : Int) ≤ (k : Int) := by omega
        have HGG := Lib.hid hgl
        unfold one1 at HC
        clear hends hst' hpx hen hnw hsz hgl
        go_wp2_with (first
          | (go_at_call 71; (with_reducible refine HE.out.mono ?_); rintro e w' ⟨rfl, rfl⟩)
          | (go_at_call 67; (with_reducible refine HC.out.mono ?_); rintro e w1 ⟨rfl, st2, cs, hp1, hf1, hx1, hs1⟩; obtain ⟨a0, a1, rfl⟩ := lst2 hs1.len; (have hb1 : w1.heap[wr.heap.size]? = some (.cells #[a0, a1] 130 (0, 0)) := hx1); have HLD := Lib.hid (loadO_run (P := Try.prog) 130 _ #[a0, a1] _ hb1 Try.underlying130 rfl (by kernel_rfl)); (have HONE := Lib.hid hs1.one); obtain ⟨A1, c1, hv1, how1, hsz1⟩ := HOW.out w1 hf1; injection hv1 with hv1 _ hv2; subst hv1; subst hv2; (have HOW1 := Lib.hid how1); (have HSZ1 := Lib.hid hsz1); (have HPU := Lib.hid (fun v2 w2 hg => TkR.push (w2 := w2) (v2 := v2) HT.out HGG.out hp1 hf1 hs1 hg)); clear hp1 hf1 hx1 hs1 hb1 how1 hsz1)
          | (refine wpList_loadRun rfl 130 (.tmp 8) rfl _ _ rfl HLD.out ?_)
            | (at_builtin; refine wpList_appK w1 #[a0, a1] 2 (by omega) rfl HONE.out rfl (.tmp 32) (.tmp 34) 22 130 rfl i0 _ 32 Try.underlying22 hi hz0 hz1 hz2 rfl W.heap.size (.slice A0 k c0) k xss.flatten rfl HOW1.out _ rfl rfl (by omega) (by omega) HSZ1.out ?_; intro v3 w3 hg3; obtain ⟨A9, c9, hv9, _⟩ := own_any hg3.own; subst hv9; (have HP := Lib.hid (HPU.out _ _ hg3)); clear hg3))
        go_roundw
        case rel => exact ⟨k + 1, _, _, by omega, by go_num, HP⟩
        case measure => simp [intOf]; omega
    · have e1 : k = m := by omega
      subst e1
      obtain ⟨A, cap, hv, hd⟩ := HT.out.done
      subst hv
      have HD := Lib.hid hd
      clear hd HT
      go_wp2
      go_ret
      exact ⟨_, _, _, _, rfl, HD.out⟩
theorem taken_vars (hF : InS (one1 67) prR prC [.string ⟨#[]⟩, .string ⟨#[]⟩]) {W : World} {B0 g gr e : Nat} {form : Bool} {bs : B} {n : Int} (h : PIx W B0 g gr form e bs) (h0 : form = false → e ≠ 0 → n = 0) :
    Calls Try.prog 77 #[.pointer (some ⟨g, 0, none⟩), .int .i64 n, .func (.func 67) #[] #[]] W fun x W' => ∃ A m cap st', x = .returned (.slice A m cap) ∧ TkD prR (tkN prC (stE form e bs) n) W B0 g gr W' A m cap st' := by
  have bad : tkN prC (stE form e bs) n = .error 11 → ∀ {e' : Ending} {W' : World}, e' = .returned (.slice none 0 0) ∧ PI W' B0 g gr (.error 11) ∧ Fr (Ne2 g gr) W W' → ∃ A m cap st', e' = .returned (.slice A m cap) ∧ TkD prR (tkN prC (stE form e bs) n) W B0 g gr W' A m cap st' := fun hb e' W' hq =>
    ⟨none, 0, 0, .error 11, hq.1, hq.2.1, hq.2.2, fun k hk => by rw [hb] at hk; injection hk with hk; rw [hk], fun l q hk => by rw [hb] at hk; cases hk⟩
  cases form with
  | true => exact (taken_vars_bad0 (n := n) h).mono fun e' W' hq => bad rfl hq
  | false =>
    by_cases hn0 : n < 0
    · have he : e = 0 := by
        by_cases he : e = 0
        · exact he
        · have := h0 rfl he; omega
      subst he
      exact (taken_vars_bad1 h hn0).mono fun e' W' hq => bad (by unfold tkN stE; simp [hn0]) hq
    · by_cases hn1 : 100000 < n
      · have he : e = 0 := by
          by_cases he : e = 0
          · exact he
          · have := h0 rfl he; omega
        subst he
        exact (taken_vars_bad2 h hn0 hn1).mono fun e' W' hq => bad (by unfold tkN stE; simp [hn1]) hq
      · obtain ⟨m, rfl⟩ := Int.eq_ofNat_of_zero_le (show 0 ≤ n by omega)
        rw [show tkN prC (stE false e bs) (m : Int) = nxtK prC m (stE false e bs) from tkN_good _ _ (by omega) (by
          intro k hk
          unfold stE at hk
          by_cases he : e = 0
          · simp [he] at hk
          · have := h0 rfl he; omega)]
        exact taken_vars_good hF h (by omega)
theorem taken_rows_bad0 {W : World} {B0 g gr e : Nat} {bs : B} {n : Int} (h : PIx W B0 g gr true e bs) :
    Calls Try.prog 75 #[.pointer (some ⟨g, 0, none⟩), .int .i64 n, .func (.func 59) #[] #[]] W fun x W' => x = .returned (.slice none 0 0) ∧ PI W' B0 g gr (.error 11) ∧ Fr (Ne2 g gr) W W' := by
  have q2 := (cell_row h.box 2).1
  have z2 := (cell_row h.box 2).2
  simp at q2
  have HE := Lib.hid (ends_v (h.formed true))
  have HP := Lib.hid (show PI (W.setCell ⟨g, 2, none⟩ (.bool true)) B0 g gr (.error 11) ∧ Fr (Ne2 g gr) W (W.setCell ⟨g, 2, none⟩ (.bool true)) from ⟨⟨true, e, bs, h.formed true, rfl⟩, Fr.grown (set_only W g 2 (.bool true)) fun x e hx => hx.1 (by injection e with e; exact e.symm)⟩)
  clear h
  go_enter Try.func75, Try.ntmps75
  go_wp2_with fail
  go_loopw [7, 25] (fun v i wr => v = .slice none 0 0 ∧ i = .int .i64 0 ∧ wr = W.setCell ⟨g, 2, none⟩ (.bool true)) (fun _ _ _ => 0)
  case atStart => exact ⟨rfl, rfl, rfl⟩
  case round =>
    obtain ⟨rfl, rfl, rfl⟩ := hrel
    by_cases hlt : 0 < n
    · go_wp2_with (go_at_call 71; (with_reducible refine HE.out.mono ?_); rintro e w' ⟨rfl, rfl⟩)
      go_ret
      exact ⟨rfl, HP.out⟩
    · go_wp2
      go_ret
      exact ⟨rfl, HP.out⟩
theorem taken_rows_bad1 {W : World} {B0 g gr e : Nat} {bs : B} {n : Int} (h : PIx W B0 g gr false e bs) (hn0 : n < 0) :
    Calls Try.prog 75 #[.pointer (some ⟨g, 0, none⟩), .int .i64 n, .func (.func 59) #[] #[]] W fun x W' => x = .returned (.slice none 0 0) ∧ PI W' B0 g gr (.error 11) ∧ Fr (Ne2 g gr) W W' := by
  have q2 := (cell_row h.box 2).1
  have z2 := (cell_row h.box 2).2
  simp at q2
  have HE := Lib.hid (ends_v (h.formed true))
  have HP := Lib.hid (show PI (W.setCell ⟨g, 2, none⟩ (.bool true)) B0 g gr (.error 11) ∧ Fr (Ne2 g gr) W (W.setCell ⟨g, 2, none⟩ (.bool true)) from ⟨⟨true, e, bs, h.formed true, rfl⟩, Fr.grown (set_only W g 2 (.bool true)) fun x e hx => hx.1 (by injection e with e; exact e.symm)⟩)
  clear h
  go_enter Try.func75, Try.ntmps75
  go_wp2_with fail
  go_loopw [7, 25] (fun v i wr => v = .slice none 0 0 ∧ i = .int .i64 0 ∧ wr = W.setCell ⟨g, 2, none⟩ (.bool true)) (fun _ _ _ => 0)
  case atStart => exact ⟨rfl, rfl, rfl⟩
  case round =>
    obtain ⟨rfl, rfl, rfl⟩ := hrel
    by_cases hlt : 0 < n
    · go_wp2_with (go_at_call 71; (with_reducible refine HE.out.mono ?_); rintro e w' ⟨rfl, rfl⟩)
      go_ret
      exact ⟨rfl, HP.out⟩
    · go_wp2
      go_ret
      exact ⟨rfl, HP.out⟩
theorem taken_rows_bad2 {W : World} {B0 g gr e : Nat} {bs : B} {n : Int} (h : PIx W B0 g gr false e bs) (hn0 : ¬ n < 0) (hn1 : 100000 < n) :
    Calls Try.prog 75 #[.pointer (some ⟨g, 0, none⟩), .int .i64 n, .func (.func 59) #[] #[]] W fun x W' => x = .returned (.slice none 0 0) ∧ PI W' B0 g gr (.error 11) ∧ Fr (Ne2 g gr) W W' := by
  have q2 := (cell_row h.box 2).1
  have z2 := (cell_row h.box 2).2
  simp at q2
  have HE := Lib.hid (ends_v (h.formed true))
  have HP := Lib.hid (show PI (W.setCell ⟨g, 2, none⟩ (.bool true)) B0 g gr (.error 11) ∧ Fr (Ne2 g gr) W (W.setCell ⟨g, 2, none⟩ (.bool true)) from ⟨⟨true, e, bs, h.formed true, rfl⟩, Fr.grown (set_only W g 2 (.bool true)) fun x e hx => hx.1 (by injection e with e; exact e.symm)⟩)
  clear h
  go_enter Try.func75, Try.ntmps75
  go_wp2_with fail
  go_loopw [7, 25] (fun v i wr => v = .slice none 0 0 ∧ i = .int .i64 0 ∧ wr = W.setCell ⟨g, 2, none⟩ (.bool true)) (fun _ _ _ => 0)
  case atStart => exact ⟨rfl, rfl, rfl⟩
  case round =>
    obtain ⟨rfl, rfl, rfl⟩ := hrel
    by_cases hlt : 0 < n
    · go_wp2_with (go_at_call 71; (with_reducible refine HE.out.mono ?_); rintro e w' ⟨rfl, rfl⟩)
      go_ret
      exact ⟨rfl, HP.out⟩
    · go_wp2
      go_ret
      exact ⟨rfl, HP.out⟩
set_option maxHeartbeats 1600000 in
theorem taken_rows_good (hF : InS (one1 59) prR prC [.string ⟨#[]⟩, .string ⟨#[]⟩]) {W : World} {B0 g gr e m : Nat} {bs : B} (h : PIx W B0 g gr false e bs) (hm : m ≤ 100000) :
    Calls Try.prog 75 #[.pointer (some ⟨g, 0, none⟩), .int .i64 (m : Int), .func (.func 59) #[] #[]] W fun x W' => ∃ A n cap st', x = .returned (.slice A n cap) ∧ TkD prR (nxtK prC m (stE false e bs)) W B0 g gr W' A n cap st' := by
  have q2 := (cell_row h.box 2).1
  have z2 := (cell_row h.box 2).2
  simp at q2
  obtain ⟨st0, hst⟩ : ∃ s, s = stE false e bs := ⟨_, rfl⟩
  rw [← hst]
  have hpi : PI W B0 g gr st0 := ⟨false, e, bs, h, hst.symm⟩
  have HG := Lib.hid (show B0 ≤ W.heap.size ∧ g < W.heap.size ∧ gr < W.heap.size by have := hpi.g; omega)
  have HS := Lib.hid (TkR.start (r := prR) (c := prC) (ET := 91) (W := W) (w := W.setCell ⟨g, 2, none⟩ (.bool false)) (st0 := st0) ⟨false, e, bs, h.formed false, hst.symm⟩ (Fr.grown (set_only W g 2 (.bool false)) fun x e hx => hx.1 (by injection e with e; exact e.symm)))
  have hn0 : ¬ (m : Int) < 0 := by omega
  have hn1 : ¬ (100000 : Int) < (m : Int) := by omega
  obtain ⟨i0, hi, hz0, hz1, hz2⟩ := info_parts (show (Try.prog.info? 91).map (fun i => (i.zero, i.size, i.bytes)) = some (some (.agg #[.string ⟨#[]⟩, .string ⟨#[]⟩]), 2, 32) by kernel_rfl)
  clear h hpi hst
  go_enter Try.func75, Try.ntmps75
  go_wp2_with fail
  go_loopw [7, 25] (fun v i wr => ∃ (k : Nat) (xss : List (List Value)) (st' : Except Nat B), k ≤ m ∧ i = .int .i64 (k : Int) ∧ Hid (TkR prR prC 91 W B0 g gr st0 k wr v xss st')) (fun _ i _ => m - (intOf i).toNat)
  case atStart => exact ⟨0, [], st0, Nat.zero_le _, rfl, HS⟩
  case round =>
    obtain ⟨k, xss, st', hk, rfl, HT⟩ := hrel
    clear q2 z2
    by_cases hlt : k < m
    · have hk2 : (k : Int) < (m : Int) := by omega
      obtain ⟨form, e', bs', hpx, hst'⟩ := HT.out.pi
      have hends := ends_v hpx
      cases hen : (form || decide (e' ≠ 0)) with
      | true =>
        rw [hen] at hends
        have HE := Lib.hid hends
        have hse : ∃ e2, st' = .error e2 := by
          rw [← hst']
          unfold stE
          cases form with
          | true => exact ⟨11, rfl⟩
          | false =>
            have he : e' ≠ 0 := by simpa using hen
            exact ⟨e', by simp [he]⟩
        obtain ⟨e2, rfl⟩ := hse
        have HD := Lib.hid (HT.out.stop hk)
        clear hends hst' hpx hen HT
        go_wp2_with (go_at_call 71; (with_reducible refine HE.out.mono ?_); rintro e w' ⟨rfl, rfl⟩)
        go_ret
        exact ⟨_, _, _, _, rfl, HD.out⟩
      | false =>
        rw [hen] at hends
        have HE := Lib.hid hends
        have hgl := HG.out
        have hsz := HT.out.fr.size
        have hnw := heap_alloc_new wr (.cells #[.string ⟨#[]⟩, .string ⟨#[]⟩] 91)
        have HC := Lib.hid (hF.go (Q := fun W' => ∃ st2 cs, PI W' B0 g gr st2 ∧ Fr (Ne3 g gr wr.heap.size) (wr.alloc (.cells #[.string ⟨#[]⟩, .string ⟨#[]⟩] 91)) W' ∧ W'.heap[wr.heap.size]? = some (.cells ([] ++ cs ++ []).toArray 91 (0, 0)) ∧ Stp prR prC (wr.alloc (.cells #[.string ⟨#[]⟩, .string ⟨#[]⟩] 91)).heap.size W' st' st2 cs) (W := wr.alloc (.cells #[.string ⟨#[]⟩, .string ⟨#[]⟩] 91)) (bx := wr.heap.size) (o := 0) (pre := []) (post := []) (ty := 91) (HT.out.pi.later (Later.alloc _ _)) rfl hnw (by omega) (by omega) (fun W' st2 cs h1 h2 h3 h4 => ⟨st2, cs, h1, h2, h3, h4⟩))
        have HOW := Lib.hid (show ∀ w1 : World, Fr (Ne3 g gr wr.heap.size) (wr.alloc (.cells #[.string ⟨#[]⟩, .string ⟨#[]⟩] 91)) w1 → ∃ A1 c1, u7 = .slice A1 k c1 ∧ w1.ownsRow W.heap.size 91 2 (.slice A1 k c1) k xss.flatten ∧ W.heap.size ≤ w1.heap.size from fun w1 hf => by
          obtain ⟨A1, c1, hv, _⟩ := own_any HT.out.own
          subst hv
          refine ⟨A1, c1, rfl, ?_, by have := hf.size; rw [World.size_alloc] at this; omega⟩
          have h1 := own_below HT.out.own (Later.alloc wr (.cells #[.string ⟨#[]⟩, .string ⟨#[]⟩] 91))
          refine hf.row h1 fun i hi => ?_
          have := HT.out.own.lt i hi
          exact ⟨by omega, by omega, by omega⟩)
        obtain ⟨A0, c0, hv0⟩ : ∃ A0 c0, u7 = .slice A0 k c0 := by obtain ⟨A1, c1, hv, _⟩ := own_any HT.out.own; exact ⟨A1, c1, hv⟩
        subst hv0
        have hk0 : (0 : Int) ≤ (k : Int) := by omega
        have HGG := Lib.hid hgl
        unfold one1 at HC
        clear hends hst' hpx hen hnw hsz hgl
        go_wp2_with (first
          | (go_at_call 71; (with_reducible refine HE.out.mono ?_); rintro e w' ⟨rfl, rfl⟩)
          | (go_at_call 59; (with_reducible refine HC.out.mono ?_); rintro e w1 ⟨rfl, st2, cs, hp1, hf1, hx1, hs1⟩; obtain ⟨a0, a1, rfl⟩ := lst2 hs1.len; (have hb1 : w1.heap[wr.heap.size]? = some (.cells #[a0, a1] 91 (0, 0)) := hx1); have HLD := Lib.hid (loadO_run (P := Try.prog) 91 _ #[a0, a1] _ hb1 Try.underlying91 rfl (by kernel_rfl)); (have HONE := Lib.hid hs1.one); obtain ⟨A1, c1, hv1, how1, hsz1⟩ := HOW.out w1 hf1; injection hv1 with hv1 _ hv2; subst hv1; subst hv2; (have HOW1 := Lib.hid how1); (have HSZ1 := Lib.hid hsz1); (have HPU := Lib.hid (fun v2 w2 hg => TkR.push (w2 := w2) (v2 := v2) HT.out HGG.out hp1 hf1 hs1 hg)); clear hp1 hf1 hx1 hs1 hb1 how1 hsz1)
          | (refine wpList_loadRun rfl 91 (.tmp 8) rfl _ _ rfl HLD.out ?_)
            | (at_builtin; refine wpList_appK w1 #[a0, a1] 2 (by omega) rfl HONE.out rfl (.tmp 32) (.tmp 34) 68 91 rfl i0 _ 32 Try.underlying68 hi hz0 hz1 hz2 rfl W.heap.size (.slice A0 k c0) k xss.flatten rfl HOW1.out _ rfl rfl (by omega) (by omega) HSZ1.out ?_; intro v3 w3 hg3; obtain ⟨A9, c9, hv9, _⟩ := own_any hg3.own; subst hv9; (have HP := Lib.hid (HPU.out _ _ hg3)); clear hg3))
        go_roundw
        case rel => exact ⟨k + 1, _, _, by omega, by go_num, HP⟩
        case measure => simp [intOf]; omega
    · have e1 : k = m := by omega
      subst e1
      obtain ⟨A, cap, hv, hd⟩ := HT.out.done
      subst hv
      have HD := Lib.hid hd
      clear hd HT
      go_wp2
      go_ret
      exact ⟨_, _, _, _, rfl, HD.out⟩
theorem taken_rows (hF : InS (one1 59) prR prC [.string ⟨#[]⟩, .string ⟨#[]⟩]) {W : World} {B0 g gr e : Nat} {form : Bool} {bs : B} {n : Int} (h : PIx W B0 g gr form e bs) (h0 : form = false → e ≠ 0 → n = 0) :
    Calls Try.prog 75 #[.pointer (some ⟨g, 0, none⟩), .int .i64 n, .func (.func 59) #[] #[]] W fun x W' => ∃ A m cap st', x = .returned (.slice A m cap) ∧ TkD prR (tkN prC (stE form e bs) n) W B0 g gr W' A m cap st' := by
  have bad : tkN prC (stE form e bs) n = .error 11 → ∀ {e' : Ending} {W' : World}, e' = .returned (.slice none 0 0) ∧ PI W' B0 g gr (.error 11) ∧ Fr (Ne2 g gr) W W' → ∃ A m cap st', e' = .returned (.slice A m cap) ∧ TkD prR (tkN prC (stE form e bs) n) W B0 g gr W' A m cap st' := fun hb e' W' hq =>
    ⟨none, 0, 0, .error 11, hq.1, hq.2.1, hq.2.2, fun k hk => by rw [hb] at hk; injection hk with hk; rw [hk], fun l q hk => by rw [hb] at hk; cases hk⟩
  cases form with
  | true => exact (taken_rows_bad0 (n := n) h).mono fun e' W' hq => bad rfl hq
  | false =>
    by_cases hn0 : n < 0
    · have he : e = 0 := by
        by_cases he : e = 0
        · exact he
        · have := h0 rfl he; omega
      subst he
      exact (taken_rows_bad1 h hn0).mono fun e' W' hq => bad (by unfold tkN stE; simp [hn0]) hq
    · by_cases hn1 : 100000 < n
      · have he : e = 0 := by
          by_cases he : e = 0
          · exact he
          · have := h0 rfl he; omega
        subst he
        exact (taken_rows_bad2 h hn0 hn1).mono fun e' W' hq => bad (by unfold tkN stE; simp [hn1]) hq
      · obtain ⟨m, rfl⟩ := Int.eq_ofNat_of_zero_le (show 0 ≤ n by omega)
        rw [show tkN prC (stE false e bs) (m : Int) = nxtK prC m (stE false e bs) from tkN_good _ _ (by omega) (by
          intro k hk
          unfold stE at hk
          by_cases he : e = 0
          · simp [he] at hk
          · have := h0 rfl he; omega)]
        exact taken_rows_good hF h (by omega)
theorem taken_fns_bad0 {W : World} {B0 g gr e : Nat} {bs : B} {n : Int} (h : PIx W B0 g gr true e bs) :
    Calls Try.prog 68 #[.pointer (some ⟨g, 0, none⟩), .int .i64 n, .func (.func 46) #[] #[]] W fun x W' => x = .returned (.slice none 0 0) ∧ PI W' B0 g gr (.error 11) ∧ Fr (Ne2 g gr) W W' := by
  have q2 := (cell_row h.box 2).1
  have z2 := (cell_row h.box 2).2
  simp at q2
  have HE := Lib.hid (ends_v (h.formed true))
  have HP := Lib.hid (show PI (W.setCell ⟨g, 2, none⟩ (.bool true)) B0 g gr (.error 11) ∧ Fr (Ne2 g gr) W (W.setCell ⟨g, 2, none⟩ (.bool true)) from ⟨⟨true, e, bs, h.formed true, rfl⟩, Fr.grown (set_only W g 2 (.bool true)) fun x e hx => hx.1 (by injection e with e; exact e.symm)⟩)
  clear h
  go_enter Try.func68, Try.ntmps68
  go_wp2_with fail
  go_loopw [7, 25] (fun v i wr => v = .slice none 0 0 ∧ i = .int .i64 0 ∧ wr = W.setCell ⟨g, 2, none⟩ (.bool true)) (fun _ _ _ => 0)
  case atStart => exact ⟨rfl, rfl, rfl⟩
  case round =>
    obtain ⟨rfl, rfl, rfl⟩ := hrel
    by_cases hlt : 0 < n
    · go_wp2_with (go_at_call 71; (with_reducible refine HE.out.mono ?_); rintro e w' ⟨rfl, rfl⟩)
      go_ret
      exact ⟨rfl, HP.out⟩
    · go_wp2
      go_ret
      exact ⟨rfl, HP.out⟩
theorem taken_fns_bad1 {W : World} {B0 g gr e : Nat} {bs : B} {n : Int} (h : PIx W B0 g gr false e bs) (hn0 : n < 0) :
    Calls Try.prog 68 #[.pointer (some ⟨g, 0, none⟩), .int .i64 n, .func (.func 46) #[] #[]] W fun x W' => x = .returned (.slice none 0 0) ∧ PI W' B0 g gr (.error 11) ∧ Fr (Ne2 g gr) W W' := by
  have q2 := (cell_row h.box 2).1
  have z2 := (cell_row h.box 2).2
  simp at q2
  have HE := Lib.hid (ends_v (h.formed true))
  have HP := Lib.hid (show PI (W.setCell ⟨g, 2, none⟩ (.bool true)) B0 g gr (.error 11) ∧ Fr (Ne2 g gr) W (W.setCell ⟨g, 2, none⟩ (.bool true)) from ⟨⟨true, e, bs, h.formed true, rfl⟩, Fr.grown (set_only W g 2 (.bool true)) fun x e hx => hx.1 (by injection e with e; exact e.symm)⟩)
  clear h
  go_enter Try.func68, Try.ntmps68
  go_wp2_with fail
  go_loopw [7, 25] (fun v i wr => v = .slice none 0 0 ∧ i = .int .i64 0 ∧ wr = W.setCell ⟨g, 2, none⟩ (.bool true)) (fun _ _ _ => 0)
  case atStart => exact ⟨rfl, rfl, rfl⟩
  case round =>
    obtain ⟨rfl, rfl, rfl⟩ := hrel
    by_cases hlt : 0 < n
    · go_wp2_with (go_at_call 71; (with_reducible refine HE.out.mono ?_); rintro e w' ⟨rfl, rfl⟩)
      go_ret
      exact ⟨rfl, HP.out⟩
    · go_wp2
      go_ret
      exact ⟨rfl, HP.out⟩
theorem taken_fns_bad2 {W : World} {B0 g gr e : Nat} {bs : B} {n : Int} (h : PIx W B0 g gr false e bs) (hn0 : ¬ n < 0) (hn1 : 100000 < n) :
    Calls Try.prog 68 #[.pointer (some ⟨g, 0, none⟩), .int .i64 n, .func (.func 46) #[] #[]] W fun x W' => x = .returned (.slice none 0 0) ∧ PI W' B0 g gr (.error 11) ∧ Fr (Ne2 g gr) W W' := by
  have q2 := (cell_row h.box 2).1
  have z2 := (cell_row h.box 2).2
  simp at q2
  have HE := Lib.hid (ends_v (h.formed true))
  have HP := Lib.hid (show PI (W.setCell ⟨g, 2, none⟩ (.bool true)) B0 g gr (.error 11) ∧ Fr (Ne2 g gr) W (W.setCell ⟨g, 2, none⟩ (.bool true)) from ⟨⟨true, e, bs, h.formed true, rfl⟩, Fr.grown (set_only W g 2 (.bool true)) fun x e hx => hx.1 (by injection e with e; exact e.symm)⟩)
  clear h
  go_enter Try.func68, Try.ntmps68
  go_wp2_with fail
  go_loopw [7, 25] (fun v i wr => v = .slice none 0 0 ∧ i = .int .i64 0 ∧ wr = W.setCell ⟨g, 2, none⟩ (.bool true)) (fun _ _ _ => 0)
  case atStart => exact ⟨rfl, rfl, rfl⟩
  case round =>
    obtain ⟨rfl, rfl, rfl⟩ := hrel
    by_cases hlt : 0 < n
    · go_wp2_with (go_at_call 71; (with_reducible refine HE.out.mono ?_); rintro e w' ⟨rfl, rfl⟩)
      go_ret
      exact ⟨rfl, HP.out⟩
    · go_wp2
      go_ret
      exact ⟨rfl, HP.out⟩
set_option maxHeartbeats 1600000 in
theorem taken_fns_good (hF : InS (one1 46) fnR fnC [.string ⟨#[]⟩, .int .i64 0, .int .i64 0]) {W : World} {B0 g gr e m : Nat} {bs : B} (h : PIx W B0 g gr false e bs) (hm : m ≤ 100000) :
    Calls Try.prog 68 #[.pointer (some ⟨g, 0, none⟩), .int .i64 (m : Int), .func (.func 46) #[] #[]] W fun x W' => ∃ A n cap st', x = .returned (.slice A n cap) ∧ TkD fnR (nxtK fnC m (stE false e bs)) W B0 g gr W' A n cap st' := by
  have q2 := (cell_row h.box 2).1
  have z2 := (cell_row h.box 2).2
  simp at q2
  obtain ⟨st0, hst⟩ : ∃ s, s = stE false e bs := ⟨_, rfl⟩
  rw [← hst]
  have hpi : PI W B0 g gr st0 := ⟨false, e, bs, h, hst.symm⟩
  have HG := Lib.hid (show B0 ≤ W.heap.size ∧ g < W.heap.size ∧ gr < W.heap.size by have := hpi.g; omega)
  have HS := Lib.hid (TkR.start (r := fnR) (c := fnC) (ET := 132) (W := W) (w := W.setCell ⟨g, 2, none⟩ (.bool false)) (st0 := st0) ⟨false, e, bs, h.formed false, hst.symm⟩ (Fr.grown (set_only W g 2 (.bool false)) fun x e hx => hx.1 (by injection e with e; exact e.symm)))
  have hn0 : ¬ (m : Int) < 0 := by omega
  have hn1 : ¬ (100000 : Int) < (m : Int) := by omega
  obtain ⟨i0, hi, hz0, hz1, hz2⟩ := info_parts (show (Try.prog.info? 132).map (fun i => (i.zero, i.size, i.bytes)) = some (some (.agg #[.string ⟨#[]⟩, .int .i64 0, .int .i64 0]), 3, 32) by kernel_rfl)
  clear h hpi hst
  go_enter Try.func68, Try.ntmps68
  go_wp2_with fail
  go_loopw [7, 25] (fun v i wr => ∃ (k : Nat) (xss : List (List Value)) (st' : Except Nat B), k ≤ m ∧ i = .int .i64 (k : Int) ∧ Hid (TkR fnR fnC 132 W B0 g gr st0 k wr v xss st')) (fun _ i _ => m - (intOf i).toNat)
  case atStart => exact ⟨0, [], st0, Nat.zero_le _, rfl, HS⟩
  case round =>
    obtain ⟨k, xss, st', hk, rfl, HT⟩ := hrel
    clear q2 z2
    by_cases hlt : k < m
    · have hk2 : (k : Int) < (m : Int) := by omega
      obtain ⟨form, e', bs', hpx, hst'⟩ := HT.out.pi
      have hends := ends_v hpx
      cases hen : (form || decide (e' ≠ 0)) with
      | true =>
        rw [hen] at hends
        have HE := Lib.hid hends
        have hse : ∃ e2, st' = .error e2 := by
          rw [← hst']
          unfold stE
          cases form with
          | true => exact ⟨11, rfl⟩
          | false =>
            have he : e' ≠ 0 := by simpa using hen
            exact ⟨e', by simp [he]⟩
        obtain ⟨e2, rfl⟩ := hse
        have HD := Lib.hid (HT.out.stop hk)
        clear hends hst' hpx hen HT
        go_wp2_with (go_at_call 71; (with_reducible refine HE.out.mono ?_); rintro e w' ⟨rfl, rfl⟩)
        go_ret
        exact ⟨_, _, _, _, rfl, HD.out⟩
      | false =>
        rw [hen] at hends
        have HE := Lib.hid hends
        have hgl := HG.out
        have hsz := HT.out.fr.size
        have hnw := heap_alloc_new wr (.cells #[.string ⟨#[]⟩, .int .i64 0, .int .i64 0] 132)
        have HC := Lib.hid (hF.go (Q := fun W' => ∃ st2 cs, PI W' B0 g gr st2 ∧ Fr (Ne3 g gr wr.heap.size) (wr.alloc (.cells #[.string ⟨#[]⟩, .int .i64 0, .int .i64 0] 132)) W' ∧ W'.heap[wr.heap.size]? = some (.cells ([] ++ cs ++ []).toArray 132 (0, 0)) ∧ Stp fnR fnC (wr.alloc (.cells #[.string ⟨#[]⟩, .int .i64 0, .int .i64 0] 132)).heap.size W' st' st2 cs) (W := wr.alloc (.cells #[.string ⟨#[]⟩, .int .i64 0, .int .i64 0] 132)) (bx := wr.heap.size) (o := 0) (pre := []) (post := []) (ty := 132) (HT.out.pi.later (Later.alloc _ _)) rfl hnw (by omega) (by omega) (fun W' st2 cs h1 h2 h3 h4 => ⟨st2, cs, h1, h2, h3, h4⟩))
        have HOW := Lib.hid (show ∀ w1 : World, Fr (Ne3 g gr wr.heap.size) (wr.alloc (.cells #[.string ⟨#[]⟩, .int .i64 0, .int .i64 0] 132)) w1 → ∃ A1 c1, u7 = .slice A1 k c1 ∧ w1.ownsRow W.heap.size 132 3 (.slice A1 k c1) k xss.flatten ∧ W.heap.size ≤ w1.heap.size from fun w1 hf => by
          obtain ⟨A1, c1, hv, _⟩ := own_any HT.out.own
          subst hv
          refine ⟨A1, c1, rfl, ?_, by have := hf.size; rw [World.size_alloc] at this; omega⟩
          have h1 := own_below HT.out.own (Later.alloc wr (.cells #[.string ⟨#[]⟩, .int .i64 0, .int .i64 0] 132))
          refine hf.row h1 fun i hi => ?_
          have := HT.out.own.lt i hi
          exact ⟨by omega, by omega, by omega⟩)
        obtain ⟨A0, c0, hv0⟩ : ∃ A0 c0, u7 = .slice A0 k c0 := by obtain ⟨A1, c1, hv, _⟩ := own_any HT.out.own; exact ⟨A1, c1, hv⟩
        subst hv0
        have hk0 : (0 : Int) ≤ (k : Int) := by omega
        have HGG := Lib.hid hgl
        unfold one1 at HC
        clear hends hst' hpx hen hnw hsz hgl
        go_wp2_with (first
          | (go_at_call 71; (with_reducible refine HE.out.mono ?_); rintro e w' ⟨rfl, rfl⟩)
          | (go_at_call 46; (with_reducible refine HC.out.mono ?_); rintro e w1 ⟨rfl, st2, cs, hp1, hf1, hx1, hs1⟩; obtain ⟨a0, a1, a2, rfl⟩ := lst3 hs1.len; (have hb1 : w1.heap[wr.heap.size]? = some (.cells #[a0, a1, a2] 132 (0, 0)) := hx1); have HLD := Lib.hid (loadO_run (P := Try.prog) 132 _ #[a0, a1, a2] _ hb1 Try.underlying132 rfl (by kernel_rfl)); (have HONE := Lib.hid hs1.one); obtain ⟨A1, c1, hv1, how1, hsz1⟩ := HOW.out w1 hf1; injection hv1 with hv1 _ hv2; subst hv1; subst hv2; (have HOW1 := Lib.hid how1); (have HSZ1 := Lib.hid hsz1); (have HPU := Lib.hid (fun v2 w2 hg => TkR.push (w2 := w2) (v2 := v2) HT.out HGG.out hp1 hf1 hs1 hg)); clear hp1 hf1 hx1 hs1 hb1 how1 hsz1)
          | (refine wpList_loadRun rfl 132 (.tmp 8) rfl _ _ rfl HLD.out ?_)
            | (at_builtin; refine wpList_appK w1 #[a0, a1, a2] 3 (by omega) rfl HONE.out rfl (.tmp 32) (.tmp 34) 26 132 rfl i0 _ 32 Try.underlying26 hi hz0 hz1 hz2 rfl W.heap.size (.slice A0 k c0) k xss.flatten rfl HOW1.out _ rfl rfl (by omega) (by omega) HSZ1.out ?_; intro v3 w3 hg3; obtain ⟨A9, c9, hv9, _⟩ := own_any hg3.own; subst hv9; (have HP := Lib.hid (HPU.out _ _ hg3)); clear hg3))
        go_roundw
        case rel => exact ⟨k + 1, _, _, by omega, by go_num, HP⟩
        case measure => simp [intOf]; omega
    · have e1 : k = m := by omega
      subst e1
      obtain ⟨A, cap, hv, hd⟩ := HT.out.done
      subst hv
      have HD := Lib.hid hd
      clear hd HT
      go_wp2
      go_ret
      exact ⟨_, _, _, _, rfl, HD.out⟩
theorem taken_fns (hF : InS (one1 46) fnR fnC [.string ⟨#[]⟩, .int .i64 0, .int .i64 0]) {W : World} {B0 g gr e : Nat} {form : Bool} {bs : B} {n : Int} (h : PIx W B0 g gr form e bs) (h0 : form = false → e ≠ 0 → n = 0) :
    Calls Try.prog 68 #[.pointer (some ⟨g, 0, none⟩), .int .i64 n, .func (.func 46) #[] #[]] W fun x W' => ∃ A m cap st', x = .returned (.slice A m cap) ∧ TkD fnR (tkN fnC (stE form e bs) n) W B0 g gr W' A m cap st' := by
  have bad : tkN fnC (stE form e bs) n = .error 11 → ∀ {e' : Ending} {W' : World}, e' = .returned (.slice none 0 0) ∧ PI W' B0 g gr (.error 11) ∧ Fr (Ne2 g gr) W W' → ∃ A m cap st', e' = .returned (.slice A m cap) ∧ TkD fnR (tkN fnC (stE form e bs) n) W B0 g gr W' A m cap st' := fun hb e' W' hq =>
    ⟨none, 0, 0, .error 11, hq.1, hq.2.1, hq.2.2, fun k hk => by rw [hb] at hk; injection hk with hk; rw [hk], fun l q hk => by rw [hb] at hk; cases hk⟩
  cases form with
  | true => exact (taken_fns_bad0 (n := n) h).mono fun e' W' hq => bad rfl hq
  | false =>
    by_cases hn0 : n < 0
    · have he : e = 0 := by
        by_cases he : e = 0
        · exact he
        · have := h0 rfl he; omega
      subst he
      exact (taken_fns_bad1 h hn0).mono fun e' W' hq => bad (by unfold tkN stE; simp [hn0]) hq
    · by_cases hn1 : 100000 < n
      · have he : e = 0 := by
          by_cases he : e = 0
          · exact he
          · have := h0 rfl he; omega
        subst he
        exact (taken_fns_bad2 h hn0 hn1).mono fun e' W' hq => bad (by unfold tkN stE; simp [hn1]) hq
      · obtain ⟨m, rfl⟩ := Int.eq_ofNat_of_zero_le (show 0 ≤ n by omega)
        rw [show tkN fnC (stE false e bs) (m : Int) = nxtK fnC m (stE false e bs) from tkN_good _ _ (by omega) (by
          intro k hk
          unfold stE at hk
          by_cases he : e = 0
          · simp [he] at hk
          · have := h0 rfl he; omega)]
        exact taken_fns_good hF h (by omega)
theorem taken_traps_bad0 {W : World} {B0 g gr e : Nat} {bs : B} {n : Int} (h : PIx W B0 g gr true e bs) :
    Calls Try.prog 69 #[.pointer (some ⟨g, 0, none⟩), .int .i64 n, .func (.func 48) #[] #[]] W fun x W' => x = .returned (.slice none 0 0) ∧ PI W' B0 g gr (.error 11) ∧ Fr (Ne2 g gr) W W' := by
  have q2 := (cell_row h.box 2).1
  have z2 := (cell_row h.box 2).2
  simp at q2
  have HE := Lib.hid (ends_v (h.formed true))
  have HP := Lib.hid (show PI (W.setCell ⟨g, 2, none⟩ (.bool true)) B0 g gr (.error 11) ∧ Fr (Ne2 g gr) W (W.setCell ⟨g, 2, none⟩ (.bool true)) from ⟨⟨true, e, bs, h.formed true, rfl⟩, Fr.grown (set_only W g 2 (.bool true)) fun x e hx => hx.1 (by injection e with e; exact e.symm)⟩)
  clear h
  go_enter Try.func69, Try.ntmps69
  go_wp2_with fail
  go_loopw [7, 25] (fun v i wr => v = .slice none 0 0 ∧ i = .int .i64 0 ∧ wr = W.setCell ⟨g, 2, none⟩ (.bool true)) (fun _ _ _ => 0)
  case atStart => exact ⟨rfl, rfl, rfl⟩
  case round =>
    obtain ⟨rfl, rfl, rfl⟩ := hrel
    by_cases hlt : 0 < n
    · go_wp2_with (go_at_call 71; (with_reducible refine HE.out.mono ?_); rintro e w' ⟨rfl, rfl⟩)
      go_ret
      exact ⟨rfl, HP.out⟩
    · go_wp2
      go_ret
      exact ⟨rfl, HP.out⟩
theorem taken_traps_bad1 {W : World} {B0 g gr e : Nat} {bs : B} {n : Int} (h : PIx W B0 g gr false e bs) (hn0 : n < 0) :
    Calls Try.prog 69 #[.pointer (some ⟨g, 0, none⟩), .int .i64 n, .func (.func 48) #[] #[]] W fun x W' => x = .returned (.slice none 0 0) ∧ PI W' B0 g gr (.error 11) ∧ Fr (Ne2 g gr) W W' := by
  have q2 := (cell_row h.box 2).1
  have z2 := (cell_row h.box 2).2
  simp at q2
  have HE := Lib.hid (ends_v (h.formed true))
  have HP := Lib.hid (show PI (W.setCell ⟨g, 2, none⟩ (.bool true)) B0 g gr (.error 11) ∧ Fr (Ne2 g gr) W (W.setCell ⟨g, 2, none⟩ (.bool true)) from ⟨⟨true, e, bs, h.formed true, rfl⟩, Fr.grown (set_only W g 2 (.bool true)) fun x e hx => hx.1 (by injection e with e; exact e.symm)⟩)
  clear h
  go_enter Try.func69, Try.ntmps69
  go_wp2_with fail
  go_loopw [7, 25] (fun v i wr => v = .slice none 0 0 ∧ i = .int .i64 0 ∧ wr = W.setCell ⟨g, 2, none⟩ (.bool true)) (fun _ _ _ => 0)
  case atStart => exact ⟨rfl, rfl, rfl⟩
  case round =>
    obtain ⟨rfl, rfl, rfl⟩ := hrel
    by_cases hlt : 0 < n
    · go_wp2_with (go_at_call 71; (with_reducible refine HE.out.mono ?_); rintro e w' ⟨rfl, rfl⟩)
      go_ret
      exact ⟨rfl, HP.out⟩
    · go_wp2
      go_ret
      exact ⟨rfl, HP.out⟩
theorem taken_traps_bad2 {W : World} {B0 g gr e : Nat} {bs : B} {n : Int} (h : PIx W B0 g gr false e bs) (hn0 : ¬ n < 0) (hn1 : 100000 < n) :
    Calls Try.prog 69 #[.pointer (some ⟨g, 0, none⟩), .int .i64 n, .func (.func 48) #[] #[]] W fun x W' => x = .returned (.slice none 0 0) ∧ PI W' B0 g gr (.error 11) ∧ Fr (Ne2 g gr) W W' := by
  have q2 := (cell_row h.box 2).1
  have z2 := (cell_row h.box 2).2
  simp at q2
  have HE := Lib.hid (ends_v (h.formed true))
  have HP := Lib.hid (show PI (W.setCell ⟨g, 2, none⟩ (.bool true)) B0 g gr (.error 11) ∧ Fr (Ne2 g gr) W (W.setCell ⟨g, 2, none⟩ (.bool true)) from ⟨⟨true, e, bs, h.formed true, rfl⟩, Fr.grown (set_only W g 2 (.bool true)) fun x e hx => hx.1 (by injection e with e; exact e.symm)⟩)
  clear h
  go_enter Try.func69, Try.ntmps69
  go_wp2_with fail
  go_loopw [7, 25] (fun v i wr => v = .slice none 0 0 ∧ i = .int .i64 0 ∧ wr = W.setCell ⟨g, 2, none⟩ (.bool true)) (fun _ _ _ => 0)
  case atStart => exact ⟨rfl, rfl, rfl⟩
  case round =>
    obtain ⟨rfl, rfl, rfl⟩ := hrel
    by_cases hlt : 0 < n
    · go_wp2_with (go_at_call 71; (with_reducible refine HE.out.mono ?_); rintro e w' ⟨rfl, rfl⟩)
      go_ret
      exact ⟨rfl, HP.out⟩
    · go_wp2
      go_ret
      exact ⟨rfl, HP.out⟩
set_option maxHeartbeats 1600000 in
theorem taken_traps_good (hF : InS (one1 48) tpR tpC [.int .i64 0, .string ⟨#[]⟩]) {W : World} {B0 g gr e m : Nat} {bs : B} (h : PIx W B0 g gr false e bs) (hm : m ≤ 100000) :
    Calls Try.prog 69 #[.pointer (some ⟨g, 0, none⟩), .int .i64 (m : Int), .func (.func 48) #[] #[]] W fun x W' => ∃ A n cap st', x = .returned (.slice A n cap) ∧ TkD tpR (nxtK tpC m (stE false e bs)) W B0 g gr W' A n cap st' := by
  have q2 := (cell_row h.box 2).1
  have z2 := (cell_row h.box 2).2
  simp at q2
  obtain ⟨st0, hst⟩ : ∃ s, s = stE false e bs := ⟨_, rfl⟩
  rw [← hst]
  have hpi : PI W B0 g gr st0 := ⟨false, e, bs, h, hst.symm⟩
  have HG := Lib.hid (show B0 ≤ W.heap.size ∧ g < W.heap.size ∧ gr < W.heap.size by have := hpi.g; omega)
  have HS := Lib.hid (TkR.start (r := tpR) (c := tpC) (ET := 133) (W := W) (w := W.setCell ⟨g, 2, none⟩ (.bool false)) (st0 := st0) ⟨false, e, bs, h.formed false, hst.symm⟩ (Fr.grown (set_only W g 2 (.bool false)) fun x e hx => hx.1 (by injection e with e; exact e.symm)))
  have hn0 : ¬ (m : Int) < 0 := by omega
  have hn1 : ¬ (100000 : Int) < (m : Int) := by omega
  obtain ⟨i0, hi, hz0, hz1, hz2⟩ := info_parts (show (Try.prog.info? 133).map (fun i => (i.zero, i.size, i.bytes)) = some (some (.agg #[.int .i64 0, .string ⟨#[]⟩]), 2, 24) by kernel_rfl)
  clear h hpi hst
  go_enter Try.func69, Try.ntmps69
  go_wp2_with fail
  go_loopw [7, 25] (fun v i wr => ∃ (k : Nat) (xss : List (List Value)) (st' : Except Nat B), k ≤ m ∧ i = .int .i64 (k : Int) ∧ Hid (TkR tpR tpC 133 W B0 g gr st0 k wr v xss st')) (fun _ i _ => m - (intOf i).toNat)
  case atStart => exact ⟨0, [], st0, Nat.zero_le _, rfl, HS⟩
  case round =>
    obtain ⟨k, xss, st', hk, rfl, HT⟩ := hrel
    clear q2 z2
    by_cases hlt : k < m
    · have hk2 : (k : Int) < (m : Int) := by omega
      obtain ⟨form, e', bs', hpx, hst'⟩ := HT.out.pi
      have hends := ends_v hpx
      cases hen : (form || decide (e' ≠ 0)) with
      | true =>
        rw [hen] at hends
        have HE := Lib.hid hends
        have hse : ∃ e2, st' = .error e2 := by
          rw [← hst']
          unfold stE
          cases form with
          | true => exact ⟨11, rfl⟩
          | false =>
            have he : e' ≠ 0 := by simpa using hen
            exact ⟨e', by simp [he]⟩
        obtain ⟨e2, rfl⟩ := hse
        have HD := Lib.hid (HT.out.stop hk)
        clear hends hst' hpx hen HT
        go_wp2_with (go_at_call 71; (with_reducible refine HE.out.mono ?_); rintro e w' ⟨rfl, rfl⟩)
        go_ret
        exact ⟨_, _, _, _, rfl, HD.out⟩
      | false =>
        rw [hen] at hends
        have HE := Lib.hid hends
        have hgl := HG.out
        have hsz := HT.out.fr.size
        have hnw := heap_alloc_new wr (.cells #[.int .i64 0, .string ⟨#[]⟩] 133)
        have HC := Lib.hid (hF.go (Q := fun W' => ∃ st2 cs, PI W' B0 g gr st2 ∧ Fr (Ne3 g gr wr.heap.size) (wr.alloc (.cells #[.int .i64 0, .string ⟨#[]⟩] 133)) W' ∧ W'.heap[wr.heap.size]? = some (.cells ([] ++ cs ++ []).toArray 133 (0, 0)) ∧ Stp tpR tpC (wr.alloc (.cells #[.int .i64 0, .string ⟨#[]⟩] 133)).heap.size W' st' st2 cs) (W := wr.alloc (.cells #[.int .i64 0, .string ⟨#[]⟩] 133)) (bx := wr.heap.size) (o := 0) (pre := []) (post := []) (ty := 133) (HT.out.pi.later (Later.alloc _ _)) rfl hnw (by omega) (by omega) (fun W' st2 cs h1 h2 h3 h4 => ⟨st2, cs, h1, h2, h3, h4⟩))
        have HOW := Lib.hid (show ∀ w1 : World, Fr (Ne3 g gr wr.heap.size) (wr.alloc (.cells #[.int .i64 0, .string ⟨#[]⟩] 133)) w1 → ∃ A1 c1, u7 = .slice A1 k c1 ∧ w1.ownsRow W.heap.size 133 2 (.slice A1 k c1) k xss.flatten ∧ W.heap.size ≤ w1.heap.size from fun w1 hf => by
          obtain ⟨A1, c1, hv, _⟩ := own_any HT.out.own
          subst hv
          refine ⟨A1, c1, rfl, ?_, by have := hf.size; rw [World.size_alloc] at this; omega⟩
          have h1 := own_below HT.out.own (Later.alloc wr (.cells #[.int .i64 0, .string ⟨#[]⟩] 133))
          refine hf.row h1 fun i hi => ?_
          have := HT.out.own.lt i hi
          exact ⟨by omega, by omega, by omega⟩)
        obtain ⟨A0, c0, hv0⟩ : ∃ A0 c0, u7 = .slice A0 k c0 := by obtain ⟨A1, c1, hv, _⟩ := own_any HT.out.own; exact ⟨A1, c1, hv⟩
        subst hv0
        have hk0 : (0 : Int) ≤ (k : Int) := by omega
        have HGG := Lib.hid hgl
        unfold one1 at HC
        clear hends hst' hpx hen hnw hsz hgl
        go_wp2_with (first
          | (go_at_call 71; (with_reducible refine HE.out.mono ?_); rintro e w' ⟨rfl, rfl⟩)
          | (go_at_call 48; (with_reducible refine HC.out.mono ?_); rintro e w1 ⟨rfl, st2, cs, hp1, hf1, hx1, hs1⟩; obtain ⟨a0, a1, rfl⟩ := lst2 hs1.len; (have hb1 : w1.heap[wr.heap.size]? = some (.cells #[a0, a1] 133 (0, 0)) := hx1); have HLD := Lib.hid (loadO_run (P := Try.prog) 133 _ #[a0, a1] _ hb1 Try.underlying133 rfl (by kernel_rfl)); (have HONE := Lib.hid hs1.one); obtain ⟨A1, c1, hv1, how1, hsz1⟩ := HOW.out w1 hf1; injection hv1 with hv1 _ hv2; subst hv1; subst hv2; (have HOW1 := Lib.hid how1); (have HSZ1 := Lib.hid hsz1); (have HPU := Lib.hid (fun v2 w2 hg => TkR.push (w2 := w2) (v2 := v2) HT.out HGG.out hp1 hf1 hs1 hg)); clear hp1 hf1 hx1 hs1 hb1 how1 hsz1)
          | (refine wpList_loadRun rfl 133 (.tmp 8) rfl _ _ rfl HLD.out ?_)
            | (at_builtin; refine wpList_appK w1 #[a0, a1] 2 (by omega) rfl HONE.out rfl (.tmp 32) (.tmp 34) 27 133 rfl i0 _ 24 Try.underlying27 hi hz0 hz1 hz2 rfl W.heap.size (.slice A0 k c0) k xss.flatten rfl HOW1.out _ rfl rfl (by omega) (by omega) HSZ1.out ?_; intro v3 w3 hg3; obtain ⟨A9, c9, hv9, _⟩ := own_any hg3.own; subst hv9; (have HP := Lib.hid (HPU.out _ _ hg3)); clear hg3))
        go_roundw
        case rel => exact ⟨k + 1, _, _, by omega, by go_num, HP⟩
        case measure => simp [intOf]; omega
    · have e1 : k = m := by omega
      subst e1
      obtain ⟨A, cap, hv, hd⟩ := HT.out.done
      subst hv
      have HD := Lib.hid hd
      clear hd HT
      go_wp2
      go_ret
      exact ⟨_, _, _, _, rfl, HD.out⟩
theorem taken_traps (hF : InS (one1 48) tpR tpC [.int .i64 0, .string ⟨#[]⟩]) {W : World} {B0 g gr e : Nat} {form : Bool} {bs : B} {n : Int} (h : PIx W B0 g gr form e bs) (h0 : form = false → e ≠ 0 → n = 0) :
    Calls Try.prog 69 #[.pointer (some ⟨g, 0, none⟩), .int .i64 n, .func (.func 48) #[] #[]] W fun x W' => ∃ A m cap st', x = .returned (.slice A m cap) ∧ TkD tpR (tkN tpC (stE form e bs) n) W B0 g gr W' A m cap st' := by
  have bad : tkN tpC (stE form e bs) n = .error 11 → ∀ {e' : Ending} {W' : World}, e' = .returned (.slice none 0 0) ∧ PI W' B0 g gr (.error 11) ∧ Fr (Ne2 g gr) W W' → ∃ A m cap st', e' = .returned (.slice A m cap) ∧ TkD tpR (tkN tpC (stE form e bs) n) W B0 g gr W' A m cap st' := fun hb e' W' hq =>
    ⟨none, 0, 0, .error 11, hq.1, hq.2.1, hq.2.2, fun k hk => by rw [hb] at hk; injection hk with hk; rw [hk], fun l q hk => by rw [hb] at hk; cases hk⟩
  cases form with
  | true => exact (taken_traps_bad0 (n := n) h).mono fun e' W' hq => bad rfl hq
  | false =>
    by_cases hn0 : n < 0
    · have he : e = 0 := by
        by_cases he : e = 0
        · exact he
        · have := h0 rfl he; omega
      subst he
      exact (taken_traps_bad1 h hn0).mono fun e' W' hq => bad (by unfold tkN stE; simp [hn0]) hq
    · by_cases hn1 : 100000 < n
      · have he : e = 0 := by
          by_cases he : e = 0
          · exact he
          · have := h0 rfl he; omega
        subst he
        exact (taken_traps_bad2 h hn0 hn1).mono fun e' W' hq => bad (by unfold tkN stE; simp [hn1]) hq
      · obtain ⟨m, rfl⟩ := Int.eq_ofNat_of_zero_le (show 0 ≤ n by omega)
        rw [show tkN tpC (stE false e bs) (m : Int) = nxtK tpC m (stE false e bs) from tkN_good _ _ (by omega) (by
          intro k hk
          unfold stE at hk
          by_cases he : e = 0
          · simp [he] at hk
          · have := h0 rfl he; omega)]
        exact taken_traps_good hF h (by omega)
theorem taken_fds_bad0 {W : World} {B0 g gr e : Nat} {bs : B} {n : Int} (h : PIx W B0 g gr true e bs) :
    Calls Try.prog 70 #[.pointer (some ⟨g, 0, none⟩), .int .i64 n, .func (.func 50) #[] #[]] W fun x W' => x = .returned (.slice none 0 0) ∧ PI W' B0 g gr (.error 11) ∧ Fr (Ne2 g gr) W W' := by
  have q2 := (cell_row h.box 2).1
  have z2 := (cell_row h.box 2).2
  simp at q2
  have HE := Lib.hid (ends_v (h.formed true))
  have HP := Lib.hid (show PI (W.setCell ⟨g, 2, none⟩ (.bool true)) B0 g gr (.error 11) ∧ Fr (Ne2 g gr) W (W.setCell ⟨g, 2, none⟩ (.bool true)) from ⟨⟨true, e, bs, h.formed true, rfl⟩, Fr.grown (set_only W g 2 (.bool true)) fun x e hx => hx.1 (by injection e with e; exact e.symm)⟩)
  clear h
  go_enter Try.func70, Try.ntmps70
  go_wp2_with fail
  go_loopw [7, 25] (fun v i wr => v = .slice none 0 0 ∧ i = .int .i64 0 ∧ wr = W.setCell ⟨g, 2, none⟩ (.bool true)) (fun _ _ _ => 0)
  case atStart => exact ⟨rfl, rfl, rfl⟩
  case round =>
    obtain ⟨rfl, rfl, rfl⟩ := hrel
    by_cases hlt : 0 < n
    · go_wp2_with (go_at_call 71; (with_reducible refine HE.out.mono ?_); rintro e w' ⟨rfl, rfl⟩)
      go_ret
      exact ⟨rfl, HP.out⟩
    · go_wp2
      go_ret
      exact ⟨rfl, HP.out⟩
theorem taken_fds_bad1 {W : World} {B0 g gr e : Nat} {bs : B} {n : Int} (h : PIx W B0 g gr false e bs) (hn0 : n < 0) :
    Calls Try.prog 70 #[.pointer (some ⟨g, 0, none⟩), .int .i64 n, .func (.func 50) #[] #[]] W fun x W' => x = .returned (.slice none 0 0) ∧ PI W' B0 g gr (.error 11) ∧ Fr (Ne2 g gr) W W' := by
  have q2 := (cell_row h.box 2).1
  have z2 := (cell_row h.box 2).2
  simp at q2
  have HE := Lib.hid (ends_v (h.formed true))
  have HP := Lib.hid (show PI (W.setCell ⟨g, 2, none⟩ (.bool true)) B0 g gr (.error 11) ∧ Fr (Ne2 g gr) W (W.setCell ⟨g, 2, none⟩ (.bool true)) from ⟨⟨true, e, bs, h.formed true, rfl⟩, Fr.grown (set_only W g 2 (.bool true)) fun x e hx => hx.1 (by injection e with e; exact e.symm)⟩)
  clear h
  go_enter Try.func70, Try.ntmps70
  go_wp2_with fail
  go_loopw [7, 25] (fun v i wr => v = .slice none 0 0 ∧ i = .int .i64 0 ∧ wr = W.setCell ⟨g, 2, none⟩ (.bool true)) (fun _ _ _ => 0)
  case atStart => exact ⟨rfl, rfl, rfl⟩
  case round =>
    obtain ⟨rfl, rfl, rfl⟩ := hrel
    by_cases hlt : 0 < n
    · go_wp2_with (go_at_call 71; (with_reducible refine HE.out.mono ?_); rintro e w' ⟨rfl, rfl⟩)
      go_ret
      exact ⟨rfl, HP.out⟩
    · go_wp2
      go_ret
      exact ⟨rfl, HP.out⟩
theorem taken_fds_bad2 {W : World} {B0 g gr e : Nat} {bs : B} {n : Int} (h : PIx W B0 g gr false e bs) (hn0 : ¬ n < 0) (hn1 : 100000 < n) :
    Calls Try.prog 70 #[.pointer (some ⟨g, 0, none⟩), .int .i64 n, .func (.func 50) #[] #[]] W fun x W' => x = .returned (.slice none 0 0) ∧ PI W' B0 g gr (.error 11) ∧ Fr (Ne2 g gr) W W' := by
  have q2 := (cell_row h.box 2).1
  have z2 := (cell_row h.box 2).2
  simp at q2
  have HE := Lib.hid (ends_v (h.formed true))
  have HP := Lib.hid (show PI (W.setCell ⟨g, 2, none⟩ (.bool true)) B0 g gr (.error 11) ∧ Fr (Ne2 g gr) W (W.setCell ⟨g, 2, none⟩ (.bool true)) from ⟨⟨true, e, bs, h.formed true, rfl⟩, Fr.grown (set_only W g 2 (.bool true)) fun x e hx => hx.1 (by injection e with e; exact e.symm)⟩)
  clear h
  go_enter Try.func70, Try.ntmps70
  go_wp2_with fail
  go_loopw [7, 25] (fun v i wr => v = .slice none 0 0 ∧ i = .int .i64 0 ∧ wr = W.setCell ⟨g, 2, none⟩ (.bool true)) (fun _ _ _ => 0)
  case atStart => exact ⟨rfl, rfl, rfl⟩
  case round =>
    obtain ⟨rfl, rfl, rfl⟩ := hrel
    by_cases hlt : 0 < n
    · go_wp2_with (go_at_call 71; (with_reducible refine HE.out.mono ?_); rintro e w' ⟨rfl, rfl⟩)
      go_ret
      exact ⟨rfl, HP.out⟩
    · go_wp2
      go_ret
      exact ⟨rfl, HP.out⟩
set_option maxHeartbeats 1600000 in
theorem taken_fds_good (hF : InS (one1 50) fdR fdC [.int .i64 0, .int .i64 0]) {W : World} {B0 g gr e m : Nat} {bs : B} (h : PIx W B0 g gr false e bs) (hm : m ≤ 100000) :
    Calls Try.prog 70 #[.pointer (some ⟨g, 0, none⟩), .int .i64 (m : Int), .func (.func 50) #[] #[]] W fun x W' => ∃ A n cap st', x = .returned (.slice A n cap) ∧ TkD fdR (nxtK fdC m (stE false e bs)) W B0 g gr W' A n cap st' := by
  have q2 := (cell_row h.box 2).1
  have z2 := (cell_row h.box 2).2
  simp at q2
  obtain ⟨st0, hst⟩ : ∃ s, s = stE false e bs := ⟨_, rfl⟩
  rw [← hst]
  have hpi : PI W B0 g gr st0 := ⟨false, e, bs, h, hst.symm⟩
  have HG := Lib.hid (show B0 ≤ W.heap.size ∧ g < W.heap.size ∧ gr < W.heap.size by have := hpi.g; omega)
  have HS := Lib.hid (TkR.start (r := fdR) (c := fdC) (ET := 134) (W := W) (w := W.setCell ⟨g, 2, none⟩ (.bool false)) (st0 := st0) ⟨false, e, bs, h.formed false, hst.symm⟩ (Fr.grown (set_only W g 2 (.bool false)) fun x e hx => hx.1 (by injection e with e; exact e.symm)))
  have hn0 : ¬ (m : Int) < 0 := by omega
  have hn1 : ¬ (100000 : Int) < (m : Int) := by omega
  obtain ⟨i0, hi, hz0, hz1, hz2⟩ := info_parts (show (Try.prog.info? 134).map (fun i => (i.zero, i.size, i.bytes)) = some (some (.agg #[.int .i64 0, .int .i64 0]), 2, 16) by kernel_rfl)
  clear h hpi hst
  go_enter Try.func70, Try.ntmps70
  go_wp2_with fail
  go_loopw [7, 25] (fun v i wr => ∃ (k : Nat) (xss : List (List Value)) (st' : Except Nat B), k ≤ m ∧ i = .int .i64 (k : Int) ∧ Hid (TkR fdR fdC 134 W B0 g gr st0 k wr v xss st')) (fun _ i _ => m - (intOf i).toNat)
  case atStart => exact ⟨0, [], st0, Nat.zero_le _, rfl, HS⟩
  case round =>
    obtain ⟨k, xss, st', hk, rfl, HT⟩ := hrel
    clear q2 z2
    by_cases hlt : k < m
    · have hk2 : (k : Int) < (m : Int) := by omega
      obtain ⟨form, e', bs', hpx, hst'⟩ := HT.out.pi
      have hends := ends_v hpx
      cases hen : (form || decide (e' ≠ 0)) with
      | true =>
        rw [hen] at hends
        have HE := Lib.hid hends
        have hse : ∃ e2, st' = .error e2 := by
          rw [← hst']
          unfold stE
          cases form with
          | true => exact ⟨11, rfl⟩
          | false =>
            have he : e' ≠ 0 := by simpa using hen
            exact ⟨e', by simp [he]⟩
        obtain ⟨e2, rfl⟩ := hse
        have HD := Lib.hid (HT.out.stop hk)
        clear hends hst' hpx hen HT
        go_wp2_with (go_at_call 71; (with_reducible refine HE.out.mono ?_); rintro e w' ⟨rfl, rfl⟩)
        go_ret
        exact ⟨_, _, _, _, rfl, HD.out⟩
      | false =>
        rw [hen] at hends
        have HE := Lib.hid hends
        have hgl := HG.out
        have hsz := HT.out.fr.size
        have hnw := heap_alloc_new wr (.cells #[.int .i64 0, .int .i64 0] 134)
        have HC := Lib.hid (hF.go (Q := fun W' => ∃ st2 cs, PI W' B0 g gr st2 ∧ Fr (Ne3 g gr wr.heap.size) (wr.alloc (.cells #[.int .i64 0, .int .i64 0] 134)) W' ∧ W'.heap[wr.heap.size]? = some (.cells ([] ++ cs ++ []).toArray 134 (0, 0)) ∧ Stp fdR fdC (wr.alloc (.cells #[.int .i64 0, .int .i64 0] 134)).heap.size W' st' st2 cs) (W := wr.alloc (.cells #[.int .i64 0, .int .i64 0] 134)) (bx := wr.heap.size) (o := 0) (pre := []) (post := []) (ty := 134) (HT.out.pi.later (Later.alloc _ _)) rfl hnw (by omega) (by omega) (fun W' st2 cs h1 h2 h3 h4 => ⟨st2, cs, h1, h2, h3, h4⟩))
        have HOW := Lib.hid (show ∀ w1 : World, Fr (Ne3 g gr wr.heap.size) (wr.alloc (.cells #[.int .i64 0, .int .i64 0] 134)) w1 → ∃ A1 c1, u7 = .slice A1 k c1 ∧ w1.ownsRow W.heap.size 134 2 (.slice A1 k c1) k xss.flatten ∧ W.heap.size ≤ w1.heap.size from fun w1 hf => by
          obtain ⟨A1, c1, hv, _⟩ := own_any HT.out.own
          subst hv
          refine ⟨A1, c1, rfl, ?_, by have := hf.size; rw [World.size_alloc] at this; omega⟩
          have h1 := own_below HT.out.own (Later.alloc wr (.cells #[.int .i64 0, .int .i64 0] 134))
          refine hf.row h1 fun i hi => ?_
          have := HT.out.own.lt i hi
          exact ⟨by omega, by omega, by omega⟩)
        obtain ⟨A0, c0, hv0⟩ : ∃ A0 c0, u7 = .slice A0 k c0 := by obtain ⟨A1, c1, hv, _⟩ := own_any HT.out.own; exact ⟨A1, c1, hv⟩
        subst hv0
        have hk0 : (0 : Int) ≤ (k : Int) := by omega
        have HGG := Lib.hid hgl
        unfold one1 at HC
        clear hends hst' hpx hen hnw hsz hgl
        go_wp2_with (first
          | (go_at_call 71; (with_reducible refine HE.out.mono ?_); rintro e w' ⟨rfl, rfl⟩)
          | (go_at_call 50; (with_reducible refine HC.out.mono ?_); rintro e w1 ⟨rfl, st2, cs, hp1, hf1, hx1, hs1⟩; obtain ⟨a0, a1, rfl⟩ := lst2 hs1.len; (have hb1 : w1.heap[wr.heap.size]? = some (.cells #[a0, a1] 134 (0, 0)) := hx1); have HLD := Lib.hid (loadO_run (P := Try.prog) 134 _ #[a0, a1] _ hb1 Try.underlying134 rfl (by kernel_rfl)); (have HONE := Lib.hid hs1.one); obtain ⟨A1, c1, hv1, how1, hsz1⟩ := HOW.out w1 hf1; injection hv1 with hv1 _ hv2; subst hv1; subst hv2; (have HOW1 := Lib.hid how1); (have HSZ1 := Lib.hid hsz1); (have HPU := Lib.hid (fun v2 w2 hg => TkR.push (w2 := w2) (v2 := v2) HT.out HGG.out hp1 hf1 hs1 hg)); clear hp1 hf1 hx1 hs1 hb1 how1 hsz1)
          | (refine wpList_loadRun rfl 134 (.tmp 8) rfl _ _ rfl HLD.out ?_)
            | (at_builtin; refine wpList_appK w1 #[a0, a1] 2 (by omega) rfl HONE.out rfl (.tmp 32) (.tmp 34) 28 134 rfl i0 _ 16 Try.underlying28 hi hz0 hz1 hz2 rfl W.heap.size (.slice A0 k c0) k xss.flatten rfl HOW1.out _ rfl rfl (by omega) (by omega) HSZ1.out ?_; intro v3 w3 hg3; obtain ⟨A9, c9, hv9, _⟩ := own_any hg3.own; subst hv9; (have HP := Lib.hid (HPU.out _ _ hg3)); clear hg3))
        go_roundw
        case rel => exact ⟨k + 1, _, _, by omega, by go_num, HP⟩
        case measure => simp [intOf]; omega
    · have e1 : k = m := by omega
      subst e1
      obtain ⟨A, cap, hv, hd⟩ := HT.out.done
      subst hv
      have HD := Lib.hid hd
      clear hd HT
      go_wp2
      go_ret
      exact ⟨_, _, _, _, rfl, HD.out⟩
theorem taken_fds (hF : InS (one1 50) fdR fdC [.int .i64 0, .int .i64 0]) {W : World} {B0 g gr e : Nat} {form : Bool} {bs : B} {n : Int} (h : PIx W B0 g gr form e bs) (h0 : form = false → e ≠ 0 → n = 0) :
    Calls Try.prog 70 #[.pointer (some ⟨g, 0, none⟩), .int .i64 n, .func (.func 50) #[] #[]] W fun x W' => ∃ A m cap st', x = .returned (.slice A m cap) ∧ TkD fdR (tkN fdC (stE form e bs) n) W B0 g gr W' A m cap st' := by
  have bad : tkN fdC (stE form e bs) n = .error 11 → ∀ {e' : Ending} {W' : World}, e' = .returned (.slice none 0 0) ∧ PI W' B0 g gr (.error 11) ∧ Fr (Ne2 g gr) W W' → ∃ A m cap st', e' = .returned (.slice A m cap) ∧ TkD fdR (tkN fdC (stE form e bs) n) W B0 g gr W' A m cap st' := fun hb e' W' hq =>
    ⟨none, 0, 0, .error 11, hq.1, hq.2.1, hq.2.2, fun k hk => by rw [hb] at hk; injection hk with hk; rw [hk], fun l q hk => by rw [hb] at hk; cases hk⟩
  cases form with
  | true => exact (taken_fds_bad0 (n := n) h).mono fun e' W' hq => bad rfl hq
  | false =>
    by_cases hn0 : n < 0
    · have he : e = 0 := by
        by_cases he : e = 0
        · exact he
        · have := h0 rfl he; omega
      subst he
      exact (taken_fds_bad1 h hn0).mono fun e' W' hq => bad (by unfold tkN stE; simp [hn0]) hq
    · by_cases hn1 : 100000 < n
      · have he : e = 0 := by
          by_cases he : e = 0
          · exact he
          · have := h0 rfl he; omega
        subst he
        exact (taken_fds_bad2 h hn0 hn1).mono fun e' W' hq => bad (by unfold tkN stE; simp [hn1]) hq
      · obtain ⟨m, rfl⟩ := Int.eq_ofNat_of_zero_le (show 0 ≤ n by omega)
        rw [show tkN fdC (stE false e bs) (m : Int) = nxtK fdC m (stE false e bs) from tkN_good _ _ (by omega) (by
          intro k hk
          unfold stE at hk
          by_cases he : e = 0
          · simp [he] at hk
          · have := h0 rfl he; omega)]
        exact taken_fds_good hF h (by omega)
theorem taken_frames_bad0 {W : World} {B0 g gr e : Nat} {bs : B} {n : Int} (h : PIx W B0 g gr true e bs) :
    Calls Try.prog 54 #[.pointer (some ⟨g, 0, none⟩), .int .i64 n, .func (.func 31) #[] #[]] W fun x W' => x = .returned (.slice none 0 0) ∧ PI W' B0 g gr (.error 11) ∧ Fr (Ne2 g gr) W W' := by
  have q2 := (cell_row h.box 2).1
  have z2 := (cell_row h.box 2).2
  simp at q2
  have HE := Lib.hid (ends_v (h.formed true))
  have HP := Lib.hid (show PI (W.setCell ⟨g, 2, none⟩ (.bool true)) B0 g gr (.error 11) ∧ Fr (Ne2 g gr) W (W.setCell ⟨g, 2, none⟩ (.bool true)) from ⟨⟨true, e, bs, h.formed true, rfl⟩, Fr.grown (set_only W g 2 (.bool true)) fun x e hx => hx.1 (by injection e with e; exact e.symm)⟩)
  clear h
  go_enter Try.func54, Try.ntmps54
  go_wp2_with fail
  go_loopw [7, 25] (fun v i wr => v = .slice none 0 0 ∧ i = .int .i64 0 ∧ wr = W.setCell ⟨g, 2, none⟩ (.bool true)) (fun _ _ _ => 0)
  case atStart => exact ⟨rfl, rfl, rfl⟩
  case round =>
    obtain ⟨rfl, rfl, rfl⟩ := hrel
    by_cases hlt : 0 < n
    · go_wp2_with (go_at_call 71; (with_reducible refine HE.out.mono ?_); rintro e w' ⟨rfl, rfl⟩)
      go_ret
      exact ⟨rfl, HP.out⟩
    · go_wp2
      go_ret
      exact ⟨rfl, HP.out⟩
theorem taken_frames_bad1 {W : World} {B0 g gr e : Nat} {bs : B} {n : Int} (h : PIx W B0 g gr false e bs) (hn0 : n < 0) :
    Calls Try.prog 54 #[.pointer (some ⟨g, 0, none⟩), .int .i64 n, .func (.func 31) #[] #[]] W fun x W' => x = .returned (.slice none 0 0) ∧ PI W' B0 g gr (.error 11) ∧ Fr (Ne2 g gr) W W' := by
  have q2 := (cell_row h.box 2).1
  have z2 := (cell_row h.box 2).2
  simp at q2
  have HE := Lib.hid (ends_v (h.formed true))
  have HP := Lib.hid (show PI (W.setCell ⟨g, 2, none⟩ (.bool true)) B0 g gr (.error 11) ∧ Fr (Ne2 g gr) W (W.setCell ⟨g, 2, none⟩ (.bool true)) from ⟨⟨true, e, bs, h.formed true, rfl⟩, Fr.grown (set_only W g 2 (.bool true)) fun x e hx => hx.1 (by injection e with e; exact e.symm)⟩)
  clear h
  go_enter Try.func54, Try.ntmps54
  go_wp2_with fail
  go_loopw [7, 25] (fun v i wr => v = .slice none 0 0 ∧ i = .int .i64 0 ∧ wr = W.setCell ⟨g, 2, none⟩ (.bool true)) (fun _ _ _ => 0)
  case atStart => exact ⟨rfl, rfl, rfl⟩
  case round =>
    obtain ⟨rfl, rfl, rfl⟩ := hrel
    by_cases hlt : 0 < n
    · go_wp2_with (go_at_call 71; (with_reducible refine HE.out.mono ?_); rintro e w' ⟨rfl, rfl⟩)
      go_ret
      exact ⟨rfl, HP.out⟩
    · go_wp2
      go_ret
      exact ⟨rfl, HP.out⟩
theorem taken_frames_bad2 {W : World} {B0 g gr e : Nat} {bs : B} {n : Int} (h : PIx W B0 g gr false e bs) (hn0 : ¬ n < 0) (hn1 : 100000 < n) :
    Calls Try.prog 54 #[.pointer (some ⟨g, 0, none⟩), .int .i64 n, .func (.func 31) #[] #[]] W fun x W' => x = .returned (.slice none 0 0) ∧ PI W' B0 g gr (.error 11) ∧ Fr (Ne2 g gr) W W' := by
  have q2 := (cell_row h.box 2).1
  have z2 := (cell_row h.box 2).2
  simp at q2
  have HE := Lib.hid (ends_v (h.formed true))
  have HP := Lib.hid (show PI (W.setCell ⟨g, 2, none⟩ (.bool true)) B0 g gr (.error 11) ∧ Fr (Ne2 g gr) W (W.setCell ⟨g, 2, none⟩ (.bool true)) from ⟨⟨true, e, bs, h.formed true, rfl⟩, Fr.grown (set_only W g 2 (.bool true)) fun x e hx => hx.1 (by injection e with e; exact e.symm)⟩)
  clear h
  go_enter Try.func54, Try.ntmps54
  go_wp2_with fail
  go_loopw [7, 25] (fun v i wr => v = .slice none 0 0 ∧ i = .int .i64 0 ∧ wr = W.setCell ⟨g, 2, none⟩ (.bool true)) (fun _ _ _ => 0)
  case atStart => exact ⟨rfl, rfl, rfl⟩
  case round =>
    obtain ⟨rfl, rfl, rfl⟩ := hrel
    by_cases hlt : 0 < n
    · go_wp2_with (go_at_call 71; (with_reducible refine HE.out.mono ?_); rintro e w' ⟨rfl, rfl⟩)
      go_ret
      exact ⟨rfl, HP.out⟩
    · go_wp2
      go_ret
      exact ⟨rfl, HP.out⟩
set_option maxHeartbeats 1600000 in
theorem taken_frames_good (hF : InS (one1 31) fmR fmC [.int .i64 0, .int .i64 0, .int .i64 0, .int .i64 0, .int .i64 0, .bool false, .int .i64 0, .int .i64 0, .string ⟨#[]⟩, .slice none 0 0, .slice none 0 0, .slice none 0 0, .slice none 0 0, .slice none 0 0, .int .i64 0, .string ⟨#[]⟩, .slice none 0 0, .slice none 0 0, .slice none 0 0]) {W : World} {B0 g gr e m : Nat} {bs : B} (h : PIx W B0 g gr false e bs) (hm : m ≤ 100000) :
    Calls Try.prog 54 #[.pointer (some ⟨g, 0, none⟩), .int .i64 (m : Int), .func (.func 31) #[] #[]] W fun x W' => ∃ A n cap st', x = .returned (.slice A n cap) ∧ TkD fmR (nxtK fmC m (stE false e bs)) W B0 g gr W' A n cap st' := by
  have q2 := (cell_row h.box 2).1
  have z2 := (cell_row h.box 2).2
  simp at q2
  obtain ⟨st0, hst⟩ : ∃ s, s = stE false e bs := ⟨_, rfl⟩
  rw [← hst]
  have hpi : PI W B0 g gr st0 := ⟨false, e, bs, h, hst.symm⟩
  have HG := Lib.hid (show B0 ≤ W.heap.size ∧ g < W.heap.size ∧ gr < W.heap.size by have := hpi.g; omega)
  have HS := Lib.hid (TkR.start (r := fmR) (c := fmC) (ET := 70) (W := W) (w := W.setCell ⟨g, 2, none⟩ (.bool false)) (st0 := st0) ⟨false, e, bs, h.formed false, hst.symm⟩ (Fr.grown (set_only W g 2 (.bool false)) fun x e hx => hx.1 (by injection e with e; exact e.symm)))
  have hn0 : ¬ (m : Int) < 0 := by omega
  have hn1 : ¬ (100000 : Int) < (m : Int) := by omega
  obtain ⟨i0, hi, hz0, hz1, hz2⟩ := info_parts (show (Try.prog.info? 70).map (fun i => (i.zero, i.size, i.bytes)) = some (some (.agg #[.int .i64 0, .int .i64 0, .int .i64 0, .int .i64 0, .int .i64 0, .bool false, .int .i64 0, .int .i64 0, .string ⟨#[]⟩, .slice none 0 0, .slice none 0 0, .slice none 0 0, .slice none 0 0, .slice none 0 0, .int .i64 0, .string ⟨#[]⟩, .slice none 0 0, .slice none 0 0, .slice none 0 0]), 19, 296) by kernel_rfl)
  clear h hpi hst
  go_enter Try.func54, Try.ntmps54
  go_wp2_with fail
  go_loopw [7, 25] (fun v i wr => ∃ (k : Nat) (xss : List (List Value)) (st' : Except Nat B), k ≤ m ∧ i = .int .i64 (k : Int) ∧ Hid (TkR fmR fmC 70 W B0 g gr st0 k wr v xss st')) (fun _ i _ => m - (intOf i).toNat)
  case atStart => exact ⟨0, [], st0, Nat.zero_le _, rfl, HS⟩
  case round =>
    obtain ⟨k, xss, st', hk, rfl, HT⟩ := hrel
    clear q2 z2
    by_cases hlt : k < m
    · have hk2 : (k : Int) < (m : Int) := by omega
      obtain ⟨form, e', bs', hpx, hst'⟩ := HT.out.pi
      have hends := ends_v hpx
      cases hen : (form || decide (e' ≠ 0)) with
      | true =>
        rw [hen] at hends
        have HE := Lib.hid hends
        have hse : ∃ e2, st' = .error e2 := by
          rw [← hst']
          unfold stE
          cases form with
          | true => exact ⟨11, rfl⟩
          | false =>
            have he : e' ≠ 0 := by simpa using hen
            exact ⟨e', by simp [he]⟩
        obtain ⟨e2, rfl⟩ := hse
        have HD := Lib.hid (HT.out.stop hk)
        clear hends hst' hpx hen HT
        go_wp2_with (go_at_call 71; (with_reducible refine HE.out.mono ?_); rintro e w' ⟨rfl, rfl⟩)
        go_ret
        exact ⟨_, _, _, _, rfl, HD.out⟩
      | false =>
        rw [hen] at hends
        have HE := Lib.hid hends
        have hgl := HG.out
        have hsz := HT.out.fr.size
        have hnw := heap_alloc_new wr (.cells #[.int .i64 0, .int .i64 0, .int .i64 0, .int .i64 0, .int .i64 0, .bool false, .int .i64 0, .int .i64 0, .string ⟨#[]⟩, .slice none 0 0, .slice none 0 0, .slice none 0 0, .slice none 0 0, .slice none 0 0, .int .i64 0, .string ⟨#[]⟩, .slice none 0 0, .slice none 0 0, .slice none 0 0] 70)
        have HC := Lib.hid (hF.go (Q := fun W' => ∃ st2 cs, PI W' B0 g gr st2 ∧ Fr (Ne3 g gr wr.heap.size) (wr.alloc (.cells #[.int .i64 0, .int .i64 0, .int .i64 0, .int .i64 0, .int .i64 0, .bool false, .int .i64 0, .int .i64 0, .string ⟨#[]⟩, .slice none 0 0, .slice none 0 0, .slice none 0 0, .slice none 0 0, .slice none 0 0, .int .i64 0, .string ⟨#[]⟩, .slice none 0 0, .slice none 0 0, .slice none 0 0] 70)) W' ∧ W'.heap[wr.heap.size]? = some (.cells ([] ++ cs ++ []).toArray 70 (0, 0)) ∧ Stp fmR fmC (wr.alloc (.cells #[.int .i64 0, .int .i64 0, .int .i64 0, .int .i64 0, .int .i64 0, .bool false, .int .i64 0, .int .i64 0, .string ⟨#[]⟩, .slice none 0 0, .slice none 0 0, .slice none 0 0, .slice none 0 0, .slice none 0 0, .int .i64 0, .string ⟨#[]⟩, .slice none 0 0, .slice none 0 0, .slice none 0 0] 70)).heap.size W' st' st2 cs) (W := wr.alloc (.cells #[.int .i64 0, .int .i64 0, .int .i64 0, .int .i64 0, .int .i64 0, .bool false, .int .i64 0, .int .i64 0, .string ⟨#[]⟩, .slice none 0 0, .slice none 0 0, .slice none 0 0, .slice none 0 0, .slice none 0 0, .int .i64 0, .string ⟨#[]⟩, .slice none 0 0, .slice none 0 0, .slice none 0 0] 70)) (bx := wr.heap.size) (o := 0) (pre := []) (post := []) (ty := 70) (HT.out.pi.later (Later.alloc _ _)) rfl hnw (by omega) (by omega) (fun W' st2 cs h1 h2 h3 h4 => ⟨st2, cs, h1, h2, h3, h4⟩))
        have HOW := Lib.hid (show ∀ w1 : World, Fr (Ne3 g gr wr.heap.size) (wr.alloc (.cells #[.int .i64 0, .int .i64 0, .int .i64 0, .int .i64 0, .int .i64 0, .bool false, .int .i64 0, .int .i64 0, .string ⟨#[]⟩, .slice none 0 0, .slice none 0 0, .slice none 0 0, .slice none 0 0, .slice none 0 0, .int .i64 0, .string ⟨#[]⟩, .slice none 0 0, .slice none 0 0, .slice none 0 0] 70)) w1 → ∃ A1 c1, u7 = .slice A1 k c1 ∧ w1.ownsRow W.heap.size 70 19 (.slice A1 k c1) k xss.flatten ∧ W.heap.size ≤ w1.heap.size from fun w1 hf => by
          obtain ⟨A1, c1, hv, _⟩ := own_any HT.out.own
          subst hv
          refine ⟨A1, c1, rfl, ?_, by have := hf.size; rw [World.size_alloc] at this; omega⟩
          have h1 := own_below HT.out.own (Later.alloc wr (.cells #[.int .i64 0, .int .i64 0, .int .i64 0, .int .i64 0, .int .i64 0, .bool false, .int .i64 0, .int .i64 0, .string ⟨#[]⟩, .slice none 0 0, .slice none 0 0, .slice none 0 0, .slice none 0 0, .slice none 0 0, .int .i64 0, .string ⟨#[]⟩, .slice none 0 0, .slice none 0 0, .slice none 0 0] 70))
          refine hf.row h1 fun i hi => ?_
          have := HT.out.own.lt i hi
          exact ⟨by omega, by omega, by omega⟩)
        obtain ⟨A0, c0, hv0⟩ : ∃ A0 c0, u7 = .slice A0 k c0 := by obtain ⟨A1, c1, hv, _⟩ := own_any HT.out.own; exact ⟨A1, c1, hv⟩
        subst hv0
        have hk0 : (0 : Int) ≤ (k : Int) := by omega
        have HGG := Lib.hid hgl
        unfold one1 at HC
        clear hends hst' hpx hen hnw hsz hgl
        go_wp2_with (first
          | (go_at_call 71; (with_reducible refine HE.out.mono ?_); rintro e w' ⟨rfl, rfl⟩)
          | (go_at_call 31; (with_reducible refine HC.out.mono ?_); rintro e w1 ⟨rfl, st2, cs, hp1, hf1, hx1, hs1⟩; obtain ⟨a0, a1, a2, a3, a4, a5, a6, a7, a8, a9, a10, a11, a12, a13, a14, a15, a16, a17, a18, rfl⟩ := lst19 hs1.len; (have hb1 : w1.heap[wr.heap.size]? = some (.cells #[a0, a1, a2, a3, a4, a5, a6, a7, a8, a9, a10, a11, a12, a13, a14, a15, a16, a17, a18] 70 (0, 0)) := hx1); have HLD := Lib.hid (loadO_run (P := Try.prog) 70 _ #[a0, a1, a2, a3, a4, a5, a6, a7, a8, a9, a10, a11, a12, a13, a14, a15, a16, a17, a18] _ hb1 Try.underlying70 rfl (by kernel_rfl)); (have HONE := Lib.hid hs1.one); obtain ⟨A1, c1, hv1, how1, hsz1⟩ := HOW.out w1 hf1; injection hv1 with hv1 _ hv2; subst hv1; subst hv2; (have HOW1 := Lib.hid how1); (have HSZ1 := Lib.hid hsz1); (have HPU := Lib.hid (fun v2 w2 hg => TkR.push (w2 := w2) (v2 := v2) HT.out HGG.out hp1 hf1 hs1 hg)); clear hp1 hf1 hx1 hs1 hb1 how1 hsz1)
          | (refine wpList_loadRun rfl 70 (.tmp 8) rfl _ _ rfl HLD.out ?_)
            | (at_builtin; refine wpList_appK w1 #[a0, a1, a2, a3, a4, a5, a6, a7, a8, a9, a10, a11, a12, a13, a14, a15, a16, a17, a18] 19 (by omega) rfl HONE.out rfl (.tmp 32) (.tmp 34) 32 70 rfl i0 _ 296 Try.underlying32 hi hz0 hz1 hz2 rfl W.heap.size (.slice A0 k c0) k xss.flatten rfl HOW1.out _ rfl rfl (by omega) (by omega) HSZ1.out ?_; intro v3 w3 hg3; obtain ⟨A9, c9, hv9, _⟩ := own_any hg3.own; subst hv9; (have HP := Lib.hid (HPU.out _ _ hg3)); clear hg3))
        go_roundw
        case rel => exact ⟨k + 1, _, _, by omega, by go_num, HP⟩
        case measure => simp [intOf]; omega
    · have e1 : k = m := by omega
      subst e1
      obtain ⟨A, cap, hv, hd⟩ := HT.out.done
      subst hv
      have HD := Lib.hid hd
      clear hd HT
      go_wp2
      go_ret
      exact ⟨_, _, _, _, rfl, HD.out⟩
theorem taken_frames (hF : InS (one1 31) fmR fmC [.int .i64 0, .int .i64 0, .int .i64 0, .int .i64 0, .int .i64 0, .bool false, .int .i64 0, .int .i64 0, .string ⟨#[]⟩, .slice none 0 0, .slice none 0 0, .slice none 0 0, .slice none 0 0, .slice none 0 0, .int .i64 0, .string ⟨#[]⟩, .slice none 0 0, .slice none 0 0, .slice none 0 0]) {W : World} {B0 g gr e : Nat} {form : Bool} {bs : B} {n : Int} (h : PIx W B0 g gr form e bs) (h0 : form = false → e ≠ 0 → n = 0) :
    Calls Try.prog 54 #[.pointer (some ⟨g, 0, none⟩), .int .i64 n, .func (.func 31) #[] #[]] W fun x W' => ∃ A m cap st', x = .returned (.slice A m cap) ∧ TkD fmR (tkN fmC (stE form e bs) n) W B0 g gr W' A m cap st' := by
  have bad : tkN fmC (stE form e bs) n = .error 11 → ∀ {e' : Ending} {W' : World}, e' = .returned (.slice none 0 0) ∧ PI W' B0 g gr (.error 11) ∧ Fr (Ne2 g gr) W W' → ∃ A m cap st', e' = .returned (.slice A m cap) ∧ TkD fmR (tkN fmC (stE form e bs) n) W B0 g gr W' A m cap st' := fun hb e' W' hq =>
    ⟨none, 0, 0, .error 11, hq.1, hq.2.1, hq.2.2, fun k hk => by rw [hb] at hk; injection hk with hk; rw [hk], fun l q hk => by rw [hb] at hk; cases hk⟩
  cases form with
  | true => exact (taken_frames_bad0 (n := n) h).mono fun e' W' hq => bad rfl hq
  | false =>
    by_cases hn0 : n < 0
    · have he : e = 0 := by
        by_cases he : e = 0
        · exact he
        · have := h0 rfl he; omega
      subst he
      exact (taken_frames_bad1 h hn0).mono fun e' W' hq => bad (by unfold tkN stE; simp [hn0]) hq
    · by_cases hn1 : 100000 < n
      · have he : e = 0 := by
          by_cases he : e = 0
          · exact he
          · have := h0 rfl he; omega
        subst he
        exact (taken_frames_bad2 h hn0 hn1).mono fun e' W' hq => bad (by unfold tkN stE; simp [hn1]) hq
      · obtain ⟨m, rfl⟩ := Int.eq_ofNat_of_zero_le (show 0 ≤ n by omega)
        rw [show tkN fmC (stE false e bs) (m : Int) = nxtK fmC m (stE false e bs) from tkN_good _ _ (by omega) (by
          intro k hk
          unfold stE at hk
          by_cases he : e = 0
          · simp [he] at hk
          · have := h0 rfl he; omega)]
        exact taken_frames_good hF h (by omega)
end Ks
end Go.Proofs.Yteljmlodbnfhbaa
