/- A port through which things come in: several numbers. No premises. -/
import Derived.Test.YteljmlodbnfhbaaKz
namespace Go.Proofs.Yteljmlodbnfhbaa
open Go.RowKit
namespace Ks
set_option maxRecDepth 100000
def nxtM (k : Nat) (st : Except Nat B) : Except Nat (List Int × B) := match st with
  | .error e => .error e
  | .ok b => manyG num k b
structure SM (k : Nat) (st st' : Except Nat B) (xs : List Value) : Prop where
  len : xs.length = k
  one : ∀ u ∈ xs, u.oneCell' = true
  bad : ∀ e, nxtM k st = .error e → st' = .error e
  good : ∀ l q, nxtM k st = .ok (l, q) → st' = .ok q ∧ xs = l.map (Value.int .i64 ·) ∧ ∀ x ∈ l, I64 x
theorem SM.zero (st : Except Nat B) : SM 0 st st [] := by
  refine ⟨rfl, fun u hu => absurd hu List.not_mem_nil, fun e h => ?_, fun l q h => ?_⟩
  · cases st with
    | error k => cases h; rfl
    | ok b => cases h
  · cases st with
    | error k => cases h
    | ok b => cases h; exact ⟨rfl, rfl, fun x hx => absurd hx List.not_mem_nil⟩
theorem nxtM_snoc (k : Nat) (st : Except Nat B) : nxtM (k + 1) st = (match nxtM k st with
    | .error e => .error e
    | .ok (l, r) => match num.get r with
      | .error e => .error e
      | .ok (x, r) => .ok (l ++ [x], r)) := by
  cases st with
  | error e => rfl
  | ok b =>
    have h := many_snoc num k b
    show manyG num (k + 1) b = _
    rw [h]
    have e1 : nxtM k (.ok b) = manyG num k b := rfl
    rw [e1]
    cases manyG num k b with
    | error e => rfl
    | ok p =>
      obtain ⟨l, r⟩ := p
      dsimp only
      cases num.get r with
      | error e => rfl
      | ok p => rfl
theorem SM.step {k base : Nat} {w : World} {st st1 st2 : Except Nat B} {xs cs : List Value} (h : SM k st st1 xs) (hs : Stp rnum num base w st1 st2 cs) : SM (k + 1) st st2 (xs ++ cs) := by
  have hst := nxtM_snoc k st
  refine ⟨by rw [List.length_append, h.len, hs.len]; rfl, fun u hu => ?_, fun e he => ?_, fun l q hg => ?_⟩
  · rcases List.mem_append.1 hu with hu | hu
    · exact h.one u hu
    · exact hs.one u hu
  · rw [hst] at he
    cases hk : nxtM k st with
    | error e1 =>
      rw [hk] at he
      cases he
      have := h.bad _ hk
      subst this
      exact hs.bad _ rfl
    | ok p =>
      obtain ⟨l, r⟩ := p
      rw [hk] at he
      obtain ⟨h1, _⟩ := h.good l r hk
      subst h1
      dsimp only at he
      cases hn : num.get r with
      | error e1 => rw [hn] at he; cases he; exact hs.bad _ hn
      | ok p => rw [hn] at he; cases he
  · rw [hst] at hg
    cases hk : nxtM k st with
    | error e1 => rw [hk] at hg; cases hg
    | ok p =>
      obtain ⟨l1, r⟩ := p
      rw [hk] at hg
      obtain ⟨h1, h2, h3⟩ := h.good l1 r hk
      subst h1
      dsimp only at hg
      cases hn : num.get r with
      | error e1 => rw [hn] at hg; cases hg
      | ok p =>
        obtain ⟨x, r2⟩ := p
        rw [hn] at hg
        cases hg
        obtain ⟨h4, h5⟩ := hs.good x _ hn
        obtain ⟨h6, h7⟩ := h5 w (Nat.le_refl _) fun _ _ _ => rfl
        refine ⟨h4, by rw [h2, h6, List.map_append]; rfl, fun y hy => ?_⟩
        rcases List.mem_append.1 hy with hy | hy
        · exact h3 y hy
        · rw [List.mem_singleton.1 hy]; exact h7
theorem numsC_get : ∀ (n : Nat) (b : B), (∀ e, (numsC n).get b = .error e → manyG num (n + 1) b = .error e) ∧ ∀ a q, (numsC n).get b = .ok (a, q) → manyG num (n + 1) b = .ok (numsL n a, q)
  | 0, b => by
    have e1 : (numsC 0).get b = num.get b := rfl
    rw [e1, manyG]
    cases hc : num.get b with
    | error e => exact ⟨fun e h => (by cases h; rfl), fun a q h => by cases h⟩
    | ok p => exact ⟨fun e h => (by cases h), fun a q h => by cases h; rfl⟩
  | n + 1, b => by
    have e1 : (numsC (n + 1)).get b = seqG num (numsC n) b := rfl
    rw [e1, manyG]
    unfold seqG
    cases hc : num.get b with
    | error e => exact ⟨fun e h => (by cases h; rfl), fun a q h => by cases h⟩
    | ok p =>
      obtain ⟨x, r⟩ := p
      dsimp only
      obtain ⟨h1, h2⟩ := numsC_get n r
      cases hn : (numsC n).get r with
      | error e => exact ⟨fun e h => (by cases h; rw [h1 _ hn]), fun a q h => by cases h⟩
      | ok p => exact ⟨fun e h => (by cases h), fun a q h => by cases h; rw [h2 _ _ hn]; rfl⟩
theorem numsR_C' : ∀ (n : Nat) {w : World} {N : Nat} {a : numsT n}, (∀ x ∈ numsL n a, I64 x) → (numsR n).C w N ((numsL n a).map (Value.int .i64 ·)) a
  | 0, _, _, a, h => ⟨rfl, h a (List.mem_singleton.2 rfl)⟩
  | n + 1, w, N, a, h => ⟨[.int .i64 a.1], (numsL n a.2).map (Value.int .i64 ·), rfl, ⟨rfl, h _ (List.mem_cons_self ..)⟩, numsR_C' n fun x hx => h x (List.mem_cons_of_mem _ hx)⟩
theorem SM.done {n base : Nat} {w : World} {st st' : Except Nat B} {xs : List Value} (h : SM (n + 1) st st' xs) : Stp (numsR n) (numsC n) base w st st' xs := by
  refine ⟨by rw [h.len, numsR_wd], h.one, fun e he => h.bad e ?_, fun a q hg => ?_⟩
  · cases st with
    | error e1 => cases he; rfl
    | ok b => exact (numsC_get n b).1 e he
  · have hg2 : nxtM (n + 1) st = .ok (numsL n a, q) := by
      cases st with
      | error e1 => cases hg
      | ok b => exact (numsC_get n b).2 a q hg
    obtain ⟨h1, h2, h3⟩ := h.good _ _ hg2
    exact ⟨h1, fun v _ _ => by rw [h2]; exact numsR_C' n h3⟩

theorem ints_in (n : Nat) (hn : n ≤ 10) {W : World} {B0 g gr bx o A c : Nat} {st : Except Nat B} {pre post : List Value} {ty : TypeId} (hp : PI W B0 g gr st) (ho : o = pre.length) (hx : W.heap[bx]? = some (.cells (pre ++ List.replicate n (Value.int .i64 0) ++ post).toArray ty (0, 0))) (hb : B0 ≤ bx) (hne : bx ≠ g)
    (hA : ∀ k, k < n → W.cell? ⟨A, k, none⟩ = some (.pointer (some ⟨bx, o + k, none⟩))) (hA1 : Ne3 g gr bx A) :
    Calls Try.prog 36 #[.pointer (some ⟨g, 0, none⟩), .slice (some ⟨A, 0, none⟩) n c] W fun r W' => r = .returned (.tuple #[]) ∧ ∃ st' xs, PI W' B0 g gr st' ∧ Fr (Ne3 g gr bx) W W' ∧ W'.heap[bx]? = some (.cells (pre ++ xs ++ post).toArray ty (0, 0)) ∧ SM n st st' xs := by
  have HP := Lib.hid hp
  have HO := Lib.hid ho
  have HX := Lib.hid hx
  have HB := Lib.hid hb
  have HNE := Lib.hid hne
  have HA := Lib.hid hA
  have HA1 := Lib.hid hA1
  clear hp ho hx hb hne hA hA1
  go_enter Try.func36, Try.ntmps36
  go_wp2_with fail
  go_loopw [5, 8] (fun _ i wr => ∃ (k : Nat) (sk : Except Nat B) (xs : List Value), k ≤ n ∧ i = .int .i64 (k : Int) ∧ PI wr B0 g gr sk ∧ Fr (Ne3 g gr bx) W wr ∧ wr.heap[bx]? = some (.cells (pre ++ xs ++ (List.replicate (n - k) (Value.int .i64 0) ++ post)).toArray ty (0, 0)) ∧ SM k st sk xs) (fun _ i _ => n - (intOf i).toNat)
  case atStart => exact ⟨0, st, [], by omega, rfl, HP.out, Fr.refl _ _, by rw [HX.out]; simp, SM.zero st⟩
  case round =>
    obtain ⟨k, sk, xs, hk, rfl, hpi, hf, hh, hsm⟩ := hrel
    by_cases hlt : k < n
    · have q1 : wr.cell? ⟨A, k, none⟩ = some (.pointer (some ⟨bx, o + k, none⟩)) := (fr_cell hf HA1.out (HA.out k hlt)).trans (HA.out k hlt)
      have HC := Lib.hid (in_int.go (Q := fun W' => ∃ st' cs, PI W' B0 g gr st' ∧ Fr (Ne3 g gr bx) wr W' ∧ W'.heap[bx]? = some (.cells ((pre ++ xs) ++ cs ++ (List.replicate (n - (k + 1)) (Value.int .i64 0) ++ post)).toArray ty (0, 0)) ∧ Stp rnum num wr.heap.size W' sk st' cs) (pre := pre ++ xs) (post := List.replicate (n - (k + 1)) (Value.int .i64 0) ++ post) (o := o + k) (ty := ty) hpi (by rw [List.length_append, hsm.len, HO.out])
        (by rw [hh, show n - k = (n - (k + 1)) + 1 by omega, List.replicate_succ]; simp) HB.out HNE.out fun W' st' cs h1 h2 h3 h4 => ⟨st', cs, h1, h2, h3, h4⟩)
      have HF := Lib.hid hf
      have HSM := Lib.hid hsm
      have hk1 : (0 : Int) ≤ (k : Int) := by omega
      have hk2 : (k : Int) < (n : Int) := by omega
      clear hpi hf hh hsm
      unfold one1 at HC
      go_wp2_with (go_at_call 35; (with_reducible refine HC.out.mono ?_); rintro e w1 ⟨rfl, hq⟩; have HQ := Lib.hid hq; clear hq)
      go_roundw
      case rel =>
        obtain ⟨st', cs, h1, h2, h3, h4⟩ := HQ.out
        exact ⟨k + 1, st', xs ++ cs, by omega, by go_num, h1, HF.out.trans h2, by rw [h3]; simp, HSM.out.step h4⟩
      case measure => simp [intOf]; omega
    · have e : n - k = 0 := by omega
      have e2 : k = n := by omega
      rw [e] at hh
      rw [e2] at hsm
      have H1 := Lib.hid (show ∃ st' xs, PI wr B0 g gr st' ∧ Fr (Ne3 g gr bx) W wr ∧ wr.heap[bx]? = some (.cells (pre ++ xs ++ post).toArray ty (0, 0)) ∧ SM n st st' xs from ⟨sk, xs, hpi, hf, by simpa using hh, hsm⟩)
      clear hpi hf hh hsm e e2
      go_wp2
      go_end0
      exact ⟨rfl, H1.out⟩
theorem in_ints (n : Nat) (hn : n < 10) : InS (many1 36 111 (n + 1)) (numsR n) (numsC n) (List.replicate (n + 1) (Value.int .i64 0)) :=
  ⟨by rw [List.length_replicate, numsR_wd], fun {W B0 g gr bx o st pre post ty Q} hp ho hx hb hne hq => by
    have hl := (Later.drew W).trans (Later.alloc W.drew (.cells (ptrs bx o 0 (n + 1)).toArray 111))
    have hn1 := heap_alloc_new W.drew (.cells (ptrs bx o 0 (n + 1)).toArray 111)
    have hg := hp.g
    have hbl := lt_of_block hx
    refine (ints_in (n + 1) (by omega) (c := n + 1) (A := W.heap.size) (hp.later hl) ho (later_cells hl hx) hb hne (fun k hk => ?_) ⟨by omega, by omega, by omega⟩).mono fun r W' h => ⟨h.1, ?_⟩
    · have h9 := (cell_row hn1 k).1
      rw [show W.heap.size = W.drew.heap.size from rfl, h9]
      have h8 := ptrs_at bx o (n + 1) 0 k hk
      rw [Nat.zero_add] at h8
      simpa using h8
    · obtain ⟨_, st', xs, h1, h2, h3, h4⟩ := h
      have h4' := h4.done (base := W.heap.size) (w := W')
      exact hq W' st' xs h1 ((Fr.later hl).trans h2) h3 h4'⟩
theorem int64s_in (n : Nat) (hn : n ≤ 10) {W : World} {B0 g gr bx o A c : Nat} {st : Except Nat B} {pre post : List Value} {ty : TypeId} (hp : PI W B0 g gr st) (ho : o = pre.length) (hx : W.heap[bx]? = some (.cells (pre ++ List.replicate n (Value.int .i64 0) ++ post).toArray ty (0, 0))) (hb : B0 ≤ bx) (hne : bx ≠ g)
    (hA : ∀ k, k < n → W.cell? ⟨A, k, none⟩ = some (.pointer (some ⟨bx, o + k, none⟩))) (hA1 : Ne3 g gr bx A) :
    Calls Try.prog 55 #[.pointer (some ⟨g, 0, none⟩), .slice (some ⟨A, 0, none⟩) n c] W fun r W' => r = .returned (.tuple #[]) ∧ ∃ st' xs, PI W' B0 g gr st' ∧ Fr (Ne3 g gr bx) W W' ∧ W'.heap[bx]? = some (.cells (pre ++ xs ++ post).toArray ty (0, 0)) ∧ SM n st st' xs := by
  have HP := Lib.hid hp
  have HO := Lib.hid ho
  have HX := Lib.hid hx
  have HB := Lib.hid hb
  have HNE := Lib.hid hne
  have HA := Lib.hid hA
  have HA1 := Lib.hid hA1
  clear hp ho hx hb hne hA hA1
  go_enter Try.func55, Try.ntmps55
  go_wp2_with fail
  go_loopw [5, 8] (fun _ i wr => ∃ (k : Nat) (sk : Except Nat B) (xs : List Value), k ≤ n ∧ i = .int .i64 (k : Int) ∧ PI wr B0 g gr sk ∧ Fr (Ne3 g gr bx) W wr ∧ wr.heap[bx]? = some (.cells (pre ++ xs ++ (List.replicate (n - k) (Value.int .i64 0) ++ post)).toArray ty (0, 0)) ∧ SM k st sk xs) (fun _ i _ => n - (intOf i).toNat)
  case atStart => exact ⟨0, st, [], by omega, rfl, HP.out, Fr.refl _ _, by rw [HX.out]; simp, SM.zero st⟩
  case round =>
    obtain ⟨k, sk, xs, hk, rfl, hpi, hf, hh, hsm⟩ := hrel
    by_cases hlt : k < n
    · have q1 : wr.cell? ⟨A, k, none⟩ = some (.pointer (some ⟨bx, o + k, none⟩)) := (fr_cell hf HA1.out (HA.out k hlt)).trans (HA.out k hlt)
      have HC := Lib.hid (in_int64.go (Q := fun W' => ∃ st' cs, PI W' B0 g gr st' ∧ Fr (Ne3 g gr bx) wr W' ∧ W'.heap[bx]? = some (.cells ((pre ++ xs) ++ cs ++ (List.replicate (n - (k + 1)) (Value.int .i64 0) ++ post)).toArray ty (0, 0)) ∧ Stp rnum num wr.heap.size W' sk st' cs) (pre := pre ++ xs) (post := List.replicate (n - (k + 1)) (Value.int .i64 0) ++ post) (o := o + k) (ty := ty) hpi (by rw [List.length_append, hsm.len, HO.out])
        (by rw [hh, show n - k = (n - (k + 1)) + 1 by omega, List.replicate_succ]; simp) HB.out HNE.out fun W' st' cs h1 h2 h3 h4 => ⟨st', cs, h1, h2, h3, h4⟩)
      have HF := Lib.hid hf
      have HSM := Lib.hid hsm
      have hk1 : (0 : Int) ≤ (k : Int) := by omega
      have hk2 : (k : Int) < (n : Int) := by omega
      clear hpi hf hh hsm
      unfold one1 at HC
      go_wp2_with (go_at_call 57; (with_reducible refine HC.out.mono ?_); rintro e w1 ⟨rfl, hq⟩; have HQ := Lib.hid hq; clear hq)
      go_roundw
      case rel =>
        obtain ⟨st', cs, h1, h2, h3, h4⟩ := HQ.out
        exact ⟨k + 1, st', xs ++ cs, by omega, by go_num, h1, HF.out.trans h2, by rw [h3]; simp, HSM.out.step h4⟩
      case measure => simp [intOf]; omega
    · have e : n - k = 0 := by omega
      have e2 : k = n := by omega
      rw [e] at hh
      rw [e2] at hsm
      have H1 := Lib.hid (show ∃ st' xs, PI wr B0 g gr st' ∧ Fr (Ne3 g gr bx) W wr ∧ wr.heap[bx]? = some (.cells (pre ++ xs ++ post).toArray ty (0, 0)) ∧ SM n st st' xs from ⟨sk, xs, hpi, hf, by simpa using hh, hsm⟩)
      clear hpi hf hh hsm e e2
      go_wp2
      go_end0
      exact ⟨rfl, H1.out⟩
theorem in_int64s (n : Nat) (hn : n < 10) : InS (many1 55 153 (n + 1)) (numsR n) (numsC n) (List.replicate (n + 1) (Value.int .i64 0)) :=
  ⟨by rw [List.length_replicate, numsR_wd], fun {W B0 g gr bx o st pre post ty Q} hp ho hx hb hne hq => by
    have hl := (Later.drew W).trans (Later.alloc W.drew (.cells (ptrs bx o 0 (n + 1)).toArray 153))
    have hn1 := heap_alloc_new W.drew (.cells (ptrs bx o 0 (n + 1)).toArray 153)
    have hg := hp.g
    have hbl := lt_of_block hx
    refine (int64s_in (n + 1) (by omega) (c := n + 1) (A := W.heap.size) (hp.later hl) ho (later_cells hl hx) hb hne (fun k hk => ?_) ⟨by omega, by omega, by omega⟩).mono fun r W' h => ⟨h.1, ?_⟩
    · have h9 := (cell_row hn1 k).1
      rw [show W.heap.size = W.drew.heap.size from rfl, h9]
      have h8 := ptrs_at bx o (n + 1) 0 k hk
      rw [Nat.zero_add] at h8
      simpa using h8
    · obtain ⟨_, st', xs, h1, h2, h3, h4⟩ := h
      have h4' := h4.done (base := W.heap.size) (w := W')
      exact hq W' st' xs h1 ((Fr.later hl).trans h2) h3 h4'⟩
end Ks
end Go.Proofs.Yteljmlodbnfhbaa
