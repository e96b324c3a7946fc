/- Functions that take a thing in through a port: one behind the other. No premises. -/
import Derived.Test.YteljmlodbnfhbaaKy
namespace Go.Proofs.Yteljmlodbnfhbaa
open Go.RowKit
namespace Ks
set_option maxRecDepth 100000
/-- What comes next. -/
def nxt {α : Type} (c : Cd α) (st : Except Nat B) : Except Nat (α × B) := match st with
  | .error k => .error k
  | .ok b => c.get b
/-- Cells bear a thing, whatever becomes of blocks below base. -/
def Lst {α : Type} (r : Rp α) (base : Nat) (w : World) (cs : List Value) (a : α) : Prop := ∀ v : World, w.heap.size ≤ v.heap.size → (∀ k, base ≤ k → k < w.heap.size → v.heap[k]? = w.heap[k]?) → r.C v v.heap.size cs a
theorem Lst.low {α : Type} {r : Rp α} {base base' : Nat} {w : World} {cs : List Value} {a : α} (h : Lst r base w cs a) (hb : base' ≤ base) : Lst r base' w cs a := fun v hv hk => h v hv fun k h1 h2 => hk k (by omega) h2
theorem Lst.next {α : Type} {r : Rp α} {base : Nat} {w w2 : World} {cs : List Value} {a : α} (h : Lst r base w cs a) (hs : w.heap.size ≤ w2.heap.size) (hk : ∀ k, base ≤ k → k < w.heap.size → w2.heap[k]? = w.heap[k]?) : Lst r base w2 cs a := fun v hv hv2 =>
  h v (Nat.le_trans hs hv) fun k h1 h2 => (hv2 k h1 (Nat.lt_of_lt_of_le h2 hs)).trans (hk k h1 h2)
/-- What a step leaves in the cells, and what is still to come. -/
structure Stp {α : Type} (r : Rp α) (c : Cd α) (base : Nat) (w : World) (st st' : Except Nat B) (cs : List Value) : Prop where
  len : cs.length = r.wd
  one : ∀ u ∈ cs, u.oneCell' = true
  bad : ∀ k, nxt c st = .error k → st' = .error k
  good : ∀ a q, nxt c st = .ok (a, q) → st' = .ok q ∧ Lst r base w cs a
theorem Stp.seq {α β : Type} {r : Rp α} {s : Rp β} {c : Cd α} {d : Cd β} {base b2 : Nat} {w1 w2 : World} {st st1 st2 : Except Nat B} {cs1 cs2 : List Value} (h1 : Stp r c base w1 st st1 cs1) (h2 : Stp s d b2 w2 st1 st2 cs2) (hb : base ≤ b2) (hs : w1.heap.size ≤ w2.heap.size) (hk : ∀ k, base ≤ k → k < w1.heap.size → w2.heap[k]? = w1.heap[k]?) : Stp (rseq r s) (Ks.seq c d) base w2 st st2 (cs1 ++ cs2) := by
  refine ⟨by rw [List.length_append, h1.len, h2.len]; rfl, fun u hu => ?_, fun k hk1 => ?_, fun a q hg => ?_⟩
  · rcases List.mem_append.1 hu with hu | hu
    · exact h1.one u hu
    · exact h2.one u hu
  · cases st with
    | error e =>
      have := h1.bad e rfl
      subst this
      have hk1 : (Except.error e : Except Nat ((α × β) × B)) = .error k := hk1
      have := h2.bad e rfl
      injection hk1 with hk1
      rw [← hk1]; exact this
    | ok b =>
      have hk1 : seqG c d b = .error k := hk1
      unfold seqG at hk1
      cases hc : c.get b with
      | error e =>
        rw [hc] at hk1
        have h3 := h1.bad e hc
        subst h3
        have := h2.bad e rfl
        injection hk1 with hk1
        rw [← hk1]; exact this
      | ok p =>
        obtain ⟨x, r1⟩ := p
        obtain ⟨h3, _⟩ := h1.good x r1 hc
        subst h3
        rw [hc] at hk1
        dsimp only at hk1
        cases hd : d.get r1 with
        | error e =>
          rw [hd] at hk1
          injection hk1 with hk1
          rw [← hk1]; exact h2.bad e hd
        | ok p => rw [hd] at hk1; cases hk1
  · cases st with
    | error e => cases hg
    | ok b =>
      have hg : seqG c d b = .ok (a, q) := hg
      unfold seqG at hg
      cases hc : c.get b with
      | error e => rw [hc] at hg; cases hg
      | ok p =>
        obtain ⟨x, r1⟩ := p
        obtain ⟨h3, h4⟩ := h1.good x r1 hc
        subst h3
        rw [hc] at hg
        dsimp only at hg
        cases hd : d.get r1 with
        | error e => rw [hd] at hg; cases hg
        | ok p =>
          obtain ⟨y, r2⟩ := p
          rw [hd] at hg
          cases hg
          obtain ⟨h5, h6⟩ := h2.good y _ hd
          exact ⟨h5, fun v hv hvk => ⟨cs1, cs2, rfl, (h4.next hs hk) v hv hvk, (h6.low hb) v hv hvk⟩⟩
/-- A step that takes a thing in, into cells that are as they are made. -/
structure InS {α : Type} (K : Nat → Nat → Nat → World → (World → Prop) → Prop) (r : Rp α) (c : Cd α) (z : List Value) : Prop where
  wd : z.length = r.wd
  go : ∀ {W : World} {B0 g gr bx o : Nat} {st : Except Nat B} {pre post : List Value} {ty : TypeId} {Q : World → Prop}, PI W B0 g gr st → o = pre.length → W.heap[bx]? = some (.cells (pre ++ z ++ post).toArray ty (0, 0)) → B0 ≤ bx → bx ≠ g →
    (∀ (W' : World) (st' : Except Nat B) (cs : List Value), PI W' B0 g gr st' → Fr (Ne3 g gr bx) W W' → W'.heap[bx]? = some (.cells (pre ++ cs ++ post).toArray ty (0, 0)) → Stp r c W.heap.size W' st st' cs → Q W') → K g bx o W Q
def shI (cs : List Value) : Prop := ∃ y : Int, cs = [Value.int .i64 y]
def shT (cs : List Value) : Prop := ∃ y : ByteArray, cs = [Value.string y]
/-- The same, and what the cells look like. -/
structure InT {α : Type} (K : Nat → Nat → Nat → World → (World → Prop) → Prop) (r : Rp α) (c : Cd α) (z : List Value) (Sh : List Value → Prop) : Prop where
  wd : z.length = r.wd
  go : ∀ {W : World} {B0 g gr bx o : Nat} {st : Except Nat B} {pre post : List Value} {ty : TypeId} {Q : World → Prop}, PI W B0 g gr st → o = pre.length → W.heap[bx]? = some (.cells (pre ++ z ++ post).toArray ty (0, 0)) → B0 ≤ bx → bx ≠ g →
    (∀ (W' : World) (st' : Except Nat B) (cs : List Value), PI W' B0 g gr st' → Fr (Ne3 g gr bx) W W' → W'.heap[bx]? = some (.cells (pre ++ cs ++ post).toArray ty (0, 0)) → Stp r c W.heap.size W' st st' cs → Sh cs → Q W') → K g bx o W Q
theorem InT.s {α : Type} {K : Nat → Nat → Nat → World → (World → Prop) → Prop} {r : Rp α} {c : Cd α} {z : List Value} {Sh : List Value → Prop} (h : InT K r c z Sh) : InS K r c z := ⟨h.wd, fun hp ho hx hb hne hq => h.go hp ho hx hb hne fun W' st' cs h1 h2 h3 h4 _ => hq W' st' cs h1 h2 h3 h4⟩
theorem PI.g {W : World} {B0 g gr : Nat} {st : Except Nat B} (h : PI W B0 g gr st) : g < W.heap.size ∧ gr < W.heap.size ∧ gr < B0 ∧ B0 ≤ g := by
  obtain ⟨form, e, bs, h, _⟩ := h
  have := h.lt
  have := h.ge
  have := lt_of_block h.box
  omega
theorem InS.seq {α β : Type} {K1 K2 : Nat → Nat → Nat → World → (World → Prop) → Prop} {r : Rp α} {s : Rp β} {c : Cd α} {d : Cd β} {z1 z2 : List Value} (h1 : InS K1 r c z1) (h2 : InS K2 s d z2) {wd : Nat} (hw : wd = r.wd) : InS (then_ K1 K2 wd) (rseq r s) (Ks.seq c d) (z1 ++ z2) := by
  subst hw
  refine ⟨by rw [List.length_append, h1.wd, h2.wd]; rfl, fun {W B0 g gr bx o st pre post ty Q} hp ho hx hb hne hq => ?_⟩
  refine h1.go (post := z2 ++ post) (ty := ty) hp ho (by rw [hx]; simp only [List.append_assoc]) hb hne fun W1 st1 cs1 hp1 f1 hx1 s1 => ?_
  refine h2.go (pre := pre ++ cs1) (post := post) (ty := ty) hp1 (by rw [List.length_append, s1.len, ho]) (by rw [hx1]; simp only [List.append_assoc]) hb hne fun W2 st2 cs2 hp2 f2 hx2 s2 => ?_
  refine hq W2 st2 (cs1 ++ cs2) hp2 (f1.trans f2) (by rw [hx2]; simp only [List.append_assoc]) (s1.seq s2 f1.size f2.size fun k hk hk2 => ?_)
  have hg := hp.g
  have hbl := lt_of_block hx
  exact f2.block k hk2 ⟨by omega, by omega, by omega⟩
theorem Stp.iso {α β : Type} {r : Rp α} {c : Cd α} {f : α → β} {g : β → α} {h1 : ∀ a, g (f a) = a} {h2 : ∀ b, f (g b) = b} {base : Nat} {w : World} {st st' : Except Nat B} {cs : List Value} (h : Stp r c base w st st' cs) : Stp (riso r g) (Ks.iso c f g h1 h2) base w st st' cs := by
  refine ⟨h.len, h.one, fun k hk => h.bad k ?_, fun a q hg => ?_⟩
  · cases st with
    | error e => cases hk; rfl
    | ok b =>
      have hk : isoG c f b = .error k := hk
      unfold isoG at hk
      show c.get b = .error k
      cases hc : c.get b with
      | error e => rw [hc] at hk; cases hk; rfl
      | ok p => rw [hc] at hk; cases hk
  · cases st with
    | error e => cases hg
    | ok b =>
      have hg : isoG c f b = .ok (a, q) := hg
      unfold isoG at hg
      cases hc : c.get b with
      | error e => rw [hc] at hg; cases hg
      | ok p =>
        obtain ⟨x, r1⟩ := p
        rw [hc] at hg
        cases hg
        obtain ⟨h3, h4⟩ := h.good x _ hc
        refine ⟨h3, fun v hv hk => ?_⟩
        show r.C v _ cs (g (f x))
        rw [h1]; exact h4 v hv hk
theorem InS.iso {α β : Type} {K : Nat → Nat → Nat → World → (World → Prop) → Prop} {r : Rp α} {c : Cd α} {f : α → β} {g : β → α} {h1 : ∀ a, g (f a) = a} {h2 : ∀ b, f (g b) = b} {z : List Value} (h : InS K r c z) : InS K (riso r g) (Ks.iso c f g h1 h2) z :=
  ⟨h.wd, fun hp ho hx hb hne hq => h.go hp ho hx hb hne fun W' st' cs h1 h2 h3 h4 => hq W' st' cs h1 h2 h3 h4.iso⟩
theorem InS.imp {α : Type} {K K' : Nat → Nat → Nat → World → (World → Prop) → Prop} {r : Rp α} {c : Cd α} {z : List Value} (h : InS K r c z) (hk : ∀ (g bs o : Nat) (W : World) (Q : World → Prop), K g bs o W (fun w => Ending.returned (.tuple #[]) = .returned (.tuple #[]) ∧ Q w) → K' g bs o W Q) : InS K' r c z :=
  ⟨h.wd, fun hp ho hx hb hne hq => hk _ _ _ _ _ (h.go hp ho hx hb hne fun W' st' cs h1 h2 h3 h4 => ⟨rfl, hq W' st' cs h1 h2 h3 h4⟩)⟩
/-- So many numbers, and what stands behind, come in. -/
theorem appC_get {σ : Type} {d : Cd σ} : ∀ (n : Nat) (b : B), (∀ k, (appC d n).get b = .error k → (Ks.seq (numsC n) d).get b = .error k) ∧ ∀ a q, (appC d n).get b = .ok (a, q) → (Ks.seq (numsC n) d).get b = .ok (split n a, q)
  | 0, b => ⟨fun _ h => h, fun _ _ h => h⟩
  | n + 1, b => by
    have e1 : (appC d (n + 1)).get b = seqG num (appC d n) b := rfl
    have e2 : (Ks.seq (numsC (n + 1)) d).get b = seqG (Ks.seq num (numsC n)) d b := rfl
    rw [e1, e2]
    unfold seqG
    have e3 : (Ks.seq num (numsC n)).get b = seqG num (numsC n) b := rfl
    rw [e3]
    unfold seqG
    cases hc : num.get b with
    | error e => exact ⟨fun k h => by cases h; rfl, fun a q h => by cases h⟩
    | ok p =>
      obtain ⟨x, r1⟩ := p
      dsimp only
      obtain ⟨h1, h2⟩ := appC_get (d := d) n r1
      have e4 : (Ks.seq (numsC n) d).get r1 = seqG (numsC n) d r1 := rfl
      rw [e4] at h1 h2
      unfold seqG at h1 h2
      cases hg : (appC d n).get r1 with
      | error e =>
        have h3 := h1 e hg
        refine ⟨fun k h => ?_, fun a q h => by cases h⟩
        cases h
        cases hn : (numsC n).get r1 with
        | error e5 => rw [hn] at h3; injection h3 with h3; subst h3; rfl
        | ok p =>
          rw [hn] at h3
          dsimp only at h3 ⊢
          cases hd : d.get p.2 with
          | error e6 => rw [hd] at h3; cases h3; rfl
          | ok p2 => rw [hd] at h3; cases h3
      | ok p2 =>
        obtain ⟨y, r2⟩ := p2
        have h3 := h2 y r2 hg
        refine ⟨fun k h => (by cases h), fun a q h => ?_⟩
        cases h
        cases hn : (numsC n).get r1 with
        | error e5 => rw [hn] at h3; cases h3
        | ok p =>
          rw [hn] at h3
          dsimp only at h3 ⊢
          cases hd : d.get p.2 with
          | error e6 => rw [hd] at h3; cases h3
          | ok p3 =>
            rw [hd] at h3
            dsimp only at h3 ⊢
            injection h3 with h3
            injection h3 with h3 h4
            rw [h4]
            congr 2
            show ((x, p.1), p3.1) = ((x, (split n y).1), (split n y).2)
            rw [← h3]
theorem appR_C' {σ : Type} {s : Rp σ} : ∀ (n : Nat) {w : World} {N : Nat} {cs : List Value} {a : appT n σ}, (rseq (numsR n) s).C w N cs (split n a) → (appR s n).C w N cs a
  | 0, _, _, _, _, h => h
  | n + 1, w, N, cs, a, h => by
    obtain ⟨c1, c2, rfl, ⟨c3, c4, rfl, h1, h2⟩, h3⟩ := h
    exact ⟨c3, c4 ++ c2, List.append_assoc _ _ _, h1, appR_C' n ⟨c4, c2, rfl, h2, h3⟩⟩
theorem appR_wd {σ : Type} {s : Rp σ} : ∀ n, (appR s n).wd = (rseq (numsR n) s).wd
  | 0 => rfl
  | n + 1 => by
    have h1 : (appR s (n + 1)).wd = 1 + (appR s n).wd := rfl
    rw [h1, appR_wd n]
    exact (Nat.add_assoc 1 (numsR n).wd s.wd).symm
theorem InS.flat {σ : Type} {K : Nat → Nat → Nat → World → (World → Prop) → Prop} {s : Rp σ} {d : Cd σ} {n : Nat} {z : List Value} (h : InS K (rseq (numsR n) s) (Ks.seq (numsC n) d) z) : InS K (appR s n) (appC d n) z :=
  ⟨h.wd.trans (appR_wd n).symm, fun {W B0 g gr bx o st pre post ty Q} hp ho hx hb hne hq => h.go hp ho hx hb hne fun W' st' cs h1 h2 h3 h4 => hq W' st' cs h1 h2 h3
    ⟨h4.len.trans (appR_wd n).symm, h4.one, fun k hk => h4.bad k (by
      cases st with
      | error e => cases hk; rfl
      | ok b => exact (appC_get n b).1 k hk), fun a q hg => by
      have hg2 : nxt (Ks.seq (numsC n) d) st = .ok (split n a, q) := by
        cases st with
        | error e => cases hg
        | ok b => exact (appC_get n b).2 a q hg
      obtain ⟨h5, h6⟩ := h4.good _ _ hg2
      exact ⟨h5, fun v hv hk => appR_C' n (h6 v hv hk)⟩⟩⟩
theorem set_mid (pre post : List Value) (z v : Value) : (pre ++ [z] ++ post).toArray.setIfInBounds pre.length v = (pre ++ [v] ++ post).toArray := by
  simp [List.setIfInBounds_toArray]
theorem mid_size (pre post : List Value) (z : Value) : pre.length < (pre ++ [z] ++ post).toArray.size := by simp
theorem mid_at (pre post : List Value) (z : Value) : (pre ++ [z] ++ post).toArray[pre.length]? = some z := by simp
theorem num_nxt (form : Bool) (e : Nat) (bs : B) : (∀ k, nxt num (stE form e bs) = .error k → stE form (numR bs e).2.2 (numR bs e).2.1 = .error k) ∧ ∀ x q, nxt num (stE form e bs) = .ok (x, q) → stE form (numR bs e).2.2 (numR bs e).2.1 = .ok q ∧ x = zagOf (numR bs e).1 ∧ form = false ∧ e = 0 := by
  cases form with
  | true => exact ⟨fun k h => by cases h; rfl, fun x q h => by cases h⟩
  | false =>
    by_cases he : e = 0
    · subst he
      have e1 : nxt num (stE false 0 bs) = numG bs := rfl
      rw [e1]
      unfold numG stE
      by_cases h0 : (numR bs 0).2.2 = 0
      · rw [if_pos h0]
        refine ⟨fun k h => (by cases h), fun x q h => ?_⟩
        simp only [Except.ok.injEq, Prod.mk.injEq] at h
        rw [if_neg (by simp), if_pos h0, h.2]
        exact ⟨rfl, h.1.symm, rfl, rfl⟩
      · rw [if_neg h0]
        refine ⟨fun k h => ?_, fun x q h => by cases h⟩
        injection h with h
        rw [if_neg (by simp), if_neg h0, h]
    · have e1 : nxt num (stE false e bs) = .error e := by simp [stE, he, nxt]
      have e2 : numR bs e = (0, bs, e) := by simp [numR, he]
      rw [e1, e2]
      refine ⟨fun k h => ?_, fun x q h => by cases h⟩
      injection h with h
      subst h
      simp [stE, he]
theorem zag_I (x : Nat) (h : x < 18446744073709551616) : I64 (zagOf x) := zag_lo x h
theorem in_num {F : FuncId} (hF : ∀ {W : World} {B0 g gr bx o e : Nat} {form : Bool} {bs : B} {xs : Array Value} {ty : TypeId} (_ : PIx W B0 g gr form e bs) (_ : W.heap[bx]? = some (.cells xs ty (0, 0))) (_ : o < xs.size) (_ : B0 ≤ bx) (_ : bx ≠ g),
    Calls Try.prog F #[.pointer (some ⟨g, 0, none⟩), .pointer (some ⟨bx, o, none⟩)] W fun r W' => r = .returned (.tuple #[]) ∧ PIx W' B0 g gr form (numR bs e).2.2 (numR bs e).2.1 ∧ W'.heap[bx]? = some (.cells (xs.setIfInBounds o (.int .i64 (zagOf (numR bs e).1))) ty (0, 0)) ∧ Fr (Ne3 g gr bx) W W') : InT (one1 F) rnum num [.int .i64 0] shI :=
  ⟨rfl, fun {W B0 g gr bx o st pre post ty Q} hp ho hx hb hne hq => by
    obtain ⟨form, e, bs, h, rfl⟩ := hp
    subst ho
    refine (hF h hx (mid_size _ _ _) hb hne).mono fun r W' h2 => ⟨h2.1, ?_⟩
    obtain ⟨_, h3, h4, h5⟩ := h2
    rw [set_mid] at h4
    obtain ⟨n1, n2⟩ := num_nxt form e bs
    refine hq W' _ _ ⟨form, _, _, h3, rfl⟩ h5 h4 ⟨rfl, fun u hu => by rw [List.mem_singleton.1 hu]; rfl, n1, fun a q hg => ?_⟩ ⟨_, rfl⟩
    obtain ⟨h6, h7, _⟩ := n2 a q hg
    exact ⟨h6, fun v _ _ => ⟨by rw [h7], by rw [h7]; exact zag_I _ (numR_lt bs e)⟩⟩⟩
theorem inT_int : InT (one1 35) rnum num [.int .i64 0] shI := in_num int_in
theorem inT_int64 : InT (one1 57) rnum num [.int .i64 0] shI := in_num int64_in
theorem in_int : InS (one1 35) rnum num [.int .i64 0] := (in_num int_in).s
theorem in_int64 : InS (one1 57) rnum num [.int .i64 0] := (in_num int64_in).s
theorem in_errno : InS (one1 38) rnum num [.int .i64 0] := (in_num errno_in).s
theorem text_le (bs : B) (e : Nat) : (textR bs e).1.length ≤ bs.length := by
  unfold textR
  dsimp only
  have h1 : (numR bs e).2.1.length ≤ bs.length := by
    unfold numR
    split
    · exact Nat.le_refl _
    · simp
  split
  · simp
  · split
    · simp
    · simp only [List.length_take]; omega
theorem txt_nxt (form : Bool) (e : Nat) (bs : B) : (∀ k, nxt txt (stE form e bs) = .error k → stE form (textR bs e).2.2 (textR bs e).2.1 = .error k) ∧ ∀ x q, nxt txt (stE form e bs) = .ok (x, q) → stE form (textR bs e).2.2 (textR bs e).2.1 = .ok q ∧ x = (textR bs e).1 := by
  cases form with
  | true => exact ⟨fun k h => by cases h; rfl, fun x q h => by cases h⟩
  | false =>
    by_cases he : e = 0
    · subst he
      have e1 : nxt txt (stE false 0 bs) = txtG bs := rfl
      rw [e1]
      unfold txtG stE
      by_cases h0 : (textR bs 0).2.2 = 0
      · rw [if_pos h0]
        refine ⟨fun k h => (by cases h), fun x q h => ?_⟩
        simp only [Except.ok.injEq, Prod.mk.injEq] at h
        rw [if_neg (by simp), if_pos h0, h.2]
        exact ⟨rfl, h.1.symm⟩
      · rw [if_neg h0]
        refine ⟨fun k h => ?_, fun x q h => by cases h⟩
        injection h with h
        rw [if_neg (by simp), if_neg h0, h]
    · have e1 : nxt txt (stE false e bs) = .error e := by simp [stE, he, nxt]
      have e2 : textR bs e = ([], bs, e) := by simp [textR, numR, he]
      rw [e1, e2]
      refine ⟨fun k h => ?_, fun x q h => by cases h⟩
      injection h with h
      subst h
      simp [stE, he]
theorem inT_txt : InT (one1 29) rtxt txt [.string ⟨#[]⟩] shT :=
  ⟨rfl, fun {W B0 g gr bx o st pre post ty Q} hp ho hx hb hne hq => by
    obtain ⟨form, e, bs, h, rfl⟩ := hp
    subst ho
    refine (text_in h hx (mid_size _ _ _) hb hne).mono fun r W' h2 => ⟨h2.1, ?_⟩
    obtain ⟨_, h3, h4, h5⟩ := h2
    rw [set_mid] at h4
    obtain ⟨n1, n2⟩ := txt_nxt form e bs
    have hl : bs.length ≤ 140737488351232 := by
      obtain ⟨A, n, c, _, _, h6, h7, _⟩ := h.rdr
      have := h7.len
      omega
    refine hq W' _ _ ⟨form, _, _, h3, rfl⟩ h5 h4 ⟨rfl, fun u hu => by rw [List.mem_singleton.1 hu]; rfl, n1, fun a q hg => ?_⟩ ⟨_, rfl⟩
    obtain ⟨h6, h7⟩ := n2 a q hg
    exact ⟨h6, fun v _ _ => ⟨by rw [h7], by have := text_le bs e; rw [h7]; omega⟩⟩⟩
theorem in_txt : InS (one1 29) rtxt txt [.string ⟨#[]⟩] := inT_txt.s
theorem in_bit : InS (one1 37) rbit bit [.bool false] :=
  ⟨rfl, fun {W B0 g gr bx o st pre post ty Q} hp ho hx hb hne hq => by
    obtain ⟨form, e, bs, h, rfl⟩ := hp
    subst ho
    obtain ⟨n1, n2⟩ := num_nxt form e bs
    obtain ⟨y, hy⟩ : ∃ y, y = zagOf (numR bs e).1 := ⟨_, rfl⟩
    have key : ∀ (nf va : Bool), (nf = true → form = true ∨ (y ≠ 0 ∧ y ≠ 1)) → (nf = false → form = false ∧ ((y = 0 ∧ va = false) ∨ (y = 1 ∧ va = true))) →
        Calls Try.prog 37 #[.pointer (some ⟨g, 0, none⟩), .pointer (some ⟨bx, pre.length, none⟩)] W (fun r W' => r = .returned (.tuple #[]) ∧ PIx W' B0 g gr nf (numR bs e).2.2 (numR bs e).2.1 ∧ W'.heap[bx]? = some (.cells ((pre ++ [Value.bool false] ++ post).toArray.setIfInBounds pre.length (.bool va)) ty (0, 0)) ∧ Fr (Ne3 g gr bx) W W') →
        one1 37 g bx pre.length W Q := fun nf va hn1 hn2 hc => by
      refine hc.mono fun r W' h2 => ⟨h2.1, ?_⟩
      obtain ⟨_, h3, h4, h5⟩ := h2
      rw [set_mid] at h4
      refine hq W' _ _ ⟨nf, _, _, h3, rfl⟩ h5 h4 ⟨rfl, fun u hu => by rw [List.mem_singleton.1 hu]; rfl, fun k hk => ?_, fun a q hg => ?_⟩
      · cases hst : stE form e bs with
        | error e1 =>
          have h6 := n1 e1 (by rw [hst]; rfl)
          rw [hst] at hk
          injection hk with hk
          subst hk
          cases nf with
          | false => rw [(hn2 rfl).1] at h6; exact h6
          | true =>
            cases form with
            | true => exact h6
            | false =>
              have h7 := (hn1 rfl).resolve_left (by simp)
              exfalso
              have he0 : e ≠ 0 := fun he => by subst he; simp [stE] at hst
              rw [show numR bs e = (0, bs, e) by simp [numR, he0]] at hy
              exact h7.1 (hy.trans (by show zagOf 0 = 0; decide))
        | ok b =>
          rw [hst] at hk
          have hk : bitG b = .error k := hk
          unfold bitG at hk
          have hf : form = false := by cases form with | false => rfl | true => simp [stE] at hst
          cases hn : numG b with
          | error e1 =>
            rw [hn] at hk
            injection hk with hk
            subst hk
            have h6 := n1 e1 (by rw [hst]; exact hn)
            cases nf with
            | false => rw [hf] at h6; exact h6
            | true =>
              have h7 := (hn1 rfl).resolve_left (by rw [hf]; simp)
              exfalso
              have he0 : e = 0 := by
                rcases Nat.eq_zero_or_pos e with h | h
                · exact h
                · rw [hf] at hst; simp [stE, show e ≠ 0 by omega] at hst
              subst he0
              rw [hf] at hst
              simp [stE] at hst
              subst hst
              unfold numG at hn
              by_cases h0 : (numR bs 0).2.2 = 0
              · rw [if_pos h0] at hn; cases hn
              · have h9 : (numR bs 0).1 = 0 := by
                  rcases takeM_cases bs with h | h
                  · exact absurd (by simpa [numR] using h.1) h0
                  · simpa [numR] using h.2.1
                rw [h9] at hy
                exact h7.1 (hy.trans (by decide))
          | ok p =>
            obtain ⟨x, r1⟩ := p
            obtain ⟨h6, h7, _⟩ := n2 x r1 (by rw [hst]; exact hn)
            rw [hn] at hk
            dsimp only at hk
            rw [← hy] at h7
            subst h7
            by_cases hx1 : x = 1
            · rw [if_pos hx1] at hk; cases hk
            · rw [if_neg hx1] at hk
              by_cases hx0 : x = 0
              · rw [if_pos hx0] at hk; cases hk
              · rw [if_neg hx0] at hk
                injection hk with hk
                subst hk
                cases nf with
                | true => rfl
                | false => rcases (hn2 rfl).2 with h | h <;> omega
      · cases hst : stE form e bs with
        | error e1 => rw [hst] at hg; cases hg
        | ok b =>
          rw [hst] at hg
          have hg : bitG b = .ok (a, q) := hg
          unfold bitG at hg
          have hf : form = false := by cases form with | false => rfl | true => simp [stE] at hst
          cases hn : numG b with
          | error e1 => rw [hn] at hg; cases hg
          | ok p =>
            obtain ⟨x, r1⟩ := p
            obtain ⟨h6, h7, _⟩ := n2 x r1 (by rw [hst]; exact hn)
            rw [hn] at hg
            dsimp only at hg
            rw [← hy] at h7
            subst h7
            have hnf : (x = 1 ∨ x = 0) → nf = false := fun hh => by
              cases nf with
              | false => rfl
              | true => rcases hn1 rfl with h | h
                        · rw [hf] at h; cases h
                        · omega
            by_cases hx1 : x = 1
            · rw [if_pos hx1] at hg
              cases hg
              have := hnf (.inl hx1)
              subst this
              refine ⟨by rw [hf] at h6; exact h6, fun v _ _ => ?_⟩
              rcases (hn2 rfl).2 with h | h
              · omega
              · rw [h.2]; rfl
            · rw [if_neg hx1] at hg
              by_cases hx0 : x = 0
              · rw [if_pos hx0] at hg
                cases hg
                have := hnf (.inr hx0)
                subst this
                refine ⟨by rw [hf] at h6; exact h6, fun v _ _ => ?_⟩
                rcases (hn2 rfl).2 with h | h
                · rw [h.2]; rfl
                · omega
              · rw [if_neg hx0] at hg; cases hg
    by_cases h0 : y = 0
    · cases form with
      | true => exact key true false (fun _ => .inl rfl) (fun h => by cases h) (bit_in0true h hx (mid_at _ _ _) hb hne fun z hz => by rw [hz, ← hy]; exact h0)
      | false => exact key false false (fun h => by cases h) (fun _ => ⟨rfl, .inl ⟨h0, rfl⟩⟩) (bit_in0false h hx (mid_at _ _ _) hb hne fun z hz => by rw [hz, ← hy]; exact h0)
    · by_cases h1 : y = 1
      · cases form with
        | true => exact key true true (fun _ => .inl rfl) (fun h => by cases h) (bit_in1true h hx (mid_at _ _ _) hb hne fun z hz => by rw [hz, ← hy]; exact h1)
        | false => exact key false true (fun h => by cases h) (fun _ => ⟨rfl, .inr ⟨h1, rfl⟩⟩) (bit_in1false h hx (mid_at _ _ _) hb hne fun z hz => by rw [hz, ← hy]; exact h1)
      · cases form with
        | true => exact key true false (fun _ => .inl rfl) (fun h => by cases h) (bit_in2true h hx (mid_at _ _ _) hb hne fun z hz => by rw [hz, ← hy]; exact ⟨h0, h1⟩)
        | false => exact key true false (fun _ => .inr ⟨h0, h1⟩) (fun h => by cases h) (bit_in2false h hx (mid_at _ _ _) hb hne fun z hz => by rw [hz, ← hy]; exact ⟨h0, h1⟩)⟩
end Ks
end Go.Proofs.Yteljmlodbnfhbaa
