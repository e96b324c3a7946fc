/- Functions that put a thing out through a port: one behind the other. No premises. -/
import Derived.Test.YteljmlodbnfhbaaKp
namespace Go.Proofs.Yteljmlodbnfhbaa
open Go.RowKit
namespace Ks
set_option maxRecDepth 100000
/-- A step that puts a thing out: Q holds of any world behind. -/
structure OutS {α : Type} (K : Nat → Nat → Nat → World → (World → Prop) → Prop) (r : Rp α) (c : Cd α) : Prop where
  go : ∀ {X : Nat → Prop} {W : World} {g bs o : Nat} {b : B} {cs : List Value} {a : α} {Q : World → Prop} (N : Nat), POE X W g b → X bs → (∀ k, k < N → X k) → r.C W N cs a → (∀ (j : Nat) (u : Value), cs[j]? = some u → W.cell? ⟨bs, o + j, none⟩ = some u) → c.ok a → b.length + (c.put a).length ≤ 900000000 →
    (∀ W', POE X W' g (b ++ c.put a) → Fr X W W' → Q W') → K g bs o W Q
/-- A call of a function. -/
def one1 (F : FuncId) (g bs o : Nat) (W : World) (Q : World → Prop) : Prop := Calls Try.prog F #[.pointer (some ⟨g, 0, none⟩), .pointer (some ⟨bs, o, none⟩)] W fun e W' => e = .returned (.tuple #[]) ∧ Q W'
/-- A call that hands on a function. -/
def one2 (F G : FuncId) (g bs o : Nat) (W : World) (Q : World → Prop) : Prop := Calls Try.prog F #[.pointer (some ⟨g, 0, none⟩), .pointer (some ⟨bs, o, none⟩), .func (.func G) #[] #[]] W fun e W' => e = .returned (.tuple #[]) ∧ Q W'
def then_ (K1 K2 : Nat → Nat → Nat → World → (World → Prop) → Prop) (d : Nat) (g bs o : Nat) (W : World) (Q : World → Prop) : Prop := K1 g bs o W fun W1 => K2 g bs (o + d) W1 Q
theorem fr_all {X : Nat → Prop} {w w' : World} (hf : Fr X w w') {N : Nat} (hN : ∀ k, k < N → X k) (hl : XL X w) : ∀ p : Addr, p.block < N → w'.cell? p = w.cell? p := fun _ hp =>
  World.cell?_of_block (hf.block _ (hl _ (hN _ hp)) (hN _ hp))
theorem OutS.seq {α β : Type} {K1 K2 : Nat → Nat → Nat → World → (World → Prop) → Prop} {r : Rp α} {s : Rp β} {c : Cd α} {d : Cd β} (h1 : OutS K1 r c) (h2 : OutS K2 s d) {wd : Nat} (hw : wd = r.wd) : OutS (then_ K1 K2 wd) (rseq r s) (seq c d) := by
  subst hw
  refine ⟨fun {X W g bs o b cs a Q} N hp hX hN hc hcell hok hlen hq => ?_⟩
  obtain ⟨c1, c2, rfl, hc1, hc2⟩ := hc
  have hlen2 : b.length + ((c.put a.1).length + (d.put a.2).length) ≤ 900000000 := by rw [← List.length_append]; exact hlen
  have hl1 := r.len hc1
  refine h1.go N hp hX hN hc1 (fun j u hj => hcell j u (by rw [List.getElem?_append_left (List.getElem?_eq_some_iff.1 hj).1]; exact hj)) hok.1 (by omega) fun W1 hp1 f1 => ?_
  obtain ⟨v, hpv⟩ := hp
  refine h2.go N hp1 hX hN (s.keep hc2 (fr_all f1 hN hpv.xl)) (fun j u hj => ?_) hok.2 (by rw [List.length_append]; omega) fun W2 hp2 f2 => ?_
  · have h3 := hcell (c1.length + j) u (by rw [List.getElem?_append_right (by omega), Nat.add_sub_cancel_left]; exact hj)
    have h4 := (fr_cell (p := ⟨bs, o + (c1.length + j), none⟩) f1 hX h3).trans h3
    rw [hl1, ← Nat.add_assoc] at h4
    exact h4
  · refine hq W2 ?_ (f1.trans f2)
    rw [List.append_assoc] at hp2
    exact hp2
theorem OutS.assoc {α β γ : Type} {K : Nat → Nat → Nat → World → (World → Prop) → Prop} {r : Rp α} {s : Rp β} {t : Rp γ} {c : Cd α} {d : Cd β} {e : Cd γ} (h : OutS K (rseq (rseq r s) t) (Ks.seq (Ks.seq c d) e)) : OutS K (rseq r (rseq s t)) (Ks.seq c (Ks.seq d e)) := by
  refine ⟨fun {X W g bs o b cs a Q} N hp hX hN hc hcell hok hlen hq => ?_⟩
  obtain ⟨c1, c2, rfl, hc1, c3, c4, rfl, hc3, hc4⟩ := hc
  have e1 : (Ks.seq (Ks.seq c d) e).put ((a.1, a.2.1), a.2.2) = (Ks.seq c (Ks.seq d e)).put a := List.append_assoc _ _ _
  refine h.go (a := ((a.1, a.2.1), a.2.2)) (cs := (c1 ++ c3) ++ c4) N hp hX hN ⟨_, _, rfl, ⟨_, _, rfl, hc1, hc3⟩, hc4⟩ (by rw [List.append_assoc]; exact hcell) ⟨⟨hok.1, hok.2.1⟩, hok.2.2⟩ (by rw [e1]; exact hlen) (by rw [e1]; exact hq)
theorem OutS.iso {α β : Type} {K : Nat → Nat → Nat → World → (World → Prop) → Prop} {r : Rp α} {c : Cd α} {f : α → β} {g : β → α} {h1 : ∀ a, g (f a) = a} {h2 : ∀ b, f (g b) = b} (h : OutS K r c) : OutS K (riso r g) (Ks.iso c f g h1 h2) :=
  ⟨fun N hp hX hN hc hcell hok hlen hq => h.go N hp hX hN hc hcell hok hlen hq⟩
theorem OutS.imp {α : Type} {K K' : Nat → Nat → Nat → World → (World → Prop) → Prop} {r : Rp α} {c : Cd α} (h : OutS K r c) (hk : ∀ (g bs o : Nat) (W : World) (Q : World → Prop), K g bs o W (fun w => Ending.returned (.tuple #[]) = .returned (.tuple #[]) ∧ Q w) → K' g bs o W Q) : OutS K' r c :=
  ⟨fun N hp hX hN hc hcell hok hlen hq => hk _ _ _ _ _ (h.go N hp hX hN hc hcell hok hlen fun W' h1 h2 => ⟨rfl, hq W' h1 h2⟩)⟩
theorem out_int : OutS (one1 35) rnum num := ⟨fun {X W g bs o b cs a Q} N hp hX hN hc hcell hok hlen hq => by
  obtain ⟨rfl, hI⟩ := hc
  exact (int_out hp (hcell 0 _ rfl) hI (by omega)).mono fun e W' h => ⟨h.1, hq W' h.2.1 h.2.2⟩⟩
theorem out_int64 : OutS (one1 57) rnum num := ⟨fun {X W g bs o b cs a Q} N hp hX hN hc hcell hok hlen hq => by
  obtain ⟨rfl, hI⟩ := hc
  exact (int64_out hp (hcell 0 _ rfl) hI (by omega)).mono fun e W' h => ⟨h.1, hq W' h.2.1 h.2.2⟩⟩
theorem out_errno : OutS (one1 38) rnum num := ⟨fun {X W g bs o b cs a Q} N hp hX hN hc hcell hok hlen hq => by
  obtain ⟨rfl, hI⟩ := hc
  exact (errno_out hp (hcell 0 _ rfl) hI (by omega)).mono fun e W' h => ⟨h.1, hq W' h.2.1 h.2.2⟩⟩
theorem out_bit : OutS (one1 37) rbit bit := ⟨fun {X W g bs o b cs a Q} N hp hX hN hc hcell hok hlen hq => by
  obtain rfl := hc
  exact (bit_out hp (hcell 0 _ rfl) (by omega)).mono fun e W' h => ⟨h.1, hq W' h.2.1 h.2.2⟩⟩
theorem out_txt : OutS (one1 29) rtxt txt := ⟨fun {X W g bs o b cs a Q} N hp hX hN hc hcell hok hlen hq => by
  obtain ⟨rfl, _⟩ := hc
  have h1 : a.length ≤ (textB a).length := by rw [textB, List.length_append]; omega
  have h2 : b.length + (textB a).length ≤ 900000000 := hlen
  exact (text_out hp (hcell 0 _ rfl) (by omega) (by omega)).mono fun e W' h => ⟨h.1, hq W' h.2.1 h.2.2⟩⟩
/-- Numbers behind pointers that are laid in a row. -/
def ptrs (bs o : Nat) : Nat → Nat → List Value
  | _, 0 => []
  | i, n + 1 => .pointer (some ⟨bs, o + i, none⟩) :: ptrs bs o (i + 1) n
def many1 (F : FuncId) (t : TypeId) (n : Nat) (g bs o : Nat) (W : World) (Q : World → Prop) : Prop := Calls Try.prog F #[.pointer (some ⟨g, 0, none⟩), .slice (some ⟨W.heap.size, 0, none⟩) n n] (W.drew.alloc (.cells (ptrs bs o 0 n).toArray t)) fun e W' => e = .returned (.tuple #[]) ∧ Q W'
theorem ptrs_len (bs o : Nat) : ∀ n i, (ptrs bs o i n).length = n
  | 0, _ => rfl
  | n + 1, i => by rw [ptrs, List.length_cons, ptrs_len bs o n]
theorem ptrs_at (bs o : Nat) : ∀ n i k, k < n → (ptrs bs o i n)[k]? = some (.pointer (some ⟨bs, o + (i + k), none⟩))
  | 0, _, k, h => by omega
  | n + 1, i, 0, _ => rfl
  | n + 1, i, k + 1, h => by
    rw [ptrs, List.getElem?_cons_succ, ptrs_at bs o n (i + 1) k (by omega), show i + 1 + k = i + (k + 1) by omega]
/-- So many numbers, told as pairs. -/
def numsT : Nat → Type
  | 0 => Int
  | n + 1 => Int × numsT n
def numsR : (n : Nat) → Rp (numsT n)
  | 0 => rnum
  | n + 1 => rseq rnum (numsR n)
def numsC : (n : Nat) → Cd (numsT n)
  | 0 => num
  | n + 1 => Ks.seq num (numsC n)
def numsL : (n : Nat) → numsT n → List Int
  | 0, x => [x]
  | n + 1, x => x.1 :: numsL n x.2
theorem numsL_len : ∀ (n : Nat) (a : numsT n), (numsL n a).length = n + 1
  | 0, _ => rfl
  | n + 1, a => by rw [numsL, List.length_cons, numsL_len n]
theorem manyP_one (x : Int) : manyP num [x] = num.put x := by unfold manyP; rw [List.flatMap_cons, List.flatMap_nil, List.append_nil]
theorem numsC_put : ∀ (n : Nat) (a : numsT n), (numsC n).put a = manyP num (numsL n a)
  | 0, a => (manyP_one a).symm
  | n + 1, a => by
    rw [numsL, manyP_cons, ← numsC_put n a.2]; rfl
theorem numsR_C : ∀ (n : Nat) {w : World} {N : Nat} {cs : List Value} {a : numsT n}, (numsR n).C w N cs a → cs = (numsL n a).map (.int .i64 ·) ∧ ∀ x ∈ numsL n a, I64 x
  | 0, w, N, cs, a, h => ⟨h.1, fun x hx => by obtain rfl : x = a := List.mem_singleton.1 hx; exact h.2⟩
  | n + 1, w, N, cs, a, h => by
    obtain ⟨c1, c2, rfl, h1, h2⟩ := h
    obtain ⟨h3, h4⟩ := numsR_C n h2
    refine ⟨by rw [h1.1, h3]; rfl, fun x hx => ?_⟩
    rw [numsL, List.mem_cons] at hx
    rcases hx with rfl | hx
    · exact h1.2
    · exact h4 x hx
theorem out_nums {F : FuncId} {t : TypeId} (hF : ∀ {X : Nat → Prop} {g : Nat} (ps : List (Nat × Nat)) (xs : List Int) (_ : xs.length = ps.length) {W : World} {A c n : Nat} {b : B} (_ : POE X W g b) (_ : n = ps.length) (_ : ∀ (k : Nat) (hk : k < ps.length), W.cell? ⟨A, k, none⟩ = some (.pointer (some ⟨ps[k].1, ps[k].2, none⟩))) (_ : X A)
    (_ : ∀ (k : Nat) (hk : k < ps.length) (hj : k < xs.length), X ps[k].1 ∧ W.cell? ⟨ps[k].1, ps[k].2, none⟩ = some (.int .i64 xs[k]) ∧ I64 xs[k]) (_ : b.length ≤ 999999000) (_ : n ≤ 10),
    Calls Try.prog F #[.pointer (some ⟨g, 0, none⟩), .slice (some ⟨A, 0, none⟩) n c] W fun e W' => e = .returned (.tuple #[]) ∧ POE X W' g (b ++ manyP num xs) ∧ Fr X W W') (n : Nat) (hn : n < 10) : OutS (many1 F t (n + 1)) (numsR n) (numsC n) := by
  refine ⟨fun {X W g bs o b cs a Q} N hp hX hN hc hcell hok hlen hq => ?_⟩
  obtain ⟨rfl, hI⟩ := numsR_C n hc
  have hll := numsL_len n a
  obtain ⟨xs, hxs⟩ : ∃ xs, xs = numsL n a := ⟨_, rfl⟩
  rw [numsC_put, ← hxs] at hq
  rw [← hxs] at hI hcell hll
  have hl := (Later.drew W).trans (Later.alloc W.drew (.cells (ptrs bs o 0 (n + 1)).toArray t))
  have hb := heap_alloc_new W.drew (.cells (ptrs bs o 0 (n + 1)).toArray t)
  have h2 := (hp.later (Later.drew W)).alloc (.cells (ptrs bs o 0 (n + 1)).toArray t)
  refine (hF ((List.range (n + 1)).map fun k => (bs, o + k)) xs (by rw [hll]; simp) h2 (by simp) (fun k hk => ?_) (.inr (by simp)) (fun k hk hj => ?_) (by omega) (by omega)).mono fun e W' h => ⟨h.1, hq W' h.2.1.less ((Fr.later hl).trans h.2.2.less)⟩
  · have hk' : k < n + 1 := by simpa using hk
    have := (cell_row hb k).1
    rw [show W.heap.size = W.drew.heap.size from rfl, this]
    simpa using ptrs_at bs o (n + 1) 0 k hk'
  · have h3 := hcell k (.int .i64 xs[k]) (by rw [List.getElem?_map, List.getElem?_eq_getElem hj]; rfl)
    refine ⟨.inl (by simpa using hX), ?_, hI _ (List.getElem_mem hj)⟩
    have := cell_keeps hl h3
    simpa using this
theorem out_ints (n : Nat) (hn : n < 10) : OutS (many1 36 111 (n + 1)) (numsR n) (numsC n) := out_nums (fun ps xs hxl => ints_out ps xs hxl) n hn
theorem out_int64s (n : Nat) (hn : n < 10) : OutS (many1 55 153 (n + 1)) (numsR n) (numsC n) := out_nums (fun ps xs hxl => int64s_out ps xs hxl) n hn
end Ks
end Go.Proofs.Yteljmlodbnfhbaa
