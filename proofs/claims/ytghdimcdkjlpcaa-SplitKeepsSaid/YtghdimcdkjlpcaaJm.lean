/- Fields: the chapter's walk over a row, byte by byte, as mathematics. No premises. -/
import Derived.Test.YtghdimcdkjlpcaaBase
namespace Go.Proofs.Ytghdimcdkjlpcaa
namespace Jo
/-- A row: its bytes with their letters. -/
abbrev Rw := List (UInt8 × UInt8)
structure Q where
  out : List Rw
  now : Rw
  begun : Bool
  blank : Bool
def sepB (ifs : List UInt8) (p : UInt8 × UInt8) : Bool := p.2 == 115 && ifs.contains p.1
def whiteB (c : UInt8) : Bool := c == 32 || c == 9 || c == 10
def step (ifs : List UInt8) (σ : Q) (p : UInt8 × UInt8) : Q :=
  if sepB ifs p = true then
    if whiteB p.1 = true then (if σ.begun = true then ⟨σ.out ++ [σ.now], [], false, true⟩ else σ)
    else ⟨if (σ.begun || !σ.blank) = true then σ.out ++ [σ.now] else σ.out, [], false, false⟩
  else if (p.2 == 98) = true then ⟨if σ.begun = true then σ.out ++ [σ.now] else σ.out, [], false, false⟩
  else ⟨σ.out, if (p.2 == 101) = true then σ.now else σ.now ++ [p], true, false⟩
def fin (σ : Q) : List Rw := if σ.begun = true then σ.out ++ [σ.now] else σ.out
def init : Q := ⟨[], [], false, false⟩
def run (ifs : List UInt8) (z : Rw) : Q := z.foldl (step ifs) init
/-- The fields of a row. -/
def split (ifs : List UInt8) (z : Rw) : List Rw := fin (run ifs z)
theorem run_snoc (ifs : List UInt8) (z : Rw) (p : UInt8 × UInt8) : run ifs (z ++ [p]) = step ifs (run ifs z) p := by
  unfold run
  rw [List.foldl_append]
  rfl
/-- A field that isn't begun has no bytes. -/
def Ok (σ : Q) : Prop := σ.begun = false → σ.now = []
theorem step_ok {ifs : List UInt8} {σ : Q} (h : Ok σ) (p : UInt8 × UInt8) : Ok (step ifs σ p) := by
  unfold step
  split
  · split
    · split
      · exact fun _ => rfl
      · exact h
    · exact fun _ => rfl
  · split
    · exact fun _ => rfl
    · intro e; cases e
theorem run_ok (ifs : List UInt8) (z : Rw) : Ok (run ifs z) := by
  unfold run
  suffices ∀ (z : Rw) (σ : Q), Ok σ → Ok (z.foldl (step ifs) σ) from this z init (fun _ => rfl)
  intro z
  induction z with
  | nil => exact fun σ h => h
  | cons p z ih => exact fun σ h => ih _ (step_ok h p)
/-- The bytes that belong to a field. -/
def plainB (ifs : List UInt8) (p : UInt8 × UInt8) : Bool := !sepB ifs p && !(p.2 == 98) && !(p.2 == 101)
theorem step_keeps {ifs : List UInt8} {σ : Q} (h : Ok σ) (p : UInt8 × UInt8) : (step ifs σ p).out.flatten ++ (step ifs σ p).now = (σ.out.flatten ++ σ.now) ++ [p].filter (plainB ifs) := by
  unfold step plainB
  cases hs : sepB ifs p with
  | true =>
    simp only [if_true]
    cases hw : whiteB p.1 with
    | true =>
      cases hb : σ.begun with
      | true => simp [hs]
      | false => simp [hs]
    | false =>
      cases hb : σ.begun with
      | true => simp [hs]
      | false =>
        have := h hb
        cases hk : σ.blank <;> simp [hs, this]
  | false =>
    cases h8 : (p.2 == 98) with
    | true =>
      cases hb : σ.begun with
      | true => simp [h8]
      | false =>
        have := h hb
        simp [h8, this]
    | false =>
      cases h1 : (p.2 == 101) with
      | true => simp [hs, h8, h1]
      | false => simp [hs, h8, h1]
/-- No plain byte is lost, and none comes to be. -/
theorem run_keeps (ifs : List UInt8) (z : Rw) : (run ifs z).out.flatten ++ (run ifs z).now = z.filter (plainB ifs) := by
  suffices ∀ (z : Rw) (σ : Q), Ok σ → (z.foldl (step ifs) σ).out.flatten ++ (z.foldl (step ifs) σ).now = (σ.out.flatten ++ σ.now) ++ z.filter (plainB ifs) from by
    have := this z init (fun _ => rfl)
    simpa [run, init] using this
  intro z
  induction z with
  | nil => intro σ _; simp
  | cons p z ih =>
    intro σ h
    rw [List.foldl_cons, ih _ (step_ok h p), step_keeps h p, List.append_assoc, ← List.filter_append]
    rfl
theorem split_flat (ifs : List UInt8) (z : Rw) : (split ifs z).flatten = z.filter (plainB ifs) := by
  have h := run_keeps ifs z
  unfold split fin
  split
  · rw [← h]; simp
  · rename_i hb
    have := run_ok ifs z (by simpa using hb)
    rw [this, List.append_nil] at h
    exact h
/-- How many fields there are, without separators. -/
def parts : Rw → Bool → Nat
  | [], _ => 0
  | p :: z, b => if (p.2 == 98) = true then parts z false else (if b = true then 0 else 1) + parts z true
theorem split_parts (z : Rw) : (split [] z).length = parts z false := by
  suffices ∀ (z : Rw) (σ : Q), (fin (z.foldl (step []) σ)).length = σ.out.length + (if σ.begun = true then 1 else 0) + parts z σ.begun from by
    have := this z init
    simpa [split, run, init] using this
  intro z
  induction z with
  | nil =>
    intro σ
    unfold fin
    cases hb : σ.begun <;> simp [parts, hb]
  | cons p z ih =>
    intro σ
    rw [List.foldl_cons, ih]
    have hs : sepB [] p = false := by simp [sepB]
    unfold step
    rw [hs]
    simp only [Bool.false_eq_true, if_false, parts]
    cases h8 : (p.2 == 98) with
    | true =>
      cases hb : σ.begun <;> simp
    | false =>
      cases hb : σ.begun <;> simp <;> omega
/-- Plain bytes, one behind the other, are put to the field. -/
theorem run_plain {ifs : List UInt8} : ∀ (w : Rw) (σ : Q), (∀ p ∈ w, plainB ifs p = true) → w ≠ [] → w.foldl (step ifs) σ = ⟨σ.out, σ.now ++ w, true, false⟩
  | [], _, _, h => absurd rfl h
  | [p], σ, h, _ => by
    have h1 := h p (List.mem_cons_self ..)
    unfold plainB at h1
    simp only [Bool.and_eq_true, Bool.not_eq_true'] at h1
    simp only [List.foldl_cons, List.foldl_nil, step, h1.1.1, h1.1.2, h1.2, Bool.false_eq_true, if_false]
  | p :: q :: w, σ, h, _ => by
    have h1 := h p (List.mem_cons_self ..)
    unfold plainB at h1
    simp only [Bool.and_eq_true, Bool.not_eq_true'] at h1
    rw [List.foldl_cons, run_plain (q :: w) _ (fun x hx => h x (List.mem_cons_of_mem _ hx)) (by simp)]
    simp only [step, h1.1.1, h1.1.2, h1.2, Bool.false_eq_true, if_false]
    simp
/-- All bytes of one letter. -/
def of (s : List UInt8) (m : UInt8) : Rw := s.map fun c => (c, m)
theorem of_app (a b : List UInt8) (m : UInt8) : of (a ++ b) m = of a m ++ of b m := List.map_append
def blanks : List UInt8 := [32, 9, 10]
theorem word_plain {w : List UInt8} (h : ∀ c ∈ w, whiteB c = false) : ∀ p ∈ of w 115, plainB blanks p = true := by
  intro p hp
  obtain ⟨c, hc, rfl⟩ := List.mem_map.1 hp
  have := h c hc
  unfold whiteB at this
  simp only [Bool.or_eq_false_iff, beq_eq_false_iff_ne] at this
  simp [plainB, sepB, blanks, this.1.1, this.1.2, this.2]
/-- Blanks end a field, and are nothing behind it. -/
theorem run_blanks : ∀ (b : List UInt8) (σ : Q), (∀ c ∈ b, whiteB c = true) → σ.begun = false → (of b 115).foldl (step blanks) σ = σ
  | [], _, _, _ => rfl
  | c :: b, σ, h, hb => by
    have h1 := h c (List.mem_cons_self ..)
    have hs : sepB blanks (c, 115) = true := by
      unfold whiteB at h1
      simp only [Bool.or_eq_true, beq_iff_eq] at h1
      rcases h1 with (h1 | h1) | h1 <;> (rw [h1]; rfl)
    show (of b 115).foldl (step blanks) (step blanks σ (c, 115)) = σ
    have e : step blanks σ (c, 115) = σ := by unfold step; rw [if_pos hs, if_pos h1, if_neg (by rw [hb]; simp)]
    rw [e]
    exact run_blanks b σ (fun x hx => h x (List.mem_cons_of_mem _ hx)) hb
theorem run_end {b : List UInt8} (σ : Q) (h : ∀ c ∈ b, whiteB c = true) (hne : b ≠ []) (hb : σ.begun = true) : (of b 115).foldl (step blanks) σ = ⟨σ.out ++ [σ.now], [], false, true⟩ := by
  cases b with
  | nil => exact absurd rfl hne
  | cons c b =>
    have h1 := h c (List.mem_cons_self ..)
    have hs : sepB blanks (c, 115) = true := by
      unfold whiteB at h1
      simp only [Bool.or_eq_true, beq_iff_eq] at h1
      rcases h1 with (h1 | h1) | h1 <;> (rw [h1]; rfl)
    show (of b 115).foldl (step blanks) (step blanks σ (c, 115)) = _
    have e : step blanks σ (c, 115) = ⟨σ.out ++ [σ.now], [], false, true⟩ := by unfold step; rw [if_pos hs, if_pos h1, if_pos hb]
    rw [e]
    exact run_blanks b _ (fun x hx => h x (List.mem_cons_of_mem _ hx)) rfl
/-- Words with blanks between, and perhaps about them. -/
def glue (lead sep : List UInt8) : List (List UInt8) → List UInt8
  | [] => []
  | w :: ws => lead ++ w ++ glue sep sep ws
theorem run_glue (sep : List UInt8) (hs : ∀ c ∈ sep, whiteB c = true) (hne : sep ≠ []) : ∀ (ws : List (List UInt8)), (∀ w ∈ ws, w ≠ [] ∧ ∀ c ∈ w, whiteB c = false) → ∀ (out : List Rw) (w0 : Rw), ∃ σ, (of (glue sep sep ws) 115).foldl (step blanks) ⟨out, w0, true, false⟩ = σ ∧ σ.begun = true ∧ σ.out ++ [σ.now] = out ++ [w0] ++ ws.map fun w => of w 115
  | [], _, out, w0 => ⟨⟨out, w0, true, false⟩, rfl, rfl, by simp⟩
  | w :: ws, h, out, w0 => by
    obtain ⟨h1, h2⟩ := h w (List.mem_cons_self ..)
    obtain ⟨σ, e1, e2, e3⟩ := run_glue sep hs hne ws (fun x hx => h x (List.mem_cons_of_mem _ hx)) (out ++ [w0]) (of w 115)
    refine ⟨σ, ?_, e2, by rw [e3]; simp⟩
    rw [← e1]
    simp only [glue, of_app, List.foldl_append]
    rw [run_end _ hs hne rfl, run_plain (of w 115) _ (word_plain h2) (by simpa [of] using h1)]
    simp
theorem split_glue (lead sep tail : List UInt8) (hl : ∀ c ∈ lead, whiteB c = true) (hs : ∀ c ∈ sep, whiteB c = true) (hne : sep ≠ []) (ht : ∀ c ∈ tail, whiteB c = true) (ws : List (List UInt8)) (h : ∀ w ∈ ws, w ≠ [] ∧ ∀ c ∈ w, whiteB c = false) : split blanks (of (glue lead sep ws ++ tail) 115) = ws.map fun w => of w 115 := by
  unfold split run
  cases ws with
  | nil =>
    simp only [glue, List.nil_append]
    rw [run_blanks tail init ht rfl]
    rfl
  | cons w ws =>
    obtain ⟨h1, h2⟩ := h w (List.mem_cons_self ..)
    obtain ⟨σ, e1, e2, e3⟩ := run_glue sep hs hne ws (fun x hx => h x (List.mem_cons_of_mem _ hx)) [] (of w 115)
    simp only [glue, of_app, List.foldl_append]
    rw [run_blanks lead init hl rfl, run_plain (of w 115) _ (word_plain h2) (by simpa [of] using h1)]
    show fin ((of tail 115).foldl (step blanks) ((of (glue sep sep ws) 115).foldl (step blanks) ⟨[], [] ++ of w 115, true, false⟩)) = _
    rw [List.nil_append, e1]
    have e4 : σ.out ++ [σ.now] = (w :: ws).map fun w => of w 115 := by rw [e3]; simp
    cases tail with
    | nil =>
      show fin σ = _
      unfold fin
      rw [if_pos e2, e4]
    | cons c t =>
      rw [run_end σ ht (by simp) e2]
      show σ.out ++ [σ.now] = _
      rw [e4]
/-- Texts, a colon behind each. -/
def colons : List (List UInt8) → List UInt8
  | [] => []
  | w :: ws => w ++ 58 :: colons ws
theorem split_colons : ∀ (ws : List (List UInt8)), (∀ w ∈ ws, ∀ c ∈ w, c ≠ 58) → split [58] (of (colons ws) 115) = ws.map fun w => of w 115 := by
  suffices ∀ (ws : List (List UInt8)), (∀ w ∈ ws, ∀ c ∈ w, c ≠ 58) → ∀ out : List Rw, (of (colons ws) 115).foldl (step [58]) ⟨out, [], false, false⟩ = ⟨out ++ ws.map fun w => of w 115, [], false, false⟩ from fun ws h => by
    unfold split run init
    rw [this ws h []]
    rfl
  intro ws
  induction ws with
  | nil => intro _ out; simp [colons, of]
  | cons w ws ih =>
    intro h out
    have hp : ∀ p ∈ of w 115, plainB [58] p = true := by
      intro p hp
      obtain ⟨c, hc, rfl⟩ := List.mem_map.1 hp
      have := h w (List.mem_cons_self ..) c hc
      simp [plainB, sepB, this]
    have hst : ∀ σ : Q, (σ.begun || !σ.blank) = true → step [58] σ (58, 115) = ⟨σ.out ++ [σ.now], [], false, false⟩ := fun σ hσ => by
      unfold step
      rw [if_pos (by rfl), if_neg (by decide), if_pos hσ]
    have e : colons (w :: ws) = w ++ ([58] ++ colons ws) := rfl
    rw [e, of_app, of_app, List.foldl_append, List.foldl_append]
    have e2 : of [58] 115 = [(58, 115)] := rfl
    rw [e2, List.foldl_cons, List.foldl_nil]
    cases hw : w with
    | nil =>
      rw [show of ([] : List UInt8) 115 = [] from rfl, List.foldl_nil, hst _ rfl, ih (fun x hx => h x (List.mem_cons_of_mem _ hx))]
      simp [of]
    | cons c t =>
      rw [← hw, run_plain (of w 115) _ hp (by simp [of, hw]), hst _ rfl, ih (fun x hx => h x (List.mem_cons_of_mem _ hx))]
      simp
theorem split_q (s : List UInt8) (ifs : List UInt8) : split ifs (of s 113) = if s = [] then [] else [of s 113] := by
  cases hs : s with
  | nil => rfl
  | cons c t =>
    rw [if_neg (by simp), ← hs]
    unfold split run
    rw [run_plain (of s 113) _ (fun p hp => by
      obtain ⟨c, hc, rfl⟩ := List.mem_map.1 hp
      simp [plainB, sepB]) (by simp [of, hs])]
    rfl
end Jo
end Go.Proofs.Ytghdimcdkjlpcaa
