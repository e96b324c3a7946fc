/- variables: those of an Env, in new memory. No premises. -/
import Derived.Test.YtmijploffdoenaaDoorNp
namespace Go.Proofs.YtmijploffdoenaaDoor
open Go.RowKit Go.Maps
namespace En
/-- A row of pairs in a block of its own, junk behind it let in. -/
def PrB (w : World) (g : Nat) (l : Vs) (z : List Value) : Prop := w.heap[g]? = some (.cells (prs l ++ z).toArray 62 (0, 0))
theorem PrB.cells {w : World} {g : Nat} {l : Vs} {z : List Value} (h : PrB w g l z) (k : Nat) (hk : k < l.length) : w.cell? ⟨g, k * 2, none⟩ = some (.string (mkS l[k].1)) ∧ w.cell? ⟨g, k * 2 + 1, none⟩ = some (.string (mkS l[k].2)) := by
  obtain ⟨h1, h2⟩ := prs_at l k hk
  have hl := prs_len l
  rw [(cell_row h _).1, (cell_row h _).1]
  simp only [List.getElem?_toArray]
  rw [List.getElem?_append_left (by omega), List.getElem?_append_left (by omega)]
  exact ⟨h1, h2⟩
theorem PrB.rd {w : World} {g : Nat} {l : Vs} {z : List Value} (h : PrB w g l z) {c : Nat} (hc : l.length ≤ c) (hm : c ≤ 9223372036854775807) : RdP w w.heap.size (.slice (some ⟨g, 0, none⟩) l.length c) l :=
  ⟨⟨_, c, rfl, hc, hm, fun e => by cases e⟩, fun _ => ⟨g, 0, c, rfl, lt_of_block h, fun k hk => by rw [Nat.zero_add]; exact h.cells k hk⟩⟩
theorem PrB.later {w w' : World} {g : Nat} {l : Vs} {z : List Value} (h : PrB w g l z) (hl : Later w w') : PrB w' g l z := later_cells hl h
theorem setRow_grown (w : World) (g : Nat) (cs : Array Value) : w.grownBy (w.setRow g cs) (some g) := ⟨rfl, rfl, rfl, by simp [World.setRow], fun k _ hk => setRow_other w g k cs (fun e => hk (by rw [e]))⟩
theorem step_vs {vs : Vs} {i : Nat} (hi : i < vs.length) : (vs.take i ++ zs (vs.length - i)).set i (vs[i].1, vs[i].2) = vs.take (i + 1) ++ zs (vs.length - (i + 1)) := by
  have h1 : (vs.take i).length = i := by rw [List.length_take]; omega
  rw [List.set_append_right _ _ (by omega), h1, Nat.sub_self, List.take_succ_eq_append_getElem hi, List.append_assoc]
  have : vs.length - i = (vs.length - (i + 1)) + 1 := by omega
  rw [this, zs, List.replicate_succ, List.set_cons_zero]
  rfl
/-- A pair is stored at its place. -/
theorem PrB.put {w : World} {g : Nat} {l : Vs} {z : List Value} (h : PrB w g l z) {k : Nat} (hk : k < l.length) (a b : B) : ∃ w', (Instr.storeAt 62 (.pointer (some ⟨g, k * 2, none⟩)) (.agg #[.string (mkS a), .string (mkS b)])).run Tryd.prog w = .ok () w' ∧ PrB w' g (l.set k (a, b)) z ∧ w.grownBy w' (some g) := by
  have hl := prs_len l
  have hr := run_storeAt_row (P := Tryd.prog) w g (k * 2) 62 _ _ h #[.string (mkS a), .string (mkS b)] (by simp; omega) (by kernel_rfl) (by intro v hv; simp at hv; rcases hv with rfl | rfl <;> rfl)
  refine ⟨_, hr, ?_, setRow_grown _ _ _⟩
  unfold PrB
  rw [setRow_heap _ _ _ _ _ _ h, ← prs_put hk a b]
  show some (Obj.cells ((prs l ++ z).take (k * 2) ++ _ ++ (prs l ++ z).drop (k * 2 + 2)).toArray _ _) = _
  rw [List.take_append_of_le_length (by omega), List.drop_append_of_le_length (by omega)]
  simp
set_option maxRecDepth 100000 in
set_option maxHeartbeats 3200000 in
theorem variables_v (va aa : Value) (vs : Vs) (st : Int) (fl : ByteArray) (W : World) (hv : RdP W W.heap.size va vs) (hn : vs.length ≤ 1000000) : Calls Tryd.prog 24 #[.agg #[va, aa, .int .i64 st, .string fl]] W fun e W' => (∃ g, e = .returned (.slice (some ⟨g, 0, none⟩) vs.length vs.length) ∧ W.heap.size ≤ g ∧ PrB W' g vs []) ∧ Later W W' := by
  obtain ⟨Av, cv, rfl, hcv, hcw, _⟩ := hv.le
  have HV := Lib.hid hv
  have HZL := Lib.hid hn
  obtain ⟨n, hnn⟩ : ∃ n, n = vs.length := ⟨_, rfl⟩
  have HN := Lib.hid hnn
  rw [← hnn] at hcv ⊢
  obtain ⟨i0, hif, hz0, hz1, hz2⟩ := info_parts info_var
  obtain ⟨W1, hW1⟩ : ∃ W1, W1 = W.alloc (.cells #[.slice Av n cv, aa, .int .i64 st, .string fl] 28) := ⟨_, rfl⟩
  have hs1 : W1.heap.size = W.heap.size + 1 := by rw [hW1, World.size_alloc]
  obtain ⟨W2, hW2⟩ : ∃ W2, W2 = W1.alloc (.cells (madeCells (Value.agg #[.string ⟨#[]⟩, .string ⟨#[]⟩]).cells (n * 2)) 62) := ⟨_, rfl⟩
  have hmk : (Instr.makeSlice 57 (.int .i64 (n : Int)) (.int .i64 (n : Int))).run Tryd.prog W1 = .ok (.slice (some ⟨W.heap.size + 1, 0, none⟩) n n) W2 := by
    have := run_make (P := Tryd.prog) W1 57 62 i0 _ Tryd.underlying57 hif hz0 .i64 .i64 (n : Int) (n : Int) (by omega) (by omega) (by rw [hz2]; omega) (by omega)
    rw [hz1, hs1] at this
    simpa [hW2] using this
  have hpr : PrB W2 (W.heap.size + 1) (vs.take 0 ++ zs (n - 0)) [] := by
    have h1 := heap_alloc_new W1 (.cells (madeCells (Value.agg #[.string ⟨#[]⟩, .string ⟨#[]⟩]).cells (n * 2)) 62)
    rw [← hW2, hs1] at h1
    unfold PrB
    rw [h1, List.append_nil, List.take_zero, List.nil_append, Nat.sub_zero, ← made_pairs]
  have hla : Later W W2 := by rw [hW2, hW1]; exact (Later.alloc _ _).trans (Later.alloc _ _)
  have hbx : W2.heap[W.heap.size]? = some (.cells #[.slice Av n cv, aa, .int .i64 st, .string fl] 28 (0, 0)) := by
    rw [hW2]
    exact later_cells (Later.alloc _ _) (by rw [hW1]; exact heap_alloc_new W _)
  have hb1 : W1.heap[W.heap.size]? = some (.cells #[.slice Av n cv, aa, .int .i64 st, .string fl] 28 (0, 0)) := by rw [hW1]; exact heap_alloc_new W _
  have b0 : W1.cell? ⟨W.heap.size, 0, none⟩ = some (.slice Av n cv) := (cell_row hb1 0).1
  have b2 : W2.cell? ⟨W.heap.size, 0, none⟩ = some (.slice Av n cv) := (cell_row hbx 0).1
  have HPR := Lib.hid hpr
  have HLA := Lib.hid hla
  have HBX := Lib.hid hbx
  have HB1 := Lib.hid b0
  have HB2 := Lib.hid b2
  have HMK := Lib.hid hmk
  clear hv hcv hcw hn hnn hs1 hmk hpr hla hbx hb1 b0 b2 hW2
  subst hW1
  go_enter Tryd.func24, Tryd.ntmps24
  have b0 := HB1.out
  have b2 := HB2.out
  have hmk := HMK.out
  go_wp2_with fail
  clear b0 b2 hmk
  go_loopw [13] (fun s13 wr => ∃ i : Nat, s13 = .int .i64 (i : Int) ∧ i ≤ n ∧ PrB wr (W.heap.size + 1) (vs.take i ++ zs (n - i)) [] ∧ Later W wr ∧ W.heap.size + 2 ≤ wr.heap.size) (fun i _ => n - (intOf i).toNat)
  case atStart => exact ⟨0, rfl, Nat.zero_le _, HPR.out, HLA.out, lt_of_block HPR.out⟩
  case round =>
    obtain ⟨i, rfl, hi, hpr, hlw, hsz⟩ := hrel
    have HPR := Lib.hid hpr
    have HLW := Lib.hid hlw
    have HSZ := Lib.hid hsz
    clear hpr hlw hsz
    have hi0 : (0 : Int) ≤ (i : Int) := by omega
    have hn6 : n ≤ 1000000 := by rw [HN.out]; exact HZL.out
    by_cases hlt : i < n
    · have hi1 : (i : Int) < (n : Int) := by omega
      obtain ⟨g, o, c', e1, hg, hcc⟩ := HV.out.at_ (by rw [← HN.out]; omega)
      injection e1 with e1 _ e2
      subst e1 e2
      have hlt2 : i < vs.length := by rw [← HN.out]; exact hlt
      obtain ⟨x, hx⟩ : ∃ x, x = vs[i] := ⟨_, rfl⟩
      have p1 := (HLW.out.cell (p := ⟨g, o + i * 2, none⟩) hg).trans (hcc i hlt2).1
      have p2 := (HLW.out.cell (p := ⟨g, o + i * 2 + 1, none⟩) hg).trans (hcc i hlt2).2
      rw [← hx] at p1 p2
      have HLD := Lib.hid (load_mid 54 _ Tryd.underlying54 (by kernel_rfl) p1 p2)
      have HST := Lib.hid (step_vs hlt2)
      rw [← hx, ← HN.out] at HST
      have HL := Lib.hid (show i < (vs.take i ++ zs (n - i)).length by rw [List.length_append, List.length_take, zs_len, ← HN.out]; omega)
      clear hcc hg hx p1 p2 hlt2
      have hla3 := Later.alloc wr (.cells #[.string (mkS x.1), .string (mkS x.2)] 54)
      obtain ⟨w4, hr4, hp4, hg4⟩ := PrB.put (HPR.out.later hla3) HL.out x.1 x.2
      rw [HST.out] at hp4
      have HL4 := Lib.hid (later_of_new (HLW.out.trans hla3) hg4 (by omega))
      have HS4 := Lib.hid (show W.heap.size + 2 ≤ w4.heap.size from Nat.le_trans HSZ.out (Nat.le_trans hla3.size hg4.size))
      have HR4 := Lib.hid hr4
      have HP4 := Lib.hid hp4
      clear hla3 hr4 hp4 hg4
      go_wp2_with (first
        | (refine wpList_loadRun rfl 54 (.tmp 16) rfl _ _ rfl HLD.out ?_)
        | (refine wpList_storeRun rfl 62 (.tmp 21) (.tmp 20) rfl _ _ rfl rfl HR4.out ?_))
      go_roundw
      case rel => exact ⟨i + 1, by go_num, by omega, HP4.out, HL4.out, HS4.out⟩
      case measure => simp [intOf]; omega
    · have hin : i = n := by omega
      have hp5 := HPR.out
      rw [hin, HN.out, List.take_length, Nat.sub_self, show zs 0 = [] from rfl, List.append_nil] at hp5
      go_wp2
      go_ret
      exact ⟨⟨_, rfl, Nat.le_succ _, hp5⟩, HLW.out⟩
end En
end Go.Proofs.YtmijploffdoenaaDoor
