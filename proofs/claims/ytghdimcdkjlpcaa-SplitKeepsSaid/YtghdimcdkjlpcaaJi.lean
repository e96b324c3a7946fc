/- The document's in, Size, Split. No premises. -/
import Derived.Test.YtghdimcdkjlpcaaJh
namespace Go.Proofs.Ytghdimcdkjlpcaa
open Go.RowKit Go.Maps
section
variable {P : Program} {ops : Array Oper} {rest : List Oper} {o : Oper} {a : Act} {Q : Exit → Act → World → Prop}
/-- append(v, x), v the call's own: x stands in a new block of its own. -/
theorem wpList_appK (w : World) (cs : Array Value) (k : Nat) (hk : 0 < k) (hcs : cs.size = k) (h1 : ∀ u ∈ cs.toList, u.oneCell' = true) (hgd : o.guard = none) (s x : Operand) (t e : TypeId)
    (ho : o.op = .call { callee := .builtin .append, args := #[s, x], argTypes := #[t, t] }) (i0 : TypeInfo) (z : Value) (bytes : Nat) (ht : P.underlying t = some (.slice e)) (hi : P.info? e = some i0) (hz : i0.zero = some z)
    (hsize : i0.size = k) (hby : i0.bytes = bytes) (hzs : z.cells.size = k)
    (base : Nat) (v : Value) (n : Nat) (xs : List Value) (hs : a.eval s = v) (hown : w.ownsRow base e k v n xs) (N : Nat) (hN : N = w.heap.size) (hx : a.eval x = .slice (some ⟨N, 0, none⟩) 1 1)
    (hn : (n + 1) * bytes ≤ 140737488355328) (hn2 : n + 1 ≤ 140737488355328) (hbase : base ≤ w.heap.size)
    (h : ∀ v' w', GrewK w w' base e k v v' (n + 1) (xs ++ cs.toList) → wpList P ops Q rest (a.put o.dst v') w') : wpList P ops Q (o :: rest) a (w.alloc (.cells cs e)) := by
  subst hN
  refine wpList_plain hgd fun K hK => ?_
  have hown' : (w.alloc (.cells cs e)).ownsRow base e k v n xs := hown.alloc _
  obtain ⟨v', w', hrun, h2, h3, _, h5⟩ := run_append_own_at (P := P) (w.alloc (.cells cs e)) base t o.type e i0 z k bytes ht hi hz hsize hby hzs hk v n xs hown' ⟨w.heap.size, 0, none⟩ 1 1 cs.toList (by simpa using hcs)
    (fun j u hj => by
      rw [add_lit0, cell_of_row _ _ j cs e (0, 0) (heap_alloc_new w _)]
      simpa using hj) h1 (by unfold maxLen; omega) hn (by simp; omega)
  have hg : w.grownBy w' v.ownBlock := by
    have hla := Later.alloc w (.cells cs e)
    exact ⟨h3.os.trans hla.os, h3.tape.trans hla.tape, h3.output.trans hla.output, Nat.le_trans hla.size h3.size, fun k hk hne => (h3.block k (Nat.lt_of_lt_of_le hk hla.size) hne).trans (hla.block k hk)⟩
  unfold Oper.wp execOp
  simp only [ho, resolve, invoke, builtin, Sem.run_bind, Sem.run_pure, Result.andThen_ok, List.map_toArray, List.map_cons, List.map_nil, hs, hx, hrun]
  refine hK _ _ (h v' w' ⟨h2, hg, ?_⟩)
  rcases h5 with h5 | h5
  · exact .inl h5
  · exact .inr ⟨_, h5, by simp⟩
end
namespace Jo
set_option maxRecDepth 100000 in
set_option maxHeartbeats 1600000 in
theorem in_v (c : UInt8) (s : L) (w : World) (hs : s.length ≤ 1000000) : Calls Try.prog 20 #[.int .u8 (c.toNat : Int), .string (mkS s)] w fun e w' => e = .returned (.bool (decide (c ∈ s))) ∧ w' = w := by
  have hsl : ((mkS s).size : Int) = (s.length : Int) := by rw [mkS_size]
  go_enter Try.func20, Try.ntmps20
  go_wp2
  go_loopw [5] (fun i wr => ∃ k : Nat, i = .int .i64 (k : Int) ∧ k ≤ s.length ∧ wr = w ∧ c ∉ s.take k) (fun i _ => s.length - (intOf i).toNat)
  case atStart => exact ⟨0, rfl, Nat.zero_le _, rfl, by simp⟩
  case round =>
    obtain ⟨k, rfl, hk, rfl, hn⟩ := hrel
    have HN := Lib.hid hn
    clear hn
    have hk0 : (0 : Int) ≤ (k : Int) := by omega
    by_cases hlt : k < s.length
    · have hk1 : (k : Int) < (s.length : Int) := by omega
      have hk2 : k < (mkS s).size := by rw [mkS_size]; exact hlt
      obtain ⟨x, hx⟩ : ∃ x, x = (mkS s)[k] := ⟨_, rfl⟩
      have hx2 : s[k] = x := by rw [hx]; exact (mkS_get s k hk2 hlt).symm
      have HTK := Lib.hid (show s.take (k + 1) = s.take k ++ [x] by rw [List.take_succ_eq_append_getElem hlt]; exact congrArg (fun y => s.take k ++ [y]) hx2)
      by_cases he : x = c
      · have hq : (((mkS s)[k].toNat : Int) == (c.toNat : Int)) = true := by rw [← hx, he]; simp
        have HM := Lib.hid (show c ∈ s by rw [← he, ← hx2]; exact List.getElem_mem hlt)
        clear he hx hx2
        go_wp2
        go_ret
        exact ⟨by rw [decide_eq_true HM.out]; rfl, rfl⟩
      · have hq : (((mkS s)[k].toNat : Int) == (c.toNat : Int)) = false := by
          rw [← hx]
          simp only [beq_eq_false_iff_ne, ne_eq]
          intro e
          exact he (UInt8.toNat_inj.1 (by omega))
        have HE := Lib.hid he
        clear he hx hx2
        go_wp2
        go_roundw
        case rel =>
          refine ⟨k + 1, by go_num, by omega, trivial, ?_⟩
          rw [HTK.out]
          intro hm
          rcases List.mem_append.1 hm with hm | hm
          · exact HN.out hm
          · exact HE.out (List.mem_singleton.1 hm).symm
        case measure => simp [intOf]; omega
    · rw [List.take_of_length_le (by omega)] at HN
      go_wp2
      go_ret
      exact ⟨by rw [decide_eq_false HN.out]; rfl, rfl⟩
set_option maxRecDepth 100000 in
theorem size_v (t m : L) (w : World) : Calls Try.prog 19 #[.agg #[.string (mkS t), .string (mkS m)]] w fun e w' => e = .returned (.int .i64 ((t.zip m).length : Int)) ∧ Later w w' := by
  have hst : ((mkS t).size : Int) = (t.length : Int) := by rw [mkS_size]
  have hsm : ((mkS m).size : Int) = (m.length : Int) := by rw [mkS_size]
  have hl := Later.alloc w (.cells #[.string (mkS t), .string (mkS m)] 29)
  by_cases h : t.length < m.length
  · have h2 : (t.length : Int) < (m.length : Int) := by omega
    rw [show (t.zip m).length = t.length by rw [List.length_zip]; omega]
    go_enter Try.func19, Try.ntmps19
    go_wp2
    go_ret
    exact ⟨rfl, hl⟩
  · have h2 : ¬ (t.length : Int) < (m.length : Int) := by omega
    rw [show (t.zip m).length = m.length by rw [List.length_zip]; omega]
    go_enter Try.func19, Try.ntmps19
    go_wp2
    go_ret
    exact ⟨rfl, hl⟩
theorem info_R : (Try.prog.info? 29).map (fun i => (i.zero, i.size, i.bytes)) = some (some (.agg #[.string ⟨#[]⟩, .string ⟨#[]⟩]), 2, 32) := by kernel_rfl
theorem own_mono {w : World} {base base' size n : Nat} {e : TypeId} {v : Value} {xs : List Value} (h : w.ownsRow base e size v n xs) (hb : base' ≤ base) : w.ownsRow base' e size v n xs := by
  refine ⟨h.1, ?_⟩
  rcases h.2 with h2 | ⟨g, cap, cur, h1, h2, h3⟩
  · exact .inl h2
  · exact .inr ⟨g, cap, cur, h1, Nat.le_trans hb h2, h3⟩
/-- The document's Split under way. -/
structure RS (w wr : World) (t m : L) (v : Value) (σ : Q) : Prop where
  low : Later w wr
  bx : wr.heap[w.heap.size]? = some (.cells #[.string (mkS t), .string (mkS m)] 29 (0, 0))
  nb : wr.heap[w.heap.size + 1]? = some (.cells #[.string (mkS (ft σ.now)), .string (mkS (fm σ.now))] 29 (0, 0))
  own : wr.ownsRow (w.heap.size + 2) 29 2 v σ.out.length (rows σ.out)
section
variable {w wr wr' : World} {t m : L} {v v' : Value} {σ : Q}
theorem RS.later (h : RS w wr t m v σ) (hl : Later wr wr') : RS w wr' t m v σ := ⟨h.low.trans hl, later_cells hl h.bx, later_cells hl h.nb, own_below h.own hl⟩
/-- Another field has been begun. -/
theorem RS.set (h : RS w wr t m v σ) (z : Rw) (bg bl : Bool) : RS w ((wr.setCell ⟨w.heap.size + 1, 0, none⟩ (.string (mkS (ft z)))).setCell ⟨w.heap.size + 1, 1, none⟩ (.string (mkS (fm z)))) t m v ⟨σ.out, z, bg, bl⟩ := by
  have g1 := set_only wr (w.heap.size + 1) 0 (.string (mkS (ft z)))
  have g2 := set_only (wr.setCell ⟨w.heap.size + 1, 0, none⟩ (.string (mkS (ft z)))) (w.heap.size + 1) 1 (.string (mkS (fm z)))
  have hn : v.ownBlock ≠ some (w.heap.size + 1) := fun e => by have := (own_ge h.own e).1; omega
  exact ⟨later_of_new (later_of_new h.low g1 (by omega)) g2 (by omega), grown_cells g2 (grown_cells g1 h.bx (by omega)) (by omega), set_row (set_row h.nb 0 _) 1 _, (h.own.kept g1 (.inr hn)).kept g2 (.inr hn)⟩
/-- A field has been told. -/
theorem RS.push (h : RS w wr t m v σ) (hg : GrewK wr wr' (w.heap.size + 2) 29 2 v v' (σ.out.length + 1) (rows σ.out ++ [.string (mkS (ft σ.now)), .string (mkS (fm σ.now))])) : RS w wr' t m v' ⟨σ.out ++ [σ.now], σ.now, σ.begun, σ.blank⟩ := by
  have kp : ∀ {k : Nat} {o : Obj}, k < w.heap.size + 2 → wr.heap[k]? = some o → wr'.heap[k]? = some o := fun hk ho => (hg.grown.block _ (lt_of_block ho) (fun e => by have := (own_ge h.own e.symm).1; omega)).trans ho
  refine ⟨⟨hg.grown.os.trans h.low.os, hg.grown.tape.trans h.low.tape, hg.grown.output.trans h.low.output, Nat.le_trans h.low.size hg.grown.size, fun k hk => ?_⟩, kp (by omega) h.bx, kp (by omega) h.nb, ?_⟩
  · refine (hg.grown.block k (Nat.lt_of_lt_of_le hk h.low.size) fun e => ?_).trans (h.low.block k hk)
    have := (own_ge h.own e.symm).1; omega
  · rw [rows_app, List.length_append]
    exact hg.own
theorem RS.flags (h : RS w wr t m v σ) (bg bl : Bool) : RS w wr t m v ⟨σ.out, σ.now, bg, bl⟩ := ⟨h.low, h.bx, h.nb, h.own⟩
end
theorem f8 {c : UInt8} {n : Nat} {b : Bool} (hn : n < 256) (h : decide (c = UInt8.ofNat n) = b) : ((c.toNat : Int) == (n : Int)) = b := by rw [(eq8 c n hn).1, h]
theorem g8 {c : UInt8} {n : Nat} {b : Bool} (hn : n < 256) (h : decide (c = UInt8.ofNat n) = b) : ((c.toNat : Int) != (n : Int)) = !b := by rw [(eq8 c n hn).2, h]
set_option maxRecDepth 100000 in
set_option maxHeartbeats 6400000 in
theorem rsplit_v (t m ifs : L) (w : World) (hlen : (t.zip m).length ≤ 100000) (hif : ifs.length ≤ 1000000) :
    Calls Try.prog 10 #[.agg #[.string (mkS t), .string (mkS m)], .string (mkS ifs)] w fun e w' => ∃ v, e = .returned v ∧ Later w w' ∧ w'.ownsRow w.heap.size 29 2 v (split ifs (t.zip m)).length (rows (split ifs (t.zip m))) := by
  obtain ⟨i0, hi, hz0, hz1, hz2⟩ := info_parts info_R
  have HS0 := Lib.hid (show RS w ((w.alloc (.cells #[.string (mkS t), .string (mkS m)] 29)).alloc (.cells #[.string ⟨#[]⟩, .string ⟨#[]⟩] 29)) t m (.slice none 0 0) init from by
    have l1 := Later.alloc w (.cells #[.string (mkS t), .string (mkS m)] 29)
    have l2 := Later.alloc (w.alloc (.cells #[.string (mkS t), .string (mkS m)] 29)) (.cells #[.string ⟨#[]⟩, .string ⟨#[]⟩] 29)
    have n2 := heap_alloc_new (w.alloc (.cells #[.string (mkS t), .string (mkS m)] 29)) (.cells #[.string ⟨#[]⟩, .string ⟨#[]⟩] 29)
    rw [World.size_alloc] at n2
    exact ⟨l1.trans l2, later_cells l2 (heap_alloc_new w _), n2, World.ownsRow_nil _ _ _ 2⟩)
  obtain ⟨n, hn⟩ : ∃ n, n = (t.zip m).length := ⟨_, rfl⟩
  have HSZ := Lib.hid (fun W => size_v t m W)
  rw [← hn] at HSZ hlen
  have HNN := Lib.hid hn
  clear hn
  have HLEN := Lib.hid hlen
  have HIF := Lib.hid hif
  clear hlen hif
  go_enter Try.func10, Try.ntmps10
  go_wp2_with (go_at_call 19; (with_reducible refine (HSZ.out _).mono ?_); rintro e w1 ⟨rfl, hl1⟩; (have HS1 := Lib.hid (HS0.out.later hl1)); clear hl1)
  go_loopw [5, 7, 8, 10] (fun s5 s7 s8 s10 wr => ∃ (k : Nat) (v : Value) (σ : Q), s10 = .int .i64 (k : Int) ∧ k ≤ n ∧ s7 = .bool σ.begun ∧ s8 = .bool σ.blank ∧ σ = run ifs ((t.zip m).take k) ∧ (s5 = v ∧ RS w wr t m v σ)) (fun _ _ _ i _ => n - (intOf i).toNat)
  case atStart => exact ⟨0, _, init, rfl, Nat.zero_le _, rfl, rfl, rfl, rfl, HS1.out⟩
  case round =>
    obtain ⟨k, v, σ, rfl, hk, rfl, rfl, hσ, rfl, hs⟩ := hrel
    obtain ⟨A0, c0, hv, _⟩ := own_any hs.own
    subst hv
    have hln := run_len ifs (t.zip m) k (by rw [← HNN.out]; exact hk)
    rw [← hσ] at hln
    obtain ⟨out, now, bg, bl⟩ := σ
    simp only at hs hln ⊢
    have HS := Lib.hid hs
    have HNL := Lib.hid (show now.length ≤ 100000 by have := HLEN.out; have := hln.1; omega)
    have HOL := Lib.hid (show out.length ≤ 100000 by have := HLEN.out; have := hln.2; omega)
    have HBA := Lib.hid (show w.heap.size + 2 ≤ wr.heap.size by have := lt_of_block hs.nb; omega)
    have b0 : wr.cell? ⟨w.heap.size, 0, none⟩ = some (.string (mkS t)) := (cell_row hs.bx 0).1
    have b1 : wr.cell? ⟨w.heap.size, 1, none⟩ = some (.string (mkS m)) := (cell_row hs.bx 1).1
    have q0 : wr.cell? ⟨w.heap.size + 1, 0, none⟩ = some (.string (mkS (ft now))) := (cell_row hs.nb 0).1
    have q1 : wr.cell? ⟨w.heap.size + 1, 1, none⟩ = some (.string (mkS (fm now))) := (cell_row hs.nb 1).1
    have qz := fun i => (cell_row hs.nb i).2
    have hwl := lt_of_block hs.nb
    clear hs hln
    have hk0 : (0 : Int) ≤ (k : Int) := by omega
    by_cases hlt : k < n
    · have hk1 : (k : Int) < (n : Int) := by omega
      have hnb := HLEN.out
      have hzl : n = min t.length m.length := by rw [HNN.out, List.length_zip]
      have hltz : k < (t.zip m).length := by rw [← HNN.out]; exact hlt
      have htl : k < t.length := by omega
      have hml : k < m.length := by omega
      have ht2 : k < (mkS t).size := by rw [mkS_size]; exact htl
      have hm2 : k < (mkS m).size := by rw [mkS_size]; exact hml
      obtain ⟨c, hc⟩ : ∃ c, c = (mkS t)[k] := ⟨_, rfl⟩
      obtain ⟨d, hd⟩ : ∃ d, d = (mkS m)[k] := ⟨_, rfl⟩
      have hp : (t.zip m)[k] = (c, d) := by rw [List.getElem_zip, hc, hd, mkS_get t k ht2 htl, mkS_get m k hm2 hml]
      have HTK := Lib.hid (show run ifs ((t.zip m).take (k + 1)) = step ifs ⟨out, now, bg, bl⟩ (c, d) by rw [run_take hltz, ← hσ, hp])
      have hct : (mkS t)[k] = c := hc.symm
      have hdt : (mkS m)[k] = d := hd.symm
      have HOK := Lib.hid (show bg = false → now = [] from by
        have := run_ok ifs ((t.zip m).take k)
        rw [← hσ] at this
        exact this)
      have HIN0 := fun W => in_v c ifs W HIF.out
      have hcv1 := str1 wr c.toNat (by exact c.toNat_lt) 1
      have hcv2 := str1 (wr.alloc (.cells #[.int .u8 (c.toNat : Int)] 5)) d.toNat (by exact d.toNat_lt) 1
      rw [World.size_alloc] at hcv2
      rw [show UInt8.ofNat c.toNat = c by simp] at hcv1
      rw [show UInt8.ofNat d.toNat = d by simp] at hcv2
      have hs2 := (HS.out.later (Later.alloc wr (.cells #[.int .u8 (c.toNat : Int)] 5))).later (Later.alloc _ (.cells #[.int .u8 (d.toNat : Int)] 5))
      have y0 : ((wr.alloc (.cells #[.int .u8 (c.toNat : Int)] 5)).alloc (.cells #[.int .u8 (d.toNat : Int)] 5)).cell? ⟨w.heap.size + 1, 0, none⟩ = some (.string (mkS (ft now))) := (cell_row hs2.nb 0).1
      have y1 : ((wr.alloc (.cells #[.int .u8 (c.toNat : Int)] 5)).alloc (.cells #[.int .u8 (d.toNat : Int)] 5)).cell? ⟨w.heap.size + 1, 1, none⟩ = some (.string (mkS (fm now))) := (cell_row hs2.nb 1).1
      have yz0 := (cell_row hs2.nb 0).2
      have yz1 := (cell_row hs2.nb 1).2
      clear hs2
      have hsum1 : ¬ 9223372036854775807 < (mkS (ft now)).size + (mkS [c]).size := by rw [mkS_size, mkS_size]; unfold ft; rw [List.length_map]; have := HNL.out; simp; omega
      have hsum2 : ¬ 9223372036854775807 < (mkS (fm now)).size + (mkS [d]).size := by rw [mkS_size, mkS_size]; unfold fm; rw [List.length_map]; have := HNL.out; simp; omega
      have hadd1 : mkS (ft now) ++ mkS [c] = mkS (ft (now ++ [(c, d)])) := by rw [mkS_add]; simp [ft]
      have hadd2 : mkS (fm now) ++ mkS [d] = mkS (fm (now ++ [(c, d)])) := by rw [mkS_add]; simp [fm]
      clear hp hσ hzl hc hd htl hml hltz
      by_cases hd115 : d = 115
      · have f115 : ((d.toNat : Int) == 115) = true := f8 (n := 115) (b := true) (by decide) (by simpa using hd115)
        by_cases hci : c ∈ ifs
        · have hs : sepB ifs (c, d) = true := by simp [sepB, hd115, hci]
          have HIN := Lib.hid (show ∀ W, Calls Try.prog 20 #[.int .u8 (c.toNat : Int), .string (mkS ifs)] W fun e w' => e = .returned (.bool true) ∧ w' = W from fun W => by have := HIN0 W; rw [decide_eq_true hci] at this; exact this)
          clear HIN0
          by_cases hc32 : c = 32
          · have f32 : ((c.toNat : Int) == 32) = true := f8 (n := 32) (b := true) (by decide) (by simpa using hc32)
            have hw : whiteB c = true := by simp [whiteB, hc32]
            cases bg with
            | true =>
              have HST := Lib.hid (show step ifs ⟨out, now, true, bl⟩ (c, d) = ⟨out ++ [now], [], false, true⟩ from by unfold step; simp [hs, hw])
              clear hd115 hci hs hc32 hw
              go_wp2_with (first
                | (go_at_call 20; (with_reducible refine (HIN.out wr).mono ?_); rintro e w2 ⟨rfl, hw2⟩; (have hw2 := hw2.symm); subst hw2)
                | (at_builtin; refine wpList_appK wr #[.string (mkS (ft now)), .string (mkS (fm now))] 2 (by omega) rfl (by intro u hu; simp at hu; rcases hu with rfl | rfl <;> rfl) rfl (.tmp 53) (.tmp 55) 27 29 rfl i0 _ 32 Try.underlying27 hi hz0 hz1 hz2 rfl (w.heap.size + 2) (.slice A0 out.length c0) out.length (rows out) rfl HS.out.own _ rfl rfl (by have := HOL.out; omega) (by have := HOL.out; omega) HBA.out ?_; intro v3 w3 hg3; obtain ⟨A9, c9, hv9, _⟩ := own_any hg3.own; subst hv9; (have hp := HS.out.push hg3); (have k0 : w3.cell? ⟨w.heap.size + 1, 0, none⟩ = some (.string (mkS (ft now))) := (cell_row hp.nb 0).1); (have k1 : w3.cell? ⟨w.heap.size + 1, 1, none⟩ = some (.string (mkS (fm now))) := (cell_row hp.nb 1).1); (have kz := fun i => (cell_row hp.nb i).2); (have HP := Lib.hid hp); clear hg3 hp))
              go_roundw
              case rel => exact ⟨k + 1, _, _, by go_num, by omega, rfl, rfl, by rw [HTK.out, HST.out], rfl, HP.out.set [] false true⟩
              case measure => simp [intOf]; omega
            | false =>
              have HST := Lib.hid (show step ifs ⟨out, now, false, bl⟩ (c, d) = ⟨out, now, false, bl⟩ from by unfold step; simp [hs, hw])
              clear hd115 hci hs hc32 hw
              go_wp2_with (first
                | (go_at_call 20; (with_reducible refine (HIN.out wr).mono ?_); rintro e w2 ⟨rfl, hw2⟩; (have hw2 := hw2.symm); subst hw2))
              go_roundw
              case rel => exact ⟨k + 1, _, _, by go_num, by omega, rfl, rfl, by rw [HTK.out, HST.out], rfl, HS.out⟩
              case measure => simp [intOf]; omega
          by_cases hc9 : c = 9
          · have f32 : ((c.toNat : Int) == 32) = false := f8 (n := 32) (b := false) (by decide) (by simpa using hc32)
            have f9 : ((c.toNat : Int) == 9) = true := f8 (n := 9) (b := true) (by decide) (by simpa using hc9)
            have hw : whiteB c = true := by simp [whiteB, hc9]
            cases bg with
            | true =>
              have HST := Lib.hid (show step ifs ⟨out, now, true, bl⟩ (c, d) = ⟨out ++ [now], [], false, true⟩ from by unfold step; simp [hs, hw])
              clear hd115 hci hs hc9 hw
              go_wp2_with (first
                | (go_at_call 20; (with_reducible refine (HIN.out wr).mono ?_); rintro e w2 ⟨rfl, hw2⟩; (have hw2 := hw2.symm); subst hw2)
                | (at_builtin; refine wpList_appK wr #[.string (mkS (ft now)), .string (mkS (fm now))] 2 (by omega) rfl (by intro u hu; simp at hu; rcases hu with rfl | rfl <;> rfl) rfl (.tmp 53) (.tmp 55) 27 29 rfl i0 _ 32 Try.underlying27 hi hz0 hz1 hz2 rfl (w.heap.size + 2) (.slice A0 out.length c0) out.length (rows out) rfl HS.out.own _ rfl rfl (by have := HOL.out; omega) (by have := HOL.out; omega) HBA.out ?_; intro v3 w3 hg3; obtain ⟨A9, c9, hv9, _⟩ := own_any hg3.own; subst hv9; (have hp := HS.out.push hg3); (have k0 : w3.cell? ⟨w.heap.size + 1, 0, none⟩ = some (.string (mkS (ft now))) := (cell_row hp.nb 0).1); (have k1 : w3.cell? ⟨w.heap.size + 1, 1, none⟩ = some (.string (mkS (fm now))) := (cell_row hp.nb 1).1); (have kz := fun i => (cell_row hp.nb i).2); (have HP := Lib.hid hp); clear hg3 hp))
              go_roundw
              case rel => exact ⟨k + 1, _, _, by go_num, by omega, rfl, rfl, by rw [HTK.out, HST.out], rfl, HP.out.set [] false true⟩
              case measure => simp [intOf]; omega
            | false =>
              have HST := Lib.hid (show step ifs ⟨out, now, false, bl⟩ (c, d) = ⟨out, now, false, bl⟩ from by unfold step; simp [hs, hw])
              clear hd115 hci hs hc9 hw
              go_wp2_with (first
                | (go_at_call 20; (with_reducible refine (HIN.out wr).mono ?_); rintro e w2 ⟨rfl, hw2⟩; (have hw2 := hw2.symm); subst hw2))
              go_roundw
              case rel => exact ⟨k + 1, _, _, by go_num, by omega, rfl, rfl, by rw [HTK.out, HST.out], rfl, HS.out⟩
              case measure => simp [intOf]; omega
          by_cases hc10 : c = 10
          · have f32 : ((c.toNat : Int) == 32) = false := f8 (n := 32) (b := false) (by decide) (by simpa using hc32)
            have f9 : ((c.toNat : Int) == 9) = false := f8 (n := 9) (b := false) (by decide) (by simpa using hc9)
            have f10 : ((c.toNat : Int) == 10) = true := f8 (n := 10) (b := true) (by decide) (by simpa using hc10)
            have hw : whiteB c = true := by simp [whiteB, hc10]
            cases bg with
            | true =>
              have HST := Lib.hid (show step ifs ⟨out, now, true, bl⟩ (c, d) = ⟨out ++ [now], [], false, true⟩ from by unfold step; simp [hs, hw])
              clear hd115 hci hs hc10 hw
              go_wp2_with (first
                | (go_at_call 20; (with_reducible refine (HIN.out wr).mono ?_); rintro e w2 ⟨rfl, hw2⟩; (have hw2 := hw2.symm); subst hw2)
                | (at_builtin; refine wpList_appK wr #[.string (mkS (ft now)), .string (mkS (fm now))] 2 (by omega) rfl (by intro u hu; simp at hu; rcases hu with rfl | rfl <;> rfl) rfl (.tmp 53) (.tmp 55) 27 29 rfl i0 _ 32 Try.underlying27 hi hz0 hz1 hz2 rfl (w.heap.size + 2) (.slice A0 out.length c0) out.length (rows out) rfl HS.out.own _ rfl rfl (by have := HOL.out; omega) (by have := HOL.out; omega) HBA.out ?_; intro v3 w3 hg3; obtain ⟨A9, c9, hv9, _⟩ := own_any hg3.own; subst hv9; (have hp := HS.out.push hg3); (have k0 : w3.cell? ⟨w.heap.size + 1, 0, none⟩ = some (.string (mkS (ft now))) := (cell_row hp.nb 0).1); (have k1 : w3.cell? ⟨w.heap.size + 1, 1, none⟩ = some (.string (mkS (fm now))) := (cell_row hp.nb 1).1); (have kz := fun i => (cell_row hp.nb i).2); (have HP := Lib.hid hp); clear hg3 hp))
              go_roundw
              case rel => exact ⟨k + 1, _, _, by go_num, by omega, rfl, rfl, by rw [HTK.out, HST.out], rfl, HP.out.set [] false true⟩
              case measure => simp [intOf]; omega
            | false =>
              have HST := Lib.hid (show step ifs ⟨out, now, false, bl⟩ (c, d) = ⟨out, now, false, bl⟩ from by unfold step; simp [hs, hw])
              clear hd115 hci hs hc10 hw
              go_wp2_with (first
                | (go_at_call 20; (with_reducible refine (HIN.out wr).mono ?_); rintro e w2 ⟨rfl, hw2⟩; (have hw2 := hw2.symm); subst hw2))
              go_roundw
              case rel => exact ⟨k + 1, _, _, by go_num, by omega, rfl, rfl, by rw [HTK.out, HST.out], rfl, HS.out⟩
              case measure => simp [intOf]; omega
          · have f32 : ((c.toNat : Int) == 32) = false := f8 (n := 32) (b := false) (by decide) (by simpa using hc32)
            have f9 : ((c.toNat : Int) == 9) = false := f8 (n := 9) (b := false) (by decide) (by simpa using hc9)
            have f10 : ((c.toNat : Int) == 10) = false := f8 (n := 10) (b := false) (by decide) (by simpa using hc10)
            have hw : whiteB c = false := by simp [whiteB, hc32, hc9, hc10]
            cases bg with
            | true =>
              have HST := Lib.hid (show step ifs ⟨out, now, true, bl⟩ (c, d) = ⟨out ++ [now], [], false, false⟩ from by unfold step; simp [hs, hw])
              clear hd115 hci hs hc10 hw
              go_wp2_with (first
                | (go_at_call 20; (with_reducible refine (HIN.out wr).mono ?_); rintro e w2 ⟨rfl, hw2⟩; (have hw2 := hw2.symm); subst hw2)
                | (at_builtin; refine wpList_appK wr #[.string (mkS (ft now)), .string (mkS (fm now))] 2 (by omega) rfl (by intro u hu; simp at hu; rcases hu with rfl | rfl <;> rfl) rfl (.tmp 64) (.tmp 66) 27 29 rfl i0 _ 32 Try.underlying27 hi hz0 hz1 hz2 rfl (w.heap.size + 2) (.slice A0 out.length c0) out.length (rows out) rfl HS.out.own _ rfl rfl (by have := HOL.out; omega) (by have := HOL.out; omega) HBA.out ?_; intro v3 w3 hg3; obtain ⟨A9, c9, hv9, _⟩ := own_any hg3.own; subst hv9; (have hp := HS.out.push hg3); (have k0 : w3.cell? ⟨w.heap.size + 1, 0, none⟩ = some (.string (mkS (ft now))) := (cell_row hp.nb 0).1); (have k1 : w3.cell? ⟨w.heap.size + 1, 1, none⟩ = some (.string (mkS (fm now))) := (cell_row hp.nb 1).1); (have kz := fun i => (cell_row hp.nb i).2); (have HP := Lib.hid hp); clear hg3 hp))
              go_roundw
              case rel => exact ⟨k + 1, _, _, by go_num, by omega, rfl, rfl, by rw [HTK.out, HST.out], rfl, HP.out.set [] false false⟩
              case measure => simp [intOf]; omega
            | false =>
              cases bl with
              | true =>
                have HST := Lib.hid (show step ifs ⟨out, now, false, true⟩ (c, d) = ⟨out, [], false, false⟩ from by unfold step; simp [hs, hw])
                clear hd115 hci hs hc10 hw
                go_wp2_with (first
                  | (go_at_call 20; (with_reducible refine (HIN.out wr).mono ?_); rintro e w2 ⟨rfl, hw2⟩; (have hw2 := hw2.symm); subst hw2))
                go_roundw
                case rel => exact ⟨k + 1, _, _, by go_num, by omega, rfl, rfl, by rw [HTK.out, HST.out], rfl, HS.out.set [] false false⟩
                case measure => simp [intOf]; omega
              | false =>
                have HST := Lib.hid (show step ifs ⟨out, now, false, false⟩ (c, d) = ⟨out ++ [now], [], false, false⟩ from by unfold step; simp [hs, hw])
                clear hd115 hci hs hc10 hw
                go_wp2_with (first
                  | (go_at_call 20; (with_reducible refine (HIN.out wr).mono ?_); rintro e w2 ⟨rfl, hw2⟩; (have hw2 := hw2.symm); subst hw2)
                  | (at_builtin; refine wpList_appK wr #[.string (mkS (ft now)), .string (mkS (fm now))] 2 (by omega) rfl (by intro u hu; simp at hu; rcases hu with rfl | rfl <;> rfl) rfl (.tmp 64) (.tmp 66) 27 29 rfl i0 _ 32 Try.underlying27 hi hz0 hz1 hz2 rfl (w.heap.size + 2) (.slice A0 out.length c0) out.length (rows out) rfl HS.out.own _ rfl rfl (by have := HOL.out; omega) (by have := HOL.out; omega) HBA.out ?_; intro v3 w3 hg3; obtain ⟨A9, c9, hv9, _⟩ := own_any hg3.own; subst hv9; (have hp := HS.out.push hg3); (have k0 : w3.cell? ⟨w.heap.size + 1, 0, none⟩ = some (.string (mkS (ft now))) := (cell_row hp.nb 0).1); (have k1 : w3.cell? ⟨w.heap.size + 1, 1, none⟩ = some (.string (mkS (fm now))) := (cell_row hp.nb 1).1); (have kz := fun i => (cell_row hp.nb i).2); (have HP := Lib.hid hp); clear hg3 hp))
                go_roundw
                case rel => exact ⟨k + 1, _, _, by go_num, by omega, rfl, rfl, by rw [HTK.out, HST.out], rfl, HP.out.set [] false false⟩
                case measure => simp [intOf]; omega
        · have hs : sepB ifs (c, d) = false := by simp [sepB, hci]
          have HIN := Lib.hid (show ∀ W, Calls Try.prog 20 #[.int .u8 (c.toNat : Int), .string (mkS ifs)] W fun e w' => e = .returned (.bool false) ∧ w' = W from fun W => by have := HIN0 W; rw [decide_eq_false hci] at this; exact this)
          clear HIN0
          have hd98 : ¬ d = 98 := by rw [hd115]; decide
          have hd101 : ¬ d = 101 := by rw [hd115]; decide
          have f98 : ((d.toNat : Int) == 98) = false := f8 (n := 98) (b := false) (by decide) (by simpa using hd98)
          have n101 : ((d.toNat : Int) != 101) = true := g8 (n := 101) (b := false) (by decide) (by simpa using hd101)
          by_cases hc32 : c = 32
          · have f32 : ((c.toNat : Int) == 32) = true := f8 (n := 32) (b := true) (by decide) (by simpa using hc32)
            have hw : whiteB c = true := by simp [whiteB, hc32]
            have HST := Lib.hid (show step ifs ⟨out, now, bg, bl⟩ (c, d) = ⟨out, now ++ [(c, d)], true, false⟩ from by unfold step; rw [hs]; simp [hd98, hd101])
            clear hd115 hci hs hd98 hd101 hc32 hw
            go_wp2_with (first
              | (go_at_call 20; (with_reducible refine (HIN.out wr).mono ?_); rintro e w2 ⟨rfl, hw2⟩; (have hw2 := hw2.symm); subst hw2))
            go_roundw
            case rel => exact ⟨k + 1, _, _, by go_num, by omega, rfl, rfl, by rw [HTK.out, HST.out], rfl, ((HS.out.later (Later.alloc wr (.cells #[.int .u8 (c.toNat : Int)] 5))).later (Later.alloc _ (.cells #[.int .u8 (d.toNat : Int)] 5))).set (now ++ [(c, d)]) true false⟩
            case measure => simp [intOf]; omega
          by_cases hc9 : c = 9
          · have f32 : ((c.toNat : Int) == 32) = false := f8 (n := 32) (b := false) (by decide) (by simpa using hc32)
            have f9 : ((c.toNat : Int) == 9) = true := f8 (n := 9) (b := true) (by decide) (by simpa using hc9)
            have hw : whiteB c = true := by simp [whiteB, hc9]
            have HST := Lib.hid (show step ifs ⟨out, now, bg, bl⟩ (c, d) = ⟨out, now ++ [(c, d)], true, false⟩ from by unfold step; rw [hs]; simp [hd98, hd101])
            clear hd115 hci hs hd98 hd101 hc9 hw
            go_wp2_with (first
              | (go_at_call 20; (with_reducible refine (HIN.out wr).mono ?_); rintro e w2 ⟨rfl, hw2⟩; (have hw2 := hw2.symm); subst hw2))
            go_roundw
            case rel => exact ⟨k + 1, _, _, by go_num, by omega, rfl, rfl, by rw [HTK.out, HST.out], rfl, ((HS.out.later (Later.alloc wr (.cells #[.int .u8 (c.toNat : Int)] 5))).later (Later.alloc _ (.cells #[.int .u8 (d.toNat : Int)] 5))).set (now ++ [(c, d)]) true false⟩
            case measure => simp [intOf]; omega
          by_cases hc10 : c = 10
          · have f32 : ((c.toNat : Int) == 32) = false := f8 (n := 32) (b := false) (by decide) (by simpa using hc32)
            have f9 : ((c.toNat : Int) == 9) = false := f8 (n := 9) (b := false) (by decide) (by simpa using hc9)
            have f10 : ((c.toNat : Int) == 10) = true := f8 (n := 10) (b := true) (by decide) (by simpa using hc10)
            have hw : whiteB c = true := by simp [whiteB, hc10]
            have HST := Lib.hid (show step ifs ⟨out, now, bg, bl⟩ (c, d) = ⟨out, now ++ [(c, d)], true, false⟩ from by unfold step; rw [hs]; simp [hd98, hd101])
            clear hd115 hci hs hd98 hd101 hc10 hw
            go_wp2_with (first
              | (go_at_call 20; (with_reducible refine (HIN.out wr).mono ?_); rintro e w2 ⟨rfl, hw2⟩; (have hw2 := hw2.symm); subst hw2))
            go_roundw
            case rel => exact ⟨k + 1, _, _, by go_num, by omega, rfl, rfl, by rw [HTK.out, HST.out], rfl, ((HS.out.later (Later.alloc wr (.cells #[.int .u8 (c.toNat : Int)] 5))).later (Later.alloc _ (.cells #[.int .u8 (d.toNat : Int)] 5))).set (now ++ [(c, d)]) true false⟩
            case measure => simp [intOf]; omega
          · have f32 : ((c.toNat : Int) == 32) = false := f8 (n := 32) (b := false) (by decide) (by simpa using hc32)
            have f9 : ((c.toNat : Int) == 9) = false := f8 (n := 9) (b := false) (by decide) (by simpa using hc9)
            have f10 : ((c.toNat : Int) == 10) = false := f8 (n := 10) (b := false) (by decide) (by simpa using hc10)
            have hw : whiteB c = false := by simp [whiteB, hc32, hc9, hc10]
            have HST := Lib.hid (show step ifs ⟨out, now, bg, bl⟩ (c, d) = ⟨out, now ++ [(c, d)], true, false⟩ from by unfold step; rw [hs]; simp [hd98, hd101])
            clear hd115 hci hs hd98 hd101 hc10 hw
            go_wp2_with (first
              | (go_at_call 20; (with_reducible refine (HIN.out wr).mono ?_); rintro e w2 ⟨rfl, hw2⟩; (have hw2 := hw2.symm); subst hw2))
            go_roundw
            case rel => exact ⟨k + 1, _, _, by go_num, by omega, rfl, rfl, by rw [HTK.out, HST.out], rfl, ((HS.out.later (Later.alloc wr (.cells #[.int .u8 (c.toNat : Int)] 5))).later (Later.alloc _ (.cells #[.int .u8 (d.toNat : Int)] 5))).set (now ++ [(c, d)]) true false⟩
            case measure => simp [intOf]; omega
      · have f115 : ((d.toNat : Int) == 115) = false := f8 (n := 115) (b := false) (by decide) (by simpa using hd115)
        have hs : sepB ifs (c, d) = false := by simp [sepB, hd115]
        clear HIN0
        by_cases hd98 : d = 98
        · have f98 : ((d.toNat : Int) == 98) = true := f8 (n := 98) (b := true) (by decide) (by simpa using hd98)
          by_cases hc32 : c = 32
          · have f32 : ((c.toNat : Int) == 32) = true := f8 (n := 32) (b := true) (by decide) (by simpa using hc32)
            have hw : whiteB c = true := by simp [whiteB, hc32]
            cases bg with
            | true =>
              have HST := Lib.hid (show step ifs ⟨out, now, true, bl⟩ (c, d) = ⟨out ++ [now], [], false, false⟩ from by unfold step; rw [hs]; simp [hd98])
              clear hd115 hs hd98 hc32 hw
              go_wp2_with (first
                | (at_builtin; refine wpList_appK wr #[.string (mkS (ft now)), .string (mkS (fm now))] 2 (by omega) rfl (by intro u hu; simp at hu; rcases hu with rfl | rfl <;> rfl) rfl (.tmp 72) (.tmp 74) 27 29 rfl i0 _ 32 Try.underlying27 hi hz0 hz1 hz2 rfl (w.heap.size + 2) (.slice A0 out.length c0) out.length (rows out) rfl HS.out.own _ rfl rfl (by have := HOL.out; omega) (by have := HOL.out; omega) HBA.out ?_; intro v3 w3 hg3; obtain ⟨A9, c9, hv9, _⟩ := own_any hg3.own; subst hv9; (have hp := HS.out.push hg3); (have k0 : w3.cell? ⟨w.heap.size + 1, 0, none⟩ = some (.string (mkS (ft now))) := (cell_row hp.nb 0).1); (have k1 : w3.cell? ⟨w.heap.size + 1, 1, none⟩ = some (.string (mkS (fm now))) := (cell_row hp.nb 1).1); (have kz := fun i => (cell_row hp.nb i).2); (have HP := Lib.hid hp); clear hg3 hp))
              go_roundw
              case rel => exact ⟨k + 1, _, _, by go_num, by omega, rfl, rfl, by rw [HTK.out, HST.out], rfl, HP.out.set [] false false⟩
              case measure => simp [intOf]; omega
            | false =>
              have HST := Lib.hid (show step ifs ⟨out, now, false, bl⟩ (c, d) = ⟨out, [], false, false⟩ from by unfold step; rw [hs]; simp [hd98])
              clear hd115 hs hd98 hc32 hw
              go_wp2_with fail
              go_roundw
              case rel => exact ⟨k + 1, _, _, by go_num, by omega, rfl, rfl, by rw [HTK.out, HST.out], rfl, HS.out.set [] false false⟩
              case measure => simp [intOf]; omega
          by_cases hc9 : c = 9
          · have f32 : ((c.toNat : Int) == 32) = false := f8 (n := 32) (b := false) (by decide) (by simpa using hc32)
            have f9 : ((c.toNat : Int) == 9) = true := f8 (n := 9) (b := true) (by decide) (by simpa using hc9)
            have hw : whiteB c = true := by simp [whiteB, hc9]
            cases bg with
            | true =>
              have HST := Lib.hid (show step ifs ⟨out, now, true, bl⟩ (c, d) = ⟨out ++ [now], [], false, false⟩ from by unfold step; rw [hs]; simp [hd98])
              clear hd115 hs hd98 hc9 hw
              go_wp2_with (first
                | (at_builtin; refine wpList_appK wr #[.string (mkS (ft now)), .string (mkS (fm now))] 2 (by omega) rfl (by intro u hu; simp at hu; rcases hu with rfl | rfl <;> rfl) rfl (.tmp 72) (.tmp 74) 27 29 rfl i0 _ 32 Try.underlying27 hi hz0 hz1 hz2 rfl (w.heap.size + 2) (.slice A0 out.length c0) out.length (rows out) rfl HS.out.own _ rfl rfl (by have := HOL.out; omega) (by have := HOL.out; omega) HBA.out ?_; intro v3 w3 hg3; obtain ⟨A9, c9, hv9, _⟩ := own_any hg3.own; subst hv9; (have hp := HS.out.push hg3); (have k0 : w3.cell? ⟨w.heap.size + 1, 0, none⟩ = some (.string (mkS (ft now))) := (cell_row hp.nb 0).1); (have k1 : w3.cell? ⟨w.heap.size + 1, 1, none⟩ = some (.string (mkS (fm now))) := (cell_row hp.nb 1).1); (have kz := fun i => (cell_row hp.nb i).2); (have HP := Lib.hid hp); clear hg3 hp))
              go_roundw
              case rel => exact ⟨k + 1, _, _, by go_num, by omega, rfl, rfl, by rw [HTK.out, HST.out], rfl, HP.out.set [] false false⟩
              case measure => simp [intOf]; omega
            | false =>
              have HST := Lib.hid (show step ifs ⟨out, now, false, bl⟩ (c, d) = ⟨out, [], false, false⟩ from by unfold step; rw [hs]; simp [hd98])
              clear hd115 hs hd98 hc9 hw
              go_wp2_with fail
              go_roundw
              case rel => exact ⟨k + 1, _, _, by go_num, by omega, rfl, rfl, by rw [HTK.out, HST.out], rfl, HS.out.set [] false false⟩
              case measure => simp [intOf]; omega
          by_cases hc10 : c = 10
          · have f32 : ((c.toNat : Int) == 32) = false := f8 (n := 32) (b := false) (by decide) (by simpa using hc32)
            have f9 : ((c.toNat : Int) == 9) = false := f8 (n := 9) (b := false) (by decide) (by simpa using hc9)
            have f10 : ((c.toNat : Int) == 10) = true := f8 (n := 10) (b := true) (by decide) (by simpa using hc10)
            have hw : whiteB c = true := by simp [whiteB, hc10]
            cases bg with
            | true =>
              have HST := Lib.hid (show step ifs ⟨out, now, true, bl⟩ (c, d) = ⟨out ++ [now], [], false, false⟩ from by unfold step; rw [hs]; simp [hd98])
              clear hd115 hs hd98 hc10 hw
              go_wp2_with (first
                | (at_builtin; refine wpList_appK wr #[.string (mkS (ft now)), .string (mkS (fm now))] 2 (by omega) rfl (by intro u hu; simp at hu; rcases hu with rfl | rfl <;> rfl) rfl (.tmp 72) (.tmp 74) 27 29 rfl i0 _ 32 Try.underlying27 hi hz0 hz1 hz2 rfl (w.heap.size + 2) (.slice A0 out.length c0) out.length (rows out) rfl HS.out.own _ rfl rfl (by have := HOL.out; omega) (by have := HOL.out; omega) HBA.out ?_; intro v3 w3 hg3; obtain ⟨A9, c9, hv9, _⟩ := own_any hg3.own; subst hv9; (have hp := HS.out.push hg3); (have k0 : w3.cell? ⟨w.heap.size + 1, 0, none⟩ = some (.string (mkS (ft now))) := (cell_row hp.nb 0).1); (have k1 : w3.cell? ⟨w.heap.size + 1, 1, none⟩ = some (.string (mkS (fm now))) := (cell_row hp.nb 1).1); (have kz := fun i => (cell_row hp.nb i).2); (have HP := Lib.hid hp); clear hg3 hp))
              go_roundw
              case rel => exact ⟨k + 1, _, _, by go_num, by omega, rfl, rfl, by rw [HTK.out, HST.out], rfl, HP.out.set [] false false⟩
              case measure => simp [intOf]; omega
            | false =>
              have HST := Lib.hid (show step ifs ⟨out, now, false, bl⟩ (c, d) = ⟨out, [], false, false⟩ from by unfold step; rw [hs]; simp [hd98])
              clear hd115 hs hd98 hc10 hw
              go_wp2_with fail
              go_roundw
              case rel => exact ⟨k + 1, _, _, by go_num, by omega, rfl, rfl, by rw [HTK.out, HST.out], rfl, HS.out.set [] false false⟩
              case measure => simp [intOf]; omega
          · have f32 : ((c.toNat : Int) == 32) = false := f8 (n := 32) (b := false) (by decide) (by simpa using hc32)
            have f9 : ((c.toNat : Int) == 9) = false := f8 (n := 9) (b := false) (by decide) (by simpa using hc9)
            have f10 : ((c.toNat : Int) == 10) = false := f8 (n := 10) (b := false) (by decide) (by simpa using hc10)
            have hw : whiteB c = false := by simp [whiteB, hc32, hc9, hc10]
            cases bg with
            | true =>
              have HST := Lib.hid (show step ifs ⟨out, now, true, bl⟩ (c, d) = ⟨out ++ [now], [], false, false⟩ from by unfold step; rw [hs]; simp [hd98])
              clear hd115 hs hd98 hc10 hw
              go_wp2_with (first
                | (at_builtin; refine wpList_appK wr #[.string (mkS (ft now)), .string (mkS (fm now))] 2 (by omega) rfl (by intro u hu; simp at hu; rcases hu with rfl | rfl <;> rfl) rfl (.tmp 72) (.tmp 74) 27 29 rfl i0 _ 32 Try.underlying27 hi hz0 hz1 hz2 rfl (w.heap.size + 2) (.slice A0 out.length c0) out.length (rows out) rfl HS.out.own _ rfl rfl (by have := HOL.out; omega) (by have := HOL.out; omega) HBA.out ?_; intro v3 w3 hg3; obtain ⟨A9, c9, hv9, _⟩ := own_any hg3.own; subst hv9; (have hp := HS.out.push hg3); (have k0 : w3.cell? ⟨w.heap.size + 1, 0, none⟩ = some (.string (mkS (ft now))) := (cell_row hp.nb 0).1); (have k1 : w3.cell? ⟨w.heap.size + 1, 1, none⟩ = some (.string (mkS (fm now))) := (cell_row hp.nb 1).1); (have kz := fun i => (cell_row hp.nb i).2); (have HP := Lib.hid hp); clear hg3 hp))
              go_roundw
              case rel => exact ⟨k + 1, _, _, by go_num, by omega, rfl, rfl, by rw [HTK.out, HST.out], rfl, HP.out.set [] false false⟩
              case measure => simp [intOf]; omega
            | false =>
              have HST := Lib.hid (show step ifs ⟨out, now, false, bl⟩ (c, d) = ⟨out, [], false, false⟩ from by unfold step; rw [hs]; simp [hd98])
              clear hd115 hs hd98 hc10 hw
              go_wp2_with fail
              go_roundw
              case rel => exact ⟨k + 1, _, _, by go_num, by omega, rfl, rfl, by rw [HTK.out, HST.out], rfl, HS.out.set [] false false⟩
              case measure => simp [intOf]; omega
        · have f98 : ((d.toNat : Int) == 98) = false := f8 (n := 98) (b := false) (by decide) (by simpa using hd98)
          by_cases hd101 : d = 101
          · have n101 : ((d.toNat : Int) != 101) = false := g8 (n := 101) (b := true) (by decide) (by simpa using hd101)
            by_cases hc32 : c = 32
            · have f32 : ((c.toNat : Int) == 32) = true := f8 (n := 32) (b := true) (by decide) (by simpa using hc32)
              have hw : whiteB c = true := by simp [whiteB, hc32]
              have HST := Lib.hid (show step ifs ⟨out, now, bg, bl⟩ (c, d) = ⟨out, now, true, false⟩ from by unfold step; rw [hs]; simp [hd101])
              clear hd115 hs hd98 hd101 hc32 hw
              go_wp2_with fail
              go_roundw
              case rel => exact ⟨k + 1, _, _, by go_num, by omega, rfl, rfl, by rw [HTK.out, HST.out], rfl, HS.out.flags true false⟩
              case measure => simp [intOf]; omega
            by_cases hc9 : c = 9
            · have f32 : ((c.toNat : Int) == 32) = false := f8 (n := 32) (b := false) (by decide) (by simpa using hc32)
              have f9 : ((c.toNat : Int) == 9) = true := f8 (n := 9) (b := true) (by decide) (by simpa using hc9)
              have hw : whiteB c = true := by simp [whiteB, hc9]
              have HST := Lib.hid (show step ifs ⟨out, now, bg, bl⟩ (c, d) = ⟨out, now, true, false⟩ from by unfold step; rw [hs]; simp [hd101])
              clear hd115 hs hd98 hd101 hc9 hw
              go_wp2_with fail
              go_roundw
              case rel => exact ⟨k + 1, _, _, by go_num, by omega, rfl, rfl, by rw [HTK.out, HST.out], rfl, HS.out.flags true false⟩
              case measure => simp [intOf]; omega
            by_cases hc10 : c = 10
            · have f32 : ((c.toNat : Int) == 32) = false := f8 (n := 32) (b := false) (by decide) (by simpa using hc32)
              have f9 : ((c.toNat : Int) == 9) = false := f8 (n := 9) (b := false) (by decide) (by simpa using hc9)
              have f10 : ((c.toNat : Int) == 10) = true := f8 (n := 10) (b := true) (by decide) (by simpa using hc10)
              have hw : whiteB c = true := by simp [whiteB, hc10]
              have HST := Lib.hid (show step ifs ⟨out, now, bg, bl⟩ (c, d) = ⟨out, now, true, false⟩ from by unfold step; rw [hs]; simp [hd101])
              clear hd115 hs hd98 hd101 hc10 hw
              go_wp2_with fail
              go_roundw
              case rel => exact ⟨k + 1, _, _, by go_num, by omega, rfl, rfl, by rw [HTK.out, HST.out], rfl, HS.out.flags true false⟩
              case measure => simp [intOf]; omega
            · have f32 : ((c.toNat : Int) == 32) = false := f8 (n := 32) (b := false) (by decide) (by simpa using hc32)
              have f9 : ((c.toNat : Int) == 9) = false := f8 (n := 9) (b := false) (by decide) (by simpa using hc9)
              have f10 : ((c.toNat : Int) == 10) = false := f8 (n := 10) (b := false) (by decide) (by simpa using hc10)
              have hw : whiteB c = false := by simp [whiteB, hc32, hc9, hc10]
              have HST := Lib.hid (show step ifs ⟨out, now, bg, bl⟩ (c, d) = ⟨out, now, true, false⟩ from by unfold step; rw [hs]; simp [hd101])
              clear hd115 hs hd98 hd101 hc10 hw
              go_wp2_with fail
              go_roundw
              case rel => exact ⟨k + 1, _, _, by go_num, by omega, rfl, rfl, by rw [HTK.out, HST.out], rfl, HS.out.flags true false⟩
              case measure => simp [intOf]; omega
          · have n101 : ((d.toNat : Int) != 101) = true := g8 (n := 101) (b := false) (by decide) (by simpa using hd101)
            by_cases hc32 : c = 32
            · have f32 : ((c.toNat : Int) == 32) = true := f8 (n := 32) (b := true) (by decide) (by simpa using hc32)
              have hw : whiteB c = true := by simp [whiteB, hc32]
              have HST := Lib.hid (show step ifs ⟨out, now, bg, bl⟩ (c, d) = ⟨out, now ++ [(c, d)], true, false⟩ from by unfold step; rw [hs]; simp [hd98, hd101])
              clear hd115 hs hd98 hd101 hc32 hw
              go_wp2_with fail
              go_roundw
              case rel => exact ⟨k + 1, _, _, by go_num, by omega, rfl, rfl, by rw [HTK.out, HST.out], rfl, ((HS.out.later (Later.alloc wr (.cells #[.int .u8 (c.toNat : Int)] 5))).later (Later.alloc _ (.cells #[.int .u8 (d.toNat : Int)] 5))).set (now ++ [(c, d)]) true false⟩
              case measure => simp [intOf]; omega
            by_cases hc9 : c = 9
            · have f32 : ((c.toNat : Int) == 32) = false := f8 (n := 32) (b := false) (by decide) (by simpa using hc32)
              have f9 : ((c.toNat : Int) == 9) = true := f8 (n := 9) (b := true) (by decide) (by simpa using hc9)
              have hw : whiteB c = true := by simp [whiteB, hc9]
              have HST := Lib.hid (show step ifs ⟨out, now, bg, bl⟩ (c, d) = ⟨out, now ++ [(c, d)], true, false⟩ from by unfold step; rw [hs]; simp [hd98, hd101])
              clear hd115 hs hd98 hd101 hc9 hw
              go_wp2_with fail
              go_roundw
              case rel => exact ⟨k + 1, _, _, by go_num, by omega, rfl, rfl, by rw [HTK.out, HST.out], rfl, ((HS.out.later (Later.alloc wr (.cells #[.int .u8 (c.toNat : Int)] 5))).later (Later.alloc _ (.cells #[.int .u8 (d.toNat : Int)] 5))).set (now ++ [(c, d)]) true false⟩
              case measure => simp [intOf]; omega
            by_cases hc10 : c = 10
            · have f32 : ((c.toNat : Int) == 32) = false := f8 (n := 32) (b := false) (by decide) (by simpa using hc32)
              have f9 : ((c.toNat : Int) == 9) = false := f8 (n := 9) (b := false) (by decide) (by simpa using hc9)
              have f10 : ((c.toNat : Int) == 10) = true := f8 (n := 10) (b := true) (by decide) (by simpa using hc10)
              have hw : whiteB c = true := by simp [whiteB, hc10]
              have HST := Lib.hid (show step ifs ⟨out, now, bg, bl⟩ (c, d) = ⟨out, now ++ [(c, d)], true, false⟩ from by unfold step; rw [hs]; simp [hd98, hd101])
              clear hd115 hs hd98 hd101 hc10 hw
              go_wp2_with fail
              go_roundw
              case rel => exact ⟨k + 1, _, _, by go_num, by omega, rfl, rfl, by rw [HTK.out, HST.out], rfl, ((HS.out.later (Later.alloc wr (.cells #[.int .u8 (c.toNat : Int)] 5))).later (Later.alloc _ (.cells #[.int .u8 (d.toNat : Int)] 5))).set (now ++ [(c, d)]) true false⟩
              case measure => simp [intOf]; omega
            · have f32 : ((c.toNat : Int) == 32) = false := f8 (n := 32) (b := false) (by decide) (by simpa using hc32)
              have f9 : ((c.toNat : Int) == 9) = false := f8 (n := 9) (b := false) (by decide) (by simpa using hc9)
              have f10 : ((c.toNat : Int) == 10) = false := f8 (n := 10) (b := false) (by decide) (by simpa using hc10)
              have hw : whiteB c = false := by simp [whiteB, hc32, hc9, hc10]
              have HST := Lib.hid (show step ifs ⟨out, now, bg, bl⟩ (c, d) = ⟨out, now ++ [(c, d)], true, false⟩ from by unfold step; rw [hs]; simp [hd98, hd101])
              clear hd115 hs hd98 hd101 hc10 hw
              go_wp2_with fail
              go_roundw
              case rel => exact ⟨k + 1, _, _, by go_num, by omega, rfl, rfl, by rw [HTK.out, HST.out], rfl, ((HS.out.later (Later.alloc wr (.cells #[.int .u8 (c.toNat : Int)] 5))).later (Later.alloc _ (.cells #[.int .u8 (d.toNat : Int)] 5))).set (now ++ [(c, d)]) true false⟩
              case measure => simp [intOf]; omega
    · have hkn : k = n := by omega
      have HSP := Lib.hid (show split ifs (t.zip m) = fin ⟨out, now, bg, bl⟩ from by
        unfold split
        rw [hσ, hkn, HNN.out, List.take_of_length_le (Nat.le_refl _)])
      clear hσ hkn
      cases bg with
      | true =>
        go_wp2_with (first
          | (at_builtin; refine wpList_appK wr #[.string (mkS (ft now)), .string (mkS (fm now))] 2 (by omega) rfl (by intro u hu; simp at hu; rcases hu with rfl | rfl <;> rfl) rfl (.tmp 93) (.tmp 95) 27 29 rfl i0 _ 32 Try.underlying27 hi hz0 hz1 hz2 rfl (w.heap.size + 2) (.slice A0 out.length c0) out.length (rows out) rfl HS.out.own _ rfl rfl (by have := HOL.out; omega) (by have := HOL.out; omega) HBA.out ?_; intro v3 w3 hg3; obtain ⟨A9, c9, hv9, _⟩ := own_any hg3.own; subst hv9; (have hp := HS.out.push hg3); (have k0 : w3.cell? ⟨w.heap.size + 1, 0, none⟩ = some (.string (mkS (ft now))) := (cell_row hp.nb 0).1); (have k1 : w3.cell? ⟨w.heap.size + 1, 1, none⟩ = some (.string (mkS (fm now))) := (cell_row hp.nb 1).1); (have kz := fun i => (cell_row hp.nb i).2); (have HP := Lib.hid hp); clear hg3 hp))
        go_ret
        have hl := HP.out.low
        refine ⟨_, rfl, hl, ?_⟩
        rw [HSP.out]
        exact own_mono HP.out.own (by omega)
      | false =>
        go_wp2_with fail
        go_ret
        refine ⟨_, rfl, HS.out.low, ?_⟩
        rw [HSP.out]
        exact own_mono HS.out.own (by omega)
end Jo
end Go.Proofs.Ytghdimcdkjlpcaa
