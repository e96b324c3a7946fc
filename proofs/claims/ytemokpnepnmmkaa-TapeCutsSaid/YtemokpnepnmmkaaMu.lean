/- Answers that the call has made: a slice of structs that grows; tape's told. -/
import Derived.Test.YtemokpnepnmmkaaMt
import Derived.Test.YtemokpnepnmmkaaMq
import Derived.Test.YtemokpnepnmmkaaMs
import Derived.Test.YtemokpnepnmmkaaMd
namespace Go.Proofs.Ytemokpnepnmmkaa
open Go.RowKit
theorem info_ans : (Try.prog.info? 34).map (fun i => (i.zero, i.size, i.bytes)) = some (some (.agg #[.int .i64 0, .int .i64 0, .int .i64 0, .int .i64 0, .string ⟨#[]⟩, .slice none 0 0, .int .i64 0]), 7, 80) := by kernel_rfl
/-- v, that the call owns, has become v', that owns n answers; nothing else that was there has turned. -/
structure Grew7 (w w' : World) (base : Nat) (v v' : Value) (n : Nat) (xs : List Value) : Prop where
  own : w'.ownsRow base 34 7 v' n xs
  grown : w.grownBy w' v.ownBlock
  moved : Moved w v v'
section
variable {ops : Array Oper} {rest : List Oper} {o : Oper} {a : Act} {Q : Exit → Act → World → Prop}
/-- append(v, x), v the call's own answers: x stands in a new block of its own. -/
theorem wpList_app7 (w : World) (cs : Array Value) (hcs : cs.size = 7) (h1 : ∀ u ∈ cs.toList, u.oneCell' = true) (hgd : o.guard = none) (s x : Operand)
    (ho : o.op = .call { callee := .builtin .append, args := #[s, x], argTypes := #[22, 22] })
    (base : Nat) (v : Value) (n : Nat) (xs : List Value) (hs : a.eval s = v) (hown : w.ownsRow base 34 7 v n xs) (N : Nat) (hN : N = w.heap.size) (hx : a.eval x = .slice (some ⟨N, 0, none⟩) 1 1)
    (hn : n ≤ 1000000000000) (hbase : base ≤ w.heap.size)
    (h : ∀ v' w', Grew7 w w' base v v' (n + 1) (xs ++ cs.toList) → wpList Try.prog ops Q rest (a.put o.dst v') w') : wpList Try.prog ops Q (o :: rest) a (w.alloc (.cells cs 34)) := by
  subst hN
  obtain ⟨i0, hi, hz0, hz1, hz2⟩ := info_parts info_ans
  refine wpList_plain hgd fun K hK => ?_
  have hown' : (w.alloc (.cells cs 34)).ownsRow base 34 7 v n xs := hown.alloc _
  obtain ⟨v', w', hrun, h2, h3, _, h5⟩ := run_append_own_at (P := Try.prog) (w.alloc (.cells cs 34)) base 22 o.type 34 i0 _ 7 80 Try.underlying22 hi hz0 hz1 hz2 rfl (by omega) v n xs hown' ⟨w.heap.size, 0, none⟩ 1 1 cs.toList (by simpa using hcs)
    (fun j u hj => by
      rw [add_lit0, cell_of_row _ _ j cs 34 (0, 0) (heap_alloc_new w _)]
      simpa using hj) h1 (by unfold maxLen; omega) (by omega) (by simp; omega)
  have hg : w.grownBy w' v.ownBlock := by
    have hla := Later.alloc w (.cells cs 34)
    exact ⟨h3.os.trans hla.os, h3.tape.trans hla.tape, h3.output.trans hla.output, Nat.le_trans hla.size h3.size, fun k hk hne => (h3.block k (Nat.lt_of_lt_of_le hk hla.size) hne).trans (hla.block k hk)⟩
  unfold Oper.wp execOp
  simp only [ho, resolve, invoke, builtin, Sem.run_bind, Sem.run_pure, Result.andThen_ok, List.map_toArray, List.map_cons, List.map_nil, hs, hx, hrun]
  refine hK _ _ (h v' w' ⟨h2, hg, ?_⟩)
  rcases h5 with h5 | h5
  · exact .inl h5
  · exact .inr ⟨_, h5, by simp⟩
end
/-- An answer, and where its row of texts lies. -/
abbrev AnsP := Ans × Option Addr × Nat
def cellsA (zs : List AnsP) : List Value := zs.flatMap fun z => (z.1.cs z.2.1 z.2.2).toList
theorem cellsA_snoc (zs : List AnsP) (z : AnsP) : cellsA (zs ++ [z]) = cellsA zs ++ (z.1.cs z.2.1 z.2.2).toList := by simp [cellsA]
theorem cellsA_at : ∀ (zs : List AnsP) (j : Nat) (hj : j < zs.length) (i : Nat) (_hi : i < 7), (cellsA zs)[j * 7 + i]? = (zs[j].1.cs zs[j].2.1 zs[j].2.2)[i]?
  | [], j, hj, _, _ => by simp at hj
  | z :: zs, 0, _, i, hi => by
    have e : cellsA (z :: zs) = (z.1.cs z.2.1 z.2.2).toList ++ cellsA zs := by simp [cellsA]
    rw [e, List.getElem?_append_left (by simp [Ans.cs]; omega)]
    simp
  | z :: zs, j + 1, hj, i, hi => by
    have e : cellsA (z :: zs) = (z.1.cs z.2.1 z.2.2).toList ++ cellsA zs := by simp [cellsA]
    have hl : (z.1.cs z.2.1 z.2.2).toList.length = 7 := rfl
    rw [e, List.getElem?_append_right (by omega), hl, show (j + 1) * 7 + i - 7 = j * 7 + i by omega, cellsA_at zs j (by simpa using hj) i hi]
    rfl
/-- Answers that the call owns; each one's row lies elsewhere. -/
structure OwnA (W : World) (base : Nat) (v : Value) (zs : List AnsP) : Prop where
  own : W.ownsRow base 34 7 v zs.length (cellsA zs)
  row : ∀ z ∈ zs, Rd W W.heap.size z.2.1 z.1.l.length (z.1.l.map sv) ∧ z.1.l.length ≤ maxLen ∧ (0 < z.1.l.length → ∀ ad, z.2.1 = some ad → v.ownBlock ≠ some ad.block) ∧ (0 < z.1.l.length → ∀ ad, z.2.1 = some ad → base ≤ ad.block)
section
variable {W W1 W' : World} {base : Nat} {v v' : Value} {zs : List AnsP}
theorem OwnA.nil (W : World) (base : Nat) : OwnA W base (.slice none 0 0) [] := ⟨World.ownsRow_nil W base _ 7, by simp⟩
theorem OwnA.later (h : OwnA W base v zs) (hl : Later W W1) : OwnA W1 base v zs := ⟨own_below h.own hl, fun z hz => ⟨rd_later (h.row z hz).1 hl, (h.row z hz).2⟩⟩
theorem OwnA.push (h : OwnA W base v zs) {z : AnsP} (hr : Rd W W.heap.size z.2.1 z.1.l.length (z.1.l.map sv)) (hm : z.1.l.length ≤ maxLen) (hap : 0 < z.1.l.length → ∀ ad, z.2.1 = some ad → v.ownBlock ≠ some ad.block) (hlow : 0 < z.1.l.length → ∀ ad, z.2.1 = some ad → base ≤ ad.block)
    (hg : Grew7 W W' base v v' (zs.length + 1) (cellsA zs ++ (z.1.cs z.2.1 z.2.2).toList)) : OwnA W' base v' (zs ++ [z]) := by
  have keep : ∀ y : AnsP, Rd W W.heap.size y.2.1 y.1.l.length (y.1.l.map sv) → y.1.l.length ≤ maxLen → (0 < y.1.l.length → ∀ ad, y.2.1 = some ad → v.ownBlock ≠ some ad.block) →
      Rd W' W'.heap.size y.2.1 y.1.l.length (y.1.l.map sv) ∧ y.1.l.length ≤ maxLen ∧ (0 < y.1.l.length → ∀ ad, y.2.1 = some ad → v'.ownBlock ≠ some ad.block) := by
    intro y h1 h2 h3
    refine ⟨h1.only (S := fun i => v.ownBlock = some i) (fun h0 ad e => h3 h0 ad e) (Only.grown hg.grown fun i e => e), h2, fun h0 ad e hv => ?_⟩
    rcases hg.moved with e1 | ⟨k, e1, hk⟩
    · exact h3 h0 ad e (e1 ▸ hv)
    · rw [e1] at hv; injection hv with hv
      obtain ⟨ad', e', hlt, _⟩ := h1.2 h0
      rw [e] at e'; cases e'; omega
  refine ⟨by rw [cellsA_snoc, List.length_append]; exact hg.own, fun y hy => ?_⟩
  rcases List.mem_append.1 hy with hy | hy
  · obtain ⟨k1, k2, k3⟩ := keep y (h.row y hy).1 (h.row y hy).2.1 (h.row y hy).2.2.1
    exact ⟨k1, k2, k3, (h.row y hy).2.2.2⟩
  · obtain rfl : y = z := by simpa using hy
    obtain ⟨k1, k2, k3⟩ := keep y hr hm hap
    exact ⟨k1, k2, k3, hlow⟩
theorem own_slice7 {w : World} {base n : Nat} {e : TypeId} {v : Value} {xs : List Value} (h : w.ownsRow base e 7 v n xs) :
    ∃ A c, v = .slice A n c ∧ n ≤ c ∧ (0 < n → ∃ g, A = some ⟨g, 0, none⟩ ∧ g < w.heap.size ∧ base ≤ g ∧ ∀ j u, xs[j]? = some u → w.cell? ⟨g, j, none⟩ = some u) := by
  rcases h.2 with ⟨rfl, rfl⟩ | ⟨g, cap, cur, rfl, hb, hh, hnc, hcm, hcs, htake⟩
  · exact ⟨none, 0, rfl, Nat.le_refl _, fun h => by omega⟩
  · refine ⟨_, _, rfl, hnc, fun _ => ⟨g, rfl, (Array.getElem?_eq_some_iff.1 hh).1, hb, fun j u hu => ?_⟩⟩
    have hc := h.cells (g := g) rfl j u hu
    rwa [add_lit0] at hc
theorem OwnA.mono {base' : Nat} (h : OwnA W base v zs) (hb : base' ≤ base) : OwnA W base' v zs := ⟨h.own.mono hb, fun z hz => ⟨(h.row z hz).1, (h.row z hz).2.1, (h.row z hz).2.2.1, fun h0 ad e => Nat.le_trans hb ((h.row z hz).2.2.2 h0 ad e)⟩⟩
/-- It stays where only blocks below base turn. -/
theorem OwnA.only {S : Nat → Prop} (h : OwnA W base v zs) (ho : Only S W W') (hs : ∀ i, S i → i < base) : OwnA W' base v zs := by
  refine ⟨⟨h.own.1, ?_⟩, fun z hz => ⟨(h.row z hz).1.only (fun h0 ad e hS => ?_) ho, (h.row z hz).2⟩⟩
  · rcases h.own.2 with h0 | ⟨k, cap, cur, h1, h2, h3, h4⟩
    · exact .inl h0
    · exact .inr ⟨k, cap, cur, h1, h2, (ho.block k (Array.getElem?_eq_some_iff.1 h3).1 (fun hS => by have := hs k hS; omega)).trans h3, h4⟩
  · have := hs _ hS; have := (h.row z hz).2.2.2 h0 ad e; omega
/-- It reads as its answers. -/
theorem OwnA.rdA (h : OwnA W base v zs) : ∃ A c, v = .slice A zs.length c ∧ zs.length ≤ c ∧ RdA W W.heap.size A zs.length (zs.map (·.1)) := by
  obtain ⟨A, c, rfl, h1, h2⟩ := own_slice7 h.own
  refine ⟨A, c, rfl, h1, by simp, fun j hj => ?_⟩
  have hj' : j < zs.length := by simpa using hj
  obtain ⟨g, rfl, hg, _, hc⟩ := h2 (by omega)
  obtain ⟨r1, r2, _⟩ := h.row zs[j] (List.getElem_mem hj')
  rw [List.getElem_map]
  have hat : ∀ i, i < 7 → ∀ u, (zs[j].1.cs zs[j].2.1 zs[j].2.2)[i]? = some u → W.cell? ⟨g, j * 7 + i, none⟩ = some u := fun i hi u hu => hc _ u (by rw [cellsA_at zs j hj' i hi]; exact hu)
  refine ⟨⟨g, 0, none⟩, zs[j].2.1, zs[j].2.2, rfl, ?_⟩
  rw [add_lit0]
  exact ⟨hg, hat 0 (by omega) _ rfl, hat 1 (by omega) _ rfl, hat 2 (by omega) _ rfl, hat 3 (by omega) _ rfl, hat 4 (by omega) _ rfl, hat 5 (by omega) _ rfl, hat 6 (by omega) _ rfl, r1, r2⟩
end
def ansT (x : Told) : Ans := ⟨x.1, x.2.1, x.2.2.1, x.2.2.2.1, x.2.2.2.2.1, x.2.2.2.2.2.1, x.2.2.2.2.2.2⟩
/-- The answers of rows of bytes, up to the first one that is none; its error. -/
def toldsM : List (List UInt8) → List Ans × Nat
  | [] => ([], 0)
  | r :: l => if (toldM r).2 = 0 then (ansT (toldM r).1 :: (toldsM l).1, (toldsM l).2) else ([], (toldM r).2)
theorem tolds_at : ∀ (ls : List (List UInt8)) (k : Nat), k ≤ ls.length → (∀ (j : Nat) (h : j < ls.length), j < k → (toldM ls[j]).2 = 0) →
    toldsM ls = ((ls.take k).map (fun r => ansT (toldM r).1) ++ (toldsM (ls.drop k)).1, (toldsM (ls.drop k)).2)
  | [], k, _, _ => by simp [toldsM]
  | r :: ls, 0, _, _ => by simp
  | r :: ls, k + 1, hk, h => by
    have h0 : (toldM r).2 = 0 := h 0 (by simp) (by omega)
    have ih := tolds_at ls k (by simpa using hk) fun j hj hjk => by
      have := h (j + 1) (by simpa using hj) (by omega)
      simpa using this
    rw [toldsM, if_pos h0, ih]
    simp
theorem tolds_all {ls : List (List UInt8)} (h : ∀ (j : Nat) (h : j < ls.length), (toldM ls[j]).2 = 0) : toldsM ls = (ls.map (fun r => ansT (toldM r).1), 0) := by
  rw [tolds_at ls ls.length (Nat.le_refl _) fun j hj _ => h j hj]
  simp [toldsM]
theorem tolds_stop {ls : List (List UInt8)} {k : Nat} (hk : k < ls.length) (h : ∀ (j : Nat) (h : j < ls.length), j < k → (toldM ls[j]).2 = 0) (h0 : (toldM ls[k]).2 ≠ 0) : toldsM ls = ((ls.take k).map (fun r => ansT (toldM r).1), (toldM ls[k]).2) := by
  rw [tolds_at ls k (by omega) h, List.drop_eq_getElem_cons hk, toldsM, if_neg h0]
  simp
theorem cs_one (x : Ans) (A : Option Addr) (c : Nat) : ∀ u ∈ (x.cs A c).toList, u.oneCell' = true := by
  intro u hu
  simp [Ans.cs] at hu
  rcases hu with rfl | rfl | rfl | rfl | rfl | rfl | rfl <;> rfl
set_option maxRecDepth 100000 in
theorem told_w (A : Option Addr) (n cap : Nat) (ls : List (List UInt8)) (w : World) (hr : RdL w w.heap.size A n ls) (hn : n ≤ 1000000000000) (hls : ∀ r ∈ ls, r.length ≤ 65536) :
    Calls Try.prog 34 #[.slice A n cap] w fun e w' => ∃ v zs, e = .returned (.tuple #[v, .int .i64 ((toldsM ls).2 : Int)]) ∧ Later w w' ∧ OwnA w' w.heap.size v zs ∧ zs.map (·.1) = (toldsM ls).1 := by
  have HR := Lib.hid hr
  have HN := Lib.hid hr.1
  have HLS := Lib.hid hls
  clear hr hls
  go_enter Try.func34, Try.ntmps34
  go_wp2
  go_loopw [4, 11] (fun v i wr => ∃ (k : Nat) (zs : List AnsP), k ≤ n ∧ i = .int .i64 (k : Int) ∧ zs.length = k ∧ zs.map (·.1) = (ls.take k).map (fun r => ansT (toldM r).1) ∧ (∀ (j : Nat) (h : j < ls.length), j < k → (toldM ls[j]).2 = 0) ∧ OwnA wr w.heap.size v zs ∧ Later w wr) (fun _ i _ => n - (intOf i).toNat)
  case atStart => exact ⟨0, [], by omega, rfl, rfl, by simp, fun j _ h => by omega, OwnA.nil _ _, Later.refl _⟩
  case round =>
    obtain ⟨k, zs, hk, rfl, hzl, hzm, hall, ho, hl⟩ := hrel
    obtain ⟨A4, c4, rfl, h41, h42⟩ := own_slice7 ho.own
    have HZL := Lib.hid hzl
    have HZM := Lib.hid hzm
    have HALL := Lib.hid hall
    have HO := Lib.hid ho
    have HL := Lib.hid hl
    rw [hzl] at HO ⊢
    clear hzl hzm hall ho hl h41 h42
    by_cases hkn : k < n
    · have hkx := Lib.hid (show k < ls.length by have := HN.out; omega)
      obtain ⟨ad, A', n', c', rfl, hb, hc, hr', hcm⟩ := (HR.out.keep HL.out).2 k hkx.out
      obtain ⟨r, hrr⟩ : ∃ r, r = ls[k]'hkx.out := ⟨_, rfl⟩
      rw [← hrr] at hr'
      have hrl : r.length ≤ 65536 := by rw [hrr]; exact HLS.out _ (List.getElem_mem hkx.out)
      have hlen' := hr'.len
      obtain ⟨⟨⟨kk, ee, nn, mm, tt, ll, ss⟩, f⟩, hto⟩ : ∃ x, toldM r = x := ⟨_, rfl⟩
      have ct := toldK hto A' n' c' wr (hr'.more HL.out.size) (by omega)
      have hll := told_len hto
      have CT := Lib.hid ct
      have HRR := Lib.hid hrr
      have HTO := Lib.hid hto
      have HLL := Lib.hid hll
      have hk0 : (0 : Int) ≤ (k : Int) := by omega
      have hk1 : (k : Int) < (n : Int) := by omega
      clear ct hrr hto hll hrl hlen' hr' hcm
      by_cases hf : f = 0
      · subst hf
        go_wp2_with (first
          | (go_at_call 49; (with_reducible refine CT.out.mono ?_); rintro e w2 ⟨A2, c2, rfl, hr2, hc2, hl2, hf2⟩; have R2 := Lib.hid hr2; have L2 := Lib.hid hl2; have F2 := Lib.hid hf2; have ho9 := (HO.out.later hl2).later (Later.alloc w2 (.cells #[.int .i64 (kk : Int), .int .i64 (ee : Int), .int .i64 nn, .int .i64 mm, .string (mkS tt), .slice A2 ll.length c2, .int .i64 (ss : Int)] 34)); have HO9 := Lib.hid ho9; have h9 := ho9.own; rw [HZL.out] at h9; have H9 := Lib.hid h9; have hs9 : w.heap.size ≤ (w2.alloc (.cells #[.int .i64 (kk : Int), .int .i64 (ee : Int), .int .i64 nn, .int .i64 mm, .string (mkS tt), .slice A2 ll.length c2, .int .i64 (ss : Int)] 34)).heap.size := Nat.le_trans (Nat.le_trans HL.out.size hl2.size) (Later.alloc w2 _).size; have HS9 := Lib.hid hs9; clear h9 ho9 hs9 hr2 hc2 hl2 hf2)
          | (at_builtin; refine wpList_app7 (w2.alloc (.cells #[.int .i64 (kk : Int), .int .i64 (ee : Int), .int .i64 nn, .int .i64 mm, .string (mkS tt), .slice A2 ll.length c2, .int .i64 (ss : Int)] 34)) #[.int .i64 (kk : Int), .int .i64 (ee : Int), .int .i64 nn, .int .i64 mm, .string (mkS tt), .slice A2 ll.length c2, .int .i64 (ss : Int)] rfl (cs_one ⟨kk, ee, nn, mm, tt, ll, ss⟩ A2 c2) rfl (.tmp 24) (.tmp 26) rfl w.heap.size (.slice A4 k c4) k (cellsA zs) rfl ?hown (w2.heap.size + 1) ?hN rfl ?hn ?hb ?_; (case hown => exact H9.out); (case hN => simp); (case hn => omega); (case hb => exact HS9.out); intro v3 w3 hg3; have HG3 := Lib.hid hg3; clear hg3))
        go_roundw
        case rel =>
          have hb3 : Below w.heap.size w w3 := Below.grown (Later.trans HL.out (Later.trans L2.out (Later.alloc w2 _))) HG3.out.grown HS9.out fun b hb => (HO.out.own.lt b hb).1
          have hpush := HO9.out.push (z := (⟨kk, ee, nn, mm, tt, ll, ss⟩, A2, c2)) (rd_later R2.out (Later.alloc w2 _)) (show ll.length ≤ maxLen by have := HLL.out; unfold maxLen; omega)
            (fun _ a2 e2 hb => by have h3 := (HO.out.own.lt a2.block hb).2; have := F2.out a2 e2; omega) (fun _ a2 e2 => Nat.le_trans HL.out.size (F2.out a2 e2)) (by rw [HZL.out]; exact HG3.out)
          refine ⟨k + 1, zs ++ [(⟨kk, ee, nn, mm, tt, ll, ss⟩, A2, c2)], by omega, by go_num, by rw [List.length_append, HZL.out]; rfl, ?_, fun j hj hjk => ?_, hpush, hb3⟩
          · rw [List.map_append, HZM.out, List.take_succ_eq_append_getElem hkx.out, List.map_append, ← HRR.out]
            simp only [List.map_cons, List.map_nil]
            rw [HTO.out]
            rfl
          · by_cases e : j = k
            · subst e; rw [← HRR.out, HTO.out]
            · exact HALL.out j hj (by omega)
        case measure => simp [intOf]; omega
      · have hne : ((f : Int) != 0) = true := by simp; exact hf
        have hst := tolds_stop hkx.out HALL.out (by rw [← HRR.out, HTO.out]; exact hf)
        rw [← HRR.out, HTO.out] at hst
        have HST := Lib.hid hst
        clear hst hf
        go_wp2_with (go_at_call 49; (with_reducible refine CT.out.mono ?_); rintro e w2 ⟨A2, c2, rfl, hr2, hc2, hl2, hf2⟩; have L2 := Lib.hid hl2; clear hr2 hc2 hl2 hf2)
        go_ret2
        refine ⟨.slice A4 k c4, zs, by rw [HST.out]; rfl, Later.trans HL.out (Later.trans L2.out (Later.alloc w2 _)), (HO.out.later L2.out).later (Later.alloc w2 _), by rw [HST.out, HZM.out]⟩
    · have hall := tolds_all (ls := ls) fun j hj => HALL.out j hj (by have := HN.out; omega)
      have he : ls.take k = ls := List.take_of_length_le (by have := HN.out; omega)
      have HALS := Lib.hid hall
      rw [he] at HZM
      clear hall he
      go_wp2
      go_ret2
      exact ⟨.slice A4 k c4, zs, by rw [HALS.out]; rfl, HL.out, HO.out, by rw [HALS.out, HZM.out]⟩
end Go.Proofs.Ytemokpnepnmmkaa
/- A tape's head: strings.CutPrefix, scriptOf. -/
namespace Go.Proofs.Ytemokpnepnmmkaa
open Go.RowKit
/-- Is it a head? -/
def headB (bs : List UInt8) : Bool := decide (bs.take 14 = markL ∧ bs.length ≤ 4110)
theorem take_mark {bs : List UInt8} (h : bs.take 14 = markL) : 14 ≤ bs.length := by
  have := congrArg List.length h
  rw [List.length_take] at this
  have e : markL.length = 14 := rfl
  omega
theorem hasPrefix_v (bs : List UInt8) (w : World) :
    Calls Try.prog 73 #[.string (mkS bs), .string ⟨#[107, 105, 110, 101, 116, 111, 115, 99, 111, 112, 101, 32, 49, 10]⟩] w fun e w' => e = .returned (.bool (decide (bs.take 14 = markL))) ∧ w = w' := by
  rw [mkS_mark]
  have hz := mkS_size bs
  have hm := mkS_size markL
  rw [show markL.length = 14 from rfl] at hm
  obtain ⟨n, hn⟩ : ∃ n, n = bs.length := ⟨_, rfl⟩
  rw [← hn] at hz
  by_cases h14 : 14 ≤ n
  · have ht := mkS_take bs 14
    have h14i : (14 : Int) ≤ (n : Int) := by omega
    by_cases he : bs.take 14 = markL
    · have hc : ((mkS (bs.take 14)).toList == (mkS markL).toList) = true := by rw [he]; simp
      rw [decide_eq_true he]
      clear he hn
      go_enter Try.func73, Try.ntmps73
      go_wp2
      go_ret
      exact ⟨rfl, rfl⟩
    · have hc := mkS_ne he
      rw [decide_eq_false he]
      clear he hn
      go_enter Try.func73, Try.ntmps73
      go_wp2
      go_ret
      exact ⟨rfl, rfl⟩
  · rw [decide_eq_false (fun h => h14 (by have := take_mark h; omega))]
    clear hn
    go_enter Try.func73, Try.ntmps73
    go_wp2
    go_ret
    exact ⟨rfl, rfl⟩
abbrev markS : ByteArray := ⟨#[107, 105, 110, 101, 116, 111, 115, 99, 111, 112, 101, 32, 49, 10]⟩
theorem markS_size : markS.size = 14 := rfl
/-- What is left of a text behind the mark, if it has it; whether it has. -/
def cutM (bs : List UInt8) : List UInt8 × Bool := if bs.take 14 = markL then (bs.drop 14, true) else (bs, false)
theorem cutPrefix0_v (bs : List UInt8) (w : World) :
    Calls Try.prog 60 #[.string (mkS bs), .string ⟨#[107, 105, 110, 101, 116, 111, 115, 99, 111, 112, 101, 32, 49, 10]⟩] w fun e w' => e = .returned (.tuple #[.string (mkS (cutM bs).1), .bool (cutM bs).2]) ∧ w = w' := by
  have hz := mkS_size bs
  have hd := mkS_drop bs 14
  rw [hz] at hd
  obtain ⟨n, hn⟩ : ∃ n, n = bs.length := ⟨_, rfl⟩
  rw [← hn] at hz hd
  have C := Lib.hid (fun w => hasPrefix_v bs w)
  by_cases he : bs.take 14 = markL
  · have h14 : (14 : Int) ≤ (n : Int) := by have := take_mark he; omega
    have hm : cutM bs = (bs.drop 14, true) := by unfold cutM; rw [if_pos he]
    rw [hm]
    have HD := Lib.hid (decide_eq_true he)
    clear hm he hn
    go_enter Try.func60, Try.ntmps60
    go_wp2_with (go_at_call 73; (with_reducible refine (C.out _).mono ?_); rintro e w' ⟨rfl, rfl⟩; rw [HD.out])
    go_ret2
    exact ⟨rfl, rfl⟩
  · have hm : cutM bs = (bs, false) := by unfold cutM; rw [if_neg he]
    rw [hm]
    have HD := Lib.hid (decide_eq_false he)
    clear hm he hn
    go_enter Try.func60, Try.ntmps60
    go_wp2_with (go_at_call 73; (with_reducible refine (C.out _).mono ?_); rintro e w' ⟨rfl, rfl⟩; rw [HD.out])
    go_ret2
    exact ⟨rfl, rfl⟩
theorem cutPrefix_v (bs : List UInt8) (w : World) :
    Calls Try.prog 48 #[.string (mkS bs), .string ⟨#[107, 105, 110, 101, 116, 111, 115, 99, 111, 112, 101, 32, 49, 10]⟩] w fun e w' => e = .returned (.tuple #[.string (mkS (cutM bs).1), .bool (cutM bs).2]) ∧ w = w' := by
  have C := Lib.hid (fun w => cutPrefix0_v bs w)
  go_enter Try.func48, Try.ntmps48
  go_wp2_with (go_at_call 60; (with_reducible refine (C.out _).mono ?_); rintro e w' ⟨rfl, rfl⟩)
  go_ret2
  exact ⟨rfl, rfl⟩
set_option maxRecDepth 100000 in
theorem scriptOf_v (A : Option Addr) (n c : Nat) (bs : List UInt8) (w : World) (hr : Rd w w.heap.size A n (bs.map bv)) :
    Calls Try.prog 33 #[.slice A n c] w fun e w' => e = .returned (.tuple #[.string (mkS (if headB bs then bs.drop 14 else [])), .bool (headB bs)]) ∧ w = w' := by
  have hcv := run_str_of (P := Try.prog) hr 28 9 5 Try.underlying28 Try.underlying5 Try.underlying9 c
  have C := Lib.hid (fun w => cutPrefix_v bs w)
  clear hr
  by_cases he : bs.take 14 = markL
  · have hl := take_mark he
    have hm : cutM bs = (bs.drop 14, true) := by unfold cutM; rw [if_pos he]
    rw [hm] at C
    have hz := mkS_size (bs.drop 14)
    rw [List.length_drop] at hz
    obtain ⟨k, hk⟩ : ∃ k, k = bs.length - 14 := ⟨_, rfl⟩
    rw [← hk] at hz
    by_cases hb : 4096 < k
    · have hh : headB bs = false := decide_eq_false (fun h => by have := h.2; omega)
      rw [hh]
      clear hm he hl hk hh
      go_enter Try.func33, Try.ntmps33
      go_wp2_with (go_at_call 48; (with_reducible refine (C.out _).mono ?_); rintro e w' ⟨rfl, rfl⟩)
      go_ret2
      exact ⟨rfl, rfl⟩
    · have hh : headB bs = true := decide_eq_true ⟨he, by omega⟩
      rw [hh]
      clear hm he hl hk hh
      go_enter Try.func33, Try.ntmps33
      go_wp2_with (go_at_call 48; (with_reducible refine (C.out _).mono ?_); rintro e w' ⟨rfl, rfl⟩)
      go_ret2
      exact ⟨rfl, rfl⟩
  · have hm : cutM bs = (bs, false) := by unfold cutM; rw [if_neg he]
    rw [hm] at C
    have hh : headB bs = false := decide_eq_false (fun h => he h.1)
    rw [hh]
    clear hm he hh
    go_enter Try.func33, Try.ntmps33
    go_wp2_with (go_at_call 48; (with_reducible refine (C.out _).mono ?_); rintro e w' ⟨rfl, rfl⟩)
    go_ret2
    exact ⟨rfl, rfl⟩
end Go.Proofs.Ytemokpnepnmmkaa
/- What any bytes are a tape of, as plain mathematics. -/
namespace Go.Proofs.Ytemokpnepnmmkaa
open Go.RowKit
theorem Addr.add_zero' (a : Addr) : a.add 0 = a := by unfold Addr.add; rw [if_pos rfl]
theorem takeF_small (b : List UInt8) : (takeF b).1.length ≤ 65536 := by
  unfold takeF
  split
  · simp
  · split
    · simp
    · rename_i h2
      split
      · simp
      · split
        · simp
        · simp only [List.length_take]; omega
theorem scan_small : ∀ (n : Nat) (b : List UInt8), ∀ r ∈ (scanF n b).1, r.length ≤ 65536
  | 0, _, r, h => by simp [scanF] at h
  | n + 1, b, r, h => by
    rw [scanF] at h
    split at h
    · simp at h
    · split at h
      · simp at h
      · rcases List.mem_cons.1 h with rfl | h
        · exact takeF_small b
        · exact scan_small n _ r h
theorem scan_count : ∀ (n : Nat) (b : List UInt8), (scanF n b).1.length ≤ n
  | 0, _ => by simp [scanF]
  | n + 1, b => by
    rw [scanF]
    split
    · simp
    · split
      · simp
      · simp only [List.length_cons]; have := scan_count n (b.drop (takeF b).2.1); omega
theorem scan_none {b : List UInt8} (hb : b ≠ []) (h : (scanF b.length b).1 = []) : (scanF b.length b).2.2 ≠ 0 := by
  obtain ⟨n, hn⟩ : ∃ n, b.length = n + 1 := ⟨b.length - 1, by have := List.length_pos_iff.2 hb; omega⟩
  rw [hn] at h ⊢
  rw [scanF, if_neg hb] at h ⊢
  split at h
  · rename_i he; rw [if_pos he]; exact he
  · simp at h
/-- What bytes are a tape of: its script, its answers, how many bytes are whole, what is wrong. -/
def tapeM (bs : List UInt8) : List UInt8 × List Ans × Nat × Nat :=
  match (scanF bs.length bs).1 with
  | [] => ([], [], 0, if (scanF bs.length bs).2.2 = 0 then 10 else (scanF bs.length bs).2.2)
  | h :: rows => if headB h then
      if (toldsM rows).2 = 0 then (h.drop 14, (toldsM rows).1, (scanF bs.length bs).2.1, (scanF bs.length bs).2.2)
      else (h.drop 14, (toldsM rows).1, ((h :: rows.take (toldsM rows).1.length).flatMap frameL).length, (toldsM rows).2)
    else ([], [], 0, 11)
theorem toldsM_len : ∀ (ls : List (List UInt8)), (toldsM ls).1.length ≤ ls.length
  | [] => by simp [toldsM]
  | r :: l => by
    rw [toldsM]
    split
    · simp only [List.length_cons]; have := toldsM_len l; omega
    · simp
theorem frames_le : ∀ {ls : List (List UInt8)}, (∀ r ∈ ls, r.length ≤ 65536) → (ls.flatMap frameL).length ≤ 65550 * ls.length
  | [], _ => by simp
  | r :: l, h => by
    have h1 := frames_le (ls := l) fun x hx => h x (List.mem_cons_of_mem _ hx)
    have h2 := h r (List.mem_cons_self ..)
    have h3 := frameL_len r
    have h4 := numL_ten (show r.length < 18446744073709551616 by omega)
    rw [flatF_cons, List.length_append, List.length_cons]; omega
end Go.Proofs.Ytemokpnepnmmkaa
