/- The document's Same: rows of nodes that read alike are the same, but for their lines. No premises. -/
import Derived.Test.YtipojbknkfkgoaaGreatDoorSameN
import Derived.Test.YtipojbknkfkgoaaGreatDoorNb
import Derived.Test.YtipojbknkfkgoaaGreatDoorSxS
namespace Go.Proofs.YtipojbknkfkgoaaGreatDoor
open Go.RowKit Go.Maps
open Lx (nl Tok)
open Pz
/-- A node's value. -/
abbrev nodeV (n : Sx.Node) (Aw Ar Ak : Option Addr) (cw cr ck : Nat) (ln : Int) : Value := .agg #[.int .i64 (n.kind : Int), .string (mkS n.text), .bool n.flag, .slice Aw n.words.length cw, .int .i64 (n.sets : Int), .slice Ar n.redirs.length cr, .slice Ak n.kids.length ck, .int .i64 ln]
/-- A node's cells, and what they lead to. -/
structure NodeC (W : World) (g o : Nat) (n : Sx.Node) (Aw Ar Ak : Option Addr) (cw cr ck : Nat) (ln : Int) : Prop where
  c0 : W.cell? ⟨g, o, none⟩ = some (.int .i64 (n.kind : Int))
  c1 : W.cell? ⟨g, o + 1, none⟩ = some (.string (mkS n.text))
  c2 : W.cell? ⟨g, o + 2, none⟩ = some (.bool n.flag)
  c3 : W.cell? ⟨g, o + 3, none⟩ = some (.slice Aw n.words.length cw)
  c4 : W.cell? ⟨g, o + 4, none⟩ = some (.int .i64 (n.sets : Int))
  c5 : W.cell? ⟨g, o + 5, none⟩ = some (.slice Ar n.redirs.length cr)
  c6 : W.cell? ⟨g, o + 6, none⟩ = some (.slice Ak n.kids.length ck)
  c7 : W.cell? ⟨g, o + 7, none⟩ = some (.int .i64 ln)
  w : Rd W W.heap.size Aw n.words.length (n.words.map sv)
  r : RdR W W.heap.size Ar n.redirs.length n.redirs
  k : Rd W W.heap.size Ak n.kids.length (n.kids.map iv)
  mw : n.words.length ≤ maxLen
  mr : n.redirs.length ≤ maxLen
  ml : n.kids.length ≤ maxLen
theorem NodeC.later {W W' : World} {g o : Nat} {n : Sx.Node} {Aw Ar Ak : Option Addr} {cw cr ck : Nat} {ln : Int} (h : NodeC W g o n Aw Ar Ak cw cr ck ln) (hl : Later W W') : NodeC W' g o n Aw Ar Ak cw cr ck ln :=
  ⟨cell_keeps hl h.c0, cell_keeps hl h.c1, cell_keeps hl h.c2, cell_keeps hl h.c3, cell_keeps hl h.c4, cell_keeps hl h.c5, cell_keeps hl h.c6, cell_keeps hl h.c7, (h.w.below hl).more hl.size, (h.r.below hl).more hl.size, (h.k.below hl).more hl.size, h.mw, h.mr, h.ml⟩
theorem NodeC.alike {W : World} {g o : Nat} {n m : Sx.Node} {Aw Ar Ak : Option Addr} {cw cr ck : Nat} {ln : Int} (h : NodeC W g o m Aw Ar Ak cw cr ck ln) (e : Sx.strip m = Sx.strip n) : NodeC W g o n Aw Ar Ak cw cr ck ln := by
  cases n; cases m
  unfold Sx.strip at e
  simp only [Sx.Node.mk.injEq] at e
  obtain ⟨rfl, rfl, rfl, rfl, rfl, rfl, rfl, _⟩ := e
  exact ⟨h.c0, h.c1, h.c2, h.c3, h.c4, h.c5, h.c6, h.c7, h.w, h.r, h.k, h.mw, h.mr, h.ml⟩
/-- A slice of nodes that reads as ns. -/
def RdN (W : World) (A : Option Addr) (n : Nat) (ns : List Sx.Node) : Prop := ns.length = n ∧ ∀ (k : Nat) (h : k < ns.length), ∃ g Aw Ar Ak cw cr ck ln, A = some ⟨g, 0, none⟩ ∧ NodeC W g (k * 8) ns[k] Aw Ar Ak cw cr ck ln
theorem RdN.later {W W' : World} {A : Option Addr} {n : Nat} {ns : List Sx.Node} (h : RdN W A n ns) (hl : Later W W') : RdN W' A n ns := by
  refine ⟨h.1, fun k hk => ?_⟩
  obtain ⟨g, Aw, Ar, Ak, cw, cr, ck, ln, e, h1⟩ := h.2 k hk
  exact ⟨g, Aw, Ar, Ak, cw, cr, ck, ln, e, h1.later hl⟩
theorem own_most {w : World} {base size n : Nat} {e : TypeId} {v : Value} {xs : List Value} (h : w.ownsRow base e size v n xs) : n ≤ maxLen := by
  rcases h.2 with ⟨_, h0⟩ | ⟨g, cap, cur, _, _, _, hnc, hcm, _⟩
  · rw [h0]; exact Nat.zero_le _
  · exact Nat.le_trans hnc hcm
theorem RdN.of_tree {W : World} {N n c : Nat} {A : Option Addr} {ns : List Sx.Node} (h : TreeM W N (.slice A n c) ns) (hn : ns.length = n) : RdN W A n ns := by
  refine ⟨hn, fun k hk => ?_⟩
  rcases h.at_ with h0 | ⟨g, rfl, hat⟩
  · rw [h0] at hk; cases hk
  · obtain ⟨v, h1, h2⟩ := hat k hk
    obtain ⟨Aw, cw, e1, _⟩ := own_any h2.w
    obtain ⟨Ar, cr, e2, _⟩ := own_any h2.r
    obtain ⟨Ak, ck, e3, _⟩ := own_any h2.k
    have hw := h2.w
    have hr := h2.r
    have hk := h2.k
    rw [e1] at hw
    rw [e2] at hr
    rw [e3] at hk
    obtain ⟨ln, hln⟩ : ∃ ln : Int, lnv N ns[k].left = .int .i64 ln := ⟨_, rfl⟩
    exact ⟨g, Aw, Ar, Ak, cw, cr, ck, ln, rfl, h1.c0, h1.c1, h1.c2, by rw [h1.c3, e1], h1.c4, by rw [h1.c5, e2], by rw [h1.c6, e3], by rw [h1.c7, hln], Rd.of_own hw, RdR.of_own hr, Rd.of_own hk, own_most hw, own_most hr, own_most hk⟩
set_option maxHeartbeats 3200000 in
set_option maxRecDepth 100000 in
theorem same_v (A A' : Option Addr) (n c c' : Nat) (ns ns' : List Sx.Node) (w : World) (hr : RdN w A n ns) (hr' : RdN w A' n ns') (hs : ns'.map Sx.strip = ns.map Sx.strip) (hn : n ≤ maxLen) :
    Calls Tryz.prog 7 #[.slice A n c, .slice A' n c', .bool false] w fun e w' => e = .returned (.bool true) ∧ Later w w' := by
  unfold maxLen at hn
  have HR := Lib.hid hr
  have HR' := Lib.hid hr'
  have HL := Lib.hid hr.1
  have HS := Lib.hid hs
  clear hr hr' hs
  go_enter Tryz.func7, Tryz.ntmps7
  go_wp2
  go_loopw [7] (fun i wr => ∃ k : Nat, k ≤ n ∧ i = .int .i64 (k : Int) ∧ Later w wr) (fun i _ => n - (intOf i).toNat)
  case atStart => exact ⟨0, by omega, rfl, Later.refl _⟩
  case round =>
    obtain ⟨k, hk, rfl, hb⟩ := hrel
    have HB := Lib.hid hb
    clear hb
    by_cases hlt : k < n
    · have hkl : k < ns.length := by have := HL.out; omega
      have hkl' : k < ns'.length := by have := HR'.out.1; omega
      obtain ⟨g, Aw, Ar, Ak, cw, cr, ck, ln, rfl, h1⟩ := (HR.out.later HB.out).2 k hkl
      obtain ⟨g', Aw', Ar', Ak', cw', cr', ck', ln', rfl, h2⟩ := (HR'.out.later HB.out).2 k hkl'
      have hst : Sx.strip ns'[k] = Sx.strip ns[k] := by
        have := congrArg (fun l => l[k]?) HS.out
        simpa [List.getElem?_map, List.getElem?_eq_getElem hkl, List.getElem?_eq_getElem hkl'] using this
      replace h2 := h2.alike hst
      obtain ⟨x, hx⟩ : ∃ x, x = ns[k] := ⟨_, rfl⟩
      rw [← hx] at h1 h2
      have H1 := Lib.hid h1
      have H2 := Lib.hid h2
      have hk0 : (0 : Int) ≤ (k : Int) := by omega
      have hk1 : (k : Int) < (n : Int) := by omega
      clear h1 h2 hx hst hkl hkl'
      have CS := Lib.hid (show ∀ W, Later wr W → Calls Tryz.prog 13 #[nodeV x Aw Ar Ak cw cr ck ln, nodeV x Aw' Ar' Ak' cw' cr' ck' ln'] W fun e w' => e = .returned (.bool true) ∧ Later W w' from fun W h => by
        have a := H1.out.later h
        have b := H2.out.later h
        exact node_v W x.kind x.sets ln ln' x.text x.flag x.words x.redirs x.kids Aw Ar Ak Aw' Ar' Ak' _ _ _ cw cr ck cw' cr' ck' a.w b.w a.r b.r a.k b.k a.mw a.mr a.ml)
      go_wp2
      refine wp_region_owes (by kernel_rfl) (fun W => Later wr W) (Later) (Later.refl) [Sp.val (.slice (some ⟨g, 0, none⟩) n c), Sp.val (.int .i64 (k : Int)), Sp.val (.pointer (some ⟨g, k * 8, none⟩)), Sp.val ((nodeV x Aw Ar Ak cw cr ck ln)), Sp.val (.slice (some ⟨g', 0, none⟩) n c'), Sp.val (.int .i64 (k : Int)), Sp.val (.pointer (some ⟨g', k * 8, none⟩)), Sp.val ((nodeV x Aw' Ar' Ak' cw' cr' ck' ln')), Sp.val (.bool true), Sp.val (.bool true)] (by kernel_rfl) (Later.drew wr) ?_ ?_
      · refine ⟨?_, ?_, ?_, ?_, ?_, ?_, ?_, ?_, ?_, ?_, trivial⟩
        · -- 0: slot 20 := Op.move t0
          refine fun a w hC hs => .inl ⟨?_, ?_⟩
          · rfl
          have e0 : a.tmps.getD 0 undef = .slice (some ⟨g, 0, none⟩) n c := hs.free 0 rfl
          exact ⟨e0, hC, Later.refl _⟩
        · -- 1: slot 21 := Op.move t7
          refine fun a w hC hs => .inl ⟨?_, ?_⟩
          · rfl
          have e7 : a.tmps.getD 7 undef = .int .i64 (k : Int) := hs.free 7 rfl
          exact ⟨e7, hC, Later.refl _⟩
        · -- 2: slot 22 := Op.indexAddr 24 t20 t21
          refine fun a w hC hs => .inl ⟨?_, ?_⟩
          · rfl
          have e20 : a.tmps.getD 20 undef = .slice (some ⟨g, 0, none⟩) n c := hs.dep 0 _ rfl rfl
          have e21 : a.tmps.getD 21 undef = .int .i64 (k : Int) := hs.dep 1 _ rfl rfl
          refine ValWp.pure (v := .pointer (some ⟨g, k * 8, none⟩)) (fun K' hK' => ?_) ⟨rfl, hC, Later.refl _⟩
          simp only [ValWp, execOp, Act.eval, e20, e21]
          go_simp
          all_goals exact hK'
        · -- 3: slot 23 := Op.load 35 t22
          refine fun a w hC hs => .inl ⟨?_, ?_⟩
          · rfl
          have e22 : a.tmps.getD 22 undef = .pointer (some ⟨g, k * 8, none⟩) := hs.dep 2 _ rfl rfl
          have hz := H1.out.later hC
          obtain ⟨q0, q1, q2, q3, q4, q5, q6, q7, _, _, _, _, _, _⟩ := hz
          refine ValWp.pure (v := (nodeV x Aw Ar Ak cw cr ck ln)) (fun K' hK' => ?_) ⟨rfl, hC, Later.refl _⟩
          simp only [ValWp, execOp, Act.eval, e22]
          go_simp
          all_goals exact hK'
        · -- 4: slot 24 := Op.move t1
          refine fun a w hC hs => .inl ⟨?_, ?_⟩
          · rfl
          have e1 : a.tmps.getD 1 undef = .slice (some ⟨g', 0, none⟩) n c' := hs.free 1 rfl
          exact ⟨e1, hC, Later.refl _⟩
        · -- 5: slot 25 := Op.move t7
          refine fun a w hC hs => .inl ⟨?_, ?_⟩
          · rfl
          have e7 : a.tmps.getD 7 undef = .int .i64 (k : Int) := hs.free 7 rfl
          exact ⟨e7, hC, Later.refl _⟩
        · -- 6: slot 26 := Op.indexAddr 24 t24 t25
          refine fun a w hC hs => .inl ⟨?_, ?_⟩
          · rfl
          have e24 : a.tmps.getD 24 undef = .slice (some ⟨g', 0, none⟩) n c' := hs.dep 4 _ rfl rfl
          have e25 : a.tmps.getD 25 undef = .int .i64 (k : Int) := hs.dep 5 _ rfl rfl
          refine ValWp.pure (v := .pointer (some ⟨g', k * 8, none⟩)) (fun K' hK' => ?_) ⟨rfl, hC, Later.refl _⟩
          simp only [ValWp, execOp, Act.eval, e24, e25]
          go_simp
          all_goals exact hK'
        · -- 7: slot 27 := Op.load 35 t26
          refine fun a w hC hs => .inl ⟨?_, ?_⟩
          · rfl
          have e26 : a.tmps.getD 26 undef = .pointer (some ⟨g', k * 8, none⟩) := hs.dep 6 _ rfl rfl
          have hz := H2.out.later hC
          obtain ⟨q0, q1, q2, q3, q4, q5, q6, q7, _, _, _, _, _, _⟩ := hz
          refine ValWp.pure (v := (nodeV x Aw' Ar' Ak' cw' cr' ck' ln')) (fun K' hK' => ?_) ⟨rfl, hC, Later.refl _⟩
          simp only [ValWp, execOp, Act.eval, e26]
          go_simp
          all_goals exact hK'
        · -- 8: slot 28 := Op.call { value (Operand.func 13), args := #[t23, t27], argTypes := #[35, 35] }
          refine fun a w hC hs => .inl ⟨?_, ?_⟩
          · rfl
          have e23 : a.tmps.getD 23 undef = (nodeV x Aw Ar Ak cw cr ck ln) := hs.dep 3 _ rfl rfl
          have e27 : a.tmps.getD 27 undef = (nodeV x Aw' Ar' Ak' cw' cr' ck' ln') := hs.dep 7 _ rfl rfl
          refine ValWp.call #[(nodeV x Aw Ar Ak cw cr ck ln), (nodeV x Aw' Ar' Ak' cw' cr' ck' ln')] rfl rfl Tryz.func13 rfl rfl (by simp only [List.map_toArray, List.map_cons, List.map_nil, Act.eval, e23, e27]) ?_
          refine (CS.out w hC).mono ?_
          rintro r w' ⟨rfl, hb⟩
          exact ⟨_, rfl, rfl, Later.trans hC hb, hb⟩
        · -- 9: slot 8 := Op.assign t28
          refine fun a w hC hs => .inl ⟨?_, ?_⟩
          · rfl
          have e28 : a.tmps.getD 28 undef = .bool true := hs.dep 8 _ rfl rfl
          exact ⟨e28, hC, Later.refl _⟩
      · intro a W hC hd hsz hfree hs
        obtain ⟨u6, hu6⟩ : ∃ u, u = a.tmps.getD 6 undef := ⟨_, rfl⟩
        obtain ⟨u14, hu14⟩ : ∃ u, u = a.tmps.getD 14 undef := ⟨_, rfl⟩
        obtain ⟨u15, hu15⟩ : ∃ u, u = a.tmps.getD 15 undef := ⟨_, rfl⟩
        obtain ⟨u16, hu16⟩ : ∃ u, u = a.tmps.getD 16 undef := ⟨_, rfl⟩
        obtain ⟨u17, hu17⟩ : ∃ u, u = a.tmps.getD 17 undef := ⟨_, rfl⟩
        obtain ⟨u18, hu18⟩ : ∃ u, u = a.tmps.getD 18 undef := ⟨_, rfl⟩
        obtain ⟨u19, hu19⟩ : ∃ u, u = a.tmps.getD 19 undef := ⟨_, rfl⟩
        obtain ⟨u20, hu20⟩ : ∃ u, u = a.tmps.getD 20 undef := ⟨_, rfl⟩
        obtain ⟨u21, hu21⟩ : ∃ u, u = a.tmps.getD 21 undef := ⟨_, rfl⟩
        obtain ⟨u22, hu22⟩ : ∃ u, u = a.tmps.getD 22 undef := ⟨_, rfl⟩
        obtain ⟨u23, hu23⟩ : ∃ u, u = a.tmps.getD 23 undef := ⟨_, rfl⟩
        obtain ⟨u24, hu24⟩ : ∃ u, u = a.tmps.getD 24 undef := ⟨_, rfl⟩
        obtain ⟨u25, hu25⟩ : ∃ u, u = a.tmps.getD 25 undef := ⟨_, rfl⟩
        obtain ⟨u26, hu26⟩ : ∃ u, u = a.tmps.getD 26 undef := ⟨_, rfl⟩
        obtain ⟨u27, hu27⟩ : ∃ u, u = a.tmps.getD 27 undef := ⟨_, rfl⟩
        obtain ⟨u28, hu28⟩ : ∃ u, u = a.tmps.getD 28 undef := ⟨_, rfl⟩
        obtain ⟨u29, hu29⟩ : ∃ u, u = a.tmps.getD 29 undef := ⟨_, rfl⟩
        obtain ⟨u30, hu30⟩ : ∃ u, u = a.tmps.getD 30 undef := ⟨_, rfl⟩
        obtain ⟨u31, hu31⟩ : ∃ u, u = a.tmps.getD 31 undef := ⟨_, rfl⟩
        obtain ⟨u32, hu32⟩ : ∃ u, u = a.tmps.getD 32 undef := ⟨_, rfl⟩
        obtain ⟨u33, hu33⟩ : ∃ u, u = a.tmps.getD 33 undef := ⟨_, rfl⟩
        obtain ⟨u34, hu34⟩ : ∃ u, u = a.tmps.getD 34 undef := ⟨_, rfl⟩
        obtain ⟨u35, hu35⟩ : ∃ u, u = a.tmps.getD 35 undef := ⟨_, rfl⟩
        obtain ⟨u36, hu36⟩ : ∃ u, u = a.tmps.getD 36 undef := ⟨_, rfl⟩
        obtain ⟨u37, hu37⟩ : ∃ u, u = a.tmps.getD 37 undef := ⟨_, rfl⟩
        obtain ⟨u38, hu38⟩ : ∃ u, u = a.tmps.getD 38 undef := ⟨_, rfl⟩
        obtain ⟨u39, hu39⟩ : ∃ u, u = a.tmps.getD 39 undef := ⟨_, rfl⟩
        obtain ⟨u40, hu40⟩ : ∃ u, u = a.tmps.getD 40 undef := ⟨_, rfl⟩
        obtain ⟨u41, hu41⟩ : ∃ u, u = a.tmps.getD 41 undef := ⟨_, rfl⟩
        obtain ⟨u42, hu42⟩ : ∃ u, u = a.tmps.getD 42 undef := ⟨_, rfl⟩
        obtain ⟨u43, hu43⟩ : ∃ u, u = a.tmps.getD 43 undef := ⟨_, rfl⟩
        obtain ⟨u44, hu44⟩ : ∃ u, u = a.tmps.getD 44 undef := ⟨_, rfl⟩
        obtain ⟨u45, hu45⟩ : ∃ u, u = a.tmps.getD 45 undef := ⟨_, rfl⟩
        obtain ⟨u46, hu46⟩ : ∃ u, u = a.tmps.getD 46 undef := ⟨_, rfl⟩
        have hal : AllAt a 0 [.slice (some ⟨g, 0, none⟩) n c, .slice (some ⟨g', 0, none⟩) n c', .bool false, undef, undef, undef, u6, .int .i64 (k : Int), .bool true, .slice (some ⟨g, 0, none⟩) n c, .int .i64 (n : Int), .slice (some ⟨g', 0, none⟩) n c', .int .i64 (n : Int), .bool false, u14, u15, u16, u17, u18, u19, u20, u21, u22, u23, u24, u25, u26, u27, u28, u29, u30, u31, u32, u33, u34, u35, u36, u37, u38, u39, u40, u41, u42, u43, u44, u45, u46] := ⟨hfree 0 rfl, hfree 1 rfl, hfree 2 rfl, hfree 3 rfl, hfree 4 rfl, hfree 5 rfl, hu6.symm, hfree 7 rfl, hs 9 _ rfl, hfree 9 rfl, hfree 10 rfl, hfree 11 rfl, hfree 12 rfl, hfree 13 rfl, hu14.symm, hu15.symm, hu16.symm, hu17.symm, hu18.symm, hu19.symm, hu20.symm, hu21.symm, hu22.symm, hu23.symm, hu24.symm, hu25.symm, hu26.symm, hu27.symm, hu28.symm, hu29.symm, hu30.symm, hu31.symm, hu32.symm, hu33.symm, hu34.symm, hu35.symm, hu36.symm, hu37.symm, hu38.symm, hu39.symm, hu40.symm, hu41.symm, hu42.symm, hu43.symm, hu44.symm, hu45.symm, hu46.symm, trivial⟩
        have hlit := fun h => act_lit hd h hal
        rw [hlit hsz]
        clear hlit hal hd hsz hfree hs hu6 hu14 hu15 hu16 hu17 hu18 hu19 hu20 hu21 hu22 hu23 hu24 hu25 hu26 hu27 hu28 hu29 hu30 hu31 hu32 hu33 hu34 hu35 hu36 hu37 hu38 hu39 hu40 hu41 hu42 hu43 hu44 hu45 hu46

        go_wp2
        go_quiet (fail)
        go_wp2
        go_roundw
        case rel => exact ⟨k + 1, by omega, by go_num, (Later.trans HB.out hC).trans (Below.drewN _ _ _)⟩
        case measure => simp [intOf]; omega
    · have hk1 : ¬ (k : Int) < (n : Int) := by omega
      go_wp2
      go_ret
      exact ⟨rfl, HB.out⟩
end Go.Proofs.YtipojbknkfkgoaaGreatDoor

