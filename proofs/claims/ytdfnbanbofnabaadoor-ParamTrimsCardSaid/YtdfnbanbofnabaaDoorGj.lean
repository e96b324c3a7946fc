/- begins: a run of signs at a text's first bytes. No premises. -/
import Derived.Test.YtdfnbanbofnabaaDoorGi
import Derived.Test.YtdfnbanbofnabaaDoorSof7
namespace Go.Proofs.YtdfnbanbofnabaaDoor
open Go.RowKit Go.Maps
namespace Gs
/-- A slice that reads as signs. -/
def RdS (w : World) (A : Option Addr) (n : Nat) (g : List Gl.Sg) : Prop := ∃ xs : List Sv, Rd w w.heap.size A n (xs.map Sv.enc) ∧ (∀ x ∈ xs, x.ok w) ∧ xs.map Sv.sg = g
theorem RdS.later {w w' : World} {A : Option Addr} {n : Nat} {g : List Gl.Sg} (h : RdS w A n g) (hl : Later w w') : RdS w' A n g := by
  obtain ⟨xs, h1, h2, h3⟩ := h
  exact ⟨xs, (h1.below hl).more hl.size, fun x hx => (h2 x hx).later hl, h3⟩
theorem RdS.len {w : World} {A : Option Addr} {n : Nat} {g : List Gl.Sg} (h : RdS w A n g) : g.length = n := by
  obtain ⟨xs, h1, _, rfl⟩ := h
  rw [List.length_map, h1.len_map]
/-- The sign at a place. -/
theorem RdS.at_ {w : World} {A : Option Addr} {n k : Nat} {g : List Gl.Sg} (h : RdS w A n g) (hk : k < n) : ∃ (ad : Addr) (x : Sv), A = some ad ∧ ad.block < w.heap.size ∧ w.cell? (ad.add k) = some x.enc ∧ x.ok w ∧ g[k]? = some x.sg := by
  obtain ⟨xs, h1, h2, rfl⟩ := h
  obtain ⟨ad, hl, e, hb, hc⟩ := h1.at_map hk
  exact ⟨ad, xs[k], e, hb, hc, h2 _ (List.getElem_mem _), by rw [List.getElem?_map, List.getElem?_eq_getElem hl]; rfl⟩
theorem RdS.cut {w : World} {A : Option Addr} {n k cap : Nat} {g : List Gl.Sg} (h : RdS w A n g) (hk : k ≤ n) (hc : n ≤ cap) : RdS w (if cap = k then A else A.map (·.add k)) (n - k) (g.drop k) := by
  obtain ⟨xs, h1, h2, rfl⟩ := h
  exact ⟨xs.drop k, by have := h1.cut hk hc; rwa [List.map_drop], fun x hx => h2 x (List.mem_of_mem_drop hx), by rw [List.map_drop]⟩
theorem RdS.take_ {w : World} {A : Option Addr} {n k : Nat} {g : List Gl.Sg} (h : RdS w A n g) (hk : k ≤ n) : RdS w A k (g.take k) := by
  obtain ⟨xs, h1, h2, rfl⟩ := h
  exact ⟨xs.take k, by have := h1.take_ hk; rwa [List.map_take], fun x hx => h2 x (List.mem_of_mem_take hx), by rw [List.map_take]⟩
set_option maxRecDepth 100000 in
theorem star_takes (c : UInt8) (w : World) : Calls Tryd.prog 65 #[.agg #[], .int .u8 (c.toNat : Int)] w fun e w' => e = .returned (.bool true) ∧ Later w w' := by
  go_enter Tryd.func65, Tryd.ntmps65
  go_wp2
  go_ret
  exact ⟨rfl, Later.alloc _ _⟩
set_option maxRecDepth 100000 in
theorem one_takes (c : UInt8) (w : World) : Calls Tryd.prog 66 #[.agg #[], .int .u8 (c.toNat : Int)] w fun e w' => e = .returned (.bool true) ∧ Later w w' := by
  go_enter Tryd.func66, Tryd.ntmps66
  go_wp2
  go_ret
  exact ⟨rfl, Later.alloc _ _⟩
set_option maxRecDepth 100000 in
theorem lit_takes (b c : UInt8) (w : World) : Calls Tryd.prog 67 #[.int .u8 (b.toNat : Int), .int .u8 (c.toNat : Int)] w fun e w' => e = .returned (.bool (b == c)) ∧ w' = w := by
  have hb : (b == c) = ((b.toNat : Int) == (c.toNat : Int)) := by
    rw [Bool.eq_iff_iff, beq_iff_eq, beq_iff_eq]
    exact ⟨fun h => by rw [h], fun h => UInt8.toNat_inj.1 (by omega)⟩
  rw [hb]
  clear hb
  go_enter Tryd.func67, Tryd.ntmps67
  go_wp2
  go_ret
  exact ⟨rfl, rfl⟩
/-- The method's name. -/
noncomputable def mName : String := (((Tryd.prog.info? 58).bind fun i => i.methods[0]?).map fun m => m.name).getD ""
/-- Which function a sign's method is, and with what receiver. -/
structure Disp (x : Sv) (ty : TypeId) (va : Value) (f : FuncId) (rv : Value) : Prop where
  enc : x.enc = .iface ty va
  meth : ∀ w, (method (Tryd.prog.types.size + Made.depth) ty va mName).run Tryd.prog w = .ok (f, rv) w
  ahead : ∀ w, (nilAhead (Tryd.prog.types.size + Made.depth) ty va mName).run Tryd.prog w = .ok (some false) w
  enters : ∀ (args : Array Value) w, (callFunc f args).run Tryd.prog w = .ok (.enter f args) w
  takes : ∀ (c : UInt8) w, x.ok w → Calls Tryd.prog f #[rv, .int .u8 (c.toNat : Int)] w fun e w' => e = .returned (.bool (Gl.tk x.sg c)) ∧ Later w w'
theorem disp (x : Sv) : ∃ ty va f rv, Disp x ty va f rv := by
  cases x with
  | star => exact ⟨58, .agg #[], 65, .agg #[], rfl, fun _ => by kernel_rfl, fun _ => by kernel_rfl, enters_of Tryd.func65 (by kernel_rfl) rfl, fun c w _ => star_takes c w⟩
  | one => exact ⟨69, .agg #[], 66, .agg #[], rfl, fun _ => by kernel_rfl, fun _ => by kernel_rfl, enters_of Tryd.func66 (by kernel_rfl) rfl, fun c w _ => one_takes c w⟩
  | lit b => exact ⟨70, .int .u8 (b.toNat : Int), 67, .int .u8 (b.toNat : Int), rfl, fun _ => by kernel_rfl, fun _ => by kernel_rfl, enters_of Tryd.func67 (by kernel_rfl) rfl, fun c w _ => (lit_takes b c w).mono fun e w' h => ⟨h.1, by rw [h.2]; exact Later.refl _⟩⟩
  | set t v ms => exact ⟨86, .agg #[.bool t, v], 68, .agg #[.bool t, v], rfl, fun _ => by kernel_rfl, fun _ => by kernel_rfl, enters_of Tryd.func68 (by kernel_rfl) rfl, fun c w h => set_takes t v ms c w h⟩
section
variable {P : Program} {o : Oper} {ρ : Operand → Value} {w : World} {K : Value → World → Prop}
theorem ValWp.nilMeth {x : Operand} {nm : String} {ty : TypeId} {va : Value} (ho : o.op = .nilCheck x) (hx : ρ x = .func (.method nm) #[.iface ty va] #[]) (hn : (nilAhead (P.types.size + Made.depth) ty va nm).run P w = .ok (some false) w)
    (hk : K (.func (.method nm) #[.iface ty va] #[]) w) : ValWp P o ρ w K := by
  simp only [show Made.depth = 100 from rfl] at hn
  unfold ValWp execOp
  simp only [ho, hx]
  simp [hn, go_sem]
  exact hk
theorem ValWp.inv {x : Operand} {nm nm' : String} {ty : TypeId} {va rv : Value} {xs : Array Operand} {ats : Array TypeId} {f : FuncId} (vals : Array Value) (ho : o.op = .call { callee := .invoke x nm, args := xs, argTypes := ats }) (hx : ρ x = .iface ty va) (hnm : nm = nm')
    (hm : (method (P.types.size + Made.depth) ty va nm').run P w = .ok (f, rv) w) (hent : ∀ (args : Array Value) w, (callFunc f args).run P w = .ok (.enter f args) w) (hv : xs.map ρ = vals)
    (h : Calls P f (#[rv] ++ vals) w fun e w'' => ∃ v, e = .returned v ∧ K v w'') : ValWp P o ρ w K := by
  subst hv hnm
  have e1 : (execOp ρ o).run P w = .ok (.enter f (#[rv] ++ xs.map ρ)) w := by
    simp only [show Made.depth = 100 from rfl] at hm
    have h0 : (#[Value.iface ty va] ++ Array.map ρ xs)[0]? = some (.iface ty va) := by rw [Array.getElem?_append_left (by simp)]; rfl
    have h1 : (Array.map ρ xs).extract 0 xs.size = Array.map ρ xs := by
      have := Array.extract_size (xs := Array.map ρ xs)
      rwa [Array.size_map] at this
    unfold execOp
    simp only [ho, resolve, invoke, hx, Sem.run_bind, Sem.run_pure, Result.andThen_ok, h0, callMethod]
    simp [hm, hent, h1, go_sem]
  unfold ValWp
  rw [e1]
  exact h
end
/-- The sign's method, bound to it. -/
def spFn (x : Value) : Sp Later := ⟨fun v _ => ∃ nm, nm = mName ∧ v = .func (.method nm) #[x] #[], fun _ _ _ _ h => h⟩
set_option maxRecDepth 100000 in
set_option maxHeartbeats 1600000 in
theorem begins_v (g : List Gl.Sg) (s : L) (A : Option Addr) (n c : Nat) (w : World) (hg : RdS w A n g) (hn : n ≤ 100000) (hs : s.length ≤ 100000) : Calls Tryd.prog 28 #[.slice A n c, .string (mkS s)] w fun e w' => e = .returned (.bool (Gl.bg g s)) ∧ Later w w' := by
  have hst : (mkS s).size = s.length := mkS_size s
  have hgl := hg.len
  by_cases hns : s.length < n
  · have hf : Gl.bg g s = false := by
      cases h : Gl.bg g s with
      | false => rfl
      | true => have := Gl.bg_len _ _ h; omega
    have h1 : (s.length : Int) < (n : Int) := by omega
    rw [hf]
    clear hg hgl hf
    go_enter Tryd.func28, Tryd.ntmps28
    go_wp2
    go_ret
    exact ⟨rfl, Later.refl _⟩
  · have h1 : ¬ ((s.length : Int) < (n : Int)) := by omega
    have HG := Lib.hid hg
    have HGL := Lib.hid hgl
    clear hg hgl
    go_enter Tryd.func28, Tryd.ntmps28
    go_wp2_with fail
    go_loopw [14] (fun i wr => ∃ k : Nat, i = .int .i64 (k : Int) ∧ k ≤ n ∧ (∀ (j : Nat) x b, j < k → g[j]? = some x → s[j]? = some b → Gl.tk x b = true) ∧ Later w wr) (fun i _ => n - (intOf i).toNat)
    case atStart => exact ⟨0, rfl, by omega, fun j x b h => by omega, Later.refl _⟩
    case round =>
      obtain ⟨k, rfl, hk, hj, hlr⟩ := hrel
      by_cases hkn : k < n
      · obtain ⟨ad, x, rfl, hb, hcell, hok, hgk⟩ := (HG.out.later hlr).at_ hkn
        have hk0 : (0 : Int) ≤ (k : Int) := by omega
        have hk1 : k < s.length := by omega
        have hk2 : k < (mkS s).size := by omega
        have HOK := Lib.hid hok
        have HGK := Lib.hid hgk
        have HJ := Lib.hid hj
        have HLR := Lib.hid hlr
        have HSK := Lib.hid (get_byte s k hk2)
        clear hok hgk hj hlr
        obtain ⟨ty, va, f, rv, hd⟩ := disp x
        have hen := hd.enc
        rw [hen] at hcell
        obtain ⟨b, hb2⟩ : ∃ b, b = (mkS s)[k] := ⟨_, rfl⟩
        obtain ⟨q, hq⟩ : ∃ q, q = Gl.tk x.sg b := ⟨_, rfl⟩
        have HQ := Lib.hid hq
        have HD := Lib.hid hd
        have HB2 := Lib.hid hb2
        clear hd hen hq hb2
        go_wp2_with fail
        refine wp_region_owes (by kernel_rfl) (fun W => Later wr W) (Later) (Later.refl) [Sp.val (.iface ty va), Sp.val (.string (mkS s)), Sp.val (.int .i64 (k : Int)), Sp.val (.int .u8 (b.toNat : Int)), spFn (.iface ty va), Sp.any, Sp.val (.iface ty va), Sp.val (.bool q), Sp.val (.bool (!q))] (by kernel_rfl) (Later.drew wr) ?_ ?_
        · refine ⟨?_, ?_, ?_, ?_, ?_, ?_, ?_, ?_, ?_, trivial⟩
          · -- 0: slot 19 := Op.move t6
            refine fun a w hC hs => .inl ⟨?_, ?_⟩
            · rfl
            have e6 : a.tmps.getD 6 undef = .iface ty va := hs.free 6 rfl
            exact ⟨e6, hC, Later.refl _⟩
          · -- 1: slot 20 := Op.move t1
            refine fun a w hC hs => .inl ⟨?_, ?_⟩
            · rfl
            have e1 : a.tmps.getD 1 undef = .string (mkS s) := hs.free 1 rfl
            exact ⟨e1, hC, Later.refl _⟩
          · -- 2: slot 21 := Op.move t5
            refine fun a w hC hs => .inl ⟨?_, ?_⟩
            · rfl
            have e5 : a.tmps.getD 5 undef = .int .i64 (k : Int) := hs.free 5 rfl
            exact ⟨e5, hC, Later.refl _⟩
          · -- 3: slot 22 := Op.index 9 t20 t21
            refine fun a w hC hs => .inl ⟨?_, ?_⟩
            · rfl
            have e20 : a.tmps.getD 20 undef = .string (mkS s) := hs.dep 1 _ rfl rfl
            have e21 : a.tmps.getD 21 undef = .int .i64 (k : Int) := hs.dep 2 _ rfl rfl
            refine ValWp.pure (v := .int .u8 (b.toNat : Int)) (fun K' hK' => ?_) ⟨rfl, hC, Later.refl _⟩
            rw [HB2.out] at hK'
            simp only [ValWp, execOp, Act.eval, e20, e21]
            go_simp
            all_goals exact hK'
          · -- 4: slot 23 := Op.makeFunc (Fn.method "kinetoscope/glob.takes") #[t19] #[]
            refine fun a w hC hs => .inl ⟨?_, ?_⟩
            · rfl
            have e19 : a.tmps.getD 19 undef = .iface ty va := hs.dep 0 _ rfl rfl
            unfold ValWp execOp
            simp only [Act.eval, e19, List.map_toArray, List.map_cons, List.map_nil, Instr.makeFunc, Sem.run_bind, Sem.run_pure, Result.andThen_ok]
            exact ⟨⟨_, by kernel_rfl, rfl⟩, hC, Later.refl _⟩
          · -- 5: slot 24 := Op.nilCheck t23
            refine fun a w hC hs => .inl ⟨?_, ?_⟩
            · rfl
            obtain ⟨nm23, hn23, e23⟩ := hs.dep 4 _ rfl rfl
            change a.tmps.getD 23 undef = _ at e23
            exact ValWp.nilMeth rfl e23 (by rw [hn23]; exact HD.out.ahead _) ⟨trivial, hC, Later.refl _⟩
          · -- 6: slot 25 := Op.move t19
            refine fun a w hC hs => .inl ⟨?_, ?_⟩
            · rfl
            have e19 : a.tmps.getD 19 undef = .iface ty va := hs.dep 0 _ rfl rfl
            exact ⟨e19, hC, Later.refl _⟩
          · -- 7: slot 26 := Op.call { invoke t25 "kinetoscope/glob.takes", args := #[t22], argTypes := #[5] }
            refine fun a w hC hs => .inl ⟨?_, ?_⟩
            · rfl
            have e25 : a.tmps.getD 25 undef = .iface ty va := hs.dep 6 _ rfl rfl
            have e22 : a.tmps.getD 22 undef = .int .u8 (b.toNat : Int) := hs.dep 3 _ rfl rfl
            refine ValWp.inv #[.int .u8 (b.toNat : Int)] rfl e25 (nm' := mName) (by kernel_rfl) (HD.out.meth _) HD.out.enters (by simp only [List.map_toArray, List.map_cons, List.map_nil, Act.eval, e22]) ?_
            refine (HD.out.takes b w (HOK.out.later hC)).mono ?_
            rintro e w' ⟨rfl, hl⟩
            exact ⟨_, rfl, (by rw [HQ.out]; rfl), Later.trans hC hl, hl⟩
          · -- 8: slot 27 := Op.unOp UnOp.not 4 t26
            refine fun a w hC hs => .inl ⟨?_, ?_⟩
            · rfl
            have e26 : a.tmps.getD 26 undef = .bool q := hs.dep 7 _ rfl rfl
            refine ValWp.pure (v := .bool (!q)) (fun K' hK' => ?_) ⟨rfl, hC, Later.refl _⟩
            simp only [ValWp, execOp, Act.eval, e26]
            go_simp
            all_goals exact hK'
        · intro a W hC hd hsz hfree hs
          obtain ⟨u4, hu4⟩ : ∃ u, u = a.tmps.getD 4 undef := ⟨_, rfl⟩
          obtain ⟨u15, hu15⟩ : ∃ u, u = a.tmps.getD 15 undef := ⟨_, rfl⟩
          obtain ⟨u16, hu16⟩ : ∃ u, u = a.tmps.getD 16 undef := ⟨_, rfl⟩
          obtain ⟨u17, hu17⟩ : ∃ u, u = a.tmps.getD 17 undef := ⟨_, rfl⟩
          obtain ⟨u18, hu18⟩ : ∃ u, u = a.tmps.getD 18 undef := ⟨_, rfl⟩
          obtain ⟨u19, hu19⟩ : ∃ u, u = a.tmps.getD 19 undef := ⟨_, rfl⟩
          obtain ⟨u20, hu20⟩ : ∃ u, u = a.tmps.getD 20 undef := ⟨_, rfl⟩
          obtain ⟨u21, hu21⟩ : ∃ u, u = a.tmps.getD 21 undef := ⟨_, rfl⟩
          obtain ⟨u22, hu22⟩ : ∃ u, u = a.tmps.getD 22 undef := ⟨_, rfl⟩
          obtain ⟨u23, hu23⟩ : ∃ u, u = a.tmps.getD 23 undef := ⟨_, rfl⟩
          obtain ⟨u24, hu24⟩ : ∃ u, u = a.tmps.getD 24 undef := ⟨_, rfl⟩
          obtain ⟨u25, hu25⟩ : ∃ u, u = a.tmps.getD 25 undef := ⟨_, rfl⟩
          obtain ⟨u26, hu26⟩ : ∃ u, u = a.tmps.getD 26 undef := ⟨_, rfl⟩
          obtain ⟨u28, hu28⟩ : ∃ u, u = a.tmps.getD 28 undef := ⟨_, rfl⟩
          have hal : AllAt a 0 [.slice (some ad) n c, .string (mkS s), undef, undef, u4, .int .i64 (k : Int), .iface ty va, .slice (some ad) n c, .int .i64 (n : Int), .string (mkS s), .int .i64 (s.length : Int), .bool false, .slice (some ad) n c, .int .i64 (n : Int), .int .i64 (k : Int), u15, u16, u17, u18, u19, u20, u21, u22, u23, u24, u25, u26, .bool (!q), u28] := ⟨hfree 0 rfl, hfree 1 rfl, hfree 2 rfl, hfree 3 rfl, hu4.symm, hfree 5 rfl, hfree 6 rfl, hfree 7 rfl, hfree 8 rfl, hfree 9 rfl, hfree 10 rfl, hfree 11 rfl, hfree 12 rfl, hfree 13 rfl, hfree 14 rfl, hu15.symm, hu16.symm, hu17.symm, hu18.symm, hu19.symm, hu20.symm, hu21.symm, hu22.symm, hu23.symm, hu24.symm, hu25.symm, hu26.symm, hs 8 _ rfl, hu28.symm, trivial⟩
          have hlit := fun h => act_lit hd h hal
          rw [hlit hsz]
          clear hlit hal hd hsz hfree hs hu4 hu15 hu16 hu17 hu18 hu19 hu20 hu21 hu22 hu23 hu24 hu25 hu26 hu28
          cases q with
          | false =>
            go_wp2
            go_ret
            refine ⟨ret_bool ?_, HLR.out.trans hC⟩
            cases h : Gl.bg g s with
            | false => rfl
            | true =>
              have h1 := ((Gl.bg_at g s).1 h).2 k x.sg b HGK.out (by rw [HB2.out]; exact HSK.out)
              rw [← HQ.out] at h1
              cases h1
          | true =>
            have hlw := Lib.hid (HLR.out.trans hC)
            clear hC
            go_wp2
            go_roundw
            case rel =>
              refine ⟨k + 1, by go_num, by omega, fun j y d hj hy hd => ?_, hlw.out⟩
              by_cases e : j = k
              · subst e
                rw [HGK.out] at hy
                rw [HSK.out] at hd
                injection hy with hy
                injection hd with hd
                rw [← hy, ← hd, ← HB2.out, ← HQ.out]
              · exact HJ.out j y d (by omega) hy hd
            case measure => simp [intOf]; omega
      · have hk2 : k = n := by omega
        subst hk2
        have HJ := Lib.hid hj
        have HLR := Lib.hid hlr
        clear hj hlr
        go_wp2
        go_ret
        refine ⟨ret_bool ?_, HLR.out⟩
        rw [(Gl.bg_at g s).2 ⟨by have := HGL.out; omega, fun j y d hy hd => HJ.out j y d (by have := (List.getElem?_eq_some_iff.1 hy).1; have := HGL.out; omega) hy hd⟩]
end Gs
end Go.Proofs.YtdfnbanbofnabaaDoor
