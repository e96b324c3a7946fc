/- TesterTurns' walk. The listed variables: their condition. -/
import Derived.Test.YtjidclefpmcgoaaDoorYz
namespace Go.Proofs.YtjidclefpmcgoaaDoor
open Go.RowKit Go.Maps
namespace Ar
theorem info_str : (Tryd.prog.info? 9).map (fun i => (i.zero, i.size, i.bytes)) = some (some (.string ⟨#[]⟩), 1, 16) := by kernel_rfl
theorem sv_one (t : L) : (sv t).oneCell' = true := rfl
theorem turned_more (args : List L) (h1 : 1 ≤ args.length) (h3 : args.length ≤ 3) (h : ∀ u v, args = [u, v] → isOp u = false) : dec ([33] :: args) = turn (dec args) := by
  match args, h1, h3, h with
  | [u], _, _, _ => rfl
  | [u, v], _, _, h =>
    have hm : mid u [33] v = none := by
      have := mid_isOp u [33] v
      rw [h u v rfl] at this
      exact Option.isNone_iff_eq_none.1 (by rw [Option.isNone_iff_eq_none]; cases e : mid u [33] v with | none => rfl | some r => rw [e] at this; cases this)
    show (match mid u [33] v with | some n => val0 n | none => if ([33] : L) = [33] then turn (dec [u, v]) else val0 2) = _
    rw [hm]
    rfl
  | [u, v, w], _, _, _ => rfl
/-- Two comparisons that share out all pairs. -/
theorem both_ways (a b : L) : ∃ lt ge : Int, dec [a, [45, 108, 116], b] = val0 lt ∧ dec [a, [45, 103, 101], b] = val0 ge ∧ (lt = 2 ∧ ge = 2 ∨ lt ≠ 2 ∧ lt + ge = 1 ∧ 0 ≤ lt ∧ lt ≤ 1 ∧ 0 ≤ ge ∧ ge ≤ 1) := by
  have e1 : mid [45, 108, 116] a b = some (cmpT (fun a b => decide (a < b)) a b) := by
    unfold mid cmpT
    rw [if_neg (by decide), if_neg (by decide), show cmpF [45, 108, 116] = some (fun a b => decide (a < b)) from rfl]
    cases tnum a <;> cases tnum b <;> rfl
  have e2 : mid [45, 103, 101] a b = some (cmpT (fun a b => decide (b ≤ a)) a b) := by
    unfold mid cmpT
    rw [if_neg (by decide), if_neg (by decide), show cmpF [45, 103, 101] = some (fun a b => decide (b ≤ a)) from rfl]
    cases tnum a <;> cases tnum b <;> rfl
  refine ⟨_, _, by unfold dec; rw [e1], by unfold dec; rw [e2], ?_⟩
  unfold cmpT
  cases tnum a with
  | none => exact .inl ⟨rfl, rfl⟩
  | some x =>
    cases tnum b with
    | none => exact .inl ⟨rfl, rfl⟩
    | some y =>
      refine .inr ?_
      by_cases h : x < y
      · simp only [t01, decide_eq_true h, decide_eq_false (show ¬ y ≤ x by omega)]; decide
      · simp only [t01, decide_eq_false h, decide_eq_true (show y ≤ x by omega)]; decide
/-- What is made: the word ahead of the arguments. -/
theorem wpList_argsN {P : Program} {ops : Array Oper} {rest : List Oper} {o : Oper} {a : Act} {Q : Exit → Act → World → Prop} (w : World) (h : wpList P ops Q (o :: rest) a w) : wpList P ops Q (o :: rest) a w := h
abbrev TurnsC (A : Option Addr) (n c : Nat) (a b : L) (W : World) : Prop := Calls Tryd.prog 5 #[.slice A n c, .string (mkS a), .string (mkS b)] W fun r W' => r = .returned (.bool true) ∧ Later W W'
set_option maxRecDepth 100000 in
/-- Too many, none, or too long. -/
theorem turns_not (A : Option Addr) (n c : Nat) (a b : L) (ha : a.length ≤ maxLen) (hb : b.length ≤ maxLen) (hn : n ≤ maxLen) (h : ¬ (1 ≤ n ∧ n ≤ 3 ∧ a.length ≤ 60 ∧ b.length ≤ 60)) (W : World) (hvd : Vd W) : TurnsC A n c a b W := by
  have HAW := Lib.hid (awake_v W hvd)
  have hsa : (mkS a).size = a.length := mkS_size a
  have hsb : (mkS b).size = b.length := mkS_size b
  obtain ⟨za, hza⟩ : ∃ z, z = a.length := ⟨_, rfl⟩
  obtain ⟨zb, hzb⟩ : ∃ z, z = b.length := ⟨_, rfl⟩
  rw [← hza] at hsa h ha
  rw [← hzb] at hsb h hb
  unfold maxLen at ha hb hn
  have ha9 : (za : Int) ≤ 9223372036854775807 := by omega
  have hb9 : (zb : Int) ≤ 9223372036854775807 := by omega
  have hn9 : (n : Int) ≤ 9223372036854775807 := by omega
  have H := Lib.hid h
  clear hvd hza hzb ha hb hn h
  by_cases h3 : (3 : Int) < (n : Int)
  · (go_enter Tryd.func5, Tryd.ntmps5
     go_wp2_with (go_at_call 7; (with_reducible refine HAW.out.mono ?_); rintro ew w1 ⟨rfl, hl1⟩)
     go_ret
     exact ⟨rfl, hl1⟩)
  · by_cases h0 : n = 0
    · have h00 : ((n : Int) == 0) = true := by rw [h0]; rfl
      clear h0
      (go_enter Tryd.func5, Tryd.ntmps5
       go_wp2_with (go_at_call 7; (with_reducible refine HAW.out.mono ?_); rintro ew w1 ⟨rfl, hl1⟩)
       go_ret
       exact ⟨rfl, hl1⟩)
    · have h00 : ((n : Int) == 0) = false := by rw [beq_eq_false_iff_ne]; omega
      by_cases h60 : (60 : Int) < (za : Int)
      · clear h0
        (go_enter Tryd.func5, Tryd.ntmps5
         go_wp2_with (go_at_call 7; (with_reducible refine HAW.out.mono ?_); rintro ew w1 ⟨rfl, hl1⟩)
         go_ret
         exact ⟨rfl, hl1⟩)
      · have h61 : (60 : Int) < (zb : Int) := by have := H.out; omega
        clear h0
        (go_enter Tryd.func5, Tryd.ntmps5
         go_wp2_with (go_at_call 7; (with_reducible refine HAW.out.mono ?_); rintro ew w1 ⟨rfl, hl1⟩)
         go_ret
         exact ⟨rfl, hl1⟩)
set_option maxHeartbeats 6400000 in
set_option maxRecDepth 100000 in
theorem turns_core (A : Option Addr) (n c : Nat) (l : List L) (hn : l.length = n) (h1 : 1 ≤ n) (h3 : n ≤ 3) (hc : n ≤ c) (hs : Short l) (a b : L) (ha : a.length ≤ 60) (hb : b.length ≤ 60) (W : World) (hvd : Vd W) (hr : Rd W W.heap.size A n (l.map sv)) : TurnsC A n c a b W := by
  have htl : ∀ l, (mkS l).toList = l := toList_mkS
  obtain ⟨i0, hi, hz0, hz1, hz2⟩ := info_parts info_str
  have HAW := Lib.hid (awake_v W hvd)
  have hsa : (mkS a).size = a.length := mkS_size a
  have hsb : (mkS b).size = b.length := mkS_size b
  obtain ⟨za, hza⟩ : ∃ z, z = a.length := ⟨_, rfl⟩
  obtain ⟨zb, hzb⟩ : ∃ z, z = b.length := ⟨_, rfl⟩
  rw [← hza] at hsa
  rw [← hzb] at hsb
  have g1 : ¬ (3 : Int) < (n : Int) := by omega
  have g2 : ((n : Int) == 0) = false := by rw [beq_eq_false_iff_ne]; omega
  have g3 : ¬ (60 : Int) < (za : Int) := by omega
  have g4 : ¬ (60 : Int) < (zb : Int) := by omega
  obtain ⟨d, hd⟩ : ∃ d, d = dec l := ⟨_, rfl⟩
  obtain ⟨e, he⟩ : ∃ e, e = dec ([33] :: l) := ⟨_, rfl⟩
  have hsab : ∀ m : L, m.length ≤ 100 → Short [a, m, b] := fun m hm x hx => by
    simp only [List.mem_cons, List.not_mem_nil, or_false] at hx
    rcases hx with rfl | rfl | rfl <;> omega
  have hs1 : Short ([33] :: l) := fun x hx => by
    rcases List.mem_cons.1 hx with rfl | hx
    · simp
    · exact hs x hx
  have hok := ok_dec l
  rw [← hd] at hok
  have HTM := Lib.hid (show (∀ u v, l = [u, v] → isOp u = false) → e = turn d from fun h => by rw [hd, he]; exact turned_more l (by omega) (by omega) h)
  obtain ⟨lt, ge, hlt, hge, hlg⟩ := both_ways a b
  obtain ⟨bx, hbx⟩ : ∃ bx, bx = (a == b) := ⟨_, rfl⟩
  have HD := Lib.hid (show ∀ w, Later W w → Calls Tryd.prog 8 #[.slice A n c] w fun r W' => r = .returned (.tuple #[.int .i64 d.n, .agg #[.bool d.nt, .string (mkS d.op), .string (mkS d.path)], .bool d.asks]) ∧ Later w W' from fun w hl => by rw [hd]; exact dec_all A n c l hn hc hs w (hvd.later hl) (rd_later hr hl))
  have HE := Lib.hid (show ∀ w A2 c2 m, m = n + 1 → Later W w → m ≤ c2 → Rd w w.heap.size A2 m (([33] :: l).map sv) → Calls Tryd.prog 8 #[.slice A2 m c2] w fun r W' => r = .returned (.tuple #[.int .i64 e.n, .agg #[.bool e.nt, .string (mkS e.op), .string (mkS e.path)], .bool e.asks]) ∧ Later w W' from fun w A2 c2 m hm hl hc2 hr2 => by rw [he]; exact dec_all A2 m c2 ([33] :: l) (by simp [hn, hm]) hc2 hs1 w (hvd.later hl) hr2)
  have HX := Lib.hid (fun w hv N hN => lit_dec [a, [61], b] (hsab _ (by simp)) 3 rfl #[.string (mkS a), .string ⟨#[61]⟩, .string (mkS b)] rfl w hv (.tuple #[.int .i64 (t01 bx), .agg #[.bool false, .string ⟨#[]⟩, .string ⟨#[]⟩], .bool false]) (by rw [hbx]; rfl) N hN)
  have HY := Lib.hid (fun w hv N hN => lit_dec [a, [33, 61], b] (hsab _ (by simp)) 3 rfl #[.string (mkS a), .string ⟨#[33, 61]⟩, .string (mkS b)] rfl w hv (.tuple #[.int .i64 (t01 (!bx)), .agg #[.bool false, .string ⟨#[]⟩, .string ⟨#[]⟩], .bool false]) (by rw [hbx]; rfl) N hN)
  have HLT := Lib.hid (fun w hv N hN => lit_dec [a, [45, 108, 116], b] (hsab _ (by simp)) 3 rfl #[.string (mkS a), .string ⟨#[45, 108, 116]⟩, .string (mkS b)] rfl w hv (.tuple #[.int .i64 lt, .agg #[.bool false, .string ⟨#[]⟩, .string ⟨#[]⟩], .bool false]) (by rw [hlt]; rfl) N hN)
  have HGE := Lib.hid (fun w hv N hN => lit_dec [a, [45, 103, 101], b] (hsab _ (by simp)) 3 rfl #[.string (mkS a), .string ⟨#[45, 103, 101]⟩, .string (mkS b)] rfl w hv (.tuple #[.int .i64 ge, .agg #[.bool false, .string ⟨#[]⟩, .string ⟨#[]⟩], .bool false]) (by rw [hge]; rfl) N hN)
  have HVD := Lib.hid hvd
  have HRL := Lib.hid (fun w (hl : Later W w) => rd_later hr hl)
  have HNL := Lib.hid (And.intro hn (And.intro h1 h3))
  have HLG := Lib.hid hlg
  have hnb : (n : Int) ≤ 3 := by omega
  obtain ⟨dn, dnt, dop, dpath, dasks⟩ := d
  obtain ⟨en, ent, eop, epath, easks⟩ := e
  simp only at HD HE
  obtain ⟨x, hx⟩ : ∃ x : Int, x = t01 bx := ⟨_, rfl⟩
  obtain ⟨y, hy⟩ : ∃ y : Int, y = t01 (!bx) := ⟨_, rfl⟩
  rw [← hx] at HX
  rw [← hy] at HY
  have HXY := Lib.hid (show x + y = 1 ∧ 0 ≤ x ∧ x ≤ 1 ∧ 0 ≤ y ∧ y ≤ 1 by rw [hx, hy]; cases bx <;> decide)
  have HOK := Lib.hid hok
  clear hx hy hok
  clear hvd hr hs hs1 hsab hn h1 h3 hd he hlt hge hlg hbx hza hzb ha hb hc
  go_enter Tryd.func5, Tryd.ntmps5
  go_wp2_with fail
  go_at_call 7
  with_reducible refine HAW.out.mono ?_
  rintro ew w1 ⟨rfl, hl1⟩
  have HL1 := Lib.hid hl1
  have HO0 := Lib.hid (World.ownsRow_nil w1 w1.heap.size 9 1)
  clear hl1
  go_wp2_with (first
    | (at_builtin; refine wpList_app1 w1 (.string ⟨#[33]⟩) rfl (.tmp 48) (.tmp 49) _ rfl w1.heap.size 9 i0 (.string ⟨#[]⟩) 16 Tryd.underlying22 hi hz0 hz1 hz2 rfl rfl (.slice none 0 0) [] rfl HO0.out rfl (by simp) (by simp) (Nat.le_refl _) ?_; intro v2 w2 hg2; have HG2 := Lib.hid hg2; have HL2 := Lib.hid (HL1.out.trans hg2.belowNil); clear hg2)
    | (at_builtin; refine wpList_appN w2 rfl (.tmp 51) (.tmp 52) _ rfl w1.heap.size 9 i0 (.string ⟨#[]⟩) 16 Tryd.underlying22 hi hz0 hz1 hz2 rfl v2 _ rfl HG2.out.own w2.heap.size A n c _ rfl (HRL.out _ HL2.out) ?hone ?hby ?hle ?hbase ?_; (case hone => (intro u hu; obtain ⟨t, _, rfl⟩ := List.mem_map.1 hu; rfl)); (case hby => (have := HNL.out; simp; omega)); (case hle => (have := HNL.out; simp; omega)); (case hbase => exact HG2.out.grown.size); intro v3 w3 hg3; have HG3 := Lib.hid (HG2.out.trans hg3); clear hg3))
  obtain ⟨m, hm⟩ : ∃ m, m = n + 1 := ⟨_, rfl⟩
  have ho : w3.ownsRow w1.heap.size 9 1 v3 m (([33] :: l).map sv) := by
    have h9 := HG3.out.own
    have e9 : ([] ++ [Value.string ⟨#[33]⟩] ++ l.map sv).length = m := by simp [HNL.out.1, hm]
    rw [e9] at h9
    exact h9
  obtain ⟨A3, c3, rfl, hc3, hr3, _⟩ := own_slice ho
  obtain ⟨ad3, hA3, hb3, hcell3⟩ := hr3.2 (by omega)
  subst hA3
  have HL3 := Lib.hid (show Later W w3 from HL1.out.trans HG3.out.belowNil)
  have HR3 := Lib.hid (fun w (hl : Later w3 w) => rd_later hr3 hl)
  have HM := Lib.hid (And.intro hm hc3)
  have hm4 : (m : Int) ≤ 4 := by omega
  clear ho hr3 hcell3 hb3 hc3 hm
  go_at_call 8
  with_reducible refine (HD.out _ HL3.out).mono ?_
  rintro e4 w4 ⟨rfl, hl4⟩
  have HL4 := Lib.hid ((HL3.out.trans hl4).trans (Later.alloc w4 (.cells #[.bool dnt, .string (mkS dop), .string (mkS dpath)] 25)))
  have HW4 := Lib.hid (hl4.trans (Later.alloc w4 (.cells #[.bool dnt, .string (mkS dop), .string (mkS dpath)] 25)))
  clear hl4
  go_wp2_with fail
  go_at_call 8
  with_reducible refine (HE.out _ (some ad3) c3 m HM.out.1 HL4.out HM.out.2 (HR3.out _ HW4.out)).mono ?_
  rintro e5 w5 ⟨rfl, hl5⟩
  have HL5 := Lib.hid ((HL4.out.trans hl5).trans (Later.alloc w5 (.cells #[.bool ent, .string (mkS eop), .string (mkS epath)] 25)))
  have HW5 := Lib.hid ((HW4.out.trans hl5).trans (Later.alloc w5 (.cells #[.bool ent, .string (mkS eop), .string (mkS epath)] 25)))
  have HBD5 := Lib.hid (later_cells (hl5.trans (Later.alloc w5 (.cells #[.bool ent, .string (mkS eop), .string (mkS epath)] 25))) (heap_alloc_new w4 (.cells #[.bool dnt, .string (mkS dop), .string (mkS dpath)] 25)))
  clear hl5
  go_wp2_with fail
  go_at_call 8
  with_reducible refine (HX.out _ (HVD.out.later HL5.out) (w5.heap.size + 1) (World.size_alloc _ _).symm).mono ?_
  rintro e6 w6 ⟨rfl, hl6⟩
  have hs6 := (Later.alloc (w5.alloc (.cells #[.bool ent, .string (mkS eop), .string (mkS epath)] 25)) _).trans (hl6.trans (Later.alloc w6 (.cells #[.bool false, .string ⟨#[]⟩, .string ⟨#[]⟩] 25)))
  have HL6 := Lib.hid (HL5.out.trans hs6)
  have HS6 := Lib.hid hs6
  clear hl6 hs6
  go_wp2_with fail
  go_at_call 8
  with_reducible refine (HY.out _ (HVD.out.later HL6.out) (w6.heap.size + 1) (World.size_alloc _ _).symm).mono ?_
  rintro e7 w7 ⟨rfl, hl7⟩
  have hs7 := (Later.alloc (w6.alloc (.cells #[.bool false, .string ⟨#[]⟩, .string ⟨#[]⟩] 25)) _).trans (hl7.trans (Later.alloc w7 (.cells #[.bool false, .string ⟨#[]⟩, .string ⟨#[]⟩] 25)))
  have HL7 := Lib.hid (HL6.out.trans hs7)
  have HS7 := Lib.hid hs7
  clear hl7 hs7
  go_wp2_with fail
  go_at_call 8
  with_reducible refine (HLT.out _ (HVD.out.later HL7.out) (w7.heap.size + 1) (World.size_alloc _ _).symm).mono ?_
  rintro e8 w8 ⟨rfl, hl8⟩
  have hs8 := (Later.alloc (w7.alloc (.cells #[.bool false, .string ⟨#[]⟩, .string ⟨#[]⟩] 25)) _).trans (hl8.trans (Later.alloc w8 (.cells #[.bool false, .string ⟨#[]⟩, .string ⟨#[]⟩] 25)))
  have HL8 := Lib.hid (HL7.out.trans hs8)
  have HS8 := Lib.hid hs8
  clear hl8 hs8
  go_wp2_with fail
  go_at_call 8
  with_reducible refine (HGE.out _ (HVD.out.later HL8.out) (w8.heap.size + 1) (World.size_alloc _ _).symm).mono ?_
  rintro e9 w9 ⟨rfl, hl9⟩
  have hs9 := (Later.alloc (w8.alloc (.cells #[.bool false, .string ⟨#[]⟩, .string ⟨#[]⟩] 25)) _).trans (hl9.trans (Later.alloc w9 (.cells #[.bool false, .string ⟨#[]⟩, .string ⟨#[]⟩] 25)))
  have HL9 := Lib.hid (HL8.out.trans hs9)
  have HS9 := Lib.hid hs9
  clear hl9 hs9
  obtain ⟨W9, hW9⟩ : ∃ W9, W9 = w9.alloc (.cells #[.bool false, .string ⟨#[]⟩, .string ⟨#[]⟩] 25) := ⟨_, rfl⟩
  have hl59 : Later (w5.alloc (.cells #[.bool ent, .string (mkS eop), .string (mkS epath)] 25)) W9 := by rw [hW9]; exact ((HS6.out.trans HS7.out).trans HS8.out).trans HS9.out
  have hbd := later_cells hl59 HBD5.out
  have hbe := later_cells hl59 (heap_alloc_new w5 (.cells #[.bool ent, .string (mkS eop), .string (mkS epath)] 25))
  obtain ⟨u, r, hul⟩ : ∃ u r, l = u :: r := by
    cases l with
    | nil => have := HNL.out; simp at this; omega
    | cons u r => exact ⟨u, r, rfl⟩
  have hcu : W9.cell? ⟨ad3.block, ad3.off + 1, none⟩ = some (.string (mkS u)) := by
    obtain ⟨ad', e1, _, h9⟩ := (HR3.out _ (HW5.out.trans hl59)).2 (by have := HM.out.1; omega)
    injection e1 with e1
    subst e1
    exact h9 1 _ (by rw [hul]; rfl)
  have q0 : W9.cell? ⟨w4.heap.size, 0, none⟩ = some (.bool dnt) := (cell_row hbd 0).1
  have q1 : W9.cell? ⟨w4.heap.size, 1, none⟩ = some (.string (mkS dop)) := (cell_row hbd 1).1
  have q2 : W9.cell? ⟨w4.heap.size, 2, none⟩ = some (.string (mkS dpath)) := (cell_row hbd 2).1
  have p0 : W9.cell? ⟨w5.heap.size, 0, none⟩ = some (.bool ent) := (cell_row hbe 0).1
  have p1 : W9.cell? ⟨w5.heap.size, 1, none⟩ = some (.string (mkS eop)) := (cell_row hbe 1).1
  have p2 : W9.cell? ⟨w5.heap.size, 2, none⟩ = some (.string (mkS epath)) := (cell_row hbe 2).1
  have HL9 := Lib.hid (show Later W W9 from HL5.out.trans hl59)
  have HUL := Lib.hid hul
  clear hl59 hbd hbe hul
  subst hW9
  obtain ⟨hxy, hx0, hx1, hy0, hy1⟩ := HXY.out
  have hxyn : (x + y != 1) = false := by rw [hxy]; rfl
  rcases HLG.out with ⟨hg1, hg2⟩ | ⟨hl2, hlg, hlt0, hlt1, hge0, hge1⟩
  · subst hg1 hg2
    by_cases h3m : m = 3
    · have bb : ((m : Int) == 3) = true := by rw [h3m]; rfl
      have hm1 : (1 : Int) < (m : Int) := by omega
      have hnop : isOp u = false → _ := fun hq => HTM.out fun u' v' hl => by rw [HUL.out] at hl; injection hl with h1 _; rw [← h1]; exact hq
      clear h3m
      by_cases u0 : u = [61]
      · have y0 : (u == [61]) = true := by rw [u0]; rfl
        clear u0 hnop
        go_wp2
        go_ret
        exact ⟨rfl, HL9.out⟩
      · skip
        by_cases u1 : u = [33, 61]
        · have y1 : (u == [33, 61]) = true := by rw [u1]; rfl
          have y0 : (u == [61]) = false := beq_eq_false_iff_ne.2 u0
          clear u0 u1 hnop
          go_wp2
          go_ret
          exact ⟨rfl, HL9.out⟩
        · skip
          by_cases u2 : u = [45, 101, 113]
          · have y2 : (u == [45, 101, 113]) = true := by rw [u2]; rfl
            have y0 : (u == [61]) = false := beq_eq_false_iff_ne.2 u0
            have y1 : (u == [33, 61]) = false := beq_eq_false_iff_ne.2 u1
            clear u0 u1 u2 hnop
            go_wp2
            go_ret
            exact ⟨rfl, HL9.out⟩
          · skip
            by_cases u3 : u = [45, 110, 101]
            · have y3 : (u == [45, 110, 101]) = true := by rw [u3]; rfl
              have y0 : (u == [61]) = false := beq_eq_false_iff_ne.2 u0
              have y1 : (u == [33, 61]) = false := beq_eq_false_iff_ne.2 u1
              have y2 : (u == [45, 101, 113]) = false := beq_eq_false_iff_ne.2 u2
              clear u0 u1 u2 u3 hnop
              go_wp2
              go_ret
              exact ⟨rfl, HL9.out⟩
            · skip
              by_cases u4 : u = [45, 108, 116]
              · have y4 : (u == [45, 108, 116]) = true := by rw [u4]; rfl
                have y0 : (u == [61]) = false := beq_eq_false_iff_ne.2 u0
                have y1 : (u == [33, 61]) = false := beq_eq_false_iff_ne.2 u1
                have y2 : (u == [45, 101, 113]) = false := beq_eq_false_iff_ne.2 u2
                have y3 : (u == [45, 110, 101]) = false := beq_eq_false_iff_ne.2 u3
                clear u0 u1 u2 u3 u4 hnop
                go_wp2
                go_ret
                exact ⟨rfl, HL9.out⟩
              · skip
                by_cases u5 : u = [45, 108, 101]
                · have y5 : (u == [45, 108, 101]) = true := by rw [u5]; rfl
                  have y0 : (u == [61]) = false := beq_eq_false_iff_ne.2 u0
                  have y1 : (u == [33, 61]) = false := beq_eq_false_iff_ne.2 u1
                  have y2 : (u == [45, 101, 113]) = false := beq_eq_false_iff_ne.2 u2
                  have y3 : (u == [45, 110, 101]) = false := beq_eq_false_iff_ne.2 u3
                  have y4 : (u == [45, 108, 116]) = false := beq_eq_false_iff_ne.2 u4
                  clear u0 u1 u2 u3 u4 u5 hnop
                  go_wp2
                  go_ret
                  exact ⟨rfl, HL9.out⟩
                · skip
                  by_cases u6 : u = [45, 103, 116]
                  · have y6 : (u == [45, 103, 116]) = true := by rw [u6]; rfl
                    have y0 : (u == [61]) = false := beq_eq_false_iff_ne.2 u0
                    have y1 : (u == [33, 61]) = false := beq_eq_false_iff_ne.2 u1
                    have y2 : (u == [45, 101, 113]) = false := beq_eq_false_iff_ne.2 u2
                    have y3 : (u == [45, 110, 101]) = false := beq_eq_false_iff_ne.2 u3
                    have y4 : (u == [45, 108, 116]) = false := beq_eq_false_iff_ne.2 u4
                    have y5 : (u == [45, 108, 101]) = false := beq_eq_false_iff_ne.2 u5
                    clear u0 u1 u2 u3 u4 u5 u6 hnop
                    go_wp2
                    go_ret
                    exact ⟨rfl, HL9.out⟩
                  · skip
                    by_cases u7 : u = [45, 103, 101]
                    · have y7 : (u == [45, 103, 101]) = true := by rw [u7]; rfl
                      have y0 : (u == [61]) = false := beq_eq_false_iff_ne.2 u0
                      have y1 : (u == [33, 61]) = false := beq_eq_false_iff_ne.2 u1
                      have y2 : (u == [45, 101, 113]) = false := beq_eq_false_iff_ne.2 u2
                      have y3 : (u == [45, 110, 101]) = false := beq_eq_false_iff_ne.2 u3
                      have y4 : (u == [45, 108, 116]) = false := beq_eq_false_iff_ne.2 u4
                      have y5 : (u == [45, 108, 101]) = false := beq_eq_false_iff_ne.2 u5
                      have y6 : (u == [45, 103, 116]) = false := beq_eq_false_iff_ne.2 u6
                      clear u0 u1 u2 u3 u4 u5 u6 u7 hnop
                      go_wp2
                      go_ret
                      exact ⟨rfl, HL9.out⟩
                    · skip
                      have y0 : (u == [61]) = false := beq_eq_false_iff_ne.2 u0
                      have y1 : (u == [33, 61]) = false := beq_eq_false_iff_ne.2 u1
                      have y2 : (u == [45, 101, 113]) = false := beq_eq_false_iff_ne.2 u2
                      have y3 : (u == [45, 110, 101]) = false := beq_eq_false_iff_ne.2 u3
                      have y4 : (u == [45, 108, 116]) = false := beq_eq_false_iff_ne.2 u4
                      have y5 : (u == [45, 108, 101]) = false := beq_eq_false_iff_ne.2 u5
                      have y6 : (u == [45, 103, 116]) = false := beq_eq_false_iff_ne.2 u6
                      have y7 : (u == [45, 103, 101]) = false := beq_eq_false_iff_ne.2 u7
                      have hte := hnop (by unfold isOp cmpF; simp [u0, u1, u2, u3, u4, u5, u6, u7])
                      clear hnop u0 u1 u2 u3 u4 u5 u6 u7
                      cases dasks with
                      | true =>
                        have h : (⟨en, ent, eop, epath, easks⟩ : D) = ⟨dn, !dnt, dop, dpath, true⟩ := hte.trans rfl
                        clear hte
                        injection h with e1 e2 e3 e4 e5
                        subst e1 e2 e3 e4 e5
                        cases dnt
                        all_goals (
                          go_wp2
                          go_ret
                          exact ⟨rfl, HL9.out⟩)
                      | false =>
                        rcases HOK.out.1 with hdn | hdn | hdn
                        · simp only at hdn
                          subst hdn
                          have h : (⟨en, ent, eop, epath, easks⟩ : D) = ⟨1, dnt, dop, dpath, false⟩ := hte.trans rfl
                          clear hte
                          injection h with e1 e2 e3 e4 e5
                          subst e1 e2 e3 e4 e5
                          go_wp2
                          go_ret
                          exact ⟨rfl, HL9.out⟩
                        · simp only at hdn
                          subst hdn
                          have h : (⟨en, ent, eop, epath, easks⟩ : D) = ⟨0, dnt, dop, dpath, false⟩ := hte.trans rfl
                          clear hte
                          injection h with e1 e2 e3 e4 e5
                          subst e1 e2 e3 e4 e5
                          go_wp2
                          go_ret
                          exact ⟨rfl, HL9.out⟩
                        · simp only at hdn
                          subst hdn
                          have h : (⟨en, ent, eop, epath, easks⟩ : D) = ⟨2, dnt, dop, dpath, false⟩ := hte.trans rfl
                          clear hte
                          injection h with e1 e2 e3 e4 e5
                          subst e1 e2 e3 e4 e5
                          go_wp2
                          go_ret
                          exact ⟨rfl, HL9.out⟩
    · have bb : ((m : Int) == 3) = false := by rw [beq_eq_false_iff_ne]; omega
      have hte := HTM.out fun u' v' hl => by have h1 := HNL.out.1; have h2 := HM.out.1; rw [hl] at h1; simp at h1; omega
      clear h3m
      cases dasks with
      | true =>
        have h : (⟨en, ent, eop, epath, easks⟩ : D) = ⟨dn, !dnt, dop, dpath, true⟩ := hte.trans rfl
        clear hte
        injection h with e1 e2 e3 e4 e5
        subst e1 e2 e3 e4 e5
        cases dnt
        all_goals (
          go_wp2
          go_ret
          exact ⟨rfl, HL9.out⟩)
      | false =>
        rcases HOK.out.1 with hdn | hdn | hdn
        · simp only at hdn
          subst hdn
          have h : (⟨en, ent, eop, epath, easks⟩ : D) = ⟨1, dnt, dop, dpath, false⟩ := hte.trans rfl
          clear hte
          injection h with e1 e2 e3 e4 e5
          subst e1 e2 e3 e4 e5
          go_wp2
          go_ret
          exact ⟨rfl, HL9.out⟩
        · simp only at hdn
          subst hdn
          have h : (⟨en, ent, eop, epath, easks⟩ : D) = ⟨0, dnt, dop, dpath, false⟩ := hte.trans rfl
          clear hte
          injection h with e1 e2 e3 e4 e5
          subst e1 e2 e3 e4 e5
          go_wp2
          go_ret
          exact ⟨rfl, HL9.out⟩
        · simp only at hdn
          subst hdn
          have h : (⟨en, ent, eop, epath, easks⟩ : D) = ⟨2, dnt, dop, dpath, false⟩ := hte.trans rfl
          clear hte
          injection h with e1 e2 e3 e4 e5
          subst e1 e2 e3 e4 e5
          go_wp2
          go_ret
          exact ⟨rfl, HL9.out⟩
  · have k1 : (lt != 2) = true := bne_iff_ne.2 hl2
    have k2 : (lt == 2) = false := beq_eq_false_iff_ne.2 hl2
    have k3 : (lt + ge != 1) = false := by rw [hlg]; rfl
    clear hl2
    by_cases h3m : m = 3
    · have bb : ((m : Int) == 3) = true := by rw [h3m]; rfl
      have hm1 : (1 : Int) < (m : Int) := by omega
      have hnop : isOp u = false → _ := fun hq => HTM.out fun u' v' hl => by rw [HUL.out] at hl; injection hl with h1 _; rw [← h1]; exact hq
      clear h3m
      by_cases u0 : u = [61]
      · have y0 : (u == [61]) = true := by rw [u0]; rfl
        clear u0 hnop
        go_wp2
        go_ret
        exact ⟨rfl, HL9.out⟩
      · skip
        by_cases u1 : u = [33, 61]
        · have y1 : (u == [33, 61]) = true := by rw [u1]; rfl
          have y0 : (u == [61]) = false := beq_eq_false_iff_ne.2 u0
          clear u0 u1 hnop
          go_wp2
          go_ret
          exact ⟨rfl, HL9.out⟩
        · skip
          by_cases u2 : u = [45, 101, 113]
          · have y2 : (u == [45, 101, 113]) = true := by rw [u2]; rfl
            have y0 : (u == [61]) = false := beq_eq_false_iff_ne.2 u0
            have y1 : (u == [33, 61]) = false := beq_eq_false_iff_ne.2 u1
            clear u0 u1 u2 hnop
            go_wp2
            go_ret
            exact ⟨rfl, HL9.out⟩
          · skip
            by_cases u3 : u = [45, 110, 101]
            · have y3 : (u == [45, 110, 101]) = true := by rw [u3]; rfl
              have y0 : (u == [61]) = false := beq_eq_false_iff_ne.2 u0
              have y1 : (u == [33, 61]) = false := beq_eq_false_iff_ne.2 u1
              have y2 : (u == [45, 101, 113]) = false := beq_eq_false_iff_ne.2 u2
              clear u0 u1 u2 u3 hnop
              go_wp2
              go_ret
              exact ⟨rfl, HL9.out⟩
            · skip
              by_cases u4 : u = [45, 108, 116]
              · have y4 : (u == [45, 108, 116]) = true := by rw [u4]; rfl
                have y0 : (u == [61]) = false := beq_eq_false_iff_ne.2 u0
                have y1 : (u == [33, 61]) = false := beq_eq_false_iff_ne.2 u1
                have y2 : (u == [45, 101, 113]) = false := beq_eq_false_iff_ne.2 u2
                have y3 : (u == [45, 110, 101]) = false := beq_eq_false_iff_ne.2 u3
                clear u0 u1 u2 u3 u4 hnop
                go_wp2
                go_ret
                exact ⟨rfl, HL9.out⟩
              · skip
                by_cases u5 : u = [45, 108, 101]
                · have y5 : (u == [45, 108, 101]) = true := by rw [u5]; rfl
                  have y0 : (u == [61]) = false := beq_eq_false_iff_ne.2 u0
                  have y1 : (u == [33, 61]) = false := beq_eq_false_iff_ne.2 u1
                  have y2 : (u == [45, 101, 113]) = false := beq_eq_false_iff_ne.2 u2
                  have y3 : (u == [45, 110, 101]) = false := beq_eq_false_iff_ne.2 u3
                  have y4 : (u == [45, 108, 116]) = false := beq_eq_false_iff_ne.2 u4
                  clear u0 u1 u2 u3 u4 u5 hnop
                  go_wp2
                  go_ret
                  exact ⟨rfl, HL9.out⟩
                · skip
                  by_cases u6 : u = [45, 103, 116]
                  · have y6 : (u == [45, 103, 116]) = true := by rw [u6]; rfl
                    have y0 : (u == [61]) = false := beq_eq_false_iff_ne.2 u0
                    have y1 : (u == [33, 61]) = false := beq_eq_false_iff_ne.2 u1
                    have y2 : (u == [45, 101, 113]) = false := beq_eq_false_iff_ne.2 u2
                    have y3 : (u == [45, 110, 101]) = false := beq_eq_false_iff_ne.2 u3
                    have y4 : (u == [45, 108, 116]) = false := beq_eq_false_iff_ne.2 u4
                    have y5 : (u == [45, 108, 101]) = false := beq_eq_false_iff_ne.2 u5
                    clear u0 u1 u2 u3 u4 u5 u6 hnop
                    go_wp2
                    go_ret
                    exact ⟨rfl, HL9.out⟩
                  · skip
                    by_cases u7 : u = [45, 103, 101]
                    · have y7 : (u == [45, 103, 101]) = true := by rw [u7]; rfl
                      have y0 : (u == [61]) = false := beq_eq_false_iff_ne.2 u0
                      have y1 : (u == [33, 61]) = false := beq_eq_false_iff_ne.2 u1
                      have y2 : (u == [45, 101, 113]) = false := beq_eq_false_iff_ne.2 u2
                      have y3 : (u == [45, 110, 101]) = false := beq_eq_false_iff_ne.2 u3
                      have y4 : (u == [45, 108, 116]) = false := beq_eq_false_iff_ne.2 u4
                      have y5 : (u == [45, 108, 101]) = false := beq_eq_false_iff_ne.2 u5
                      have y6 : (u == [45, 103, 116]) = false := beq_eq_false_iff_ne.2 u6
                      clear u0 u1 u2 u3 u4 u5 u6 u7 hnop
                      go_wp2
                      go_ret
                      exact ⟨rfl, HL9.out⟩
                    · skip
                      have y0 : (u == [61]) = false := beq_eq_false_iff_ne.2 u0
                      have y1 : (u == [33, 61]) = false := beq_eq_false_iff_ne.2 u1
                      have y2 : (u == [45, 101, 113]) = false := beq_eq_false_iff_ne.2 u2
                      have y3 : (u == [45, 110, 101]) = false := beq_eq_false_iff_ne.2 u3
                      have y4 : (u == [45, 108, 116]) = false := beq_eq_false_iff_ne.2 u4
                      have y5 : (u == [45, 108, 101]) = false := beq_eq_false_iff_ne.2 u5
                      have y6 : (u == [45, 103, 116]) = false := beq_eq_false_iff_ne.2 u6
                      have y7 : (u == [45, 103, 101]) = false := beq_eq_false_iff_ne.2 u7
                      have hte := hnop (by unfold isOp cmpF; simp [u0, u1, u2, u3, u4, u5, u6, u7])
                      clear hnop u0 u1 u2 u3 u4 u5 u6 u7
                      cases dasks with
                      | true =>
                        have h : (⟨en, ent, eop, epath, easks⟩ : D) = ⟨dn, !dnt, dop, dpath, true⟩ := hte.trans rfl
                        clear hte
                        injection h with e1 e2 e3 e4 e5
                        subst e1 e2 e3 e4 e5
                        cases dnt
                        all_goals (
                          go_wp2
                          go_ret
                          exact ⟨rfl, HL9.out⟩)
                      | false =>
                        rcases HOK.out.1 with hdn | hdn | hdn
                        · simp only at hdn
                          subst hdn
                          have h : (⟨en, ent, eop, epath, easks⟩ : D) = ⟨1, dnt, dop, dpath, false⟩ := hte.trans rfl
                          clear hte
                          injection h with e1 e2 e3 e4 e5
                          subst e1 e2 e3 e4 e5
                          go_wp2
                          go_ret
                          exact ⟨rfl, HL9.out⟩
                        · simp only at hdn
                          subst hdn
                          have h : (⟨en, ent, eop, epath, easks⟩ : D) = ⟨0, dnt, dop, dpath, false⟩ := hte.trans rfl
                          clear hte
                          injection h with e1 e2 e3 e4 e5
                          subst e1 e2 e3 e4 e5
                          go_wp2
                          go_ret
                          exact ⟨rfl, HL9.out⟩
                        · simp only at hdn
                          subst hdn
                          have h : (⟨en, ent, eop, epath, easks⟩ : D) = ⟨2, dnt, dop, dpath, false⟩ := hte.trans rfl
                          clear hte
                          injection h with e1 e2 e3 e4 e5
                          subst e1 e2 e3 e4 e5
                          go_wp2
                          go_ret
                          exact ⟨rfl, HL9.out⟩
    · have bb : ((m : Int) == 3) = false := by rw [beq_eq_false_iff_ne]; omega
      have hte := HTM.out fun u' v' hl => by have h1 := HNL.out.1; have h2 := HM.out.1; rw [hl] at h1; simp at h1; omega
      clear h3m
      cases dasks with
      | true =>
        have h : (⟨en, ent, eop, epath, easks⟩ : D) = ⟨dn, !dnt, dop, dpath, true⟩ := hte.trans rfl
        clear hte
        injection h with e1 e2 e3 e4 e5
        subst e1 e2 e3 e4 e5
        cases dnt
        all_goals (
          go_wp2
          go_ret
          exact ⟨rfl, HL9.out⟩)
      | false =>
        rcases HOK.out.1 with hdn | hdn | hdn
        · simp only at hdn
          subst hdn
          have h : (⟨en, ent, eop, epath, easks⟩ : D) = ⟨1, dnt, dop, dpath, false⟩ := hte.trans rfl
          clear hte
          injection h with e1 e2 e3 e4 e5
          subst e1 e2 e3 e4 e5
          go_wp2
          go_ret
          exact ⟨rfl, HL9.out⟩
        · simp only at hdn
          subst hdn
          have h : (⟨en, ent, eop, epath, easks⟩ : D) = ⟨0, dnt, dop, dpath, false⟩ := hte.trans rfl
          clear hte
          injection h with e1 e2 e3 e4 e5
          subst e1 e2 e3 e4 e5
          go_wp2
          go_ret
          exact ⟨rfl, HL9.out⟩
        · simp only at hdn
          subst hdn
          have h : (⟨en, ent, eop, epath, easks⟩ : D) = ⟨2, dnt, dop, dpath, false⟩ := hte.trans rfl
          clear hte
          injection h with e1 e2 e3 e4 e5
          subst e1 e2 e3 e4 e5
          go_wp2
          go_ret
          exact ⟨rfl, HL9.out⟩
end Ar
end Go.Proofs.YtjidclefpmcgoaaDoor
