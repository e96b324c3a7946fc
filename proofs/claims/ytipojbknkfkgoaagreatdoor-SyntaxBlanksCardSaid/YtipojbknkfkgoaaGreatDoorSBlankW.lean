/- The walk of SyntaxBlanks. -/
import Derived.Test.YtipojbknkfkgoaaGreatDoorSameS
import Derived.Test.YtipojbknkfkgoaaGreatDoorSBlankT
import Derived.Test.YtipojbknkfkgoaaGreatDoorNz
namespace Go.Proofs.YtipojbknkfkgoaaGreatDoor
open Go.RowKit Go.Maps
open Lx (nl Tok)
open Pz
/-- A row of texts, as the walks read it. -/
theorem strs_of {w : World} {B n : Nat} {A : Option Addr} {l : List ByteArray} (h : Rd w B A n (l.map Value.string)) : ∃ ls : List (List UInt8), Rd w B A n (ls.map fun x => Value.string (mkS x)) :=
  ⟨l.map fun s => s.data.toList, by
    have e : (l.map fun s => s.data.toList).map (fun x => Value.string (mkS x)) = l.map Value.string := by
      rw [List.map_map]
      exact List.map_congr_left fun s _ => by simp [Function.comp, mkS_of]
    rw [e]
    exact h⟩
theorem strs_at {w : World} {B n : Nat} {A : Option Addr} {ls : List (List UInt8)} (h : Rd w B A n (ls.map fun x => Value.string (mkS x))) {k : Nat} (hk : k < n) : ∃ ad, A = some ad ∧ ∃ h : k < ls.length, w.cell? (ad.add k) = some (.string (mkS ls[k])) := by
  obtain ⟨ad, hl, e, _, hc⟩ := h.at_map hk
  exact ⟨ad, e, hl, hc⟩
theorem sgetk (l : List UInt8) (k : Nat) (hk : k < l.length) : ∀ h, (mkS l)[k]'h = l[k] := fun _ => rfl
theorem tree_most {W : World} {N : Nat} {v : Value} {ns : List Sx.Node} (h : TreeM W N v ns) : ns.length ≤ maxLen := by
  obtain ⟨nd, h1, h2, _⟩ := h
  have := own_most h2
  rw [← h1, List.length_map]
  exact this
theorem RdN.nil (W : World) : RdN W none 0 [] := ⟨rfl, fun k h => by cases h⟩
/-- What Parse gives: nodes that read as ns, and the error's number. -/
abbrev Gives (w : World) (S : List UInt8) (n k : Nat) (ns : List Sx.Node) : Prop := ∀ W, Later w W → Calls Tryz.prog 6 #[.string (mkS S)] W fun e W' => ∃ A c ln, e = .returned (.tuple #[.agg #[.slice A n c], .int .i64 (k : Int), .int .i64 ln]) ∧ n ≤ maxLen ∧ RdN W' A n ns ∧ Later W W'
theorem gives_ok {w : World} (hg : Sgn w) {S : List UInt8} {ns : List Sx.Node} (hS : S.length ≤ 4096) (ht : Sx.tree S = .ok ns) : Gives w S ns.length 0 ns := fun W hW => (parse_ok hS ht W (Sgn.later' hg hW)).mono fun e W' h => by
  obtain ⟨A, c, e1, _, hm, hl⟩ := h
  exact ⟨A, c, 0, e1, tree_most hm, RdN.of_tree hm rfl, hl⟩
theorem gives_err {w : World} (hg : Sgn w) {S : List UInt8} {k l : Nat} (hS : S.length ≤ 4096) (ht : Sx.tree S = .error (k, l)) : Gives w S 0 k [] := fun W hW => (parse_err hS ht W (Sgn.later' hg hW)).mono fun e W' h => by
  obtain ⟨e1, hl⟩ := h
  exact ⟨none, 0, _, e1, Nat.zero_le _, RdN.nil _, hl⟩
namespace syntaxBlanks
abbrev Args (w : World) (A1 : Option Addr) (n1 c1 : Nat) (ls : List (List UInt8)) : Prop := Rd w w.heap.size A1 n1 (ls.map fun x => Value.string (mkS x)) ∧ n1 ≤ c1 ∧ c1 ≤ maxLen
theorem sA_len (ls : List L) (h : ∀ x ∈ ls, x.length ≤ 60) : (sA ls).length ≤ 61 * ls.length := by
  unfold sA
  induction ls with
  | nil => simp
  | cons x ls ih =>
    have h1 := h x (by simp)
    have h2 := ih fun y hy => h y (by simp [hy])
    simp only [List.flatMap_cons, List.length_append, List.length_cons, List.length_nil]
    omega
theorem sB_len (more : L) (hm : more.length ≤ 30) (ls : List L) (h : ∀ x ∈ ls, x.length ≤ 60) : (sB more ls).length ≤ 96 * ls.length := by
  unfold sB
  induction ls with
  | nil => simp
  | cons x ls ih =>
    have h1 := h x (by simp)
    have h2 := ih fun y hy => h y (by simp [hy])
    simp only [List.flatMap_cons, List.length_append, List.length_cons, List.length_nil]
    omega
theorem both (w : World) (hg : Sgn w) (more : L) (hm : more.length ≤ 30) (h10 : ∀ c ∈ more, c ≠ 10) (ls : List L) (hn : ls.length ≤ 40) (h60 : ∀ x ∈ ls, x.length ≤ 60) (hok : ∀ x ∈ ls, ∀ c ∈ x, okC c = true) :
    ∃ n k ns ns', Gives w (sA ls) n k ns ∧ Gives w (sB more ls) n k ns' ∧ ns'.map Sx.strip = ns.map Sx.strip := by
  have l1 := sA_len ls h60
  have l2 := sB_len more hm ls h60
  rcases trees more h10 ls hok with ⟨ns, ns', h1, h2, h3⟩ | ⟨k, l, l', h1, h2⟩
  · have hl : ns'.length = ns.length := by have := congrArg List.length h3; simpa using this
    exact ⟨ns.length, 0, ns, ns', gives_ok hg (by omega) h1, by have := gives_ok hg (S := sB more ls) (by omega) h2; rwa [hl] at this, h3⟩
  · exact ⟨0, k, [], [], gives_err hg (by omega) h1, gives_err hg (by omega) h2, rfl⟩
theorem byte_cases (c : UInt8) : (okC c = true ∧ ((¬ ((c.toNat : Int) < 97) ∧ ¬ (122 < (c.toNat : Int))) ∨ c = 59 ∨ c = 38 ∨ c = 124 ∨ c = 40 ∨ c = 41 ∨ c = 123 ∨ c = 125 ∨ c = 33)) ∨ (okC c = false ∧ ((c.toNat : Int) < 97 ∨ (¬ ((c.toNat : Int) < 97) ∧ 122 < (c.toNat : Int))) ∧ ¬ c = 59 ∧ ¬ c = 38 ∧ ¬ c = 124 ∧ ¬ c = 40 ∧ ¬ c = 41 ∧ ¬ c = 123 ∧ ¬ c = 125 ∧ ¬ c = 33) := by
  have := each_byte (P := fun c => (okC c && ((!(decide ((c.toNat : Int) < 97)) && !(decide (122 < (c.toNat : Int)))) || (c == 59 || c == 38 || c == 124 || c == 40 || c == 41 || c == 123 || c == 125 || c == 33))) || (!(okC c) && (decide ((c.toNat : Int) < 97) || (!(decide ((c.toNat : Int) < 97)) && decide (122 < (c.toNat : Int)))) && (c != 59 && c != 38 && c != 124 && c != 40 && c != 41 && c != 123 && c != 125 && c != 33))) (by decide +kernel) c
  simp only [Bool.or_eq_true, Bool.and_eq_true, Bool.not_eq_true', decide_eq_true_eq, decide_eq_false_iff_not, beq_iff_eq, bne_iff_ne, ne_eq] at this
  rcases this with ⟨h1, h2⟩ | ⟨⟨h1, h2⟩, h3⟩
  · exact .inl ⟨h1, by simpa [or_assoc] using h2⟩
  · exact .inr ⟨h1, h2, by simpa [and_assoc] using h3⟩

theorem ne_int {c d : UInt8} (h : ¬ c = d) : ((c.toNat : Int) != (d.toNat : Int)) = true := by
  rw [bne_iff_ne]
  intro e
  exact h (UInt8.toNat_inj.1 (by omega))
set_option maxHeartbeats 1600000 in
set_option maxRecDepth 100000 in
theorem walkX (w : World) (hg : Sgn w) (A1 : Option Addr) (n1 c1 : Nat) (more : L) (h : (40 : Int) < (n1 : Int)) :
    Calls Tryz.prog 3 #[.slice A1 n1 c1, .string (mkS more)] w fun e w' => e = .returned (.bool true) ∧ Below w.heap.size w w' := by
  have HA := Lib.hid (awake_v w hg)
  clear hg
  go_enter Tryz.func3, Tryz.ntmps3
  go_wp2_with (go_at_call 5; (with_reducible refine HA.out.mono ?_); rintro e w1 ⟨rfl, hb1⟩; have HB1 := Lib.hid hb1; clear hb1)
  go_ret
  exact ⟨rfl, HB1.out⟩
set_option maxHeartbeats 1600000 in
set_option maxRecDepth 100000 in
theorem walkY (w : World) (hg : Sgn w) (A1 : Option Addr) (n1 c1 : Nat) (more : L) (h : ¬ (40 : Int) < (n1 : Int)) (h2 : (30 : Int) < ((mkS more).size : Int)) :
    Calls Tryz.prog 3 #[.slice A1 n1 c1, .string (mkS more)] w fun e w' => e = .returned (.bool true) ∧ Below w.heap.size w w' := by
  have HA := Lib.hid (awake_v w hg)
  clear hg
  go_enter Tryz.func3, Tryz.ntmps3
  go_wp2_with (go_at_call 5; (with_reducible refine HA.out.mono ?_); rintro e w1 ⟨rfl, hb1⟩; have HB1 := Lib.hid hb1; clear hb1)
  go_ret
  exact ⟨rfl, HB1.out⟩

set_option maxHeartbeats 6400000 in
set_option maxRecDepth 100000 in
theorem walkM (w : World) (hg : Sgn w) (A1 : Option Addr) (n1 c1 : Nat) (ls : List L) (h : Args w A1 n1 c1 ls) (more : L) (h40 : ¬ (40 : Int) < (n1 : Int)) (h30 : ¬ (30 : Int) < ((mkS more).size : Int)) :
    Calls Tryz.prog 3 #[.slice A1 n1 c1, .string (mkS more)] w fun e w' => e = .returned (.bool true) ∧ Below w.heap.size w w' := by
  have HA := Lib.hid (awake_v w hg)
  have HR := Lib.hid h.1
  have hlen : ls.length = n1 := by have := h.1.1; rw [List.length_map] at this; exact this
  have HN := Lib.hid hlen
  have HG := Lib.hid hg
  obtain ⟨mm, hmm⟩ : ∃ mm, mm = more.length := ⟨_, rfl⟩
  obtain ⟨Mo, hMo⟩ : ∃ Mo, Mo = mkS more := ⟨_, rfl⟩
  have hmz : Mo.size = mm := by rw [hMo, mkS_size, hmm]
  have HMM := Lib.hid hmm
  have HMO := Lib.hid hMo
  have hmm30 : mm ≤ 30 := by rw [← hMo, hmz] at h30; omega
  rw [← hMo] at h30 ⊢
  clear h hg hlen hmm hMo
  go_enter Tryz.func3, Tryz.ntmps3
  go_wp2_with (go_at_call 5; (with_reducible refine HA.out.mono ?_); rintro e w1 ⟨rfl, hb1⟩; have HB1 := Lib.hid hb1; clear hb1)
  have HR1 := Lib.hid ((HR.out.below HB1.out).more HB1.out.size)
  go_loopw [6] (fun i wr => ∃ j : Nat, j ≤ mm ∧ i = .int .i64 (j : Int) ∧ wr = w1 ∧ ∀ c ∈ more.take j, c ≠ 10) (fun i _ => mm - (intOf i).toNat)
  case atStart => exact ⟨0, by omega, rfl, by first | rfl | trivial, by simp⟩
  case round =>
    obtain ⟨j, hj, rfl, hw, hn10⟩ := hrel
    subst hw
    have HN10 := Lib.hid hn10
    clear hn10
    have hj0 : (0 : Int) ≤ (j : Int) := by omega
    by_cases hjm : j < mm
    · have hjl : j < more.length := by rw [← HMM.out]; exact hjm
      have hj1 : (j : Int) < (Mo.size : Int) := by omega
      have hj2 : (j : Int) < (mm : Int) := by omega
      obtain ⟨c, hcx⟩ : ∃ c, c = more[j] := ⟨_, rfl⟩
      have hgx : ∀ h, Mo[j]'h = c := by rw [hcx]; have := HMO.out; subst this; exact sgetk more j hjl
      have HNX := Lib.hid (show c ≠ 10 → ∀ c ∈ more.take (j + 1), c ≠ 10 from fun h d hd => by
        rw [List.take_succ_eq_append_getElem hjl, List.mem_append] at hd
        rcases hd with hd | hd
        · exact HN10.out d hd
        · rw [List.mem_singleton] at hd; rw [hd, ← hcx]; exact h)
      clear hcx hjl
      by_cases h10 : c = 10
      · have hq : ((c.toNat : Int) == 10) = true := by rw [h10]; rfl
        go_wp2
        go_ret
        exact ⟨rfl, HB1.out⟩
      · have hq : ((c.toNat : Int) == 10) = false := by
          rw [beq_eq_false_iff_ne]
          intro e
          exact h10 (UInt8.toNat_inj.1 (by have : (10 : UInt8).toNat = 10 := rfl; omega))
        go_wp2
        go_roundw
        case rel => exact ⟨j + 1, by omega, by go_num, by first | rfl | trivial, HNX.out h10⟩
        case measure => simp [intOf]; omega
    · have hje : ¬ (j : Int) < (mm : Int) := by omega
      have H10 := Lib.hid (show ∀ c ∈ more, c ≠ 10 from fun c hc => HN10.out c (by rw [List.take_of_length_le (by rw [← HMM.out]; omega)]; exact hc))
      go_wp2
      obtain ⟨w1, rfl⟩ : ∃ w1, w1 = wr := ⟨_, rfl⟩
      go_loopw [7, 8, 9] (fun a b i wr => ∃ j : Nat, j ≤ n1 ∧ i = .int .i64 (j : Int) ∧ a = .string (mkS (sA (ls.take j))) ∧ b = .string (mkS (sB more (ls.take j))) ∧ wr = w1 ∧ ∀ x ∈ ls.take j, x.length ≤ 60 ∧ ∀ c ∈ x, okC c = true) (fun a b i _ => n1 - (intOf i).toNat)
      case atStart => exact ⟨0, by omega, rfl, rfl, rfl, by first | rfl | trivial, by simp⟩
      case round =>
        obtain ⟨j, hj, rfl, rfl, rfl, hw, hok⟩ := hrel
        subst hw
        have HOK := Lib.hid hok
        clear hok
        have hj0 : (0 : Int) ≤ (j : Int) := by omega
        by_cases hjn : j < n1
        · obtain ⟨ad, rfl, hjl, hc⟩ := strs_at HR1.out hjn
          have hj1 : (j : Int) < (n1 : Int) := by omega
          obtain ⟨x, hx⟩ : ∃ x, x = ls[j] := ⟨_, rfl⟩
          rw [← hx] at hc
          have HTK := Lib.hid (show ls.take (j + 1) = ls.take j ++ [x] by rw [List.take_succ_eq_append_getElem hjl, hx])
          clear hx hjl
          obtain ⟨m, hm⟩ : ∃ m, m = x.length := ⟨_, rfl⟩
          have hz : (mkS x).size = m := by rw [mkS_size, hm]
          have HM := Lib.hid hm
          obtain ⟨pa, hpa⟩ : ∃ p, p = mkS (sA (ls.take j)) := ⟨_, rfl⟩
          obtain ⟨pb, hpb⟩ : ∃ p, p = mkS (sB more (ls.take j)) := ⟨_, rfl⟩
          have HPA := Lib.hid hpa
          have HPB := Lib.hid hpb
          rw [← hpa, ← hpb]
          clear hm hpa hpb
          by_cases h60 : (60 : Int) < (m : Int)
          · go_wp2
            go_ret
            exact ⟨rfl, HB1.out⟩
          · go_wp2
            go_loopw [10] (fun k wx => ∃ i : Nat, i ≤ m ∧ k = .int .i64 (i : Int) ∧ wx = wr ∧ ∀ c ∈ x.take i, okC c = true) (fun k _ => m - (intOf k).toNat)
            case atStart => exact ⟨0, by omega, rfl, by first | rfl | trivial, by simp⟩
            case round =>
              obtain ⟨i, hi, rfl, hw, hn⟩ := hrel
              subst hw
              have HNQ := Lib.hid hn
              clear hn
              have hi0 : (0 : Int) ≤ (i : Int) := by omega
              by_cases him : i < m
              · have hil : i < x.length := by rw [← HM.out]; exact him
                have hi1 : (i : Int) < ((mkS x).size : Int) := by omega
                have hi2 : (i : Int) < (m : Int) := by omega
                obtain ⟨c, hcx⟩ : ∃ c, c = x[i] := ⟨_, rfl⟩
                have hgx : ∀ h, (mkS x)[i]'h = c := by rw [hcx]; exact sgetk x i hil
                have HNX := Lib.hid (show okC c = true → ∀ c ∈ x.take (i + 1), okC c = true from fun h d hd => by
                  rw [List.take_succ_eq_append_getElem hil, List.mem_append] at hd
                  rcases hd with hd | hd
                  · exact HNQ.out d hd
                  · rw [List.mem_singleton] at hd; rw [hd, ← hcx]; exact h)
                clear hcx hil
                rcases byte_cases c with ⟨hok, ⟨hr1, hr2⟩ | hs | hs | hs | hs | hs | hs | hs | hs⟩ | ⟨hok, hr1 | ⟨hr1, hr2⟩, d59, d38, d124, d40, d41, d123, d125, d33⟩
                · skip
                  go_wp2
                  go_roundw
                  case rel => exact ⟨i + 1, by omega, by go_num, by first | rfl | trivial, HNX.out hok⟩
                  case measure => simp [intOf]; omega
                · have hv : (c.toNat : Int) = 59 := by rw [hs]; rfl
                  subst hs
                  go_wp2
                  go_roundw
                  case rel => exact ⟨i + 1, by omega, by go_num, by first | rfl | trivial, HNX.out hok⟩
                  case measure => simp [intOf]; omega
                · have hv : (c.toNat : Int) = 38 := by rw [hs]; rfl
                  subst hs
                  go_wp2
                  go_roundw
                  case rel => exact ⟨i + 1, by omega, by go_num, by first | rfl | trivial, HNX.out hok⟩
                  case measure => simp [intOf]; omega
                · have hv : (c.toNat : Int) = 124 := by rw [hs]; rfl
                  subst hs
                  go_wp2
                  go_roundw
                  case rel => exact ⟨i + 1, by omega, by go_num, by first | rfl | trivial, HNX.out hok⟩
                  case measure => simp [intOf]; omega
                · have hv : (c.toNat : Int) = 40 := by rw [hs]; rfl
                  subst hs
                  go_wp2
                  go_roundw
                  case rel => exact ⟨i + 1, by omega, by go_num, by first | rfl | trivial, HNX.out hok⟩
                  case measure => simp [intOf]; omega
                · have hv : (c.toNat : Int) = 41 := by rw [hs]; rfl
                  subst hs
                  go_wp2
                  go_roundw
                  case rel => exact ⟨i + 1, by omega, by go_num, by first | rfl | trivial, HNX.out hok⟩
                  case measure => simp [intOf]; omega
                · have hv : (c.toNat : Int) = 123 := by rw [hs]; rfl
                  subst hs
                  go_wp2
                  go_roundw
                  case rel => exact ⟨i + 1, by omega, by go_num, by first | rfl | trivial, HNX.out hok⟩
                  case measure => simp [intOf]; omega
                · have hv : (c.toNat : Int) = 125 := by rw [hs]; rfl
                  subst hs
                  go_wp2
                  go_roundw
                  case rel => exact ⟨i + 1, by omega, by go_num, by first | rfl | trivial, HNX.out hok⟩
                  case measure => simp [intOf]; omega
                · have hv : (c.toNat : Int) = 33 := by rw [hs]; rfl
                  subst hs
                  go_wp2
                  go_roundw
                  case rel => exact ⟨i + 1, by omega, by go_num, by first | rfl | trivial, HNX.out hok⟩
                  case measure => simp [intOf]; omega
                · have f59 : ((c.toNat : Int) != 59) = true := ne_int d59
                  have f38 : ((c.toNat : Int) != 38) = true := ne_int d38
                  have f124 : ((c.toNat : Int) != 124) = true := ne_int d124
                  have f40 : ((c.toNat : Int) != 40) = true := ne_int d40
                  have f41 : ((c.toNat : Int) != 41) = true := ne_int d41
                  have f123 : ((c.toNat : Int) != 123) = true := ne_int d123
                  have f125 : ((c.toNat : Int) != 125) = true := ne_int d125
                  have f33 : ((c.toNat : Int) != 33) = true := ne_int d33
                  clear d59 d38 d124 d40 d41 d123 d125 d33
                  go_wp2
                  go_ret
                  exact ⟨rfl, HB1.out⟩
                · have f59 : ((c.toNat : Int) != 59) = true := ne_int d59
                  have f38 : ((c.toNat : Int) != 38) = true := ne_int d38
                  have f124 : ((c.toNat : Int) != 124) = true := ne_int d124
                  have f40 : ((c.toNat : Int) != 40) = true := ne_int d40
                  have f41 : ((c.toNat : Int) != 41) = true := ne_int d41
                  have f123 : ((c.toNat : Int) != 123) = true := ne_int d123
                  have f125 : ((c.toNat : Int) != 125) = true := ne_int d125
                  have f33 : ((c.toNat : Int) != 33) = true := ne_int d33
                  clear d59 d38 d124 d40 d41 d123 d125 d33
                  go_wp2
                  go_ret
                  exact ⟨rfl, HB1.out⟩
              · have hie : ¬ (i : Int) < (m : Int) := by omega
                have HNA := Lib.hid (show ∀ c ∈ x, okC c = true from fun c hc => HNQ.out c (by rw [List.take_of_length_le (by rw [← HM.out]; omega)]; exact hc))
                have hlx := HM.out
                obtain ⟨s0, hs0⟩ : ∃ s0, s0 = sA (ls.take j) := ⟨_, rfl⟩
                obtain ⟨s1, hs1⟩ : ∃ s1, s1 = sB more (ls.take j) := ⟨_, rfl⟩
                have l0 := sA_len (ls.take j) fun x hx => (HOK.out x hx).1
                have l1 := sB_len more (by rw [← HMM.out]; exact hmm30) (ls.take j) fun x hx => (HOK.out x hx).1
                rw [← hs0, List.length_take] at l0
                rw [← hs1, List.length_take] at l1
                obtain ⟨q1, hq1⟩ : ∃ q, q = mkS (x ++ [10]) := ⟨_, rfl⟩
                obtain ⟨r1, hr1⟩ : ∃ q, q = mkS ([32, 9] ++ x) := ⟨_, rfl⟩
                obtain ⟨r2, hr2⟩ : ∃ q, q = mkS ([32, 9] ++ x ++ [32, 35]) := ⟨_, rfl⟩
                obtain ⟨r3, hr3⟩ : ∃ q, q = mkS ([32, 9] ++ x ++ [32, 35] ++ more) := ⟨_, rfl⟩
                obtain ⟨r4, hr4⟩ : ∃ q, q = mkS ([32, 9] ++ x ++ [32, 35] ++ more ++ [10, 10]) := ⟨_, rfl⟩
                obtain ⟨t0, ht0⟩ : ∃ q, q = mkS (sA (ls.take (j + 1))) := ⟨_, rfl⟩
                obtain ⟨t1, ht1⟩ : ∃ q, q = mkS (sB more (ls.take (j + 1))) := ⟨_, rfl⟩
                have a1 : mkS x ++ (⟨#[10]⟩ : ByteArray) = q1 := by rw [hq1]; exact mkS_add x [10]
                have a2 : pa ++ q1 = t0 := by rw [HPA.out, ht0, hq1, mkS_add, HTK.out]; simp [sA]
                have b1 : (⟨#[32, 9]⟩ : ByteArray) ++ mkS x = r1 := by rw [hr1]; exact mkS_add [32, 9] x
                have b2 : r1 ++ (⟨#[32, 35]⟩ : ByteArray) = r2 := by rw [hr1, hr2]; exact mkS_add ([32, 9] ++ x) [32, 35]
                have b3 : r2 ++ Mo = r3 := by rw [hr2, hr3, HMO.out]; exact mkS_add ([32, 9] ++ x ++ [32, 35]) more
                have b4 : r3 ++ (⟨#[10, 10]⟩ : ByteArray) = r4 := by rw [hr3, hr4]; exact mkS_add ([32, 9] ++ x ++ [32, 35] ++ more) [10, 10]
                have b5 : pb ++ r4 = t1 := by rw [HPB.out, ht1, hr4, mkS_add, HTK.out]; simp [sB]
                have y0 := HMM.out
                have z1 : q1.size ≤ 200 := by rw [hq1, mkS_size, List.length_append]; simp; omega
                have z2 : r1.size ≤ 200 := by rw [hr1, mkS_size, List.length_append]; simp; omega
                have z3 : r2.size ≤ 200 := by rw [hr2, mkS_size, List.length_append, List.length_append]; simp; omega
                have z4 : r3.size ≤ 200 := by rw [hr3, mkS_size, List.length_append, List.length_append, List.length_append]; simp; omega
                have z5 : r4.size ≤ 200 := by rw [hr4, mkS_size, List.length_append, List.length_append, List.length_append, List.length_append]; simp; omega
                have z6 : pa.size ≤ 5000 := by rw [HPA.out, mkS_size, ← hs0]; omega
                have z7 : pb.size ≤ 5000 := by rw [HPB.out, mkS_size, ← hs1]; omega
                have z8 : (mkS x).size ≤ 200 := by omega
                have T0 := Lib.hid ht0
                have T1 := Lib.hid ht1
                clear hq1 hr1 hr2 hr3 hr4 ht0 ht1 hs0 hs1 l0 l1 hlx y0
                go_wp2
                go_roundw
                case rel =>
                  refine ⟨j + 1, by omega, by go_num, by rw [T0.out], by rw [T1.out], by first | rfl | trivial, ?_⟩
                  intro y hy
                  rw [HTK.out, List.mem_append] at hy
                  rcases hy with hy | hy
                  · exact HOK.out y hy
                  · rw [List.mem_singleton] at hy; subst hy; exact ⟨by have := HM.out; omega, HNA.out⟩
                case measure => simp [intOf]; omega
        · have hje : j = n1 := by omega
          have htk : ls.take j = ls := by rw [List.take_of_length_le]; rw [HN.out]; omega
          have hok := HOK.out
          rw [htk] at hok ⊢
          have hjn1 : ¬ (j : Int) < (n1 : Int) := by omega
          obtain ⟨n, k, ns, ns', HA1, HB2, hs⟩ := both w HG.out more (by rw [← HMM.out]; exact hmm30) H10.out ls (by rw [HN.out]; omega) (fun x hx => (hok x hx).1) fun x hx => (hok x hx).2
          obtain ⟨SA, hSA⟩ : ∃ p, p = sA ls := ⟨_, rfl⟩
          obtain ⟨SB, hSB⟩ : ∃ p, p = sB more ls := ⟨_, rfl⟩
          rw [← hSA] at HA1 ⊢
          rw [← hSB] at HB2 ⊢
          have P1 := Lib.hid HA1
          have P2 := Lib.hid HB2
          have HS := Lib.hid hs
          have ekk : ((k : Int) == (k : Int)) = true := by simp
          clear htk hok hSA hSB HA1 HB2 hs
          go_wp2_with (go_at_call 6; first
            | ((with_reducible refine (P1.out _ HB1.out).mono ?_); rintro e w2 ⟨A, c, ln, rfl, hn, hr, hl⟩; have HN9 := Lib.hid hn; have HRN := Lib.hid hr; have HL2 := Lib.hid hl; clear hn hr hl)
            | ((with_reducible refine (P2.out _ ((HB1.out.trans HL2.out).trans (Later.alloc _ _))).mono ?_); rintro e w3 ⟨A', c', ln', rfl, hn', hr', hl'⟩; have HRN' := Lib.hid hr'; have HL3 := Lib.hid ((Later.alloc w2 (.cells #[.slice A n c] 26)).trans hl'); have hq2 := later_cells hl' (heap_alloc_new w2 (.cells #[.slice A n c] 26)); have d2 : w3.cell? ⟨w2.heap.size, 0, none⟩ = some (.slice A n c) := (cell_row hq2 0).1; have n2 := lt_of_block hq2; clear hn' hr' hl' hq2))
          · (with_reducible refine (same_v A A' n c c' ns ns' _ ((HRN.out.later HL3.out).later (Later.alloc _ _)) (HRN'.out.later (Later.alloc _ _)) HS.out HN9.out).mono ?_)
            rintro e w4 ⟨rfl, hl4⟩
            have HL4 := Lib.hid ((((HB1.out.trans HL2.out).trans HL3.out).trans (Later.alloc _ _)).trans hl4)
            clear hl4
            go_wp2
            go_ret
            exact ⟨rfl, HL4.out⟩
theorem walk (w : World) (hg : Sgn w) (A1 : Option Addr) (n1 c1 : Nat) (l : List ByteArray) (h : Rd w w.heap.size A1 n1 (l.map Value.string) ∧ (∀ s ∈ l, s.size ≤ maxLen) ∧ n1 ≤ c1 ∧ c1 ≤ maxLen) (t : ByteArray) (_ht : t.size ≤ maxLen) :
    Calls Tryz.prog 3 #[.slice A1 n1 c1, .string t] w fun e w' => e = .returned (.bool true) ∧ Below w.heap.size w w' := by
  obtain ⟨ls, h1⟩ := strs_of h.1
  obtain ⟨more, rfl⟩ : ∃ a, t = mkS a := ⟨_, (mkS_of t).symm⟩
  by_cases h40 : (40 : Int) < (n1 : Int)
  · exact walkX w hg A1 n1 c1 more h40
  by_cases h30 : (30 : Int) < ((mkS more).size : Int)
  · exact walkY w hg A1 n1 c1 more h40 h30
  · exact walkM w hg A1 n1 c1 ls ⟨h1, h.2.2⟩ more h40 h30
end syntaxBlanks
end Go.Proofs.YtipojbknkfkgoaaGreatDoor
