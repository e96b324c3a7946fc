/- The method 'sign', and signs. No premises. -/
import Derived.Test.YtdfnbanbofnabaaDoorGc
namespace Go.Proofs.YtdfnbanbofnabaaDoor
open Go.RowKit Go.Maps
namespace Gs
set_option maxRecDepth 100000 in
set_option maxHeartbeats 1600000 in
theorem sign_v (t m : L) (i n : Nat) (w : World) (hn : Gl.Last t m n) (hi : i < t.length) (ht : t.length ≤ 4096) : Calls Tryd.prog 27 #[.agg #[.string (mkS t), .string (mkS m)], .int .i64 (i : Int), .int .i64 ((n : Int) - 1)] w fun r w' => ∃ x : Sv, r = .returned (.tuple #[x.enc, .int .i64 ((Gl.sgAt t m i).2 : Int)]) ∧ x.sg = (Gl.sgAt t m i).1 ∧ x.ok w' ∧ Later w w' := by
  have h1 : ∀ W, Calls Tryd.prog 26 #[.agg #[.string (mkS t), .string (mkS m)], .int .i64 (i : Int), .int .u8 42] W fun e w' => e = .returned (.bool (Gl.isAt t m i 42)) ∧ Later W w' := is_v t m i 42
  have h2 : ∀ W, Calls Tryd.prog 26 #[.agg #[.string (mkS t), .string (mkS m)], .int .i64 (i : Int), .int .u8 63] W fun e w' => e = .returned (.bool (Gl.isAt t m i 63)) ∧ Later W w' := is_v t m i 63
  have h3 : ∀ W, Calls Tryd.prog 26 #[.agg #[.string (mkS t), .string (mkS m)], .int .i64 (i : Int), .int .u8 91] W fun e w' => e = .returned (.bool (Gl.isAt t m i 91)) ∧ Later W w' := is_v t m i 91
  have hB0 := Box.new w t m
  have HL := Lib.hid (Later.alloc w (.cells #[.string (mkS t), .string (mkS m)] 29))
  have HB := Lib.hid hB0
  clear hB0
  cases e1 : Gl.isAt t m i 42 with
  | true =>
    rw [e1] at h1
    have HS := Lib.hid (show Gl.sgAt t m i = (.star, i + 1) by unfold Gl.sgAt; rw [e1]; rfl)
    have H1 := Lib.hid h1
    clear h1 h2 h3 e1 hn
    go_enter Tryd.func27, Tryd.ntmps27
    go_wp2_with (first
      | (go_at_call 26; (with_reducible refine (H1.out _).mono ?_); rintro e w2 ⟨rfl, hl2⟩; have HL2 := Lib.hid (HL.out.trans hl2); clear hl2))
    go_ret2
    exact ⟨.star, by rw [HS.out]; rfl, by rw [HS.out]; rfl, trivial, HL2.out⟩
  | false =>
    rw [e1] at h1
    have H1 := Lib.hid h1
    cases e2 : Gl.isAt t m i 63 with
    | true =>
      rw [e2] at h2
      have HS := Lib.hid (show Gl.sgAt t m i = (.one, i + 1) by unfold Gl.sgAt; rw [e1, e2]; rfl)
      have H2 := Lib.hid h2
      clear h1 h2 h3 e1 e2 hn
      go_enter Tryd.func27, Tryd.ntmps27
      go_wp2_with (first
        | (go_at_call 26; (with_reducible refine (H1.out _).mono ?_); rintro e w2 ⟨rfl, hl2⟩; (have HL2 := Lib.hid (HL.out.trans hl2)); (have HB2 := Lib.hid (HB.out.later hl2)); obtain ⟨c0, c1⟩ := HB2.out.cells; clear hl2)
        | (go_at_call 26; (with_reducible refine (H2.out _).mono ?_); rintro e w3 ⟨rfl, hl3⟩; (have HL3 := Lib.hid (HL2.out.trans hl3)); clear hl3))
      go_ret2
      exact ⟨.one, by rw [HS.out]; rfl, by rw [HS.out]; rfl, trivial, HL3.out⟩
    | false =>
      rw [e2] at h2
      have H2 := Lib.hid h2
      cases e3 : Gl.isAt t m i 91 with
      | true =>
        rw [e3] at h3
        have H3 := Lib.hid h3
        have HT := Lib.hid (fun W => set_v t m i n W hn e3 ht)
        clear h1 h2 h3 e1 e2 e3 hn
        obtain ⟨p, hp⟩ : ∃ p, p = Gl.sgAt t m i := ⟨_, rfl⟩
        rw [← hp] at HT ⊢
        clear hp
        obtain ⟨p1, p2⟩ := p
        go_enter Tryd.func27, Tryd.ntmps27
        go_wp2_with (first
          | (go_at_call 26; (with_reducible refine (H1.out _).mono ?_); rintro e w2 ⟨rfl, hl2⟩; (have HL2 := Lib.hid (HL.out.trans hl2)); (have HB2 := Lib.hid (HB.out.later hl2)); obtain ⟨c0, c1⟩ := HB2.out.cells; clear hl2)
          | (go_at_call 26; (with_reducible refine (H2.out _).mono ?_); rintro e w3 ⟨rfl, hl3⟩; (have HL3 := Lib.hid (HL2.out.trans hl3)); (have HB3 := Lib.hid (HB2.out.later hl3)); obtain ⟨d0, d1⟩ := HB3.out.cells; clear hl3 c0 c1)
          | (go_at_call 26; (with_reducible refine (H3.out _).mono ?_); rintro e w4 ⟨rfl, hl4⟩; (have HL4 := Lib.hid (HL3.out.trans hl4)); (have HB4 := Lib.hid (HB3.out.later hl4)); obtain ⟨c0, c1⟩ := HB4.out.cells; clear hl4 d0 d1)
          | (go_at_call 36; (with_reducible refine (HT.out _).mono ?_); rintro e w5 ⟨x, rfl, hx, ho, hl5⟩; (have HL5 := Lib.hid (HL4.out.trans hl5)); (have HX := Lib.hid (And.intro hx ho)); clear hl5 hx ho; obtain ⟨xe, hxe⟩ : ∃ xe, xe = x.enc := ⟨_, rfl⟩; rw [← hxe]; (have HXE := Lib.hid hxe); clear hxe))
        go_ret2
        exact ⟨x, by rw [← HXE.out]; rfl, HX.out.1, HX.out.2, HL5.out⟩
      | false =>
        rw [e3] at h3
        have H3 := Lib.hid h3
        have hst : (mkS t).size = t.length := mkS_size t
        have hi3 : i < (mkS t).size := by omega
        have HS := Lib.hid (show Gl.sgAt t m i = (.lit ((mkS t)[i]), i + 1) by
          unfold Gl.sgAt; rw [e1, e2, e3]
          have := get_byte t i hi3
          rw [List.getD_eq_getElem?_getD, this]; rfl)
        clear h1 h2 h3 e1 e2 e3 hn hst
        go_enter Tryd.func27, Tryd.ntmps27
        go_wp2_with (first
          | (go_at_call 26; (with_reducible refine (H1.out _).mono ?_); rintro e w2 ⟨rfl, hl2⟩; (have HL2 := Lib.hid (HL.out.trans hl2)); (have HB2 := Lib.hid (HB.out.later hl2)); obtain ⟨c0, c1⟩ := HB2.out.cells; clear hl2)
          | (go_at_call 26; (with_reducible refine (H2.out _).mono ?_); rintro e w3 ⟨rfl, hl3⟩; (have HL3 := Lib.hid (HL2.out.trans hl3)); (have HB3 := Lib.hid (HB2.out.later hl3)); obtain ⟨d0, d1⟩ := HB3.out.cells; clear hl3 c0 c1)
          | (go_at_call 26; (with_reducible refine (H3.out _).mono ?_); rintro e w4 ⟨rfl, hl4⟩; (have HL4 := Lib.hid (HL3.out.trans hl4)); (have HB4 := Lib.hid (HB3.out.later hl4)); obtain ⟨c0, c1⟩ := HB4.out.cells; clear hl4 d0 d1))
        go_ret2
        exact ⟨.lit ((mkS t)[i]), by rw [HS.out]; rfl, by rw [HS.out]; rfl, trivial, HL4.out⟩
end Gs
end Go.Proofs.YtdfnbanbofnabaaDoor
