/- signs. No premises. -/
import Derived.Test.YtdfnbanbofnabaaDoorGd
namespace Go.Proofs.YtdfnbanbofnabaaDoor
open Go.RowKit Go.Maps
namespace Gs
theorem info_sign : (Tryd.prog.info? 46).map (fun i => (i.zero, i.size, i.bytes)) = some (some .nilIface, 1, 16) := by kernel_rfl
/-- A row of signs grows: what the signs hold stays. -/
theorem Sv.ok.grown {w w' : World} {x : Sv} (h : x.ok w) {base n : Nat} {v v' : Value} {xs ys : List Value} (hg : Grew w w' base 46 v v' ys) (ho : w.ownsRow base 46 1 v n xs) : x.ok w' := by
  cases x with
  | set t u ms =>
    refine ⟨h.1, h.2.kept hg.grown ?_⟩
    exact (apart_types h.2 ho (by decide)).imp id id
  | _ => trivial
theorem box_grew {w w' : World} {g : Nat} {t m : L} (h : Box w g t m) {base n : Nat} {v v' : Value} {xs ys : List Value} (hg : Grew w w' base 46 v v' ys) (ho : w.ownsRow base 46 1 v n xs) : Box w' g t m := by
  refine (hg.grown.block g (lt_of_block h) fun e => ?_).trans h
  obtain ⟨cs, hc⟩ := own_type ho e.symm
  rw [show w.heap[g]? = _ from h] at hc
  injection hc with hc
  injection hc with _ hc _
  exact absurd hc (by decide)
theorem Sv.iface (x : Sv) : ∃ ty va, x.enc = .iface ty va := by cases x <;> exact ⟨_, _, rfl⟩
/-- Signs that the call owns. -/
structure Own (w : World) (base : Nat) (v : Value) (g : List Gl.Sg) (xs : List Sv) : Prop where
  own : w.ownsRow base 46 1 v xs.length (xs.map Sv.enc)
  ok : ∀ x ∈ xs, x.ok w
  sg : xs.map Sv.sg = g
set_option maxRecDepth 100000 in
set_option maxHeartbeats 1600000 in
theorem signs_v (t m : L) (w : World) (ht : t.length ≤ 4096) : Calls Tryd.prog 19 #[.agg #[.string (mkS t), .string (mkS m)]] w fun r w' => ∃ v, r = .returned v ∧ (∃ xs, Own w' w.heap.size v (Gl.sgF t m 0) xs) ∧ Later w w' := by
  have hst : (mkS t).size = t.length := mkS_size t
  have hst2 : ((mkS t).size : Int) = (t.length : Int) := by omega
  have hI : ∀ (k : Nat) W, Calls Tryd.prog 26 #[.agg #[.string (mkS t), .string (mkS m)], .int .i64 (k : Int), .int .u8 93] W fun e w' => e = .returned (.bool (Gl.isAt t m k 93)) ∧ Later W w' := fun k => is_v t m k 93
  have HI := Lib.hid hI
  clear hI
  have hB0 := Box.new w t m
  have HL := Lib.hid (Later.alloc w (.cells #[.string (mkS t), .string (mkS m)] 29))
  have HB := Lib.hid hB0
  have HT := Lib.hid ht
  obtain ⟨i0, hi, hz0, hz1, hz2⟩ := info_parts info_sign
  clear hB0
  go_enter Tryd.func19, Tryd.ntmps19
  go_wp2_with fail
  go_loopw [3] (fun s3 wr => ∃ (z : Int) (n : Nat), s3 = .int .i64 z ∧ z = (n : Int) - 1 ∧ n ≤ t.length ∧ (∀ j, n ≤ j → Gl.isAt t m j 93 = false) ∧ Later w wr ∧ Box wr w.heap.size t m) (fun i _ => (intOf i + 1).toNat)
  case atStart => exact ⟨(t.length : Int) - 1, t.length, by go_num, rfl, Nat.le_refl _, fun j hj => by cases h : Gl.isAt t m j 93 with | false => rfl | true => (have := Gl.isAt_lt h; omega), HL.out, HB.out⟩
  case round =>
    obtain ⟨z, n, rfl, hz, hn, hj, hlr, hbr⟩ := hrel
    obtain ⟨c0, c1⟩ := hbr.cells
    have hgs : w.heap.size < wr.heap.size := lt_of_block hbr
    have HJ := Lib.hid hj
    have HLR := Lib.hid hlr
    have HBR := Lib.hid hbr
    clear hj hlr hbr
    cases n with
    | zero =>
      have hneg : ¬ ((0 : Int) ≤ z) := by omega
      have HLA := Lib.hid (show Gl.Last t m 0 from ⟨hn, fun h => absurd h (by omega), HJ.out⟩)
      have HSN := Lib.hid (fun (k : Nat) (hk : k < t.length) => (by rw [hz]; exact fun W => sign_v t m k 0 W HLA.out hk HT.out : ∀ W, Calls Tryd.prog 27 #[.agg #[.string (mkS t), .string (mkS m)], .int .i64 (k : Int), .int .i64 z] W fun r w' => ∃ x : Sv, r = .returned (.tuple #[x.enc, .int .i64 ((Gl.sgAt t m k).2 : Int)]) ∧ x.sg = (Gl.sgAt t m k).1 ∧ x.ok w' ∧ Later W w'))
      clear hz
      go_wp2_with fail
      have HLX := HLR
      have HBX := HBR
      go_loopw [4, 5] (fun s4 s5 wr => ∃ (k : Nat) (xs : List Sv), s5 = .int .i64 (k : Int) ∧ k ≤ t.length ∧ xs.length ≤ k ∧ wr.ownsRow w.heap.size 46 1 s4 xs.length (xs.map Sv.enc) ∧ (∀ x ∈ xs, x.ok wr) ∧ Gl.sgF t m 0 = xs.map Sv.sg ++ Gl.sgF t m k ∧ Later w wr ∧ Box wr w.heap.size t m) (fun _ i _ => t.length - (intOf i).toNat)
      case atStart => exact ⟨0, [], rfl, by omega, Nat.le_refl _, World.ownsRow_nil _ _ _ 1, (by intro x hx; cases hx), rfl, HLX.out, HBX.out⟩
      case round =>
        obtain ⟨k, xs, rfl, hk, hxk, hown, hok, heq, hlr, hbr⟩ := hrel
        by_cases hke : k < t.length
        · obtain ⟨c0, c1⟩ := hbr.cells
          have hgs : w.heap.size < wr.heap.size := lt_of_block hbr
          have hke2 : (k : Int) < (t.length : Int) := by omega
          have HO := Lib.hid hown
          have HK := Lib.hid hok
          have HE := Lib.hid heq
          have HLR := Lib.hid hlr
          have HBR := Lib.hid hbr
          have hsn := HSN.out k hke
          have HQ := Lib.hid (Gl.sgF_at (m := m) hke)
          have HNX := Lib.hid (Gl.sgAt_next (m := m) hke)
          obtain ⟨p, hp⟩ : ∃ p, p = Gl.sgAt t m k := ⟨_, rfl⟩
          rw [← hp] at hsn HQ HNX
          obtain ⟨p1, p2⟩ := p
          have HS := Lib.hid hsn
          clear hown hok heq hlr hbr hsn hp
          go_wp2_with (first
            | (go_at_call 27; (with_reducible refine (HS.out _).mono ?_); rintro e w3 ⟨x, rfl, hx, hox, hl3⟩; (have HX := Lib.hid (And.intro hx hox)); (have HL3 := Lib.hid (HLR.out.trans hl3)); (have HO3 := Lib.hid (own_below HO.out hl3)); (have HK3 := Lib.hid (fun x (hx : x ∈ xs) => Sv.ok.later (HK.out x hx) hl3)); (have HB3 := Lib.hid (HBR.out.later hl3)); obtain ⟨ty, va, hxe⟩ := x.iface; rw [hxe]; (have HXE := Lib.hid hxe); clear hl3 hx hox hxe c0 c1)
            | (at_builtin; refine wpList_app1 w3 (.iface ty va) rfl (.tmp 34) (.tmp 36) _ rfl w.heap.size 46 i0 .nilIface 16 Tryd.underlying42 hi hz0 hz1 hz2 rfl rfl u4 (xs.map Sv.enc) rfl (by rw [List.length_map]; exact HO3.out) rfl ?hby ?hle ?hba ?_; (case hby => (have := HT.out; rw [List.length_map]; omega)); (case hle => (have := HT.out; rw [List.length_map]; omega)); (case hba => have := HL3.out.size; exact this); intro v4 w4 hg4; (have HG4 := Lib.hid hg4); clear hg4))
          go_roundw
          case rel =>
            have hg4 := HG4.out
            refine ⟨p2, xs ++ [x], rfl, HNX.out.2, by have := HNX.out.1; simp at this ⊢; omega, ?_, ?_, ?_, ?_, ?_⟩
            · have := hg4.own
              rw [← HXE.out, List.length_append, List.length_map] at this
              rw [List.map_append, List.length_append]
              exact this
            · intro y hy
              rcases List.mem_append.1 hy with hy | hy
              · exact (HK3.out y hy).grown hg4 HO3.out
              · simp at hy
                subst hy
                exact HX.out.2.grown hg4 HO3.out
            · rw [HE.out, HQ.out, List.map_append]
              simp [HX.out.1]
            · exact Below.grown HL3.out hg4.grown HL3.out.size fun j hj => (HO3.out.lt j hj).1
            · exact box_grew HB3.out hg4 HO3.out
          case measure => have := HNX.out; simp [intOf] at this ⊢; omega
        · obtain ⟨c0, c1⟩ := hbr.cells
          have hke2 : ¬ ((k : Int) < (t.length : Int)) := by omega
          rw [Gl.sgF_end (i := k) (by omega), List.append_nil] at heq
          have HO := Lib.hid hown
          have HK := Lib.hid hok
          have HE := Lib.hid heq
          have HLR := Lib.hid hlr
          clear hown hok heq hlr hbr
          go_wp2
          go_ret
          exact ⟨_, rfl, ⟨xs, ⟨HO.out, HK.out, HE.out.symm⟩⟩, HLR.out⟩
    | succ k =>
      have hpos : (0 : Int) ≤ z := by omega
      have hzk : z = (k : Int) := by omega
      have hup : z ≤ 4096 := by omega
      have hik := HI.out k
      rw [← hzk] at hik
      cases hb : Gl.isAt t m k 93 with
      | false =>
        rw [hb] at hik
        have HIK := Lib.hid hik
        have HB0 := Lib.hid hb
        have HZ := Lib.hid hzk
        clear hik hb hz hzk
        go_wp2_with (first
          | (go_at_call 26; (with_reducible refine (HIK.out _).mono ?_); rintro e w3 ⟨rfl, hl3⟩; (have HL3 := Lib.hid (HLR.out.trans hl3)); (have HB3 := Lib.hid (HBR.out.later hl3)); clear hl3 c0 c1))
        go_roundw
        case rel =>
          refine ⟨z - 1, k, by go_num, by (have := HZ.out; omega), by omega, fun j hj => ?_, HL3.out, HB3.out⟩
          by_cases e : j = k
          · subst e; exact HB0.out
          · exact HJ.out j (by omega)
        case measure => simp [intOf]; omega
      | true =>
        rw [hb] at hik
        have HIK := Lib.hid hik
        have HLA := Lib.hid (show Gl.Last t m (k + 1) from ⟨hn, fun _ => hb, HJ.out⟩)
        have HSN := Lib.hid (fun (j : Nat) (hj : j < t.length) => (by rw [hz]; exact fun W => sign_v t m j (k + 1) W HLA.out hj HT.out : ∀ W, Calls Tryd.prog 27 #[.agg #[.string (mkS t), .string (mkS m)], .int .i64 (j : Int), .int .i64 z] W fun r w' => ∃ x : Sv, r = .returned (.tuple #[x.enc, .int .i64 ((Gl.sgAt t m j).2 : Int)]) ∧ x.sg = (Gl.sgAt t m j).1 ∧ x.ok w' ∧ Later W w'))
        clear hik hb hz hzk
        go_wp2_with (first
          | (go_at_call 26; (with_reducible refine (HIK.out _).mono ?_); rintro e w3 ⟨rfl, hl3⟩; (have HLX := Lib.hid (HLR.out.trans hl3)); (have HBX := Lib.hid (HBR.out.later hl3)); clear hl3 c0 c1))
        go_loopw [4, 5] (fun s4 s5 wr => ∃ (k : Nat) (xs : List Sv), s5 = .int .i64 (k : Int) ∧ k ≤ t.length ∧ xs.length ≤ k ∧ wr.ownsRow w.heap.size 46 1 s4 xs.length (xs.map Sv.enc) ∧ (∀ x ∈ xs, x.ok wr) ∧ Gl.sgF t m 0 = xs.map Sv.sg ++ Gl.sgF t m k ∧ Later w wr ∧ Box wr w.heap.size t m) (fun _ i _ => t.length - (intOf i).toNat)
        case atStart => exact ⟨0, [], rfl, by omega, Nat.le_refl _, World.ownsRow_nil _ _ _ 1, (by intro x hx; cases hx), rfl, HLX.out, HBX.out⟩
        case round =>
          obtain ⟨k, xs, rfl, hk, hxk, hown, hok, heq, hlr, hbr⟩ := hrel
          by_cases hke : k < t.length
          · obtain ⟨c0, c1⟩ := hbr.cells
            have hgs : w.heap.size < wr.heap.size := lt_of_block hbr
            have hke2 : (k : Int) < (t.length : Int) := by omega
            have HO := Lib.hid hown
            have HK := Lib.hid hok
            have HE := Lib.hid heq
            have HLR := Lib.hid hlr
            have HBR := Lib.hid hbr
            have hsn := HSN.out k hke
            have HQ := Lib.hid (Gl.sgF_at (m := m) hke)
            have HNX := Lib.hid (Gl.sgAt_next (m := m) hke)
            obtain ⟨p, hp⟩ : ∃ p, p = Gl.sgAt t m k := ⟨_, rfl⟩
            rw [← hp] at hsn HQ HNX
            obtain ⟨p1, p2⟩ := p
            have HS := Lib.hid hsn
            clear hown hok heq hlr hbr hsn hp
            go_wp2_with (first
              | (go_at_call 27; (with_reducible refine (HS.out _).mono ?_); rintro e w3 ⟨x, rfl, hx, hox, hl3⟩; (have HX := Lib.hid (And.intro hx hox)); (have HL3 := Lib.hid (HLR.out.trans hl3)); (have HO3 := Lib.hid (own_below HO.out hl3)); (have HK3 := Lib.hid (fun x (hx : x ∈ xs) => Sv.ok.later (HK.out x hx) hl3)); (have HB3 := Lib.hid (HBR.out.later hl3)); obtain ⟨ty, va, hxe⟩ := x.iface; rw [hxe]; (have HXE := Lib.hid hxe); clear hl3 hx hox hxe c0 c1)
              | (at_builtin; refine wpList_app1 w3 (.iface ty va) rfl (.tmp 34) (.tmp 36) _ rfl w.heap.size 46 i0 .nilIface 16 Tryd.underlying42 hi hz0 hz1 hz2 rfl rfl u4 (xs.map Sv.enc) rfl (by rw [List.length_map]; exact HO3.out) rfl ?hby ?hle ?hba ?_; (case hby => (have := HT.out; rw [List.length_map]; omega)); (case hle => (have := HT.out; rw [List.length_map]; omega)); (case hba => have := HL3.out.size; exact this); intro v4 w4 hg4; (have HG4 := Lib.hid hg4); clear hg4))
            go_roundw
            case rel =>
              have hg4 := HG4.out
              refine ⟨p2, xs ++ [x], rfl, HNX.out.2, by have := HNX.out.1; simp at this ⊢; omega, ?_, ?_, ?_, ?_, ?_⟩
              · have := hg4.own
                rw [← HXE.out, List.length_append, List.length_map] at this
                rw [List.map_append, List.length_append]
                exact this
              · intro y hy
                rcases List.mem_append.1 hy with hy | hy
                · exact (HK3.out y hy).grown hg4 HO3.out
                · simp at hy
                  subst hy
                  exact HX.out.2.grown hg4 HO3.out
              · rw [HE.out, HQ.out, List.map_append]
                simp [HX.out.1]
              · exact Below.grown HL3.out hg4.grown HL3.out.size fun j hj => (HO3.out.lt j hj).1
              · exact box_grew HB3.out hg4 HO3.out
            case measure => have := HNX.out; simp [intOf] at this ⊢; omega
          · obtain ⟨c0, c1⟩ := hbr.cells
            have hke2 : ¬ ((k : Int) < (t.length : Int)) := by omega
            rw [Gl.sgF_end (i := k) (by omega), List.append_nil] at heq
            have HO := Lib.hid hown
            have HK := Lib.hid hok
            have HE := Lib.hid heq
            have HLR := Lib.hid hlr
            clear hown hok heq hlr hbr
            go_wp2
            go_ret
            exact ⟨_, rfl, ⟨xs, ⟨HO.out, HK.out, HE.out.symm⟩⟩, HLR.out⟩
end Gs
end Go.Proofs.YtdfnbanbofnabaaDoor
