/- A state of which one field is another one. No premises. -/
import Derived.Test.YteljmlodbnfhbaaKcu
namespace Go.Proofs.Yteljmlodbnfhbaa
open Go.RowKit
namespace Ks
set_option maxRecDepth 100000
/-- A cell is written: what the cells bear then. -/
structure Upd {α : Type} (w : World) (n : Nat) (r : Rp α) (off : Nat) (v : Value) (a a' : α) : Prop where
  go : ∀ {cs : List Value}, r.C w n cs a → r.C w n (cs.set off v) a'
theorem Upd.left {α β : Type} {w : World} {n : Nat} {r : Rp α} {s : Rp β} {off : Nat} {v : Value} {x : α × β} {a' : α} (h : Upd w n r off v x.1 a') (ho : off < r.wd) : Upd w n (rseq r s) off v x (a', x.2) := by
  refine ⟨fun {cs} hc => ?_⟩
  obtain ⟨c1, c2, rfl, h1, h2⟩ := hc
  exact ⟨c1.set off v, c2, by rw [List.set_append_left _ _ (by rw [r.len h1]; exact ho)], h.go h1, h2⟩
theorem Upd.right {α β : Type} {w : World} {n : Nat} {r : Rp α} {s : Rp β} {off : Nat} {v : Value} {x : α × β} {b' : β} (h : Upd w n s (off - r.wd) v x.2 b') (ho : r.wd ≤ off) : Upd w n (rseq r s) off v x (x.1, b') := by
  refine ⟨fun {cs} hc => ?_⟩
  obtain ⟨c1, c2, rfl, h1, h2⟩ := hc
  refine ⟨c1, c2.set (off - r.wd) v, ?_, h1, h.go h2⟩
  rw [List.set_append_right _ _ (by rw [r.len h1]; exact ho), r.len h1]
theorem Upd.iso {α β : Type} {w : World} {n : Nat} {r : Rp α} {g : β → α} {off : Nat} {v : Value} {x x' : β} (h : Upd w n r off v (g x) (g x')) : Upd w n (riso r g) off v x x' := ⟨fun hc => h.go hc⟩
theorem Upd.num {w : World} {n : Nat} {x y : Int} (h : I64 y) : Upd w n rnum 0 (.int .i64 y) x y := by
  refine ⟨fun {cs} hc => ?_⟩
  rw [hc.1]
  exact ⟨rfl, h⟩
theorem Upd.bit {w : World} {n : Nat} {x y : Bool} : Upd w n rbit 0 (.bool y) x y := by
  refine ⟨fun {cs} hc => ?_⟩
  obtain rfl : cs = [.bool x] := hc
  rfl
theorem Upd.txt {w : World} {n : Nat} {x y : B} (h : y.length ≤ 9223372036854775807) : Upd w n rtxt 0 (.string (mkS y)) x y := by
  refine ⟨fun {cs} hc => ?_⟩
  rw [hc.1]
  exact ⟨rfl, h⟩
theorem Upd.row {α : Type} {w : World} {n : Nat} {r : Rp α} {x y : List α} {v : Value} (h : (rrow r).C w n [v] y) : Upd w n (rrow r) 0 v x y := by
  refine ⟨fun {cs} hc => ?_⟩
  obtain ⟨A, c, rfl, _⟩ := hc
  exact h
theorem up_I (x : Int) : I64 (wrap64 (x + 1)) := by unfold wrap64; constructor <;> omega
theorem up_ne {x : Int} (h : I64 x) : wrap64 (x + 1) ≠ x := by
  have h1 := h.1
  have h2 := h.2
  unfold wrap64
  omega
def s0 (s : St) : St := { s with done := !s.done }
def s1 (s : St) : St := { s with keep := { s.keep with status := wrap64 (s.keep.status + 1) } }
def s2 (s : St) : St := { s with fail := wrap64 (s.fail + 1) }
def s3 (s : St) : St := { s with asked := { s.asked with text := s.asked.text ++ [120] } }
def s4 (s : St) : St := { s with got := { s.got with n := wrap64 (s.got.n + 1) } }
def s5 (s : St) : St := { s with deep := wrap64 (s.deep + 1) }
def s6 (s : St) : St := { s with keep := { s.keep with flags := s.keep.flags ++ [120] } }
def s7 (s : St) : St := { s with sigs := 1 :: s.sigs }
section
variable {w : World} {n : Nat} {s : St}
theorem upd0 : Upd w n stR 27 (.bool (!s.done)) s (s0 s) := Upd.iso (Upd.right (r := kpR) (Upd.right (r := txtsR) (Upd.right (r := rrow fmR) (Upd.right (r := rqR) (Upd.right (r := anR) (Upd.right (r := rrow rnum) (Upd.right (r := rnum) (Upd.right (r := rnum) (Upd.right (r := rnum) (Upd.right (r := rbit) (Upd.right (r := rbit) (Upd.left (r := rbit) Upd.bit (by decide)) (by decide)) (by decide)) (by decide)) (by decide)) (by decide)) (by decide)) (by decide)) (by decide)) (by decide)) (by decide)) (by decide))
theorem upd2 : Upd w n stR 28 (.int .i64 (wrap64 (s.fail + 1))) s (s2 s) := Upd.iso (Upd.right (r := kpR) (Upd.right (r := txtsR) (Upd.right (r := rrow fmR) (Upd.right (r := rqR) (Upd.right (r := anR) (Upd.right (r := rrow rnum) (Upd.right (r := rnum) (Upd.right (r := rnum) (Upd.right (r := rnum) (Upd.right (r := rbit) (Upd.right (r := rbit) (Upd.right (r := rbit) (Upd.num (up_I _)) (by decide)) (by decide)) (by decide)) (by decide)) (by decide)) (by decide)) (by decide)) (by decide)) (by decide)) (by decide)) (by decide)) (by decide))
theorem upd5 : Upd w n stR 24 (.int .i64 (wrap64 (s.deep + 1))) s (s5 s) := Upd.iso (Upd.right (r := kpR) (Upd.right (r := txtsR) (Upd.right (r := rrow fmR) (Upd.right (r := rqR) (Upd.right (r := anR) (Upd.right (r := rrow rnum) (Upd.right (r := rnum) (Upd.right (r := rnum) (Upd.left (r := rnum) (Upd.num (up_I _)) (by decide)) (by decide)) (by decide)) (by decide)) (by decide)) (by decide)) (by decide)) (by decide)) (by decide))
theorem upd7 {v : Value} (h : (rrow rnum).C w n [v] (1 :: s.sigs)) : Upd w n stR 21 v s (s7 s) := Upd.iso (Upd.right (r := kpR) (Upd.right (r := txtsR) (Upd.right (r := rrow fmR) (Upd.right (r := rqR) (Upd.right (r := anR) (Upd.left (r := rrow rnum) (Upd.row h) (by decide)) (by decide)) (by decide)) (by decide)) (by decide)) (by decide))
theorem upd3 (h : (s.asked.text ++ [120]).length ≤ 9223372036854775807) : Upd w n stR 12 (.string (mkS (s.asked.text ++ [120]))) s (s3 s) := Upd.iso (Upd.right (r := kpR) (Upd.right (r := txtsR) (Upd.right (r := rrow fmR) (Upd.left (r := rqR) (a' := (s3 s).asked) (Upd.iso (x' := (s3 s).asked) (Upd.right (r := rnum) (Upd.right (r := rnum) (Upd.right (r := rnum) (Upd.left (r := rtxt) (Upd.txt h) (by decide)) (by decide)) (by decide)) (by decide))) (by decide)) (by decide)) (by decide)) (by decide))
theorem upd4 : Upd w n stR 16 (.int .i64 (wrap64 (s.got.n + 1))) s (s4 s) := Upd.iso (Upd.right (r := kpR) (Upd.right (r := txtsR) (Upd.right (r := rrow fmR) (Upd.right (r := rqR) (Upd.left (r := anR) (a' := (s4 s).got) (Upd.iso (x' := (s4 s).got) (Upd.right (r := rnum) (Upd.right (r := rnum) (Upd.left (r := rnum) (Upd.num (up_I _)) (by decide)) (by decide)) (by decide))) (by decide)) (by decide)) (by decide)) (by decide)) (by decide))
theorem upd1 : Upd w n stR 2 (.int .i64 (wrap64 (s.keep.status + 1))) s (s1 s) := Upd.iso (Upd.left (r := kpR) (a' := (s1 s).keep) (Upd.iso (x' := (s1 s).keep) (Upd.left (r := envR) (a' := ((s1 s).keep.vars, (s1 s).keep.args, (s1 s).keep.status, (s1 s).keep.flags)) (Upd.right (r := rrow prR) (Upd.right (r := txtsR) (Upd.left (r := rnum) (Upd.num (up_I _)) (by decide)) (by decide)) (by decide)) (by decide))) (by decide))
theorem upd6 (h : (s.keep.flags ++ [120]).length ≤ 9223372036854775807) : Upd w n stR 3 (.string (mkS (s.keep.flags ++ [120]))) s (s6 s) := Upd.iso (Upd.left (r := kpR) (a' := (s6 s).keep) (Upd.iso (x' := (s6 s).keep) (Upd.left (r := envR) (a' := ((s6 s).keep.vars, (s6 s).keep.args, (s6 s).keep.status, (s6 s).keep.flags)) (Upd.right (r := rrow prR) (Upd.right (r := txtsR) (Upd.right (r := rnum) (Upd.txt h) (by decide)) (by decide)) (by decide)) (by decide))) (by decide))
end
theorem sig_ok {l : List Int} (h : ∀ x ∈ l, num.ok x) : ∀ x ∈ 1 :: l, num.ok x := by
  intro x hx
  rcases List.mem_cons.1 hx with rfl | hx
  · exact ⟨by omega, by omega⟩
  · exact h x hx
/-- What is known of the changed state. -/
structure Chg (s s' : St) : Prop where
  ok : stC.ok s'
  len : (stC.put s').length ≤ (stC.put s).length + 40
  ne : stC.put s ≠ stC.put s'
theorem st_len (s : St) : (stC.put s).length = (kpC.put s.keep).length + (rowP txt s.progs).length + (rowP fmC s.stack).length + ((numP s.asked.kind).length + (numP s.asked.n).length + (numP s.asked.m).length + (textB s.asked.text).length + (rowP txt s.asked.list).length) + ((numP s.got.kind).length + (numP s.got.err).length + (numP s.got.n).length + (numP s.got.m).length + (textB s.got.text).length + (rowP txt s.got.list).length + (numP s.got.sig).length) + (rowP num s.sigs).length + (numP s.loose).length + (numP s.n).length + (numP s.deep).length + (bitP s.trapping).length + (bitP s.ended).length + (bitP s.done).length + (numP s.fail).length := by
  have e : stC.put s = kpC.put s.keep ++ (rowP txt s.progs ++ (rowP fmC s.stack ++ ((numP s.asked.kind ++ (numP s.asked.n ++ (numP s.asked.m ++ (textB s.asked.text ++ rowP txt s.asked.list)))) ++ ((numP s.got.kind ++ (numP s.got.err ++ (numP s.got.n ++ (numP s.got.m ++ (textB s.got.text ++ (rowP txt s.got.list ++ numP s.got.sig)))))) ++ (rowP num s.sigs ++ (numP s.loose ++ (numP s.n ++ (numP s.deep ++ (bitP s.trapping ++ (bitP s.ended ++ (bitP s.done ++ numP s.fail))))))))))) := rfl
  rw [e]
  simp only [List.length_append]
  omega
theorem kp_len (k : Kp) : (kpC.put k).length = (rowP prC k.vars).length + (rowP txt k.args).length + (numP k.status).length + (textB k.flags).length + (rowP fnC k.funcs).length + (rowP tpC k.traps).length + (rowP fdC k.fds).length := by
  have e : kpC.put k = (rowP prC k.vars ++ (rowP txt k.args ++ (numP k.status ++ textB k.flags))) ++ (rowP fnC k.funcs ++ (rowP tpC k.traps ++ rowP fdC k.fds)) := rfl
  rw [e]
  simp only [List.length_append]
  omega
theorem text_up {t : B} (h : t.length ≤ 1000000000) : (textB (t ++ [120])).length ≤ (textB t).length + 11 := by
  have h1 := numL_ten (x := (t ++ [120]).length) (by rw [List.length_append]; show t.length + 1 < _; omega)
  rw [textB, textB, List.length_append, List.length_append, List.length_append]
  rw [List.length_append] at h1
  show (numL (t.length + 1)).length + (t.length + 1) ≤ _
  have h1 : (numL (t.length + 1)).length ≤ 10 := h1
  omega
theorem num_le {x : Int} (h : I64 x) : (numP x).length ≤ 10 := numP_len h
theorem bit_le (b : Bool) : (bitP b).length ≤ 10 := numP_len (bit_ok b)
theorem txt_len_le (t : B) : t.length ≤ (textB t).length := by rw [textB, List.length_append]; omega
theorem chg0 {s : St} (hok : stC.ok s) (hx : (stC.put s).length ≤ 20000000) : Chg s (s0 s) := by
  have hok0 := hok
  obtain ⟨hk, h1, h2, hq, ha, h3, h4, h5, h6, h7, h8, h9, hf⟩ := hok
  have hok' : stC.ok (s0 s) := ⟨hk, h1, h2, hq, ha, h3, h4, h5, h6, h7, h8, trivial, hf⟩
  refine ⟨hok', ?_, fun e => ?_⟩
  · have l1 := st_len s
    have l2 := st_len (s0 s)
    obtain ⟨z, hz⟩ : ∃ z, z = (stC.put (s0 s)).length := ⟨_, rfl⟩
    rw [← hz] at l2 ⊢
    have a1 := bit_le (s0 s).done
    simp only [s0] at l2 a1
    omega
  · have := put_inj stC hok0 hok' e
    have h : s.done = !s.done := congrArg St.done this
    revert h
    cases s.done <;> simp
theorem chg1 {s : St} (hok : stC.ok s) (hx : (stC.put s).length ≤ 20000000) : Chg s (s1 s) := by
  have hok0 := hok
  obtain ⟨hk, h1, h2, hq, ha, h3, h4, h5, h6, h7, h8, h9, hf⟩ := hok
  have hok' : stC.ok (s1 s) := ⟨⟨⟨hk.1.1, hk.1.2.1, up_I _, hk.1.2.2.2⟩, hk.2⟩, h1, h2, hq, ha, h3, h4, h5, h6, h7, h8, h9, hf⟩
  refine ⟨hok', ?_, fun e => ?_⟩
  · have l1 := st_len s
    have l2 := st_len (s1 s)
    obtain ⟨z, hz⟩ : ∃ z, z = (stC.put (s1 s)).length := ⟨_, rfl⟩
    rw [← hz] at l2 ⊢
    have a1 := num_le (up_I s.keep.status)
    have k1 := kp_len s.keep
    have k2 := kp_len (s1 s).keep
    simp only [s1] at l2 k2
    omega
  · have := put_inj stC hok0 hok' e
    have h : s.keep.status = wrap64 (s.keep.status + 1) := congrArg (fun x => x.keep.status) this
    exact up_ne hk.1.2.2.1 h.symm
theorem chg2 {s : St} (hok : stC.ok s) (hx : (stC.put s).length ≤ 20000000) : Chg s (s2 s) := by
  have hok0 := hok
  obtain ⟨hk, h1, h2, hq, ha, h3, h4, h5, h6, h7, h8, h9, hf⟩ := hok
  have hok' : stC.ok (s2 s) := ⟨hk, h1, h2, hq, ha, h3, h4, h5, h6, h7, h8, h9, up_I _⟩
  refine ⟨hok', ?_, fun e => ?_⟩
  · have l1 := st_len s
    have l2 := st_len (s2 s)
    obtain ⟨z, hz⟩ : ∃ z, z = (stC.put (s2 s)).length := ⟨_, rfl⟩
    rw [← hz] at l2 ⊢
    have a1 := num_le (up_I s.fail)
    simp only [s2] at l2
    omega
  · have := put_inj stC hok0 hok' e
    have h : s.fail = wrap64 (s.fail + 1) := congrArg St.fail this
    exact up_ne hf h.symm
theorem chg3 {s : St} (hok : stC.ok s) (hx : (stC.put s).length ≤ 20000000) : Chg s (s3 s) := by
  have hok0 := hok
  obtain ⟨hk, h1, h2, hq, ha, h3, h4, h5, h6, h7, h8, h9, hf⟩ := hok
  have hok' : stC.ok (s3 s) := ⟨hk, h1, h2, ⟨hq.1, hq.2.1, hq.2.2.1, by show (s.asked.text ++ [120]).length < _; rw [List.length_append]; show s.asked.text.length + 1 < _; have := txt_len_le s.asked.text; have := st_len s;  omega, hq.2.2.2.2⟩, ha, h3, h4, h5, h6, h7, h8, h9, hf⟩
  refine ⟨hok', ?_, fun e => ?_⟩
  · have l1 := st_len s
    have l2 := st_len (s3 s)
    obtain ⟨z, hz⟩ : ∃ z, z = (stC.put (s3 s)).length := ⟨_, rfl⟩
    rw [← hz] at l2 ⊢
    have b1 := txt_len_le s.asked.text
    have a1 := text_up (t := s.asked.text) (by omega)
    simp only [s3] at l2
    omega
  · have := put_inj stC hok0 hok' e
    have h : s.asked.text = s.asked.text ++ [120] := congrArg (fun x => x.asked.text) this
    have := congrArg List.length h
    rw [List.length_append] at this
    simp at this
theorem chg4 {s : St} (hok : stC.ok s) (hx : (stC.put s).length ≤ 20000000) : Chg s (s4 s) := by
  have hok0 := hok
  obtain ⟨hk, h1, h2, hq, ha, h3, h4, h5, h6, h7, h8, h9, hf⟩ := hok
  have hok' : stC.ok (s4 s) := ⟨hk, h1, h2, hq, ⟨ha.1, ha.2.1, up_I _, ha.2.2.2⟩, h3, h4, h5, h6, h7, h8, h9, hf⟩
  refine ⟨hok', ?_, fun e => ?_⟩
  · have l1 := st_len s
    have l2 := st_len (s4 s)
    obtain ⟨z, hz⟩ : ∃ z, z = (stC.put (s4 s)).length := ⟨_, rfl⟩
    rw [← hz] at l2 ⊢
    have a1 := num_le (up_I s.got.n)
    simp only [s4] at l2
    omega
  · have := put_inj stC hok0 hok' e
    have h : s.got.n = wrap64 (s.got.n + 1) := congrArg (fun x => x.got.n) this
    exact up_ne ha.2.2.1 h.symm
theorem chg5 {s : St} (hok : stC.ok s) (hx : (stC.put s).length ≤ 20000000) : Chg s (s5 s) := by
  have hok0 := hok
  obtain ⟨hk, h1, h2, hq, ha, h3, h4, h5, h6, h7, h8, h9, hf⟩ := hok
  have hok' : stC.ok (s5 s) := ⟨hk, h1, h2, hq, ha, h3, h4, h5, up_I _, h7, h8, h9, hf⟩
  refine ⟨hok', ?_, fun e => ?_⟩
  · have l1 := st_len s
    have l2 := st_len (s5 s)
    obtain ⟨z, hz⟩ : ∃ z, z = (stC.put (s5 s)).length := ⟨_, rfl⟩
    rw [← hz] at l2 ⊢
    have a1 := num_le (up_I s.deep)
    simp only [s5] at l2
    omega
  · have := put_inj stC hok0 hok' e
    have h : s.deep = wrap64 (s.deep + 1) := congrArg St.deep this
    exact up_ne h6 h.symm
theorem chg6 {s : St} (hok : stC.ok s) (hx : (stC.put s).length ≤ 20000000) : Chg s (s6 s) := by
  have hok0 := hok
  obtain ⟨hk, h1, h2, hq, ha, h3, h4, h5, h6, h7, h8, h9, hf⟩ := hok
  have hok' : stC.ok (s6 s) := ⟨⟨⟨hk.1.1, hk.1.2.1, hk.1.2.2.1, by show (s.keep.flags ++ [120]).length < _; rw [List.length_append]; show s.keep.flags.length + 1 < _; have := txt_len_le s.keep.flags; have := st_len s; have := kp_len s.keep; omega⟩, hk.2⟩, h1, h2, hq, ha, h3, h4, h5, h6, h7, h8, h9, hf⟩
  refine ⟨hok', ?_, fun e => ?_⟩
  · have l1 := st_len s
    have l2 := st_len (s6 s)
    obtain ⟨z, hz⟩ : ∃ z, z = (stC.put (s6 s)).length := ⟨_, rfl⟩
    rw [← hz] at l2 ⊢
    have k1 := kp_len s.keep
    have b1 := txt_len_le s.keep.flags
    have a1 := text_up (t := s.keep.flags) (by omega)
    have k2 := kp_len (s6 s).keep
    simp only [s6] at l2 k2
    omega
  · have := put_inj stC hok0 hok' e
    have h : s.keep.flags = s.keep.flags ++ [120] := congrArg (fun x => x.keep.flags) this
    have := congrArg List.length h
    rw [List.length_append] at this
    simp at this
theorem chg7 {s : St} (hok : stC.ok s) (hx : (stC.put s).length ≤ 20000000) (hl : s.sigs.length ≤ 300) : Chg s (s7 s) := by
  have hok0 := hok
  obtain ⟨hk, h1, h2, hq, ha, h3, h4, h5, h6, h7, h8, h9, hf⟩ := hok
  have hok' : stC.ok (s7 s) := ⟨hk, h1, h2, hq, ha, ⟨by show (1 :: s.sigs).length ≤ _; rw [List.length_cons]; omega, sig_ok h3.2⟩, h4, h5, h6, h7, h8, h9, hf⟩
  refine ⟨hok', ?_, fun e => ?_⟩
  · have l1 := st_len s
    have l2 := st_len (s7 s)
    obtain ⟨z, hz⟩ : ∃ z, z = (stC.put (s7 s)).length := ⟨_, rfl⟩
    rw [← hz] at l2 ⊢
    have a1 := num_le (x := ((1 :: s.sigs).length : Int)) ⟨by omega, by rw [List.length_cons]; omega⟩
    have a2 := num_le (x := 1) ⟨by omega, by omega⟩
    have a3 : (rowP num (1 :: s.sigs)).length = (numP ((1 :: s.sigs).length : Int)).length + ((numP 1).length + (manyP num s.sigs).length) := by rw [rowP, manyP_cons, List.length_append, List.length_append]; rfl
    have a4 : (rowP num s.sigs).length = (numP (s.sigs.length : Int)).length + (manyP num s.sigs).length := by rw [rowP, List.length_append]
    simp only [s7] at l2
    omega
  · have := put_inj stC hok0 hok' e
    have h : s.sigs = 1 :: s.sigs := congrArg St.sigs this
    have := congrArg List.length h
    simp at this
end Ks
end Go.Proofs.Yteljmlodbnfhbaa
