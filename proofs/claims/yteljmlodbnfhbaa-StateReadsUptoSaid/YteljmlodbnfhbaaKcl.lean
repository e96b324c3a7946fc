/- The cells of the parts of a state. No premises. -/
import Derived.Test.YteljmlodbnfhbaaKa
namespace Go.Proofs.Yteljmlodbnfhbaa
open Go.RowKit
namespace Ks
theorem env_cells {w : World} {n : Nat} {cs : List Value} {e : EnvT} (h : envR.C w n cs e) : ∃ A1 c1 A2 c2, cs = [.slice A1 e.1.length c1, .slice A2 e.2.1.length c2, .int .i64 e.2.2.1, .string (mkS e.2.2.2)] ∧ Row prR w n A1 e.1 ∧ Row rtxt w n A2 e.2.1 ∧ I64 e.2.2.1 ∧ e.1.length ≤ c1 ∧ c1 ≤ 9223372036854775807 ∧ e.2.1.length ≤ c2 ∧ c2 ≤ 9223372036854775807 := by
  obtain ⟨x1, x2, rfl, ⟨A1, c1, rfl, h1, h2, h3⟩, x3, x4, rfl, ⟨A2, c2, rfl, h4, h5, h6⟩, x5, x6, rfl, h7, h8⟩ := h
  rw [h7.1, h8.1]
  exact ⟨A1, c1, A2, c2, rfl, h3, h6, h7.2, h1, h2, h4, h5⟩
theorem rq_cells {w : World} {n : Nat} {cs : List Value} {q : Rq} (h : rqR.C w n cs q) : ∃ A c, cs = [.int .i64 q.kind, .int .i64 q.n, .int .i64 q.m, .string (mkS q.text), .slice A q.list.length c] ∧ Row rtxt w n A q.list ∧ I64 q.kind ∧ I64 q.n ∧ I64 q.m ∧ q.list.length ≤ c ∧ c ≤ 9223372036854775807 := by
  obtain ⟨x1, y1, rfl, h1, x2, y2, rfl, h2, x3, y3, rfl, h3, x4, y4, rfl, h4, A, c, rfl, h5, h6, h7⟩ := h
  rw [h1.1, h2.1, h3.1, h4.1]
  exact ⟨A, c, rfl, h7, h1.2, h2.2, h3.2, h5, h6⟩
theorem an_cells {w : World} {n : Nat} {cs : List Value} {q : An} (h : anR.C w n cs q) : ∃ A c, cs = [.int .i64 q.kind, .int .i64 q.err, .int .i64 q.n, .int .i64 q.m, .string (mkS q.text), .slice A q.list.length c, .int .i64 q.sig] ∧ Row rtxt w n A q.list ∧ I64 q.kind ∧ I64 q.err ∧ I64 q.n ∧ I64 q.m ∧ I64 q.sig ∧ q.list.length ≤ c ∧ c ≤ 9223372036854775807 := by
  obtain ⟨x1, y1, rfl, h1, x2, y2, rfl, h2, x3, y3, rfl, h3, x0, y0, rfl, h0, x4, y4, rfl, h4, x5, y5, rfl, ⟨A, c, rfl, h5, h6, h7⟩, h8⟩ := h
  rw [h1.1, h2.1, h3.1, h4.1, h0.1, h8.1]
  exact ⟨A, c, rfl, h7, h1.2, h2.2, h3.2, h0.2, h8.2, h5, h6⟩
theorem kp_cells {w : World} {n : Nat} {cs : List Value} {k : Kp} (h : kpR.C w n cs k) : ∃ A1 c1 A2 c2 A3 c3 A4 c4 A5 c5,
    cs = [.slice A1 k.vars.length c1, .slice A2 k.args.length c2, .int .i64 k.status, .string (mkS k.flags), .slice A3 k.funcs.length c3, .slice A4 k.traps.length c4, .slice A5 k.fds.length c5] ∧
    envR.C w n [.slice A1 k.vars.length c1, .slice A2 k.args.length c2, .int .i64 k.status, .string (mkS k.flags)] (k.vars, k.args, k.status, k.flags) ∧ Row fnR w n A3 k.funcs ∧ Row tpR w n A4 k.traps ∧ Row fdR w n A5 k.fds ∧
    k.funcs.length ≤ c3 ∧ c3 ≤ 9223372036854775807 ∧ k.traps.length ≤ c4 ∧ c4 ≤ 9223372036854775807 ∧ k.fds.length ≤ c5 ∧ c5 ≤ 9223372036854775807 := by
  obtain ⟨x1, y1, rfl, hE, x2, y2, rfl, ⟨A3, c3, rfl, h1, h2, h3⟩, x3, y3, rfl, ⟨A4, c4, rfl, h4, h5, h6⟩, A5, c5, rfl, h7, h8, h9⟩ := h
  obtain ⟨A1, c1, A2, c2, rfl, _⟩ := env_cells hE
  exact ⟨A1, c1, A2, c2, A3, c3, A4, c4, A5, c5, rfl, hE, h3, h6, h9, h1, h2, h4, h5, h7, h8⟩
end Ks
end Go.Proofs.Yteljmlodbnfhbaa
