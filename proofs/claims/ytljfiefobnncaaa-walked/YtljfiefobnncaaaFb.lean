/- outlinekeep: code, isSide. -/
import Derived.Test.YtljfiefobnncaaaFa
namespace Go.Proofs.Ytljfiefobnncaaa
open Go.RowKit

set_option maxHeartbeats 1000000 in
theorem code_any (t : Qm.Sd) (d4 : t.2.2 < 4) (x0 : 0 ≤ t.1) (x1 : t.1 ≤ 32) (y0 : 0 ≤ t.2.1) (y1 : t.2.1 ≤ 32) (w : World) :
    Calls Try.prog 21 #[.agg #[.int .i64 (Qm.fromP t).1, .int .i64 (Qm.fromP t).2], .agg #[.int .i64 (Qm.en t).1, .int .i64 (Qm.en t).2]] w fun e w' => e = .returned (.int .i64 (Qm.codeS t)) ∧ Below w.heap.size w w' := by
  obtain ⟨x, y, d⟩ := t
  simp only at d4 x0 x1 y0 y1
  match d, d4 with
  | 0, _ =>
    simp only [Qm.fromP, Qm.en, Qm.codeS, Qm.key]
    go_enter Try.func21, Try.ntmps21
    go_wp2
    go_ret
    exact ⟨ret_int (by omega), by go_grown⟩
  | 1, _ =>
    simp only [Qm.fromP, Qm.en, Qm.codeS, Qm.key]
    go_enter Try.func21, Try.ntmps21
    go_wp2
    go_ret
    exact ⟨ret_int (by omega), by go_grown⟩
  | 2, _ =>
    simp only [Qm.fromP, Qm.en, Qm.codeS, Qm.key]
    go_enter Try.func21, Try.ntmps21
    go_wp2
    go_ret
    exact ⟨ret_int (by omega), by go_grown⟩
  | 3, _ =>
    simp only [Qm.fromP, Qm.en, Qm.codeS, Qm.key]
    go_enter Try.func21, Try.ntmps21
    go_wp2
    go_ret
    exact ⟨ret_int (by omega), by go_grown⟩
end Go.Proofs.Ytljfiefobnncaaa
