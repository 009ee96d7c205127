/- pixelBetween, isSide of package cycles. -/
import Derived.Test.YtljfiefobnncaaaCa
namespace Go.Proofs.Ytljfiefobnncaaa
open Go.RowKit

set_option maxHeartbeats 2000000 in
theorem pixelBetween_any (x y : Int) (a b : Nat) (hx : -1000 ≤ x ∧ x ≤ 1000) (hy : -1000 ≤ y ∧ y ≤ 1000) (w : World) :
    Calls Try.prog 103 #[.agg #[.int .i64 x, .int .i64 y], .int .i64 a, .int .i64 b] w fun e w' => e = .returned (.agg #[.int .i64 (if a = 3 ∨ b = 3 then x - 1 else x), .int .i64 (if a = 2 ∨ b = 2 then y - 1 else y)]) ∧ ∃ o1 o2, w' = (w.alloc (.cells o1 47)).alloc (.cells o2 47) := by
  have key : ∀ (p q r t : Bool), ((a : Int) == 2) = p → ((b : Int) == 2) = q → ((a : Int) == 3) = r → ((b : Int) == 3) = t →
    Calls Try.prog 103 #[.agg #[.int .i64 x, .int .i64 y], .int .i64 a, .int .i64 b] w fun e w' => e = .returned (.agg #[.int .i64 (if (r || t) = true then x - 1 else x), .int .i64 (if (p || q) = true then y - 1 else y)]) ∧ ∃ o1 o2, w' = (w.alloc (.cells o1 47)).alloc (.cells o2 47) := by
    intro p q r t h1 h2 h3 h4
    cases p <;> cases q <;> cases r <;> cases t <;>
    · go_enter Try.func103, Try.ntmps103
      go_wp2
      refine bodyPost_ret (by simp [results, Try.results103, go_sem]; rfl) rfl ?_
      exact ⟨rfl, _, _, rfl⟩
  refine (key _ _ _ _ rfl rfl rfl rfl).mono ?_
  rintro e w' ⟨rfl, hb⟩
  refine ⟨?_, hb⟩
  simp only [Bool.or_eq_true, beq_iff_eq]
  norm_cast

theorem pixLeft_any (x y : Int) (d : Nat) (hx : -1000 ≤ x ∧ x ≤ 1000) (hy : -1000 ≤ y ∧ y ≤ 1000) (w : World) :
    Calls Try.prog 103 #[.agg #[.int .i64 x, .int .i64 y], .int .i64 d, .int .i64 ((d + 1) % 4 : Nat)] w fun e w' => e = .returned (.agg #[.int .i64 (Qm.lpx x d), .int .i64 (Qm.lpy y d)]) ∧ ∃ o1 o2, w' = (w.alloc (.cells o1 47)).alloc (.cells o2 47) := pixelBetween_any x y d _ hx hy w
theorem pixRight_any (x y : Int) (d : Nat) (hx : -1000 ≤ x ∧ x ≤ 1000) (hy : -1000 ≤ y ∧ y ≤ 1000) (w : World) :
    Calls Try.prog 103 #[.agg #[.int .i64 x, .int .i64 y], .int .i64 d, .int .i64 ((d + 3) % 4 : Nat)] w fun e w' => e = .returned (.agg #[.int .i64 (Qm.rpx x d), .int .i64 (Qm.rpy y d)]) ∧ ∃ o1 o2, w' = (w.alloc (.cells o1 47)).alloc (.cells o2 47) := pixelBetween_any x y d _ hx hy w

end Go.Proofs.Ytljfiefobnncaaa
