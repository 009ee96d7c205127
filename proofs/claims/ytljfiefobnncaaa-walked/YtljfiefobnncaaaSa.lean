/- pick, number. -/
import Derived.Test.YtljfiefobnncaaaWf
namespace Go.Proofs.Ytljfiefobnncaaa
open Go.RowKit

theorem dig_toNat : ∀ n, n < 10 → (48 + n.toUInt8).toNat = 48 + n := by decide
theorem itoaL_low (n : Nat) (h : n < 10) : Pm.itoaL n = [48 + n.toUInt8] := by rw [Pm.itoaL, if_pos h]
theorem itoaL_high (n : Nat) (h : ¬ n < 10) : Pm.itoaL n = [48 + (n / 10).toUInt8, 48 + (n % 10).toUInt8] := by rw [Pm.itoaL, if_neg h]

set_option maxHeartbeats 400000 in
theorem pick_any (c : Int) (n : Nat) (c1 : -9223372036854775808 ≤ c) (c2 : c ≤ 9223372036854775807) (n1 : 1 ≤ n) (n2 : n ≤ 32) (w : World) :
    Calls Try.prog 29 #[.int .i64 c, .int .i64 n] w fun e w' => (∃ r : Nat, e = .returned (.int .i64 r) ∧ r < n) ∧ w' = w := by
  by_cases h : c < 0
  · have e1 : -(c + 1).tmod (n : Int) = ((((-(c + 1)) % (n : Int)).toNat : Nat) : Int) := by
      rw [← Int.neg_tmod, Int.tmod_eq_emod_of_nonneg (by omega)]
      have := Int.emod_nonneg (-(c + 1)) (show (n : Int) ≠ 0 by omega)
      omega
    have e2 : ((-(c + 1)) % (n : Int)).toNat < n := by
      have := Int.emod_nonneg (-(c + 1)) (show (n : Int) ≠ 0 by omega)
      have := Int.emod_lt_of_pos (-(c + 1)) (show (0 : Int) < n by omega)
      omega
    have E1 : Hid _ := e1
    have E2 : Hid _ := e2
    clear e1 e2
    go_enter Try.func29, Try.ntmps29
    go_wp2
    go_ret
    exact ⟨⟨_, ret_int E1.out, E2.out⟩, rfl⟩
  · have e1 : c % (n : Int) = (((c % (n : Int)).toNat : Nat) : Int) := by
      have := Int.emod_nonneg c (show (n : Int) ≠ 0 by omega)
      omega
    have e2 : (c % (n : Int)).toNat < n := by
      have := Int.emod_nonneg c (show (n : Int) ≠ 0 by omega)
      have := Int.emod_lt_of_pos c (show (0 : Int) < n by omega)
      omega
    have E1 : Hid _ := e1
    have E2 : Hid _ := e2
    clear e1 e2
    go_enter Try.func29, Try.ntmps29
    go_wp2
    go_ret
    exact ⟨⟨_, ret_int E1.out, E2.out⟩, rfl⟩

end Go.Proofs.Ytljfiefobnncaaa