/- pick, number. -/
import Derived.Test.YtljfiefobnncaaaDoorWf
namespace Go.Proofs.YtljfiefobnncaaaDoor
open Go.RowKit

theorem dig_toNat : ∀ n, n < 10 → (48 + n.toUInt8).toNat = 48 + n := by decide
theorem itoaL_low (n : Nat) (h : n < 10) : Pm.itoaL n = [48 + n.toUInt8] := by rw [Pm.itoaL, if_pos h]
theorem itoaL_high (n : Nat) (h : ¬ n < 10) : Pm.itoaL n = [48 + (n / 10).toUInt8, 48 + (n % 10).toUInt8] := by rw [Pm.itoaL, if_neg h]

set_option maxRecDepth 4000 in
set_option maxHeartbeats 400000 in
theorem pick_any (c : Int) (n : Nat) (c1 : -9223372036854775808 ≤ c) (c2 : c ≤ 9223372036854775807) (n1 : 1 ≤ n) (n2 : n ≤ 32) (w : World) :
    Calls Tryd.prog 26 #[.int .i64 c, .int .i64 n] w fun e w' => (∃ r : Nat, e = .returned (.int .i64 r) ∧ r < n) ∧ w' = w := by
  by_cases h : c < 0
  · have e1 : -(c + 1).tmod (n : Int) = ((((-(c + 1)) % (n : Int)).toNat : Nat) : Int) := by
      rw [← Int.neg_tmod, Int.tmod_eq_emod_of_nonneg (by omega)]
      have := Int.emod_nonneg (-(c + 1)) (show (n : Int) ≠ 0 by omega)
      omega
    have e2 : ((-(c + 1)) % (n : Int)).toNat < n := by
      have := Int.emod_nonneg (-(c + 1)) (show (n : Int) ≠ 0 by omega)
      have := Int.emod_lt_of_pos (-(c + 1)) (show (0 : Int) < n by omega)
      omega
    have E1 : Hid _ := e1
    have E2 : Hid _ := e2
    clear e1 e2
    go_enter Tryd.func26, Tryd.ntmps26
    go_wp2
    go_ret
    exact ⟨⟨_, ret_int E1.out, E2.out⟩, rfl⟩
  · have e1 : c % (n : Int) = (((c % (n : Int)).toNat : Nat) : Int) := by
      have := Int.emod_nonneg c (show (n : Int) ≠ 0 by omega)
      omega
    have e2 : (c % (n : Int)).toNat < n := by
      have := Int.emod_nonneg c (show (n : Int) ≠ 0 by omega)
      have := Int.emod_lt_of_pos c (show (0 : Int) < n by omega)
      omega
    have E1 : Hid _ := e1
    have E2 : Hid _ := e2
    clear e1 e2
    go_enter Tryd.func26, Tryd.ntmps26
    go_wp2
    go_ret
    exact ⟨⟨_, ret_int E1.out, E2.out⟩, rfl⟩

set_option maxRecDepth 4000 in
set_option maxHeartbeats 400000 in
theorem number_keep (n : Nat) (n2 : n ≤ 32) (w : World) :
    Calls Tryd.prog 27 #[.int .i64 n] w fun e w' => e = .returned (.string ⟨(Pm.itoaL n).toArray⟩) ∧ Below w.heap.size w w' := by
  have hc1 := one_byte (48 + (n % 10).toUInt8) (48 + (n : Int) % 10) (by rw [dig_toNat (n % 10) (by omega)]; omega) w
  by_cases h : n < 10
  · have L := hid (itoaL_low n h)
    have e : Hid (n % 10 = n) := show n % 10 = n by omega
    go_enter Tryd.func27, Tryd.ntmps27
    go_wp2
    go_ret
    exact ⟨ret_string (by rw [L.out, e.out]), (Below.refl _ _).alloc (Nat.le_refl _) _⟩
  · have L := hid (itoaL_high n h)
    have hc2 := one_byte (48 + (n / 10).toUInt8) (48 + (n : Int) / 10) (by rw [dig_toNat (n / 10) (by omega)]; omega)
    have hc3 := hc2 (w.alloc (.cells #[.int .u8 (48 + (n : Int) % 10)] 5))
    simp at hc3
    clear hc2
    go_enter Tryd.func27, Tryd.ntmps27
    go_wp2
    go_ret
    exact ⟨ret_string (by rw [L.out]; rfl), ((Below.refl _ _).alloc (Nat.le_refl _) _).alloc (by simp) _⟩
end Go.Proofs.YtljfiefobnncaaaDoor
