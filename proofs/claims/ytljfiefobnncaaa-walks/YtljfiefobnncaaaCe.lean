/- isDrawn, joins of package cycles. -/
import Derived.Test.YtljfiefobnncaaaCd
namespace Go.Proofs.Ytljfiefobnncaaa
open Go.RowKit
attribute [local go_sem ↓] Go.wp_at_zero Go.wp_at_succ

set_option maxHeartbeats 2000000 in
theorem isDrawn_any (W H : Nat) (s : ByteArray) (pol : Int) (draws : ByteArray) (spk : Int) (x y : Nat) (hx : x ≤ 100) (hy : y ≤ 100) (w : World) (hw2 : W ≤ 32) :
    Calls Try.prog 106 #[.agg #[.int .i64 W, .int .i64 H, .string s], .agg #[.int .i64 pol, .string draws, .int .i64 spk], .agg #[.int .i64 x, .int .i64 y]] w fun e w' => e = .returned (.bool (Pm.bitAt draws.data.toList ((y : Int) * (W + 1) + x).toNat)) ∧ Below w.heap.size w w' := by
  obtain ⟨k, hk⟩ : ∃ k : Nat, k = y * (W + 1) := ⟨_, rfl⟩
  have ek : (y : Int) * ((W : Int) + 1) = (k : Nat) := by rw [hk]; simp
  have hk2 : k ≤ 100 * 33 := by rw [hk]; exact Nat.mul_le_mul hy (by omega)
  rw [ek, show ((k : Int) + (x : Int)).toNat = k + x from by omega]
  clear hk
  by_cases hlt : k + x < draws.size
  · by_cases q : (draws[k + x].toNat : Int) = 49
    · have E := hid (Pm.bitAt_yes draws _ hlt q)
      go_enter Try.func106, Try.ntmps106
      go_wp2
      go_ret
      exact ⟨ret_bool E.out.symm, by go_grown⟩
    · have E := hid (Pm.bitAt_no draws _ hlt q)
      have b0 : ((draws[k + x].toNat : Int) == 49) = false := by simpa using q
      go_enter Try.func106, Try.ntmps106
      go_wp2
      go_ret
      exact ⟨ret_bool E.out.symm, by go_grown⟩
  · have E := hid (Pm.bitAt_out draws _ hlt)
    go_enter Try.func106, Try.ntmps106
    go_wp2
    go_ret
    exact ⟨ret_bool E.out.symm, by go_grown⟩

set_option maxHeartbeats 2000000 in
theorem joins_any (W H : Nat) (s : ByteArray) (pol : Nat) (draws : ByteArray) (spk : Int) (x y : Nat) (hp : pol ≤ 3) (hx : x ≤ 100) (hy : y ≤ 100) (w : World) (hw2 : W ≤ 32) (hh2 : H ≤ 32) (hl : s.size = W * H) :
    Calls Try.prog 96 #[.agg #[.int .i64 W, .int .i64 H, .string s], .agg #[.int .i64 pol, .string draws, .int .i64 spk], .agg #[.int .i64 x, .int .i64 y]] w fun e w' => e = .returned (.bool (Qm.jnB W H s.data.toList pol draws.data.toList x y)) ∧ Below w.heap.size w w' := by
  have HL := hid hl
  clear hl
  match pol, hp with
  | 0, _ =>
    go_enter Try.func96, Try.ntmps96
    go_wp2
    go_ret
    exact ⟨ret_bool (Qm.jnB_0 ..).symm, by go_grown⟩
  | 1, _ =>
    go_enter Try.func96, Try.ntmps96
    go_wp2
    go_ret
    exact ⟨ret_bool (Qm.jnB_1 ..).symm, by go_grown⟩
  | 2, _ =>
    go_enter Try.func96, Try.ntmps96
    go_wp2_with fail
    refine (blackAround_any W H s x y (by omega) (by omega) _ hw2 hh2 HL.out).mono ?_
    rintro e w1 ⟨rfl, hb⟩
    have hc := Qm.cntTo_le (Pm.blackB W H s.data.toList) x y 16
    go_wp2
    go_ret
    exact ⟨ret_bool (by show _ = Qm.jnB W H s.data.toList 2 draws.data.toList x y; rw [Qm.jnB_2]; simp; omega), Below.trans (b := _) (by go_grown) (hb.mono (by simp; omega))⟩
  | 3, _ =>
    go_enter Try.func96, Try.ntmps96
    go_wp2_with fail
    refine (isDrawn_any W H s 3 draws spk x y hx hy _ hw2).mono ?_
    rintro e w1 ⟨rfl, hb⟩
    go_wp2
    go_ret
    exact ⟨ret_bool (Qm.jnB_3 ..).symm, Below.trans (b := _) (by go_grown) (hb.mono (by simp; omega))⟩
end Go.Proofs.Ytljfiefobnncaaa
