/- The policies. Nothing of the program stands here. -/
import Derived.Test.YtljfiefobnncaaaQb
import Derived.Test.YtljfiefobnncaaaPn
namespace Go.Proofs.Ytljfiefobnncaaa.Qm
open Pm

/-- Of the first m of the 16 pixels around a point: how many are black? -/
def cntTo (bl : Int → Int → Bool) (X Y : Int) : Nat → Nat
  | 0 => 0
  | m + 1 => cntTo bl X Y m + if bl (X - 2 + (m % 4 : Nat)) (Y - 2 + (m / 4 : Nat)) then 1 else 0
theorem cntTo_le (bl : Int → Int → Bool) (X Y : Int) (m : Nat) : cntTo bl X Y m ≤ m := by
  induction m with
  | zero => exact Nat.le_refl _
  | succ m ih => unfold cntTo; split <;> omega
theorem cntTo_yes (bl : Int → Int → Bool) (X Y : Int) (i j : Nat) (hj : j < 4) (h : bl (X - 2 + (j : Nat)) (Y - 2 + (i : Nat)) = true) : cntTo bl X Y (4 * i + (j + 1)) = cntTo bl X Y (4 * i + j) + 1 := by
  rw [← Nat.add_assoc]; show cntTo bl X Y (4 * i + j) + _ = _
  rw [show (4 * i + j) % 4 = j from by omega, show (4 * i + j) / 4 = i from by omega, h]; simp
theorem cntTo_no (bl : Int → Int → Bool) (X Y : Int) (i j : Nat) (hj : j < 4) (h : bl (X - 2 + (j : Nat)) (Y - 2 + (i : Nat)) = false) : cntTo bl X Y (4 * i + (j + 1)) = cntTo bl X Y (4 * i + j) := by
  rw [← Nat.add_assoc]; show cntTo bl X Y (4 * i + j) + _ = _
  rw [show (4 * i + j) % 4 = j from by omega, show (4 * i + j) / 4 = i from by omega, h]; simp

/-- Does one who comes to a crossing join? -/
def jnB (W H : Nat) (l : List UInt8) (pol : Int) (draws : List UInt8) (x y : Int) : Bool :=
  if pol = 0 then true
  else if pol = 2 then decide (cntTo (blackB W H l) x y 16 < 8)
  else if pol = 3 then bitAt draws (y * (W + 1) + x).toNat
  else false
theorem jnB_0 (W H : Nat) (l : List UInt8) (draws : List UInt8) (x y : Int) : jnB W H l 0 draws x y = true := rfl
theorem jnB_1 (W H : Nat) (l : List UInt8) (draws : List UInt8) (x y : Int) : jnB W H l 1 draws x y = false := rfl
theorem jnB_2 (W H : Nat) (l : List UInt8) (draws : List UInt8) (x y : Int) : jnB W H l 2 draws x y = decide (cntTo (blackB W H l) x y 16 < 8) := rfl
theorem jnB_3 (W H : Nat) (l : List UInt8) (draws : List UInt8) (x y : Int) : jnB W H l 3 draws x y = bitAt draws (y * (W + 1) + x).toNat := rfl

theorem pic_of (W H : Nat) (l : List UInt8) (hw : W ≤ 32) (hh : H ≤ 32) : Pic (blackB W H l) W H where
  box x y h := by
    by_cases hb : 0 ≤ x ∧ 0 ≤ y ∧ x < W ∧ y < H
    · omega
    · rw [blackB_out W H l x y hb] at h; exact absurd h (by simp)
  w := by omega
  h := by omega

end Go.Proofs.Ytljfiefobnncaaa.Qm
