/- Twice the area, from either end. Nothing of the program stands here. -/
import Derived.Test.YtljfiefobnncaaaQd
namespace Go.Proofs.Ytljfiefobnncaaa.Qm

/-- The point ahead of point k, round and round. -/
def pr (l : List (Int × Int)) (k : Nat) : Int × Int := l.getD ((k + l.length - 1) % l.length) (0, 0)
/-- The first k lines' share, each line counted where it ends. -/
def tsum (l : List (Int × Int)) : Nat → Int
  | 0 => 0
  | k + 1 => tsum l k + cross (pr l k) (l.getD k (0, 0))
/-- .. each counted where it begins. -/
def fsum (l : List (Int × Int)) : Nat → Int
  | 0 => 0
  | k + 1 => fsum l k + cross (l.getD k (0, 0)) (l.getD ((k + 1) % l.length) (0, 0))

theorem fsum_eq (l : List (Int × Int)) (k : Nat) : fsum l k = ((List.range k).map fun i => cross (l.getD i (0, 0)) (l.getD ((i + 1) % l.length) (0, 0))).sum := by
  induction k with
  | zero => rfl
  | succ k ih => simp only [fsum, ih, List.range_succ, List.map_append, List.sum_append, List.map_cons, List.map_nil, List.sum_cons, List.sum_nil]; omega
theorem twiceOf_fsum (l : List (Int × Int)) : twiceOf l = fsum l l.length := (fsum_eq l l.length).symm

theorem tsum_fsum (l : List (Int × Int)) (k : Nat) (hk : k < l.length) : tsum l (k + 1) = fsum l k + cross (pr l 0) (l.getD 0 (0, 0)) := by
  induction k with
  | zero => simp [tsum, fsum]
  | succ k ih =>
    rw [tsum, ih (by omega), fsum]
    have e1 : pr l (k + 1) = l.getD k (0, 0) := by
      unfold pr
      rw [show k + 1 + l.length - 1 = k + l.length from by omega, Nat.add_mod_right, Nat.mod_eq_of_lt (by omega)]
    rw [e1, Nat.mod_eq_of_lt (show k + 1 < l.length from hk)]
    omega
theorem tsum_all (l : List (Int × Int)) (h : 0 < l.length) : tsum l l.length = twiceOf l := by
  obtain ⟨n, hn⟩ : ∃ n, l.length = n + 1 := ⟨l.length - 1, by omega⟩
  rw [twiceOf_fsum, hn, tsum_fsum l n (by omega), fsum]
  have e : pr l 0 = l.getD n (0, 0) := by unfold pr; rw [hn, show 0 + (n + 1) - 1 = n from by omega, Nat.mod_eq_of_lt (by omega)]
  rw [e, hn, Nat.mod_self]
theorem pr_succ (l : List (Int × Int)) (k : Nat) (hk : k < l.length) : pr l (k + 1) = l.getD k (0, 0) := by
  unfold pr
  rw [show k + 1 + l.length - 1 = k + l.length from by omega, Nat.add_mod_right, Nat.mod_eq_of_lt hk]
theorem pr_zero (l : List (Int × Int)) (h : 0 < l.length) : pr l 0 = l.getD (l.length - 1) (0, 0) := by
  unfold pr; rw [show 0 + l.length - 1 = l.length - 1 from by omega, Nat.mod_eq_of_lt (by omega)]

/-- All coordinates are small. -/
def Small (l : List (Int × Int)) : Prop := ∀ p ∈ l, 0 ≤ p.1 ∧ p.1 ≤ 32 ∧ 0 ≤ p.2 ∧ p.2 ≤ 32
theorem Small.at {l : List (Int × Int)} (h : Small l) (k : Nat) : 0 ≤ (l.getD k (0, 0)).1 ∧ (l.getD k (0, 0)).1 ≤ 32 ∧ 0 ≤ (l.getD k (0, 0)).2 ∧ (l.getD k (0, 0)).2 ≤ 32 := by
  rw [List.getD_eq_getElem?_getD]
  cases e : l[k]? with
  | none => simp
  | some p => exact h p (List.mem_of_getElem? e)
theorem mul_small {a b : Int} (a0 : 0 ≤ a) (a1 : a ≤ 32) (b0 : 0 ≤ b) (b1 : b ≤ 32) : 0 ≤ a * b ∧ a * b ≤ 1024 :=
  ⟨Int.mul_nonneg a0 b0, Int.le_trans (Int.mul_le_mul_of_nonneg_right a1 b0) (by omega)⟩
theorem cross_small {p q : Int × Int} (hp : 0 ≤ p.1 ∧ p.1 ≤ 32 ∧ 0 ≤ p.2 ∧ p.2 ≤ 32) (hq : 0 ≤ q.1 ∧ q.1 ≤ 32 ∧ 0 ≤ q.2 ∧ q.2 ≤ 32) : -1024 ≤ cross p q ∧ cross p q ≤ 1024 := by
  have a := mul_small hp.2.2.1 hp.2.2.2 hq.1 hq.2.1
  have b := mul_small hp.1 hp.2.1 hq.2.2.1 hq.2.2.2
  unfold cross; omega
theorem tsum_small {l : List (Int × Int)} (h : Small l) (k : Nat) : -1024 * (k : Int) ≤ tsum l k ∧ tsum l k ≤ 1024 * (k : Int) := by
  induction k with
  | zero => simp [tsum]
  | succ k ih =>
    have := cross_small (h.at ((k + l.length - 1) % l.length)) (h.at k)
    have e : tsum l (k + 1) = tsum l k + cross (l.getD ((k + l.length - 1) % l.length) (0, 0)) (l.getD k (0, 0)) := rfl
    rw [e]
    omega
theorem fsum_small {l : List (Int × Int)} (h : Small l) (k : Nat) : -1024 * (k : Int) ≤ fsum l k ∧ fsum l k ≤ 1024 * (k : Int) := by
  induction k with
  | zero => simp [fsum]
  | succ k ih =>
    have := cross_small (h.at k) (h.at ((k + 1) % l.length))
    have e : fsum l (k + 1) = fsum l k + cross (l.getD k (0, 0)) (l.getD ((k + 1) % l.length) (0, 0)) := rfl
    rw [e]
    omega
end Go.Proofs.Ytljfiefobnncaaa.Qm
