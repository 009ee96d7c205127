/- Lines and the middles of pixels: to the right of one, above one, through one. Nothing of the program stands here. -/
import Derived.Test.YtljfiefobnncaaaQe
namespace Go.Proofs.Ytljfiefobnncaaa.Qm

/-- Does the line pass at the height of row y? -/
def reaB (p q : Int × Int) (y : Int) : Bool := decide (p.2 ≤ y) != decide (q.2 ≤ y)
def farZ (p q : Int × Int) (x y : Int) : Int := (2 * (p.1 - x) - 1) * (q.2 - p.2) + (2 * (y - p.2) + 1) * (q.1 - p.1)
/-- How far to the right of the middle. -/
def rtZ (p q : Int × Int) (x y : Int) : Int := if q.2 < p.2 then -farZ p q x y else farZ p q x y
/-- What a line adds to the winding number. -/
def wdZ (p q : Int × Int) (x y : Int) : Int := if reaB p q y = false ∨ rtZ p q x y ≤ 0 then 0 else if q.2 < p.2 then 1 else -1
/-- Does it go through the middle? -/
def thB (p q : Int × Int) (x y : Int) : Bool := reaB p q y && decide (rtZ p q x y = 0)

def crZ (p q : Int × Int) (x y : Int) : Int := (2 * (p.1 - x) - 1) * (2 * (q.2 - y) - 1) - (2 * (p.2 - y) - 1) * (2 * (q.1 - x) - 1)
def dtZ (p q : Int × Int) (x y : Int) : Int := (2 * (p.1 - x) - 1) * (2 * (q.1 - x) - 1) + (2 * (p.2 - y) - 1) * (2 * (q.2 - y) - 1)
/-- The same, as the document's answer asks it. -/
def thR (p q : Int × Int) (x y : Int) : Bool := decide (crZ p q x y = 0) && decide (dtZ p q x y ≤ 0)
/-- What a line adds, counted above the middle. -/
def abZ (p q : Int × Int) (x y : Int) : Int := if 2 * (p.1 - x) - 1 < 0 ∧ 0 < 2 * (q.1 - x) - 1 ∧ 0 < crZ p q x y then -1 else if 0 < 2 * (p.1 - x) - 1 ∧ 2 * (q.1 - x) - 1 < 0 ∧ crZ p q x y < 0 then 1 else 0

theorem cr_far (p q : Int × Int) (x y : Int) : crZ p q x y = 2 * farZ p q x y := by
  unfold crZ farZ; grind

/-- Signs of a product. -/
theorem sgn_mul {a b : Int} (ha : a ≠ 0) (hb : b ≠ 0) : (0 < a ∧ 0 < b ∧ 0 < a * b) ∨ (a < 0 ∧ b < 0 ∧ 0 < a * b) ∨ (0 < a ∧ b < 0 ∧ a * b < 0) ∨ (a < 0 ∧ 0 < b ∧ a * b < 0) := by
  rcases Int.lt_or_gt_of_ne ha with h | h <;> rcases Int.lt_or_gt_of_ne hb with k | k
  · exact .inr (.inl ⟨h, k, Int.mul_pos_of_neg_of_neg h k⟩)
  · exact .inr (.inr (.inr ⟨h, k, Int.mul_neg_of_neg_of_pos h k⟩))
  · exact .inr (.inr (.inl ⟨h, k, Int.mul_neg_of_pos_of_neg h k⟩))
  · exact .inl ⟨h, k, Int.mul_pos h k⟩

/-- The quadrant between the two rays. -/
def qd (x y : Int) (p : Int × Int) : Int := if x < p.1 ∧ p.2 ≤ y then 1 else 0

/-- What the four signs give. -/
theorem cr_signs (p q : Int × Int) (x y : Int) :
    ∃ A B C D : Int, crZ p q x y = A - B ∧ dtZ p q x y = C + D ∧ 2 * farZ p q x y = A - B ∧
      ((x < p.1 ∧ y < q.2 ∧ 0 < A) ∨ (p.1 ≤ x ∧ q.2 ≤ y ∧ 0 < A) ∨ (x < p.1 ∧ q.2 ≤ y ∧ A < 0) ∨ (p.1 ≤ x ∧ y < q.2 ∧ A < 0)) ∧
      ((y < p.2 ∧ x < q.1 ∧ 0 < B) ∨ (p.2 ≤ y ∧ q.1 ≤ x ∧ 0 < B) ∨ (y < p.2 ∧ q.1 ≤ x ∧ B < 0) ∨ (p.2 ≤ y ∧ x < q.1 ∧ B < 0)) ∧
      ((x < p.1 ∧ x < q.1 ∧ 0 < C) ∨ (p.1 ≤ x ∧ q.1 ≤ x ∧ 0 < C) ∨ (x < p.1 ∧ q.1 ≤ x ∧ C < 0) ∨ (p.1 ≤ x ∧ x < q.1 ∧ C < 0)) ∧
      ((y < p.2 ∧ y < q.2 ∧ 0 < D) ∨ (p.2 ≤ y ∧ q.2 ≤ y ∧ 0 < D) ∨ (y < p.2 ∧ q.2 ≤ y ∧ D < 0) ∨ (p.2 ≤ y ∧ y < q.2 ∧ D < 0)) := by
  refine ⟨_, _, _, _, rfl, rfl, (cr_far p q x y).symm, ?_, ?_, ?_, ?_⟩
  · have := sgn_mul (a := 2 * (p.1 - x) - 1) (b := 2 * (q.2 - y) - 1) (by omega) (by omega); omega
  · have := sgn_mul (a := 2 * (p.2 - y) - 1) (b := 2 * (q.1 - x) - 1) (by omega) (by omega); omega
  · have := sgn_mul (a := 2 * (p.1 - x) - 1) (b := 2 * (q.1 - x) - 1) (by omega) (by omega); omega
  · have := sgn_mul (a := 2 * (p.2 - y) - 1) (b := 2 * (q.2 - y) - 1) (by omega) (by omega); omega

theorem reaB_iff (p q : Int × Int) (y : Int) : reaB p q y = true ↔ (p.2 ≤ y ∧ y < q.2) ∨ (q.2 ≤ y ∧ y < p.2) := by
  unfold reaB
  by_cases h1 : p.2 ≤ y <;> by_cases h2 : q.2 ≤ y <;> simp [h1, h2] <;> omega
theorem thB_iff (p q : Int × Int) (x y : Int) : thB p q x y = true ↔ ((p.2 ≤ y ∧ y < q.2) ∨ (q.2 ≤ y ∧ y < p.2)) ∧ farZ p q x y = 0 := by
  unfold thB
  rw [Bool.and_eq_true, reaB_iff, decide_eq_true_eq]
  unfold rtZ
  split <;> omega
theorem thR_iff (p q : Int × Int) (x y : Int) : thR p q x y = true ↔ crZ p q x y = 0 ∧ dtZ p q x y ≤ 0 := by
  unfold thR
  rw [Bool.and_eq_true, decide_eq_true_eq, decide_eq_true_eq]
/-- Both ask the same. -/
theorem th_same (p q : Int × Int) (x y : Int) : thR p q x y = thB p q x y := by
  obtain ⟨A, B, C, D, h1, h2, h3, hA, hB, hC, hD⟩ := cr_signs p q x y
  have e : thR p q x y = true ↔ thB p q x y = true := by
    rw [thR_iff, thB_iff, h1, h2]
    omega
  cases a : thR p q x y <;> cases b : thB p q x y <;> simp_all
theorem wdZ_eq (p q : Int × Int) (x y : Int) : wdZ p q x y = if q.2 ≤ y ∧ y < p.2 ∧ farZ p q x y < 0 then 1 else if p.2 ≤ y ∧ y < q.2 ∧ 0 < farZ p q x y then -1 else 0 := by
  have r := reaB_iff p q y
  unfold wdZ
  cases hr : reaB p q y
  · rw [hr] at r
    simp at r
    rw [if_pos (.inl rfl), if_neg (by omega), if_neg (by omega)]
  · rw [hr] at r
    have r2 := r.1 rfl
    unfold rtZ
    simp only [Bool.true_eq_false, false_or]
    repeat' split <;> try omega
/-- Above and to the right differ by where the line begins and ends. -/
theorem ab_wd (p q : Int × Int) (x y : Int) (h : thB p q x y = false) : abZ p q x y - wdZ p q x y = qd x y p - qd x y q := by
  obtain ⟨A, B, C, D, h1, _, h3, hA, hB, _, _⟩ := cr_signs p q x y
  have nt : ¬ (((p.2 ≤ y ∧ y < q.2) ∨ (q.2 ≤ y ∧ y < p.2)) ∧ farZ p q x y = 0) := fun hh => by rw [(thB_iff p q x y).2 hh] at h; simp at h
  rw [wdZ_eq]
  unfold abZ qd
  rw [h1]
  repeat' split <;> try omega
end Go.Proofs.Ytljfiefobnncaaa.Qm
