import Derived.Test.YtljfiefobnncaabDoorK01
import Derived.Test.YtljfiefobnncaabDoorRows
import Derived.WalkKit
import Derived.WalkSpells
import Derived.WalkLawsBesides
import Derived.Handy
import Derived.Deep.QuietTactic
import Derived.BigQuiet
import Derived.Deep.RegionHeld3
import Derived.Deep.DrawnRows

/- What is taken: a row of marks, and the cycles that it stands for. Nothing of the program stands here. -/
namespace Go.Proofs.YtljfiefobnncaabDoor.Qm

/-- How many of the first n marks are not set. -/
def cntF (T : Nat → Bool) : Nat → Nat
  | 0 => 0
  | n + 1 => cntF T n + if T n then 0 else 1
theorem cntF_le (T : Nat → Bool) (n : Nat) : cntF T n ≤ n := by
  induction n with
  | zero => exact Nat.le_refl _
  | succ n ih => unfold cntF; split <;> omega
def mark (T : Nat → Bool) (c : Nat) (n : Nat) : Bool := T n || n == c
theorem cntF_mark_past (T : Nat → Bool) (c : Nat) : ∀ n, n ≤ c → cntF (mark T c) n = cntF T n
  | 0, _ => rfl
  | n + 1, h => by
    unfold cntF
    rw [cntF_mark_past T c n (by omega)]
    have : mark T c n = T n := by unfold mark; rw [show (n == c) = false from by simp; omega]; simp
    rw [this]
theorem cntF_mark (T : Nat → Bool) (c : Nat) (hc : T c = false) : ∀ n, c < n → cntF (mark T c) n + 1 = cntF T n
  | 0, h => absurd h (Nat.not_lt_zero _)
  | n + 1, h => by
    unfold cntF
    rcases Nat.lt_or_ge c n with h1 | h1
    · have : mark T c n = T n := by unfold mark; rw [show (n == c) = false from by simp; omega]; simp
      rw [this]
      have := cntF_mark T c hc n h1
      omega
    · obtain rfl : n = c := by omega
      rw [cntF_mark_past T n n (Nat.le_refl _), hc]
      simp [mark]

/-- The marks stand for what lies on the cycles. -/
def Rep (bl : Int → Int → Bool) (f : Sd → Sd) (T : Nat → Bool) (R : List (Sd × Nat)) : Prop := ∀ t, isS bl t = true → (T (codeS t).toNat = true ↔ Tk f R t)
/-- .. and for what lies on the first m sides from s. -/
def RepM (bl : Int → Int → Bool) (f : Sd → Sd) (T : Nat → Bool) (R : List (Sd × Nat)) (s : Sd) (m : Nat) : Prop := ∀ t, isS bl t = true → (T (codeS t).toNat = true ↔ Tk f R t ∨ ∃ i, i < m ∧ t = it f i s)

theorem Rep.zero {bl : Int → Int → Bool} {f : Sd → Sd} {T : Nat → Bool} {R : List (Sd × Nat)} (h : Rep bl f T R) (s : Sd) : RepM bl f T R s 0 := fun t ht => by
  rw [h t ht]; constructor
  · exact .inl
  · rintro (h | ⟨i, hi, _⟩)
    · exact h
    · omega

section
variable {bl : Int → Int → Bool} {W H : Int} {f : Sd → Sd} {T : Nat → Bool} {R : List (Sd × Nat)} {s : Sd} {m : Nat}

theorem RepM.succ (hp : Pic bl W H) (h : RepM bl f T R s m) (hs : isS bl (it f m s) = true) : RepM bl f (mark T (codeS (it f m s)).toNat) R s (m + 1) := fun t ht => by
  unfold mark
  rw [Bool.or_eq_true, h t ht, beq_iff_eq]
  constructor
  · rintro ((h | ⟨i, hi, e⟩) | e)
    · exact .inl h
    · exact .inr ⟨i, by omega, e⟩
    · refine .inr ⟨m, by omega, code_inj hp ht hs ?_⟩
      have := code_in hp ht; have := code_in hp hs; omega
  · rintro (h | ⟨i, hi, e⟩)
    · exact .inl (.inl h)
    · rcases Nat.lt_or_ge i m with h1 | h1
      · exact .inl (.inr ⟨i, h1, e⟩)
      · obtain rfl : i = m := by omega
        exact .inr (by rw [e])

theorem RepM.free (h : RepM bl f T R s m) (hs : isS bl (it f m s) = true) (hT : T (codeS (it f m s)).toNat = false) : ¬ Tk f R (it f m s) ∧ ∀ i, i < m → it f i s ≠ it f m s := by
  have : ¬ (Tk f R (it f m s) ∨ ∃ i, i < m ∧ it f m s = it f i s) := fun hh => absurd ((h _ hs).2 hh) (by rw [hT]; simp)
  exact ⟨fun hh => this (.inl hh), fun i hi e => this (.inr ⟨i, hi, e.symm⟩)⟩

/-- A whole cycle more. -/
theorem RepM.whole (h : RepM bl f T R s m) : Rep bl f T (R ++ [(s, m)]) := fun t ht => by
  rw [h t ht]
  constructor
  · rintro (⟨c, hc, i, hi, e⟩ | ⟨i, hi, e⟩)
    · exact ⟨c, List.mem_append_left _ hc, i, hi, e⟩
    · exact ⟨(s, m), by simp, i, hi, e⟩
  · rintro ⟨c, hc, i, hi, e⟩
    rcases List.mem_append.1 hc with hc | hc
    · exact .inl ⟨c, hc, i, hi, e⟩
    · rw [List.mem_singleton] at hc; subst hc; exact .inr ⟨i, hi, e⟩
end

/-- The cells of a row of points. -/
def ptV (p : Int × Int) : List Value := [.int .i64 p.1, .int .i64 p.2]
def ptsV (l : List (Int × Int)) : List Value := l.flatMap ptV
theorem ptsV_snoc (l : List (Int × Int)) (p : Int × Int) : ptsV (l ++ [p]) = ptsV l ++ ptV p := by simp [ptsV]
theorem ptsV_len (l : List (Int × Int)) : (ptsV l).length = l.length * 2 := by
  induction l with
  | nil => rfl
  | cons p l ih => simp only [ptsV, List.flatMap_cons, List.length_append] at *; rw [ih]; simp [ptV]; omega
theorem ptsOf_succ (f : Sd → Sd) (s : Sd) (m : Nat) : ptsOf f (s, m + 1) = ptsOf f (s, m) ++ [fromP (it f m s)] := by simp [ptsOf, List.range_succ]
theorem ptsOf_len (f : Sd → Sd) (c : Sd × Nat) : (ptsOf f c).length = c.2 := by simp [ptsOf]
end Go.Proofs.YtljfiefobnncaabDoor.Qm

/- Twice the area, from either end. Nothing of the program stands here. -/
namespace Go.Proofs.YtljfiefobnncaabDoor.Qm

/-- The point ahead of point k, round and round. -/
def pr (l : List (Int × Int)) (k : Nat) : Int × Int := l.getD ((k + l.length - 1) % l.length) (0, 0)
/-- The first k lines' share, each line counted where it ends. -/
def tsum (l : List (Int × Int)) : Nat → Int
  | 0 => 0
  | k + 1 => tsum l k + cross (pr l k) (l.getD k (0, 0))
/-- .. each counted where it begins. -/
def fsum (l : List (Int × Int)) : Nat → Int
  | 0 => 0
  | k + 1 => fsum l k + cross (l.getD k (0, 0)) (l.getD ((k + 1) % l.length) (0, 0))

theorem fsum_eq (l : List (Int × Int)) (k : Nat) : fsum l k = ((List.range k).map fun i => cross (l.getD i (0, 0)) (l.getD ((i + 1) % l.length) (0, 0))).sum := by
  induction k with
  | zero => rfl
  | succ k ih => simp only [fsum, ih, List.range_succ, List.map_append, List.sum_append, List.map_cons, List.map_nil, List.sum_cons, List.sum_nil]; omega
theorem twiceOf_fsum (l : List (Int × Int)) : twiceOf l = fsum l l.length := (fsum_eq l l.length).symm

theorem tsum_fsum (l : List (Int × Int)) (k : Nat) (hk : k < l.length) : tsum l (k + 1) = fsum l k + cross (pr l 0) (l.getD 0 (0, 0)) := by
  induction k with
  | zero => simp [tsum, fsum]
  | succ k ih =>
    rw [tsum, ih (by omega), fsum]
    have e1 : pr l (k + 1) = l.getD k (0, 0) := by
      unfold pr
      rw [show k + 1 + l.length - 1 = k + l.length from by omega, Nat.add_mod_right, Nat.mod_eq_of_lt (by omega)]
    rw [e1, Nat.mod_eq_of_lt (show k + 1 < l.length from hk)]
    omega
theorem tsum_all (l : List (Int × Int)) (h : 0 < l.length) : tsum l l.length = twiceOf l := by
  obtain ⟨n, hn⟩ : ∃ n, l.length = n + 1 := ⟨l.length - 1, by omega⟩
  rw [twiceOf_fsum, hn, tsum_fsum l n (by omega), fsum]
  have e : pr l 0 = l.getD n (0, 0) := by unfold pr; rw [hn, show 0 + (n + 1) - 1 = n from by omega, Nat.mod_eq_of_lt (by omega)]
  rw [e, hn, Nat.mod_self]
theorem pr_succ (l : List (Int × Int)) (k : Nat) (hk : k < l.length) : pr l (k + 1) = l.getD k (0, 0) := by
  unfold pr
  rw [show k + 1 + l.length - 1 = k + l.length from by omega, Nat.add_mod_right, Nat.mod_eq_of_lt hk]
theorem pr_zero (l : List (Int × Int)) (h : 0 < l.length) : pr l 0 = l.getD (l.length - 1) (0, 0) := by
  unfold pr; rw [show 0 + l.length - 1 = l.length - 1 from by omega, Nat.mod_eq_of_lt (by omega)]

/-- All coordinates are small. -/
def Small (l : List (Int × Int)) : Prop := ∀ p ∈ l, 0 ≤ p.1 ∧ p.1 ≤ 32 ∧ 0 ≤ p.2 ∧ p.2 ≤ 32
theorem Small.at {l : List (Int × Int)} (h : Small l) (k : Nat) : 0 ≤ (l.getD k (0, 0)).1 ∧ (l.getD k (0, 0)).1 ≤ 32 ∧ 0 ≤ (l.getD k (0, 0)).2 ∧ (l.getD k (0, 0)).2 ≤ 32 := by
  rw [List.getD_eq_getElem?_getD]
  cases e : l[k]? with
  | none => simp
  | some p => exact h p (List.mem_of_getElem? e)
theorem mul_small {a b : Int} (a0 : 0 ≤ a) (a1 : a ≤ 32) (b0 : 0 ≤ b) (b1 : b ≤ 32) : 0 ≤ a * b ∧ a * b ≤ 1024 :=
  ⟨Int.mul_nonneg a0 b0, Int.le_trans (Int.mul_le_mul_of_nonneg_right a1 b0) (by omega)⟩
theorem cross_small {p q : Int × Int} (hp : 0 ≤ p.1 ∧ p.1 ≤ 32 ∧ 0 ≤ p.2 ∧ p.2 ≤ 32) (hq : 0 ≤ q.1 ∧ q.1 ≤ 32 ∧ 0 ≤ q.2 ∧ q.2 ≤ 32) : -1024 ≤ cross p q ∧ cross p q ≤ 1024 := by
  have a := mul_small hp.2.2.1 hp.2.2.2 hq.1 hq.2.1
  have b := mul_small hp.1 hp.2.1 hq.2.2.1 hq.2.2.2
  unfold cross; omega
theorem tsum_small {l : List (Int × Int)} (h : Small l) (k : Nat) : -1024 * (k : Int) ≤ tsum l k ∧ tsum l k ≤ 1024 * (k : Int) := by
  induction k with
  | zero => simp [tsum]
  | succ k ih =>
    have := cross_small (h.at ((k + l.length - 1) % l.length)) (h.at k)
    have e : tsum l (k + 1) = tsum l k + cross (l.getD ((k + l.length - 1) % l.length) (0, 0)) (l.getD k (0, 0)) := rfl
    rw [e]
    omega
theorem fsum_small {l : List (Int × Int)} (h : Small l) (k : Nat) : -1024 * (k : Int) ≤ fsum l k ∧ fsum l k ≤ 1024 * (k : Int) := by
  induction k with
  | zero => simp [fsum]
  | succ k ih =>
    have := cross_small (h.at k) (h.at ((k + 1) % l.length))
    have e : fsum l (k + 1) = fsum l k + cross (l.getD k (0, 0)) (l.getD ((k + 1) % l.length) (0, 0)) := rfl
    rw [e]
    omega
end Go.Proofs.YtljfiefobnncaabDoor.Qm

/- Lines and the middles of pixels: to the right of one, above one, through one. Nothing of the program stands here. -/
namespace Go.Proofs.YtljfiefobnncaabDoor.Qm

/-- Does the line pass at the height of row y? -/
def reaB (p q : Int × Int) (y : Int) : Bool := decide (p.2 ≤ y) != decide (q.2 ≤ y)
def farZ (p q : Int × Int) (x y : Int) : Int := (2 * (p.1 - x) - 1) * (q.2 - p.2) + (2 * (y - p.2) + 1) * (q.1 - p.1)
/-- How far to the right of the middle. -/
def rtZ (p q : Int × Int) (x y : Int) : Int := if q.2 < p.2 then -farZ p q x y else farZ p q x y
/-- What a line adds to the winding number. -/
def wdZ (p q : Int × Int) (x y : Int) : Int := if reaB p q y = false ∨ rtZ p q x y ≤ 0 then 0 else if q.2 < p.2 then 1 else -1
/-- Does it go through the middle? -/
def thB (p q : Int × Int) (x y : Int) : Bool := reaB p q y && decide (rtZ p q x y = 0)

def crZ (p q : Int × Int) (x y : Int) : Int := (2 * (p.1 - x) - 1) * (2 * (q.2 - y) - 1) - (2 * (p.2 - y) - 1) * (2 * (q.1 - x) - 1)
def dtZ (p q : Int × Int) (x y : Int) : Int := (2 * (p.1 - x) - 1) * (2 * (q.1 - x) - 1) + (2 * (p.2 - y) - 1) * (2 * (q.2 - y) - 1)
/-- The same, as the document's answer asks it. -/
def thR (p q : Int × Int) (x y : Int) : Bool := decide (crZ p q x y = 0) && decide (dtZ p q x y ≤ 0)
/-- What a line adds, counted above the middle. -/
def abZ (p q : Int × Int) (x y : Int) : Int := if 2 * (p.1 - x) - 1 < 0 ∧ 0 < 2 * (q.1 - x) - 1 ∧ 0 < crZ p q x y then -1 else if 0 < 2 * (p.1 - x) - 1 ∧ 2 * (q.1 - x) - 1 < 0 ∧ crZ p q x y < 0 then 1 else 0

theorem cr_far (p q : Int × Int) (x y : Int) : crZ p q x y = 2 * farZ p q x y := by
  unfold crZ farZ; grind

/-- Signs of a product. -/
theorem sgn_mul {a b : Int} (ha : a ≠ 0) (hb : b ≠ 0) : (0 < a ∧ 0 < b ∧ 0 < a * b) ∨ (a < 0 ∧ b < 0 ∧ 0 < a * b) ∨ (0 < a ∧ b < 0 ∧ a * b < 0) ∨ (a < 0 ∧ 0 < b ∧ a * b < 0) := by
  rcases Int.lt_or_gt_of_ne ha with h | h <;> rcases Int.lt_or_gt_of_ne hb with k | k
  · exact .inr (.inl ⟨h, k, Int.mul_pos_of_neg_of_neg h k⟩)
  · exact .inr (.inr (.inr ⟨h, k, Int.mul_neg_of_neg_of_pos h k⟩))
  · exact .inr (.inr (.inl ⟨h, k, Int.mul_neg_of_pos_of_neg h k⟩))
  · exact .inl ⟨h, k, Int.mul_pos h k⟩

/-- The quadrant between the two rays. -/
def qd (x y : Int) (p : Int × Int) : Int := if x < p.1 ∧ p.2 ≤ y then 1 else 0

/-- What the four signs give. -/
theorem cr_signs (p q : Int × Int) (x y : Int) :
    ∃ A B C D : Int, crZ p q x y = A - B ∧ dtZ p q x y = C + D ∧ 2 * farZ p q x y = A - B ∧
      ((x < p.1 ∧ y < q.2 ∧ 0 < A) ∨ (p.1 ≤ x ∧ q.2 ≤ y ∧ 0 < A) ∨ (x < p.1 ∧ q.2 ≤ y ∧ A < 0) ∨ (p.1 ≤ x ∧ y < q.2 ∧ A < 0)) ∧
      ((y < p.2 ∧ x < q.1 ∧ 0 < B) ∨ (p.2 ≤ y ∧ q.1 ≤ x ∧ 0 < B) ∨ (y < p.2 ∧ q.1 ≤ x ∧ B < 0) ∨ (p.2 ≤ y ∧ x < q.1 ∧ B < 0)) ∧
      ((x < p.1 ∧ x < q.1 ∧ 0 < C) ∨ (p.1 ≤ x ∧ q.1 ≤ x ∧ 0 < C) ∨ (x < p.1 ∧ q.1 ≤ x ∧ C < 0) ∨ (p.1 ≤ x ∧ x < q.1 ∧ C < 0)) ∧
      ((y < p.2 ∧ y < q.2 ∧ 0 < D) ∨ (p.2 ≤ y ∧ q.2 ≤ y ∧ 0 < D) ∨ (y < p.2 ∧ q.2 ≤ y ∧ D < 0) ∨ (p.2 ≤ y ∧ y < q.2 ∧ D < 0)) := by
  refine ⟨_, _, _, _, rfl, rfl, (cr_far p q x y).symm, ?_, ?_, ?_, ?_⟩
  · have := sgn_mul (a := 2 * (p.1 - x) - 1) (b := 2 * (q.2 - y) - 1) (by omega) (by omega); omega
  · have := sgn_mul (a := 2 * (p.2 - y) - 1) (b := 2 * (q.1 - x) - 1) (by omega) (by omega); omega
  · have := sgn_mul (a := 2 * (p.1 - x) - 1) (b := 2 * (q.1 - x) - 1) (by omega) (by omega); omega
  · have := sgn_mul (a := 2 * (p.2 - y) - 1) (b := 2 * (q.2 - y) - 1) (by omega) (by omega); omega

theorem reaB_iff (p q : Int × Int) (y : Int) : reaB p q y = true ↔ (p.2 ≤ y ∧ y < q.2) ∨ (q.2 ≤ y ∧ y < p.2) := by
  unfold reaB
  by_cases h1 : p.2 ≤ y <;> by_cases h2 : q.2 ≤ y <;> simp [h1, h2] <;> omega
theorem thB_iff (p q : Int × Int) (x y : Int) : thB p q x y = true ↔ ((p.2 ≤ y ∧ y < q.2) ∨ (q.2 ≤ y ∧ y < p.2)) ∧ farZ p q x y = 0 := by
  unfold thB
  rw [Bool.and_eq_true, reaB_iff, decide_eq_true_eq]
  unfold rtZ
  split <;> omega
theorem thR_iff (p q : Int × Int) (x y : Int) : thR p q x y = true ↔ crZ p q x y = 0 ∧ dtZ p q x y ≤ 0 := by
  unfold thR
  rw [Bool.and_eq_true, decide_eq_true_eq, decide_eq_true_eq]
/-- Both ask the same. -/
theorem th_same (p q : Int × Int) (x y : Int) : thR p q x y = thB p q x y := by
  obtain ⟨A, B, C, D, h1, h2, h3, hA, hB, hC, hD⟩ := cr_signs p q x y
  have e : thR p q x y = true ↔ thB p q x y = true := by
    rw [thR_iff, thB_iff, h1, h2]
    omega
  cases a : thR p q x y <;> cases b : thB p q x y <;> simp_all
theorem wdZ_eq (p q : Int × Int) (x y : Int) : wdZ p q x y = if q.2 ≤ y ∧ y < p.2 ∧ farZ p q x y < 0 then 1 else if p.2 ≤ y ∧ y < q.2 ∧ 0 < farZ p q x y then -1 else 0 := by
  have r := reaB_iff p q y
  unfold wdZ
  cases hr : reaB p q y
  · rw [hr] at r
    simp at r
    rw [if_pos (.inl rfl), if_neg (by omega), if_neg (by omega)]
  · rw [hr] at r
    have r2 := r.1 rfl
    unfold rtZ
    simp only [Bool.true_eq_false, false_or]
    repeat' split <;> try omega
/-- Above and to the right differ by where the line begins and ends. -/
theorem ab_wd (p q : Int × Int) (x y : Int) (h : thB p q x y = false) : abZ p q x y - wdZ p q x y = qd x y p - qd x y q := by
  obtain ⟨A, B, C, D, h1, _, h3, hA, hB, _, _⟩ := cr_signs p q x y
  have nt : ¬ (((p.2 ≤ y ∧ y < q.2) ∨ (q.2 ≤ y ∧ y < p.2)) ∧ farZ p q x y = 0) := fun hh => by rw [(thB_iff p q x y).2 hh] at h; simp at h
  rw [wdZ_eq]
  unfold abZ qd
  rw [h1]
  repeat' split <;> try omega
end Go.Proofs.YtljfiefobnncaabDoor.Qm

/- The polygon of a cycle as the program finds it, as functions. Nothing of the program stands here. -/
namespace Go.Proofs.YtljfiefobnncaabDoor.Qm

abbrev Pt : Type := Int × Int
/-- lines, cost, span. -/
abbrev Rw : Type := Int × Int × Int

theorem wdZ_in (p q : Pt) (x y : Int) : -1 ≤ wdZ p q x y ∧ wdZ p q x y ≤ 1 := by
  unfold wdZ; split
  · omega
  · split <;> omega
/-- The winding number, line by line. -/
def wsum (l : List Pt) (x y : Int) : Nat → Int
  | 0 => 0
  | k + 1 => wsum l x y k + wdZ (pr l k) (l.getD k (0, 0)) x y
theorem wsum_in (l : List Pt) (x y : Int) (k : Nat) : -(k : Int) ≤ wsum l x y k ∧ wsum l x y k ≤ k := by
  induction k with
  | zero => simp [wsum]
  | succ k ih => have := wdZ_in (pr l k) (l.getD k (0, 0)) x y; simp only [wsum]; omega
/-- The least and the greatest of the first k. -/
def loF (g : Pt → Int) (l : List Pt) : Nat → Int
  | 0 => g (l.getD 0 (0, 0))
  | k + 1 => if g (l.getD k (0, 0)) < loF g l k then g (l.getD k (0, 0)) else loF g l k
def hiF (g : Pt → Int) (l : List Pt) : Nat → Int
  | 0 => g (l.getD 0 (0, 0))
  | k + 1 => if hiF g l k < g (l.getD k (0, 0)) then g (l.getD k (0, 0)) else hiF g l k
theorem loF_one (g : Pt → Int) (l : List Pt) : loF g l 1 = g (l.getD 0 (0, 0)) := by simp [loF]
theorem hiF_one (g : Pt → Int) (l : List Pt) : hiF g l 1 = g (l.getD 0 (0, 0)) := by simp [hiF]
theorem loF_le (g : Pt → Int) (l : List Pt) : ∀ k i, i < k → loF g l k ≤ g (l.getD i (0, 0))
  | 0, _, h => absurd h (Nat.not_lt_zero _)
  | k + 1, i, h => by
    rcases Nat.lt_or_ge i k with h1 | h1
    · have := loF_le g l k i h1
      simp only [loF]; split <;> omega
    · obtain rfl : i = k := by omega
      simp only [loF]; split <;> omega
theorem le_hiF (g : Pt → Int) (l : List Pt) : ∀ k i, i < k → g (l.getD i (0, 0)) ≤ hiF g l k
  | 0, _, h => absurd h (Nat.not_lt_zero _)
  | k + 1, i, h => by
    rcases Nat.lt_or_ge i k with h1 | h1
    · have := le_hiF g l k i h1
      simp only [hiF]; split <;> omega
    · obtain rfl : i = k := by omega
      simp only [hiF]; split <;> omega
theorem loF_at (g : Pt → Int) (l : List Pt) : ∀ k, ∃ i, (i < k ∨ i = 0) ∧ loF g l k = g (l.getD i (0, 0))
  | 0 => ⟨0, .inr rfl, rfl⟩
  | k + 1 => by
    obtain ⟨i, hi, e⟩ := loF_at g l k
    simp only [loF]
    split
    · exact ⟨k, .inl (by omega), rfl⟩
    · exact ⟨i, by omega, e⟩
theorem hiF_at (g : Pt → Int) (l : List Pt) : ∀ k, ∃ i, (i < k ∨ i = 0) ∧ hiF g l k = g (l.getD i (0, 0))
  | 0 => ⟨0, .inr rfl, rfl⟩
  | k + 1 => by
    obtain ⟨i, hi, e⟩ := hiF_at g l k
    simp only [hiF]
    split
    · exact ⟨k, .inl (by omega), rfl⟩
    · exact ⟨i, by omega, e⟩
theorem loF_in {l : List Pt} (h : Small l) (k : Nat) : (0 ≤ loF Prod.fst l k ∧ loF Prod.fst l k ≤ 32) ∧ (0 ≤ loF Prod.snd l k ∧ loF Prod.snd l k ≤ 32) := by
  obtain ⟨i, _, e⟩ := loF_at Prod.fst l k
  obtain ⟨j, _, e2⟩ := loF_at Prod.snd l k
  have a := h.at i
  have b := h.at j
  rw [e, e2]; omega
theorem hiF_in {l : List Pt} (h : Small l) (k : Nat) : (0 ≤ hiF Prod.fst l k ∧ hiF Prod.fst l k ≤ 32) ∧ (0 ≤ hiF Prod.snd l k ∧ hiF Prod.snd l k ≤ 32) := by
  obtain ⟨i, _, e⟩ := hiF_at Prod.fst l k
  obtain ⟨j, _, e2⟩ := hiF_at Prod.snd l k
  have a := h.at i
  have b := h.at j
  rw [e, e2]; omega

def fstP (l : List Pt) : Pt := l.getD 0 (0, 0)
def lstP (l : List Pt) : Pt := l.getD (l.length - 1) (0, 0)
/-- Is all well at the middle of (x, y)? -/
def okAt (l : List Pt) (x y : Int) : Bool := !thB (lstP l) (fstP l) x y && decide (wsum l x y l.length = 0)
/-- May one line stand for the points? -/
def fitB (l : List Pt) : Bool :=
  (List.range (hiF Prod.snd l l.length - loF Prod.snd l l.length).toNat).all fun j => (List.range (hiF Prod.fst l l.length - loF Prod.fst l l.length).toNat).all fun i =>
    okAt l (loF Prod.fst l l.length + (i : Nat)) (loF Prod.snd l l.length + (j : Nat))
theorem fitB_iff (l : List Pt) : fitB l = true ↔ ∀ x y, loF Prod.fst l l.length ≤ x → x < hiF Prod.fst l l.length → loF Prod.snd l l.length ≤ y → y < hiF Prod.snd l l.length → okAt l x y = true := by
  unfold fitB
  simp only [List.all_eq_true, List.mem_range]
  constructor
  · intro h x y x0 x1 y0 y1
    have := h (y - loF Prod.snd l l.length).toNat (by omega) (x - loF Prod.fst l l.length).toNat (by omega)
    rwa [show loF Prod.fst l l.length + ((x - loF Prod.fst l l.length).toNat : Int) = x from by omega, show loF Prod.snd l l.length + ((y - loF Prod.snd l l.length).toNat : Int) = y from by omega] at this
  · intro h j hj i hi
    exact h _ _ (by omega) (by omega) (by omega) (by omega)

/-- How far p is off the line from a to z, times its length. -/
def offZ (a z p : Pt) : Int := (z.1 - a.1) * (p.2 - a.2) - (z.2 - a.2) * (p.1 - a.1)
def absZ (n : Int) : Int := if n < 0 then -n else n
def costTo (a z : Pt) (l : List Pt) : Nat → Int
  | 0 => 0
  | k + 1 => costTo a z l k + absZ (offZ a z (l.getD k (0, 0)))
def costOf (l : List Pt) : Int := costTo (fstP l) (lstP l) l l.length

theorem mul_in {a b : Int} (h1 : -32 ≤ a) (h2 : a ≤ 32) (h3 : -32 ≤ b) (h4 : b ≤ 32) : -1024 ≤ a * b ∧ a * b ≤ 1024 := by
  have p : ∀ {u v : Int}, 0 ≤ u → u ≤ 32 → 0 ≤ v → v ≤ 32 → 0 ≤ u * v ∧ u * v ≤ 1024 := fun a b c d => mul_small a b c d
  rcases Int.le_total 0 a with ha | ha <;> rcases Int.le_total 0 b with hb | hb
  · have := p ha h2 hb h4; omega
  · have := p ha h2 (show 0 ≤ -b by omega) (by omega); rw [Int.mul_neg] at this; omega
  · have := p (show 0 ≤ -a by omega) (by omega) hb h4; rw [Int.neg_mul] at this; omega
  · have := p (show 0 ≤ -a by omega) (by omega) (show 0 ≤ -b by omega) (by omega); rw [Int.neg_mul_neg] at this; omega
theorem costTo_in {l : List Pt} (h : Small l) (a z : Pt) (ha : 0 ≤ a.1 ∧ a.1 ≤ 32 ∧ 0 ≤ a.2 ∧ a.2 ≤ 32) (hz : 0 ≤ z.1 ∧ z.1 ≤ 32 ∧ 0 ≤ z.2 ∧ z.2 ≤ 32) (k : Nat) : 0 ≤ costTo a z l k ∧ costTo a z l k ≤ 2048 * k := by
  induction k with
  | zero => simp [costTo]
  | succ k ih =>
    have p := h.at k
    have m1 := mul_in (a := z.1 - a.1) (b := (l.getD k (0, 0)).2 - a.2) (by omega) (by omega) (by omega) (by omega)
    have m2 := mul_in (a := z.2 - a.2) (b := (l.getD k (0, 0)).1 - a.1) (by omega) (by omega) (by omega) (by omega)
    simp only [costTo]
    unfold absZ offZ
    split <;> omega
theorem Small.take {l : List Pt} (h : Small l) (n : Nat) : Small (l.take n) := fun p hp => h p (List.mem_of_mem_take hp)
theorem Small.drop {l : List Pt} (h : Small l) (n : Nat) : Small (l.drop n) := fun p hp => h p (List.mem_of_mem_drop hp)
theorem costOf_in {l : List Pt} (h : Small l) : 0 ≤ costOf l ∧ costOf l ≤ 2048 * l.length := costTo_in h _ _ (h.at _) (h.at _) _

/-- Is a better than b? -/
def betB (a b : Rw) : Bool := decide (a.1 < b.1 ∨ (a.1 = b.1 ∧ a.2.1 < b.2.1))
/-- The best of the rows whose first line stands for up to k sides. -/
def accR (l : List Pt) (B : List Rw) : Nat → Rw
  | 0 => (0, 0, 0)
  | k + 1 =>
    let r := B.getD (B.length - (k + 1)) (0, 0, 0)
    let r' : Rw := (r.1 + 1, r.2.1 + costOf (l.take (k + 2)), (k : Int) + 1)
    if fitB (l.take (k + 2)) && (decide (k = 0) || betB r' (accR l B k)) then r' else accR l B k
/-- How many spans are tried. -/
def spn (n b : Nat) : Nat := min 12 (min (n - 1) b)
/-- The rows from the last m points on, the one from the last point first. -/
def rowsTo (v : List Pt) : Nat → List Rw
  | 0 => []
  | m + 1 => rowsTo v m ++ [accR (v.drop (v.length - 1 - m)) (rowsTo v m) (spn (m + 1) m)]
theorem rowsTo_len (v : List Pt) (m : Nat) : (rowsTo v m).length = m := by
  induction m with
  | zero => rfl
  | succ m ih => simp [rowsTo, ih]
/-- The numbers of the corners ahead of k, and the next one. -/
def cornTo (B : List Rw) : Nat → List Nat × Int
  | 0 => ([], 0)
  | k + 1 => if (k : Int) = (cornTo B k).2 then ((cornTo B k).1 ++ [k], (k : Int) + (B.getD (B.length - 1 - k) (0, 0, 0)).2.2) else cornTo B k
/-- The corners of a cycle. -/
def cornN (c : List Pt) : List Nat := (cornTo (rowsTo (c ++ [fstP c]) (c.length + 1)) c.length).1
def cornL (c : List Pt) : List Pt := (cornN c).map fun i => c.getD i (0, 0)
end Go.Proofs.YtljfiefobnncaabDoor.Qm

/- Walks of the small functions under Read and Write. -/
namespace Go.Proofs.YtljfiefobnncaabDoor
open Go.RowKit

theorem ret_string {a b : ByteArray} (h : a = b) : Ending.returned (.string a) = .returned (.string b) := by rw [h]
theorem ret_bool {a b : Bool} (h : a = b) : Ending.returned (.bool a) = .returned (.bool b) := by rw [h]
theorem ret_int {k : IntKind} {a b : Int} (h : a = b) : Ending.returned (.int k a) = .returned (.int k b) := by rw [h]

set_option maxRecDepth 4000 in
set_option maxHeartbeats 400000 in
theorem isSide_any (n : Int) (w : World) :
    Calls Tryd.prog 43 #[.int .i64 n] w fun e w' => e = .returned (.bool (Pm.sideB n)) ∧ w' = w := by
  by_cases h1 : 1 ≤ n
  · by_cases h2 : n ≤ 32
    · go_enter Tryd.func43, Tryd.ntmps43
      go_wp2
      go_ret
      exact ⟨ret_bool (Pm.sideB_yes h1 h2).symm, rfl⟩
    · go_enter Tryd.func43, Tryd.ntmps43
      go_wp2
      go_ret
      exact ⟨ret_bool (Pm.sideB_high (n := n) (by omega)).symm, rfl⟩
  · go_enter Tryd.func43, Tryd.ntmps43
    go_wp2
    go_ret
    exact ⟨ret_bool (Pm.sideB_low (by omega)).symm, rfl⟩

set_option maxRecDepth 100000 in
set_option maxHeartbeats 400000 in
theorem small_any (n : Nat) (h : n < 33) (w : World) :
    Calls Tryd.prog 68 #[.int .i64 n] w fun e w' => e = .returned (.string ⟨(Pm.itoaL n).toArray⟩) ∧ w' = w := by
  by_cases h1 : n < 10
  · go_enter Tryd.func68, Tryd.ntmps68
    go_wp2
    go_ret
    exact ⟨ret_string (Pm.cut_one n h1), rfl⟩
  · go_enter Tryd.func68, Tryd.ntmps68
    go_wp2
    go_ret
    exact ⟨ret_string (Pm.cut_two' n h (by omega) _ _ (by omega) (by omega)), rfl⟩

set_option maxRecDepth 4000 in
set_option maxHeartbeats 400000 in
theorem formatInt_any (n : Nat) (h : n < 33) (w : World) :
    Calls Tryd.prog 59 #[.int .i64 n, .int .i64 10] w fun e w' => e = .returned (.string ⟨(Pm.itoaL n).toArray⟩) ∧ w' = w := by
  go_enter Tryd.func59, Tryd.ntmps59
  go_wp2_with (go_at_call 68; refine (small_any n h _).mono ?_; rintro e w' ⟨rfl, rfl⟩)
  go_ret
  exact ⟨rfl, rfl⟩

set_option maxRecDepth 4000 in
set_option maxHeartbeats 400000 in
theorem itoa_any (n : Nat) (h : n < 33) (w : World) :
    Calls Tryd.prog 41 #[.int .i64 n] w fun e w' => e = .returned (.string ⟨(Pm.itoaL n).toArray⟩) ∧ w' = w := by
  go_enter Tryd.func41, Tryd.ntmps41
  go_wp2_with (first | (go_at_call 59; refine (formatInt_any n h _).mono ?_; rintro e w' ⟨rfl, rfl⟩) | go_in)
  go_ret
  exact ⟨rfl, rfl⟩

end Go.Proofs.YtljfiefobnncaabDoor

/- packByte, packRow. -/
namespace Go.Proofs.YtljfiefobnncaabDoor
open Go.RowKit



theorem infoByte : (Tryd.prog.info? 5).map (fun i => (i.zero, i.size, i.bytes)) = some (some (.int .u8 0), 1, 1) := by kernel_rfl
def cellsOf (l : List UInt8) : List Value := l.map fun b => .int .u8 b.toNat
theorem cellsOf_snoc (l : List UInt8) (b : UInt8) : cellsOf (l ++ [b]) = cellsOf l ++ [.int .u8 b.toNat] := by simp [cellsOf]
theorem hid {p : Prop} (h : p) : Hid p := h

end Go.Proofs.YtljfiefobnncaabDoor
/- bitmap.IsBlack, and the small functions of package cycles. -/
namespace Go.Proofs.YtljfiefobnncaabDoor
open Go.RowKit

set_option maxRecDepth 4000 in
set_option maxHeartbeats 1000000 in
theorem isBlack_any (W H : Nat) (s : ByteArray) (x y : Int) (w : World) (hw2 : W ≤ 32) (hh2 : H ≤ 32) (hl : s.size = W * H) :
    Calls Tryd.prog 62 #[.agg #[.int .i64 W, .int .i64 H, .string s], .int .i64 x, .int .i64 y] w fun e w' => e = .returned (.bool (Pm.blackB W H s.data.toList x y)) ∧ w' = w.alloc (.cells #[.int .i64 W, .int .i64 H, .string s] 25) := by
  have HL := Hid.out (p := Hid (s.size = W * H)) hl
  clear hl
  by_cases x0 : 0 ≤ x
  · by_cases x1 : x < W
    · by_cases y0 : 0 ≤ y
      · by_cases y1 : y < H
        · obtain ⟨x, rfl⟩ := Int.eq_ofNat_of_zero_le x0
          obtain ⟨y, rfl⟩ := Int.eq_ofNat_of_zero_le y0
          have hx : x < W := by omega
          have hy : y < H := by omega
          have sp := Pm.span W H y hy
          have ar := Pm.area_nat W H hw2 hh2
          obtain ⟨a, ha⟩ : ∃ a, a = y * W := ⟨_, rfl⟩
          have ea : (y : Int) * (W : Int) = (a : Nat) := by rw [ha]; simp
          have hab : a + x < s.size := by have := HL.out; omega
          have hb4 : a + x ≤ 1024 := by omega
          have E := Pm.blackB_in W H s.data.toList x y hx hy a ha
          have HE : Hid _ := E
          have HA : Hid _ := ha
          clear E ha sp ar
          by_cases q : (s[a + x].toNat : Int) = 49
          · go_enter Tryd.func62, Tryd.ntmps62
            go_wp2
            go_ret
            exact ⟨ret_bool (by rw [HE.out, Pm.bitAt_yes s _ hab q]), rfl⟩
          · have b0 : ((s[a + x].toNat : Int) == 49) = false := by simpa using q
            go_enter Tryd.func62, Tryd.ntmps62
            go_wp2
            go_ret
            exact ⟨ret_bool (by rw [HE.out, Pm.bitAt_no s _ hab q]), rfl⟩
        · have E := Pm.blackB_out W H s.data.toList x y (by omega)
          have HE : Hid _ := E
          clear E
          go_enter Tryd.func62, Tryd.ntmps62
          go_wp2
          go_ret
          exact ⟨ret_bool HE.out.symm, rfl⟩
      · have E := Pm.blackB_out W H s.data.toList x y (by omega)
        have HE : Hid _ := E
        clear E
        go_enter Tryd.func62, Tryd.ntmps62
        go_wp2
        go_ret
        exact ⟨ret_bool HE.out.symm, rfl⟩
    · have E := Pm.blackB_out W H s.data.toList x y (by omega)
      have HE : Hid _ := E
      clear E
      go_enter Tryd.func62, Tryd.ntmps62
      go_wp2
      go_ret
      exact ⟨ret_bool HE.out.symm, rfl⟩
  · have E := Pm.blackB_out W H s.data.toList x y (by omega)
    have HE : Hid _ := E
    clear E
    go_enter Tryd.func62, Tryd.ntmps62
    go_wp2
    go_ret
    exact ⟨ret_bool HE.out.symm, rfl⟩

set_option maxRecDepth 4000 in
set_option maxHeartbeats 400000 in
theorem leftOf_any (d : Nat) (hd : d < 4) (w : World) :
    Calls Tryd.prog 53 #[.int .i64 d] w fun e w' => e = .returned (.int .i64 ((d + 1) % 4 : Nat)) ∧ w' = w := by
  go_enter Tryd.func53, Tryd.ntmps53
  go_wp2
  go_ret
  exact ⟨ret_int (by omega), rfl⟩

set_option maxRecDepth 4000 in
set_option maxHeartbeats 400000 in
theorem rightOf_any (d : Nat) (hd : d < 4) (w : World) :
    Calls Tryd.prog 54 #[.int .i64 d] w fun e w' => e = .returned (.int .i64 ((d + 3) % 4 : Nat)) ∧ w' = w := by
  go_enter Tryd.func54, Tryd.ntmps54
  go_wp2
  go_ret
  exact ⟨ret_int (by omega), rfl⟩

set_option maxRecDepth 4000 in
set_option maxHeartbeats 400000 in
theorem end_any (x y : Int) (d : Nat) (hd : d < 4) (hx : -1000 ≤ x ∧ x ≤ 1000) (hy : -1000 ≤ y ∧ y ≤ 1000) (w : World) :
    Calls Tryd.prog 52 #[.agg #[.int .i64 x, .int .i64 y, .int .i64 d]] w fun e w' => e = .returned (.agg #[.int .i64 (Qm.en (x, y, d)).1, .int .i64 (Qm.en (x, y, d)).2]) ∧ ∃ o1 o2 o3, w' = ((w.alloc (.cells o1 79)).alloc (.cells o2 46)).alloc (.cells o3 46) := by
  match d, hd with
  | 0, _ =>
    go_enter Tryd.func52, Tryd.ntmps52
    go_wp2
    refine bodyPost_ret (v := .agg #[.int .i64 x, .int .i64 (y + 1)]) (by simp [results, Tryd.results52, go_sem]) rfl ?_
    exact ⟨rfl, _, _, _, rfl⟩
  | 1, _ =>
    go_enter Tryd.func52, Tryd.ntmps52
    go_wp2
    refine bodyPost_ret (v := .agg #[.int .i64 (x + 1), .int .i64 y]) (by simp [results, Tryd.results52, go_sem]) rfl ?_
    exact ⟨rfl, _, _, _, rfl⟩
  | 2, _ =>
    go_enter Tryd.func52, Tryd.ntmps52
    go_wp2
    refine bodyPost_ret (v := .agg #[.int .i64 x, .int .i64 (y - 1)]) (by simp [results, Tryd.results52, go_sem]) rfl ?_
    exact ⟨rfl, _, _, _, rfl⟩
  | 3, _ =>
    go_enter Tryd.func52, Tryd.ntmps52
    go_wp2
    refine bodyPost_ret (v := .agg #[.int .i64 (x - 1), .int .i64 y]) (by simp [results, Tryd.results52, go_sem]) rfl ?_
    exact ⟨rfl, _, _, _, rfl⟩
end Go.Proofs.YtljfiefobnncaabDoor

/- pixelBetween, isSide of package cycles. -/
namespace Go.Proofs.YtljfiefobnncaabDoor
open Go.RowKit

set_option maxRecDepth 4000 in
set_option maxHeartbeats 2000000 in
theorem pixelBetween_any (x y : Int) (a b : Nat) (hx : -1000 ≤ x ∧ x ≤ 1000) (hy : -1000 ≤ y ∧ y ≤ 1000) (w : World) :
    Calls Tryd.prog 61 #[.agg #[.int .i64 x, .int .i64 y], .int .i64 a, .int .i64 b] w fun e w' => e = .returned (.agg #[.int .i64 (if a = 3 ∨ b = 3 then x - 1 else x), .int .i64 (if a = 2 ∨ b = 2 then y - 1 else y)]) ∧ ∃ o1 o2, w' = (w.alloc (.cells o1 46)).alloc (.cells o2 46) := by
  have key : ∀ (p q r t : Bool), ((a : Int) == 2) = p → ((b : Int) == 2) = q → ((a : Int) == 3) = r → ((b : Int) == 3) = t →
    Calls Tryd.prog 61 #[.agg #[.int .i64 x, .int .i64 y], .int .i64 a, .int .i64 b] w fun e w' => e = .returned (.agg #[.int .i64 (if (r || t) = true then x - 1 else x), .int .i64 (if (p || q) = true then y - 1 else y)]) ∧ ∃ o1 o2, w' = (w.alloc (.cells o1 46)).alloc (.cells o2 46) := by
    intro p q r t h1 h2 h3 h4
    cases p <;> cases q <;> cases r <;> cases t <;>
    · go_enter Tryd.func61, Tryd.ntmps61
      go_wp2
      refine bodyPost_ret (by simp [results, Tryd.results61, go_sem]; rfl) rfl ?_
      exact ⟨rfl, _, _, rfl⟩
  refine (key _ _ _ _ rfl rfl rfl rfl).mono ?_
  rintro e w' ⟨rfl, hb⟩
  refine ⟨?_, hb⟩
  simp only [Bool.or_eq_true, beq_iff_eq]
  norm_cast

theorem pixLeft_any (x y : Int) (d : Nat) (hx : -1000 ≤ x ∧ x ≤ 1000) (hy : -1000 ≤ y ∧ y ≤ 1000) (w : World) :
    Calls Tryd.prog 61 #[.agg #[.int .i64 x, .int .i64 y], .int .i64 d, .int .i64 ((d + 1) % 4 : Nat)] w fun e w' => e = .returned (.agg #[.int .i64 (Qm.lpx x d), .int .i64 (Qm.lpy y d)]) ∧ ∃ o1 o2, w' = (w.alloc (.cells o1 46)).alloc (.cells o2 46) := pixelBetween_any x y d _ hx hy w
theorem pixRight_any (x y : Int) (d : Nat) (hx : -1000 ≤ x ∧ x ≤ 1000) (hy : -1000 ≤ y ∧ y ≤ 1000) (w : World) :
    Calls Tryd.prog 61 #[.agg #[.int .i64 x, .int .i64 y], .int .i64 d, .int .i64 ((d + 3) % 4 : Nat)] w fun e w' => e = .returned (.agg #[.int .i64 (Qm.rpx x d), .int .i64 (Qm.rpy y d)]) ∧ ∃ o1 o2, w' = (w.alloc (.cells o1 46)).alloc (.cells o2 46) := pixelBetween_any x y d _ hx hy w

end Go.Proofs.YtljfiefobnncaabDoor

/- isSide of package cycles. -/
namespace Go.Proofs.YtljfiefobnncaabDoor
open Go.RowKit
attribute [local go_sem ↓] Go.wp_at_zero Go.wp_at_succ

/-- A block's cells stand, and may be written. -/
def At (w : World) (b : Nat) (cs : List Value) : Prop := b < w.heap.size ∧ (∀ j v, cs[j]? = some v → w.cell? ⟨b, j, none⟩ = some v) ∧ (∀ j, j < cs.length → w.frozen? ⟨b, j, none⟩ = false)
theorem At.on {w w' : World} {b B : Nat} {cs : List Value} (h : At w b cs) (hb : Below B w w') (hB : b < B) : At w' b cs :=
  ⟨Nat.lt_of_lt_of_le h.1 hb.size, fun j v hj => (hb.cell (p := ⟨b, j, none⟩) hB).trans (h.2.1 j v hj), fun j hj => (hb.frozen (p := ⟨b, j, none⟩) hB).trans (h.2.2 j hj)⟩
theorem At.call {w w' : World} {b : Nat} {cs : List Value} (h : At w b cs) (hb : Below w.heap.size w w') : At w' b cs := h.on hb h.1
theorem At.new (w : World) (cs : List Value) (t : TypeId) : At (w.alloc (.cells cs.toArray t)) w.heap.size cs := by
  refine ⟨by simp, fun j v hj => ?_, fun j hj => by simp⟩
  simp [hj]
theorem At.alloc {w : World} {b : Nat} {cs : List Value} (h : At w b cs) (o : Obj) : At (w.alloc o) b cs := h.call ((Below.refl _ _).alloc (Nat.le_refl _) _)

set_option maxRecDepth 4000 in
set_option maxHeartbeats 2000000 in
theorem cIsSide_any (W H : Nat) (s : ByteArray) (x y : Int) (d : Nat) (hd : d < 4) (hx : -1000 ≤ x ∧ x ≤ 1000) (hy : -1000 ≤ y ∧ y ≤ 1000) (w : World) (hw2 : W ≤ 32) (hh2 : H ≤ 32) (hl : s.size = W * H) :
    Calls Tryd.prog 51 #[.agg #[.int .i64 W, .int .i64 H, .string s], .agg #[.int .i64 x, .int .i64 y, .int .i64 d]] w fun e w' => e = .returned (.bool (Qm.isS (Pm.blackB W H s.data.toList) (x, y, d))) ∧ Below w.heap.size w w' := by
  have HL := hid hl
  clear hl
  rw [Qm.isS_lr _ _ _ _ hd]
  obtain ⟨a, ha⟩ : ∃ a, Pm.blackB W H s.data.toList (Qm.rpx x d) (Qm.rpy y d) = a := ⟨_, rfl⟩
  rw [ha]
  have HA := hid ha
  clear ha
  go_enter Tryd.func51, Tryd.ntmps51
  go_wp2_with fail
  go_region_held3 (fun w' => w'.cell? ⟨w.heap.size + 1, 0, none⟩ = some (.int .i64 x) ∧ w'.cell? ⟨w.heap.size + 1, 1, none⟩ = some (.int .i64 y) ∧ w'.cell? ⟨w.heap.size + 1, 2, none⟩ = some (.int .i64 d))
    (first | (simp [go_sem]; done) | (go_keep))
    (first | (go_at_call 53; refine (leftOf_any d hd _).mono ?_; rintro e w1 ⟨rfl, rfl⟩) | (go_at_call 61; refine (pixLeft_any x y d hx hy _).mono ?_; rintro e w1 ⟨rfl, o1, o2, rfl⟩))
  all_goals go_wp2_with fail
  all_goals
    go_region_held3 (fun w' => w'.cell? ⟨w.heap.size + 1, 0, none⟩ = some (.int .i64 x) ∧ w'.cell? ⟨w.heap.size + 1, 1, none⟩ = some (.int .i64 y) ∧ w'.cell? ⟨w.heap.size + 1, 2, none⟩ = some (.int .i64 d))
      (first | (simp [go_sem]; done) | (go_keep))
      (first | (go_at_call 54; refine (rightOf_any d hd _).mono ?_; rintro e w1 ⟨rfl, rfl⟩) | (go_at_call 61; refine (pixRight_any x y d hx hy _).mono ?_; rintro e w1 ⟨rfl, o3, o4, rfl⟩))
  all_goals go_wp2_with fail
  all_goals
    refine (isBlack_any W H s _ _ _ hw2 hh2 HL.out).mono ?_
    rintro e w1 ⟨rfl, rfl⟩
    rw [HA.out]
  all_goals cases a
  all_goals go_wp2_with (go_at_call 62; refine (isBlack_any W H s _ _ _ hw2 hh2 HL.out).mono ?_; rintro e w1 ⟨rfl, rfl⟩)
  all_goals go_ret
  all_goals exact ⟨ret_bool (by simp), by go_grown⟩
end Go.Proofs.YtljfiefobnncaabDoor

/- blackAround, isDrawn, joins of package cycles. -/
namespace Go.Proofs.YtljfiefobnncaabDoor
open Go.RowKit
attribute [local go_sem ↓] Go.wp_at_zero Go.wp_at_succ

/-- A box of three cells and one of two behind it stand; below them all is as it was. -/
def Bp (B : Nat) (a b c x y : Value) (w wr : World) : Prop :=
  wr.cell? ⟨B, 0, none⟩ = some a ∧ wr.cell? ⟨B, 1, none⟩ = some b ∧ wr.cell? ⟨B, 2, none⟩ = some c ∧ wr.cell? ⟨B + 1, 0, none⟩ = some x ∧ wr.cell? ⟨B + 1, 1, none⟩ = some y ∧ Below B w wr ∧ B + 1 < wr.heap.size
theorem Bp.on {B : Nat} {a b c x y : Value} {w wr w2 : World} (h : Bp B a b c x y w wr) (hb : Below wr.heap.size wr w2) : Bp B a b c x y w w2 := by
  obtain ⟨c0, c1, c2, c3, c4, hn, hz⟩ := h
  have hz' : B < wr.heap.size := by omega
  exact ⟨(hb.cell (p := ⟨B, 0, none⟩) hz').trans c0, (hb.cell (p := ⟨B, 1, none⟩) hz').trans c1, (hb.cell (p := ⟨B, 2, none⟩) hz').trans c2, (hb.cell (p := ⟨B + 1, 0, none⟩) hz).trans c3, (hb.cell (p := ⟨B + 1, 1, none⟩) hz).trans c4, hn.trans (hb.mono (Nat.le_of_lt hz')), Nat.lt_of_lt_of_le hz hb.size⟩
theorem Bp.new (w : World) (a b c x y : Value) (t u : TypeId) : Bp w.heap.size a b c x y w ((w.alloc (.cells #[a, b, c] t)).alloc (.cells #[x, y] u)) :=
  ⟨by simp, by simp, by simp, by simp [go_sem], by simp [go_sem], ((Below.refl _ _).alloc (Nat.le_refl _) _).alloc (by simp) _, by simp⟩
theorem Bp.alloc {B : Nat} {a b c x y : Value} {w wr : World} (h : Bp B a b c x y w wr) (o : Obj) : Bp B a b c x y w (wr.alloc o) := h.on ((Below.refl _ _).alloc (Nat.le_refl _) _)

set_option maxRecDepth 4000 in
set_option maxHeartbeats 2000000 in
theorem blackAround_any (W H : Nat) (s : ByteArray) (X Y : Int) (hx : 0 ≤ X ∧ X ≤ 100) (hy : 0 ≤ Y ∧ Y ≤ 100) (w : World) (hw2 : W ≤ 32) (hh2 : H ≤ 32) (hl : s.size = W * H) :
    Calls Tryd.prog 63 #[.agg #[.int .i64 W, .int .i64 H, .string s], .agg #[.int .i64 X, .int .i64 Y]] w fun e w' => e = .returned (.int .i64 (Qm.cntTo (Pm.blackB W H s.data.toList) X Y 16 : Nat)) ∧ Below w.heap.size w w' := by
  have HL := hid hl
  clear hl
  go_enter Tryd.func63, Tryd.ntmps63
  go_wp2
  go_loopw [5, 6] (fun n y wr => ∃ i : Nat, i ≤ 4 ∧ y = .int .i64 (Y - 2 + (i : Nat)) ∧ n = .int .i64 (Qm.cntTo (Pm.blackB W H s.data.toList) X Y (4 * i) : Nat) ∧ Bp w.heap.size (.int .i64 W) (.int .i64 H) (.string s) (.int .i64 X) (.int .i64 Y) w wr) (fun _ y _ => (Y + 5 - intOf y).toNat)
  case atStart => exact ⟨0, by omega, by simp, rfl, Bp.new ..⟩
  case round =>
    obtain ⟨i, hi, rfl, rfl, hB⟩ := hrel
    have HB := hid hB
    obtain ⟨c0, c1, c2, c3, c4, -, hz⟩ := hB
    by_cases hlt : i < 4
    · have hlt' : Y - 2 + (i : Int) ≤ Y + 1 := by omega
      go_wp2
      go_loopw [5, 7] (fun n x wr => ∃ j : Nat, j ≤ 4 ∧ x = .int .i64 (X - 2 + (j : Nat)) ∧ n = .int .i64 (Qm.cntTo (Pm.blackB W H s.data.toList) X Y (4 * i + j) : Nat) ∧ Bp w.heap.size (.int .i64 W) (.int .i64 H) (.string s) (.int .i64 X) (.int .i64 Y) w wr) (fun _ x _ => (X + 5 - intOf x).toNat)
      case atStart => exact ⟨0, by omega, by simp, rfl, HB.out⟩
      case round =>
        clear c0 c1 c2 c3 c4 hz HB
        obtain ⟨j, hj, rfl, rfl, hB⟩ := hrel
        have HB := hid hB
        obtain ⟨c0, c1, c2, c3, c4, -, hz⟩ := hB
        by_cases hj4 : j < 4
        · have hjt : X - 2 + (j : Int) ≤ X + 1 := by omega
          have hc := Qm.cntTo_le (Pm.blackB W H s.data.toList) X Y (4 * i + j)
          cases hq : Pm.blackB W H s.data.toList (X - 2 + (j : Nat)) (Y - 2 + (i : Nat))
          · have E := hid (Qm.cntTo_no (Pm.blackB W H s.data.toList) X Y i j hj4 hq)
            go_wp2_with (go_at_call 62; refine (isBlack_any W H s _ _ _ hw2 hh2 HL.out).mono ?_; rintro e w1 ⟨rfl, rfl⟩; rw [hq])
            go_roundw
            case rel => exact ⟨j + 1, by omega, by go_num, by rw [E.out], HB.out.alloc _⟩
            case measure => simp [intOf]; omega
          · have E := hid (Qm.cntTo_yes (Pm.blackB W H s.data.toList) X Y i j hj4 hq)
            go_wp2_with (go_at_call 62; refine (isBlack_any W H s _ _ _ hw2 hh2 HL.out).mono ?_; rintro e w1 ⟨rfl, rfl⟩; rw [hq])
            go_roundw
            case rel => exact ⟨j + 1, by omega, by go_num, by rw [E.out]; go_num, HB.out.alloc _⟩
            case measure => simp [intOf]; omega
        · have e4 : j = 4 := by omega
          subst e4
          go_wp2
          go_roundw
          case rel => exact ⟨i + 1, by omega, by go_num, rfl, HB.out⟩
          case measure => simp [intOf]; omega
    · have e4 : i = 4 := by omega
      subst e4
      go_wp2
      go_ret
      exact ⟨rfl, HB.out.2.2.2.2.2.1⟩
end Go.Proofs.YtljfiefobnncaabDoor
