import Derived.Test.YtljfiefobnncaaaDoorK04

/- Lines and the middles of pixels: to the right of one, above one, through one. Nothing of the program stands here. -/
namespace Go.Proofs.YtljfiefobnncaaaDoor.Qm

/-- Does the line pass at the height of row y? -/
def reaB (p q : Int × Int) (y : Int) : Bool := decide (p.2 ≤ y) != decide (q.2 ≤ y)
def farZ (p q : Int × Int) (x y : Int) : Int := (2 * (p.1 - x) - 1) * (q.2 - p.2) + (2 * (y - p.2) + 1) * (q.1 - p.1)
/-- How far to the right of the middle. -/
def rtZ (p q : Int × Int) (x y : Int) : Int := if q.2 < p.2 then -farZ p q x y else farZ p q x y
/-- What a line adds to the winding number. -/
def wdZ (p q : Int × Int) (x y : Int) : Int := if reaB p q y = false ∨ rtZ p q x y ≤ 0 then 0 else if q.2 < p.2 then 1 else -1
/-- Does it go through the middle? -/
def thB (p q : Int × Int) (x y : Int) : Bool := reaB p q y && decide (rtZ p q x y = 0)

def crZ (p q : Int × Int) (x y : Int) : Int := (2 * (p.1 - x) - 1) * (2 * (q.2 - y) - 1) - (2 * (p.2 - y) - 1) * (2 * (q.1 - x) - 1)
def dtZ (p q : Int × Int) (x y : Int) : Int := (2 * (p.1 - x) - 1) * (2 * (q.1 - x) - 1) + (2 * (p.2 - y) - 1) * (2 * (q.2 - y) - 1)
/-- The same, as the document's answer asks it. -/
def thR (p q : Int × Int) (x y : Int) : Bool := decide (crZ p q x y = 0) && decide (dtZ p q x y ≤ 0)
/-- What a line adds, counted above the middle. -/
def abZ (p q : Int × Int) (x y : Int) : Int := if 2 * (p.1 - x) - 1 < 0 ∧ 0 < 2 * (q.1 - x) - 1 ∧ 0 < crZ p q x y then -1 else if 0 < 2 * (p.1 - x) - 1 ∧ 2 * (q.1 - x) - 1 < 0 ∧ crZ p q x y < 0 then 1 else 0

theorem cr_far (p q : Int × Int) (x y : Int) : crZ p q x y = 2 * farZ p q x y := by
  unfold crZ farZ; grind

/-- Signs of a product. -/
theorem sgn_mul {a b : Int} (ha : a ≠ 0) (hb : b ≠ 0) : (0 < a ∧ 0 < b ∧ 0 < a * b) ∨ (a < 0 ∧ b < 0 ∧ 0 < a * b) ∨ (0 < a ∧ b < 0 ∧ a * b < 0) ∨ (a < 0 ∧ 0 < b ∧ a * b < 0) := by
  rcases Int.lt_or_gt_of_ne ha with h | h <;> rcases Int.lt_or_gt_of_ne hb with k | k
  · exact .inr (.inl ⟨h, k, Int.mul_pos_of_neg_of_neg h k⟩)
  · exact .inr (.inr (.inr ⟨h, k, Int.mul_neg_of_neg_of_pos h k⟩))
  · exact .inr (.inr (.inl ⟨h, k, Int.mul_neg_of_pos_of_neg h k⟩))
  · exact .inl ⟨h, k, Int.mul_pos h k⟩

/-- The quadrant between the two rays. -/
def qd (x y : Int) (p : Int × Int) : Int := if x < p.1 ∧ p.2 ≤ y then 1 else 0

/-- What the four signs give. -/
theorem cr_signs (p q : Int × Int) (x y : Int) :
    ∃ A B C D : Int, crZ p q x y = A - B ∧ dtZ p q x y = C + D ∧ 2 * farZ p q x y = A - B ∧
      ((x < p.1 ∧ y < q.2 ∧ 0 < A) ∨ (p.1 ≤ x ∧ q.2 ≤ y ∧ 0 < A) ∨ (x < p.1 ∧ q.2 ≤ y ∧ A < 0) ∨ (p.1 ≤ x ∧ y < q.2 ∧ A < 0)) ∧
      ((y < p.2 ∧ x < q.1 ∧ 0 < B) ∨ (p.2 ≤ y ∧ q.1 ≤ x ∧ 0 < B) ∨ (y < p.2 ∧ q.1 ≤ x ∧ B < 0) ∨ (p.2 ≤ y ∧ x < q.1 ∧ B < 0)) ∧
      ((x < p.1 ∧ x < q.1 ∧ 0 < C) ∨ (p.1 ≤ x ∧ q.1 ≤ x ∧ 0 < C) ∨ (x < p.1 ∧ q.1 ≤ x ∧ C < 0) ∨ (p.1 ≤ x ∧ x < q.1 ∧ C < 0)) ∧
      ((y < p.2 ∧ y < q.2 ∧ 0 < D) ∨ (p.2 ≤ y ∧ q.2 ≤ y ∧ 0 < D) ∨ (y < p.2 ∧ q.2 ≤ y ∧ D < 0) ∨ (p.2 ≤ y ∧ y < q.2 ∧ D < 0)) := by
  refine ⟨_, _, _, _, rfl, rfl, (cr_far p q x y).symm, ?_, ?_, ?_, ?_⟩
  · have := sgn_mul (a := 2 * (p.1 - x) - 1) (b := 2 * (q.2 - y) - 1) (by omega) (by omega); omega
  · have := sgn_mul (a := 2 * (p.2 - y) - 1) (b := 2 * (q.1 - x) - 1) (by omega) (by omega); omega
  · have := sgn_mul (a := 2 * (p.1 - x) - 1) (b := 2 * (q.1 - x) - 1) (by omega) (by omega); omega
  · have := sgn_mul (a := 2 * (p.2 - y) - 1) (b := 2 * (q.2 - y) - 1) (by omega) (by omega); omega

theorem reaB_iff (p q : Int × Int) (y : Int) : reaB p q y = true ↔ (p.2 ≤ y ∧ y < q.2) ∨ (q.2 ≤ y ∧ y < p.2) := by
  unfold reaB
  by_cases h1 : p.2 ≤ y <;> by_cases h2 : q.2 ≤ y <;> simp [h1, h2] <;> omega
theorem thB_iff (p q : Int × Int) (x y : Int) : thB p q x y = true ↔ ((p.2 ≤ y ∧ y < q.2) ∨ (q.2 ≤ y ∧ y < p.2)) ∧ farZ p q x y = 0 := by
  unfold thB
  rw [Bool.and_eq_true, reaB_iff, decide_eq_true_eq]
  unfold rtZ
  split <;> omega
theorem thR_iff (p q : Int × Int) (x y : Int) : thR p q x y = true ↔ crZ p q x y = 0 ∧ dtZ p q x y ≤ 0 := by
  unfold thR
  rw [Bool.and_eq_true, decide_eq_true_eq, decide_eq_true_eq]
/-- Both ask the same. -/
theorem th_same (p q : Int × Int) (x y : Int) : thR p q x y = thB p q x y := by
  obtain ⟨A, B, C, D, h1, h2, h3, hA, hB, hC, hD⟩ := cr_signs p q x y
  have e : thR p q x y = true ↔ thB p q x y = true := by
    rw [thR_iff, thB_iff, h1, h2]
    omega
  cases a : thR p q x y <;> cases b : thB p q x y <;> simp_all
theorem wdZ_eq (p q : Int × Int) (x y : Int) : wdZ p q x y = if q.2 ≤ y ∧ y < p.2 ∧ farZ p q x y < 0 then 1 else if p.2 ≤ y ∧ y < q.2 ∧ 0 < farZ p q x y then -1 else 0 := by
  have r := reaB_iff p q y
  unfold wdZ
  cases hr : reaB p q y
  · rw [hr] at r
    simp at r
    rw [if_pos (.inl rfl), if_neg (by omega), if_neg (by omega)]
  · rw [hr] at r
    have r2 := r.1 rfl
    unfold rtZ
    simp only [Bool.true_eq_false, false_or]
    repeat' split <;> try omega
/-- Above and to the right differ by where the line begins and ends. -/
theorem ab_wd (p q : Int × Int) (x y : Int) (h : thB p q x y = false) : abZ p q x y - wdZ p q x y = qd x y p - qd x y q := by
  obtain ⟨A, B, C, D, h1, _, h3, hA, hB, _, _⟩ := cr_signs p q x y
  have nt : ¬ (((p.2 ≤ y ∧ y < q.2) ∨ (q.2 ≤ y ∧ y < p.2)) ∧ farZ p q x y = 0) := fun hh => by rw [(thB_iff p q x y).2 hh] at h; simp at h
  rw [wdZ_eq]
  unfold abZ qd
  rw [h1]
  repeat' split <;> try omega
end Go.Proofs.YtljfiefobnncaaaDoor.Qm

/- The polygon of a cycle as the program finds it, as functions. Nothing of the program stands here. -/
namespace Go.Proofs.YtljfiefobnncaaaDoor.Qm

abbrev Pt : Type := Int × Int
/-- lines, cost, span. -/
abbrev Rw : Type := Int × Int × Int

theorem wdZ_in (p q : Pt) (x y : Int) : -1 ≤ wdZ p q x y ∧ wdZ p q x y ≤ 1 := by
  unfold wdZ; split
  · omega
  · split <;> omega
/-- The winding number, line by line. -/
def wsum (l : List Pt) (x y : Int) : Nat → Int
  | 0 => 0
  | k + 1 => wsum l x y k + wdZ (pr l k) (l.getD k (0, 0)) x y
theorem wsum_in (l : List Pt) (x y : Int) (k : Nat) : -(k : Int) ≤ wsum l x y k ∧ wsum l x y k ≤ k := by
  induction k with
  | zero => simp [wsum]
  | succ k ih => have := wdZ_in (pr l k) (l.getD k (0, 0)) x y; simp only [wsum]; omega
/-- The least and the greatest of the first k. -/
def loF (g : Pt → Int) (l : List Pt) : Nat → Int
  | 0 => g (l.getD 0 (0, 0))
  | k + 1 => if g (l.getD k (0, 0)) < loF g l k then g (l.getD k (0, 0)) else loF g l k
def hiF (g : Pt → Int) (l : List Pt) : Nat → Int
  | 0 => g (l.getD 0 (0, 0))
  | k + 1 => if hiF g l k < g (l.getD k (0, 0)) then g (l.getD k (0, 0)) else hiF g l k
theorem loF_one (g : Pt → Int) (l : List Pt) : loF g l 1 = g (l.getD 0 (0, 0)) := by simp [loF]
theorem hiF_one (g : Pt → Int) (l : List Pt) : hiF g l 1 = g (l.getD 0 (0, 0)) := by simp [hiF]
theorem loF_le (g : Pt → Int) (l : List Pt) : ∀ k i, i < k → loF g l k ≤ g (l.getD i (0, 0))
  | 0, _, h => absurd h (Nat.not_lt_zero _)
  | k + 1, i, h => by
    rcases Nat.lt_or_ge i k with h1 | h1
    · have := loF_le g l k i h1
      simp only [loF]; split <;> omega
    · obtain rfl : i = k := by omega
      simp only [loF]; split <;> omega
theorem le_hiF (g : Pt → Int) (l : List Pt) : ∀ k i, i < k → g (l.getD i (0, 0)) ≤ hiF g l k
  | 0, _, h => absurd h (Nat.not_lt_zero _)
  | k + 1, i, h => by
    rcases Nat.lt_or_ge i k with h1 | h1
    · have := le_hiF g l k i h1
      simp only [hiF]; split <;> omega
    · obtain rfl : i = k := by omega
      simp only [hiF]; split <;> omega
theorem loF_at (g : Pt → Int) (l : List Pt) : ∀ k, ∃ i, (i < k ∨ i = 0) ∧ loF g l k = g (l.getD i (0, 0))
  | 0 => ⟨0, .inr rfl, rfl⟩
  | k + 1 => by
    obtain ⟨i, hi, e⟩ := loF_at g l k
    simp only [loF]
    split
    · exact ⟨k, .inl (by omega), rfl⟩
    · exact ⟨i, by omega, e⟩
theorem hiF_at (g : Pt → Int) (l : List Pt) : ∀ k, ∃ i, (i < k ∨ i = 0) ∧ hiF g l k = g (l.getD i (0, 0))
  | 0 => ⟨0, .inr rfl, rfl⟩
  | k + 1 => by
    obtain ⟨i, hi, e⟩ := hiF_at g l k
    simp only [hiF]
    split
    · exact ⟨k, .inl (by omega), rfl⟩
    · exact ⟨i, by omega, e⟩
theorem loF_in {l : List Pt} (h : Small l) (k : Nat) : (0 ≤ loF Prod.fst l k ∧ loF Prod.fst l k ≤ 32) ∧ (0 ≤ loF Prod.snd l k ∧ loF Prod.snd l k ≤ 32) := by
  obtain ⟨i, _, e⟩ := loF_at Prod.fst l k
  obtain ⟨j, _, e2⟩ := loF_at Prod.snd l k
  have a := h.at i
  have b := h.at j
  rw [e, e2]; omega
theorem hiF_in {l : List Pt} (h : Small l) (k : Nat) : (0 ≤ hiF Prod.fst l k ∧ hiF Prod.fst l k ≤ 32) ∧ (0 ≤ hiF Prod.snd l k ∧ hiF Prod.snd l k ≤ 32) := by
  obtain ⟨i, _, e⟩ := hiF_at Prod.fst l k
  obtain ⟨j, _, e2⟩ := hiF_at Prod.snd l k
  have a := h.at i
  have b := h.at j
  rw [e, e2]; omega

def fstP (l : List Pt) : Pt := l.getD 0 (0, 0)
def lstP (l : List Pt) : Pt := l.getD (l.length - 1) (0, 0)
/-- Is all well at the middle of (x, y)? -/
def okAt (l : List Pt) (x y : Int) : Bool := !thB (lstP l) (fstP l) x y && decide (wsum l x y l.length = 0)
/-- May one line stand for the points? -/
def fitB (l : List Pt) : Bool :=
  (List.range (hiF Prod.snd l l.length - loF Prod.snd l l.length).toNat).all fun j => (List.range (hiF Prod.fst l l.length - loF Prod.fst l l.length).toNat).all fun i =>
    okAt l (loF Prod.fst l l.length + (i : Nat)) (loF Prod.snd l l.length + (j : Nat))
theorem fitB_iff (l : List Pt) : fitB l = true ↔ ∀ x y, loF Prod.fst l l.length ≤ x → x < hiF Prod.fst l l.length → loF Prod.snd l l.length ≤ y → y < hiF Prod.snd l l.length → okAt l x y = true := by
  unfold fitB
  simp only [List.all_eq_true, List.mem_range]
  constructor
  · intro h x y x0 x1 y0 y1
    have := h (y - loF Prod.snd l l.length).toNat (by omega) (x - loF Prod.fst l l.length).toNat (by omega)
    rwa [show loF Prod.fst l l.length + ((x - loF Prod.fst l l.length).toNat : Int) = x from by omega, show loF Prod.snd l l.length + ((y - loF Prod.snd l l.length).toNat : Int) = y from by omega] at this
  · intro h j hj i hi
    exact h _ _ (by omega) (by omega) (by omega) (by omega)

/-- How far p is off the line from a to z, times its length. -/
def offZ (a z p : Pt) : Int := (z.1 - a.1) * (p.2 - a.2) - (z.2 - a.2) * (p.1 - a.1)
def absZ (n : Int) : Int := if n < 0 then -n else n
def costTo (a z : Pt) (l : List Pt) : Nat → Int
  | 0 => 0
  | k + 1 => costTo a z l k + absZ (offZ a z (l.getD k (0, 0)))
def costOf (l : List Pt) : Int := costTo (fstP l) (lstP l) l l.length

theorem mul_in {a b : Int} (h1 : -32 ≤ a) (h2 : a ≤ 32) (h3 : -32 ≤ b) (h4 : b ≤ 32) : -1024 ≤ a * b ∧ a * b ≤ 1024 := by
  have p : ∀ {u v : Int}, 0 ≤ u → u ≤ 32 → 0 ≤ v → v ≤ 32 → 0 ≤ u * v ∧ u * v ≤ 1024 := fun a b c d => mul_small a b c d
  rcases Int.le_total 0 a with ha | ha <;> rcases Int.le_total 0 b with hb | hb
  · have := p ha h2 hb h4; omega
  · have := p ha h2 (show 0 ≤ -b by omega) (by omega); rw [Int.mul_neg] at this; omega
  · have := p (show 0 ≤ -a by omega) (by omega) hb h4; rw [Int.neg_mul] at this; omega
  · have := p (show 0 ≤ -a by omega) (by omega) (show 0 ≤ -b by omega) (by omega); rw [Int.neg_mul_neg] at this; omega
theorem costTo_in {l : List Pt} (h : Small l) (a z : Pt) (ha : 0 ≤ a.1 ∧ a.1 ≤ 32 ∧ 0 ≤ a.2 ∧ a.2 ≤ 32) (hz : 0 ≤ z.1 ∧ z.1 ≤ 32 ∧ 0 ≤ z.2 ∧ z.2 ≤ 32) (k : Nat) : 0 ≤ costTo a z l k ∧ costTo a z l k ≤ 2048 * k := by
  induction k with
  | zero => simp [costTo]
  | succ k ih =>
    have p := h.at k
    have m1 := mul_in (a := z.1 - a.1) (b := (l.getD k (0, 0)).2 - a.2) (by omega) (by omega) (by omega) (by omega)
    have m2 := mul_in (a := z.2 - a.2) (b := (l.getD k (0, 0)).1 - a.1) (by omega) (by omega) (by omega) (by omega)
    simp only [costTo]
    unfold absZ offZ
    split <;> omega
theorem Small.take {l : List Pt} (h : Small l) (n : Nat) : Small (l.take n) := fun p hp => h p (List.mem_of_mem_take hp)
theorem Small.drop {l : List Pt} (h : Small l) (n : Nat) : Small (l.drop n) := fun p hp => h p (List.mem_of_mem_drop hp)
theorem costOf_in {l : List Pt} (h : Small l) : 0 ≤ costOf l ∧ costOf l ≤ 2048 * l.length := costTo_in h _ _ (h.at _) (h.at _) _

/-- Is a better than b? -/
def betB (a b : Rw) : Bool := decide (a.1 < b.1 ∨ (a.1 = b.1 ∧ a.2.1 < b.2.1))
/-- The best of the rows whose first line stands for up to k sides. -/
def accR (l : List Pt) (B : List Rw) : Nat → Rw
  | 0 => (0, 0, 0)
  | k + 1 =>
    let r := B.getD (B.length - (k + 1)) (0, 0, 0)
    let r' : Rw := (r.1 + 1, r.2.1 + costOf (l.take (k + 2)), (k : Int) + 1)
    if fitB (l.take (k + 2)) && (decide (k = 0) || betB r' (accR l B k)) then r' else accR l B k
/-- How many spans are tried. -/
def spn (n b : Nat) : Nat := min 12 (min (n - 1) b)
/-- The rows from the last m points on, the one from the last point first. -/
def rowsTo (v : List Pt) : Nat → List Rw
  | 0 => []
  | m + 1 => rowsTo v m ++ [accR (v.drop (v.length - 1 - m)) (rowsTo v m) (spn (m + 1) m)]
theorem rowsTo_len (v : List Pt) (m : Nat) : (rowsTo v m).length = m := by
  induction m with
  | zero => rfl
  | succ m ih => simp [rowsTo, ih]
/-- The numbers of the corners ahead of k, and the next one. -/
def cornTo (B : List Rw) : Nat → List Nat × Int
  | 0 => ([], 0)
  | k + 1 => if (k : Int) = (cornTo B k).2 then ((cornTo B k).1 ++ [k], (k : Int) + (B.getD (B.length - 1 - k) (0, 0, 0)).2.2) else cornTo B k
/-- The corners of a cycle. -/
def cornN (c : List Pt) : List Nat := (cornTo (rowsTo (c ++ [fstP c]) (c.length + 1)) c.length).1
def cornL (c : List Pt) : List Pt := (cornN c).map fun i => c.getD i (0, 0)
end Go.Proofs.YtljfiefobnncaaaDoor.Qm
