/- The polygon of a cycle as the program finds it, as functions. Nothing of the program stands here. -/
import Derived.Test.YtljfiefobnncaaaQr
namespace Go.Proofs.Ytljfiefobnncaaa.Qm

abbrev Pt : Type := Int × Int
/-- lines, cost, span. -/
abbrev Rw : Type := Int × Int × Int

theorem wdZ_in (p q : Pt) (x y : Int) : -1 ≤ wdZ p q x y ∧ wdZ p q x y ≤ 1 := by
  unfold wdZ; split
  · omega
  · split <;> omega
/-- The winding number, line by line. -/
def wsum (l : List Pt) (x y : Int) : Nat → Int
  | 0 => 0
  | k + 1 => wsum l x y k + wdZ (pr l k) (l.getD k (0, 0)) x y
theorem wsum_in (l : List Pt) (x y : Int) (k : Nat) : -(k : Int) ≤ wsum l x y k ∧ wsum l x y k ≤ k := by
  induction k with
  | zero => simp [wsum]
  | succ k ih => have := wdZ_in (pr l k) (l.getD k (0, 0)) x y; simp only [wsum]; omega
/-- The least and the greatest of the first k. -/
def loF (g : Pt → Int) (l : List Pt) : Nat → Int
  | 0 => g (l.getD 0 (0, 0))
  | k + 1 => if g (l.getD k (0, 0)) < loF g l k then g (l.getD k (0, 0)) else loF g l k
def hiF (g : Pt → Int) (l : List Pt) : Nat → Int
  | 0 => g (l.getD 0 (0, 0))
  | k + 1 => if hiF g l k < g (l.getD k (0, 0)) then g (l.getD k (0, 0)) else hiF g l k
theorem loF_one (g : Pt → Int) (l : List Pt) : loF g l 1 = g (l.getD 0 (0, 0)) := by simp [loF]
theorem hiF_one (g : Pt → Int) (l : List Pt) : hiF g l 1 = g (l.getD 0 (0, 0)) := by simp [hiF]
theorem loF_le (g : Pt → Int) (l : List Pt) : ∀ k i, i < k → loF g l k ≤ g (l.getD i (0, 0))
  | 0, _, h => absurd h (Nat.not_lt_zero _)
  | k + 1, i, h => by
    rcases Nat.lt_or_ge i k with h1 | h1
    · have := loF_le g l k i h1
      simp only [loF]; split <;> omega
    · obtain rfl : i = k := by omega
      simp only [loF]; split <;> omega
theorem le_hiF (g : Pt → Int) (l : List Pt) : ∀ k i, i < k → g (l.getD i (0, 0)) ≤ hiF g l k
  | 0, _, h => absurd h (Nat.not_lt_zero _)
  | k + 1, i, h => by
    rcases Nat.lt_or_ge i k with h1 | h1
    · have := le_hiF g l k i h1
      simp only [hiF]; split <;> omega
    · obtain rfl : i = k := by omega
      simp only [hiF]; split <;> omega
theorem loF_at (g : Pt → Int) (l : List Pt) : ∀ k, ∃ i, (i < k ∨ i = 0) ∧ loF g l k = g (l.getD i (0, 0))
  | 0 => ⟨0, .inr rfl, rfl⟩
  | k + 1 => by
    obtain ⟨i, hi, e⟩ := loF_at g l k
    simp only [loF]
    split
    · exact ⟨k, .inl (by omega), rfl⟩
    · exact ⟨i, by omega, e⟩
theorem hiF_at (g : Pt → Int) (l : List Pt) : ∀ k, ∃ i, (i < k ∨ i = 0) ∧ hiF g l k = g (l.getD i (0, 0))
  | 0 => ⟨0, .inr rfl, rfl⟩
  | k + 1 => by
    obtain ⟨i, hi, e⟩ := hiF_at g l k
    simp only [hiF]
    split
    · exact ⟨k, .inl (by omega), rfl⟩
    · exact ⟨i, by omega, e⟩
theorem loF_in {l : List Pt} (h : Small l) (k : Nat) : (0 ≤ loF Prod.fst l k ∧ loF Prod.fst l k ≤ 32) ∧ (0 ≤ loF Prod.snd l k ∧ loF Prod.snd l k ≤ 32) := by
  obtain ⟨i, _, e⟩ := loF_at Prod.fst l k
  obtain ⟨j, _, e2⟩ := loF_at Prod.snd l k
  have a := h.at i
  have b := h.at j
  rw [e, e2]; omega
theorem hiF_in {l : List Pt} (h : Small l) (k : Nat) : (0 ≤ hiF Prod.fst l k ∧ hiF Prod.fst l k ≤ 32) ∧ (0 ≤ hiF Prod.snd l k ∧ hiF Prod.snd l k ≤ 32) := by
  obtain ⟨i, _, e⟩ := hiF_at Prod.fst l k
  obtain ⟨j, _, e2⟩ := hiF_at Prod.snd l k
  have a := h.at i
  have b := h.at j
  rw [e, e2]; omega

def fstP (l : List Pt) : Pt := l.getD 0 (0, 0)
def lstP (l : List Pt) : Pt := l.getD (l.length - 1) (0, 0)
/-- Is all well at the middle of (x, y)? -/
def okAt (l : List Pt) (x y : Int) : Bool := !thB (lstP l) (fstP l) x y && decide (wsum l x y l.length = 0)
/-- May one line stand for the points? -/
def fitB (l : List Pt) : Bool :=
  (List.range (hiF Prod.snd l l.length - loF Prod.snd l l.length).toNat).all fun j => (List.range (hiF Prod.fst l l.length - loF Prod.fst l l.length).toNat).all fun i =>
    okAt l (loF Prod.fst l l.length + (i : Nat)) (loF Prod.snd l l.length + (j : Nat))
theorem fitB_iff (l : List Pt) : fitB l = true ↔ ∀ x y, loF Prod.fst l l.length ≤ x → x < hiF Prod.fst l l.length → loF Prod.snd l l.length ≤ y → y < hiF Prod.snd l l.length → okAt l x y = true := by
  unfold fitB
  simp only [List.all_eq_true, List.mem_range]
  constructor
  · intro h x y x0 x1 y0 y1
    have := h (y - loF Prod.snd l l.length).toNat (by omega) (x - loF Prod.fst l l.length).toNat (by omega)
    rwa [show loF Prod.fst l l.length + ((x - loF Prod.fst l l.length).toNat : Int) = x from by omega, show loF Prod.snd l l.length + ((y - loF Prod.snd l l.length).toNat : Int) = y from by omega] at this
  · intro h j hj i hi
    exact h _ _ (by omega) (by omega) (by omega) (by omega)

/-- How far p is off the line from a to z, times its length. -/
def offZ (a z p : Pt) : Int := (z.1 - a.1) * (p.2 - a.2) - (z.2 - a.2) * (p.1 - a.1)
def absZ (n : Int) : Int := if n < 0 then -n else n
def costTo (a z : Pt) (l : List Pt) : Nat → Int
  | 0 => 0
  | k + 1 => costTo a z l k + absZ (offZ a z (l.getD k (0, 0)))
def costOf (l : List Pt) : Int := costTo (fstP l) (lstP l) l l.length

theorem mul_in {a b : Int} (h1 : -32 ≤ a) (h2 : a ≤ 32) (h3 : -32 ≤ b) (h4 : b ≤ 32) : -1024 ≤ a * b ∧ a * b ≤ 1024 := by
  have p : ∀ {u v : Int}, 0 ≤ u → u ≤ 32 → 0 ≤ v → v ≤ 32 → 0 ≤ u * v ∧ u * v ≤ 1024 := fun a b c d => mul_small a b c d
  rcases Int.le_total 0 a with ha | ha <;> rcases Int.le_total 0 b with hb | hb
  · have := p ha h2 hb h4; omega
  · have := p ha h2 (show 0 ≤ -b by omega) (by omega); rw [Int.mul_neg] at this; omega
  · have := p (show 0 ≤ -a by omega) (by omega) hb h4; rw [Int.neg_mul] at this; omega
  · have := p (show 0 ≤ -a by omega) (by omega) (show 0 ≤ -b by omega) (by omega); rw [Int.neg_mul_neg] at this; omega
theorem costTo_in {l : List Pt} (h : Small l) (a z : Pt) (ha : 0 ≤ a.1 ∧ a.1 ≤ 32 ∧ 0 ≤ a.2 ∧ a.2 ≤ 32) (hz : 0 ≤ z.1 ∧ z.1 ≤ 32 ∧ 0 ≤ z.2 ∧ z.2 ≤ 32) (k : Nat) : 0 ≤ costTo a z l k ∧ costTo a z l k ≤ 2048 * k := by
  induction k with
  | zero => simp [costTo]
  | succ k ih =>
    have p := h.at k
    have m1 := mul_in (a := z.1 - a.1) (b := (l.getD k (0, 0)).2 - a.2) (by omega) (by omega) (by omega) (by omega)
    have m2 := mul_in (a := z.2 - a.2) (b := (l.getD k (0, 0)).1 - a.1) (by omega) (by omega) (by omega) (by omega)
    simp only [costTo]
    unfold absZ offZ
    split <;> omega
theorem Small.take {l : List Pt} (h : Small l) (n : Nat) : Small (l.take n) := fun p hp => h p (List.mem_of_mem_take hp)
theorem Small.drop {l : List Pt} (h : Small l) (n : Nat) : Small (l.drop n) := fun p hp => h p (List.mem_of_mem_drop hp)
theorem costOf_in {l : List Pt} (h : Small l) : 0 ≤ costOf l ∧ costOf l ≤ 2048 * l.length := costTo_in h _ _ (h.at _) (h.at _) _

/-- Is a better than b? -/
def betB (a b : Rw) : Bool := decide (a.1 < b.1 ∨ (a.1 = b.1 ∧ a.2.1 < b.2.1))
/-- The best of the rows whose first line stands for up to k sides. -/
def accR (l : List Pt) (B : List Rw) : Nat → Rw
  | 0 => (0, 0, 0)
  | k + 1 =>
    let r := B.getD (B.length - (k + 1)) (0, 0, 0)
    let r' : Rw := (r.1 + 1, r.2.1 + costOf (l.take (k + 2)), (k : Int) + 1)
    if fitB (l.take (k + 2)) && (decide (k = 0) || betB r' (accR l B k)) then r' else accR l B k
/-- How many spans are tried. -/
def spn (n b : Nat) : Nat := min 12 (min (n - 1) b)
/-- The rows from the last m points on, the one from the last point first. -/
def rowsTo (v : List Pt) : Nat → List Rw
  | 0 => []
  | m + 1 => rowsTo v m ++ [accR (v.drop (v.length - 1 - m)) (rowsTo v m) (spn (m + 1) m)]
theorem rowsTo_len (v : List Pt) (m : Nat) : (rowsTo v m).length = m := by
  induction m with
  | zero => rfl
  | succ m ih => simp [rowsTo, ih]
/-- The numbers of the corners ahead of k, and the next one. -/
def cornTo (B : List Rw) : Nat → List Nat × Int
  | 0 => ([], 0)
  | k + 1 => if (k : Int) = (cornTo B k).2 then ((cornTo B k).1 ++ [k], (k : Int) + (B.getD (B.length - 1 - k) (0, 0, 0)).2.2) else cornTo B k
/-- The corners of a cycle. -/
def cornN (c : List Pt) : List Nat := (cornTo (rowsTo (c ++ [fstP c]) (c.length + 1)) c.length).1
def cornL (c : List Pt) : List Pt := (cornN c).map fun i => c.getD i (0, 0)
end Go.Proofs.Ytljfiefobnncaaa.Qm
