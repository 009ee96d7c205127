import Derived.Test.YtljfiefobnncaaaK14
import Derived.Test.YtljfiefobnncaaaK03
import Derived.Test.YtljfiefobnncaaaK05

/- The polygon of a cycle as the program finds it, as functions. Nothing of the program stands here. -/
namespace Go.Proofs.Ytljfiefobnncaaa.Qm

abbrev Pt : Type := Int × Int
/-- lines, cost, span. -/
abbrev Rw : Type := Int × Int × Int

theorem wdZ_in (p q : Pt) (x y : Int) : -1 ≤ wdZ p q x y ∧ wdZ p q x y ≤ 1 := by
  unfold wdZ; split
  · omega
  · split <;> omega
/-- The winding number, line by line. -/
def wsum (l : List Pt) (x y : Int) : Nat → Int
  | 0 => 0
  | k + 1 => wsum l x y k + wdZ (pr l k) (l.getD k (0, 0)) x y
theorem wsum_in (l : List Pt) (x y : Int) (k : Nat) : -(k : Int) ≤ wsum l x y k ∧ wsum l x y k ≤ k := by
  induction k with
  | zero => simp [wsum]
  | succ k ih => have := wdZ_in (pr l k) (l.getD k (0, 0)) x y; simp only [wsum]; omega
/-- The least and the greatest of the first k. -/
def loF (g : Pt → Int) (l : List Pt) : Nat → Int
  | 0 => g (l.getD 0 (0, 0))
  | k + 1 => if g (l.getD k (0, 0)) < loF g l k then g (l.getD k (0, 0)) else loF g l k
def hiF (g : Pt → Int) (l : List Pt) : Nat → Int
  | 0 => g (l.getD 0 (0, 0))
  | k + 1 => if hiF g l k < g (l.getD k (0, 0)) then g (l.getD k (0, 0)) else hiF g l k
theorem loF_one (g : Pt → Int) (l : List Pt) : loF g l 1 = g (l.getD 0 (0, 0)) := by simp [loF]
theorem hiF_one (g : Pt → Int) (l : List Pt) : hiF g l 1 = g (l.getD 0 (0, 0)) := by simp [hiF]
theorem loF_le (g : Pt → Int) (l : List Pt) : ∀ k i, i < k → loF g l k ≤ g (l.getD i (0, 0))
  | 0, _, h => absurd h (Nat.not_lt_zero _)
  | k + 1, i, h => by
    rcases Nat.lt_or_ge i k with h1 | h1
    · have := loF_le g l k i h1
      simp only [loF]; split <;> omega
    · obtain rfl : i = k := by omega
      simp only [loF]; split <;> omega
theorem le_hiF (g : Pt → Int) (l : List Pt) : ∀ k i, i < k → g (l.getD i (0, 0)) ≤ hiF g l k
  | 0, _, h => absurd h (Nat.not_lt_zero _)
  | k + 1, i, h => by
    rcases Nat.lt_or_ge i k with h1 | h1
    · have := le_hiF g l k i h1
      simp only [hiF]; split <;> omega
    · obtain rfl : i = k := by omega
      simp only [hiF]; split <;> omega
theorem loF_at (g : Pt → Int) (l : List Pt) : ∀ k, ∃ i, (i < k ∨ i = 0) ∧ loF g l k = g (l.getD i (0, 0))
  | 0 => ⟨0, .inr rfl, rfl⟩
  | k + 1 => by
    obtain ⟨i, hi, e⟩ := loF_at g l k
    simp only [loF]
    split
    · exact ⟨k, .inl (by omega), rfl⟩
    · exact ⟨i, by omega, e⟩
theorem hiF_at (g : Pt → Int) (l : List Pt) : ∀ k, ∃ i, (i < k ∨ i = 0) ∧ hiF g l k = g (l.getD i (0, 0))
  | 0 => ⟨0, .inr rfl, rfl⟩
  | k + 1 => by
    obtain ⟨i, hi, e⟩ := hiF_at g l k
    simp only [hiF]
    split
    · exact ⟨k, .inl (by omega), rfl⟩
    · exact ⟨i, by omega, e⟩
theorem loF_in {l : List Pt} (h : Small l) (k : Nat) : (0 ≤ loF Prod.fst l k ∧ loF Prod.fst l k ≤ 32) ∧ (0 ≤ loF Prod.snd l k ∧ loF Prod.snd l k ≤ 32) := by
  obtain ⟨i, _, e⟩ := loF_at Prod.fst l k
  obtain ⟨j, _, e2⟩ := loF_at Prod.snd l k
  have a := h.at i
  have b := h.at j
  rw [e, e2]; omega
theorem hiF_in {l : List Pt} (h : Small l) (k : Nat) : (0 ≤ hiF Prod.fst l k ∧ hiF Prod.fst l k ≤ 32) ∧ (0 ≤ hiF Prod.snd l k ∧ hiF Prod.snd l k ≤ 32) := by
  obtain ⟨i, _, e⟩ := hiF_at Prod.fst l k
  obtain ⟨j, _, e2⟩ := hiF_at Prod.snd l k
  have a := h.at i
  have b := h.at j
  rw [e, e2]; omega

def fstP (l : List Pt) : Pt := l.getD 0 (0, 0)
def lstP (l : List Pt) : Pt := l.getD (l.length - 1) (0, 0)
/-- Is all well at the middle of (x, y)? -/
def okAt (l : List Pt) (x y : Int) : Bool := !thB (lstP l) (fstP l) x y && decide (wsum l x y l.length = 0)
/-- May one line stand for the points? -/
def fitB (l : List Pt) : Bool :=
  (List.range (hiF Prod.snd l l.length - loF Prod.snd l l.length).toNat).all fun j => (List.range (hiF Prod.fst l l.length - loF Prod.fst l l.length).toNat).all fun i =>
    okAt l (loF Prod.fst l l.length + (i : Nat)) (loF Prod.snd l l.length + (j : Nat))
theorem fitB_iff (l : List Pt) : fitB l = true ↔ ∀ x y, loF Prod.fst l l.length ≤ x → x < hiF Prod.fst l l.length → loF Prod.snd l l.length ≤ y → y < hiF Prod.snd l l.length → okAt l x y = true := by
  unfold fitB
  simp only [List.all_eq_true, List.mem_range]
  constructor
  · intro h x y x0 x1 y0 y1
    have := h (y - loF Prod.snd l l.length).toNat (by omega) (x - loF Prod.fst l l.length).toNat (by omega)
    rwa [show loF Prod.fst l l.length + ((x - loF Prod.fst l l.length).toNat : Int) = x from by omega, show loF Prod.snd l l.length + ((y - loF Prod.snd l l.length).toNat : Int) = y from by omega] at this
  · intro h j hj i hi
    exact h _ _ (by omega) (by omega) (by omega) (by omega)

/-- How far p is off the line from a to z, times its length. -/
def offZ (a z p : Pt) : Int := (z.1 - a.1) * (p.2 - a.2) - (z.2 - a.2) * (p.1 - a.1)
def absZ (n : Int) : Int := if n < 0 then -n else n
def costTo (a z : Pt) (l : List Pt) : Nat → Int
  | 0 => 0
  | k + 1 => costTo a z l k + absZ (offZ a z (l.getD k (0, 0)))
def costOf (l : List Pt) : Int := costTo (fstP l) (lstP l) l l.length

theorem mul_in {a b : Int} (h1 : -32 ≤ a) (h2 : a ≤ 32) (h3 : -32 ≤ b) (h4 : b ≤ 32) : -1024 ≤ a * b ∧ a * b ≤ 1024 := by
  have p : ∀ {u v : Int}, 0 ≤ u → u ≤ 32 → 0 ≤ v → v ≤ 32 → 0 ≤ u * v ∧ u * v ≤ 1024 := fun a b c d => mul_small a b c d
  rcases Int.le_total 0 a with ha | ha <;> rcases Int.le_total 0 b with hb | hb
  · have := p ha h2 hb h4; omega
  · have := p ha h2 (show 0 ≤ -b by omega) (by omega); rw [Int.mul_neg] at this; omega
  · have := p (show 0 ≤ -a by omega) (by omega) hb h4; rw [Int.neg_mul] at this; omega
  · have := p (show 0 ≤ -a by omega) (by omega) (show 0 ≤ -b by omega) (by omega); rw [Int.neg_mul_neg] at this; omega
theorem costTo_in {l : List Pt} (h : Small l) (a z : Pt) (ha : 0 ≤ a.1 ∧ a.1 ≤ 32 ∧ 0 ≤ a.2 ∧ a.2 ≤ 32) (hz : 0 ≤ z.1 ∧ z.1 ≤ 32 ∧ 0 ≤ z.2 ∧ z.2 ≤ 32) (k : Nat) : 0 ≤ costTo a z l k ∧ costTo a z l k ≤ 2048 * k := by
  induction k with
  | zero => simp [costTo]
  | succ k ih =>
    have p := h.at k
    have m1 := mul_in (a := z.1 - a.1) (b := (l.getD k (0, 0)).2 - a.2) (by omega) (by omega) (by omega) (by omega)
    have m2 := mul_in (a := z.2 - a.2) (b := (l.getD k (0, 0)).1 - a.1) (by omega) (by omega) (by omega) (by omega)
    simp only [costTo]
    unfold absZ offZ
    split <;> omega
theorem Small.take {l : List Pt} (h : Small l) (n : Nat) : Small (l.take n) := fun p hp => h p (List.mem_of_mem_take hp)
theorem Small.drop {l : List Pt} (h : Small l) (n : Nat) : Small (l.drop n) := fun p hp => h p (List.mem_of_mem_drop hp)
theorem costOf_in {l : List Pt} (h : Small l) : 0 ≤ costOf l ∧ costOf l ≤ 2048 * l.length := costTo_in h _ _ (h.at _) (h.at _) _

/-- Is a better than b? -/
def betB (a b : Rw) : Bool := decide (a.1 < b.1 ∨ (a.1 = b.1 ∧ a.2.1 < b.2.1))
/-- The best of the rows whose first line stands for up to k sides. -/
def accR (l : List Pt) (B : List Rw) : Nat → Rw
  | 0 => (0, 0, 0)
  | k + 1 =>
    let r := B.getD (B.length - (k + 1)) (0, 0, 0)
    let r' : Rw := (r.1 + 1, r.2.1 + costOf (l.take (k + 2)), (k : Int) + 1)
    if fitB (l.take (k + 2)) && (decide (k = 0) || betB r' (accR l B k)) then r' else accR l B k
/-- How many spans are tried. -/
def spn (n b : Nat) : Nat := min 12 (min (n - 1) b)
/-- The rows from the last m points on, the one from the last point first. -/
def rowsTo (v : List Pt) : Nat → List Rw
  | 0 => []
  | m + 1 => rowsTo v m ++ [accR (v.drop (v.length - 1 - m)) (rowsTo v m) (spn (m + 1) m)]
theorem rowsTo_len (v : List Pt) (m : Nat) : (rowsTo v m).length = m := by
  induction m with
  | zero => rfl
  | succ m ih => simp [rowsTo, ih]
/-- The numbers of the corners ahead of k, and the next one. -/
def cornTo (B : List Rw) : Nat → List Nat × Int
  | 0 => ([], 0)
  | k + 1 => if (k : Int) = (cornTo B k).2 then ((cornTo B k).1 ++ [k], (k : Int) + (B.getD (B.length - 1 - k) (0, 0, 0)).2.2) else cornTo B k
/-- The corners of a cycle. -/
def cornN (c : List Pt) : List Nat := (cornTo (rowsTo (c ++ [fstP c]) (c.length + 1)) c.length).1
def cornL (c : List Pt) : List Pt := (cornN c).map fun i => c.getD i (0, 0)
end Go.Proofs.Ytljfiefobnncaaa.Qm

/- Package shape: reaches, toTheRight, windingOf, GoesThrough. -/
namespace Go.Proofs.Ytljfiefobnncaaa
open Go.RowKit

/-- A point of a bitmap; a pixel in its reach. -/
def PtIn (p : Int × Int) : Prop := 0 ≤ p.1 ∧ p.1 ≤ 32 ∧ 0 ≤ p.2 ∧ p.2 ≤ 32
def two (w : World) (p q : Int × Int) : World := (w.alloc (.cells #[.int .i64 p.1, .int .i64 p.2] 47)).alloc (.cells #[.int .i64 q.1, .int .i64 q.2] 47)
theorem two_below (w : World) (p q : Int × Int) : Below w.heap.size w (two w p q) := ((Below.refl _ _).alloc (Nat.le_refl _) _).alloc (by simp) _

set_option maxHeartbeats 400000 in
theorem reaches_any (p q : Int × Int) (y : Int) (w : World) :
    Calls Try.prog 101 #[.agg #[.int .i64 p.1, .int .i64 p.2], .agg #[.int .i64 q.1, .int .i64 q.2], .int .i64 y] w fun e w' => e = .returned (.bool (Qm.reaB p q y)) ∧ Below w.heap.size w w' := by
  obtain ⟨px, py⟩ := p
  obtain ⟨qx, qy⟩ := q
  dsimp only
  cases hd1 : decide (py ≤ y) <;> cases hd2 : decide (qy ≤ y)
  all_goals (
    have D1 := hid hd1
    have D2 := hid hd2
    go_enter Try.func101, Try.ntmps101
    go_wp2
    go_ret
    exact ⟨ret_bool (by unfold Qm.reaB; rw [D1.out, D2.out]; rfl), by go_grown⟩)

theorem far_in {p q : Int × Int} {x y : Int} (hp : PtIn p) (hq : PtIn q) (x0 : -32 ≤ x) (x1 : x ≤ 64) (y0 : -32 ≤ y) (y1 : y ≤ 64) : (-20000 ≤ (2 * (p.1 - x) - 1) * (q.2 - p.2) ∧ (2 * (p.1 - x) - 1) * (q.2 - p.2) ≤ 20000) ∧ (-20000 ≤ (2 * (y - p.2) + 1) * (q.1 - p.1) ∧ (2 * (y - p.2) + 1) * (q.1 - p.1) ≤ 20000) := by
  unfold PtIn at hp hq
  have m : ∀ {a b : Int}, -200 ≤ a → a ≤ 200 → -32 ≤ b → b ≤ 32 → -20000 ≤ a * b ∧ a * b ≤ 20000 := by
    intro a b a0 a1 b0 b1
    have p : ∀ {u v : Int}, 0 ≤ u → u ≤ 200 → 0 ≤ v → v ≤ 32 → 0 ≤ u * v ∧ u * v ≤ 6400 := fun a b c d => ⟨Int.mul_nonneg a c, Int.mul_le_mul b d c (by omega)⟩
    rcases Int.le_total 0 a with ha | ha <;> rcases Int.le_total 0 b with hb | hb
    · have := p ha a1 hb b1; omega
    · have := p ha a1 (show 0 ≤ -b by omega) (by omega); rw [Int.mul_neg] at this; omega
    · have := p (show 0 ≤ -a by omega) (by omega) hb b1; rw [Int.neg_mul] at this; omega
    · have := p (show 0 ≤ -a by omega) (by omega) (show 0 ≤ -b by omega) (by omega); rw [Int.neg_mul_neg] at this; omega
  exact ⟨m (by omega) (by omega) (by omega) (by omega), m (by omega) (by omega) (by omega) (by omega)⟩

set_option maxHeartbeats 1000000 in
theorem right_any (p q : Int × Int) (x y : Int) (hp : PtIn p) (hq : PtIn q) (x0 : -32 ≤ x) (x1 : x ≤ 64) (y0 : -32 ≤ y) (y1 : y ≤ 64) (w : World) :
    Calls Try.prog 102 #[.agg #[.int .i64 p.1, .int .i64 p.2], .agg #[.int .i64 q.1, .int .i64 q.2], .int .i64 x, .int .i64 y] w fun e w' => e = .returned (.int .i64 (Qm.rtZ p q x y)) ∧ Below w.heap.size w w' := by
  have F := far_in hp hq x0 x1 y0 y1
  have E := hid (show Qm.rtZ p q x y = if q.2 < p.2 then -((2 * (p.1 - x) - 1) * (q.2 - p.2) + (2 * (y - p.2) + 1) * (q.1 - p.1)) else (2 * (p.1 - x) - 1) * (q.2 - p.2) + (2 * (y - p.2) + 1) * (q.1 - p.1) from rfl)
  unfold PtIn at hp hq
  obtain ⟨px, py⟩ := p
  obtain ⟨qx, qy⟩ := q
  dsimp only at hp hq F E ⊢
  obtain ⟨u, hu⟩ : ∃ u, (2 * (px - x) - 1) * (qy - py) = u := ⟨_, rfl⟩
  obtain ⟨v, hv⟩ : ∃ v, (2 * (y - py) + 1) * (qx - px) = v := ⟨_, rfl⟩
  rw [hu, hv] at F E
  by_cases h : qy < py
  · rw [if_pos h] at E
    go_enter Try.func102, Try.ntmps102
    go_wp2
    go_ret
    exact ⟨ret_int (by rw [E.out]), by go_grown⟩
  · rw [if_neg h] at E
    go_enter Try.func102, Try.ntmps102
    go_wp2
    go_ret
    exact ⟨ret_int (by rw [E.out]), by go_grown⟩

set_option maxHeartbeats 1000000 in
theorem windingOf_any (p q : Int × Int) (x y : Int) (hp : PtIn p) (hq : PtIn q) (x0 : -32 ≤ x) (x1 : x ≤ 64) (y0 : -32 ≤ y) (y1 : y ≤ 64) (w : World) :
    Calls Try.prog 91 #[.agg #[.int .i64 p.1, .int .i64 p.2], .agg #[.int .i64 q.1, .int .i64 q.2], .int .i64 x, .int .i64 y] w fun e w' => e = .returned (.int .i64 (Qm.wdZ p q x y)) ∧ Below w.heap.size w w' := by
  have RE := hid (fun W' => reaches_any p q y W')
  have RI := hid (fun W' => right_any p q x y hp hq x0 x1 y0 y1 W')
  have E := hid (show Qm.wdZ p q x y = if Qm.reaB p q y = false ∨ Qm.rtZ p q x y ≤ 0 then 0 else if q.2 < p.2 then 1 else -1 from rfl)
  obtain ⟨px, py⟩ := p
  obtain ⟨qx, qy⟩ := q
  dsimp only at RE RI E ⊢
  obtain ⟨r, hr⟩ : ∃ r, Qm.reaB (px, py) (qx, qy) y = r := ⟨_, rfl⟩
  obtain ⟨z, hz⟩ : ∃ z, Qm.rtZ (px, py) (qx, qy) x y = z := ⟨_, rfl⟩
  rw [hr, hz] at E
  rw [hr] at RE
  rw [hz] at RI
  clear hr hz
  go_enter Try.func91, Try.ntmps91
  go_wp2_with fail
  refine (RE.out _).mono ?_
  rintro e w1 ⟨rfl, hb⟩
  have B1 := hid (show Below w.heap.size w w1 from Below.trans (b := _) (by go_grown) (hb.mono (by simp; omega)))
  have z1 := hb.size
  simp at z1
  obtain ⟨hc, hf⟩ := bcell hb
  clear hb
  cases r
  · go_wp2
    go_ret
    exact ⟨ret_int (by rw [E.out, if_pos (by simp)]), B1.out⟩
  · go_wp2_with fail
    refine (RI.out _).mono ?_
    rintro e w2 ⟨rfl, hb⟩
    have B2 := hid (show Below w.heap.size w w2 from B1.out.trans (hb.mono (by omega)))
    have hc2 := (bcell hb).1
    have q0 := (hc2 (w.heap.size + 1) 1 (by omega)).trans (hc (w.heap.size + 1) 1 (by simp))
    have q1 := (hc2 w.heap.size 1 (by omega)).trans (hc w.heap.size 1 (by simp; omega))
    simp at q0 q1
    clear hb hc hf hc2
    by_cases hz : z ≤ 0
    · have dz : decide (z ≤ 0) = true := by simpa using hz
      go_wp2
      go_ret
      exact ⟨ret_int (by rw [E.out, if_pos (.inr hz)]), B2.out⟩
    · have dz : decide (z ≤ 0) = false := by simpa using hz
      rw [if_neg (by simp; omega)] at E
      by_cases hy : qy < py
      · rw [if_pos hy] at E
        go_wp2
        go_ret
        exact ⟨ret_int E.out.symm, B2.out⟩
      · rw [if_neg hy] at E
        go_wp2
        go_ret
        exact ⟨ret_int E.out.symm, B2.out⟩

set_option maxHeartbeats 1000000 in
theorem through_any (p q : Int × Int) (x y : Int) (hp : PtIn p) (hq : PtIn q) (x0 : -32 ≤ x) (x1 : x ≤ 64) (y0 : -32 ≤ y) (y1 : y ≤ 64) (w : World) :
    Calls Try.prog 109 #[.agg #[.int .i64 p.1, .int .i64 p.2], .agg #[.int .i64 q.1, .int .i64 q.2], .int .i64 x, .int .i64 y] w fun e w' => e = .returned (.bool (Qm.thB p q x y)) ∧ Below w.heap.size w w' := by
  have RE := hid (fun W' => reaches_any p q y W')
  have RI := hid (fun W' => right_any p q x y hp hq x0 x1 y0 y1 W')
  have E := hid (show Qm.thB p q x y = (Qm.reaB p q y && decide (Qm.rtZ p q x y = 0)) from rfl)
  obtain ⟨px, py⟩ := p
  obtain ⟨qx, qy⟩ := q
  dsimp only at RE RI E ⊢
  obtain ⟨r, hr⟩ : ∃ r, Qm.reaB (px, py) (qx, qy) y = r := ⟨_, rfl⟩
  obtain ⟨z, hz⟩ : ∃ z, Qm.rtZ (px, py) (qx, qy) x y = z := ⟨_, rfl⟩
  rw [hr, hz] at E
  rw [hr] at RE
  rw [hz] at RI
  clear hr hz
  go_enter Try.func109, Try.ntmps109
  go_wp2_with fail
  refine (RE.out _).mono ?_
  rintro e w1 ⟨rfl, hb⟩
  have B1 := hid (show Below w.heap.size w w1 from Below.trans (b := _) (by go_grown) (hb.mono (by simp; omega)))
  have z1 := hb.size
  simp at z1
  obtain ⟨hc, hf⟩ := bcell hb
  clear hb
  cases r
  · go_wp2
    go_ret
    exact ⟨ret_bool (by rw [E.out]; rfl), B1.out⟩
  · go_wp2_with fail
    refine (RI.out _).mono ?_
    rintro e w2 ⟨rfl, hb⟩
    have B2 := hid (show Below w.heap.size w w2 from B1.out.trans (hb.mono (by omega)))
    clear hb hc hf
    by_cases hz : z = 0
    · subst hz
      go_wp2
      go_ret
      exact ⟨ret_bool (by rw [E.out]; rfl), B2.out⟩
    · have dz : (z == 0) = false := by simpa using hz
      rw [show decide (z = 0) = false by simpa using hz] at E
      go_wp2
      go_ret
      exact ⟨ret_bool (by rw [E.out]; rfl), B2.out⟩
end Go.Proofs.Ytljfiefobnncaaa

/- Package shape: Winding; package polygons: bounds, size, cost, isBetter. -/
namespace Go.Proofs.Ytljfiefobnncaaa
open Go.RowKit

/-- The points of a row stand at block g, from cell o on. -/
def PtsO (g o : Nat) (l : List (Int × Int)) (w : World) : Prop := g < w.heap.size ∧ ∀ j, j < l.length → w.cell? ⟨g, o + j * 2, none⟩ = some (.int .i64 (l.getD j (0, 0)).1) ∧ w.cell? ⟨g, o + j * 2 + 1, none⟩ = some (.int .i64 (l.getD j (0, 0)).2)
theorem PtsO.on {g o : Nat} {l : List (Int × Int)} {w w' : World} {B : Nat} (h : PtsO g o l w) (hb : Below B w w') (hg : g < B) : PtsO g o l w' :=
  ⟨Nat.lt_of_lt_of_le h.1 hb.size, fun j hj => ⟨(hb.cell (p := ⟨g, o + j * 2, none⟩) hg).trans (h.2 j hj).1, (hb.cell (p := ⟨g, o + j * 2 + 1, none⟩) hg).trans (h.2 j hj).2⟩⟩
theorem PtsAt.o {g : Nat} {l : List (Int × Int)} {w : World} (h : PtsAt g l w) : PtsO g 0 l w := ⟨h.1, fun j hj => by have := h.2 j hj; simpa using this⟩
theorem PtsO.take {g o : Nat} {l : List (Int × Int)} {w : World} (h : PtsO g o l w) (n : Nat) : PtsO g o (l.take n) w := ⟨h.1, fun j hj => by
  simp only [List.length_take] at hj
  have := h.2 j (by omega)
  rw [show (l.take n).getD j (0, 0) = l.getD j (0, 0) from by simp only [List.getD_eq_getElem?_getD]; rw [List.getElem?_take_of_lt (by omega)]]
  exact this⟩
theorem PtsO.drop {g o : Nat} {l : List (Int × Int)} {w : World} (h : PtsO g o l w) (n : Nat) : PtsO g (o + n * 2) (l.drop n) w := ⟨h.1, fun j hj => by
  simp only [List.length_drop] at hj
  have := h.2 (n + j) (by omega)
  rw [show (l.drop n).getD j (0, 0) = l.getD (n + j) (0, 0) from by simp only [List.getD_eq_getElem?_getD]; rw [List.getElem?_drop]]
  rw [show o + n * 2 + j * 2 = o + (n + j) * 2 from by omega]
  exact this⟩
theorem BoxP.on {B B' : Nat} {p : Int × Int} {w w' : World} (h : BoxP B p w) (hb : Below B' w w') (hB : B < B') : BoxP B p w' :=
  ⟨(hb.cell (p := ⟨B, 0, none⟩) hB).trans h.1, (hb.cell (p := ⟨B, 1, none⟩) hB).trans h.2.1, (hb.frozen (p := ⟨B, 0, none⟩) hB).trans h.2.2.1, (hb.frozen (p := ⟨B, 1, none⟩) hB).trans h.2.2.2.1, Nat.lt_of_lt_of_le h.2.2.2.2 hb.size⟩
theorem small_in {l : List (Int × Int)} (h : Qm.Small l) (k : Nat) : PtIn (l.getD k (0, 0)) := h.at k

set_option maxHeartbeats 1000000 in
theorem winding_big (g o n cap : Nat) (l : List (Int × Int)) (hn : n = l.length) (h0 : 0 < n) (hs : Qm.Small l) (hn2 : n ≤ 140737488355328) (x y : Int) (x0 : -32 ≤ x) (x1 : x ≤ 64) (y0 : -32 ≤ y) (y1 : y ≤ 64) (w : World) (hP : PtsO g o l w) :
    Calls Try.prog 83 #[.slice (some ⟨g, o, none⟩) n cap, .int .i64 x, .int .i64 y] w fun e w' => e = .returned (.int .i64 (Qm.wsum l x y n)) ∧ Below w.heap.size w w' := by
  have HP := hid hP
  have hg := hP.1
  have HN := hid hn
  obtain ⟨q0, q1⟩ := hP.2 (n - 1) (by omega)
  obtain ⟨n1, hn1⟩ : ∃ n1, n = n1 + 1 := ⟨n - 1, by omega⟩
  subst hn1
  have p0 := Qm.pr_zero l (by omega)
  rw [← hn] at p0
  simp only [Nat.add_sub_cancel] at q0 q1 p0
  rw [← p0] at q0 q1
  have e0 : ((n1 : Int) + 1 == 0) = false := by simp; omega
  clear hP hn p0
  go_enter Try.func83, Try.ntmps83
  go_wp2_with fail
  go_loopw [7, 9] (fun sm i wr => ∃ k : Nat, k ≤ n1 + 1 ∧ i = .int .i64 k ∧ sm = .int .i64 (Qm.wsum l x y k) ∧ BoxP w.heap.size (Qm.pr l k) wr ∧ Below w.heap.size w wr) (fun _ i _ => n1 + 1 - (intOf i).toNat)
  case atStart => exact ⟨0, by omega, rfl, rfl, ⟨by simp, by simp, by simp, by simp, by simp⟩, by go_grown⟩
  case round =>
    clear q0 q1 e0
    obtain ⟨k, hk, rfl, rfl, hbx, hb⟩ := hrel
    have HB := hid hb
    have ts := Qm.wsum_in l x y k
    by_cases hlt : k < n1 + 1
    · obtain ⟨r0, r1⟩ := (HP.out.on hb hg).2 k (by have := HN.out; omega)
      have hlt' : (k : Int) < (n1 : Int) + 1 := by omega
      have E1 := hid (Qm.pr_succ l k (by have := HN.out; omega))
      have WO := hid (fun W' => windingOf_any (Qm.pr l k) (l.getD k (0, 0)) x y (small_in hs _) (small_in hs _) x0 x1 y0 y1 W')
      have E2 : Hid (Qm.wsum l x y (k + 1) = Qm.wsum l x y k + Qm.wdZ (Qm.pr l k) (l.getD k (0, 0)) x y) := rfl
      have zd := Qm.wdZ_in (Qm.pr l k) (l.getD k (0, 0)) x y
      obtain ⟨z, hz⟩ : ∃ z, Qm.wdZ (Qm.pr l k) (l.getD k (0, 0)) x y = z := ⟨_, rfl⟩
      rw [hz] at E2 WO zd
      obtain ⟨⟨pa, pb⟩, hpp⟩ : ∃ p, p = Qm.pr l k := ⟨_, rfl⟩
      obtain ⟨⟨qa, qb⟩, hqq⟩ : ∃ p, p = l.getD k (0, 0) := ⟨_, rfl⟩
      rw [← hpp] at hbx WO
      rw [← hqq] at r0 r1 E1 WO
      dsimp only at r0 r1 WO
      have BX := hid hbx
      obtain ⟨b0, b1, f0, f1, bz⟩ := hbx
      dsimp only at b0 b1
      clear hb hpp hqq hz
      go_wp2_with fail
      refine (WO.out _).mono ?_
      rintro e w2 ⟨rfl, hb⟩
      have B2 := hid (show Below w.heap.size w w2 from (HB.out.alloc (by omega) _).trans (hb.mono (by simp; omega)))
      have z2 := hb.size
      simp at z2
      have b12 : Below wr.heap.size wr w2 := ((Below.refl _ _).alloc (Nat.le_refl _) _).trans (hb.mono (by simp))
      obtain ⟨c0, c1, g0, g1, -⟩ := BX.out.on b12 bz
      dsimp only at c0 c1
      have hc := (bcell hb).1
      have t0 := hc wr.heap.size 0 (by simp)
      have t1 := hc wr.heap.size 1 (by simp)
      simp at t0 t1
      clear hb hc b0 b1 f0 f1 r0 r1 b12
      go_wp2
      go_roundw
      case rel => exact ⟨k + 1, by omega, by go_num, by rw [E2.out], by rw [E1.out]; exact ⟨by simp [go_sem, World.cell?_setCell_other, World.cell?_setCell_same', *], by simp [go_sem, World.cell?_setCell_other, World.cell?_setCell_same', *], by simpa using g0, by simpa using g1, by simp; omega⟩, (B2.out.setCell (by simp) _).setCell (by simp) _⟩
      case measure => simp [intOf]; omega
    · have ek : k = n1 + 1 := by omega
      subst ek
      go_wp2
      go_ret
      exact ⟨rfl, HB.out⟩

theorem winding_any (g o n cap : Nat) (l : List (Int × Int)) (hn : n = l.length) (h0 : 0 < n) (hs : Qm.Small l) (hn2 : n ≤ 4357) (x y : Int) (x0 : -32 ≤ x) (x1 : x ≤ 64) (y0 : -32 ≤ y) (y1 : y ≤ 64) (w : World) (hP : PtsO g o l w) :
    Calls Try.prog 83 #[.slice (some ⟨g, o, none⟩) n cap, .int .i64 x, .int .i64 y] w fun e w' => e = .returned (.int .i64 (Qm.wsum l x y n)) ∧ Below w.heap.size w w' :=
  winding_big g o n cap l hn h0 hs (by omega) x y x0 x1 y0 y1 w hP

end Go.Proofs.Ytljfiefobnncaaa

/- Package polygons: bounds, size, cost, isBetter. -/
namespace Go.Proofs.Ytljfiefobnncaaa
open Go.RowKit

set_option maxHeartbeats 400000 in
theorem size_any (n : Int) (h0 : -9223372036854775807 ≤ n) (h1 : n ≤ 9223372036854775807) (w : World) :
    Calls Try.prog 79 #[.int .i64 n] w fun e w' => e = .returned (.int .i64 (Qm.absZ n)) ∧ w' = w := by
  by_cases h : n < 0
  · have E := hid (show Qm.absZ n = -n from if_pos h)
    go_enter Try.func79, Try.ntmps79
    go_wp2
    go_ret
    exact ⟨ret_int E.out.symm, rfl⟩
  · have E := hid (show Qm.absZ n = n from if_neg h)
    go_enter Try.func79, Try.ntmps79
    go_wp2
    go_ret
    exact ⟨ret_int E.out.symm, rfl⟩

def rwV (r : Qm.Rw) : Value := .agg #[.int .i64 r.1, .int .i64 r.2.1, .int .i64 r.2.2]
set_option maxHeartbeats 400000 in
theorem isBetter_any (a b : Qm.Rw) (w : World) :
    Calls Try.prog 100 #[rwV a, rwV b] w fun e w' => e = .returned (.bool (Qm.betB a b)) ∧ Below w.heap.size w w' := by
  obtain ⟨a0, a1, a2⟩ := a
  obtain ⟨b0, b1, b2⟩ := b
  unfold rwV
  dsimp only
  by_cases h : a0 = b0
  · subst h
    cases hd : decide (a1 < b1)
    · have D := hid (show Qm.betB (a0, a1, a2) (a0, b1, b2) = false by unfold Qm.betB; simp at hd ⊢; omega)
      go_enter Try.func100, Try.ntmps100
      go_wp2
      go_ret
      exact ⟨ret_bool D.out.symm, by go_grown⟩
    · have D := hid (show Qm.betB (a0, a1, a2) (a0, b1, b2) = true by unfold Qm.betB; simp at hd ⊢; omega)
      go_enter Try.func100, Try.ntmps100
      go_wp2
      go_ret
      exact ⟨ret_bool D.out.symm, by go_grown⟩
  · have hb : (a0 == b0) = false := by simpa using h
    cases hd : decide (a0 < b0)
    · have D := hid (show Qm.betB (a0, a1, a2) (b0, b1, b2) = false by unfold Qm.betB; simp at hd ⊢; omega)
      go_enter Try.func100, Try.ntmps100
      go_wp2
      go_ret
      exact ⟨ret_bool D.out.symm, by go_grown⟩
    · have D := hid (show Qm.betB (a0, a1, a2) (b0, b1, b2) = true by unfold Qm.betB; simp at hd ⊢; omega)
      go_enter Try.func100, Try.ntmps100
      go_wp2
      go_ret
      exact ⟨ret_bool D.out.symm, by go_grown⟩

theorem BoxP.set0 {B : Nat} {a b x : Int} {w : World} (h : BoxP B (a, b) w) : BoxP B (x, b) (w.setCell ⟨B, 0, none⟩ (.int .i64 x)) :=
  ⟨World.cell?_setCell_same _ _ _ h.1, (World.cell?_setCell_other _ _ _ _ (by simp)).trans h.2.1, by simpa using h.2.2.1, by simpa using h.2.2.2.1, by rw [World.size_setCell]; exact h.2.2.2.2⟩
theorem BoxP.set1 {B : Nat} {a b x : Int} {w : World} (h : BoxP B (a, b) w) : BoxP B (a, x) (w.setCell ⟨B, 1, none⟩ (.int .i64 x)) :=
  ⟨(World.cell?_setCell_other _ _ _ _ (by simp)).trans h.1, World.cell?_setCell_same _ _ _ h.2.1, by simpa using h.2.2.1, by simpa using h.2.2.2.1, by rw [World.size_setCell]; exact h.2.2.2.2⟩
theorem BoxP.other {B C j : Nat} {p : Int × Int} {v : Value} {w : World} (h : BoxP B p w) (hne : B ≠ C) : BoxP B p (w.setCell ⟨C, j, none⟩ v) :=
  ⟨(World.cell?_setCell_other _ _ _ _ (by intro e; injection e with e _ _; exact hne e.symm)).trans h.1, (World.cell?_setCell_other _ _ _ _ (by intro e; injection e with e _ _; exact hne e.symm)).trans h.2.1, by simpa using h.2.2.1, by simpa using h.2.2.2.1, by rw [World.size_setCell]; exact h.2.2.2.2⟩
theorem BoxP.new {B : Nat} {a b : Int} {w : World} (t : TypeId) (hB : B = w.heap.size) : BoxP B (a, b) (w.alloc (.cells #[.int .i64 a, .int .i64 b] t)) := by
  subst hB; exact ⟨by simp, by simp, by simp, by simp, by simp⟩
theorem BoxP.alloc {B : Nat} {p : Int × Int} {w : World} (h : BoxP B p w) (o : Obj) : BoxP B p (w.alloc o) := h.on ((Below.refl _ _).alloc (Nat.le_refl _) _) h.2.2.2.2

set_option maxRecDepth 4000 in
set_option maxHeartbeats 2000000 in
theorem bounds_any (g o n cap : Nat) (l : List (Int × Int)) (hn : n = l.length) (h0 : 0 < n) (hn2 : n ≤ 4357) (w : World) (hP : PtsO g o l w) :
    Calls Try.prog 108 #[.slice (some ⟨g, o, none⟩) n cap] w fun e w' => e = .returned (.tuple #[.agg #[.int .i64 (Qm.loF Prod.fst l n), .int .i64 (Qm.loF Prod.snd l n)], .agg #[.int .i64 (Qm.hiF Prod.fst l n), .int .i64 (Qm.hiF Prod.snd l n)]]) ∧ Below w.heap.size w w' := by
  have HP := hid hP
  have hg := hP.1
  have HN := hid hn
  obtain ⟨q0, q1⟩ := hP.2 0 (by omega)
  simp only [Nat.zero_mul, Nat.add_zero] at q0 q1
  have h0' : (0 : Int) < (n : Nat) := by omega
  have e0 : ((n : Int) == 0) = false := by simp; omega
  have hg2 : g < w.heap.size + 1 := by omega
  have hg3 : g < w.heap.size + 1 + 1 := by omega
  clear hP hn
  have E1 := hid (Qm.loF_one Prod.fst l)
  have E2 := hid (Qm.loF_one Prod.snd l)
  have E3 := hid (Qm.hiF_one Prod.fst l)
  have E4 := hid (Qm.hiF_one Prod.snd l)
  obtain ⟨⟨fa, fb⟩, hff⟩ : ∃ p, p = l.getD 0 (0, 0) := ⟨_, rfl⟩
  rw [← hff] at q0 q1 E1 E2 E3 E4
  dsimp only at q0 q1 E1 E2 E3 E4
  clear hff
  go_enter Try.func108, Try.ntmps108
  go_wp2_with fail
  go_loopw [6] (fun iv wr => ∃ k : Nat, 1 ≤ k ∧ k ≤ n ∧ iv = .int .i64 k ∧ BoxP w.heap.size (0, 0) wr ∧ BoxP (w.heap.size + 1) (0, 0) wr ∧ BoxP (w.heap.size + 1 + 1) (Qm.loF Prod.fst l k, Qm.loF Prod.snd l k) wr ∧ BoxP (w.heap.size + 1 + 1 + 1) (Qm.hiF Prod.fst l k, Qm.hiF Prod.snd l k) wr ∧ Below w.heap.size w wr) (fun i _ => n - (intOf i).toNat)
  case atStart =>
    refine ⟨1, by omega, by omega, rfl, (((BoxP.new _ rfl).alloc _).alloc _).alloc _, ((BoxP.new _ (by simp)).alloc _).alloc _, ?_, ?_, by go_grown⟩
    · rw [E1.out, E2.out]; exact (BoxP.new _ (by simp)).alloc _
    · rw [E3.out, E4.out]; exact BoxP.new _ (by simp)
  case round =>
    clear q0 q1
    obtain ⟨k, h1, hk, rfl, x0, x1, x2, x3, hb⟩ := hrel
    have HB := hid hb
    have X0 := hid x0
    have X1 := hid x1
    have X2 := hid x2
    have X3 := hid x3
    by_cases hlt : k < n
    · obtain ⟨r0, r1⟩ := (HP.out.on hb hg).2 k (by have := HN.out; omega)
      have hlt' : (k : Int) < (n : Nat) := by omega
      have hgr : g < wr.heap.size := Nat.lt_of_lt_of_le hg hb.size
      have hgr2 : g < wr.heap.size + 1 := by omega
      have L1 := hid (show Qm.loF Prod.fst l (k + 1) = if (l.getD k (0, 0)).1 < Qm.loF Prod.fst l k then (l.getD k (0, 0)).1 else Qm.loF Prod.fst l k from rfl)
      have L2 := hid (show Qm.loF Prod.snd l (k + 1) = if (l.getD k (0, 0)).2 < Qm.loF Prod.snd l k then (l.getD k (0, 0)).2 else Qm.loF Prod.snd l k from rfl)
      have L3 := hid (show Qm.hiF Prod.fst l (k + 1) = if Qm.hiF Prod.fst l k < (l.getD k (0, 0)).1 then (l.getD k (0, 0)).1 else Qm.hiF Prod.fst l k from rfl)
      have L4 := hid (show Qm.hiF Prod.snd l (k + 1) = if Qm.hiF Prod.snd l k < (l.getD k (0, 0)).2 then (l.getD k (0, 0)).2 else Qm.hiF Prod.snd l k from rfl)
      obtain ⟨⟨pa, pb⟩, hpp⟩ : ∃ p, p = l.getD k (0, 0) := ⟨_, rfl⟩
      rw [← hpp] at r0 r1 L1 L2 L3 L4
      obtain ⟨a, ha⟩ : ∃ a, a = Qm.loF Prod.fst l k := ⟨_, rfl⟩
      obtain ⟨b, hb'⟩ : ∃ a, a = Qm.loF Prod.snd l k := ⟨_, rfl⟩
      obtain ⟨c, hc⟩ : ∃ a, a = Qm.hiF Prod.fst l k := ⟨_, rfl⟩
      obtain ⟨d, hd⟩ : ∃ a, a = Qm.hiF Prod.snd l k := ⟨_, rfl⟩
      rw [← ha] at L1
      rw [← hb'] at L2
      rw [← hc] at L3
      rw [← hd] at L4
      rw [← ha, ← hb'] at x2 X2
      rw [← hc, ← hd] at x3 X3
      dsimp only at r0 r1 L1 L2 L3 L4
      obtain ⟨y0, y1, y2, y3, yz⟩ := x2
      obtain ⟨z0, z1, z2, z3, zz⟩ := x3
      dsimp only at y0 y1 z0 z1
      clear hb hpp ha hb' hc hd x0 x1
      by_cases p1 : pa < a <;> by_cases p2 : pb < b <;> by_cases p3 : c < pa <;> by_cases p4 : d < pb
      all_goals (
        simp only [p1, p2, p3, p4, ↓reduceIte] at L1 L2 L3 L4
        go_wp2
        go_roundw
        case rel =>
          refine ⟨k + 1, by omega, by omega, by go_num, ?_, ?_, ?_, ?_, ?_⟩
          · repeat (first | (with_reducible exact X0.out) | (with_reducible refine BoxP.other ?_ (by omega)) | (with_reducible refine BoxP.alloc ?_ _))
          · repeat (first | (with_reducible exact X1.out) | (with_reducible refine BoxP.other ?_ (by omega)) | (with_reducible refine BoxP.alloc ?_ _))
          · rw [L1.out, L2.out]; repeat (first | (with_reducible exact X2.out) | (with_reducible refine BoxP.set0 (a := a) ?_) | (with_reducible refine BoxP.set1 (b := b) ?_) | (with_reducible refine BoxP.other ?_ (by omega)) | (with_reducible refine BoxP.alloc ?_ _))
          · rw [L3.out, L4.out]; repeat (first | (with_reducible exact X3.out) | (with_reducible refine BoxP.set0 (a := c) ?_) | (with_reducible refine BoxP.set1 (b := d) ?_) | (with_reducible refine BoxP.other ?_ (by omega)) | (with_reducible refine BoxP.alloc ?_ _))
          · repeat (first | (with_reducible exact HB.out) | (with_reducible refine Below.setCell ?_ (by dsimp only; omega) _) | (with_reducible refine Below.alloc ?_ (by first | omega | (simp only [World.size_setCell]; omega)) _))
        case measure => simp [intOf]; omega)
    · have ek : k = n := by omega
      subst ek
      obtain ⟨y0, y1, y2, y3, yz⟩ := x2
      obtain ⟨z0, z1, z2, z3, zz⟩ := x3
      obtain ⟨u0, u1, u2, u3, uz⟩ := x0
      obtain ⟨v0, v1, v2, v3, vz⟩ := x1
      dsimp only at y0 y1 z0 z1 u0 u1 v0 v1
      obtain ⟨a, ha⟩ : ∃ a, a = Qm.loF Prod.fst l k := ⟨_, rfl⟩
      obtain ⟨b, hb'⟩ : ∃ a, a = Qm.loF Prod.snd l k := ⟨_, rfl⟩
      obtain ⟨c, hc⟩ : ∃ a, a = Qm.hiF Prod.fst l k := ⟨_, rfl⟩
      obtain ⟨d, hd⟩ : ∃ a, a = Qm.hiF Prod.snd l k := ⟨_, rfl⟩
      rw [← ha] at y0
      rw [← hb'] at y1
      rw [← hc] at z0
      rw [← hd] at z1
      have HA := hid ha
      have HB' := hid hb'
      have HC := hid hc
      have HD := hid hd
      clear X0 X1 X2 X3 hb ha hb' hc hd
      go_wp2
      go_region_held3 (fun w' => w'.cell? ⟨w.heap.size + 1 + 1, 0, none⟩ = some (.int .i64 a) ∧ w'.cell? ⟨w.heap.size + 1 + 1, 1, none⟩ = some (.int .i64 b) ∧ w'.cell? ⟨w.heap.size + 1 + 1 + 1, 0, none⟩ = some (.int .i64 c) ∧ w'.cell? ⟨w.heap.size + 1 + 1 + 1, 1, none⟩ = some (.int .i64 d))
        (first | (simp [go_sem, *]; done) | (go_keep))
        (fail)
      all_goals go_wp2
      all_goals (refine bodyPost_ret (v := .tuple #[.agg #[.int .i64 a, .int .i64 b], .agg #[.int .i64 c, .int .i64 d]]) (by simp [results, Try.results108, go_sem, World.cell?_setCell_other, World.cell?_setCell_same', *]) rfl ?_)
      all_goals exact ⟨by rw [HA.out, HB'.out, HC.out, HD.out], by go_grown; exact HB.out⟩
end Go.Proofs.Ytljfiefobnncaaa

/- Package polygons: cost. -/
namespace Go.Proofs.Ytljfiefobnncaaa
open Go.RowKit

set_option maxRecDepth 4000 in
set_option maxHeartbeats 2000000 in
theorem cost_any (g o n cap : Nat) (l : List (Int × Int)) (hn : n = l.length) (h0 : 0 < n) (hs : Qm.Small l) (hn2 : n ≤ 4357) (w : World) (hP : PtsO g o l w) :
    Calls Try.prog 99 #[.slice (some ⟨g, o, none⟩) n cap] w fun e w' => e = .returned (.int .i64 (Qm.costOf l)) ∧ Below w.heap.size w w' := by
  have HP := hid hP
  have hg := hP.1
  have HN := hid hn
  obtain ⟨q0, q1⟩ := hP.2 0 (by omega)
  obtain ⟨t0, t1⟩ := hP.2 (n - 1) (by omega)
  simp only [Nat.zero_mul, Nat.add_zero] at q0 q1
  have sa := hs.at 0
  have sz := hs.at (n - 1)
  have EC := hid (show Qm.costOf l = Qm.costTo (l.getD 0 (0, 0)) (l.getD (n - 1) (0, 0)) l n by rw [hn]; rfl)
  have CI := hid (fun k => Qm.costTo_in hs (l.getD 0 (0, 0)) (l.getD (n - 1) (0, 0)) sa sz k)
  have CS := hid (fun k => show Qm.costTo (l.getD 0 (0, 0)) (l.getD (n - 1) (0, 0)) l (k + 1) = Qm.costTo (l.getD 0 (0, 0)) (l.getD (n - 1) (0, 0)) l k + Qm.absZ (Qm.offZ (l.getD 0 (0, 0)) (l.getD (n - 1) (0, 0)) (l.getD k (0, 0))) from rfl)
  have C0 := hid (show Qm.costTo (l.getD 0 (0, 0)) (l.getD (n - 1) (0, 0)) l 0 = 0 from rfl)
  obtain ⟨n1, hn1⟩ : ∃ n1, n = n1 + 1 := ⟨n - 1, by omega⟩
  subst hn1
  simp only [Nat.add_sub_cancel] at t0 t1 sz EC CI CS C0
  obtain ⟨⟨fa, fb⟩, hff⟩ : ∃ p, p = l.getD 0 (0, 0) := ⟨_, rfl⟩
  obtain ⟨⟨za, zb⟩, hzz⟩ : ∃ p, p = l.getD n1 (0, 0) := ⟨_, rfl⟩
  rw [← hff] at q0 q1 sa EC CI CS C0
  rw [← hzz] at t0 t1 sz EC CI CS C0
  dsimp only at q0 q1 t0 t1 sa sz
  have e0 : ((n1 : Int) + 1 == 0) = false := by simp; omega
  have hg2 : g < w.heap.size + 1 := by omega
  have hg3 : g < w.heap.size + 1 + 1 := by omega
  clear hP hn hff hzz
  go_enter Try.func99, Try.ntmps99
  go_wp2_with fail
  go_loopw [5, 6] (fun sm iv wr => ∃ k : Nat, k ≤ n1 + 1 ∧ iv = .int .i64 k ∧ sm = .int .i64 (Qm.costTo (fa, fb) (za, zb) l k) ∧ BoxP w.heap.size (fa, fb) wr ∧ BoxP (w.heap.size + 1) (za, zb) wr ∧ Below w.heap.size w wr) (fun _ i _ => n1 + 1 - (intOf i).toNat)
  case atStart => exact ⟨0, by omega, rfl, by rw [C0.out], (BoxP.new _ rfl).alloc _, BoxP.new _ (by simp), by go_grown⟩
  case round =>
    clear q0 q1 t0 t1
    obtain ⟨k, hk, rfl, rfl, x0, x1, hb⟩ := hrel
    have HB := hid hb
    have X0 := hid x0
    have X1 := hid x1
    have ci := CI.out k
    by_cases hlt : k < n1 + 1
    · obtain ⟨r0, r1⟩ := (HP.out.on hb hg).2 k (by have := HN.out; omega)
      have hlt' : (k : Int) < (n1 : Int) + 1 := by omega
      have hgr : g < wr.heap.size := Nat.lt_of_lt_of_le hg hb.size
      have hgr2 : g < wr.heap.size + 1 := by omega
      have sp := hs.at k
      have cs := hid (CS.out k)
      obtain ⟨⟨pa, pb⟩, hpp⟩ : ∃ p, p = l.getD k (0, 0) := ⟨_, rfl⟩
      rw [← hpp] at r0 r1 sp cs
      dsimp only at r0 r1 sp
      have m1 := Qm.mul_in (a := za - fa) (b := pb - fb) (by omega) (by omega) (by omega) (by omega)
      have m2 := Qm.mul_in (a := zb - fb) (b := pa - fa) (by omega) (by omega) (by omega) (by omega)
      have EO := hid (show Qm.offZ (fa, fb) (za, zb) (pa, pb) = (za - fa) * (pb - fb) - (zb - fb) * (pa - fa) from rfl)
      obtain ⟨u, hu⟩ : ∃ u, (za - fa) * (pb - fb) = u := ⟨_, rfl⟩
      obtain ⟨v, hv⟩ : ∃ v, (zb - fb) * (pa - fa) = v := ⟨_, rfl⟩
      rw [hu] at m1 EO
      rw [hv] at m2 EO
      rw [EO.out] at cs
      have SZ := hid (fun W' => size_any (u - v) (by omega) (by omega) W')
      have az : 0 ≤ Qm.absZ (u - v) ∧ Qm.absZ (u - v) ≤ 2048 := by unfold Qm.absZ; split <;> omega
      obtain ⟨y, hy⟩ : ∃ y, Qm.absZ (u - v) = y := ⟨_, rfl⟩
      rw [hy] at cs SZ az
      obtain ⟨y0, y1, y2, y3, yz⟩ := x0
      obtain ⟨z0, z1, z2, z3, zz⟩ := x1
      dsimp only at y0 y1 z0 z1
      obtain ⟨ct, hct⟩ : ∃ ct, ct = Qm.costTo (fa, fb) (za, zb) l k := ⟨_, rfl⟩
      rw [← hct] at ci cs ⊢
      clear hb hpp hy hct
      go_wp2_with fail
      refine (SZ.out _).mono ?_
      rintro e w2 ⟨rfl, e2⟩
      have B2 := hid (show Below w.heap.size w w2 by rw [e2]; exact HB.out.alloc (by omega) _)
      have Y0 := hid (show BoxP w.heap.size (fa, fb) w2 by rw [e2]; exact X0.out.alloc _)
      have Y1 := hid (show BoxP (w.heap.size + 1) (za, zb) w2 by rw [e2]; exact X1.out.alloc _)
      clear e2
      go_wp2
      go_roundw
      case rel => exact ⟨k + 1, by omega, by go_num, by rw [cs.out], Y0.out, Y1.out, B2.out⟩
      case measure => simp [intOf]; omega
    · have ek : k = n1 + 1 := by omega
      subst ek
      go_wp2
      go_ret
      exact ⟨ret_int EC.out.symm, HB.out⟩
end Go.Proofs.Ytljfiefobnncaaa
