import Derived.Test.YtljfiefobnncaaaDoorK02
import Derived.Test.YtljfiefobnncaaaDoorK03

/- The policies. Nothing of the program stands here. -/
namespace Go.Proofs.YtljfiefobnncaaaDoor.Qm
open Pm

/-- Of the first m of the 16 pixels around a point: how many are black? -/
def cntTo (bl : Int → Int → Bool) (X Y : Int) : Nat → Nat
  | 0 => 0
  | m + 1 => cntTo bl X Y m + if bl (X - 2 + (m % 4 : Nat)) (Y - 2 + (m / 4 : Nat)) then 1 else 0
theorem cntTo_le (bl : Int → Int → Bool) (X Y : Int) (m : Nat) : cntTo bl X Y m ≤ m := by
  induction m with
  | zero => exact Nat.le_refl _
  | succ m ih => unfold cntTo; split <;> omega
theorem cntTo_yes (bl : Int → Int → Bool) (X Y : Int) (i j : Nat) (hj : j < 4) (h : bl (X - 2 + (j : Nat)) (Y - 2 + (i : Nat)) = true) : cntTo bl X Y (4 * i + (j + 1)) = cntTo bl X Y (4 * i + j) + 1 := by
  rw [← Nat.add_assoc]; show cntTo bl X Y (4 * i + j) + _ = _
  rw [show (4 * i + j) % 4 = j from by omega, show (4 * i + j) / 4 = i from by omega, h]; simp
theorem cntTo_no (bl : Int → Int → Bool) (X Y : Int) (i j : Nat) (hj : j < 4) (h : bl (X - 2 + (j : Nat)) (Y - 2 + (i : Nat)) = false) : cntTo bl X Y (4 * i + (j + 1)) = cntTo bl X Y (4 * i + j) := by
  rw [← Nat.add_assoc]; show cntTo bl X Y (4 * i + j) + _ = _
  rw [show (4 * i + j) % 4 = j from by omega, show (4 * i + j) / 4 = i from by omega, h]; simp

/-- Does one who comes to a crossing join? -/
def jnB (W H : Nat) (l : List UInt8) (pol : Int) (draws : List UInt8) (x y : Int) : Bool :=
  if pol = 0 then true
  else if pol = 2 then decide (cntTo (blackB W H l) x y 16 < 8)
  else if pol = 3 then bitAt draws (y * (W + 1) + x).toNat
  else false
theorem jnB_0 (W H : Nat) (l : List UInt8) (draws : List UInt8) (x y : Int) : jnB W H l 0 draws x y = true := rfl
theorem jnB_1 (W H : Nat) (l : List UInt8) (draws : List UInt8) (x y : Int) : jnB W H l 1 draws x y = false := rfl
theorem jnB_2 (W H : Nat) (l : List UInt8) (draws : List UInt8) (x y : Int) : jnB W H l 2 draws x y = decide (cntTo (blackB W H l) x y 16 < 8) := rfl
theorem jnB_3 (W H : Nat) (l : List UInt8) (draws : List UInt8) (x y : Int) : jnB W H l 3 draws x y = bitAt draws (y * (W + 1) + x).toNat := rfl

theorem pic_of (W H : Nat) (l : List UInt8) (hw : W ≤ 32) (hh : H ≤ 32) : Pic (blackB W H l) W H where
  box x y h := by
    by_cases hb : 0 ≤ x ∧ 0 ≤ y ∧ x < W ∧ y < H
    · omega
    · rw [blackB_out W H l x y hb] at h; exact absurd h (by simp)
  w := by omega
  h := by omega

end Go.Proofs.YtljfiefobnncaaaDoor.Qm

/- What is taken: a row of marks, and the cycles that it stands for. Nothing of the program stands here. -/
namespace Go.Proofs.YtljfiefobnncaaaDoor.Qm

/-- How many of the first n marks are not set. -/
def cntF (T : Nat → Bool) : Nat → Nat
  | 0 => 0
  | n + 1 => cntF T n + if T n then 0 else 1
theorem cntF_le (T : Nat → Bool) (n : Nat) : cntF T n ≤ n := by
  induction n with
  | zero => exact Nat.le_refl _
  | succ n ih => unfold cntF; split <;> omega
def mark (T : Nat → Bool) (c : Nat) (n : Nat) : Bool := T n || n == c
theorem cntF_mark_past (T : Nat → Bool) (c : Nat) : ∀ n, n ≤ c → cntF (mark T c) n = cntF T n
  | 0, _ => rfl
  | n + 1, h => by
    unfold cntF
    rw [cntF_mark_past T c n (by omega)]
    have : mark T c n = T n := by unfold mark; rw [show (n == c) = false from by simp; omega]; simp
    rw [this]
theorem cntF_mark (T : Nat → Bool) (c : Nat) (hc : T c = false) : ∀ n, c < n → cntF (mark T c) n + 1 = cntF T n
  | 0, h => absurd h (Nat.not_lt_zero _)
  | n + 1, h => by
    unfold cntF
    rcases Nat.lt_or_ge c n with h1 | h1
    · have : mark T c n = T n := by unfold mark; rw [show (n == c) = false from by simp; omega]; simp
      rw [this]
      have := cntF_mark T c hc n h1
      omega
    · obtain rfl : n = c := by omega
      rw [cntF_mark_past T n n (Nat.le_refl _), hc]
      simp [mark]

/-- The marks stand for what lies on the cycles. -/
def Rep (bl : Int → Int → Bool) (f : Sd → Sd) (T : Nat → Bool) (R : List (Sd × Nat)) : Prop := ∀ t, isS bl t = true → (T (codeS t).toNat = true ↔ Tk f R t)
/-- .. and for what lies on the first m sides from s. -/
def RepM (bl : Int → Int → Bool) (f : Sd → Sd) (T : Nat → Bool) (R : List (Sd × Nat)) (s : Sd) (m : Nat) : Prop := ∀ t, isS bl t = true → (T (codeS t).toNat = true ↔ Tk f R t ∨ ∃ i, i < m ∧ t = it f i s)

theorem Rep.zero {bl : Int → Int → Bool} {f : Sd → Sd} {T : Nat → Bool} {R : List (Sd × Nat)} (h : Rep bl f T R) (s : Sd) : RepM bl f T R s 0 := fun t ht => by
  rw [h t ht]; constructor
  · exact .inl
  · rintro (h | ⟨i, hi, _⟩)
    · exact h
    · omega

section
variable {bl : Int → Int → Bool} {W H : Int} {f : Sd → Sd} {T : Nat → Bool} {R : List (Sd × Nat)} {s : Sd} {m : Nat}

theorem RepM.succ (hp : Pic bl W H) (h : RepM bl f T R s m) (hs : isS bl (it f m s) = true) : RepM bl f (mark T (codeS (it f m s)).toNat) R s (m + 1) := fun t ht => by
  unfold mark
  rw [Bool.or_eq_true, h t ht, beq_iff_eq]
  constructor
  · rintro ((h | ⟨i, hi, e⟩) | e)
    · exact .inl h
    · exact .inr ⟨i, by omega, e⟩
    · refine .inr ⟨m, by omega, code_inj hp ht hs ?_⟩
      have := code_in hp ht; have := code_in hp hs; omega
  · rintro (h | ⟨i, hi, e⟩)
    · exact .inl (.inl h)
    · rcases Nat.lt_or_ge i m with h1 | h1
      · exact .inl (.inr ⟨i, h1, e⟩)
      · obtain rfl : i = m := by omega
        exact .inr (by rw [e])

theorem RepM.free (h : RepM bl f T R s m) (hs : isS bl (it f m s) = true) (hT : T (codeS (it f m s)).toNat = false) : ¬ Tk f R (it f m s) ∧ ∀ i, i < m → it f i s ≠ it f m s := by
  have : ¬ (Tk f R (it f m s) ∨ ∃ i, i < m ∧ it f m s = it f i s) := fun hh => absurd ((h _ hs).2 hh) (by rw [hT]; simp)
  exact ⟨fun hh => this (.inl hh), fun i hi e => this (.inr ⟨i, hi, e.symm⟩)⟩

/-- A whole cycle more. -/
theorem RepM.whole (h : RepM bl f T R s m) : Rep bl f T (R ++ [(s, m)]) := fun t ht => by
  rw [h t ht]
  constructor
  · rintro (⟨c, hc, i, hi, e⟩ | ⟨i, hi, e⟩)
    · exact ⟨c, List.mem_append_left _ hc, i, hi, e⟩
    · exact ⟨(s, m), by simp, i, hi, e⟩
  · rintro ⟨c, hc, i, hi, e⟩
    rcases List.mem_append.1 hc with hc | hc
    · exact .inl ⟨c, hc, i, hi, e⟩
    · rw [List.mem_singleton] at hc; subst hc; exact .inr ⟨i, hi, e⟩
end

/-- The cells of a row of points. -/
def ptV (p : Int × Int) : List Value := [.int .i64 p.1, .int .i64 p.2]
def ptsV (l : List (Int × Int)) : List Value := l.flatMap ptV
theorem ptsV_snoc (l : List (Int × Int)) (p : Int × Int) : ptsV (l ++ [p]) = ptsV l ++ ptV p := by simp [ptsV]
theorem ptsV_len (l : List (Int × Int)) : (ptsV l).length = l.length * 2 := by
  induction l with
  | nil => rfl
  | cons p l ih => simp only [ptsV, List.flatMap_cons, List.length_append] at *; rw [ih]; simp [ptV]; omega
theorem ptsOf_succ (f : Sd → Sd) (s : Sd) (m : Nat) : ptsOf f (s, m + 1) = ptsOf f (s, m) ++ [fromP (it f m s)] := by simp [ptsOf, List.range_succ]
theorem ptsOf_len (f : Sd → Sd) (c : Sd × Nat) : (ptsOf f c).length = c.2 := by simp [ptsOf]
end Go.Proofs.YtljfiefobnncaaaDoor.Qm

/- Twice the area, from either end. Nothing of the program stands here. -/
namespace Go.Proofs.YtljfiefobnncaaaDoor.Qm

/-- The point ahead of point k, round and round. -/
def pr (l : List (Int × Int)) (k : Nat) : Int × Int := l.getD ((k + l.length - 1) % l.length) (0, 0)
/-- The first k lines' share, each line counted where it ends. -/
def tsum (l : List (Int × Int)) : Nat → Int
  | 0 => 0
  | k + 1 => tsum l k + cross (pr l k) (l.getD k (0, 0))
/-- .. each counted where it begins. -/
def fsum (l : List (Int × Int)) : Nat → Int
  | 0 => 0
  | k + 1 => fsum l k + cross (l.getD k (0, 0)) (l.getD ((k + 1) % l.length) (0, 0))

theorem fsum_eq (l : List (Int × Int)) (k : Nat) : fsum l k = ((List.range k).map fun i => cross (l.getD i (0, 0)) (l.getD ((i + 1) % l.length) (0, 0))).sum := by
  induction k with
  | zero => rfl
  | succ k ih => simp only [fsum, ih, List.range_succ, List.map_append, List.sum_append, List.map_cons, List.map_nil, List.sum_cons, List.sum_nil]; omega
theorem twiceOf_fsum (l : List (Int × Int)) : twiceOf l = fsum l l.length := (fsum_eq l l.length).symm

theorem tsum_fsum (l : List (Int × Int)) (k : Nat) (hk : k < l.length) : tsum l (k + 1) = fsum l k + cross (pr l 0) (l.getD 0 (0, 0)) := by
  induction k with
  | zero => simp [tsum, fsum]
  | succ k ih =>
    rw [tsum, ih (by omega), fsum]
    have e1 : pr l (k + 1) = l.getD k (0, 0) := by
      unfold pr
      rw [show k + 1 + l.length - 1 = k + l.length from by omega, Nat.add_mod_right, Nat.mod_eq_of_lt (by omega)]
    rw [e1, Nat.mod_eq_of_lt (show k + 1 < l.length from hk)]
    omega
theorem tsum_all (l : List (Int × Int)) (h : 0 < l.length) : tsum l l.length = twiceOf l := by
  obtain ⟨n, hn⟩ : ∃ n, l.length = n + 1 := ⟨l.length - 1, by omega⟩
  rw [twiceOf_fsum, hn, tsum_fsum l n (by omega), fsum]
  have e : pr l 0 = l.getD n (0, 0) := by unfold pr; rw [hn, show 0 + (n + 1) - 1 = n from by omega, Nat.mod_eq_of_lt (by omega)]
  rw [e, hn, Nat.mod_self]
theorem pr_succ (l : List (Int × Int)) (k : Nat) (hk : k < l.length) : pr l (k + 1) = l.getD k (0, 0) := by
  unfold pr
  rw [show k + 1 + l.length - 1 = k + l.length from by omega, Nat.add_mod_right, Nat.mod_eq_of_lt hk]
theorem pr_zero (l : List (Int × Int)) (h : 0 < l.length) : pr l 0 = l.getD (l.length - 1) (0, 0) := by
  unfold pr; rw [show 0 + l.length - 1 = l.length - 1 from by omega, Nat.mod_eq_of_lt (by omega)]

/-- All coordinates are small. -/
def Small (l : List (Int × Int)) : Prop := ∀ p ∈ l, 0 ≤ p.1 ∧ p.1 ≤ 32 ∧ 0 ≤ p.2 ∧ p.2 ≤ 32
theorem Small.at {l : List (Int × Int)} (h : Small l) (k : Nat) : 0 ≤ (l.getD k (0, 0)).1 ∧ (l.getD k (0, 0)).1 ≤ 32 ∧ 0 ≤ (l.getD k (0, 0)).2 ∧ (l.getD k (0, 0)).2 ≤ 32 := by
  rw [List.getD_eq_getElem?_getD]
  cases e : l[k]? with
  | none => simp
  | some p => exact h p (List.mem_of_getElem? e)
theorem mul_small {a b : Int} (a0 : 0 ≤ a) (a1 : a ≤ 32) (b0 : 0 ≤ b) (b1 : b ≤ 32) : 0 ≤ a * b ∧ a * b ≤ 1024 :=
  ⟨Int.mul_nonneg a0 b0, Int.le_trans (Int.mul_le_mul_of_nonneg_right a1 b0) (by omega)⟩
theorem cross_small {p q : Int × Int} (hp : 0 ≤ p.1 ∧ p.1 ≤ 32 ∧ 0 ≤ p.2 ∧ p.2 ≤ 32) (hq : 0 ≤ q.1 ∧ q.1 ≤ 32 ∧ 0 ≤ q.2 ∧ q.2 ≤ 32) : -1024 ≤ cross p q ∧ cross p q ≤ 1024 := by
  have a := mul_small hp.2.2.1 hp.2.2.2 hq.1 hq.2.1
  have b := mul_small hp.1 hp.2.1 hq.2.2.1 hq.2.2.2
  unfold cross; omega
theorem tsum_small {l : List (Int × Int)} (h : Small l) (k : Nat) : -1024 * (k : Int) ≤ tsum l k ∧ tsum l k ≤ 1024 * (k : Int) := by
  induction k with
  | zero => simp [tsum]
  | succ k ih =>
    have := cross_small (h.at ((k + l.length - 1) % l.length)) (h.at k)
    have e : tsum l (k + 1) = tsum l k + cross (l.getD ((k + l.length - 1) % l.length) (0, 0)) (l.getD k (0, 0)) := rfl
    rw [e]
    omega
theorem fsum_small {l : List (Int × Int)} (h : Small l) (k : Nat) : -1024 * (k : Int) ≤ fsum l k ∧ fsum l k ≤ 1024 * (k : Int) := by
  induction k with
  | zero => simp [fsum]
  | succ k ih =>
    have := cross_small (h.at k) (h.at ((k + 1) % l.length))
    have e : fsum l (k + 1) = fsum l k + cross (l.getD k (0, 0)) (l.getD ((k + 1) % l.length) (0, 0)) := rfl
    rw [e]
    omega
end Go.Proofs.YtljfiefobnncaaaDoor.Qm
