/- What is taken: a row of marks, and the cycles that it stands for. Nothing of the program stands here. -/
import Derived.Test.YtljfiefobnncaaaQc
namespace Go.Proofs.Ytljfiefobnncaaa.Qm

/-- How many of the first n marks are not set. -/
def cntF (T : Nat → Bool) : Nat → Nat
  | 0 => 0
  | n + 1 => cntF T n + if T n then 0 else 1
theorem cntF_le (T : Nat → Bool) (n : Nat) : cntF T n ≤ n := by
  induction n with
  | zero => exact Nat.le_refl _
  | succ n ih => unfold cntF; split <;> omega
def mark (T : Nat → Bool) (c : Nat) (n : Nat) : Bool := T n || n == c
theorem cntF_mark_past (T : Nat → Bool) (c : Nat) : ∀ n, n ≤ c → cntF (mark T c) n = cntF T n
  | 0, _ => rfl
  | n + 1, h => by
    unfold cntF
    rw [cntF_mark_past T c n (by omega)]
    have : mark T c n = T n := by unfold mark; rw [show (n == c) = false from by simp; omega]; simp
    rw [this]
theorem cntF_mark (T : Nat → Bool) (c : Nat) (hc : T c = false) : ∀ n, c < n → cntF (mark T c) n + 1 = cntF T n
  | 0, h => absurd h (Nat.not_lt_zero _)
  | n + 1, h => by
    unfold cntF
    rcases Nat.lt_or_ge c n with h1 | h1
    · have : mark T c n = T n := by unfold mark; rw [show (n == c) = false from by simp; omega]; simp
      rw [this]
      have := cntF_mark T c hc n h1
      omega
    · obtain rfl : n = c := by omega
      rw [cntF_mark_past T n n (Nat.le_refl _), hc]
      simp [mark]

/-- The marks stand for what lies on the cycles. -/
def Rep (bl : Int → Int → Bool) (f : Sd → Sd) (T : Nat → Bool) (R : List (Sd × Nat)) : Prop := ∀ t, isS bl t = true → (T (codeS t).toNat = true ↔ Tk f R t)
/-- .. and for what lies on the first m sides from s. -/
def RepM (bl : Int → Int → Bool) (f : Sd → Sd) (T : Nat → Bool) (R : List (Sd × Nat)) (s : Sd) (m : Nat) : Prop := ∀ t, isS bl t = true → (T (codeS t).toNat = true ↔ Tk f R t ∨ ∃ i, i < m ∧ t = it f i s)

theorem Rep.zero {bl : Int → Int → Bool} {f : Sd → Sd} {T : Nat → Bool} {R : List (Sd × Nat)} (h : Rep bl f T R) (s : Sd) : RepM bl f T R s 0 := fun t ht => by
  rw [h t ht]; constructor
  · exact .inl
  · rintro (h | ⟨i, hi, _⟩)
    · exact h
    · omega

section
variable {bl : Int → Int → Bool} {W H : Int} {f : Sd → Sd} {T : Nat → Bool} {R : List (Sd × Nat)} {s : Sd} {m : Nat}

theorem RepM.succ (hp : Pic bl W H) (h : RepM bl f T R s m) (hs : isS bl (it f m s) = true) : RepM bl f (mark T (codeS (it f m s)).toNat) R s (m + 1) := fun t ht => by
  unfold mark
  rw [Bool.or_eq_true, h t ht, beq_iff_eq]
  constructor
  · rintro ((h | ⟨i, hi, e⟩) | e)
    · exact .inl h
    · exact .inr ⟨i, by omega, e⟩
    · refine .inr ⟨m, by omega, code_inj hp ht hs ?_⟩
      have := code_in hp ht; have := code_in hp hs; omega
  · rintro (h | ⟨i, hi, e⟩)
    · exact .inl (.inl h)
    · rcases Nat.lt_or_ge i m with h1 | h1
      · exact .inl (.inr ⟨i, h1, e⟩)
      · obtain rfl : i = m := by omega
        exact .inr (by rw [e])

theorem RepM.free (h : RepM bl f T R s m) (hs : isS bl (it f m s) = true) (hT : T (codeS (it f m s)).toNat = false) : ¬ Tk f R (it f m s) ∧ ∀ i, i < m → it f i s ≠ it f m s := by
  have : ¬ (Tk f R (it f m s) ∨ ∃ i, i < m ∧ it f m s = it f i s) := fun hh => absurd ((h _ hs).2 hh) (by rw [hT]; simp)
  exact ⟨fun hh => this (.inl hh), fun i hi e => this (.inr ⟨i, hi, e.symm⟩)⟩

/-- A whole cycle more. -/
theorem RepM.whole (h : RepM bl f T R s m) : Rep bl f T (R ++ [(s, m)]) := fun t ht => by
  rw [h t ht]
  constructor
  · rintro (⟨c, hc, i, hi, e⟩ | ⟨i, hi, e⟩)
    · exact ⟨c, List.mem_append_left _ hc, i, hi, e⟩
    · exact ⟨(s, m), by simp, i, hi, e⟩
  · rintro ⟨c, hc, i, hi, e⟩
    rcases List.mem_append.1 hc with hc | hc
    · exact .inl ⟨c, hc, i, hi, e⟩
    · rw [List.mem_singleton] at hc; subst hc; exact .inr ⟨i, hi, e⟩
end

/-- The cells of a row of points. -/
def ptV (p : Int × Int) : List Value := [.int .i64 p.1, .int .i64 p.2]
def ptsV (l : List (Int × Int)) : List Value := l.flatMap ptV
theorem ptsV_snoc (l : List (Int × Int)) (p : Int × Int) : ptsV (l ++ [p]) = ptsV l ++ ptV p := by simp [ptsV]
theorem ptsV_len (l : List (Int × Int)) : (ptsV l).length = l.length * 2 := by
  induction l with
  | nil => rfl
  | cons p l ih => simp only [ptsV, List.flatMap_cons, List.length_append] at *; rw [ih]; simp [ptV]; omega
theorem ptsOf_succ (f : Sd → Sd) (s : Sd) (m : Nat) : ptsOf f (s, m + 1) = ptsOf f (s, m) ++ [fromP (it f m s)] := by simp [ptsOf, List.range_succ]
theorem ptsOf_len (f : Sd → Sd) (c : Sd × Nat) : (ptsOf f c).length = c.2 := by simp [ptsOf]
end Go.Proofs.Ytljfiefobnncaaa.Qm
