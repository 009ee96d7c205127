import Derived.Test.YtljfiefobnncaabK06
import Derived.Test.YtljfiefobnncaabK25
import Derived.Deep.QuietTactic
import Derived.BigQuiet
import Derived.Deep.RegionHeld3

/- A line that fits: the same whichever way one counts, and whichever middles one looks at. Nothing of the program stands here. -/
namespace Go.Proofs.Ytljfiefobnncaab.Qm

/-- The next point of a closed row. -/
def nxP (l : List Pt) (i : Nat) : Pt := l.getD ((i + 1) % l.length) (0, 0)
/-- Sums over the lines, from either end. -/
def fsE (e : Pt → Pt → Int) (l : List Pt) : Nat → Int
  | 0 => 0
  | k + 1 => fsE e l k + e (l.getD k (0, 0)) (nxP l k)
def bsE (e : Pt → Pt → Int) (l : List Pt) : Nat → Int
  | 0 => 0
  | k + 1 => bsE e l k + e (pr l k) (l.getD k (0, 0))
theorem nxP_lt (l : List Pt) (i : Nat) (h : i + 1 < l.length) : nxP l i = l.getD (i + 1) (0, 0) := by unfold nxP; rw [Nat.mod_eq_of_lt h]
theorem nxP_last (l : List Pt) (h : 0 < l.length) : nxP l (l.length - 1) = l.getD 0 (0, 0) := by unfold nxP; rw [Nat.sub_add_cancel h, Nat.mod_self]
theorem bsE_fsE (e : Pt → Pt → Int) (l : List Pt) (k : Nat) (hk : k < l.length) : bsE e l (k + 1) = fsE e l k + e (pr l 0) (l.getD 0 (0, 0)) := by
  induction k with
  | zero => simp [bsE, fsE]
  | succ k ih =>
    have := ih (by omega)
    rw [bsE, this, fsE, pr_succ l k (by omega), nxP_lt l k hk]; omega
theorem bsE_all (e : Pt → Pt → Int) (l : List Pt) (h : 0 < l.length) : bsE e l l.length = fsE e l l.length := by
  obtain ⟨n, hn⟩ : ∃ n, l.length = n + 1 := ⟨l.length - 1, by omega⟩
  have a := bsE_fsE e l n (by omega)
  have b := nxP_last l h
  rw [hn] at b ⊢
  simp only [Nat.add_sub_cancel] at b
  rw [a, fsE, b, pr_zero l h, hn]
  simp
theorem wsum_bsE (l : List Pt) (x y : Int) (k : Nat) : wsum l x y k = bsE (fun p q => wdZ p q x y) l k := by
  induction k with
  | zero => rfl
  | succ k ih => simp only [wsum, bsE, ih]
theorem fsE_tele (φ : Pt → Int) (l : List Pt) (h : 0 < l.length) : fsE (fun p q => φ p - φ q) l l.length = 0 := by
  have key : ∀ k, k < l.length → fsE (fun p q => φ p - φ q) l k = φ (l.getD 0 (0, 0)) - φ (l.getD k (0, 0)) := by
    intro k
    induction k with
    | zero => intro _; simp [fsE]
    | succ k ih => intro hk; rw [fsE, ih (by omega), nxP_lt l k hk]; omega
  obtain ⟨n, hn⟩ : ∃ n, l.length = n + 1 := ⟨l.length - 1, by omega⟩
  have b := nxP_last l h
  have c := key n (by omega)
  rw [hn] at b ⊢
  simp only [Nat.add_sub_cancel] at b
  rw [fsE, c, b]; omega
theorem fsE_congr {e f : Pt → Pt → Int} {l : List Pt} {n : Nat} (h : ∀ i, i < n → e (l.getD i (0, 0)) (nxP l i) = f (l.getD i (0, 0)) (nxP l i)) : fsE e l n = fsE f l n := by
  induction n with
  | zero => rfl
  | succ n ih => rw [fsE, fsE, ih fun i hi => h i (by omega), h n (by omega)]
theorem fsE_sub (e f : Pt → Pt → Int) (l : List Pt) (n : Nat) : fsE (fun p q => e p q - f p q) l n = fsE e l n - fsE f l n := by
  induction n with
  | zero => rfl
  | succ n ih => simp only [fsE, ih]; omega
theorem fsE_zero {e : Pt → Pt → Int} {l : List Pt} {n : Nat} (h : ∀ i, i < n → e (l.getD i (0, 0)) (nxP l i) = 0) : fsE e l n = 0 := by
  induction n with
  | zero => rfl
  | succ n ih => rw [fsE, ih fun i hi => h i (by omega), h n (by omega)]; rfl

/-- Counted above and counted to the right. -/
theorem ab_ws {l : List Pt} {x y : Int} (h0 : 0 < l.length) (h : ∀ i, i < l.length → thB (l.getD i (0, 0)) (nxP l i) x y = false) : fsE (fun p q => abZ p q x y) l l.length = wsum l x y l.length := by
  rw [wsum_bsE, bsE_all _ _ h0]
  have a := fsE_sub (fun p q => abZ p q x y) (fun p q => wdZ p q x y) l l.length
  have b : fsE (fun p q => abZ p q x y - wdZ p q x y) l l.length = fsE (fun p q => qd x y p - qd x y q) l l.length := fsE_congr fun i hi => ab_wd _ _ x y (h i hi)
  rw [b, fsE_tele _ _ h0] at a
  omega

/-- One pixel's length. -/
def unitP (p q : Pt) : Prop := (p.1 = q.1 ∧ (q.2 = p.2 + 1 ∨ q.2 = p.2 - 1)) ∨ (p.2 = q.2 ∧ (q.1 = p.1 + 1 ∨ q.1 = p.1 - 1))
def Unit (l : List Pt) : Prop := ∀ i, i + 1 < l.length → unitP (l.getD i (0, 0)) (l.getD (i + 1) (0, 0))
theorem th_unit {p q : Pt} (h : unitP p q) (x y : Int) : thB p q x y = false := by
  cases e : thB p q x y with
  | false => rfl
  | true =>
    exfalso
    obtain ⟨r, f⟩ := (thB_iff p q x y).1 e
    rcases h with ⟨h1, h2⟩ | ⟨h1, h2⟩
    · unfold farZ at f
      rw [show q.1 - p.1 = 0 from by omega, Int.mul_zero] at f
      rcases h2 with h2 | h2
      · rw [show q.2 - p.2 = 1 from by omega] at f; omega
      · rw [show q.2 - p.2 = -1 from by omega] at f; omega
    · omega
theorem Unit.near {l : List Pt} (h : Unit l) (i : Nat) (hi : i < l.length) : -(i : Int) ≤ (l.getD i (0, 0)).1 - (l.getD 0 (0, 0)).1 ∧ (l.getD i (0, 0)).1 - (l.getD 0 (0, 0)).1 ≤ i ∧ -(i : Int) ≤ (l.getD i (0, 0)).2 - (l.getD 0 (0, 0)).2 ∧ (l.getD i (0, 0)).2 - (l.getD 0 (0, 0)).2 ≤ i := by
  induction i with
  | zero => simp
  | succ i ih =>
    have a := ih (by omega)
    have b := h i hi
    unfold unitP at b
    omega
/-- No line goes through but, maybe, the last. -/
theorem Unit.th {l : List Pt} (h : Unit l) (h0 : 0 < l.length) {x y : Int} (ht : thB (lstP l) (fstP l) x y = false) (i : Nat) (hi : i < l.length) : thB (l.getD i (0, 0)) (nxP l i) x y = false := by
  rcases Nat.lt_or_ge (i + 1) l.length with h1 | h1
  · rw [nxP_lt l i h1]; exact th_unit (h i h1) x y
  · obtain rfl : i = l.length - 1 := by omega
    rw [nxP_last l h0]; exact ht
theorem okAt_iff (l : List Pt) (x y : Int) : okAt l x y = true ↔ thB (lstP l) (fstP l) x y = false ∧ wsum l x y l.length = 0 := by
  unfold okAt; rw [Bool.and_eq_true, decide_eq_true_eq]; simp
/-- As the document's answer asks it. -/
def cleanP (l : List Pt) (x y : Int) : Prop := (∀ i, i < l.length → thR (l.getD i (0, 0)) (nxP l i) x y = false) ∧ fsE (fun p q => abZ p q x y) l l.length = 0
theorem Unit.clean {l : List Pt} (h : Unit l) (h0 : 0 < l.length) (x y : Int) : cleanP l x y ↔ okAt l x y = true := by
  rw [okAt_iff]
  constructor
  · rintro ⟨h1, h2⟩
    have e : ∀ i, i < l.length → thB (l.getD i (0, 0)) (nxP l i) x y = false := fun i hi => by rw [← th_same]; exact h1 i hi
    rw [ab_ws h0 e] at h2
    have t := e (l.length - 1) (by omega)
    rw [nxP_last l h0] at t
    exact ⟨t, h2⟩
  · rintro ⟨h1, h2⟩
    have e := h.th h0 h1
    exact ⟨fun i hi => by rw [th_same]; exact e i hi, by rw [ab_ws h0 e]; exact h2⟩

theorem getD_mem {l : List Pt} {i : Nat} (h : i < l.length) : l.getD i (0, 0) ∈ l := by
  rw [List.getD_eq_getElem?_getD, List.getElem?_eq_getElem h]; exact List.getElem_mem h
/-- Beyond the bounds all is well. -/
theorem ok_out {l : List Pt} (h0 : 0 < l.length) {x y : Int} (h : (∀ i, i < l.length → x < (l.getD i (0, 0)).1) ∨ (∀ i, i < l.length → (l.getD i (0, 0)).1 ≤ x) ∨ (∀ i, i < l.length → y < (l.getD i (0, 0)).2) ∨ (∀ i, i < l.length → (l.getD i (0, 0)).2 ≤ y)) : okAt l x y = true := by
  have nx : ∀ i, i < l.length → ∃ j, j < l.length ∧ nxP l i = l.getD j (0, 0) := fun i _ => ⟨_, Nat.mod_lt _ h0, rfl⟩
  -- no two of the points have the middle between them
  have two : ∀ i j, i < l.length → j < l.length → thB (l.getD i (0, 0)) (l.getD j (0, 0)) x y = false ∧ ((∀ i, i < l.length → x < (l.getD i (0, 0)).1) ∨ (∀ i, i < l.length → (l.getD i (0, 0)).1 ≤ x) → abZ (l.getD i (0, 0)) (l.getD j (0, 0)) x y = 0) ∧ (¬ ((∀ i, i < l.length → x < (l.getD i (0, 0)).1) ∨ (∀ i, i < l.length → (l.getD i (0, 0)).1 ≤ x)) → wdZ (l.getD i (0, 0)) (l.getD j (0, 0)) x y = 0) := by
    intro i j hi hj
    obtain ⟨A, B, C, D, _, _, h3, hA, hB, _, _⟩ := cr_signs (l.getD i (0, 0)) (l.getD j (0, 0)) x y
    refine ⟨?_, ?_, ?_⟩
    · cases e : thB (l.getD i (0, 0)) (l.getD j (0, 0)) x y with
      | false => rfl
      | true =>
        exfalso
        have t := (thB_iff _ _ x y).1 e
        rcases h with h | h | h | h
        · have a := h i hi; have b := h j hj; omega
        · have a := h i hi; have b := h j hj; omega
        · have a := h i hi; have b := h j hj; omega
        · have a := h i hi; have b := h j hj; omega
    · rintro (h | h)
      · have a := h i hi; have b := h j hj
        unfold abZ; rw [if_neg (by omega), if_neg (by omega)]
      · have a := h i hi; have b := h j hj
        unfold abZ; rw [if_neg (by omega), if_neg (by omega)]
    · intro hn
      rw [wdZ_eq]
      rcases h with h | h | h | h
      · exact absurd (.inl h) hn
      · exact absurd (.inr h) hn
      · have a := h i hi; have b := h j hj
        rw [if_neg (by omega), if_neg (by omega)]
      · have a := h i hi; have b := h j hj
        rw [if_neg (by omega), if_neg (by omega)]
  rw [okAt_iff]
  refine ⟨(two _ _ (show l.length - 1 < l.length by omega) h0).1, ?_⟩
  by_cases hx : (∀ i, i < l.length → x < (l.getD i (0, 0)).1) ∨ (∀ i, i < l.length → (l.getD i (0, 0)).1 ≤ x)
  · rw [← ab_ws h0 fun i hi => by obtain ⟨j, hj, e⟩ := nx i hi; rw [e]; exact (two i j hi hj).1]
    exact fsE_zero fun i hi => by obtain ⟨j, hj, e⟩ := nx i hi; rw [e]; exact (two i j hi hj).2.1 hx
  · rw [wsum_bsE, bsE_all _ _ h0]
    exact fsE_zero fun i hi => by obtain ⟨j, hj, e⟩ := nx i hi; rw [e]; exact (two i j hi hj).2.2 hx
/-- Within the bounds, or everywhere. -/
theorem fit_all {l : List Pt} (h0 : 0 < l.length) : fitB l = true ↔ ∀ x y, okAt l x y = true := by
  constructor
  · intro h x y
    have lx := loF_le Prod.fst l l.length
    have ly := loF_le Prod.snd l l.length
    have hx := le_hiF Prod.fst l l.length
    have hy := le_hiF Prod.snd l l.length
    rcases Int.lt_or_le x (loF Prod.fst l l.length) with a | a
    · exact ok_out h0 (.inl fun i hi => by have := lx i hi; omega)
    rcases Int.lt_or_le x (hiF Prod.fst l l.length) with b | b
    · rcases Int.lt_or_le y (loF Prod.snd l l.length) with c | c
      · exact ok_out h0 (.inr (.inr (.inl fun i hi => by have := ly i hi; omega)))
      rcases Int.lt_or_le y (hiF Prod.snd l l.length) with d | d
      · exact (fitB_iff l).1 h x y a b c d
      · exact ok_out h0 (.inr (.inr (.inr fun i hi => by have := hy i hi; omega)))
    · exact ok_out h0 (.inr (.inl fun i hi => by have := hx i hi; omega))
  · intro h
    exact (fitB_iff l).2 fun x y _ _ _ _ => h x y
theorem fit_two {l : List Pt} (h : Unit l) (h2 : l.length = 2) : fitB l = true := by
  refine (fitB_iff l).2 fun x y a b c d => ?_
  exfalso
  have u := h 0 (by omega)
  unfold unitP at u
  rw [h2] at a b c d
  simp only [loF, hiF] at a b c d
  simp only [Nat.zero_add] at u
  repeat' split at a
  all_goals repeat' split at b
  all_goals repeat' split at c
  all_goals repeat' split at d
  all_goals omega
/-- It is enough to look near the first point. -/
theorem Unit.fit_near {l : List Pt} (h : Unit l) (h0 : 0 < l.length) (h13 : l.length ≤ 13) (hn : ∀ x y, (l.getD 0 (0, 0)).1 - 12 ≤ x → x < (l.getD 0 (0, 0)).1 + 12 → (l.getD 0 (0, 0)).2 - 12 ≤ y → y < (l.getD 0 (0, 0)).2 + 12 → okAt l x y = true) : fitB l = true := by
  refine (fitB_iff l).2 fun x y a b c d => ?_
  obtain ⟨i1, k1, e1⟩ := loF_at Prod.fst l l.length
  obtain ⟨i2, k2, e2⟩ := hiF_at Prod.fst l l.length
  obtain ⟨i3, k3, e3⟩ := loF_at Prod.snd l l.length
  obtain ⟨i4, k4, e4⟩ := hiF_at Prod.snd l l.length
  have n1 := h.near i1 (by omega)
  have n2 := h.near i2 (by omega)
  have n3 := h.near i3 (by omega)
  have n4 := h.near i4 (by omega)
  rw [e1] at a; rw [e2] at b; rw [e3] at c; rw [e4] at d
  exact hn x y (by omega) (by omega) (by omega) (by omega)
/-- The document's answer. -/
theorem Unit.fit_ref {l : List Pt} (h : Unit l) (h0 : 2 ≤ l.length) (h13 : l.length ≤ 13) : fitB l = true ↔ (l.length = 2 ∨ ∀ x y, (l.getD 0 (0, 0)).1 - 13 ≤ x → x ≤ (l.getD 0 (0, 0)).1 + 13 → (l.getD 0 (0, 0)).2 - 13 ≤ y → y ≤ (l.getD 0 (0, 0)).2 + 13 → cleanP l x y) := by
  constructor
  · intro hf
    exact .inr fun x y _ _ _ _ => (h.clean (by omega) x y).2 ((fit_all (by omega)).1 hf x y)
  · rintro (h2 | h2)
    · exact fit_two h h2
    · exact h.fit_near (by omega) h13 fun x y a b c d => (h.clean (by omega) x y).1 (h2 x y (by omega) (by omega) (by omega) (by omega))
end Go.Proofs.Ytljfiefobnncaab.Qm

/- outlineref: Wound. -/
namespace Go.Proofs.Ytljfiefobnncaab
open Go.RowKit

theorem wsum_fsE (l : List (Int × Int)) (h : 0 < l.length) (x y : Int) : Qm.wsum l x y l.length = Qm.fsE (fun p q => Qm.wdZ p q x y) l l.length := by rw [Qm.wsum_bsE, Qm.bsE_all _ _ h]



end Go.Proofs.Ytljfiefobnncaab
