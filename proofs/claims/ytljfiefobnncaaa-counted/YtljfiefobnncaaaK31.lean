import Derived.Test.YtljfiefobnncaaaK30
import Derived.Test.YtljfiefobnncaaaK25
import Derived.Test.YtljfiefobnncaaaK28

/- As many cycles as pieces. Nothing of the program stands here. -/
namespace Go.Proofs.Ytljfiefobnncaaa.Qm
open Classical

noncomputable def dP (P : Nat → Prop) (i : Nat) : Bool := decide (P i)
theorem dP_iff (P : Nat → Prop) (i : Nat) : dP P i = true ↔ P i := by unfold dP; rw [decide_eq_true_eq]
/-- How many of the first n numbers are so? -/
noncomputable def cntP (P : Nat → Prop) (n : Nat) : Nat := ((List.range n).filter (dP P)).length
theorem cntP_zero (P : Nat → Prop) : cntP P 0 = 0 := rfl
theorem cntP_yes {P : Nat → Prop} {n : Nat} (h : P n) : cntP P (n + 1) = cntP P n + 1 := by
  unfold cntP; rw [List.range_succ, List.filter_append, List.length_append]; simp [dP, h]
theorem cntP_no {P : Nat → Prop} {n : Nat} (h : ¬ P n) : cntP P (n + 1) = cntP P n := by
  unfold cntP; rw [List.range_succ, List.filter_append, List.length_append]; simp [dP, h]
theorem cntP_le (P : Nat → Prop) (n : Nat) : cntP P n ≤ n := by
  have := List.length_filter_le (dP P) (List.range n)
  rw [List.length_range] at this
  exact this
/-- All but the first. -/
theorem cntP_but (P : Nat → Prop) (h : P 0) : ∀ n, cntP P (n + 1) = cntP (fun i => P i ∧ i ≠ 0) (n + 1) + 1
  | 0 => by rw [cntP_yes h, cntP_no (by simp)]; rfl
  | n + 1 => by
    have := cntP_but P h n
    by_cases hp : P (n + 1)
    · rw [cntP_yes hp, cntP_yes (P := fun i => P i ∧ i ≠ 0) ⟨hp, by omega⟩, this]
    · rw [cntP_no hp, cntP_no (P := fun i => P i ∧ i ≠ 0) (fun h => hp h.1), this]

/-- The pixel number i of the grid. -/
def cellP (W i : Nat) : Int × Int := (((i % (W + 2) : Nat) : Int) - 1, ((i / (W + 2) : Nat) : Int) - 1)
theorem cellP_in {W H i : Nat} (h : i < (W + 2) * (H + 2)) : InG W H (cellP W i) := by
  have a := Nat.mod_lt i (show 0 < W + 2 by omega)
  have b : i / (W + 2) < H + 2 := Nat.div_lt_of_lt_mul h
  unfold cellP
  generalize i % (W + 2) = u at *
  generalize i / (W + 2) = v at *
  simp only [InG]; omega
theorem cellP_of {W H : Nat} {p : Int × Int} (h : InG W H p) : ∃ i, i < (W + 2) * (H + 2) ∧ cellP W i = p := by
  obtain ⟨x, y⟩ := p
  simp only [InG] at h
  obtain ⟨a, ha⟩ : ∃ a : Nat, x + 1 = a := ⟨(x + 1).toNat, by omega⟩
  obtain ⟨b, hb⟩ : ∃ b : Nat, y + 1 = b := ⟨(y + 1).toNat, by omega⟩
  refine ⟨(W + 2) * b + a, ?_, ?_⟩
  · have : (W + 2) * (b + 1) ≤ (W + 2) * (H + 2) := Nat.mul_le_mul_left _ (by omega)
    rw [Nat.mul_add, Nat.mul_one] at this
    omega
  · unfold cellP
    rw [Nat.mul_add_mod, Nat.mod_eq_of_lt (by omega), Nat.mul_add_div (by omega), Nat.div_eq_of_lt (by omega)]
    simp only [Prod.mk.injEq]; omega
theorem cellP_lt {W i k : Nat} (h : Bef (cellP W i) (cellP W k)) : i < k := by
  have a := Nat.mod_lt i (show 0 < W + 2 by omega)
  have b := Nat.mod_lt k (show 0 < W + 2 by omega)
  have c := Nat.div_add_mod i (W + 2)
  have d := Nat.div_add_mod k (W + 2)
  simp only [Bef, cellP] at h
  rcases h with h | ⟨h, h2⟩
  · have : (W + 2) * (i / (W + 2) + 1) ≤ (W + 2) * (k / (W + 2)) := Nat.mul_le_mul_left _ (by omega)
    rw [Nat.mul_add, Nat.mul_one] at this
    omega
  · rw [show i / (W + 2) = k / (W + 2) from by omega] at c
    omega
theorem cellP_bef {W i k : Nat} (h : i < k) : Bef (cellP W i) (cellP W k) := by
  have a := Nat.mod_lt i (show 0 < W + 2 by omega)
  have b := Nat.mod_lt k (show 0 < W + 2 by omega)
  have c := Nat.div_add_mod i (W + 2)
  have d := Nat.div_add_mod k (W + 2)
  have e : i / (W + 2) ≤ k / (W + 2) := Nat.div_le_div_right (by omega)
  simp only [Bef, cellP]
  rcases Nat.lt_or_ge (i / (W + 2)) (k / (W + 2)) with h1 | h1
  · exact .inl (by omega)
  · rw [show i / (W + 2) = k / (W + 2) from by omega] at c
    exact .inr ⟨by omega, by omega⟩
def kp (p : Int × Int) : Int := 100 * p.2 + p.1

section
variable {bl : Int → Int → Bool} {j : Bool} {W H : Nat} {R : List (Sd × Nat)}
/-- The first pixel of its piece. -/
def Fst (bl : Int → Int → Bool) (j : Bool) (W H i : Nat) : Prop := ∀ k, k < i → ¬ Cn bl j W H (cellP W i) (cellP W k)

theorem sorted_cells (P : Nat → Bool) (hw : W ≤ 32) (n : Nat) : (((List.range n).filter P).map fun i => kp (cellP W i)).Pairwise (fun a b => a < b) := by
  rw [List.pairwise_map]
  refine List.Pairwise.filter _ (List.Pairwise.imp ?_ List.pairwise_lt_range)
  intro a b hab
  have h := cellP_bef (W := W) hab
  have p := Nat.mod_lt a (show 0 < W + 2 by omega)
  have q := Nat.mod_lt b (show 0 < W + 2 by omega)
  simp only [Bef, cellP, kp] at h ⊢
  omega
theorem sorted_res (hp : Pic bl W H) (hw : W ≤ 32) (hR : Res (nx bl fun _ _ => j) (fun s => isS bl s = true) key R) (P : Sd × Nat → Bool) : ((R.filter P).map fun c => kp (c.1.1, c.1.2.1)).Pairwise (fun a b => a < b) := by
  rw [List.pairwise_map]
  have h1 : R.Pairwise fun a b => kp (a.1.1, a.1.2.1) < kp (b.1.1, b.1.2.1) := by
    refine List.Pairwise.imp_of_mem ?_ hR.2.1
    intro a b ha hb hab
    have i1 := side_in hp (hR.1 a ha).1.1
    have i2 := side_in hp (hR.1 b hb).1.1
    simp only [key] at hab
    simp only [kp]
    omega
  exact List.Pairwise.filter _ h1

/-- The first point of a cycle is the first pixel of a piece. -/
theorem Canon.fst (hp : Pic bl W H) {c : Sd × Nat} (h : Canon (nx bl fun _ _ => j) (fun s => isS bl s = true) key c) : ∃ i, i < (W + 2) * (H + 2) ∧ cellP W i = (c.1.1, c.1.2.1) ∧ Fst bl j W H i := by
  have si := side_in hp h.1.1
  obtain ⟨i, hi, e⟩ := cellP_of (W := W) (H := H) (p := (c.1.1, c.1.2.1)) (by simp only [InG]; omega)
  refine ⟨i, hi, e, fun k hk hc => ?_⟩
  have b := cellP_bef (W := W) hk
  rw [e] at b hc
  have z := h.wn_first hp (u := (cellP W k).1) (v := (cellP W k).2) b
  have w := h.1.cn hc
  rw [z] at w
  simp only at w
  rcases h.dir with hd | hd
  · rw [((h.first hp).1 hd).2.1] at w; omega
  · rw [((h.first hp).2 hd).2.1] at w; omega
theorem lf_bl {s : Sd} (h : isS bl s = true) : bl (lf s).1 (lf s).2 = true ∧ bl (rt s).1 (rt s).2 = false := by
  have is := isS_lr bl s.1 s.2.1 s.2.2 (isS_lt h)
  rw [show (s.1, s.2.1, s.2.2) = s from rfl, h] at is
  simpa [lf, rt] using is.symm

theorem blacks (hp : Pic bl W H) (hw : W ≤ 32) (hR : Res (nx bl fun _ _ => j) (fun s => isS bl s = true) key R) : (R.filter fun c => decide (c.1.2.2 = 0)).length = cntP (fun i => bl (cellP W i).1 (cellP W i).2 = true ∧ Fst bl j W H i) ((W + 2) * (H + 2)) := by
  have e : ((R.filter fun c => decide (c.1.2.2 = 0)).map fun c => kp (c.1.1, c.1.2.1)) = (((List.range ((W + 2) * (H + 2))).filter (dP fun i => bl (cellP W i).1 (cellP W i).2 = true ∧ Fst bl j W H i)).map fun i => kp (cellP W i)) := by
    refine sorted_eq id _ _ (sorted_res hp hw hR _) (sorted_cells _ hw _) fun x => ?_
    simp only [List.mem_map, List.mem_filter, decide_eq_true_eq, dP_iff, List.mem_range]
    constructor
    · rintro ⟨c, ⟨hc, hd⟩, rfl⟩
      have cn := hR.1 c hc
      obtain ⟨i, hi, e, hf⟩ := cn.fst hp
      exact ⟨i, ⟨hi, by rw [e]; exact ((cn.first hp).1 hd).1, hf⟩, by rw [e]⟩
    · rintro ⟨i, ⟨hi, hb, hf⟩, rfl⟩
      have hin := cellP_in hi
      obtain ⟨q, hq⟩ : ∃ q, q = cellP W i := ⟨_, rfl⟩
      obtain ⟨x, y⟩ := q
      have hbx := hp.box _ _ hb
      rw [← hq] at hb hbx hin
      simp only at hb hbx
      have hl : bl (x - 1) y = false := by
        cases hl : bl (x - 1) y with
        | false => rfl
        | true =>
          exfalso
          have g : InG W H (x - 1, y) := by simp only [InG]; omega
          obtain ⟨k, hk, ek⟩ := cellP_of g
          have ad : Adj bl j (x, y) (x - 1, y) := ⟨by simp only; rw [hb, hl], .inr (.inl ⟨rfl, .inr rfl⟩)⟩
          refine hf k (cellP_lt (W := W) (by rw [ek, ← hq]; exact .inr ⟨rfl, by simp only; omega⟩)) ?_
          rw [ek, ← hq]; exact .one ad g
      have is : isS bl (x, y, 0) = true := by simp only [isS, outQ]; rw [hb, hl]; rfl
      obtain ⟨c, hc, m, hm, em⟩ := hR.2.2 _ is
      have cn := hR.1 c hc
      have key' : c.1 = (x, y, 0) := by
        cases m with
        | zero => exact em.symm
        | succ m =>
          exfalso
          have kl := cn.2 (m + 1) (by omega) hm
          rw [← em] at kl
          have cc := (it_cn (j := j) hp cn.1.1 (m + 1)).1
          rw [← em] at cc
          have lb := (lf_bl cn.1.1).1
          have lx := hp.box _ _ lb
          have gi : InG W H (lf c.1) := by simp only [InG]; omega
          have s2 := cc.symm gi
          have el : lf (x, y, 0) = (x, y) := by simp [lf, lpx, lpy]
          rw [el] at s2
          obtain ⟨k, hk, ek⟩ := cellP_of gi
          refine hf k (cellP_lt (W := W) ?_) (by rw [ek, ← hq]; exact s2)
          rw [ek, ← hq]
          have si := side_in hp cn.1.1
          have w32 := hp.w
          rcases cn.dir with hd | hd
          · have e2 : lf c.1 = (c.1.1, c.1.2.1) := by unfold lf; rw [hd]; simp [lpx, lpy]
            rw [e2]
            simp only [key] at kl
            simp only [Bef]; omega
          · have e2 : lf c.1 = (c.1.1, c.1.2.1 - 1) := by unfold lf; rw [hd]; simp [lpx, lpy]
            rw [e2]
            simp only [key] at kl
            simp only [Bef]; omega
      exact ⟨c, ⟨hc, by rw [key']⟩, by rw [key', ← hq]⟩
  have := congrArg List.length e
  simpa [cntP] using this

theorem whites (hp : Pic bl W H) (hw : W ≤ 32) (hR : Res (nx bl fun _ _ => j) (fun s => isS bl s = true) key R) : (R.filter fun c => decide (c.1.2.2 = 1)).length + 1 = cntP (fun i => bl (cellP W i).1 (cellP W i).2 = false ∧ Fst bl j W H i) ((W + 2) * (H + 2)) := by
  have out : ∀ x y, ¬ (0 ≤ x ∧ x < (W : Int) ∧ 0 ≤ y ∧ y < (H : Int)) → bl x y = false := fun x y hn => by
    cases hl : bl x y with
    | false => rfl
    | true => exact absurd (hp.box _ _ hl) hn
  have T : (W + 2) * (H + 2) = ((W + 2) * (H + 2) - 1) + 1 := by have : 1 ≤ (W + 2) * (H + 2) := Nat.mul_le_mul (show 1 ≤ W + 2 by omega) (show 1 ≤ H + 2 by omega); omega
  rw [T, cntP_but _ ⟨out _ _ (by simp only [cellP, Nat.zero_mod, Nat.zero_div]; omega), fun k hk => by omega⟩, ← T]
  congr 1
  have e : ((R.filter fun c => decide (c.1.2.2 = 1)).map fun c => kp (c.1.1, c.1.2.1)) = (((List.range ((W + 2) * (H + 2))).filter (dP fun i => (bl (cellP W i).1 (cellP W i).2 = false ∧ Fst bl j W H i) ∧ i ≠ 0)).map fun i => kp (cellP W i)) := by
    refine sorted_eq id _ _ (sorted_res hp hw hR _) (sorted_cells _ hw _) fun x => ?_
    simp only [List.mem_map, List.mem_filter, decide_eq_true_eq, dP_iff, List.mem_range]
    constructor
    · rintro ⟨c, ⟨hc, hd⟩, rfl⟩
      have cn := hR.1 c hc
      obtain ⟨i, hi, e, hf⟩ := cn.fst hp
      have si := side_in hp cn.1.1
      refine ⟨i, ⟨hi, ⟨by rw [e]; exact ((cn.first hp).2 hd).1, hf⟩, fun h0 => ?_⟩, by rw [e]⟩
      subst h0
      have := congrArg Prod.fst e
      simp only [cellP, Nat.zero_mod] at this
      omega
    · rintro ⟨i, ⟨hi, ⟨hb, hf⟩, h0⟩, rfl⟩
      have hin := cellP_in hi
      obtain ⟨q, hq⟩ : ∃ q, q = cellP W i := ⟨_, rfl⟩
      obtain ⟨x, y⟩ := q
      rw [← hq] at hb hin
      simp only at hb
      simp only [InG] at hin
      -- no pixel that holds together with it comes ahead of it
      have no : ∀ p, InG W H p → Bef p (x, y) → ¬ Adj bl j (x, y) p := fun p g b ad => by
        obtain ⟨k, hk, ek⟩ := cellP_of g
        refine hf k (cellP_lt (W := W) (by rw [ek, ← hq]; exact b)) ?_
        rw [ek, ← hq]; exact .one ad g
      have hy : 0 ≤ y := by
        by_cases hy : 0 ≤ y
        · exact hy
        · exfalso
          by_cases hx : x = -1
          · obtain ⟨k0, _, _⟩ : ∃ k : Nat, k = 0 ∧ True := ⟨0, rfl, trivial⟩
            have : Bef (cellP W 0) (cellP W i) := cellP_bef (by omega)
            rw [← hq] at this
            simp only [Bef, cellP, Nat.zero_mod, Nat.zero_div] at this
            omega
          · refine no (x - 1, y) (by simp only [InG]; omega) (.inr ⟨rfl, by simp only; omega⟩) ⟨?_, .inr (.inl ⟨rfl, .inr rfl⟩)⟩
            simp only
            rw [out x y (by omega), out (x - 1) y (by omega)]
      have hl : bl x (y - 1) = true := by
        cases hl : bl x (y - 1) with
        | true => rfl
        | false => exact absurd ⟨by simp only; rw [hb, hl], .inl ⟨rfl, .inr rfl⟩⟩ (no (x, y - 1) (by simp only [InG]; omega) (.inl (by simp only; omega)))
      have is : isS bl (x, y, 1) = true := by simp only [isS, outQ]; rw [hb, hl]; rfl
      obtain ⟨c, hc, m, hm, em⟩ := hR.2.2 _ is
      have cn := hR.1 c hc
      have key' : c.1 = (x, y, 1) := by
        cases m with
        | zero => exact em.symm
        | succ m =>
          exfalso
          have kl := cn.2 (m + 1) (by omega) hm
          rw [← em] at kl
          have cc := (it_cn (j := j) hp cn.1.1 (m + 1)).2
          rw [← em] at cc
          have si := side_in hp cn.1.1
          have si2 := side_in hp is
          simp only at si2
          have w32 := hp.w
          have el : rt (x, y, 1) = (x, y) := by simp [rt, rpx, rpy]
          rw [el] at cc
          simp only [key] at kl
          rcases cn.dir with hd | hd
          · have e2 : rt c.1 = (c.1.1 - 1, c.1.2.1) := by unfold rt; rw [hd]; simp [rpx, rpy]
            rw [e2] at cc
            have gi : InG W H (c.1.1 - 1, c.1.2.1) := by simp only [InG]; omega
            obtain ⟨k, hk, ek⟩ := cellP_of gi
            refine hf k (cellP_lt (W := W) ?_) (by rw [ek, ← hq]; exact cc.symm gi)
            rw [ek, ← hq]
            simp only [Bef]; omega
          · have e2 : rt c.1 = (c.1.1, c.1.2.1) := by unfold rt; rw [hd]; simp [rpx, rpy]
            rw [e2] at cc
            have gi : InG W H (c.1.1, c.1.2.1) := by simp only [InG]; omega
            obtain ⟨k, hk, ek⟩ := cellP_of gi
            refine hf k (cellP_lt (W := W) ?_) (by rw [ek, ← hq]; exact cc.symm gi)
            rw [ek, ← hq]
            simp only [Bef]; omega
      exact ⟨c, ⟨hc, by rw [key']⟩, by rw [key', ← hq]⟩
  have := congrArg List.length e
  simpa [cntP] using this
end
end Go.Proofs.Ytljfiefobnncaaa.Qm

/- outlinekeep: spread: what holds in its loops. -/
namespace Go.Proofs.Ytljfiefobnncaaa
open Go.RowKit

namespace Qm
theorem cellP_inj {W i k : Nat} (h : cellP W i = cellP W k) : i = k := by
  rcases Nat.lt_trichotomy i k with h1 | h1 | h1
  · have := cellP_bef (W := W) h1; rw [h] at this; simp only [Bef] at this; omega
  · exact h1
  · have := cellP_bef (W := W) h1; rw [h] at this; simp only [Bef] at this; omega
/-- The neighbour number d. -/
def nbP (p : Int × Int) (d : Nat) : Int × Int := (p.1 + ((d % 3 : Nat) : Int) - 1, p.2 + ((d / 3 : Nat) : Int) - 1)
section
variable (bl : Int → Int → Bool) (j : Bool) (W H : Nat)
/-- What is marked is whole pieces. -/
def Cl (M : Nat → Int) : Prop := ∀ i k, i < (W + 2) * (H + 2) → k < (W + 2) * (H + 2) → M i ≠ 0 → Adj bl j (cellP W i) (cellP W k) → M k ≠ 0
structure SP (M M' : Nat → Int) (fr : Nat) (n : Int) (td : List Nat) : Prop where
  on : ∀ k, k < (W + 2) * (H + 2) → M' k = M k ∨ (M k = 0 ∧ M' k = n ∧ Cn bl j W H (cellP W fr) (cellP W k))
  tdi : ∀ k ∈ td, k < (W + 2) * (H + 2) ∧ M k = 0 ∧ M' k = n
  frm : M' fr = n
  don : ∀ k, k < (W + 2) * (H + 2) → M k = 0 → M' k = n → k ∉ td → ∀ i, i < (W + 2) * (H + 2) → Adj bl j (cellP W k) (cellP W i) → M' i ≠ 0
structure SQ (M M' : Nat → Int) (fr : Nat) (n : Int) (td : List Nat) (at' d : Nat) : Prop where
  on : ∀ k, k < (W + 2) * (H + 2) → M' k = M k ∨ (M k = 0 ∧ M' k = n ∧ Cn bl j W H (cellP W fr) (cellP W k))
  tdi : ∀ k ∈ td, k < (W + 2) * (H + 2) ∧ M k = 0 ∧ M' k = n
  frm : M' fr = n
  don : ∀ k, k < (W + 2) * (H + 2) → M k = 0 → M' k = n → k ∉ td → k ≠ at' → ∀ i, i < (W + 2) * (H + 2) → Adj bl j (cellP W k) (cellP W i) → M' i ≠ 0
  ati : at' < (W + 2) * (H + 2) ∧ M at' = 0 ∧ M' at' = n
  atd : ∀ i, i < (W + 2) * (H + 2) → Adj bl j (cellP W at') (cellP W i) → ∀ e, e < d → cellP W i = nbP (cellP W at') e → M' i ≠ 0
end
section
variable {bl : Int → Int → Bool} {j : Bool} {W H : Nat} {M M' : Nat → Int} {fr : Nat} {n : Int} {td : List Nat} {at' d : Nat}
def upM (M : Nat → Int) (k : Nat) (x : Int) : Nat → Int := fun i => if i = k then x else M i
theorem upM_same (M : Nat → Int) (k : Nat) (x : Int) : upM M k x k = x := if_pos rfl
theorem upM_other {M : Nat → Int} {k i : Nat} {x : Int} (h : i ≠ k) : upM M k x i = M i := if_neg h
theorem SP.start (hfr : fr < (W + 2) * (H + 2)) (hf : M fr = 0) (hn : 0 < n) : SP bl j W H M (upM M fr n) fr n [fr] := by
  refine ⟨fun k hk => ?_, fun k hk => ?_, upM_same _ _ _, fun k hk h0 h1 hk2 => ?_⟩
  · by_cases e : k = fr
    · subst e; exact .inr ⟨hf, upM_same _ _ _, .refl⟩
    · exact .inl (upM_other e)
  · rw [List.mem_singleton] at hk
    subst hk; exact ⟨hfr, hf, upM_same _ _ _⟩
  · rw [List.mem_singleton] at hk2
    rw [upM_other hk2] at h1
    omega
theorem SP.pop (h : SP bl j W H M M' fr n (td ++ [at'])) : SQ bl j W H M M' fr n td at' 0 :=
  ⟨h.on, fun k hk => h.tdi k (List.mem_append_left _ hk), h.frm, fun k hk h0 h1 h2 h3 => h.don k hk h0 h1 (fun hm => by
    rcases List.mem_append.1 hm with h4 | h4
    · exact h2 h4
    · exact h3 (List.mem_singleton.1 h4)), h.tdi at' (List.mem_append_right _ (List.mem_singleton.2 rfl)), fun i _ _ e he => by omega⟩
theorem SQ.skip (h : SQ bl j W H M M' fr n td at' d) (hn : ∀ i, i < (W + 2) * (H + 2) → Adj bl j (cellP W at') (cellP W i) → cellP W i = nbP (cellP W at') d → M' i ≠ 0) : SQ bl j W H M M' fr n td at' (d + 1) :=
  ⟨h.on, h.tdi, h.frm, h.don, h.ati, fun i hi ad e he ei => by
    rcases Nat.lt_or_ge e d with h1 | h1
    · exact h.atd i hi ad e h1 ei
    · obtain rfl : e = d := by omega
      exact hn i hi ad ei⟩
theorem SQ.mark (h : SQ bl j W H M M' fr n td at' d) (hn : 0 < n) {k : Nat} (hk : k < (W + 2) * (H + 2)) (hk0 : M' k = 0) (ad : Adj bl j (cellP W at') (cellP W k)) (ek : cellP W k = nbP (cellP W at') d) : SQ bl j W H M (upM M' k n) fr n (td ++ [k]) at' (d + 1) := by
  have mk : M k = 0 := by rcases h.on k hk with e | ⟨e, _⟩ <;> omega
  have mo : ∀ i, M' i ≠ 0 → upM M' k n i ≠ 0 := fun i hi => by
    by_cases e : i = k
    · subst e; rw [upM_same]; omega
    · rw [upM_other e]; exact hi
  have nk : ∀ i, M' i = n → i ≠ k := fun i hi e => by subst e; omega
  have cn : Cn bl j W H (cellP W fr) (cellP W at') := by
    rcases h.on at' h.ati.1 with e | ⟨_, _, e⟩
    · have := h.ati; omega
    · exact e
  refine ⟨fun i hi => ?_, fun i hi => ?_, ?_, fun i hi h0 h1 h2 h3 => ?_, ⟨h.ati.1, h.ati.2.1, by rw [upM_other (nk _ h.ati.2.2)]; exact h.ati.2.2⟩, fun i hi ad' e he ei => ?_⟩
  · by_cases e : i = k
    · subst e; exact .inr ⟨mk, upM_same _ _ _, .step _ _ cn ad (cellP_in hk)⟩
    · rw [upM_other e]; exact h.on i hi
  · rcases List.mem_append.1 hi with h1 | h1
    · have := h.tdi i h1
      exact ⟨this.1, this.2.1, by rw [upM_other (nk _ this.2.2)]; exact this.2.2⟩
    · rw [List.mem_singleton.1 h1]; exact ⟨hk, mk, upM_same _ _ _⟩
  · rw [upM_other (nk _ h.frm)]; exact h.frm
  · have e : i ≠ k := fun e => h2 (by rw [e]; exact List.mem_append_right _ (List.mem_singleton.2 rfl))
    rw [upM_other e] at h1
    exact fun q hq aq => mo q (h.don i hi h0 h1 (fun hm => h2 (List.mem_append_left _ hm)) h3 q hq aq)
  · rcases Nat.lt_or_ge e d with h1 | h1
    · exact mo i (h.atd i hi ad' e h1 ei)
    · obtain rfl : e = d := by omega
      rw [cellP_inj (ei.trans ek.symm), upM_same]; omega
theorem SQ.finish (h : SQ bl j W H M M' fr n td at' 9) : SP bl j W H M M' fr n td := by
  refine ⟨h.on, h.tdi, h.frm, fun k hk h0 h1 h2 i hi ad => ?_⟩
  by_cases e : k = at'
  · subst e
    have a2 := ad.2
    obtain ⟨dx, hdx⟩ : ∃ dx : Nat, (cellP W i).1 = (cellP W k).1 + dx - 1 ∧ dx < 3 := ⟨((cellP W i).1 - (cellP W k).1 + 1).toNat, by omega⟩
    obtain ⟨dy, hdy⟩ : ∃ dy : Nat, (cellP W i).2 = (cellP W k).2 + dy - 1 ∧ dy < 3 := ⟨((cellP W i).2 - (cellP W k).2 + 1).toNat, by omega⟩
    refine h.atd i hi ad (dy * 3 + dx) (by omega) ?_
    unfold nbP
    rw [show (dy * 3 + dx) % 3 = dx from by omega, show (dy * 3 + dx) / 3 = dy from by omega]
    exact Prod.ext hdx.1 hdy.1
  · exact h.don k hk h0 h1 h2 e i hi ad
theorem SP.out (h : SP bl j W H M M' fr n []) (hfr : fr < (W + 2) * (H + 2)) (hf : M fr = 0) (hc : Cl bl j W H M) : ∀ k, k < (W + 2) * (H + 2) → (Cn bl j W H (cellP W fr) (cellP W k) → M k = 0 ∧ M' k = n) ∧ (¬ Cn bl j W H (cellP W fr) (cellP W k) → M' k = M k) := by
  have key : ∀ q, Cn bl j W H (cellP W fr) q → ∀ i, i < (W + 2) * (H + 2) → cellP W i = q → M i = 0 ∧ M' i = n := by
    intro q hq
    induction hq with
    | refl => intro i hi e; rw [cellP_inj e]; exact ⟨hf, h.frm⟩
    | step a b ha hab hg ih =>
      intro i hi e
      obtain ⟨r, hr, er⟩ := cellP_of (ha.in (cellP_in hfr))
      obtain ⟨r0, r1⟩ := ih r hr er
      have ad : Adj bl j (cellP W r) (cellP W i) := by rw [er, e]; exact hab
      have nz := h.don r hr r0 r1 (by simp) i hi ad
      rcases h.on i hi with e1 | ⟨e1, e2, _⟩
      · exfalso
        rw [e1] at nz
        exact hc i r hi hr nz ad.symm r0
      · exact ⟨e1, e2⟩
  intro k hk
  refine ⟨fun hq => key _ hq k hk rfl, fun hq => ?_⟩
  rcases h.on k hk with e | ⟨_, _, e⟩
  · exact e
  · exact absurd e hq
end
section
variable {bl : Int → Int → Bool} {j : Bool} {W H : Nat} {M M' : Nat → Int} {fr : Nat} {n : Int} {td : List Nat} {at' d : Nat}
theorem SQ.cn (h : SQ bl j W H M M' fr n td at' d) (hn : 0 < n) : Cn bl j W H (cellP W fr) (cellP W at') := by
  rcases h.on at' h.ati.1 with e | ⟨_, _, e⟩
  · have := h.ati; omega
  · exact e
theorem SQ.beyond (h : SQ bl j W H M M' fr n td at' d) (hn : ¬ InG W H (nbP (cellP W at') d)) : SQ bl j W H M M' fr n td at' (d + 1) :=
  h.skip fun _ hi _ e => absurd (e ▸ cellP_in hi) hn
theorem nb_even {p : Int × Int} {d : Nat} (hd : d < 9) (he : d % 2 = 0) : ((nbP p d).1 = p.1 ∧ (nbP p d).2 = p.2) ∨ ((nbP p d).1 ≠ p.1 ∧ (nbP p d).2 ≠ p.2) := by
  have : d = 0 ∨ d = 2 ∨ d = 4 ∨ d = 6 ∨ d = 8 := by omega
  rcases this with rfl | rfl | rfl | rfl | rfl <;> simp only [nbP] <;> omega
theorem SQ.even (h : SQ bl j W H M M' fr n td at' d) (hn : 0 < n) (hd : d < 9) (he : d % 2 = 0) (hj : ¬ bl (cellP W fr).1 (cellP W fr).2 = j) : SQ bl j W H M M' fr n td at' (d + 1) :=
  h.skip fun i hi ad e => by
    exfalso
    have c := (h.cn hn).colour
    rcases nb_even (p := cellP W at') hd he with ⟨h1, h2⟩ | ⟨h1, h2⟩
    · rw [← e] at h1 h2
      rcases ad.2 with h3 | h3 | ⟨_, h3⟩ <;> omega
    · rw [← e] at h1 h2
      rcases ad.2 with h3 | h3 | ⟨h3, _⟩
      · omega
      · omega
      · exact hj (c.trans h3)
theorem SQ.taken (h : SQ bl j W H M M' fr n td at' d) {k : Nat} (ek : cellP W k = nbP (cellP W at') d) (hk : M' k ≠ 0) : SQ bl j W H M M' fr n td at' (d + 1) :=
  h.skip fun i _ _ e => by rw [cellP_inj (e.trans ek.symm)]; exact hk
theorem SQ.other (h : SQ bl j W H M M' fr n td at' d) (hc : bl (nbP (cellP W at') d).1 (nbP (cellP W at') d).2 ≠ bl (cellP W at').1 (cellP W at').2) : SQ bl j W H M M' fr n td at' (d + 1) :=
  h.skip fun i _ ad e => absurd (by rw [← e]; exact ad.1.symm) hc
theorem nb_near {p : Int × Int} {d : Nat} (hd : d < 9) (h4 : d ≠ 4) : ((nbP p d).1 = p.1 ∧ ((nbP p d).2 = p.2 + 1 ∨ (nbP p d).2 = p.2 - 1)) ∨ ((nbP p d).2 = p.2 ∧ ((nbP p d).1 = p.1 + 1 ∨ (nbP p d).1 = p.1 - 1)) ∨ (d % 2 = 0 ∧ ((nbP p d).1 = p.1 + 1 ∨ (nbP p d).1 = p.1 - 1) ∧ ((nbP p d).2 = p.2 + 1 ∨ (nbP p d).2 = p.2 - 1)) := by
  have : d = 0 ∨ d = 1 ∨ d = 2 ∨ d = 3 ∨ d = 5 ∨ d = 6 ∨ d = 7 ∨ d = 8 := by omega
  rcases this with rfl | rfl | rfl | rfl | rfl | rfl | rfl | rfl <;> simp only [nbP] <;> first | omega | (right; right; exact ⟨trivial, by omega, by omega⟩) | (right; right; exact ⟨rfl, by omega, by omega⟩)
theorem SQ.take (h : SQ bl j W H M M' fr n td at' d) (hn : 0 < n) (hd : d < 9) {k : Nat} (hk : k < (W + 2) * (H + 2)) (hk0 : M' k = 0) (ek : cellP W k = nbP (cellP W at') d) (hc : bl (nbP (cellP W at') d).1 (nbP (cellP W at') d).2 = bl (cellP W at').1 (cellP W at').2) (hj : d % 2 = 0 → bl (cellP W fr).1 (cellP W fr).2 = j) : SQ bl j W H M (upM M' k n) fr n (td ++ [k]) at' (d + 1) := by
  have c := (h.cn hn).colour
  refine h.mark hn hk hk0 ⟨by rw [ek]; exact hc.symm, ?_⟩ ek
  have h4 : d ≠ 4 := fun e => by
    subst e
    have e2 : cellP W k = cellP W at' := by rw [ek]; unfold nbP; exact Prod.ext (by simp only; omega) (by simp only; omega)
    rw [cellP_inj e2] at hk0
    have := h.ati.2.2
    omega
  rw [ek]
  rcases nb_near (p := cellP W at') hd h4 with h1 | h1 | ⟨h1, h2⟩
  · exact .inl h1
  · exact .inr (.inl h1)
  · exact .inr (.inr ⟨c.symm.trans (hj h1), h2⟩)
end
/-- How many are left. -/
theorem cntP_less {P Q : Nat → Prop} {k : Nat} (hk : P k) (h : ∀ i, Q i ↔ (P i ∧ i ≠ k)) : ∀ n, (n ≤ k → cntP Q n = cntP P n) ∧ (k < n → cntP Q n + 1 = cntP P n)
  | 0 => ⟨fun _ => rfl, fun h => by omega⟩
  | n + 1 => by
    have ih := cntP_less hk h n
    refine ⟨fun h1 => ?_, fun h1 => ?_⟩
    · by_cases hp : P n
      · rw [cntP_yes hp, cntP_yes ((h n).2 ⟨hp, by omega⟩), ih.1 (by omega)]
      · rw [cntP_no hp, cntP_no (fun hq => hp ((h n).1 hq).1), ih.1 (by omega)]
    · rcases Nat.lt_or_ge k n with h2 | h2
      · by_cases hp : P n
        · rw [cntP_yes hp, cntP_yes ((h n).2 ⟨hp, by omega⟩), ← ih.2 h2]
        · rw [cntP_no hp, cntP_no (fun hq => hp ((h n).1 hq).1), ih.2 h2]
      · obtain rfl : n = k := by omega
        rw [cntP_yes hk, cntP_no (fun hq => ((h n).1 hq).2 rfl), ih.1 (Nat.le_refl _)]
end Qm

/-- The marks in memory. -/
def MkAt (gm T : Nat) (M : Nat → Int) (w : World) : Prop := gm < w.heap.size ∧ (∀ k, k < T → w.cell? ⟨gm, k, none⟩ = some (.int .i64 (M k))) ∧ ∀ k, w.frozen? ⟨gm, k, none⟩ = false
theorem MkAt.on {gm T : Nat} {M : Nat → Int} {w w' : World} (h : MkAt gm T M w) (hb : Below w.heap.size w w') : MkAt gm T M w' :=
  ⟨Nat.lt_of_lt_of_le h.1 hb.size, fun k hk => (hb.cell (p := ⟨gm, k, none⟩) h.1).trans (h.2.1 k hk), fun k => (hb.frozen (p := ⟨gm, k, none⟩) h.1).trans (h.2.2 k)⟩
theorem MkAt.gb {gm T : Nat} {M : Nat → Int} {w w' : World} {r : Option Nat} (h : MkAt gm T M w) (hb : w.grownBy w' r) (hr : r ≠ some gm) : MkAt gm T M w' := by
  have e := hb.block gm h.1 (Ne.symm hr)
  refine ⟨Nat.lt_of_lt_of_le h.1 hb.size, fun k hk => (World.cell?_of_block (a := ⟨gm, k, none⟩) e).trans (h.2.1 k hk), fun k => ?_⟩
  have := h.2.2 k
  unfold World.frozen? at this ⊢
  rw [e]; exact this
theorem MkAt.set {gm T : Nat} {M : Nat → Int} {w : World} (h : MkAt gm T M w) {k : Nat} (hk : k < T) (x : Int) : MkAt gm T (Qm.upM M k x) (w.setCell ⟨gm, k, none⟩ (.int .i64 x)) := by
  refine ⟨by rw [World.size_setCell]; exact h.1, fun i hi => ?_, fun i => by simpa using h.2.2 i⟩
  by_cases e : i = k
  · subst e; rw [Qm.upM_same]; exact World.cell?_setCell_same _ _ _ (h.2.1 i hi)
  · rw [Qm.upM_other e]
    exact (World.cell?_setCell_other _ _ _ _ (by intro e2; injection e2 with _ e2 _; omega)).trans (h.2.1 i hi)
noncomputable def zc (gm T : Nat) (w : World) : Nat := Qm.cntP (fun k => w.cell? ⟨gm, k, none⟩ = some (.int .i64 0)) T
theorem zc_of {gm T : Nat} {M : Nat → Int} {w : World} (h : MkAt gm T M w) : zc gm T w = Qm.cntP (fun k => M k = 0) T := by
  have key : ∀ n, n ≤ T → Qm.cntP (fun k => w.cell? ⟨gm, k, none⟩ = some (.int .i64 0)) n = Qm.cntP (fun k => M k = 0) n := by
    intro n
    induction n with
    | zero => intro _; rfl
    | succ n ih =>
      intro hn
      have c := h.2.1 n (by omega)
      by_cases e : M n = 0
      · rw [Qm.cntP_yes (P := fun k => M k = 0) e, Qm.cntP_yes (P := fun k => w.cell? ⟨gm, k, none⟩ = some (.int .i64 0)) (by rw [c, e]), ih (by omega)]
      · rw [Qm.cntP_no (P := fun k => M k = 0) e, Qm.cntP_no (P := fun k => w.cell? ⟨gm, k, none⟩ = some (.int .i64 0)) (by rw [c]; intro e2; injection e2 with e2; injection e2 with _ e2; exact e e2), ih (by omega)]
  exact key T (Nat.le_refl _)
theorem zc_set {T : Nat} {M : Nat → Int} {k : Nat} (hk : k < T) (h0 : M k = 0) {x : Int} (hx : x ≠ 0) : Qm.cntP (fun i => Qm.upM M k x i = 0) T + 1 = Qm.cntP (fun i => M i = 0) T :=
  (Qm.cntP_less (P := fun i => M i = 0) (Q := fun i => Qm.upM M k x i = 0) h0 (fun i => by
    by_cases e : i = k
    · subst e; rw [Qm.upM_same]; exact ⟨fun h => absurd h hx, fun h => absurd rfl h.2⟩
    · rw [Qm.upM_other e]; exact ⟨fun h => ⟨h, e⟩, fun h => h.1⟩) T).2 hk
def slLen : Value → Nat
  | .slice _ n _ => n
  | _ => 0
/-- One less. -/
theorem own_pop {w : World} {b : Nat} {t : TypeId} {g cap n : Nat} {l : List Nat} {a : Nat} (h : w.ownsRow b t 1 (.slice (some ⟨g, 0, none⟩) (n + 1) cap) (n + 1) (numV (l ++ [a]))) : w.ownsRow b t 1 (.slice (some ⟨g, 0, none⟩) n cap) n (numV l) := by
  have hl := h.1
  rw [numV_len, List.length_append, List.length_singleton] at hl
  refine ⟨by rw [numV_len]; omega, ?_⟩
  rcases h.2 with ⟨h1, _⟩ | ⟨g', cap', cur, h1, h2, h3, h4, h5, h6, h7⟩
  · cases h1
  · injection h1 with h1 _ hc; injection h1 with h1; injection h1 with h1 _ _
    subst h1; subst hc
    refine .inr ⟨g, cap, cur, rfl, h2, h3, by omega, h5, h6, ?_⟩
    have := congrArg (List.take (n * 1)) h7
    rw [List.take_take, numV_snoc, List.take_append_of_le_length (by rw [numV_len]; omega), List.take_of_length_le (l := numV l) (by rw [numV_len]; omega)] at this
    rw [← this]
    congr 1
    omega
theorem own_one (w : World) (b : Nat) (a : Nat) (t : TypeId) (hb : b ≤ w.heap.size) : (w.alloc (.cells #[.int .i64 (a : Int)] t)).ownsRow b t 1 (.slice (some ⟨w.heap.size, 0, none⟩) 1 1) 1 (numV [a]) :=
  ⟨rfl, .inr ⟨w.heap.size, 1, #[.int .i64 (a : Int)], rfl, hb, heap_alloc_new w _, Nat.le_refl _, by unfold maxLen; omega, rfl, rfl⟩⟩
end Go.Proofs.Ytljfiefobnncaaa
