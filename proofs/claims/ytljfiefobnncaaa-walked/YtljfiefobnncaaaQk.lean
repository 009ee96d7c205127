/- Twice of a cycle is twice the sum of its winding numbers, and not 0; over all cycles the winding numbers are 1 at black pixels and 0 at white ones. Nothing of the program stands here. -/
import Derived.Test.YtljfiefobnncaaaQj
namespace Go.Proofs.Ytljfiefobnncaaa.Qm

/-- A side's share of the area. -/
def hx (s : Sd) : Int := if s.2.2 = 2 then s.1 else if s.2.2 = 0 then -s.1 else 0
theorem bx_hw {bl : Int → Int → Bool} {W H : Nat} (hp : Pic bl W H) {s : Sd} (h : isS bl s = true) : bx W H (fun x y => hw x y s) = hx s := by
  have d4 := isS_lt h
  have hi := side_in hp h
  obtain ⟨x, y, d⟩ := s
  simp only at hi d4
  match d, d4 with
  | 0, _ =>
    have hb : 0 ≤ y ∧ y < H := by simp [isS, outQ] at h; have := hp.box _ _ h.1; omega
    have e : bx W H (fun a b => hw a b (x, y, 0)) = sN H fun b => if y = (b : Int) then -1 * x else 0 := by
      refine sN_congr fun b _ => ?_
      by_cases hy : y = (b : Int)
      · rw [if_pos hy, show x = (if x < 0 then 0 else if x ≤ (W : Int) then x else W) from by rw [if_neg (by omega), if_pos hi.2.1], ← sN_lt]
        refine sN_congr fun a _ => ?_
        rw [if_neg (show ¬ x < 0 from by omega), if_pos hi.2.1]
        simp [hw, hy]
      · rw [if_neg hy, ← sN_zero W]
        exact sN_congr fun a _ => by simp [hw, hy]
    rw [e, sN_eq, if_pos hb]; simp [hx]
  | 1, _ => exact (bx_congr (h := fun _ _ => 0) fun a b => by simp [hw]).trans ((bx_zero W H).trans (by simp [hx]))
  | 2, _ =>
    have hb : 0 ≤ y - 1 ∧ y - 1 < H := by simp [isS, outQ] at h; have := hp.box _ _ h.1; omega
    have e : bx W H (fun a b => hw a b (x, y, 2)) = sN H fun b => if y - 1 = (b : Int) then 1 * x else 0 := by
      refine sN_congr fun b _ => ?_
      by_cases hy : y - 1 = (b : Int)
      · rw [if_pos hy, show x = (if x < 0 then 0 else if x ≤ (W : Int) then x else W) from by rw [if_neg (by omega), if_pos hi.2.1], ← sN_lt]
        refine sN_congr fun a _ => ?_
        rw [if_neg (show ¬ x < 0 from by omega), if_pos hi.2.1]
        have : y = (b : Int) + 1 := by omega
        simp [hw, this]
      · rw [if_neg hy, ← sN_zero W]
        have : ¬ y = (b : Int) + 1 := by omega
        exact sN_congr fun a _ => by simp [hw, this]
    rw [e, sN_eq, if_pos hb]; simp [hx]
  | 3, _ => exact (bx_congr (h := fun _ _ => 0) fun a b => by simp [hw]).trans ((bx_zero W H).trans (by simp [hx]))
theorem bx_wn {bl : Int → Int → Bool} {W H : Nat} (hp : Pic bl W H) {S : List Sd} (hs : ∀ s ∈ S, isS bl s = true) : bx W H (wn S) = sm S hx := by
  have := bx_sm W H S hw
  unfold wn
  rw [show (bx W H fun x y => sm S (hw x y)) = _ from this]
  exact sm_congr fun s h => bx_hw hp (hs s h)

theorem cross_hx {S : List Sd} (hS : Closed S) (hd : ∀ s ∈ S, s.2.2 < 4) : sm S (fun s => cross (fromP s) (en s)) = 2 * sm S hx := by
  have h := hS (fun p => p.1 * p.2)
  have e : sm S (fun s => cross (fromP s) (en s)) = sm S (fun s => (hx s + hx s) + ((fun p : Int × Int => p.1 * p.2) (en s) - (fun p : Int × Int => p.1 * p.2) (fromP s))) := by
    refine sm_congr fun s hs => ?_
    have d4 := hd s hs
    obtain ⟨x, y, d⟩ := s
    have c := Int.mul_comm x y
    match d, d4 with
    | 0, _ => simp [cross, fromP, en, hx, Int.mul_add]; omega
    | 1, _ => simp [cross, fromP, en, hx, Int.mul_add, Int.add_mul]; omega
    | 2, _ => simp [cross, fromP, en, hx, Int.mul_sub]; omega
    | 3, _ => simp [cross, fromP, en, hx, Int.mul_sub, Int.sub_mul]; omega
  rw [e, sm_add, sm_add, h]; omega

section
variable {bl jn : Int → Int → Bool} {c : Sd × Nat}

theorem ptsOf_getD (f : Sd → Sd) (c : Sd × Nat) (i : Nat) (h : i < c.2) : (ptsOf f c).getD i (0, 0) = fromP (it f i c.1) := by
  simp [ptsOf, List.getD_eq_getElem?_getD, h]
theorem Cyc.fsum_sm (h : Cyc (nx bl jn) (fun s => isS bl s = true) c.1 c.2) (k : Nat) (hk : k ≤ c.2) : fsum (ptsOf (nx bl jn) c) k = sm ((List.range k).map fun i => it (nx bl jn) i c.1) (fun s => cross (fromP s) (en s)) := by
  induction k with
  | zero => rfl
  | succ k ih =>
    rw [fsum, ih (by omega), sm_range, ptsOf_len, ptsOf_getD _ _ _ (by omega), ptsOf_getD _ _ _ (Nat.mod_lt _ h.2.1), ← h.mod]
    rfl
theorem Cyc.twice (h : Cyc (nx bl jn) (fun s => isS bl s = true) c.1 c.2) {W H : Nat} (hp : Pic bl W H) : twiceOf (ptsOf (nx bl jn) c) = 2 * bx W H (wn (cyS (nx bl jn) c)) := by
  rw [bx_wn hp h.sides, twiceOf_fsum, ptsOf_len, h.fsum_sm _ (Nat.le_refl _)]
  exact cross_hx h.closed fun s hs => isS_lt (h.sides s hs)
end

theorem sN_le {n : Nat} {g h : Nat → Int} (e : ∀ i, i < n → g i ≤ h i) : sN n g ≤ sN n h := by
  induction n with
  | zero => exact Int.le_refl _
  | succ n ih => have := ih fun i hi => e i (by omega); have := e n (by omega); simp only [sN]; omega
theorem sN_pos {n : Nat} {g : Nat → Int} (e : ∀ i, i < n → 0 ≤ g i) {i : Nat} (hi : i < n) : g i ≤ sN n g := by
  induction n with
  | zero => omega
  | succ n ih =>
    simp only [sN]
    have a := e n (by omega)
    by_cases h : i = n
    · subst h
      have := sN_le (n := i) (g := fun _ => 0) (h := g) fun j hj => e j (by omega)
      rw [sN_zero] at this
      omega
    · have := ih (fun j hj => e j (by omega)) (by omega)
      omega
theorem bx_pos {W H : Nat} {g : Int → Int → Int} (e : ∀ x y, 0 ≤ g x y) {x y : Nat} (hx : x < W) (hy : y < H) : g x y ≤ bx W H g := by
  have a : g x y ≤ sN W (fun x => g x y) := sN_pos (g := fun x : Nat => g x y) (fun i _ => e _ _) hx
  have b : sN W (fun x => g x y) ≤ bx W H g := sN_pos (g := fun y : Nat => sN W fun x => g x y) (fun i _ => by
    have := sN_le (n := W) (g := fun _ => 0) (h := fun x : Nat => g x i) fun j _ => e _ _
    rwa [sN_zero] at this) hy
  exact Int.le_trans a b
theorem bx_neg (W H : Nat) (g : Int → Int → Int) : bx W H (fun x y => -g x y) = -bx W H g := by
  have := bx_add W H g (fun x y => -g x y)
  rw [show bx W H (fun x y => g x y + -g x y) = 0 from by rw [← bx_zero W H]; exact bx_congr fun x y => by omega] at this
  omega
end Go.Proofs.Ytljfiefobnncaaa.Qm
