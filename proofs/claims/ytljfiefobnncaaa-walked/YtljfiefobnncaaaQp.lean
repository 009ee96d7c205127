/- What Walked counts: sums by rows, what is ahead of a cycle in the answer. Nothing of the program stands here. -/
import Derived.Test.YtljfiefobnncaaaQo
import Derived.Test.YtljfiefobnncaaaQd
import Derived.Test.YtljfiefobnncaaaQc
namespace Go.Proofs.Ytljfiefobnncaaa.Qm
open Pm

theorem sN_bound {n : Nat} {g : Nat → Int} {m : Int} (e : ∀ i, i < n → 0 ≤ g i ∧ g i ≤ m) : 0 ≤ sN n g ∧ sN n g ≤ m * n := by
  induction n with
  | zero => simp [sN]
  | succ n ih =>
    have a := ih fun i hi => e i (by omega)
    have b := e n (by omega)
    simp only [sN]
    have : m * ((n + 1 : Nat) : Int) = m * n + m := by rw [show ((n + 1 : Nat) : Int) = (n : Int) + 1 from by omega, Int.mul_add]; omega
    rw [this]; omega
theorem cS_in (bl : Int → Int → Bool) (x y : Int) : 0 ≤ cS bl x y ∧ cS bl x y ≤ 2 := by
  unfold cS; split <;> split <;> omega
theorem row_cS (bl : Int → Int → Bool) (n : Nat) (y : Int) : 0 ≤ sN n (fun x => cS bl x y) ∧ sN n (fun x => cS bl x y) ≤ 2 * n := sN_bound fun _ _ => cS_in bl _ _
theorem bx_cS (bl : Int → Int → Bool) (W H : Nat) (hw : W ≤ 33) (hh : H ≤ 33) : 0 ≤ bx W H (cS bl) ∧ bx W H (cS bl) ≤ 2178 := by
  have a := sN_bound (n := H) (g := fun y => sN W fun x => cS bl x y) (m := 66) fun i _ => by have := row_cS bl W i; omega
  unfold bx
  omega
theorem sN_app (a b : Nat) (g : Nat → Int) : sN (a + b) g = sN a g + sN b fun i => g (a + i) := by
  induction b with
  | zero => simp [sN]
  | succ b ih => rw [← Nat.add_assoc]; simp only [sN, ih]; omega
/-- Black pixels, counted byte by byte. -/
theorem bits_rows (W H : Nat) (l : List UInt8) : sN (H * W) (fun i => if bitAt l i = true then 1 else 0) = bx W H (fun x y => if blackB W H l x y = true then 1 else 0) := by
  have key : ∀ h, h ≤ H → sN (h * W) (fun i => if bitAt l i = true then 1 else 0) = sN h fun y => sN W fun x => if blackB W H l x y = true then 1 else 0 := by
    intro h
    induction h with
    | zero => intro _; simp [sN]
    | succ h ih =>
      intro hh
      rw [Nat.succ_mul, sN_app, ih (by omega)]
      simp only [sN]
      congr 1
      refine sN_congr fun x hx => ?_
      rw [blackB_in W H l x h hx (by omega) (h * W) rfl]
  exact key H (Nat.le_refl _)

section
variable {f : Sd → Sd} {P : Sd → Prop} {R : List (Sd × Nat)} {i : Nat}
theorem Res.at (h : Res f P key R) (hi : i < R.length) : Canon f P key R[i] := h.1 _ (List.getElem_mem hi)
/-- No side of a cycle is on a cycle ahead of it. -/
theorem Res.fresh (h : Res f P key R) (hi : i < R.length) (m : Nat) : ¬ Tk f (R.take i) (it f m R[i].1) := by
  rintro ⟨c, hc, j, hj, e⟩
  obtain ⟨a, ha, rfl⟩ := List.mem_iff_getElem.1 hc
  simp only [List.length_take] at ha
  rw [List.getElem_take] at hj e
  have s := (h.at (i := a) (by omega)).share (h.at hi) hj e.symm
  have p := List.pairwise_iff_getElem.1 h.2.1 a i (by omega) hi (by omega)
  rw [s] at p
  omega
theorem Res.lt (h : Res f P key R) (hi : i + 1 < R.length) : key R[i].1 < key R[i + 1].1 := List.pairwise_iff_getElem.1 h.2.1 i (i + 1) (by omega) hi (by omega)
theorem take_next {α : Type} {R : List α} {i : Nat} (hi : i < R.length) : R.take (i + 1) = R.take i ++ [R[i]] := by
  rw [List.take_add_one, List.getElem?_eq_getElem hi]; rfl
theorem alS_app (f : Sd → Sd) (R S : List (Sd × Nat)) : alS f (R ++ S) = alS f R ++ alS f S := by simp [alS]
theorem cyS_len (f : Sd → Sd) (c : Sd × Nat) : (cyS f c).length = c.2 := by simp [cyS]
/-- How many sides the first i cycles have. -/
def totS (R : List (Sd × Nat)) (i : Nat) : Nat := ((R.take i).map (·.2)).sum
theorem totS_zero (R : List (Sd × Nat)) : totS R 0 = 0 := rfl
theorem totS_succ (hi : i < R.length) : totS R (i + 1) = totS R i + R[i].2 := by
  unfold totS; rw [take_next hi, List.map_append, List.sum_append, List.map_singleton, List.sum_singleton]
theorem len_alS (f : Sd → Sd) (R : List (Sd × Nat)) : (alS f R).length = (R.map (·.2)).sum := by
  induction R with
  | nil => rfl
  | cons c R ih => rw [alS_cons, List.length_append, ih, cyS_len]; simp
theorem totS_all (f : Sd → Sd) (R : List (Sd × Nat)) : totS R R.length = (alS f R).length := by
  unfold totS; rw [List.take_length, len_alS]
theorem totS_mono (R : List (Sd × Nat)) (i : Nat) : totS R i ≤ totS R R.length := by
  unfold totS
  rw [List.take_length]
  conv => rhs; rw [← List.take_append_drop i R]
  rw [List.map_append, List.sum_append]
  omega
/-- Twice the area of the first i cycles. -/
def areaS (f : Sd → Sd) (R : List (Sd × Nat)) (i : Nat) : Int := ((R.take i).map fun c => twiceOf (ptsOf f c)).sum
theorem areaS_zero (f : Sd → Sd) (R : List (Sd × Nat)) : areaS f R 0 = 0 := rfl
theorem areaS_succ (f : Sd → Sd) (hi : i < R.length) : areaS f R (i + 1) = areaS f R i + twiceOf (ptsOf f R[i]) := by
  unfold areaS; rw [take_next hi, List.map_append, List.sum_append, List.map_singleton, List.sum_singleton]
theorem areaS_all (f : Sd → Sd) (R : List (Sd × Nat)) : areaS f R R.length = (R.map fun c => twiceOf (ptsOf f c)).sum := by
  unfold areaS; rw [List.take_length]
theorem areaS_small (f : Sd → Sd) (R : List (Sd × Nat)) (hs : ∀ c ∈ R, Small (ptsOf f c)) : ∀ i, i ≤ R.length → -1024 * (totS R i : Int) ≤ areaS f R i ∧ areaS f R i ≤ 1024 * (totS R i : Int)
  | 0, _ => by simp [totS_zero, areaS_zero]
  | i + 1, hi => by
    have a := areaS_small f R hs i (by omega)
    have b := fsum_small (hs _ (List.getElem_mem (l := R) (n := i) (by omega))) (ptsOf f R[i]).length
    rw [← twiceOf_fsum, ptsOf_len] at b
    rw [areaS_succ f (by omega), totS_succ (by omega)]
    omega
end

section
variable {bl jn : Int → Int → Bool} {R : List (Sd × Nat)} {i : Nat}
theorem Canon.step_end {c : Sd × Nat} (h : Canon (nx bl jn) (fun s => isS bl s = true) key c) (k : Nat) : fromP (it (nx bl jn) ((k + 1) % c.2) c.1) = en (it (nx bl jn) k c.1) := by
  rw [← h.1.mod (k + 1)]; rfl
end
end Go.Proofs.Ytljfiefobnncaaa.Qm
