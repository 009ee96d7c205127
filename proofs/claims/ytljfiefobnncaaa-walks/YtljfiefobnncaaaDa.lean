/- outlineref: pt, bend, ahead, May. -/
import Derived.Test.YtljfiefobnncaaaCl
import Derived.Test.YtljfiefobnncaaaWe
namespace Go.Proofs.Ytljfiefobnncaaa
open Go.RowKit

set_option maxHeartbeats 400000 in
theorem pt_any (x y : Int) (w : World) :
    Calls Try.prog 84 #[.int .i64 x, .int .i64 y] w fun e w' => e = .returned (.agg #[.int .i64 x, .int .i64 y]) ∧ w' = w.alloc (.cells #[.int .i64 x, .int .i64 y] 47) := by
  go_enter Try.func84, Try.ntmps84
  go_wp2
  refine bodyPost_ret (v := .agg #[.int .i64 x, .int .i64 y]) (by simp [results, Try.results84, go_sem]) rfl ?_
  exact ⟨rfl, rfl⟩

/-- Which way a side turns behind another: by their steps. -/
def stepX : Nat → Int
  | 1 => 1
  | 3 => -1
  | _ => 0
def stepY : Nat → Int
  | 0 => 1
  | 2 => -1
  | _ => 0
def bendD (d e : Nat) : Int := stepX d * stepY e - stepY d * stepX e
theorem en_step (s : Qm.Sd) (h : s.2.2 < 4) : Qm.en s = (s.1 + stepX s.2.2, s.2.1 + stepY s.2.2) := by
  obtain ⟨x, y, d⟩ := s
  match d, h with
  | 0, _ => simp [Qm.en, stepX, stepY]
  | 1, _ => simp [Qm.en, stepX, stepY]
  | 2, _ => simp [Qm.en, stepX, stepY]; omega
  | 3, _ => simp [Qm.en, stepX, stepY]; omega
/-- The cells of a side. -/
def sdV (s : Qm.Sd) : List Value := [.int .i64 s.1, .int .i64 s.2.1, .int .i64 (Qm.en s).1, .int .i64 (Qm.en s).2]

set_option maxHeartbeats 1000000 in
theorem bend_any (x y : Int) (d : Nat) (x' y' : Int) (d' : Nat) (hd : d < 4) (hd' : d' < 4) (w : World) :
    Calls Try.prog 74 #[.agg (sdV (x, y, d)).toArray, .agg (sdV (x', y', d')).toArray] w fun e w' => e = .returned (.int .i64 (bendD d d')) ∧ Below w.heap.size w w' := by
  have b1 : -1 ≤ stepX d ∧ stepX d ≤ 1 := by unfold stepX; split <;> omega
  have b2 : -1 ≤ stepY d ∧ stepY d ≤ 1 := by unfold stepY; split <;> omega
  have b3 : -1 ≤ stepX d' ∧ stepX d' ≤ 1 := by unfold stepX; split <;> omega
  have b4 : -1 ≤ stepY d' ∧ stepY d' ≤ 1 := by unfold stepY; split <;> omega
  have p1 : -1 ≤ stepX d * stepY d' ∧ stepX d * stepY d' ≤ 1 := by unfold stepX stepY; split <;> split <;> omega
  have p2 : -1 ≤ stepY d * stepX d' ∧ stepY d * stepX d' ≤ 1 := by unfold stepX stepY; split <;> split <;> omega
  simp only [sdV, en_step (x, y, d) hd, en_step (x', y', d') hd']
  have hb : Hid (bendD d d' = stepX d * stepY d' - stepY d * stepX d') := rfl
  generalize stepX d = a at *
  generalize stepY d = b at *
  generalize stepX d' = a' at *
  generalize stepY d' = b' at *
  obtain ⟨u, hu⟩ : ∃ u, a * b' = u := ⟨_, rfl⟩
  obtain ⟨v, hv⟩ : ∃ v, b * a' = v := ⟨_, rfl⟩
  rw [hu] at p1
  rw [hv] at p2
  have e1 : x + a - x = a := by omega
  have e2 : y + b - y = b := by omega
  have e3 : x' + a' - x' = a' := by omega
  have e4 : y' + b' - y' = b' := by omega
  go_enter Try.func74, Try.ntmps74
  go_wp2
  go_ret
  exact ⟨ret_int (by rw [hb.out, hu, hv]), by go_grown⟩

/-- Where a point stands, as a number. -/
def keyP (p : Int × Int) : Int := 33 * p.2 + p.1

set_option maxHeartbeats 1000000 in
theorem ahead_any (x y x' y' : Int) (hx : 0 ≤ x ∧ x ≤ 32) (hx' : 0 ≤ x' ∧ x' ≤ 32) (w : World) :
    Calls Try.prog 75 #[.agg #[.int .i64 x, .int .i64 y], .agg #[.int .i64 x', .int .i64 y']] w fun e w' => e = .returned (.bool (decide (keyP (x, y) < keyP (x', y')))) ∧ Below w.heap.size w w' := by
  by_cases h1 : y < y'
  · have E := hid (show decide (keyP (x, y) < keyP (x', y')) = true by unfold keyP; simp; omega)
    go_enter Try.func75, Try.ntmps75
    go_wp2
    go_ret
    exact ⟨ret_bool E.out.symm, by go_grown⟩
  · have d1 : decide (y < y') = false := by simp; omega
    by_cases h2 : y = y'
    · subst h2
      by_cases h3 : x < x'
      · have E := hid (show decide (keyP (x, y) < keyP (x', y)) = true by unfold keyP; simp; omega)
        go_enter Try.func75, Try.ntmps75
        go_wp2
        go_ret
        exact ⟨ret_bool E.out.symm, by go_grown⟩
      · have d3 : decide (x < x') = false := by simp; omega
        have E := hid (show decide (keyP (x, y) < keyP (x', y)) = false by unfold keyP; simp; omega)
        go_enter Try.func75, Try.ntmps75
        go_wp2
        go_ret
        exact ⟨ret_bool E.out.symm, by go_grown⟩
    · have d2 : (y == y') = false := by simp; omega
      have E := hid (show decide (keyP (x, y) < keyP (x', y')) = false by unfold keyP; simp; omega)
      go_enter Try.func75, Try.ntmps75
      go_wp2
      go_ret
      exact ⟨ret_bool E.out.symm, by go_grown⟩

set_option maxHeartbeats 1000000 in
theorem may_any (W H : Int) (s : ByteArray) (pol : Int) (draws : ByteArray) (spk : Int) (w : World) :
    Calls Try.prog 51 #[.agg #[.int .i64 W, .int .i64 H, .string s], .agg #[.int .i64 pol, .string draws, .int .i64 spk]] w fun e w' => e = .returned (.bool (mayB W H s.data.toList pol spk)) ∧ Below w.heap.size w w' := by
  cases hg : Pm.goodB W H s.data.toList
  · have E := hid (show mayB W H s.data.toList pol spk = false by unfold mayB; rw [hg]; simp)
    go_enter Try.func51, Try.ntmps51
    go_wp2_with (go_at_call 70; refine (good_any W H s _).mono ?_; rintro e w' ⟨rfl, rfl⟩; rw [hg])
    go_ret
    exact ⟨ret_bool E.out.symm, by go_grown⟩
  · by_cases p0 : 0 ≤ pol
    · by_cases p1 : pol ≤ 3
      · by_cases s0 : 0 ≤ spk
        · by_cases s1 : spk ≤ 1024
          · have E := hid (mayB_good (W := W) (H := H) (l := s.data.toList) (pol := pol) (spk := spk) (by omega) (by omega))
            go_enter Try.func51, Try.ntmps51
            go_wp2_with (go_at_call 70; refine (good_any W H s _).mono ?_; rintro e w' ⟨rfl, rfl⟩; rw [hg])
            go_ret
            exact ⟨ret_bool (by rw [E.out, hg]), by go_grown⟩
          · have E := hid (mayB_spk (W := W) (H := H) (l := s.data.toList) (pol := pol) (spk := spk) (by omega))
            have dd : decide (spk ≤ 1024) = false := by simp; omega
            go_enter Try.func51, Try.ntmps51
            go_wp2_with (go_at_call 70; refine (good_any W H s _).mono ?_; rintro e w' ⟨rfl, rfl⟩; rw [hg])
            go_ret
            exact ⟨ret_bool E.out.symm, by go_grown⟩
        · have E := hid (mayB_spk (W := W) (H := H) (l := s.data.toList) (pol := pol) (spk := spk) (by omega))
          have dd : decide (0 ≤ spk) = false := by simp; omega
          go_enter Try.func51, Try.ntmps51
          go_wp2_with (go_at_call 70; refine (good_any W H s _).mono ?_; rintro e w' ⟨rfl, rfl⟩; rw [hg])
          go_ret
          exact ⟨ret_bool E.out.symm, by go_grown⟩
      · have E := hid (mayB_pol (W := W) (H := H) (l := s.data.toList) (pol := pol) (spk := spk) (by omega))
        have dd : decide (pol ≤ 3) = false := by simp; omega
        go_enter Try.func51, Try.ntmps51
        go_wp2_with (go_at_call 70; refine (good_any W H s _).mono ?_; rintro e w' ⟨rfl, rfl⟩; rw [hg])
        go_ret
        exact ⟨ret_bool E.out.symm, by go_grown⟩
    · have E := hid (mayB_pol (W := W) (H := H) (l := s.data.toList) (pol := pol) (spk := spk) (by omega))
      have dd : decide (0 ≤ pol) = false := by simp; omega
      go_enter Try.func51, Try.ntmps51
      go_wp2_with (go_at_call 70; refine (good_any W H s _).mono ?_; rintro e w' ⟨rfl, rfl⟩; rw [hg])
      go_ret
      exact ⟨ret_bool E.out.symm, by go_grown⟩
end Go.Proofs.Ytljfiefobnncaaa
