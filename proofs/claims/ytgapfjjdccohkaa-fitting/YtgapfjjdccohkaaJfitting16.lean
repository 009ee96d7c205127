import Derived.Test.YtgapfjjdccohkaaJfitting06
import Derived.Test.YtgapfjjdccohkaaJfitting01

/- outlineref: pt, bend, ahead, May. -/
namespace Go.Proofs.Ytgapfjjdccohkaa
open Go.RowKit

set_option maxHeartbeats 400000 in
theorem pt_any (x y : Int) (w : World) :
    Calls Try.prog 68 #[.int .i64 x, .int .i64 y] w fun e w' => e = .returned (.agg #[.int .i64 x, .int .i64 y]) ∧ w' = w.alloc (.cells #[.int .i64 x, .int .i64 y] 47) := by
  go_enter Try.func68, Try.ntmps68
  go_wp2
  refine bodyPost_ret (v := .agg #[.int .i64 x, .int .i64 y]) (by simp [results, Try.results68, go_sem]) rfl ?_
  exact ⟨rfl, rfl⟩

/-- Which way a side turns behind another: by their steps. -/
def stepX : Nat → Int
  | 1 => 1
  | 3 => -1
  | _ => 0
def stepY : Nat → Int
  | 0 => 1
  | 2 => -1
  | _ => 0
def bendD (d e : Nat) : Int := stepX d * stepY e - stepY d * stepX e
theorem en_step (s : Qm.Sd) (h : s.2.2 < 4) : Qm.en s = (s.1 + stepX s.2.2, s.2.1 + stepY s.2.2) := by
  obtain ⟨x, y, d⟩ := s
  match d, h with
  | 0, _ => simp [Qm.en, stepX, stepY]
  | 1, _ => simp [Qm.en, stepX, stepY]
  | 2, _ => simp [Qm.en, stepX, stepY]; omega
  | 3, _ => simp [Qm.en, stepX, stepY]; omega
/-- The cells of a side. -/
def sdV (s : Qm.Sd) : List Value := [.int .i64 s.1, .int .i64 s.2.1, .int .i64 (Qm.en s).1, .int .i64 (Qm.en s).2]

set_option maxHeartbeats 1000000 in
theorem bend_any (x y : Int) (d : Nat) (x' y' : Int) (d' : Nat) (hd : d < 4) (hd' : d' < 4) (w : World) :
    Calls Try.prog 60 #[.agg (sdV (x, y, d)).toArray, .agg (sdV (x', y', d')).toArray] w fun e w' => e = .returned (.int .i64 (bendD d d')) ∧ Below w.heap.size w w' := by
  have b1 : -1 ≤ stepX d ∧ stepX d ≤ 1 := by unfold stepX; split <;> omega
  have b2 : -1 ≤ stepY d ∧ stepY d ≤ 1 := by unfold stepY; split <;> omega
  have b3 : -1 ≤ stepX d' ∧ stepX d' ≤ 1 := by unfold stepX; split <;> omega
  have b4 : -1 ≤ stepY d' ∧ stepY d' ≤ 1 := by unfold stepY; split <;> omega
  have p1 : -1 ≤ stepX d * stepY d' ∧ stepX d * stepY d' ≤ 1 := by unfold stepX stepY; split <;> split <;> omega
  have p2 : -1 ≤ stepY d * stepX d' ∧ stepY d * stepX d' ≤ 1 := by unfold stepX stepY; split <;> split <;> omega
  simp only [sdV, en_step (x, y, d) hd, en_step (x', y', d') hd']
  have hb : Hid (bendD d d' = stepX d * stepY d' - stepY d * stepX d') := rfl
  generalize stepX d = a at *
  generalize stepY d = b at *
  generalize stepX d' = a' at *
  generalize stepY d' = b' at *
  obtain ⟨u, hu⟩ : ∃ u, a * b' = u := ⟨_, rfl⟩
  obtain ⟨v, hv⟩ : ∃ v, b * a' = v := ⟨_, rfl⟩
  rw [hu] at p1
  rw [hv] at p2
  have e1 : x + a - x = a := by omega
  have e2 : y + b - y = b := by omega
  have e3 : x' + a' - x' = a' := by omega
  have e4 : y' + b' - y' = b' := by omega
  go_enter Try.func60, Try.ntmps60
  go_wp2
  go_ret
  exact ⟨ret_int (by rw [hb.out, hu, hv]), by go_grown⟩

/-- Where a point stands, as a number. -/
def keyP (p : Int × Int) : Int := 33 * p.2 + p.1

set_option maxHeartbeats 1000000 in
theorem ahead_any (x y x' y' : Int) (hx : 0 ≤ x ∧ x ≤ 32) (hx' : 0 ≤ x' ∧ x' ≤ 32) (w : World) :
    Calls Try.prog 61 #[.agg #[.int .i64 x, .int .i64 y], .agg #[.int .i64 x', .int .i64 y']] w fun e w' => e = .returned (.bool (decide (keyP (x, y) < keyP (x', y')))) ∧ Below w.heap.size w w' := by
  by_cases h1 : y < y'
  · have E := hid (show decide (keyP (x, y) < keyP (x', y')) = true by unfold keyP; simp; omega)
    go_enter Try.func61, Try.ntmps61
    go_wp2
    go_ret
    exact ⟨ret_bool E.out.symm, by go_grown⟩
  · have d1 : decide (y < y') = false := by simp; omega
    by_cases h2 : y = y'
    · subst h2
      by_cases h3 : x < x'
      · have E := hid (show decide (keyP (x, y) < keyP (x', y)) = true by unfold keyP; simp; omega)
        go_enter Try.func61, Try.ntmps61
        go_wp2
        go_ret
        exact ⟨ret_bool E.out.symm, by go_grown⟩
      · have d3 : decide (x < x') = false := by simp; omega
        have E := hid (show decide (keyP (x, y) < keyP (x', y)) = false by unfold keyP; simp; omega)
        go_enter Try.func61, Try.ntmps61
        go_wp2
        go_ret
        exact ⟨ret_bool E.out.symm, by go_grown⟩
    · have d2 : (y == y') = false := by simp; omega
      have E := hid (show decide (keyP (x, y) < keyP (x', y')) = false by unfold keyP; simp; omega)
      go_enter Try.func61, Try.ntmps61
      go_wp2
      go_ret
      exact ⟨ret_bool E.out.symm, by go_grown⟩

set_option maxHeartbeats 1000000 in
theorem may_any (W H : Int) (s : ByteArray) (pol : Int) (draws : ByteArray) (spk : Int) (w : World) :
    Calls Try.prog 43 #[.agg #[.int .i64 W, .int .i64 H, .string s], .agg #[.int .i64 pol, .string draws, .int .i64 spk]] w fun e w' => e = .returned (.bool (mayB W H s.data.toList pol spk)) ∧ Below w.heap.size w w' := by
  cases hg : Pm.goodB W H s.data.toList
  · have E := hid (show mayB W H s.data.toList pol spk = false by unfold mayB; rw [hg]; simp)
    go_enter Try.func43, Try.ntmps43
    go_wp2_with (go_at_call 56; refine (good_any W H s _).mono ?_; rintro e w' ⟨rfl, rfl⟩; rw [hg])
    go_ret
    exact ⟨ret_bool E.out.symm, by go_grown⟩
  · by_cases p0 : 0 ≤ pol
    · by_cases p1 : pol ≤ 3
      · by_cases s0 : 0 ≤ spk
        · by_cases s1 : spk ≤ 1024
          · have E := hid (mayB_good (W := W) (H := H) (l := s.data.toList) (pol := pol) (spk := spk) (by omega) (by omega))
            go_enter Try.func43, Try.ntmps43
            go_wp2_with (go_at_call 56; refine (good_any W H s _).mono ?_; rintro e w' ⟨rfl, rfl⟩; rw [hg])
            go_ret
            exact ⟨ret_bool (by rw [E.out, hg]), by go_grown⟩
          · have E := hid (mayB_spk (W := W) (H := H) (l := s.data.toList) (pol := pol) (spk := spk) (by omega))
            have dd : decide (spk ≤ 1024) = false := by simp; omega
            go_enter Try.func43, Try.ntmps43
            go_wp2_with (go_at_call 56; refine (good_any W H s _).mono ?_; rintro e w' ⟨rfl, rfl⟩; rw [hg])
            go_ret
            exact ⟨ret_bool E.out.symm, by go_grown⟩
        · have E := hid (mayB_spk (W := W) (H := H) (l := s.data.toList) (pol := pol) (spk := spk) (by omega))
          have dd : decide (0 ≤ spk) = false := by simp; omega
          go_enter Try.func43, Try.ntmps43
          go_wp2_with (go_at_call 56; refine (good_any W H s _).mono ?_; rintro e w' ⟨rfl, rfl⟩; rw [hg])
          go_ret
          exact ⟨ret_bool E.out.symm, by go_grown⟩
      · have E := hid (mayB_pol (W := W) (H := H) (l := s.data.toList) (pol := pol) (spk := spk) (by omega))
        have dd : decide (pol ≤ 3) = false := by simp; omega
        go_enter Try.func43, Try.ntmps43
        go_wp2_with (go_at_call 56; refine (good_any W H s _).mono ?_; rintro e w' ⟨rfl, rfl⟩; rw [hg])
        go_ret
        exact ⟨ret_bool E.out.symm, by go_grown⟩
    · have E := hid (mayB_pol (W := W) (H := H) (l := s.data.toList) (pol := pol) (spk := spk) (by omega))
      have dd : decide (0 ≤ pol) = false := by simp; omega
      go_enter Try.func43, Try.ntmps43
      go_wp2_with (go_at_call 56; refine (good_any W H s _).mono ?_; rintro e w' ⟨rfl, rfl⟩; rw [hg])
      go_ret
      exact ⟨ret_bool E.out.symm, by go_grown⟩
end Go.Proofs.Ytgapfjjdccohkaa

/- outlineref.Joins. -/
namespace Go.Proofs.Ytgapfjjdccohkaa
open Go.RowKit

/-- Three boxes stand: a bitmap's, the options', a point's; below them all is as it was. -/
def Bj (B : Nat) (a b c x y : Value) (w wr : World) : Prop :=
  wr.cell? ⟨B, 0, none⟩ = some a ∧ wr.cell? ⟨B, 1, none⟩ = some b ∧ wr.cell? ⟨B, 2, none⟩ = some c ∧ wr.cell? ⟨B + 1 + 1, 0, none⟩ = some x ∧ wr.cell? ⟨B + 1 + 1, 1, none⟩ = some y ∧ Below B w wr ∧ B + 1 + 1 < wr.heap.size
theorem Bj.on {B : Nat} {a b c x y : Value} {w wr w2 : World} (h : Bj B a b c x y w wr) (hb : Below wr.heap.size wr w2) : Bj B a b c x y w w2 := by
  obtain ⟨c0, c1, c2, c3, c4, hn, hz⟩ := h
  have hz' : B < wr.heap.size := by omega
  exact ⟨(hb.cell (p := ⟨B, 0, none⟩) hz').trans c0, (hb.cell (p := ⟨B, 1, none⟩) hz').trans c1, (hb.cell (p := ⟨B, 2, none⟩) hz').trans c2, (hb.cell (p := ⟨B + 1 + 1, 0, none⟩) hz).trans c3, (hb.cell (p := ⟨B + 1 + 1, 1, none⟩) hz).trans c4, hn.trans (hb.mono (Nat.le_of_lt hz')), Nat.lt_of_lt_of_le hz hb.size⟩
theorem Bj.new (w : World) (a b c x y : Value) (o : Array Value) (t u v : TypeId) : Bj w.heap.size a b c x y w (((w.alloc (.cells #[a, b, c] t)).alloc (.cells o u)).alloc (.cells #[x, y] v)) :=
  ⟨by simp [go_sem], by simp [go_sem], by simp [go_sem], by simp [go_sem], by simp [go_sem], by go_grown, by simp⟩
theorem Bj.alloc {B : Nat} {a b c x y : Value} {w wr : World} (h : Bj B a b c x y w wr) (o : Obj) : Bj B a b c x y w (wr.alloc o) := h.on ((Below.refl _ _).alloc (Nat.le_refl _) _)

set_option maxHeartbeats 2000000 in
theorem refJoins_2 (W H : Nat) (s : ByteArray) (draws : ByteArray) (spk : Int) (X Y : Int) (hx : 0 ≤ X ∧ X ≤ 100) (hy : 0 ≤ Y ∧ Y ≤ 100) (w : World) (hw2 : W ≤ 32) (hh2 : H ≤ 32) (hl : s.size = W * H) :
    Calls Try.prog 59 #[.agg #[.int .i64 W, .int .i64 H, .string s], .agg #[.int .i64 2, .string draws, .int .i64 spk], .agg #[.int .i64 X, .int .i64 Y]] w fun e w' => e = .returned (.bool (decide (Qm.cntTo (Pm.blackB W H s.data.toList) X Y 16 < 8))) ∧ Below w.heap.size w w' := by
  have HL := hid hl
  clear hl
  go_enter Try.func59, Try.ntmps59
  go_wp2
  go_loopw [7, 8] (fun n y wr => ∃ i : Nat, i ≤ 4 ∧ y = .int .i64 (Y - 2 + (i : Nat)) ∧ n = .int .i64 (Qm.cntTo (Pm.blackB W H s.data.toList) X Y (4 * i) : Nat) ∧ Bj w.heap.size (.int .i64 W) (.int .i64 H) (.string s) (.int .i64 X) (.int .i64 Y) w wr) (fun _ y _ => (Y + 5 - intOf y).toNat)
  case atStart => exact ⟨0, by omega, by simp, rfl, Bj.new ..⟩
  case round =>
    obtain ⟨i, hi, rfl, rfl, hB⟩ := hrel
    have HB := hid hB
    obtain ⟨c0, c1, c2, c3, c4, -, hz⟩ := hB
    by_cases hlt : i < 4
    · have hlt' : Y - 2 + (i : Int) ≤ Y + 1 := by omega
      go_wp2
      go_loopw [7, 9] (fun n x wr => ∃ j : Nat, j ≤ 4 ∧ x = .int .i64 (X - 2 + (j : Nat)) ∧ n = .int .i64 (Qm.cntTo (Pm.blackB W H s.data.toList) X Y (4 * i + j) : Nat) ∧ Bj w.heap.size (.int .i64 W) (.int .i64 H) (.string s) (.int .i64 X) (.int .i64 Y) w wr) (fun _ x _ => (X + 5 - intOf x).toNat)
      case atStart => exact ⟨0, by omega, by simp, rfl, HB.out⟩
      case round =>
        clear c0 c1 c2 c3 c4 hz HB
        obtain ⟨j, hj, rfl, rfl, hB⟩ := hrel
        have HB := hid hB
        obtain ⟨c0, c1, c2, c3, c4, -, hz⟩ := hB
        by_cases hj4 : j < 4
        · have hjt : X - 2 + (j : Int) ≤ X + 1 := by omega
          have hc := Qm.cntTo_le (Pm.blackB W H s.data.toList) X Y (4 * i + j)
          cases hq : Pm.blackB W H s.data.toList (X - 2 + (j : Nat)) (Y - 2 + (i : Nat))
          · have E := hid (Qm.cntTo_no (Pm.blackB W H s.data.toList) X Y i j hj4 hq)
            go_wp2_with (go_at_call 57; refine (black_any W H s _ _ _ hw2 hh2 HL.out).mono ?_; rintro e w1 ⟨rfl, rfl⟩; rw [hq])
            go_roundw
            case rel => exact ⟨j + 1, by omega, by go_num, by rw [E.out], HB.out.alloc _⟩
            case measure => simp [intOf]; omega
          · have E := hid (Qm.cntTo_yes (Pm.blackB W H s.data.toList) X Y i j hj4 hq)
            go_wp2_with (go_at_call 57; refine (black_any W H s _ _ _ hw2 hh2 HL.out).mono ?_; rintro e w1 ⟨rfl, rfl⟩; rw [hq])
            go_roundw
            case rel => exact ⟨j + 1, by omega, by go_num, by rw [E.out]; go_num, HB.out.alloc _⟩
            case measure => simp [intOf]; omega
        · have e4 : j = 4 := by omega
          subst e4
          go_wp2
          go_roundw
          case rel => exact ⟨i + 1, by omega, by go_num, rfl, HB.out⟩
          case measure => simp [intOf]; omega
    · have e4 : i = 4 := by omega
      subst e4
      have hc := Qm.cntTo_le (Pm.blackB W H s.data.toList) X Y 16
      go_wp2
      go_ret
      exact ⟨ret_bool (by simp; omega), HB.out.2.2.2.2.2.1⟩

set_option maxHeartbeats 2000000 in
theorem refJoins_any (W H : Nat) (s : ByteArray) (pol : Nat) (draws : ByteArray) (spk : Int) (x y : Nat) (hp : pol ≤ 3) (hx : x ≤ 100) (hy : y ≤ 100) (w : World) (hw2 : W ≤ 32) (hh2 : H ≤ 32) (hl : s.size = W * H) :
    Calls Try.prog 59 #[.agg #[.int .i64 W, .int .i64 H, .string s], .agg #[.int .i64 pol, .string draws, .int .i64 spk], .agg #[.int .i64 x, .int .i64 y]] w fun e w' => e = .returned (.bool (Qm.jnB W H s.data.toList pol draws.data.toList x y)) ∧ Below w.heap.size w w' := by
  match pol, hp with
  | 0, _ =>
    go_enter Try.func59, Try.ntmps59
    go_wp2
    go_ret
    exact ⟨ret_bool (Qm.jnB_0 ..).symm, by go_grown⟩
  | 1, _ =>
    go_enter Try.func59, Try.ntmps59
    go_wp2
    go_ret
    exact ⟨ret_bool (Qm.jnB_1 ..).symm, by go_grown⟩
  | 2, _ => exact refJoins_2 W H s draws spk x y (by omega) (by omega) w hw2 hh2 hl
  | 3, _ =>
    obtain ⟨k, hk⟩ : ∃ k : Nat, k = y * (W + 1) := ⟨_, rfl⟩
    have ek : (y : Int) * ((W : Int) + 1) = (k : Nat) := by rw [hk]; simp
    have hk2 : k ≤ 100 * 33 := by rw [hk]; exact Nat.mul_le_mul hy (by omega)
    have E0 : Hid (Qm.jnB W H s.data.toList (3 : Nat) draws.data.toList x y = Pm.bitAt draws.data.toList (k + x)) := by
      show _ = _
      rw [show ((3 : Nat) : Int) = 3 from rfl, Qm.jnB_3, ek, show ((k : Int) + (x : Int)).toNat = k + x from by omega]
    clear hk
    by_cases hlt : k + x < draws.size
    · by_cases q : (draws[k + x].toNat : Int) = 49
      · have E := hid (Pm.bitAt_yes draws _ hlt q)
        go_enter Try.func59, Try.ntmps59
        go_wp2
        go_ret
        exact ⟨ret_bool (E.out.symm.trans E0.out.symm), by go_grown⟩
      · have E := hid (Pm.bitAt_no draws _ hlt q)
        have b0 : ((draws[k + x].toNat : Int) == 49) = false := by simpa using q
        go_enter Try.func59, Try.ntmps59
        go_wp2
        go_ret
        exact ⟨ret_bool (E.out.symm.trans E0.out.symm), by go_grown⟩
    · have E := hid (Pm.bitAt_out draws _ hlt)
      go_enter Try.func59, Try.ntmps59
      go_wp2
      go_ret
      exact ⟨ret_bool (E.out.symm.trans E0.out.symm), by go_grown⟩
end Go.Proofs.Ytgapfjjdccohkaa
