/- outlineref.Joins. -/
import Derived.Test.YtljfiefobnncaaaDa
namespace Go.Proofs.Ytljfiefobnncaaa
open Go.RowKit

/-- Three boxes stand: a bitmap's, the options', a point's; below them all is as it was. -/
def Bj (B : Nat) (a b c x y : Value) (w wr : World) : Prop :=
  wr.cell? ⟨B, 0, none⟩ = some a ∧ wr.cell? ⟨B, 1, none⟩ = some b ∧ wr.cell? ⟨B, 2, none⟩ = some c ∧ wr.cell? ⟨B + 1 + 1, 0, none⟩ = some x ∧ wr.cell? ⟨B + 1 + 1, 1, none⟩ = some y ∧ Below B w wr ∧ B + 1 + 1 < wr.heap.size
theorem Bj.on {B : Nat} {a b c x y : Value} {w wr w2 : World} (h : Bj B a b c x y w wr) (hb : Below wr.heap.size wr w2) : Bj B a b c x y w w2 := by
  obtain ⟨c0, c1, c2, c3, c4, hn, hz⟩ := h
  have hz' : B < wr.heap.size := by omega
  exact ⟨(hb.cell (p := ⟨B, 0, none⟩) hz').trans c0, (hb.cell (p := ⟨B, 1, none⟩) hz').trans c1, (hb.cell (p := ⟨B, 2, none⟩) hz').trans c2, (hb.cell (p := ⟨B + 1 + 1, 0, none⟩) hz).trans c3, (hb.cell (p := ⟨B + 1 + 1, 1, none⟩) hz).trans c4, hn.trans (hb.mono (Nat.le_of_lt hz')), Nat.lt_of_lt_of_le hz hb.size⟩
theorem Bj.new (w : World) (a b c x y : Value) (o : Array Value) (t u v : TypeId) : Bj w.heap.size a b c x y w (((w.alloc (.cells #[a, b, c] t)).alloc (.cells o u)).alloc (.cells #[x, y] v)) :=
  ⟨by simp [go_sem], by simp [go_sem], by simp [go_sem], by simp [go_sem], by simp [go_sem], by go_grown, by simp⟩
theorem Bj.alloc {B : Nat} {a b c x y : Value} {w wr : World} (h : Bj B a b c x y w wr) (o : Obj) : Bj B a b c x y w (wr.alloc o) := h.on ((Below.refl _ _).alloc (Nat.le_refl _) _)

set_option maxHeartbeats 2000000 in
theorem refJoins_2 (W H : Nat) (s : ByteArray) (draws : ByteArray) (spk : Int) (X Y : Int) (hx : 0 ≤ X ∧ X ≤ 100) (hy : 0 ≤ Y ∧ Y ≤ 100) (w : World) (hw2 : W ≤ 32) (hh2 : H ≤ 32) (hl : s.size = W * H) :
    Calls Try.prog 73 #[.agg #[.int .i64 W, .int .i64 H, .string s], .agg #[.int .i64 2, .string draws, .int .i64 spk], .agg #[.int .i64 X, .int .i64 Y]] w fun e w' => e = .returned (.bool (decide (Qm.cntTo (Pm.blackB W H s.data.toList) X Y 16 < 8))) ∧ Below w.heap.size w w' := by
  have HL := hid hl
  clear hl
  go_enter Try.func73, Try.ntmps73
  go_wp2
  go_loopw [7, 8] (fun n y wr => ∃ i : Nat, i ≤ 4 ∧ y = .int .i64 (Y - 2 + (i : Nat)) ∧ n = .int .i64 (Qm.cntTo (Pm.blackB W H s.data.toList) X Y (4 * i) : Nat) ∧ Bj w.heap.size (.int .i64 W) (.int .i64 H) (.string s) (.int .i64 X) (.int .i64 Y) w wr) (fun _ y _ => (Y + 5 - intOf y).toNat)
  case atStart => exact ⟨0, by omega, by simp, rfl, Bj.new ..⟩
  case round =>
    obtain ⟨i, hi, rfl, rfl, hB⟩ := hrel
    have HB := hid hB
    obtain ⟨c0, c1, c2, c3, c4, -, hz⟩ := hB
    by_cases hlt : i < 4
    · have hlt' : Y - 2 + (i : Int) ≤ Y + 1 := by omega
      go_wp2
      go_loopw [7, 9] (fun n x wr => ∃ j : Nat, j ≤ 4 ∧ x = .int .i64 (X - 2 + (j : Nat)) ∧ n = .int .i64 (Qm.cntTo (Pm.blackB W H s.data.toList) X Y (4 * i + j) : Nat) ∧ Bj w.heap.size (.int .i64 W) (.int .i64 H) (.string s) (.int .i64 X) (.int .i64 Y) w wr) (fun _ x _ => (X + 5 - intOf x).toNat)
      case atStart => exact ⟨0, by omega, by simp, rfl, HB.out⟩
      case round =>
        clear c0 c1 c2 c3 c4 hz HB
        obtain ⟨j, hj, rfl, rfl, hB⟩ := hrel
        have HB := hid hB
        obtain ⟨c0, c1, c2, c3, c4, -, hz⟩ := hB
        by_cases hj4 : j < 4
        · have hjt : X - 2 + (j : Int) ≤ X + 1 := by omega
          have hc := Qm.cntTo_le (Pm.blackB W H s.data.toList) X Y (4 * i + j)
          cases hq : Pm.blackB W H s.data.toList (X - 2 + (j : Nat)) (Y - 2 + (i : Nat))
          · have E := hid (Qm.cntTo_no (Pm.blackB W H s.data.toList) X Y i j hj4 hq)
            go_wp2_with (go_at_call 71; refine (black_any W H s _ _ _ hw2 hh2 HL.out).mono ?_; rintro e w1 ⟨rfl, rfl⟩; rw [hq])
            go_roundw
            case rel => exact ⟨j + 1, by omega, by go_num, by rw [E.out], HB.out.alloc _⟩
            case measure => simp [intOf]; omega
          · have E := hid (Qm.cntTo_yes (Pm.blackB W H s.data.toList) X Y i j hj4 hq)
            go_wp2_with (go_at_call 71; refine (black_any W H s _ _ _ hw2 hh2 HL.out).mono ?_; rintro e w1 ⟨rfl, rfl⟩; rw [hq])
            go_roundw
            case rel => exact ⟨j + 1, by omega, by go_num, by rw [E.out]; go_num, HB.out.alloc _⟩
            case measure => simp [intOf]; omega
        · have e4 : j = 4 := by omega
          subst e4
          go_wp2
          go_roundw
          case rel => exact ⟨i + 1, by omega, by go_num, rfl, HB.out⟩
          case measure => simp [intOf]; omega
    · have e4 : i = 4 := by omega
      subst e4
      have hc := Qm.cntTo_le (Pm.blackB W H s.data.toList) X Y 16
      go_wp2
      go_ret
      exact ⟨ret_bool (by simp; omega), HB.out.2.2.2.2.2.1⟩

set_option maxHeartbeats 2000000 in
theorem refJoins_any (W H : Nat) (s : ByteArray) (pol : Nat) (draws : ByteArray) (spk : Int) (x y : Nat) (hp : pol ≤ 3) (hx : x ≤ 100) (hy : y ≤ 100) (w : World) (hw2 : W ≤ 32) (hh2 : H ≤ 32) (hl : s.size = W * H) :
    Calls Try.prog 73 #[.agg #[.int .i64 W, .int .i64 H, .string s], .agg #[.int .i64 pol, .string draws, .int .i64 spk], .agg #[.int .i64 x, .int .i64 y]] w fun e w' => e = .returned (.bool (Qm.jnB W H s.data.toList pol draws.data.toList x y)) ∧ Below w.heap.size w w' := by
  match pol, hp with
  | 0, _ =>
    go_enter Try.func73, Try.ntmps73
    go_wp2
    go_ret
    exact ⟨ret_bool (Qm.jnB_0 ..).symm, by go_grown⟩
  | 1, _ =>
    go_enter Try.func73, Try.ntmps73
    go_wp2
    go_ret
    exact ⟨ret_bool (Qm.jnB_1 ..).symm, by go_grown⟩
  | 2, _ => exact refJoins_2 W H s draws spk x y (by omega) (by omega) w hw2 hh2 hl
  | 3, _ =>
    obtain ⟨k, hk⟩ : ∃ k : Nat, k = y * (W + 1) := ⟨_, rfl⟩
    have ek : (y : Int) * ((W : Int) + 1) = (k : Nat) := by rw [hk]; simp
    have hk2 : k ≤ 100 * 33 := by rw [hk]; exact Nat.mul_le_mul hy (by omega)
    have E0 : Hid (Qm.jnB W H s.data.toList (3 : Nat) draws.data.toList x y = Pm.bitAt draws.data.toList (k + x)) := by
      show _ = _
      rw [show ((3 : Nat) : Int) = 3 from rfl, Qm.jnB_3, ek, show ((k : Int) + (x : Int)).toNat = k + x from by omega]
    clear hk
    by_cases hlt : k + x < draws.size
    · by_cases q : (draws[k + x].toNat : Int) = 49
      · have E := hid (Pm.bitAt_yes draws _ hlt q)
        go_enter Try.func73, Try.ntmps73
        go_wp2
        go_ret
        exact ⟨ret_bool (E.out.symm.trans E0.out.symm), by go_grown⟩
      · have E := hid (Pm.bitAt_no draws _ hlt q)
        have b0 : ((draws[k + x].toNat : Int) == 49) = false := by simpa using q
        go_enter Try.func73, Try.ntmps73
        go_wp2
        go_ret
        exact ⟨ret_bool (E.out.symm.trans E0.out.symm), by go_grown⟩
    · have E := hid (Pm.bitAt_out draws _ hlt)
      go_enter Try.func73, Try.ntmps73
      go_wp2
      go_ret
      exact ⟨ret_bool (E.out.symm.trans E0.out.symm), by go_grown⟩
end Go.Proofs.Ytljfiefobnncaaa
