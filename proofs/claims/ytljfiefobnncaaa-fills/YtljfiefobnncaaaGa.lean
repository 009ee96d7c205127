/- Package shape: reaches, toTheRight, windingOf, GoesThrough. -/
import Derived.Test.YtljfiefobnncaaaQs
import Derived.Test.YtljfiefobnncaaaCf
namespace Go.Proofs.Ytljfiefobnncaaa
open Go.RowKit

/-- A point of a bitmap; a pixel in its reach. -/
def PtIn (p : Int × Int) : Prop := 0 ≤ p.1 ∧ p.1 ≤ 32 ∧ 0 ≤ p.2 ∧ p.2 ≤ 32
def two (w : World) (p q : Int × Int) : World := (w.alloc (.cells #[.int .i64 p.1, .int .i64 p.2] 47)).alloc (.cells #[.int .i64 q.1, .int .i64 q.2] 47)
theorem two_below (w : World) (p q : Int × Int) : Below w.heap.size w (two w p q) := ((Below.refl _ _).alloc (Nat.le_refl _) _).alloc (by simp) _

set_option maxHeartbeats 400000 in
theorem reaches_any (p q : Int × Int) (y : Int) (w : World) :
    Calls Try.prog 101 #[.agg #[.int .i64 p.1, .int .i64 p.2], .agg #[.int .i64 q.1, .int .i64 q.2], .int .i64 y] w fun e w' => e = .returned (.bool (Qm.reaB p q y)) ∧ Below w.heap.size w w' := by
  obtain ⟨px, py⟩ := p
  obtain ⟨qx, qy⟩ := q
  dsimp only
  cases hd1 : decide (py ≤ y) <;> cases hd2 : decide (qy ≤ y)
  all_goals (
    have D1 := hid hd1
    have D2 := hid hd2
    go_enter Try.func101, Try.ntmps101
    go_wp2
    go_ret
    exact ⟨ret_bool (by unfold Qm.reaB; rw [D1.out, D2.out]; rfl), by go_grown⟩)

theorem far_in {p q : Int × Int} {x y : Int} (hp : PtIn p) (hq : PtIn q) (x0 : -32 ≤ x) (x1 : x ≤ 64) (y0 : -32 ≤ y) (y1 : y ≤ 64) : (-20000 ≤ (2 * (p.1 - x) - 1) * (q.2 - p.2) ∧ (2 * (p.1 - x) - 1) * (q.2 - p.2) ≤ 20000) ∧ (-20000 ≤ (2 * (y - p.2) + 1) * (q.1 - p.1) ∧ (2 * (y - p.2) + 1) * (q.1 - p.1) ≤ 20000) := by
  unfold PtIn at hp hq
  have m : ∀ {a b : Int}, -200 ≤ a → a ≤ 200 → -32 ≤ b → b ≤ 32 → -20000 ≤ a * b ∧ a * b ≤ 20000 := by
    intro a b a0 a1 b0 b1
    have p : ∀ {u v : Int}, 0 ≤ u → u ≤ 200 → 0 ≤ v → v ≤ 32 → 0 ≤ u * v ∧ u * v ≤ 6400 := fun a b c d => ⟨Int.mul_nonneg a c, Int.mul_le_mul b d c (by omega)⟩
    rcases Int.le_total 0 a with ha | ha <;> rcases Int.le_total 0 b with hb | hb
    · have := p ha a1 hb b1; omega
    · have := p ha a1 (show 0 ≤ -b by omega) (by omega); rw [Int.mul_neg] at this; omega
    · have := p (show 0 ≤ -a by omega) (by omega) hb b1; rw [Int.neg_mul] at this; omega
    · have := p (show 0 ≤ -a by omega) (by omega) (show 0 ≤ -b by omega) (by omega); rw [Int.neg_mul_neg] at this; omega
  exact ⟨m (by omega) (by omega) (by omega) (by omega), m (by omega) (by omega) (by omega) (by omega)⟩

set_option maxHeartbeats 1000000 in
theorem right_any (p q : Int × Int) (x y : Int) (hp : PtIn p) (hq : PtIn q) (x0 : -32 ≤ x) (x1 : x ≤ 64) (y0 : -32 ≤ y) (y1 : y ≤ 64) (w : World) :
    Calls Try.prog 102 #[.agg #[.int .i64 p.1, .int .i64 p.2], .agg #[.int .i64 q.1, .int .i64 q.2], .int .i64 x, .int .i64 y] w fun e w' => e = .returned (.int .i64 (Qm.rtZ p q x y)) ∧ Below w.heap.size w w' := by
  have F := far_in hp hq x0 x1 y0 y1
  have E := hid (show Qm.rtZ p q x y = if q.2 < p.2 then -((2 * (p.1 - x) - 1) * (q.2 - p.2) + (2 * (y - p.2) + 1) * (q.1 - p.1)) else (2 * (p.1 - x) - 1) * (q.2 - p.2) + (2 * (y - p.2) + 1) * (q.1 - p.1) from rfl)
  unfold PtIn at hp hq
  obtain ⟨px, py⟩ := p
  obtain ⟨qx, qy⟩ := q
  dsimp only at hp hq F E ⊢
  obtain ⟨u, hu⟩ : ∃ u, (2 * (px - x) - 1) * (qy - py) = u := ⟨_, rfl⟩
  obtain ⟨v, hv⟩ : ∃ v, (2 * (y - py) + 1) * (qx - px) = v := ⟨_, rfl⟩
  rw [hu, hv] at F E
  by_cases h : qy < py
  · rw [if_pos h] at E
    go_enter Try.func102, Try.ntmps102
    go_wp2
    go_ret
    exact ⟨ret_int (by rw [E.out]), by go_grown⟩
  · rw [if_neg h] at E
    go_enter Try.func102, Try.ntmps102
    go_wp2
    go_ret
    exact ⟨ret_int (by rw [E.out]), by go_grown⟩

set_option maxHeartbeats 1000000 in
theorem windingOf_any (p q : Int × Int) (x y : Int) (hp : PtIn p) (hq : PtIn q) (x0 : -32 ≤ x) (x1 : x ≤ 64) (y0 : -32 ≤ y) (y1 : y ≤ 64) (w : World) :
    Calls Try.prog 91 #[.agg #[.int .i64 p.1, .int .i64 p.2], .agg #[.int .i64 q.1, .int .i64 q.2], .int .i64 x, .int .i64 y] w fun e w' => e = .returned (.int .i64 (Qm.wdZ p q x y)) ∧ Below w.heap.size w w' := by
  have RE := hid (fun W' => reaches_any p q y W')
  have RI := hid (fun W' => right_any p q x y hp hq x0 x1 y0 y1 W')
  have E := hid (show Qm.wdZ p q x y = if Qm.reaB p q y = false ∨ Qm.rtZ p q x y ≤ 0 then 0 else if q.2 < p.2 then 1 else -1 from rfl)
  obtain ⟨px, py⟩ := p
  obtain ⟨qx, qy⟩ := q
  dsimp only at RE RI E ⊢
  obtain ⟨r, hr⟩ : ∃ r, Qm.reaB (px, py) (qx, qy) y = r := ⟨_, rfl⟩
  obtain ⟨z, hz⟩ : ∃ z, Qm.rtZ (px, py) (qx, qy) x y = z := ⟨_, rfl⟩
  rw [hr, hz] at E
  rw [hr] at RE
  rw [hz] at RI
  clear hr hz
  go_enter Try.func91, Try.ntmps91
  go_wp2_with fail
  refine (RE.out _).mono ?_
  rintro e w1 ⟨rfl, hb⟩
  have B1 := hid (show Below w.heap.size w w1 from Below.trans (b := _) (by go_grown) (hb.mono (by simp; omega)))
  have z1 := hb.size
  simp at z1
  obtain ⟨hc, hf⟩ := bcell hb
  clear hb
  cases r
  · go_wp2
    go_ret
    exact ⟨ret_int (by rw [E.out, if_pos (by simp)]), B1.out⟩
  · go_wp2_with fail
    refine (RI.out _).mono ?_
    rintro e w2 ⟨rfl, hb⟩
    have B2 := hid (show Below w.heap.size w w2 from B1.out.trans (hb.mono (by omega)))
    have hc2 := (bcell hb).1
    have q0 := (hc2 (w.heap.size + 1) 1 (by omega)).trans (hc (w.heap.size + 1) 1 (by simp))
    have q1 := (hc2 w.heap.size 1 (by omega)).trans (hc w.heap.size 1 (by simp; omega))
    simp at q0 q1
    clear hb hc hf hc2
    by_cases hz : z ≤ 0
    · have dz : decide (z ≤ 0) = true := by simpa using hz
      go_wp2
      go_ret
      exact ⟨ret_int (by rw [E.out, if_pos (.inr hz)]), B2.out⟩
    · have dz : decide (z ≤ 0) = false := by simpa using hz
      rw [if_neg (by simp; omega)] at E
      by_cases hy : qy < py
      · rw [if_pos hy] at E
        go_wp2
        go_ret
        exact ⟨ret_int E.out.symm, B2.out⟩
      · rw [if_neg hy] at E
        go_wp2
        go_ret
        exact ⟨ret_int E.out.symm, B2.out⟩

set_option maxHeartbeats 1000000 in
theorem through_any (p q : Int × Int) (x y : Int) (hp : PtIn p) (hq : PtIn q) (x0 : -32 ≤ x) (x1 : x ≤ 64) (y0 : -32 ≤ y) (y1 : y ≤ 64) (w : World) :
    Calls Try.prog 109 #[.agg #[.int .i64 p.1, .int .i64 p.2], .agg #[.int .i64 q.1, .int .i64 q.2], .int .i64 x, .int .i64 y] w fun e w' => e = .returned (.bool (Qm.thB p q x y)) ∧ Below w.heap.size w w' := by
  have RE := hid (fun W' => reaches_any p q y W')
  have RI := hid (fun W' => right_any p q x y hp hq x0 x1 y0 y1 W')
  have E := hid (show Qm.thB p q x y = (Qm.reaB p q y && decide (Qm.rtZ p q x y = 0)) from rfl)
  obtain ⟨px, py⟩ := p
  obtain ⟨qx, qy⟩ := q
  dsimp only at RE RI E ⊢
  obtain ⟨r, hr⟩ : ∃ r, Qm.reaB (px, py) (qx, qy) y = r := ⟨_, rfl⟩
  obtain ⟨z, hz⟩ : ∃ z, Qm.rtZ (px, py) (qx, qy) x y = z := ⟨_, rfl⟩
  rw [hr, hz] at E
  rw [hr] at RE
  rw [hz] at RI
  clear hr hz
  go_enter Try.func109, Try.ntmps109
  go_wp2_with fail
  refine (RE.out _).mono ?_
  rintro e w1 ⟨rfl, hb⟩
  have B1 := hid (show Below w.heap.size w w1 from Below.trans (b := _) (by go_grown) (hb.mono (by simp; omega)))
  have z1 := hb.size
  simp at z1
  obtain ⟨hc, hf⟩ := bcell hb
  clear hb
  cases r
  · go_wp2
    go_ret
    exact ⟨ret_bool (by rw [E.out]; rfl), B1.out⟩
  · go_wp2_with fail
    refine (RI.out _).mono ?_
    rintro e w2 ⟨rfl, hb⟩
    have B2 := hid (show Below w.heap.size w w2 from B1.out.trans (hb.mono (by omega)))
    clear hb hc hf
    by_cases hz : z = 0
    · subst hz
      go_wp2
      go_ret
      exact ⟨ret_bool (by rw [E.out]; rfl), B2.out⟩
    · have dz : (z == 0) = false := by simpa using hz
      rw [show decide (z = 0) = false by simpa using hz] at E
      go_wp2
      go_ret
      exact ⟨ret_bool (by rw [E.out]; rfl), B2.out⟩
end Go.Proofs.Ytljfiefobnncaaa
