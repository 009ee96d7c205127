/- Winding numbers of all shapes together, by the program and by the document's answer; pixels. -/
import Derived.Test.YtljfiefobnncaaaVa
import Derived.Deep.RegionHeld3
namespace Go.Proofs.Ytljfiefobnncaaa
open Go.RowKit

theorem wrap_more (a b : Int) : wrap64 (wrap64 a + b) = wrap64 (a + b) := by unfold wrap64; omega
theorem wrap_inside (a : Int) : -9223372036854775808 ≤ wrap64 a ∧ wrap64 a ≤ 9223372036854775807 := by unfold wrap64; omega
theorem wrap_small {a : Int} (h0 : -9223372036854775808 ≤ a) (h1 : a ≤ 9223372036854775807) : IntKind.i64.wrap a = a := by simp only [IntKind.wrap_i64]; omega
/-- The winding numbers of the first k shapes, together. -/
def totW (L : List ShT) (x y : Int) : Nat → Int
  | 0 => 0
  | k + 1 => totW L x y k + Qm.wsum (L.getD k sh0).1 x y (L.getD k sh0).1.length

set_option maxRecDepth 4000 in
set_option maxHeartbeats 1000000 in
theorem windingOfAll_any (ao : Option Addr) (n cap : Nat) (L : List ShT) (hn : n = L.length) (hn2 : n ≤ 140737488355328) (hm : ∀ i, (L.getD i sh0).1.length ≤ 140737488355328) (hL : plB L = true) (x y : Int) (x0 : 0 ≤ x) (x1 : x ≤ 32) (y0 : 0 ≤ y) (y1 : y ≤ 32) (w : World) (hS : ShIs ao L w) :
    Calls Try.prog 67 #[.slice ao n cap, .int .i64 x, .int .i64 y] w fun e w' => e = .returned (.int .i64 (wrap64 (totW L x y n))) ∧ Below w.heap.size w w' := by
  have HS := hid hS
  have HM := hid hm
  have HN := hid hn
  have HL := hid hL
  clear hS hm hn hL
  go_enter Try.func67, Try.ntmps67
  go_wp2_with fail
  go_loopw [7, 8] (fun sv i wr => ∃ (k : Nat) (z : Int), k ≤ n ∧ i = .int .i64 k ∧ sv = .int .i64 z ∧ Hid (z = wrap64 (totW L x y k)) ∧ Hid (Below w.heap.size w wr)) (fun _ i _ => n - (intOf i).toNat)
  case atStart => exact ⟨0, 0, by omega, rfl, rfl, (show (0 : Int) = wrap64 0 by unfold wrap64; omega), Below.refl _ _⟩
  case round =>
    obtain ⟨k, z, hk, rfl, rfl, hZ, hb⟩ := hrel
    have hz := hb.out.size
    by_cases hlt : k < n
    · obtain ⟨gl, o, rfl, hgl, hc⟩ := HS.out.resolve_left (by have := HN.out; omega)
      obtain ⟨ap, cp, c0, c1, c2⟩ := hc k (by have := HN.out; omega)
      have r0 := (hb.out.cell (p := ⟨gl, o + k * 2, none⟩) hgl).trans c0
      have k0' : (0 : Int) ≤ (k : Nat) := by omega
      have k1' : ((k : Nat) : Int) < (n : Nat) := by omega
      have OS := okSh_small (all_at sh0 HL.out (i := k) (by have := HN.out; omega))
      have hmk := HM.out k
      have TS : Hid (totW L x y (k + 1) = totW L x y k + Qm.wsum (L.getD k sh0).1 x y (L.getD k sh0).1.length) := rfl
      obtain ⟨s, hs⟩ : ∃ s, s = L.getD k sh0 := ⟨_, rfl⟩
      rw [← hs] at r0 c2 hmk OS TS
      obtain ⟨m, hmm⟩ : ∃ m, m = s.1.length := ⟨_, rfl⟩
      rw [← hmm] at r0 c2 hmk OS TS
      obtain ⟨g, q, rfl, hp⟩ := c2.resolve_left (by omega)
      have WB := hid (fun W' (h : Below w.heap.size w W') => winding_big g q m cp s.1 hmm OS.1 OS.2 hmk x y (by omega) (by omega) (by omega) (by omega) W' (hp.on h hp.1))
      obtain ⟨u, hu⟩ : ∃ u, u = Qm.wsum s.1 x y m := ⟨_, rfl⟩
      rw [← hu] at WB TS
      have zi := wrap_inside (totW L x y k)
      rw [← hZ.out] at zi
      clear hc c0 c1 hs c2 hp hmm OS hu
      go_wp2_with fail
      refine (WB.out _ (by go_grown; exact hb.out)).mono ?_
      rintro e w2 ⟨rfl, hb2⟩
      have B2 := hid (show Below w.heap.size w w2 from Below.trans (b := _) (by go_grown; exact hb.out) (hb2.mono hz))
      have ZN := hid (show wrap64 (z + u) = wrap64 (totW L x y (k + 1)) by rw [TS.out, hZ.out, wrap_more])
      clear hb2
      go_wp2
      go_roundw
      case rel => exact ⟨k + 1, wrap64 (z + u), by omega, by go_num, rfl, ZN, B2⟩
      case measure => simp [intOf]; omega
    · have hk' : ((n : Nat) : Int) ≤ (k : Nat) := by omega
      have ek : k = n := by omega
      go_wp2
      go_ret
      exact ⟨ret_int (by rw [hZ.out, ek]), hb.out⟩

set_option maxHeartbeats 1000000 in
theorem refRight_any (p q : Int × Int) (x y : Int) (hp : PtIn p) (hq : PtIn q) (x0 : -32 ≤ x) (x1 : x ≤ 64) (y0 : -32 ≤ y) (y1 : y ≤ 64) (w : World) :
    Calls Try.prog 69 #[.agg #[.int .i64 p.1, .int .i64 p.2], .agg #[.int .i64 q.1, .int .i64 q.2], .int .i64 x, .int .i64 y] w fun e w' => e = .returned (.int .i64 (Qm.wdZ p q x y)) ∧ Below w.heap.size w w' := by
  have E := hid (Qm.wdZ_eq p q x y)
  unfold PtIn at hp hq
  obtain ⟨px, py⟩ := p
  obtain ⟨qx, qy⟩ := q
  dsimp only at hp hq E ⊢
  have F := hid (show Qm.farZ (px, py) (qx, qy) x y = 2 * px * (qy - py) + (qx - px) * (2 * y + 1 - 2 * py) - (2 * x + 1) * (qy - py) by unfold Qm.farZ; grind)
  have mul200 : ∀ {a b : Int}, -200 ≤ a → a ≤ 200 → -200 ≤ b → b ≤ 200 → -40000 ≤ a * b ∧ a * b ≤ 40000 := by
    intro a b a0 a1 b0 b1
    have p : ∀ {u v : Int}, 0 ≤ u → u ≤ 200 → 0 ≤ v → v ≤ 200 → 0 ≤ u * v ∧ u * v ≤ 40000 := fun a b c d => ⟨Int.mul_nonneg a c, Int.mul_le_mul b d c (by omega)⟩
    rcases Int.le_total 0 a with ha | ha <;> rcases Int.le_total 0 b with hb | hb
    · have := p ha a1 hb b1; omega
    · have := p ha a1 (show 0 ≤ -b by omega) (by omega); rw [Int.mul_neg] at this; omega
    · have := p (show 0 ≤ -a by omega) (by omega) hb b1; rw [Int.neg_mul] at this; omega
    · have := p (show 0 ≤ -a by omega) (by omega) (show 0 ≤ -b by omega) (by omega); rw [Int.neg_mul_neg] at this; omega
  have m1 := mul200 (a := 2 * px) (b := qy - py) (by omega) (by omega) (by omega) (by omega)
  have m2 := mul200 (a := qx - px) (b := 2 * y + 1 - 2 * py) (by omega) (by omega) (by omega) (by omega)
  have m3 := mul200 (a := 2 * x + 1) (b := qy - py) (by omega) (by omega) (by omega) (by omega)
  obtain ⟨u, hu⟩ : ∃ u, 2 * px * (qy - py) = u := ⟨_, rfl⟩
  obtain ⟨v, hv⟩ : ∃ v, (qx - px) * (2 * y + 1 - 2 * py) = v := ⟨_, rfl⟩
  obtain ⟨t, ht⟩ : ∃ t, (2 * x + 1) * (qy - py) = t := ⟨_, rfl⟩
  rw [hu] at m1 F
  rw [hv] at m2 F
  rw [ht] at m3 F
  rw [F.out] at E
  obtain ⟨z, hz⟩ : ∃ z, Qm.wdZ (px, py) (qx, qy) x y = z := ⟨_, rfl⟩
  rw [hz] at E ⊢
  clear F hz mul200
  cases hd1 : decide (py ≤ y) <;> cases hd2 : decide (qy ≤ y)
  all_goals simp only [decide_eq_true_eq, decide_eq_false_iff_not] at hd1 hd2
  · have Z := hid (show z = 0 by rw [E.out, if_neg (by omega), if_neg (by omega)])
    go_enter Try.func69, Try.ntmps69
    go_wp2
    go_ret
    exact ⟨ret_int Z.out.symm, by go_grown⟩
  · by_cases h : u + v - t < 0
    · have Z := hid (show z = 1 by rw [E.out, if_pos (by omega)])
      go_enter Try.func69, Try.ntmps69
      go_wp2
      go_ret
      exact ⟨ret_int Z.out.symm, by go_grown⟩
    · have Z := hid (show z = 0 by rw [E.out, if_neg (by omega), if_neg (by omega)])
      go_enter Try.func69, Try.ntmps69
      go_wp2
      go_ret
      exact ⟨ret_int Z.out.symm, by go_grown⟩
  · by_cases h : 0 < u + v - t
    · have Z := hid (show z = -1 by rw [E.out, if_neg (by omega), if_pos (by omega)])
      go_enter Try.func69, Try.ntmps69
      go_wp2
      go_ret
      exact ⟨ret_int Z.out.symm, by go_grown⟩
    · have Z := hid (show z = 0 by rw [E.out, if_neg (by omega), if_neg (by omega)])
      go_enter Try.func69, Try.ntmps69
      go_wp2
      go_ret
      exact ⟨ret_int Z.out.symm, by go_grown⟩
  · have Z := hid (show z = 0 by rw [E.out, if_neg (by omega), if_neg (by omega)])
    go_enter Try.func69, Try.ntmps69
    go_wp2
    go_ret
    exact ⟨ret_int Z.out.symm, by go_grown⟩

/-- Is the pixel black, by its winding number and the rule? -/
def pxB (z r : Int) : Bool := !(z == 0 || (r == 1 && z.tmod 2 == 0))
def pxV (z r : Int) : UInt8 := if pxB z r = true then 49 else 48
set_option maxHeartbeats 400000 in
theorem pixel_any (z r : Int) (h0 : -9223372036854775808 ≤ z) (h1 : z ≤ 9223372036854775807) (w : World) :
    Calls Try.prog 68 #[.int .i64 z, .int .i64 r] w fun e w' => e = .returned (.int .u8 (pxV z r).toNat) ∧ Below w.heap.size w w' := by
  cases e0 : (z == 0)
  · cases e1 : (r == 1)
    · have P := hid (show pxV z r = 49 by unfold pxV pxB; rw [e0, e1]; rfl)
      go_enter Try.func68, Try.ntmps68
      go_wp2
      go_ret
      exact ⟨ret_int (by rw [P.out]; rfl), by go_grown⟩
    · have tb : -1 ≤ z.tmod 2 ∧ z.tmod 2 ≤ 1 := by
        rcases Int.le_total 0 z with h | h
        · rw [Int.tmod_eq_emod_of_nonneg h]; omega
        · have := Int.neg_tmod (-z) 2
          rw [Int.neg_neg] at this
          rw [this, Int.tmod_eq_emod_of_nonneg (by omega)]; omega
      have et : IntKind.i64.wrap (z.tmod 2) = z.tmod 2 := wrap_small (by omega) (by omega)
      cases e2 : (z.tmod 2 == 0)
      · have P := hid (show pxV z r = 49 by unfold pxV pxB; rw [e0, e1, e2]; rfl)
        go_enter Try.func68, Try.ntmps68
        go_wp2
        go_ret
        exact ⟨ret_int (by rw [P.out]; rfl), by go_grown⟩
      · have P := hid (show pxV z r = 48 by unfold pxV pxB; rw [e0, e1, e2]; rfl)
        go_enter Try.func68, Try.ntmps68
        go_wp2
        go_ret
        exact ⟨ret_int (by rw [P.out]; rfl), by go_grown⟩
  · have P := hid (show pxV z r = 48 by unfold pxV pxB; rw [e0]; rfl)
    go_enter Try.func68, Try.ntmps68
    go_wp2
    go_ret
    exact ⟨ret_int (by rw [P.out]; rfl), by go_grown⟩

set_option maxHeartbeats 400000 in
theorem isRule_any (r : Int) (w : World) :
    Calls Try.prog 65 #[.int .i64 r] w fun e w' => e = .returned (.bool (r == 0 || r == 1)) ∧ w' = w := by
  cases e0 : (r == 0)
  all_goals
    go_enter Try.func65, Try.ntmps65
    go_wp2
    go_ret
    exact ⟨ret_bool (by simp), rfl⟩

end Go.Proofs.Ytljfiefobnncaaa
