import Derived.Test.YtljfiefobnncaabK06
import Derived.Test.YtljfiefobnncaabK08
import Derived.Test.YtljfiefobnncaabK05

/- Package shape: reaches, toTheRight, windingOf, GoesThrough. -/
namespace Go.Proofs.Ytljfiefobnncaab
open Go.RowKit

/-- A point of a bitmap; a pixel in its reach. -/
def PtIn (p : Int × Int) : Prop := 0 ≤ p.1 ∧ p.1 ≤ 32 ∧ 0 ≤ p.2 ∧ p.2 ≤ 32
def two (w : World) (p q : Int × Int) : World := (w.alloc (.cells #[.int .i64 p.1, .int .i64 p.2] 43)).alloc (.cells #[.int .i64 q.1, .int .i64 q.2] 43)
theorem two_below (w : World) (p q : Int × Int) : Below w.heap.size w (two w p q) := ((Below.refl _ _).alloc (Nat.le_refl _) _).alloc (by simp) _

set_option maxRecDepth 4000 in
set_option maxHeartbeats 400000 in
theorem reaches_any (p q : Int × Int) (y : Int) (w : World) :
    Calls Try.prog 44 #[.agg #[.int .i64 p.1, .int .i64 p.2], .agg #[.int .i64 q.1, .int .i64 q.2], .int .i64 y] w fun e w' => e = .returned (.bool (Qm.reaB p q y)) ∧ Below w.heap.size w w' := by
  obtain ⟨px, py⟩ := p
  obtain ⟨qx, qy⟩ := q
  dsimp only
  cases hd1 : decide (py ≤ y) <;> cases hd2 : decide (qy ≤ y)
  all_goals (
    have D1 := hid hd1
    have D2 := hid hd2
    go_enter Try.func44, Try.ntmps44
    go_wp2
    go_ret
    exact ⟨ret_bool (by unfold Qm.reaB; rw [D1.out, D2.out]; rfl), by go_grown⟩)

theorem far_in {p q : Int × Int} {x y : Int} (hp : PtIn p) (hq : PtIn q) (x0 : -32 ≤ x) (x1 : x ≤ 64) (y0 : -32 ≤ y) (y1 : y ≤ 64) : (-20000 ≤ (2 * (p.1 - x) - 1) * (q.2 - p.2) ∧ (2 * (p.1 - x) - 1) * (q.2 - p.2) ≤ 20000) ∧ (-20000 ≤ (2 * (y - p.2) + 1) * (q.1 - p.1) ∧ (2 * (y - p.2) + 1) * (q.1 - p.1) ≤ 20000) := by
  unfold PtIn at hp hq
  have m : ∀ {a b : Int}, -200 ≤ a → a ≤ 200 → -32 ≤ b → b ≤ 32 → -20000 ≤ a * b ∧ a * b ≤ 20000 := by
    intro a b a0 a1 b0 b1
    have p : ∀ {u v : Int}, 0 ≤ u → u ≤ 200 → 0 ≤ v → v ≤ 32 → 0 ≤ u * v ∧ u * v ≤ 6400 := fun a b c d => ⟨Int.mul_nonneg a c, Int.mul_le_mul b d c (by omega)⟩
    rcases Int.le_total 0 a with ha | ha <;> rcases Int.le_total 0 b with hb | hb
    · have := p ha a1 hb b1; omega
    · have := p ha a1 (show 0 ≤ -b by omega) (by omega); rw [Int.mul_neg] at this; omega
    · have := p (show 0 ≤ -a by omega) (by omega) hb b1; rw [Int.neg_mul] at this; omega
    · have := p (show 0 ≤ -a by omega) (by omega) (show 0 ≤ -b by omega) (by omega); rw [Int.neg_mul_neg] at this; omega
  exact ⟨m (by omega) (by omega) (by omega) (by omega), m (by omega) (by omega) (by omega) (by omega)⟩

set_option maxRecDepth 4000 in
set_option maxHeartbeats 1000000 in
theorem right_any (p q : Int × Int) (x y : Int) (hp : PtIn p) (hq : PtIn q) (x0 : -32 ≤ x) (x1 : x ≤ 64) (y0 : -32 ≤ y) (y1 : y ≤ 64) (w : World) :
    Calls Try.prog 45 #[.agg #[.int .i64 p.1, .int .i64 p.2], .agg #[.int .i64 q.1, .int .i64 q.2], .int .i64 x, .int .i64 y] w fun e w' => e = .returned (.int .i64 (Qm.rtZ p q x y)) ∧ Below w.heap.size w w' := by
  have F := far_in hp hq x0 x1 y0 y1
  have E := hid (show Qm.rtZ p q x y = if q.2 < p.2 then -((2 * (p.1 - x) - 1) * (q.2 - p.2) + (2 * (y - p.2) + 1) * (q.1 - p.1)) else (2 * (p.1 - x) - 1) * (q.2 - p.2) + (2 * (y - p.2) + 1) * (q.1 - p.1) from rfl)
  unfold PtIn at hp hq
  obtain ⟨px, py⟩ := p
  obtain ⟨qx, qy⟩ := q
  dsimp only at hp hq F E ⊢
  obtain ⟨u, hu⟩ : ∃ u, (2 * (px - x) - 1) * (qy - py) = u := ⟨_, rfl⟩
  obtain ⟨v, hv⟩ : ∃ v, (2 * (y - py) + 1) * (qx - px) = v := ⟨_, rfl⟩
  rw [hu, hv] at F E
  by_cases h : qy < py
  · rw [if_pos h] at E
    go_enter Try.func45, Try.ntmps45
    go_wp2
    go_ret
    exact ⟨ret_int (by rw [E.out]), by go_grown⟩
  · rw [if_neg h] at E
    go_enter Try.func45, Try.ntmps45
    go_wp2
    go_ret
    exact ⟨ret_int (by rw [E.out]), by go_grown⟩

set_option maxRecDepth 4000 in
set_option maxHeartbeats 1000000 in
theorem windingOf_any (p q : Int × Int) (x y : Int) (hp : PtIn p) (hq : PtIn q) (x0 : -32 ≤ x) (x1 : x ≤ 64) (y0 : -32 ≤ y) (y1 : y ≤ 64) (w : World) :
    Calls Try.prog 35 #[.agg #[.int .i64 p.1, .int .i64 p.2], .agg #[.int .i64 q.1, .int .i64 q.2], .int .i64 x, .int .i64 y] w fun e w' => e = .returned (.int .i64 (Qm.wdZ p q x y)) ∧ Below w.heap.size w w' := by
  have RE := hid (fun W' => reaches_any p q y W')
  have RI := hid (fun W' => right_any p q x y hp hq x0 x1 y0 y1 W')
  have E := hid (show Qm.wdZ p q x y = if Qm.reaB p q y = false ∨ Qm.rtZ p q x y ≤ 0 then 0 else if q.2 < p.2 then 1 else -1 from rfl)
  obtain ⟨px, py⟩ := p
  obtain ⟨qx, qy⟩ := q
  dsimp only at RE RI E ⊢
  obtain ⟨r, hr⟩ : ∃ r, Qm.reaB (px, py) (qx, qy) y = r := ⟨_, rfl⟩
  obtain ⟨z, hz⟩ : ∃ z, Qm.rtZ (px, py) (qx, qy) x y = z := ⟨_, rfl⟩
  rw [hr, hz] at E
  rw [hr] at RE
  rw [hz] at RI
  clear hr hz
  go_enter Try.func35, Try.ntmps35
  go_wp2_with fail
  refine (RE.out _).mono ?_
  rintro e w1 ⟨rfl, hb⟩
  have B1 := hid (show Below w.heap.size w w1 from Below.trans (b := _) (by go_grown) (hb.mono (by simp; omega)))
  have z1 := hb.size
  simp at z1
  obtain ⟨hc, hf⟩ := bcell hb
  clear hb
  cases r
  · go_wp2
    go_ret
    exact ⟨ret_int (by rw [E.out, if_pos (by simp)]), B1.out⟩
  · go_wp2_with fail
    refine (RI.out _).mono ?_
    rintro e w2 ⟨rfl, hb⟩
    have B2 := hid (show Below w.heap.size w w2 from B1.out.trans (hb.mono (by omega)))
    have hc2 := (bcell hb).1
    have q0 := (hc2 (w.heap.size + 1) 1 (by omega)).trans (hc (w.heap.size + 1) 1 (by simp))
    have q1 := (hc2 w.heap.size 1 (by omega)).trans (hc w.heap.size 1 (by simp; omega))
    simp at q0 q1
    clear hb hc hf hc2
    by_cases hz : z ≤ 0
    · have dz : decide (z ≤ 0) = true := by simpa using hz
      go_wp2
      go_ret
      exact ⟨ret_int (by rw [E.out, if_pos (.inr hz)]), B2.out⟩
    · have dz : decide (z ≤ 0) = false := by simpa using hz
      rw [if_neg (by simp; omega)] at E
      by_cases hy : qy < py
      · rw [if_pos hy] at E
        go_wp2
        go_ret
        exact ⟨ret_int E.out.symm, B2.out⟩
      · rw [if_neg hy] at E
        go_wp2
        go_ret
        exact ⟨ret_int E.out.symm, B2.out⟩

set_option maxRecDepth 4000 in
set_option maxHeartbeats 1000000 in
theorem through_any (p q : Int × Int) (x y : Int) (hp : PtIn p) (hq : PtIn q) (x0 : -32 ≤ x) (x1 : x ≤ 64) (y0 : -32 ≤ y) (y1 : y ≤ 64) (w : World) :
    Calls Try.prog 51 #[.agg #[.int .i64 p.1, .int .i64 p.2], .agg #[.int .i64 q.1, .int .i64 q.2], .int .i64 x, .int .i64 y] w fun e w' => e = .returned (.bool (Qm.thB p q x y)) ∧ Below w.heap.size w w' := by
  have RE := hid (fun W' => reaches_any p q y W')
  have RI := hid (fun W' => right_any p q x y hp hq x0 x1 y0 y1 W')
  have E := hid (show Qm.thB p q x y = (Qm.reaB p q y && decide (Qm.rtZ p q x y = 0)) from rfl)
  obtain ⟨px, py⟩ := p
  obtain ⟨qx, qy⟩ := q
  dsimp only at RE RI E ⊢
  obtain ⟨r, hr⟩ : ∃ r, Qm.reaB (px, py) (qx, qy) y = r := ⟨_, rfl⟩
  obtain ⟨z, hz⟩ : ∃ z, Qm.rtZ (px, py) (qx, qy) x y = z := ⟨_, rfl⟩
  rw [hr, hz] at E
  rw [hr] at RE
  rw [hz] at RI
  clear hr hz
  go_enter Try.func51, Try.ntmps51
  go_wp2_with fail
  refine (RE.out _).mono ?_
  rintro e w1 ⟨rfl, hb⟩
  have B1 := hid (show Below w.heap.size w w1 from Below.trans (b := _) (by go_grown) (hb.mono (by simp; omega)))
  have z1 := hb.size
  simp at z1
  obtain ⟨hc, hf⟩ := bcell hb
  clear hb
  cases r
  · go_wp2
    go_ret
    exact ⟨ret_bool (by rw [E.out]; rfl), B1.out⟩
  · go_wp2_with fail
    refine (RI.out _).mono ?_
    rintro e w2 ⟨rfl, hb⟩
    have B2 := hid (show Below w.heap.size w w2 from B1.out.trans (hb.mono (by omega)))
    clear hb hc hf
    by_cases hz : z = 0
    · subst hz
      go_wp2
      go_ret
      exact ⟨ret_bool (by rw [E.out]; rfl), B2.out⟩
    · have dz : (z == 0) = false := by simpa using hz
      rw [show decide (z = 0) = false by simpa using hz] at E
      go_wp2
      go_ret
      exact ⟨ret_bool (by rw [E.out]; rfl), B2.out⟩
end Go.Proofs.Ytljfiefobnncaab

/- take of package cycles. -/
namespace Go.Proofs.Ytljfiefobnncaab
open Go.RowKit
attribute [local go_sem ↓] Go.wp_at_zero Go.wp_at_succ

/-- The walker's marks. -/
def Tkn (g : Nat) (T : Nat → Bool) (w : World) : Prop := ∀ n, n < 4356 → w.cell? ⟨g, 6 + n, none⟩ = some (.bool (T n)) ∧ w.frozen? ⟨g, 6 + n, none⟩ = false
theorem Tkn.on {g : Nat} {T : Nat → Bool} {w w' : World} {B : Nat} (h : Tkn g T w) (hb : Below B w w') (hg : g < B) : Tkn g T w' := fun n hn =>
  ⟨(hb.cell (p := ⟨g, 6 + n, none⟩) hg).trans (h n hn).1, (hb.frozen (p := ⟨g, 6 + n, none⟩) hg).trans (h n hn).2⟩

theorem grown_of_below {w w' : World} (h : Below w.heap.size w w') (r : Option Nat) : w.grownBy w' r := ⟨h.os, h.tape, h.output, h.size, fun k hk _ => h.block k hk⟩

theorem set_grown {w w2 : World} (h : Below w.heap.size w w2) (a : Addr) {v : Value} : w.grownBy (w2.setCell a v) (some a.block) :=
  ⟨h.os, h.tape, h.output, by rw [World.size_setCell]; exact h.size, fun k hk hne => (Below.heap_setCell _ _ _ _ (fun e => hne (by rw [e]))).trans (h.block k hk)⟩
theorem set_wk {g W H : Nat} {s : ByteArray} {pol : Nat} {draws : ByteArray} {spk : Int} {w : World} {c : Nat} {v : Value} (h : Wk g W H s pol draws spk w) : Wk g W H s pol draws spk (w.setCell ⟨g, 6 + c, none⟩ v) := by
  obtain ⟨c0, c1, c2, c3, c4, c5, hz⟩ := h
  have C : ∀ j, j < 6 → (w.setCell ⟨g, 6 + c, none⟩ v).cell? ⟨g, j, none⟩ = w.cell? ⟨g, j, none⟩ := fun j hj => World.cell?_setCell_other _ _ _ _ (by intro e; injection e with _ e2 _; omega)
  exact ⟨(C 0 (by omega)).trans c0, (C 1 (by omega)).trans c1, (C 2 (by omega)).trans c2, (C 3 (by omega)).trans c3, (C 4 (by omega)).trans c4, (C 5 (by omega)).trans c5, by rw [World.size_setCell]; exact hz⟩
theorem set_tkn {g : Nat} {T : Nat → Bool} {w : World} (h : Tkn g T w) (c : Nat) : Tkn g (Qm.mark T c) (w.setCell ⟨g, 6 + c, none⟩ (.bool true)) := by
  intro n hn
  refine ⟨?_, by simpa using (h n hn).2⟩
  by_cases e : n = c
  · subst e
    rw [World.cell?_setCell_same _ _ _ (h n hn).1]
    simp [Qm.mark]
  · rw [World.cell?_setCell_other _ _ _ _ (by intro e2; injection e2 with _ e3 _; omega), (h n hn).1]
    simp [Qm.mark, e]

set_option maxRecDepth 4000 in
set_option maxHeartbeats 2000000 in
theorem take_no (g W H : Nat) (s : ByteArray) (pol : Nat) (draws : ByteArray) (spk : Int) (T : Nat → Bool) (x y d c : Nat) (hd : d < 4) (hx : x ≤ 32) (hy : y ≤ 32) (hc : c = (y * 33 + x) * 4 + d) (hT : T c = true) (w : World) (hW : Wk g W H s pol draws spk w) (hK : Tkn g T w) :
    Calls Try.prog 32 #[.pointer (some ⟨g, 0, none⟩), .agg #[.int .i64 x, .int .i64 y, .int .i64 d]] w fun e w' => e = .returned (.bool false) ∧ Below w.heap.size w w' := by
  have c4 : c < 4356 := by omega
  have ec : ((y : Int) * 33 + (x : Int)) * 4 + (d : Int) = (c : Nat) := by omega
  have hcell := (hK c c4).1
  rw [hT] at hcell
  have HK := hid hK
  clear hK hc
  have hz := hW.2.2.2.2.2.2
  have c0' : (0 : Int) ≤ (c : Nat) := by omega
  have c1' : ((c : Nat) : Int) < 4356 := by omega
  go_enter Try.func32, Try.ntmps32
  go_wp2_with fail
  have d0 : decide (((c : Nat) : Int) < 0) = false := by simp
  have d1 : decide ((4356 : Int) ≤ ((c : Nat) : Int)) = false := by simp; omega
  go_quiet (fail)
  go_wp2
  go_ret
  exact ⟨rfl, ((Below.refl _ _).alloc (Nat.le_refl _) _).trans ⟨rfl, rfl, rfl, Nat.le_refl _, fun _ _ => rfl⟩⟩

set_option maxRecDepth 4000 in
set_option maxHeartbeats 2000000 in
theorem take_none (g W H : Nat) (s : ByteArray) (pol : Nat) (draws : ByteArray) (spk : Int) (T : Nat → Bool) (x y d c : Nat) (hd : d < 4) (hx : x ≤ 32) (hy : y ≤ 32) (hc : c = (y * 33 + x) * 4 + d) (hT : T c = false) (w : World) (hW : Wk g W H s pol draws spk w) (hK : Tkn g T w) (hw2 : W ≤ 32) (hh2 : H ≤ 32) (hl : s.size = W * H) (hS : Qm.isS (Pm.blackB W H s.data.toList) (x, y, d) = false) :
    Calls Try.prog 32 #[.pointer (some ⟨g, 0, none⟩), .agg #[.int .i64 x, .int .i64 y, .int .i64 d]] w fun e w' => e = .returned (.bool false) ∧ Below w.heap.size w w' := by
  have HL := hid hl
  have c4 : c < 4356 := by omega
  have ec : ((y : Int) * 33 + (x : Int)) * 4 + (d : Int) = (c : Nat) := by omega
  have hcell := (hK c c4).1
  rw [hT] at hcell
  have HK := hid hK
  clear hK hc hl
  have HW := hid hW
  obtain ⟨k0, k1, k2, k3, k4, k5, hz⟩ := hW
  have c0' : (0 : Int) ≤ (c : Nat) := by omega
  have c1' : ((c : Nat) : Int) < 4356 := by omega
  go_enter Try.func32, Try.ntmps32
  go_wp2_with fail
  have d0 : decide (((c : Nat) : Int) < 0) = false := by simp
  have d1 : decide ((4356 : Int) ≤ ((c : Nat) : Int)) = false := by simp; omega
  go_region_held3 (fun w' => w'.cell? ⟨g, 6 + c, none⟩ = some (.bool false) ∧ w'.cell? ⟨g, 0, none⟩ = some (.int .i64 W) ∧ w'.cell? ⟨g, 1, none⟩ = some (.int .i64 H) ∧ w'.cell? ⟨g, 2, none⟩ = some (.string s) ∧ w'.cell? ⟨w.heap.size, 0, none⟩ = some (.int .i64 x) ∧ w'.cell? ⟨w.heap.size, 1, none⟩ = some (.int .i64 y) ∧ w'.cell? ⟨w.heap.size, 2, none⟩ = some (.int .i64 d))
    (first | (simp [go_sem, *]; done) | (go_keep))
    ((go_at_call 36; refine (cIsSide_any W H s x y d hd (by omega) (by omega) _ hw2 hh2 HL.out).mono ?_; rintro e w2 ⟨rfl, hb⟩; have HB := hid hb; obtain ⟨hcc, hff⟩ := bcell hb; clear hb hff; rw [hS]))
  go_wp2
  go_ret
  exact ⟨rfl, Below.trans (b := _) (by go_grown) (HB.out.mono (by simp))⟩

set_option maxRecDepth 4000 in
set_option maxHeartbeats 2000000 in
theorem take_yes (g W H : Nat) (s : ByteArray) (pol : Nat) (draws : ByteArray) (spk : Int) (T : Nat → Bool) (x y d c : Nat) (hd : d < 4) (hx : x ≤ 32) (hy : y ≤ 32) (hc : c = (y * 33 + x) * 4 + d) (hT : T c = false) (w : World) (hW : Wk g W H s pol draws spk w) (hK : Tkn g T w) (hw2 : W ≤ 32) (hh2 : H ≤ 32) (hl : s.size = W * H) (hS : Qm.isS (Pm.blackB W H s.data.toList) (x, y, d) = true) :
    Calls Try.prog 32 #[.pointer (some ⟨g, 0, none⟩), .agg #[.int .i64 x, .int .i64 y, .int .i64 d]] w fun e w' => e = .returned (.bool true) ∧ w.grownBy w' (some g) ∧ Wk g W H s pol draws spk w' ∧ Tkn g (Qm.mark T c) w' := by
  have HL := hid hl
  have c4 : c < 4356 := by omega
  have ec : ((y : Int) * 33 + (x : Int)) * 4 + (d : Int) = (c : Nat) := by omega
  have hcell := (hK c c4).1
  have hfro := (hK c c4).2
  rw [hT] at hcell
  have HK := hid hK
  clear hK hc hl
  have HW := hid hW
  obtain ⟨k0, k1, k2, k3, k4, k5, hz⟩ := hW
  have c0' : (0 : Int) ≤ (c : Nat) := by omega
  have c1' : ((c : Nat) : Int) < 4356 := by omega
  go_enter Try.func32, Try.ntmps32
  go_wp2_with fail
  have d0 : decide (((c : Nat) : Int) < 0) = false := by simp
  have d1 : decide ((4356 : Int) ≤ ((c : Nat) : Int)) = false := by simp; omega
  go_region_held3 (fun w' => w'.cell? ⟨g, 6 + c, none⟩ = some (.bool false) ∧ w'.cell? ⟨g, 0, none⟩ = some (.int .i64 W) ∧ w'.cell? ⟨g, 1, none⟩ = some (.int .i64 H) ∧ w'.cell? ⟨g, 2, none⟩ = some (.string s) ∧ w'.cell? ⟨w.heap.size, 0, none⟩ = some (.int .i64 x) ∧ w'.cell? ⟨w.heap.size, 1, none⟩ = some (.int .i64 y) ∧ w'.cell? ⟨w.heap.size, 2, none⟩ = some (.int .i64 d))
    (first | (simp [go_sem, *]; done) | (go_keep))
    ((go_at_call 36; refine (cIsSide_any W H s x y d hd (by omega) (by omega) _ hw2 hh2 HL.out).mono ?_; rintro e w2 ⟨rfl, hb⟩; have HB := hid hb; obtain ⟨hcc, hff⟩ := bcell hb; clear hb; rw [hS]))
  have HB1 := hid (Below.trans (b := _) (show Below w.heap.size w _ by go_grown) (HB.out.mono (by simp)))
  clear HB
  have hcell2 := (HB1.out.cell (p := ⟨g, 6 + c, none⟩) hz).trans hcell
  have hfro2 := (HB1.out.frozen (p := ⟨g, 6 + c, none⟩) hz).trans hfro
  clear hcc hff
  go_wp2
  go_ret
  exact ⟨rfl, set_grown HB1.out _, set_wk (HW.out.on HB1.out), set_tkn (HK.out.on HB1.out hz) c⟩
end Go.Proofs.Ytljfiefobnncaab
