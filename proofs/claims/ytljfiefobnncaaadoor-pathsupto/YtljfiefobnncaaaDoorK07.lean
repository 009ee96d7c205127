import Derived.Test.YtljfiefobnncaaaDoorK06
import Derived.Test.YtljfiefobnncaaaDoorK05
import Derived.Test.YtljfiefobnncaaaDoorK04

/- next of package cycles. -/
namespace Go.Proofs.YtljfiefobnncaaaDoor
open Go.RowKit
attribute [local go_sem ↓] Go.wp_at_zero Go.wp_at_succ

theorem bcell {W w1 : World} (hb : Below W.heap.size W w1) : (∀ b o, b < W.heap.size → w1.cell? ⟨b, o, none⟩ = W.cell? ⟨b, o, none⟩) ∧ (∀ b o, b < W.heap.size → w1.frozen? ⟨b, o, none⟩ = W.frozen? ⟨b, o, none⟩) :=
  ⟨fun b o h => hb.cell (p := ⟨b, o, none⟩) h, fun b o h => hb.frozen (p := ⟨b, o, none⟩) h⟩

/-- All ways through a piece of code end in one frame and one world. -/
theorem wp_one {P : Program} {c : Code} {Q : Exit → Act → World → Prop} {a : Act} {w : World} (A : Act) (W : World) (h : c.wp P (fun e a' w' => e = .normal ∧ a' = A ∧ w' = W) a w) (k : Q .normal A W) : c.wp P Q a w :=
  Code.wp_mono (fun e a' w' ⟨h1, h2, h3⟩ => by subst h1 h2 h3; exact k) h

/-- The walker at block g: its bitmap and its options. -/
def Wk (g W H : Nat) (s : ByteArray) (pol : Nat) (draws : ByteArray) (spk : Int) (w : World) : Prop :=
  w.cell? ⟨g, 0, none⟩ = some (.int .i64 W) ∧ w.cell? ⟨g, 1, none⟩ = some (.int .i64 H) ∧ w.cell? ⟨g, 2, none⟩ = some (.string s) ∧ w.cell? ⟨g, 3, none⟩ = some (.int .i64 pol) ∧ w.cell? ⟨g, 4, none⟩ = some (.string draws) ∧ w.cell? ⟨g, 5, none⟩ = some (.int .i64 spk) ∧ g < w.heap.size

theorem nxD_eq (bl jn : Int → Int → Bool) (px py : Int) (d : Nat) : Qm.nxD bl jn (px, py) d =
    if Qm.isS bl (px, py, if jn px py then (d + 3) % 4 else (d + 1) % 4) then (if jn px py then (d + 3) % 4 else (d + 1) % 4)
    else if Qm.isS bl (px, py, d) then d else (if jn px py then (d + 1) % 4 else (d + 3) % 4) := rfl

section
variable {bl jn : Int → Int → Bool} {px py : Int} {d : Nat}
theorem nxD_f1 (hj : jn px py = false) (ha : Qm.isS bl (px, py, (d + 1) % 4) = true) : Qm.nxD bl jn (px, py) d = (d + 1) % 4 := by rw [nxD_eq]; simp [hj, ha]
theorem nxD_f2 (hj : jn px py = false) (ha : Qm.isS bl (px, py, (d + 1) % 4) = false) (hb : Qm.isS bl (px, py, d) = true) : Qm.nxD bl jn (px, py) d = d := by rw [nxD_eq]; simp [hj, ha, hb]
theorem nxD_f3 (hj : jn px py = false) (ha : Qm.isS bl (px, py, (d + 1) % 4) = false) (hb : Qm.isS bl (px, py, d) = false) : Qm.nxD bl jn (px, py) d = (d + 3) % 4 := by rw [nxD_eq]; simp [hj, ha, hb]
theorem nxD_t1 (hj : jn px py = true) (ha : Qm.isS bl (px, py, (d + 3) % 4) = true) : Qm.nxD bl jn (px, py) d = (d + 3) % 4 := by rw [nxD_eq]; simp [hj, ha]
theorem nxD_t2 (hj : jn px py = true) (ha : Qm.isS bl (px, py, (d + 3) % 4) = false) (hb : Qm.isS bl (px, py, d) = true) : Qm.nxD bl jn (px, py) d = d := by rw [nxD_eq]; simp [hj, ha, hb]
theorem nxD_t3 (hj : jn px py = true) (ha : Qm.isS bl (px, py, (d + 3) % 4) = false) (hb : Qm.isS bl (px, py, d) = false) : Qm.nxD bl jn (px, py) d = (d + 1) % 4 := by rw [nxD_eq]; simp [hj, ha, hb]
end

/-- What 'next' has laid at blocks B to B + 8. -/
def Nx (B g W H : Nat) (s : ByteArray) (pol : Nat) (draws : ByteArray) (spk : Int) (px py d : Nat) (n f : Int) (w X : World) : Prop :=
  Wk g W H s pol draws spk X ∧ (X.cell? ⟨B + 1 + 1 + 1 + 1 + 1, 0, none⟩ = some (.int .i64 px) ∧ X.cell? ⟨B + 1 + 1 + 1 + 1 + 1, 1, none⟩ = some (.int .i64 py)) ∧
  (X.cell? ⟨B + 1 + 1 + 1 + 1 + 1 + 1, 0, none⟩ = some (.int .i64 px) ∧ X.cell? ⟨B + 1 + 1 + 1 + 1 + 1 + 1, 1, none⟩ = some (.int .i64 py) ∧ X.cell? ⟨B + 1 + 1 + 1 + 1 + 1 + 1, 2, none⟩ = some (.int .i64 d)) ∧
  (X.cell? ⟨B + 1 + 1 + 1 + 1 + 1 + 1 + 1, 0, none⟩ = some (.int .i64 px) ∧ X.cell? ⟨B + 1 + 1 + 1 + 1 + 1 + 1 + 1, 1, none⟩ = some (.int .i64 py) ∧ X.cell? ⟨B + 1 + 1 + 1 + 1 + 1 + 1 + 1, 2, none⟩ = some (.int .i64 n)) ∧
  (X.cell? ⟨B + 1 + 1 + 1 + 1 + 1 + 1 + 1 + 1, 0, none⟩ = some (.int .i64 px) ∧ X.cell? ⟨B + 1 + 1 + 1 + 1 + 1 + 1 + 1 + 1, 1, none⟩ = some (.int .i64 py) ∧ X.cell? ⟨B + 1 + 1 + 1 + 1 + 1 + 1 + 1 + 1, 2, none⟩ = some (.int .i64 f)) ∧
  (X.cell? ⟨B + 1, 0, none⟩ = some (.int .i64 0) ∧ X.cell? ⟨B + 1, 1, none⟩ = some (.int .i64 0) ∧ X.cell? ⟨B + 1, 2, none⟩ = some (.int .i64 0)) ∧
  (∀ k j, B < k → k ≤ B + 8 → X.frozen? ⟨k, j, none⟩ = false) ∧
  Below B w X ∧ B + 8 < X.heap.size

theorem frozen_drew (w : World) (a : Addr) : w.drew.frozen? a = w.frozen? a := rfl
theorem frozen_past (w : World) (k j : Nat) (h : w.heap.size ≤ k) : w.frozen? ⟨k, j, none⟩ = false := by
  simp [World.frozen?, Array.getElem?_eq_none h]

theorem Wk.on {g W H : Nat} {s : ByteArray} {pol : Nat} {draws : ByteArray} {spk : Int} {w w' : World} (h : Wk g W H s pol draws spk w) (hb : Below w.heap.size w w') : Wk g W H s pol draws spk w' := by
  obtain ⟨c0, c1, c2, c3, c4, c5, hz⟩ := h
  exact ⟨(hb.cell (p := ⟨g, 0, none⟩) hz).trans c0, (hb.cell (p := ⟨g, 1, none⟩) hz).trans c1, (hb.cell (p := ⟨g, 2, none⟩) hz).trans c2, (hb.cell (p := ⟨g, 3, none⟩) hz).trans c3, (hb.cell (p := ⟨g, 4, none⟩) hz).trans c4, (hb.cell (p := ⟨g, 5, none⟩) hz).trans c5, Nat.lt_of_lt_of_le hz hb.size⟩

theorem Nx.on {B g W H : Nat} {s : ByteArray} {pol : Nat} {draws : ByteArray} {spk : Int} {px py d : Nat} {n f : Int} {w X Y : World} (h : Nx B g W H s pol draws spk px py d n f w X) (hb : Below X.heap.size X Y) : Nx B g W H s pol draws spk px py d n f w Y := by
  obtain ⟨hW, ⟨p0, p1⟩, ⟨a0, a1, a2⟩, ⟨b0, b1, b2⟩, ⟨e0, e1, e2⟩, ⟨r0, r1, r2⟩, fz, hB, hz⟩ := h
  have C : ∀ k j, k < X.heap.size → Y.cell? ⟨k, j, none⟩ = X.cell? ⟨k, j, none⟩ := fun k j hk => hb.cell (p := ⟨k, j, none⟩) hk
  have F : ∀ k j, k < X.heap.size → Y.frozen? ⟨k, j, none⟩ = X.frozen? ⟨k, j, none⟩ := fun k j hk => hb.frozen (p := ⟨k, j, none⟩) hk
  refine ⟨hW.on hb, ⟨?_, ?_⟩, ⟨?_, ?_, ?_⟩, ⟨?_, ?_, ?_⟩, ⟨?_, ?_, ?_⟩, ⟨?_, ?_, ?_⟩, fun k j h1 h2 => (F k j (by omega)).trans (fz k j h1 h2), hB.trans (hb.mono (by omega)), Nat.lt_of_lt_of_le hz hb.size⟩
  all_goals (rw [C _ _ (by omega)]; assumption)

theorem Nx.drawn {B g W H : Nat} {s : ByteArray} {pol : Nat} {draws : ByteArray} {spk : Int} {px py d : Nat} {n f : Int} {w X Y : World} (h : Nx B g W H s pol draws spk px py d n f w X) (hb : Below X.drew.heap.size X.drew Y) : Nx B g W H s pol draws spk px py d n f w Y :=
  Nx.on (X := X.drew) ⟨h.1, h.2.1, h.2.2.1, h.2.2.2.1, h.2.2.2.2.1, h.2.2.2.2.2.1, h.2.2.2.2.2.2.1, h.2.2.2.2.2.2.2.1.drew, h.2.2.2.2.2.2.2.2⟩ hb

theorem Nx.swap {B g W H : Nat} {s : ByteArray} {pol : Nat} {draws : ByteArray} {spk : Int} {px py d : Nat} {n f : Int} {w X : World} (h : Nx B g W H s pol draws spk px py d n f w X) (hg : g < B) :
    Nx B g W H s pol draws spk px py d f n w ((((((X.setCell ⟨B + 1 + 1 + 1 + 1 + 1 + 1 + 1, 0, none⟩ (.int .i64 px)).setCell ⟨B + 1 + 1 + 1 + 1 + 1 + 1 + 1, 1, none⟩ (.int .i64 py)).setCell ⟨B + 1 + 1 + 1 + 1 + 1 + 1 + 1, 2, none⟩ (.int .i64 f)).setCell ⟨B + 1 + 1 + 1 + 1 + 1 + 1 + 1 + 1, 0, none⟩ (.int .i64 px)).setCell ⟨B + 1 + 1 + 1 + 1 + 1 + 1 + 1 + 1, 1, none⟩ (.int .i64 py)).setCell ⟨B + 1 + 1 + 1 + 1 + 1 + 1 + 1 + 1, 2, none⟩ (.int .i64 n)) := by
  obtain ⟨⟨c0, c1, c2, c3, c4, c5, hz0⟩, ⟨p0, p1⟩, ⟨a0, a1, a2⟩, ⟨b0, b1, b2⟩, ⟨e0, e1, e2⟩, ⟨r0, r1, r2⟩, fz, hB, hz⟩ := h
  have n7 : B + 1 + 1 + 1 + 1 + 1 + 1 + 1 ≠ g := by omega
  have n8 : B + 1 + 1 + 1 + 1 + 1 + 1 + 1 + 1 ≠ g := by omega
  refine ⟨⟨?_, ?_, ?_, ?_, ?_, ?_, ?_⟩, ⟨?_, ?_⟩, ⟨?_, ?_, ?_⟩, ⟨?_, ?_, ?_⟩, ⟨?_, ?_, ?_⟩, ⟨?_, ?_, ?_⟩, fun k j h1 h2 => by simpa using fz k j h1 h2, ?_, ?_⟩
  case refine_22 => exact (((((hB.setCell (by first | omega | (dsimp; omega)) _).setCell (by first | omega | (dsimp; omega)) _).setCell (by first | omega | (dsimp; omega)) _).setCell (by first | omega | (dsimp; omega)) _).setCell (by first | omega | (dsimp; omega)) _).setCell (by first | omega | (dsimp; omega)) _
  all_goals first | (simp [World.cell?_setCell_other, World.cell?_setCell_same', *]; done) | (simp [go_sem, World.cell?_setCell_other, World.cell?_setCell_same', *]; done) | (simp only [World.size_setCell]; omega)

end Go.Proofs.YtljfiefobnncaaaDoor
/- Package shape: reaches, toTheRight, windingOf, GoesThrough. -/
namespace Go.Proofs.YtljfiefobnncaaaDoor
open Go.RowKit

/-- A point of a bitmap; a pixel in its reach. -/
def PtIn (p : Int × Int) : Prop := 0 ≤ p.1 ∧ p.1 ≤ 32 ∧ 0 ≤ p.2 ∧ p.2 ≤ 32
def two (w : World) (p q : Int × Int) : World := (w.alloc (.cells #[.int .i64 p.1, .int .i64 p.2] 83)).alloc (.cells #[.int .i64 q.1, .int .i64 q.2] 83)
theorem two_below (w : World) (p q : Int × Int) : Below w.heap.size w (two w p q) := ((Below.refl _ _).alloc (Nat.le_refl _) _).alloc (by simp) _



theorem far_in {p q : Int × Int} {x y : Int} (hp : PtIn p) (hq : PtIn q) (x0 : -32 ≤ x) (x1 : x ≤ 64) (y0 : -32 ≤ y) (y1 : y ≤ 64) : (-20000 ≤ (2 * (p.1 - x) - 1) * (q.2 - p.2) ∧ (2 * (p.1 - x) - 1) * (q.2 - p.2) ≤ 20000) ∧ (-20000 ≤ (2 * (y - p.2) + 1) * (q.1 - p.1) ∧ (2 * (y - p.2) + 1) * (q.1 - p.1) ≤ 20000) := by
  unfold PtIn at hp hq
  have m : ∀ {a b : Int}, -200 ≤ a → a ≤ 200 → -32 ≤ b → b ≤ 32 → -20000 ≤ a * b ∧ a * b ≤ 20000 := by
    intro a b a0 a1 b0 b1
    have p : ∀ {u v : Int}, 0 ≤ u → u ≤ 200 → 0 ≤ v → v ≤ 32 → 0 ≤ u * v ∧ u * v ≤ 6400 := fun a b c d => ⟨Int.mul_nonneg a c, Int.mul_le_mul b d c (by omega)⟩
    rcases Int.le_total 0 a with ha | ha <;> rcases Int.le_total 0 b with hb | hb
    · have := p ha a1 hb b1; omega
    · have := p ha a1 (show 0 ≤ -b by omega) (by omega); rw [Int.mul_neg] at this; omega
    · have := p (show 0 ≤ -a by omega) (by omega) hb b1; rw [Int.neg_mul] at this; omega
    · have := p (show 0 ≤ -a by omega) (by omega) (show 0 ≤ -b by omega) (by omega); rw [Int.neg_mul_neg] at this; omega
  exact ⟨m (by omega) (by omega) (by omega) (by omega), m (by omega) (by omega) (by omega) (by omega)⟩





end Go.Proofs.YtljfiefobnncaaaDoor
/- take of package cycles. -/
namespace Go.Proofs.YtljfiefobnncaaaDoor
open Go.RowKit
attribute [local go_sem ↓] Go.wp_at_zero Go.wp_at_succ

/-- The walker's marks. -/
def Tkn (g : Nat) (T : Nat → Bool) (w : World) : Prop := ∀ n, n < 4356 → w.cell? ⟨g, 6 + n, none⟩ = some (.bool (T n)) ∧ w.frozen? ⟨g, 6 + n, none⟩ = false
theorem Tkn.on {g : Nat} {T : Nat → Bool} {w w' : World} {B : Nat} (h : Tkn g T w) (hb : Below B w w') (hg : g < B) : Tkn g T w' := fun n hn =>
  ⟨(hb.cell (p := ⟨g, 6 + n, none⟩) hg).trans (h n hn).1, (hb.frozen (p := ⟨g, 6 + n, none⟩) hg).trans (h n hn).2⟩

theorem grown_of_below {w w' : World} (h : Below w.heap.size w w') (r : Option Nat) : w.grownBy w' r := ⟨h.os, h.tape, h.output, h.size, fun k hk _ => h.block k hk⟩

theorem set_grown {w w2 : World} (h : Below w.heap.size w w2) (a : Addr) {v : Value} : w.grownBy (w2.setCell a v) (some a.block) :=
  ⟨h.os, h.tape, h.output, by rw [World.size_setCell]; exact h.size, fun k hk hne => (Below.heap_setCell _ _ _ _ (fun e => hne (by rw [e]))).trans (h.block k hk)⟩
theorem set_wk {g W H : Nat} {s : ByteArray} {pol : Nat} {draws : ByteArray} {spk : Int} {w : World} {c : Nat} {v : Value} (h : Wk g W H s pol draws spk w) : Wk g W H s pol draws spk (w.setCell ⟨g, 6 + c, none⟩ v) := by
  obtain ⟨c0, c1, c2, c3, c4, c5, hz⟩ := h
  have C : ∀ j, j < 6 → (w.setCell ⟨g, 6 + c, none⟩ v).cell? ⟨g, j, none⟩ = w.cell? ⟨g, j, none⟩ := fun j hj => World.cell?_setCell_other _ _ _ _ (by intro e; injection e with _ e2 _; omega)
  exact ⟨(C 0 (by omega)).trans c0, (C 1 (by omega)).trans c1, (C 2 (by omega)).trans c2, (C 3 (by omega)).trans c3, (C 4 (by omega)).trans c4, (C 5 (by omega)).trans c5, by rw [World.size_setCell]; exact hz⟩
theorem set_tkn {g : Nat} {T : Nat → Bool} {w : World} (h : Tkn g T w) (c : Nat) : Tkn g (Qm.mark T c) (w.setCell ⟨g, 6 + c, none⟩ (.bool true)) := by
  intro n hn
  refine ⟨?_, by simpa using (h n hn).2⟩
  by_cases e : n = c
  · subst e
    rw [World.cell?_setCell_same _ _ _ (h n hn).1]
    simp [Qm.mark]
  · rw [World.cell?_setCell_other _ _ _ _ (by intro e2; injection e2 with _ e3 _; omega), (h n hn).1]
    simp [Qm.mark, e]





end Go.Proofs.YtljfiefobnncaaaDoor