import Derived.Test.YtljfiefobnncaabDoorK05
import Derived.Deep.RegionWith
import Derived.Test.YtljfiefobnncaabDoorK04
import Derived.Deep.WholeRow
import Derived.Great.BuildSlice
import Derived.Maps.AppendAt

/- Package polygons: bestRow. -/
namespace Go.Proofs.YtljfiefobnncaabDoor
open Go.RowKit
attribute [local go_sem ↓] Go.wp_at_zero Go.wp_at_succ

/-- A row of lines in a box. -/
def BoxR (b : Nat) (r : Qm.Rw) (w : World) : Prop := w.cell? ⟨b, 0, none⟩ = some (.int .i64 r.1) ∧ w.cell? ⟨b, 1, none⟩ = some (.int .i64 r.2.1) ∧ w.cell? ⟨b, 2, none⟩ = some (.int .i64 r.2.2) ∧ w.frozen? ⟨b, 0, none⟩ = false ∧ w.frozen? ⟨b, 1, none⟩ = false ∧ w.frozen? ⟨b, 2, none⟩ = false ∧ b < w.heap.size
theorem BoxR.on {B B' : Nat} {p : Qm.Rw} {w w' : World} (h : BoxR B p w) (hb : Below B' w w') (hB : B < B') : BoxR B p w' :=
  ⟨(hb.cell (p := ⟨B, 0, none⟩) hB).trans h.1, (hb.cell (p := ⟨B, 1, none⟩) hB).trans h.2.1, (hb.cell (p := ⟨B, 2, none⟩) hB).trans h.2.2.1, (hb.frozen (p := ⟨B, 0, none⟩) hB).trans h.2.2.2.1, (hb.frozen (p := ⟨B, 1, none⟩) hB).trans h.2.2.2.2.1, (hb.frozen (p := ⟨B, 2, none⟩) hB).trans h.2.2.2.2.2.1, Nat.lt_of_lt_of_le h.2.2.2.2.2.2 hb.size⟩
theorem BoxR.new {B : Nat} {a b c : Int} {w : World} (t : TypeId) (hB : B = w.heap.size) : BoxR B (a, b, c) (w.alloc (.cells #[.int .i64 a, .int .i64 b, .int .i64 c] t)) := by
  subst hB; exact ⟨by simp, by simp, by simp, by simp, by simp, by simp, by simp⟩
theorem BoxR.other {B C j : Nat} {p : Qm.Rw} {v : Value} {w : World} (h : BoxR B p w) (hne : B ≠ C) : BoxR B p (w.setCell ⟨C, j, none⟩ v) := by
  have o : ∀ i, (w.setCell ⟨C, j, none⟩ v).cell? ⟨B, i, none⟩ = w.cell? ⟨B, i, none⟩ := fun i => World.cell?_setCell_other _ _ _ _ (by intro e; injection e with e _ _; exact hne e.symm)
  exact ⟨(o 0).trans h.1, (o 1).trans h.2.1, (o 2).trans h.2.2.1, by simpa using h.2.2.2.1, by simpa using h.2.2.2.2.1, by simpa using h.2.2.2.2.2.1, by rw [World.size_setCell]; exact h.2.2.2.2.2.2⟩
theorem BoxR.set0 {B : Nat} {a b c x : Int} {w : World} (h : BoxR B (a, b, c) w) : BoxR B (x, b, c) (w.setCell ⟨B, 0, none⟩ (.int .i64 x)) :=
  ⟨World.cell?_setCell_same _ _ _ h.1, (World.cell?_setCell_other _ _ _ _ (by simp)).trans h.2.1, (World.cell?_setCell_other _ _ _ _ (by simp)).trans h.2.2.1, by simpa using h.2.2.2.1, by simpa using h.2.2.2.2.1, by simpa using h.2.2.2.2.2.1, by rw [World.size_setCell]; exact h.2.2.2.2.2.2⟩
theorem BoxR.set1 {B : Nat} {a b c x : Int} {w : World} (h : BoxR B (a, b, c) w) : BoxR B (a, x, c) (w.setCell ⟨B, 1, none⟩ (.int .i64 x)) :=
  ⟨(World.cell?_setCell_other _ _ _ _ (by simp)).trans h.1, World.cell?_setCell_same _ _ _ h.2.1, (World.cell?_setCell_other _ _ _ _ (by simp)).trans h.2.2.1, by simpa using h.2.2.2.1, by simpa using h.2.2.2.2.1, by simpa using h.2.2.2.2.2.1, by rw [World.size_setCell]; exact h.2.2.2.2.2.2⟩
theorem BoxR.set2 {B : Nat} {a b c x : Int} {w : World} (h : BoxR B (a, b, c) w) : BoxR B (a, b, x) (w.setCell ⟨B, 2, none⟩ (.int .i64 x)) :=
  ⟨(World.cell?_setCell_other _ _ _ _ (by simp)).trans h.1, (World.cell?_setCell_other _ _ _ _ (by simp)).trans h.2.1, World.cell?_setCell_same _ _ _ h.2.2.1, by simpa using h.2.2.2.1, by simpa using h.2.2.2.2.1, by simpa using h.2.2.2.2.2.1, by rw [World.size_setCell]; exact h.2.2.2.2.2.2⟩
theorem BoxR.alloc {B : Nat} {p : Qm.Rw} {w : World} (h : BoxR B p w) (o : Obj) : BoxR B p (w.alloc o) := h.on ((Below.refl _ _).alloc (Nat.le_refl _) _) h.2.2.2.2.2.2
/-- Rows of lines, in a list. -/
def RowsAt (g : Nat) (B : List Qm.Rw) (w : World) : Prop := g < w.heap.size ∧ ∀ j, j < B.length → w.cell? ⟨g, j * 3, none⟩ = some (.int .i64 (B.getD j (0, 0, 0)).1) ∧ w.cell? ⟨g, j * 3 + 1, none⟩ = some (.int .i64 (B.getD j (0, 0, 0)).2.1) ∧ w.cell? ⟨g, j * 3 + 2, none⟩ = some (.int .i64 (B.getD j (0, 0, 0)).2.2)
theorem RowsAt.on {g : Nat} {l : List Qm.Rw} {w w' : World} {B : Nat} (h : RowsAt g l w) (hb : Below B w w') (hg : g < B) : RowsAt g l w' :=
  ⟨Nat.lt_of_lt_of_le h.1 hb.size, fun j hj => ⟨(hb.cell (p := ⟨g, j * 3, none⟩) hg).trans (h.2 j hj).1, (hb.cell (p := ⟨g, j * 3 + 1, none⟩) hg).trans (h.2 j hj).2.1, (hb.cell (p := ⟨g, j * 3 + 2, none⟩) hg).trans (h.2 j hj).2.2⟩⟩
def RwsIn (B : List Qm.Rw) : Prop := ∀ j, 0 ≤ (B.getD j (0, 0, 0)).1 ∧ (B.getD j (0, 0, 0)).1 ≤ 10000 ∧ 0 ≤ (B.getD j (0, 0, 0)).2.1 ∧ (B.getD j (0, 0, 0)).2.1 ≤ 1000000000

/-- A post that only a way to the end meets. -/
def OnlyN (R : Act → World → Prop) : Exit → Act → World → Prop
  | .normal, a, w => R a w
  | _, _, _ => False
/-- All ways through a piece of code end in one frame, in worlds of which G holds. -/
theorem wp_some {P : Program} {c : Code} {Q : Exit → Act → World → Prop} {a : Act} {w : World} {G : World → Prop} (A : Act) (h : c.wp P (OnlyN fun a' w' => a' = A ∧ G w') a w) (k : ∀ w', G w' → Q .normal A w') : c.wp P Q a w :=
  Code.wp_mono (fun e a' w' h => by
    cases e with
    | normal => obtain ⟨rfl, h3⟩ := h; exact k _ h3
    | _ => exact h.elim) h

set_option maxRecDepth 4000 in
set_option maxHeartbeats 2000000 in
theorem bestRow_any (g o n cap : Nat) (l : List (Int × Int)) (hn : n = l.length) (h0 : 0 < n) (hcap : n ≤ cap) (hs : Qm.Small l) (hn2 : n ≤ 4357) (ao : Option Addr) (nb capb : Nat) (B : List Qm.Rw) (hnb : nb = B.length) (hnb2 : nb ≤ 4357) (w : World) (hP : PtsO g o l w) (hB : nb = 0 ∨ ∃ gb, ao = some ⟨gb, 0, none⟩ ∧ RowsAt gb B w) (hin : RwsIn B) :
    Calls Tryd.prog 40 #[.slice (some ⟨g, o, none⟩) n cap, .slice ao nb capb] w fun e w' => e = .returned (rwV (Qm.accR l B (Qm.spn n nb))) ∧ Below w.heap.size w w' := by
  have HP := hid hP
  have hg := hP.1
  have HN := hid hn
  have HNB := hid hnb
  have HB0 := hid hB
  have HIN := hid hin
  have HS := hid hs
  have SP := hid (show Qm.spn n nb = min 12 (min (n - 1) nb) from rfl)
  clear hP hn hnb hB hin hs
  go_enter Tryd.func40, Tryd.ntmps40
  go_wp2_with fail
  go_loopw [6] (fun sv wr => ∃ k : Nat, sv = .int .i64 ((k : Int) + 1) ∧ k ≤ Qm.spn n nb ∧ BoxR w.heap.size (0, 0, 0) wr ∧ BoxR (w.heap.size + 1) (Qm.accR l B k) wr ∧ Below w.heap.size w wr) (fun s _ => 14 - (intOf s).toNat)
  case atStart => exact ⟨0, rfl, by omega, (BoxR.new _ rfl).alloc _, BoxR.new _ (by simp), by go_grown⟩
  case round =>
    obtain ⟨k, rfl, hk, x0, x1, hb⟩ := hrel
    rw [SP.out] at hk
    have HB := hid hb
    have X0 := hid x0
    have X1 := hid x1
    clear x0
    by_cases hlt : k < min 12 (min (n - 1) nb)
    · have c1 : (k : Int) + 1 ≤ 12 := by omega
      have c2 : (k : Int) + 1 < (n : Nat) := by omega
      have c3 : (k : Int) + 1 ≤ (nb : Nat) := by omega
      have c4 : (k : Int) + 1 + 1 = ((k + 2 : Nat) : Int) := by omega
      have c5 : ((k + 2 : Nat) : Int) ≤ (cap : Nat) := by omega
      have c6 : k + 2 ≤ cap := by omega
      have c7 : ((k + 2 : Nat) : Int).toNat = k + 2 := by omega
      have PT := hid (fun W' (h : Below w.heap.size w W') => (HP.out.on h hg).take (k + 2))
      have lt : (l.take (k + 2)).length = k + 2 := by rw [List.length_take, ← HN.out]; omega
      have sm := HS.out.take (k + 2)
      have FI := hid (fun W' (h : Below w.heap.size w W') => fits_any g o (k + 2) cap (l.take (k + 2)) lt.symm (by omega) sm (by omega) W' (PT.out W' h))
      have CO := hid (fun W' (h : Below w.heap.size w W') => cost_any g o (k + 2) cap (l.take (k + 2)) lt.symm (by omega) sm (by omega) W' (PT.out W' h))
      have ci := Qm.costOf_in sm
      rw [lt] at ci
      have AC := hid (show Qm.accR l B (k + 1) = if Qm.fitB (l.take (k + 2)) && (decide (k = 0) || Qm.betB ((B.getD (nb - (k + 1)) (0, 0, 0)).1 + 1, (B.getD (nb - (k + 1)) (0, 0, 0)).2.1 + Qm.costOf (l.take (k + 2)), (k : Int) + 1) (Qm.accR l B k)) then ((B.getD (nb - (k + 1)) (0, 0, 0)).1 + 1, (B.getD (nb - (k + 1)) (0, 0, 0)).2.1 + Qm.costOf (l.take (k + 2)), (k : Int) + 1) else Qm.accR l B k by rw [HNB.out]; rfl)
      obtain ⟨gb, hgb⟩ := HB0.out.resolve_left (by omega)
      obtain ⟨rfl, hrows⟩ := hgb
      obtain ⟨e0, e1, e2⟩ := (hrows.on hb hrows.1).2 (nb - (k + 1)) (by have := HNB.out; omega)
      have iq := HIN.out (nb - (k + 1))
      obtain ⟨q, hq⟩ : ∃ q, q = nb - (k + 1) := ⟨_, rfl⟩
      rw [← hq] at e0 e1 e2 AC iq
      have q1 : (nb : Int) - ((k : Int) + 1) = (q : Nat) := by omega
      have q2 : (q : Int) < (nb : Nat) := by omega
      have q3 : IntKind.i64.wrap ((q : Nat) : Int) = (q : Nat) := by rw [IntKind.wrap_i64]; omega
      obtain ⟨⟨ra, rb, rc⟩, hrr⟩ : ∃ r, r = B.getD q (0, 0, 0) := ⟨_, rfl⟩
      rw [← hrr] at e0 e1 e2 AC iq
      dsimp only at e0 e1 e2 AC iq
      obtain ⟨ct, hct⟩ : ∃ ct, Qm.costOf (l.take (k + 2)) = ct := ⟨_, rfl⟩
      rw [hct] at CO AC ci
      obtain ⟨ft, hft⟩ : ∃ ft, Qm.fitB (l.take (k + 2)) = ft := ⟨_, rfl⟩
      rw [hft] at FI AC
      obtain ⟨a, ha⟩ : ∃ a, a = Qm.accR l B k := ⟨_, rfl⟩
      rw [← ha] at AC X1 x1
      have IB := hid (fun W' => isBetter_any (ra + 1, rb + ct, (k : Int) + 1) a W')
      have hgw := hrows.1
      have hz := hb.size
      have gb1 : gb < wr.heap.size := by omega
      have HR := hid hrows
      have HQ := hid hq
      clear hb hrr hct hft ha hrows PT sm lt x1 hq
      go_wp2_with fail
      refine (FI.out _ HB.out).mono ?_
      rintro e w1 ⟨rfl, hb1⟩
      have B1 := hid (show Below w.heap.size w w1 from HB.out.trans (hb1.mono HB.out.size))
      have Y0 := hid (X0.out.on hb1 X0.out.2.2.2.2.2.2)
      have Y1 := hid (X1.out.on hb1 X1.out.2.2.2.2.2.2)
      have f0 := ((bcell hb1).1 gb (q * 3) gb1).trans e0
      have f1 := ((bcell hb1).1 gb (q * 3 + 1) gb1).trans e1
      have f2 := ((bcell hb1).1 gb (q * 3 + 2) gb1).trans e2
      have gb2 : gb < w1.heap.size := by have := hb1.size; omega
      clear hb1 e0 e1 e2
      cases ft
      · go_wp2
        go_roundw
        case rel => exact ⟨k + 1, by go_num, by rw [SP.out]; omega, Y0.out, by rw [AC.out]; exact Y1.out, B1.out⟩
        case measure => simp [intOf]; omega
      · go_wp2_with fail
        have RN := hid (show BoxR w1.heap.size (ra + 1, rb, rc) (w1.alloc (.cells #[.int .i64 (ra + 1), .int .i64 rb, .int .i64 rc] 67)) from BoxR.new _ rfl)
        have BN := hid (show Below w.heap.size w (w1.alloc (.cells #[.int .i64 (ra + 1), .int .i64 rb, .int .i64 rc] 67)) from B1.out.alloc B1.out.size _)
        have N0 := hid (show BoxR w.heap.size (0, 0, 0) (w1.alloc (.cells #[.int .i64 (ra + 1), .int .i64 rb, .int .i64 rc] 67)).drew from Y0.out.alloc (.cells #[.int .i64 (ra + 1), .int .i64 rb, .int .i64 rc] 67))
        have N1 := hid (show BoxR (w.heap.size + 1) a (w1.alloc (.cells #[.int .i64 (ra + 1), .int .i64 rb, .int .i64 rc] 67)).drew from Y1.out.alloc (.cells #[.int .i64 (ra + 1), .int .i64 rb, .int .i64 rc] 67))
        have BND := hid (show Below w.heap.size w (w1.alloc (.cells #[.int .i64 (ra + 1), .int .i64 rb, .int .i64 rc] 67)).drew from BN.out.trans ⟨rfl, rfl, rfl, Nat.le_refl _, fun _ _ => rfl⟩)
        have RND := hid (show BoxR w1.heap.size (ra + 1, rb, rc) (w1.alloc (.cells #[.int .i64 (ra + 1), .int .i64 rb, .int .i64 rc] 67)).drew from RN.out)
        have hwr : IntKind.i64.wrap (rb + ct) = rb + ct := by rw [IntKind.wrap_i64]; omega
        have hw1w : w.heap.size + 1 < w1.heap.size := Y1.out.2.2.2.2.2.2
        apply wp_some (G := fun w' => BoxR w1.heap.size (ra + 1, rb + ct, rc) w' ∧ BoxR w.heap.size (0, 0, 0) w' ∧ BoxR (w.heap.size + 1) a w' ∧ Below w.heap.size w w')
        case h =>
          go_region_with (first | (go_at_call 47; refine (CO.out _ BND.out).mono ?_; rintro e w2 ⟨rfl, hb2⟩; have B2 := hid (show Below w.heap.size w w2 from BND.out.trans (hb2.mono BND.out.size)); have R2 := RND.out.on hb2 RND.out.2.2.2.2.2.2; have Z0 := hid (N0.out.on hb2 N0.out.2.2.2.2.2.2); have Z1 := hid (N1.out.on hb2 N1.out.2.2.2.2.2.2); have RR2 := hid R2; clear hb2; obtain ⟨y0, y1, y2, y3, y4, y5, -⟩ := R2; dsimp only at y0 y1 y2))
          all_goals exact ⟨rfl, RR2.out.set1, Z0.out.other (by omega), Z1.out.other (by omega), B2.out.setCell (by dsimp only; omega) _⟩
        rintro w3 ⟨R3, T0, T1, B3⟩
        have R3H := hid R3
        have T0H := hid T0
        have T1H := hid T1
        have B3H := hid B3
        have z3 := R3.2.2.2.2.2.2
        clear RN BN BND RND N0 N1 f0 f1 f2 T0 B3
        obtain ⟨y0, y1, y2, y3, y4, y5, -⟩ := R3
        obtain ⟨a0, a1, a2⟩ := a
        obtain ⟨v0, v1, v2, v3, v4, v5, v6⟩ := T1
        dsimp only at y0 y1 y2 v0 v1 v2
        rcases Nat.eq_zero_or_pos k with hk0 | hk0
        · have AC2 := hid (show Qm.accR l B (k + 1) = (ra + 1, rb + ct, (k : Int) + 1) by rw [AC.out, hk0]; rfl)
          have d1 : ((k : Int) + 1 == 1) = true := by simp; omega
          have d2 : ((k : Int) == 0) = true := by simp; omega
          have d3 : (k == 0) = true := by simp; omega
          clear hk0 AC
          go_wp2
          go_roundw
          case rel =>
            refine ⟨k + 1, by go_num, by rw [SP.out]; omega, ?_, ?_, ?_⟩
            · exact (((T0H.out.other (by omega)).other (by omega)).other (by omega)).other (by omega)
            · rw [AC2.out]; exact (((T1H.out.other (by omega)).set0).set1).set2
            · exact (((B3H.out.setCell (by dsimp only; omega) _).setCell (by dsimp only; omega) _).setCell (by dsimp only; omega) _).setCell (by dsimp only; omega) _
          case measure => simp [intOf]; omega
        · have d1 : ((k : Int) + 1 == 1) = false := by simp; omega
          have d2 : ((k : Int) == 0) = false := by simp; omega
          have d3 : (k == 0) = false := by simp; omega
          have d4 : ¬ (k : Int) + 1 = 1 := by omega
          have d5 : ¬ k = 0 := by omega
          have AC2 := hid (show Qm.accR l B (k + 1) = if Qm.betB (ra + 1, rb + ct, (k : Int) + 1) (a0, a1, a2) then (ra + 1, rb + ct, (k : Int) + 1) else (a0, a1, a2) by rw [AC.out, decide_eq_false d5]; rfl)
          clear AC
          go_wp2_with fail
          refine (IB.out _).mono ?_
          obtain ⟨bt, hbt⟩ : ∃ bt, Qm.betB (ra + 1, rb + ct, (k : Int) + 1) (a0, a1, a2) = bt := ⟨_, rfl⟩
          rw [hbt] at AC2
          simp only [hbt]
          rintro e w4 ⟨rfl, hb4⟩
          have zz : w1.heap.size < (w3.setCell ⟨w1.heap.size, 2, none⟩ (.int .i64 ((k : Int) + 1))).heap.size := by rw [World.size_setCell]; exact z3
          have R4 := (R3H.out.set2 (x := (k : Int) + 1)).on hb4 zz
          have U0 := hid ((T0H.out.other (C := w1.heap.size) (j := 2) (v := .int .i64 ((k : Int) + 1)) (by omega)).on hb4 (by omega))
          have U1 := (T1H.out.other (C := w1.heap.size) (j := 2) (v := .int .i64 ((k : Int) + 1)) (by omega)).on hb4 (by omega)
          have B4 := hid (show Below w.heap.size w w4 from (B3H.out.setCell (by dsimp only; omega) _).trans (hb4.mono (by omega)))
          have U1H := hid U1
          clear hb4 y0 y1 y2 y3 y4 y5 v0 v1 v2 v3 v4 v5 zz
          obtain ⟨y0, y1, y2, y3, y4, y5, y6⟩ := R4
          obtain ⟨v0, v1, v2, v3, v4, v5, v7⟩ := U1
          dsimp only at y0 y1 y2 v0 v1 v2
          cases bt
          · go_wp2
            go_roundw
            case rel => exact ⟨k + 1, by go_num, by rw [SP.out]; omega, U0.out, by rw [AC2.out]; exact U1H.out, B4.out⟩
            case measure => simp [intOf]; omega
          · go_wp2
            go_roundw
            case rel =>
              refine ⟨k + 1, by go_num, by rw [SP.out]; omega, ?_, ?_, ?_⟩
              · exact ((U0.out.other (by omega)).other (by omega)).other (by omega)
              · rw [AC2.out]; exact ((U1H.out.set0).set1).set2
              · exact ((B4.out.setCell (by dsimp only; omega) _).setCell (by dsimp only; omega) _).setCell (by dsimp only; omega) _
            case measure => simp [intOf]; omega
    · have hk2 : k = min 12 (min (n - 1) nb) := by omega
      have SK := hid (show Qm.spn n nb = k by rw [SP.out, hk2])
      have X0' := X0.out
      obtain ⟨a, ha⟩ : ∃ a, a = Qm.accR l B k := ⟨_, rfl⟩
      have HA := hid ha
      rw [← ha] at x1
      obtain ⟨a0, a1, a2⟩ := a
      obtain ⟨v0, v1, v2, v3, v4, v5, v6⟩ := x1
      obtain ⟨u0, u1, u2, u3, u4, u5, u6⟩ := X0'
      dsimp only at v0 v1 v2 u0 u1 u2
      clear hb X0 X1 ha
      by_cases c1 : (k : Int) + 1 ≤ 12
      · have d1 : decide ((k : Int) + 1 ≤ 12) = true := by simpa using c1
        by_cases c2 : (k : Int) + 1 < (n : Nat)
        · have d2 : decide ((k : Int) + 1 < (n : Nat)) = true := by simpa using c2
          have c3 : ¬ (k : Int) + 1 ≤ (nb : Nat) := by omega
          have d3 : decide ((k : Int) + 1 ≤ (nb : Nat)) = false := by simpa using c3
          clear hk2
          go_wp2
          refine bodyPost_ret (v := .agg #[.int .i64 a0, .int .i64 a1, .int .i64 a2]) (by simp [results, Tryd.results40, go_sem, World.cell?_setCell_other, World.cell?_setCell_same', *]) rfl ?_
          exact ⟨by rw [SK.out, ← HA.out]; rfl, ((HB.out.setCell (by dsimp only; omega) _).setCell (by dsimp only; omega) _).setCell (by dsimp only; omega) _⟩
        · have d2 : decide ((k : Int) + 1 < (n : Nat)) = false := by simpa using c2
          clear hk2
          go_wp2
          refine bodyPost_ret (v := .agg #[.int .i64 a0, .int .i64 a1, .int .i64 a2]) (by simp [results, Tryd.results40, go_sem, World.cell?_setCell_other, World.cell?_setCell_same', *]) rfl ?_
          exact ⟨by rw [SK.out, ← HA.out]; rfl, ((HB.out.setCell (by dsimp only; omega) _).setCell (by dsimp only; omega) _).setCell (by dsimp only; omega) _⟩
      · have d1 : decide ((k : Int) + 1 ≤ 12) = false := by simpa using c1
        clear hk2
        go_wp2
        refine bodyPost_ret (v := .agg #[.int .i64 a0, .int .i64 a1, .int .i64 a2]) (by simp [results, Tryd.results40, go_sem, World.cell?_setCell_other, World.cell?_setCell_same', *]) rfl ?_
        exact ⟨by rw [SK.out, ← HA.out]; rfl, ((HB.out.setCell (by dsimp only; omega) _).setCell (by dsimp only; omega) _).setCell (by dsimp only; omega) _⟩
end Go.Proofs.YtljfiefobnncaabDoor

/- Package polygons: closed. -/
namespace Go.Proofs.YtljfiefobnncaabDoor
open Go.RowKit

theorem take_snoc (l : List (Int × Int)) (k : Nat) (h : k < l.length) : l.take (k + 1) = l.take k ++ [l.getD k (0, 0)] := by
  rw [List.take_add_one, List.getD_eq_getElem?_getD, List.getElem?_eq_getElem h]; rfl

theorem two_cells (w : World) (a b : Int) (t : TypeId) : ∀ (j : Nat) (u : Value), [Value.int .i64 a, .int .i64 b][j]? = some u → (w.alloc (.cells #[.int .i64 a, .int .i64 b] t)).cell? ((⟨w.heap.size, 0, none⟩ : Addr).add j) = some u := by
  intro j u hj
  match j, hj with
  | 0, hj => simp at hj; subst hj; simp [Addr.add]
  | 1, hj => simp at hj; subst hj; simp [Addr.add]
theorem two_one (a b : Int) : ∀ u ∈ [Value.int .i64 a, .int .i64 b], u.oneCell' = true := by
  intro u hu; simp at hu; rcases hu with rfl | rfl <;> rfl

set_option maxRecDepth 4000 in
set_option maxHeartbeats 2000000 in
theorem closed_any (g n cap : Nat) (l : List (Int × Int)) (hn : n = l.length) (h0 : 0 < n) (hn2 : n ≤ 4356) (w : World) (hP : PtsAt g l w) :
    Calls Tryd.prog 30 #[.slice (some ⟨g, 0, none⟩) n cap] w fun e w' => ∃ v, e = .returned v ∧ w'.ownsRow w.heap.size 46 2 v (n + 1) (Qm.ptsV (l ++ [Qm.fstP l])) ∧ Below w.heap.size w w' := by
  obtain ⟨i0, hi, hz0, hz1, hz2⟩ := info_parts infoPoint
  have HP := hid hP
  have hg := hP.1
  have HN := hid hn
  clear hP hn
  go_enter Tryd.func30, Tryd.ntmps30
  go_wp2_with fail
  go_loopw [3, 4] (fun v iv wr => ∃ k : Nat, k ≤ n ∧ iv = .int .i64 k ∧ wr.ownsRow w.heap.size 46 2 v k (Qm.ptsV (l.take k)) ∧ Below w.heap.size w wr) (fun _ i _ => n - (intOf i).toNat)
  case atStart => exact ⟨0, by omega, rfl, World.ownsRow_nil _ _ _ _, Below.refl _ _⟩
  case round =>
    obtain ⟨k, hk, rfl, hown, hb⟩ := hrel
    have HB := hid hb
    have OW := hid hown
    have hz := hb.size
    by_cases hlt : k < n
    · obtain ⟨r0, r1⟩ := (HP.out.on hb hg).2 k (by have := HN.out; omega)
      have hlt' : (k : Int) < (n : Nat) := by omega
      have TS := hid (take_snoc l k (by have := HN.out; omega))
      obtain ⟨⟨pa, pb⟩, hpp⟩ : ∃ p, p = l.getD k (0, 0) := ⟨_, rfl⟩
      rw [← hpp] at r0 r1 TS
      dsimp only at r0 r1
      have n1 : k + 1 ≤ maxLen := by unfold maxLen; omega
      have n2 : (k + 1) * 16 ≤ 140737488355328 := by omega
      have n3 : w.heap.size ≤ (wr.alloc (.cells #[.int .i64 pa, .int .i64 pb] 46)).heap.size := by simp; omega
      clear hb hpp hown
      go_wp2_with (first
        | (at_builtin; refine wpList_append_own _ rfl _ _ 40 rfl w.heap.size 46 i0 (.agg #[.int .i64 0, .int .i64 0]) 2 16 Tryd.underlying40 hi hz0 hz1 hz2 rfl (by decide) _ _ _ rfl (OW.out.alloc _) ⟨_, 0, none⟩ 1 1 [.int .i64 pa, .int .i64 pb] rfl rfl (two_cells _ _ _ _) (two_one _ _) n1 n2 n3 ?_))
      intro v' w3 o3 g3 _
      have B3 := hid (show Below w.heap.size w w3 from (HB.out.alloc hz _).grown g3 n3 (fun q hq => (OW.out.lt q hq).1))
      have O3 := hid (show w3.ownsRow w.heap.size 46 2 v' (k + 1) (Qm.ptsV (l.take (k + 1))) by rw [TS.out, Qm.ptsV_snoc]; exact o3)
      clear o3 g3 r0 r1
      go_wp2
      go_roundw
      case rel => exact ⟨k + 1, by omega, by go_num, O3.out, B3.out⟩
      case measure => simp [intOf]; omega
    · have ek : k = n := by omega
      have hn0 : (0 : Int) < (n : Nat) := by omega
      have OW2 := hid (show wr.ownsRow w.heap.size 46 2 _ n (Qm.ptsV l) by rw [ek, show l.take n = l by rw [HN.out]; exact List.take_length] at hown; exact hown)
      obtain ⟨r0, r1⟩ := (HP.out.on hb hg).2 0 (by have := HN.out; omega)
      simp only [Nat.zero_mul, Nat.zero_add] at r0 r1
      have FS := hid (show Qm.fstP l = l.getD 0 (0, 0) from rfl)
      obtain ⟨⟨pa, pb⟩, hpp⟩ : ∃ p, p = l.getD 0 (0, 0) := ⟨_, rfl⟩
      rw [← hpp] at r0 r1 FS
      dsimp only at r0 r1
      have n1 : n + 1 ≤ maxLen := by unfold maxLen; omega
      have n2 : (n + 1) * 16 ≤ 140737488355328 := by omega
      have n3 : w.heap.size ≤ (wr.alloc (.cells #[.int .i64 pa, .int .i64 pb] 46)).heap.size := by simp; omega
      have hk' : ¬ (k : Int) < (n : Nat) := by omega
      clear hb hpp hown ek OW
      go_wp2_with (first
        | (at_builtin; refine wpList_append_own _ rfl _ _ 40 rfl w.heap.size 46 i0 (.agg #[.int .i64 0, .int .i64 0]) 2 16 Tryd.underlying40 hi hz0 hz1 hz2 rfl (by decide) _ _ _ rfl (OW2.out.alloc _) ⟨_, 0, none⟩ 1 1 [.int .i64 pa, .int .i64 pb] rfl rfl (two_cells _ _ _ _) (two_one _ _) n1 n2 n3 ?_))
      intro v' w3 o3 g3 _
      have B3 := hid (show Below w.heap.size w w3 from (HB.out.alloc hz _).grown g3 n3 (fun q hq => (OW2.out.lt q hq).1))
      have O3 := hid (show w3.ownsRow w.heap.size 46 2 v' (n + 1) (Qm.ptsV (l ++ [Qm.fstP l])) by rw [Qm.ptsV_snoc, FS.out]; exact o3)
      clear o3 g3 r0 r1
      go_wp2
      go_ret
      exact ⟨_, rfl, O3.out, B3.out⟩
end Go.Proofs.YtljfiefobnncaabDoor

/- Find of package cycles: what holds in its loops. -/
namespace Go.Proofs.YtljfiefobnncaabDoor
open Go.RowKit

/-- The cells of a walker. -/
def wkN (N : Nat) (a b c d e f : Value) : List Value := a :: b :: c :: d :: e :: f :: List.replicate N (.bool false)
abbrev wkL (a b c d e f : Value) : List Value := wkN 4356 a b c d e f
set_option maxRecDepth 100000 in
theorem infoWk : (Tryd.prog.info? 61).map (fun i => (i.zero, i.size)) = some (some (.agg ⟨wkL (.int .i64 0) (.int .i64 0) (.string ⟨#[]⟩) (.int .i64 0) (.string ⟨#[]⟩) (.int .i64 0)⟩), 4362) := by kernel_rfl
set_option maxRecDepth 100000 in
theorem builtWk (a b c d e f : Value) : Tryd.prog.built 61 [(0, .agg #[a, b, c]), (1, .agg #[d, e, f])] = some ⟨wkL a b c d e f⟩ := by kernel_rfl
theorem wkN_size (N : Nat) (a b c d e f : Value) : (⟨wkN N a b c d e f⟩ : Array Value).size = N + 6 := by simp [wkN]
theorem wkN_one (N : Nat) (W H pol spk : Int) (s draws : ByteArray) : (⟨wkN N (.int .i64 W) (.int .i64 H) (.string s) (.int .i64 pol) (.string draws) (.int .i64 spk)⟩ : Array Value).all (·.oneCell') = true := by
  simp [wkN, Value.oneCell']
theorem wkN_at (N : Nat) (a b c d e f : Value) (n : Nat) (h : n < N) : (⟨wkN N a b c d e f⟩ : Array Value)[6 + n]? = some (.bool false) := by
  rw [Nat.add_comm]; simp [wkN, h]
theorem Wk.newN (N W H : Nat) (s : ByteArray) (pol : Nat) (draws : ByteArray) (spk : Int) (w : World) (t : TypeId) : Wk w.heap.size W H s pol draws spk (w.alloc (.cells ⟨wkN N (.int .i64 W) (.int .i64 H) (.string s) (.int .i64 pol) (.string draws) (.int .i64 spk)⟩ t)) :=
  ⟨by simp [wkN], by simp [wkN], by simp [wkN], by simp [wkN], by simp [wkN], by simp [wkN], by simp⟩
theorem Tkn.new (a b c d e f : Value) (w : World) (t : TypeId) : Tkn w.heap.size (fun _ => false) (w.alloc (.cells ⟨wkL a b c d e f⟩ t)) := fun n hn =>
  ⟨by rw [World.cell?_alloc_new, wkN_at _ _ _ _ _ _ _ n hn], by rw [World.frozen?_alloc_new]⟩

theorem infoShape : (Tryd.prog.info? 42).map (fun i => (i.zero, i.size, i.bytes)) = some (some (.agg #[.slice none 0 0, .int .i64 0]), 2, 32) := by kernel_rfl

/-- The cells of a row of shapes: where the points of each are, and twice its area. -/
def shpV (f : Qm.Sd → Qm.Sd) (L : List (Value × (Qm.Sd × Nat))) : List Value := L.flatMap fun p => [p.1, .int .i64 (Qm.twiceOf (Qm.ptsOf f p.2))]
theorem shpV_snoc (f : Qm.Sd → Qm.Sd) (L : List (Value × (Qm.Sd × Nat))) (p : Value × (Qm.Sd × Nat)) : shpV f (L ++ [p]) = shpV f L ++ [p.1, .int .i64 (Qm.twiceOf (Qm.ptsOf f p.2))] := by simp [shpV]

/-- The lists of an answer: the row of shapes and each shape's points have blocks of their own, from b on. -/
structure Rowed (f : Qm.Sd → Qm.Sd) (b : Nat) (vl : Value) (L : List (Value × (Qm.Sd × Nat))) (w : World) : Prop where
  row : w.ownsRow b 42 2 vl L.length (shpV f L)
  pts : ∀ p ∈ L, w.ownsRow b 46 2 p.1 p.2.2 (Qm.ptsV (Qm.ptsOf f p.2))
  apart : (vl :: L.map (·.1)).Pairwise fun a c => a.ownBlock = none ∨ a.ownBlock ≠ c.ownBlock

/-- What holds when all points ahead of K have been seen. -/
structure FI (g W H : Nat) (s : ByteArray) (pol : Nat) (draws : ByteArray) (spk : Int) (X : World) (K : Int) (L : List (Value × (Qm.Sd × Nat))) (T : Nat → Bool) (vl : Value) (wr : World) : Prop where
  canon : ∀ p ∈ L, Qm.Canon (fB W H s pol draws) (bB W H s) Qm.key p.2
  sorted : (L.map (·.2)).Pairwise fun a b => Qm.key a.1 < Qm.key b.1
  past : ∀ p ∈ L, Qm.key p.2.1 < K
  rep : Qm.Rep (Pm.blackB W H s.data.toList) (fB W H s pol draws) T (L.map (·.2))
  ahead : Ahead (Pm.blackB W H s.data.toList) (fB W H s pol draws) (L.map (·.2)) K
  wk : Wk g W H s pol draws spk wr
  tkn : Tkn g T wr
  rowed : Rowed (fB W H s pol draws) (g + 1) vl L wr
  below : Below g X wr
  few : (L.length : Int) ≤ K

theorem FI.cyc {g W H : Nat} {s : ByteArray} {pol : Nat} {draws : ByteArray} {spk : Int} {X : World} {K : Int} {L : List (Value × (Qm.Sd × Nat))} {T : Nat → Bool} {vl : Value} {wr : World} (h : FI g W H s pol draws spk X K L T vl wr) : ∀ c ∈ L.map (·.2), Qm.Cyc (fB W H s pol draws) (bB W H s) c.1 c.2 := by
  intro c hc
  obtain ⟨p, hp, rfl⟩ := List.mem_map.1 hc
  exact (h.canon p hp).1

theorem own_keep {w w' : World} {b : Nat} {t : TypeId} {z : Nat} {v : Value} {n : Nat} {xs : List Value} (h : w.ownsRow b t z v n xs) {g : Nat} (hg : g < b) (hb : w.grownBy w' (some g)) : w'.ownsRow b t z v n xs := by
  refine h.kept hb ?_
  cases hv : v.ownBlock with
  | none => exact .inl rfl
  | some k => right; intro e; injection e with e; have := h.lt k hv; omega
theorem own_below {w w' : World} {b : Nat} {t : TypeId} {z : Nat} {v : Value} {n : Nat} {xs : List Value} (h : w.ownsRow b t z v n xs) (hb : Below w.heap.size w w') : w'.ownsRow b t z v n xs :=
  h.kept (grown_of_below hb none) (by cases v.ownBlock <;> simp)
theorem Rowed.on {f : Qm.Sd → Qm.Sd} {b : Nat} {vl : Value} {L : List (Value × (Qm.Sd × Nat))} {w w' : World} (h : Rowed f b vl L w) {g : Nat} (hg : g < b) (hb : w.grownBy w' (some g)) : Rowed f b vl L w' :=
  ⟨own_keep h.row hg hb, fun p hp => own_keep (h.pts p hp) hg hb, h.apart⟩

section
variable {g W H : Nat} {s : ByteArray} {pol : Nat} {draws : ByteArray} {spk : Int} {X : World} {L : List (Value × (Qm.Sd × Nat))} {T : Nat → Bool} {vl : Value} {wr : World}

/-- Nothing begins there. -/
theorem FI.none {K : Int} (h : FI g W H s pol draws spk X K L T vl wr) {w2 : World} {T' : Nat → Bool} (hg : wr.grownBy w2 (some g)) (hk : Wk g W H s pol draws spk w2) (ht : Tkn g T' w2) (hr : Qm.Rep (Pm.blackB W H s.data.toList) (fB W H s pol draws) T' (L.map (·.2)))
    (ha : Ahead (Pm.blackB W H s.data.toList) (fB W H s pol draws) (L.map (·.2)) (K + 1)) : FI g W H s pol draws spk X (K + 1) L T' vl w2 where
  canon := h.canon
  sorted := h.sorted
  past p hp := by have := h.past p hp; omega
  rep := hr
  ahead := ha
  wk := hk
  tkn := ht
  rowed := h.rowed.on (by omega) hg
  below := h.below.trans (gb_below_of hg (Nat.le_refl _) (Nat.le_of_lt h.wk.2.2.2.2.2.2))
  few := by have := h.few; omega

/-- To the next row. -/
theorem FI.row {y : Nat} (hw : W ≤ 32) (hh : H ≤ 32) (h : FI g W H s pol draws spk X (33 * (y : Int) + W + 1) L T vl wr) : FI g W H s pol draws spk X (33 * ((y + 1 : Nat) : Int)) L T vl wr where
  canon := h.canon
  sorted := h.sorted
  past p hp := by have := h.past p hp; omega
  rep := h.rep
  ahead t ht hk hu := h.ahead t ht (by
    have hb := Qm.side_in (Qm.pic_of W H s.data.toList hw hh) ht
    unfold Qm.key at *
    omega) hu
  wk := h.wk
  tkn := h.tkn
  rowed := h.rowed
  below := h.below
  few := by have := h.few; omega

/-- All rows have been seen. -/
theorem FI.res {K : Int} (hw : W ≤ 32) (hh : H ≤ 32) (h : FI g W H s pol draws spk X K L T vl wr) (hK : 33 * ((H : Int) + 1) ≤ K) : Qm.Res (fB W H s pol draws) (bB W H s) Qm.key (L.map (·.2)) := by
  have st := Qm.step (Qm.pic_of W H s.data.toList hw hh) (Qm.jnB W H s.data.toList pol draws.data.toList)
  refine ⟨fun c hc => ?_, h.sorted, Qm.all_taken st h.cyc fun t ht hu => h.ahead t ht ?_ hu⟩
  · obtain ⟨p, hp, rfl⟩ := List.mem_map.1 hc
    exact h.canon p hp
  · have hb := Qm.side_in (Qm.pic_of W H s.data.toList hw hh) ht
    unfold Qm.key
    omega

/-- A cycle more: walked (w2), reckoned (w3), written behind the others (w4). -/
theorem FI.found {K : Int} (h : FI g W H s pol draws spk X K L T vl wr) {w2 w3 w4 : World} {T' : Nat → Bool} {v vl' : Value} {s0 : Qm.Sd} {n : Nat} {o : Obj}
    (hg : wr.grownBy w2 (some g)) (hk : Wk g W H s pol draws spk w2) (ht : Tkn g T' w2) (hr : Qm.Rep (Pm.blackB W H s.data.toList) (fB W H s pol draws) T' (L.map (·.2) ++ [(s0, n)]))
    (ha : Ahead (Pm.blackB W H s.data.toList) (fB W H s pol draws) (L.map (·.2) ++ [(s0, n)]) (K + 1)) (hc : Qm.Canon (fB W H s pol draws) (bB W H s) Qm.key (s0, n)) (hK : Qm.key s0 = K)
    (ho : w2.ownsRow wr.heap.size 46 2 v n (Qm.ptsV (Qm.ptsOf (fB W H s pol draws) (s0, n)))) (hn : 0 < n) (b3 : Below w2.heap.size w2 w3)
    (o4 : w4.ownsRow (g + 1) 42 2 vl' (L.length + 1) (shpV (fB W H s pol draws) L ++ [v, .int .i64 (Qm.twiceOf (Qm.ptsOf (fB W H s pol draws) (s0, n)))])) (g4 : (w3.alloc o).grownBy w4 vl.ownBlock) (e4 : vl'.ownBlock = vl.ownBlock ∨ vl'.ownBlock = some (w3.heap.size + 1)) :
    FI g W H s pol draws spk X (K + 1) (L ++ [(v, s0, n)]) T' vl' w4 := by
  have gz := h.wk.2.2.2.2.2.2
  have z2 := hg.size
  have z3 := b3.size
  have vb : ∃ k, v.ownBlock = some k ∧ wr.heap.size ≤ k ∧ k < w2.heap.size := by
    obtain ⟨k, cap, e, hb, hp, _⟩ := own_at ho hn
    exact ⟨k, by rw [e]; rfl, hb, hp.1⟩
  obtain ⟨k, vk, k1, k2⟩ := vb
  have vlne : ∀ q, vl.ownBlock = some q → g + 1 ≤ q ∧ q < wr.heap.size := fun q hq => h.rowed.row.lt q hq
  have b24 : Below (g + 1) w2 w4 := (b3.mono (by omega)).trans (((Below.refl _ _).alloc (by omega) _).grown g4 (by simp; omega) (fun q hq => (vlne q hq).1))
  have keep : ∀ {u : Value} {m : Nat} {xs : List Value} {b : Nat}, w2.ownsRow b 46 2 u m xs → (u.ownBlock = .none ∨ u.ownBlock ≠ vl.ownBlock) → w4.ownsRow b 46 2 u m xs := fun hu hne =>
    (own_below hu (b3.trans ((Below.refl _ _).alloc (by omega) o))).kept g4 hne
  have pl : ∀ p ∈ L, w2.ownsRow (g + 1) 46 2 p.1 p.2.2 (Qm.ptsV (Qm.ptsOf (fB W H s pol draws) p.2)) := fun p hp => own_keep (h.rowed.pts p hp) (by omega) hg
  have ap := List.pairwise_cons.1 h.rowed.apart
  have pn : ∀ p ∈ L, p.1.ownBlock = .none ∨ p.1.ownBlock ≠ vl.ownBlock := fun p hp => by
    rcases ap.1 p.1 (List.mem_map_of_mem hp) with e | e
    · cases hpb : p.1.ownBlock with
      | none => exact .inl rfl
      | some q => right; rw [e]; simp
    · exact .inr (Ne.symm e)
  have plt : ∀ p ∈ L, ∀ q, p.1.ownBlock = some q → q < wr.heap.size := fun p hp q hq => ((h.rowed.pts p hp).lt q hq).2
  have vne : v.ownBlock ≠ vl.ownBlock := fun e => by rw [vk] at e; have := vlne k e.symm; omega
  refine ⟨?_, ?_, ?_, by rw [List.map_append]; exact hr, by rw [List.map_append]; exact ha, hk.onB b24 (by omega), ht.on b24 (by omega), ⟨?_, ?_, ?_⟩, ?_, ?_⟩
  · intro p hp
    rcases List.mem_append.1 hp with hp | hp
    · exact h.canon p hp
    · rw [List.mem_singleton] at hp; subst hp; exact hc
  · rw [List.map_append]
    refine List.pairwise_append.2 ⟨h.sorted, by simp, fun a ha b hb => ?_⟩
    obtain ⟨p, hp, rfl⟩ := List.mem_map.1 ha
    simp only [List.map_cons, List.map_nil, List.mem_singleton] at hb
    subst hb
    rw [hK]
    exact h.past p hp
  · intro p hp
    rcases List.mem_append.1 hp with hp | hp
    · have := h.past p hp; omega
    · rw [List.mem_singleton] at hp; subst hp; show Qm.key s0 < _; omega
  · rw [shpV_snoc, List.length_append]; exact o4
  · intro p hp
    rcases List.mem_append.1 hp with hp | hp
    · exact keep (pl p hp) (pn p hp)
    · rw [List.mem_singleton] at hp; subst hp
      exact keep (ho.mono (by omega)) (.inr vne)
  · rw [List.map_append]
    refine List.pairwise_cons.2 ⟨fun a ha => ?_, List.pairwise_append.2 ⟨ap.2, by simp, fun a ha b hb => ?_⟩⟩
    · right
      intro e
      have hlt : ∃ q, vl'.ownBlock = some q := by
        rcases o4.2 with ⟨_, h0⟩ | ⟨g', cap', _, e', _⟩
        · omega
        · exact ⟨g', by rw [e']; rfl⟩
      obtain ⟨q, hq⟩ := hlt
      rcases List.mem_append.1 ha with ha | ha
      · obtain ⟨p, hp, rfl⟩ := List.mem_map.1 ha
        rcases e4 with e4 | e4
        · rcases pn p hp with e5 | e5
          · rw [e5, hq] at e; cases e
          · exact e5 (e.symm.trans e4)
        · have := plt p hp _ (e.symm.trans e4); omega
      · simp only [List.map_cons, List.map_nil, List.mem_singleton] at ha
        subst ha
        rcases e4 with e4 | e4
        · exact vne (e.symm.trans e4)
        · rw [e4, vk] at e; injection e with e; omega
    · obtain ⟨p, hp, rfl⟩ := List.mem_map.1 ha
      simp only [List.map_cons, List.map_nil, List.mem_singleton] at hb
      rw [hb]
      cases hpb : p.1.ownBlock with
      | none => exact .inl rfl
      | some q => right; intro e; have e2 : v.ownBlock = some q := e.symm; rw [vk] at e2; injection e2 with e2; have := plt p hp q hpb; omega
  · exact h.below.trans ((gb_below_of hg (Nat.le_refl _) (by omega)).trans (b24.mono (by omega)))
  · have := h.few; simp; omega
end
end Go.Proofs.YtljfiefobnncaabDoor
