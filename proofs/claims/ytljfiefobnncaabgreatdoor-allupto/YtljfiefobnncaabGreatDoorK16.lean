import Derived.Test.YtljfiefobnncaabGreatDoorK15
import Derived.Deep.RegionWith
import Derived.Test.YtljfiefobnncaabGreatDoorK04
import Derived.Test.YtljfiefobnncaabGreatDoorK05

/- Package polygons: bestRow. -/
namespace Go.Proofs.YtljfiefobnncaabGreatDoor
open Go.RowKit
attribute [local go_sem ↓] Go.wp_at_zero Go.wp_at_succ

/-- A row of lines in a box. -/
def BoxR (b : Nat) (r : Qm.Rw) (w : World) : Prop := w.cell? ⟨b, 0, none⟩ = some (.int .i64 r.1) ∧ w.cell? ⟨b, 1, none⟩ = some (.int .i64 r.2.1) ∧ w.cell? ⟨b, 2, none⟩ = some (.int .i64 r.2.2) ∧ w.frozen? ⟨b, 0, none⟩ = false ∧ w.frozen? ⟨b, 1, none⟩ = false ∧ w.frozen? ⟨b, 2, none⟩ = false ∧ b < w.heap.size
theorem BoxR.on {B B' : Nat} {p : Qm.Rw} {w w' : World} (h : BoxR B p w) (hb : Below B' w w') (hB : B < B') : BoxR B p w' :=
  ⟨(hb.cell (p := ⟨B, 0, none⟩) hB).trans h.1, (hb.cell (p := ⟨B, 1, none⟩) hB).trans h.2.1, (hb.cell (p := ⟨B, 2, none⟩) hB).trans h.2.2.1, (hb.frozen (p := ⟨B, 0, none⟩) hB).trans h.2.2.2.1, (hb.frozen (p := ⟨B, 1, none⟩) hB).trans h.2.2.2.2.1, (hb.frozen (p := ⟨B, 2, none⟩) hB).trans h.2.2.2.2.2.1, Nat.lt_of_lt_of_le h.2.2.2.2.2.2 hb.size⟩
theorem BoxR.new {B : Nat} {a b c : Int} {w : World} (t : TypeId) (hB : B = w.heap.size) : BoxR B (a, b, c) (w.alloc (.cells #[.int .i64 a, .int .i64 b, .int .i64 c] t)) := by
  subst hB; exact ⟨by simp, by simp, by simp, by simp, by simp, by simp, by simp⟩
theorem BoxR.other {B C j : Nat} {p : Qm.Rw} {v : Value} {w : World} (h : BoxR B p w) (hne : B ≠ C) : BoxR B p (w.setCell ⟨C, j, none⟩ v) := by
  have o : ∀ i, (w.setCell ⟨C, j, none⟩ v).cell? ⟨B, i, none⟩ = w.cell? ⟨B, i, none⟩ := fun i => World.cell?_setCell_other _ _ _ _ (by intro e; injection e with e _ _; exact hne e.symm)
  exact ⟨(o 0).trans h.1, (o 1).trans h.2.1, (o 2).trans h.2.2.1, by simpa using h.2.2.2.1, by simpa using h.2.2.2.2.1, by simpa using h.2.2.2.2.2.1, by rw [World.size_setCell]; exact h.2.2.2.2.2.2⟩
theorem BoxR.set0 {B : Nat} {a b c x : Int} {w : World} (h : BoxR B (a, b, c) w) : BoxR B (x, b, c) (w.setCell ⟨B, 0, none⟩ (.int .i64 x)) :=
  ⟨World.cell?_setCell_same _ _ _ h.1, (World.cell?_setCell_other _ _ _ _ (by simp)).trans h.2.1, (World.cell?_setCell_other _ _ _ _ (by simp)).trans h.2.2.1, by simpa using h.2.2.2.1, by simpa using h.2.2.2.2.1, by simpa using h.2.2.2.2.2.1, by rw [World.size_setCell]; exact h.2.2.2.2.2.2⟩
theorem BoxR.set1 {B : Nat} {a b c x : Int} {w : World} (h : BoxR B (a, b, c) w) : BoxR B (a, x, c) (w.setCell ⟨B, 1, none⟩ (.int .i64 x)) :=
  ⟨(World.cell?_setCell_other _ _ _ _ (by simp)).trans h.1, World.cell?_setCell_same _ _ _ h.2.1, (World.cell?_setCell_other _ _ _ _ (by simp)).trans h.2.2.1, by simpa using h.2.2.2.1, by simpa using h.2.2.2.2.1, by simpa using h.2.2.2.2.2.1, by rw [World.size_setCell]; exact h.2.2.2.2.2.2⟩
theorem BoxR.set2 {B : Nat} {a b c x : Int} {w : World} (h : BoxR B (a, b, c) w) : BoxR B (a, b, x) (w.setCell ⟨B, 2, none⟩ (.int .i64 x)) :=
  ⟨(World.cell?_setCell_other _ _ _ _ (by simp)).trans h.1, (World.cell?_setCell_other _ _ _ _ (by simp)).trans h.2.1, World.cell?_setCell_same _ _ _ h.2.2.1, by simpa using h.2.2.2.1, by simpa using h.2.2.2.2.1, by simpa using h.2.2.2.2.2.1, by rw [World.size_setCell]; exact h.2.2.2.2.2.2⟩
theorem BoxR.alloc {B : Nat} {p : Qm.Rw} {w : World} (h : BoxR B p w) (o : Obj) : BoxR B p (w.alloc o) := h.on ((Below.refl _ _).alloc (Nat.le_refl _) _) h.2.2.2.2.2.2
/-- Rows of lines, in a list. -/
def RowsAt (g : Nat) (B : List Qm.Rw) (w : World) : Prop := g < w.heap.size ∧ ∀ j, j < B.length → w.cell? ⟨g, j * 3, none⟩ = some (.int .i64 (B.getD j (0, 0, 0)).1) ∧ w.cell? ⟨g, j * 3 + 1, none⟩ = some (.int .i64 (B.getD j (0, 0, 0)).2.1) ∧ w.cell? ⟨g, j * 3 + 2, none⟩ = some (.int .i64 (B.getD j (0, 0, 0)).2.2)
theorem RowsAt.on {g : Nat} {l : List Qm.Rw} {w w' : World} {B : Nat} (h : RowsAt g l w) (hb : Below B w w') (hg : g < B) : RowsAt g l w' :=
  ⟨Nat.lt_of_lt_of_le h.1 hb.size, fun j hj => ⟨(hb.cell (p := ⟨g, j * 3, none⟩) hg).trans (h.2 j hj).1, (hb.cell (p := ⟨g, j * 3 + 1, none⟩) hg).trans (h.2 j hj).2.1, (hb.cell (p := ⟨g, j * 3 + 2, none⟩) hg).trans (h.2 j hj).2.2⟩⟩
def RwsIn (B : List Qm.Rw) : Prop := ∀ j, 0 ≤ (B.getD j (0, 0, 0)).1 ∧ (B.getD j (0, 0, 0)).1 ≤ 10000 ∧ 0 ≤ (B.getD j (0, 0, 0)).2.1 ∧ (B.getD j (0, 0, 0)).2.1 ≤ 1000000000

/-- A post that only a way to the end meets. -/
def OnlyN (R : Act → World → Prop) : Exit → Act → World → Prop
  | .normal, a, w => R a w
  | _, _, _ => False
/-- All ways through a piece of code end in one frame, in worlds of which G holds. -/
theorem wp_some {P : Program} {c : Code} {Q : Exit → Act → World → Prop} {a : Act} {w : World} {G : World → Prop} (A : Act) (h : c.wp P (OnlyN fun a' w' => a' = A ∧ G w') a w) (k : ∀ w', G w' → Q .normal A w') : c.wp P Q a w :=
  Code.wp_mono (fun e a' w' h => by
    cases e with
    | normal => obtain ⟨rfl, h3⟩ := h; exact k _ h3
    | _ => exact h.elim) h

set_option maxRecDepth 4000 in
set_option maxHeartbeats 2000000 in
theorem bestRow_any (g o n cap : Nat) (l : List (Int × Int)) (hn : n = l.length) (h0 : 0 < n) (hcap : n ≤ cap) (hs : Qm.Small l) (hn2 : n ≤ 4357) (ao : Option Addr) (nb capb : Nat) (B : List Qm.Rw) (hnb : nb = B.length) (hnb2 : nb ≤ 4357) (w : World) (hP : PtsO g o l w) (hB : nb = 0 ∨ ∃ gb, ao = some ⟨gb, 0, none⟩ ∧ RowsAt gb B w) (hin : RwsIn B) :
    Calls Tryz.prog 122 #[.slice (some ⟨g, o, none⟩) n cap, .slice ao nb capb] w fun e w' => e = .returned (rwV (Qm.accR l B (Qm.spn n nb))) ∧ Below w.heap.size w w' := by
  have HP := hid hP
  have hg := hP.1
  have HN := hid hn
  have HNB := hid hnb
  have HB0 := hid hB
  have HIN := hid hin
  have HS := hid hs
  have SP := hid (show Qm.spn n nb = min 12 (min (n - 1) nb) from rfl)
  clear hP hn hnb hB hin hs
  go_enter Tryz.func122, Tryz.ntmps122
  go_wp2_with fail
  go_loopw [6] (fun sv wr => ∃ k : Nat, sv = .int .i64 ((k : Int) + 1) ∧ k ≤ Qm.spn n nb ∧ BoxR w.heap.size (0, 0, 0) wr ∧ BoxR (w.heap.size + 1) (Qm.accR l B k) wr ∧ Below w.heap.size w wr) (fun s _ => 14 - (intOf s).toNat)
  case atStart => exact ⟨0, rfl, by omega, (BoxR.new _ rfl).alloc _, BoxR.new _ (by simp), by go_grown⟩
  case round =>
    obtain ⟨k, rfl, hk, x0, x1, hb⟩ := hrel
    rw [SP.out] at hk
    have HB := hid hb
    have X0 := hid x0
    have X1 := hid x1
    clear x0
    by_cases hlt : k < min 12 (min (n - 1) nb)
    · have c1 : (k : Int) + 1 ≤ 12 := by omega
      have c2 : (k : Int) + 1 < (n : Nat) := by omega
      have c3 : (k : Int) + 1 ≤ (nb : Nat) := by omega
      have c4 : (k : Int) + 1 + 1 = ((k + 2 : Nat) : Int) := by omega
      have c5 : ((k + 2 : Nat) : Int) ≤ (cap : Nat) := by omega
      have c6 : k + 2 ≤ cap := by omega
      have c7 : ((k + 2 : Nat) : Int).toNat = k + 2 := by omega
      have PT := hid (fun W' (h : Below w.heap.size w W') => (HP.out.on h hg).take (k + 2))
      have lt : (l.take (k + 2)).length = k + 2 := by rw [List.length_take, ← HN.out]; omega
      have sm := HS.out.take (k + 2)
      have FI := hid (fun W' (h : Below w.heap.size w W') => fits_any g o (k + 2) cap (l.take (k + 2)) lt.symm (by omega) sm (by omega) W' (PT.out W' h))
      have CO := hid (fun W' (h : Below w.heap.size w W') => cost_any g o (k + 2) cap (l.take (k + 2)) lt.symm (by omega) sm (by omega) W' (PT.out W' h))
      have ci := Qm.costOf_in sm
      rw [lt] at ci
      have AC := hid (show Qm.accR l B (k + 1) = if Qm.fitB (l.take (k + 2)) && (decide (k = 0) || Qm.betB ((B.getD (nb - (k + 1)) (0, 0, 0)).1 + 1, (B.getD (nb - (k + 1)) (0, 0, 0)).2.1 + Qm.costOf (l.take (k + 2)), (k : Int) + 1) (Qm.accR l B k)) then ((B.getD (nb - (k + 1)) (0, 0, 0)).1 + 1, (B.getD (nb - (k + 1)) (0, 0, 0)).2.1 + Qm.costOf (l.take (k + 2)), (k : Int) + 1) else Qm.accR l B k by rw [HNB.out]; rfl)
      obtain ⟨gb, hgb⟩ := HB0.out.resolve_left (by omega)
      obtain ⟨rfl, hrows⟩ := hgb
      obtain ⟨e0, e1, e2⟩ := (hrows.on hb hrows.1).2 (nb - (k + 1)) (by have := HNB.out; omega)
      have iq := HIN.out (nb - (k + 1))
      obtain ⟨q, hq⟩ : ∃ q, q = nb - (k + 1) := ⟨_, rfl⟩
      rw [← hq] at e0 e1 e2 AC iq
      have q1 : (nb : Int) - ((k : Int) + 1) = (q : Nat) := by omega
      have q2 : (q : Int) < (nb : Nat) := by omega
      have q3 : IntKind.i64.wrap ((q : Nat) : Int) = (q : Nat) := by rw [IntKind.wrap_i64]; omega
      obtain ⟨⟨ra, rb, rc⟩, hrr⟩ : ∃ r, r = B.getD q (0, 0, 0) := ⟨_, rfl⟩
      rw [← hrr] at e0 e1 e2 AC iq
      dsimp only at e0 e1 e2 AC iq
      obtain ⟨ct, hct⟩ : ∃ ct, Qm.costOf (l.take (k + 2)) = ct := ⟨_, rfl⟩
      rw [hct] at CO AC ci
      obtain ⟨ft, hft⟩ : ∃ ft, Qm.fitB (l.take (k + 2)) = ft := ⟨_, rfl⟩
      rw [hft] at FI AC
      obtain ⟨a, ha⟩ : ∃ a, a = Qm.accR l B k := ⟨_, rfl⟩
      rw [← ha] at AC X1 x1
      have IB := hid (fun W' => isBetter_any (ra + 1, rb + ct, (k : Int) + 1) a W')
      have hgw := hrows.1
      have hz := hb.size
      have gb1 : gb < wr.heap.size := by omega
      have HR := hid hrows
      have HQ := hid hq
      clear hb hrr hct hft ha hrows PT sm lt x1 hq
      go_wp2_with fail
      refine (FI.out _ HB.out).mono ?_
      rintro e w1 ⟨rfl, hb1⟩
      have B1 := hid (show Below w.heap.size w w1 from HB.out.trans (hb1.mono HB.out.size))
      have Y0 := hid (X0.out.on hb1 X0.out.2.2.2.2.2.2)
      have Y1 := hid (X1.out.on hb1 X1.out.2.2.2.2.2.2)
      have f0 := ((bcell hb1).1 gb (q * 3) gb1).trans e0
      have f1 := ((bcell hb1).1 gb (q * 3 + 1) gb1).trans e1
      have f2 := ((bcell hb1).1 gb (q * 3 + 2) gb1).trans e2
      have gb2 : gb < w1.heap.size := by have := hb1.size; omega
      clear hb1 e0 e1 e2
      cases ft
      · go_wp2
        go_roundw
        case rel => exact ⟨k + 1, by go_num, by rw [SP.out]; omega, Y0.out, by rw [AC.out]; exact Y1.out, B1.out⟩
        case measure => simp [intOf]; omega
      · go_wp2_with fail
        have RN := hid (show BoxR w1.heap.size (ra + 1, rb, rc) (w1.alloc (.cells #[.int .i64 (ra + 1), .int .i64 rb, .int .i64 rc] 139)) from BoxR.new _ rfl)
        have BN := hid (show Below w.heap.size w (w1.alloc (.cells #[.int .i64 (ra + 1), .int .i64 rb, .int .i64 rc] 139)) from B1.out.alloc B1.out.size _)
        have N0 := hid (show BoxR w.heap.size (0, 0, 0) (w1.alloc (.cells #[.int .i64 (ra + 1), .int .i64 rb, .int .i64 rc] 139)).drew from Y0.out.alloc (.cells #[.int .i64 (ra + 1), .int .i64 rb, .int .i64 rc] 139))
        have N1 := hid (show BoxR (w.heap.size + 1) a (w1.alloc (.cells #[.int .i64 (ra + 1), .int .i64 rb, .int .i64 rc] 139)).drew from Y1.out.alloc (.cells #[.int .i64 (ra + 1), .int .i64 rb, .int .i64 rc] 139))
        have BND := hid (show Below w.heap.size w (w1.alloc (.cells #[.int .i64 (ra + 1), .int .i64 rb, .int .i64 rc] 139)).drew from BN.out.trans ⟨rfl, rfl, rfl, Nat.le_refl _, fun _ _ => rfl⟩)
        have RND := hid (show BoxR w1.heap.size (ra + 1, rb, rc) (w1.alloc (.cells #[.int .i64 (ra + 1), .int .i64 rb, .int .i64 rc] 139)).drew from RN.out)
        have hwr : IntKind.i64.wrap (rb + ct) = rb + ct := by rw [IntKind.wrap_i64]; omega
        have hw1w : w.heap.size + 1 < w1.heap.size := Y1.out.2.2.2.2.2.2
        apply wp_some (G := fun w' => BoxR w1.heap.size (ra + 1, rb + ct, rc) w' ∧ BoxR w.heap.size (0, 0, 0) w' ∧ BoxR (w.heap.size + 1) a w' ∧ Below w.heap.size w w')
        case h =>
          go_region_with (first | (go_at_call 138; refine (CO.out _ BND.out).mono ?_; rintro e w2 ⟨rfl, hb2⟩; have B2 := hid (show Below w.heap.size w w2 from BND.out.trans (hb2.mono BND.out.size)); have R2 := RND.out.on hb2 RND.out.2.2.2.2.2.2; have Z0 := hid (N0.out.on hb2 N0.out.2.2.2.2.2.2); have Z1 := hid (N1.out.on hb2 N1.out.2.2.2.2.2.2); have RR2 := hid R2; clear hb2; obtain ⟨y0, y1, y2, y3, y4, y5, -⟩ := R2; dsimp only at y0 y1 y2))
          all_goals exact ⟨rfl, RR2.out.set1, Z0.out.other (by omega), Z1.out.other (by omega), B2.out.setCell (by dsimp only; omega) _⟩
        rintro w3 ⟨R3, T0, T1, B3⟩
        have R3H := hid R3
        have T0H := hid T0
        have T1H := hid T1
        have B3H := hid B3
        have z3 := R3.2.2.2.2.2.2
        clear RN BN BND RND N0 N1 f0 f1 f2 T0 B3
        obtain ⟨y0, y1, y2, y3, y4, y5, -⟩ := R3
        obtain ⟨a0, a1, a2⟩ := a
        obtain ⟨v0, v1, v2, v3, v4, v5, v6⟩ := T1
        dsimp only at y0 y1 y2 v0 v1 v2
        rcases Nat.eq_zero_or_pos k with hk0 | hk0
        · have AC2 := hid (show Qm.accR l B (k + 1) = (ra + 1, rb + ct, (k : Int) + 1) by rw [AC.out, hk0]; rfl)
          have d1 : ((k : Int) + 1 == 1) = true := by simp; omega
          have d2 : ((k : Int) == 0) = true := by simp; omega
          have d3 : (k == 0) = true := by simp; omega
          clear hk0 AC
          go_wp2
          go_roundw
          case rel =>
            refine ⟨k + 1, by go_num, by rw [SP.out]; omega, ?_, ?_, ?_⟩
            · exact (((T0H.out.other (by omega)).other (by omega)).other (by omega)).other (by omega)
            · rw [AC2.out]; exact (((T1H.out.other (by omega)).set0).set1).set2
            · exact (((B3H.out.setCell (by dsimp only; omega) _).setCell (by dsimp only; omega) _).setCell (by dsimp only; omega) _).setCell (by dsimp only; omega) _
          case measure => simp [intOf]; omega
        · have d1 : ((k : Int) + 1 == 1) = false := by simp; omega
          have d2 : ((k : Int) == 0) = false := by simp; omega
          have d3 : (k == 0) = false := by simp; omega
          have d4 : ¬ (k : Int) + 1 = 1 := by omega
          have d5 : ¬ k = 0 := by omega
          have AC2 := hid (show Qm.accR l B (k + 1) = if Qm.betB (ra + 1, rb + ct, (k : Int) + 1) (a0, a1, a2) then (ra + 1, rb + ct, (k : Int) + 1) else (a0, a1, a2) by rw [AC.out, decide_eq_false d5]; rfl)
          clear AC
          go_wp2_with fail
          refine (IB.out _).mono ?_
          obtain ⟨bt, hbt⟩ : ∃ bt, Qm.betB (ra + 1, rb + ct, (k : Int) + 1) (a0, a1, a2) = bt := ⟨_, rfl⟩
          rw [hbt] at AC2
          simp only [hbt]
          rintro e w4 ⟨rfl, hb4⟩
          have zz : w1.heap.size < (w3.setCell ⟨w1.heap.size, 2, none⟩ (.int .i64 ((k : Int) + 1))).heap.size := by rw [World.size_setCell]; exact z3
          have R4 := (R3H.out.set2 (x := (k : Int) + 1)).on hb4 zz
          have U0 := hid ((T0H.out.other (C := w1.heap.size) (j := 2) (v := .int .i64 ((k : Int) + 1)) (by omega)).on hb4 (by omega))
          have U1 := (T1H.out.other (C := w1.heap.size) (j := 2) (v := .int .i64 ((k : Int) + 1)) (by omega)).on hb4 (by omega)
          have B4 := hid (show Below w.heap.size w w4 from (B3H.out.setCell (by dsimp only; omega) _).trans (hb4.mono (by omega)))
          have U1H := hid U1
          clear hb4 y0 y1 y2 y3 y4 y5 v0 v1 v2 v3 v4 v5 zz
          obtain ⟨y0, y1, y2, y3, y4, y5, y6⟩ := R4
          obtain ⟨v0, v1, v2, v3, v4, v5, v7⟩ := U1
          dsimp only at y0 y1 y2 v0 v1 v2
          cases bt
          · go_wp2
            go_roundw
            case rel => exact ⟨k + 1, by go_num, by rw [SP.out]; omega, U0.out, by rw [AC2.out]; exact U1H.out, B4.out⟩
            case measure => simp [intOf]; omega
          · go_wp2
            go_roundw
            case rel =>
              refine ⟨k + 1, by go_num, by rw [SP.out]; omega, ?_, ?_, ?_⟩
              · exact ((U0.out.other (by omega)).other (by omega)).other (by omega)
              · rw [AC2.out]; exact ((U1H.out.set0).set1).set2
              · exact ((B4.out.setCell (by dsimp only; omega) _).setCell (by dsimp only; omega) _).setCell (by dsimp only; omega) _
            case measure => simp [intOf]; omega
    · have hk2 : k = min 12 (min (n - 1) nb) := by omega
      have SK := hid (show Qm.spn n nb = k by rw [SP.out, hk2])
      have X0' := X0.out
      obtain ⟨a, ha⟩ : ∃ a, a = Qm.accR l B k := ⟨_, rfl⟩
      have HA := hid ha
      rw [← ha] at x1
      obtain ⟨a0, a1, a2⟩ := a
      obtain ⟨v0, v1, v2, v3, v4, v5, v6⟩ := x1
      obtain ⟨u0, u1, u2, u3, u4, u5, u6⟩ := X0'
      dsimp only at v0 v1 v2 u0 u1 u2
      clear hb X0 X1 ha
      by_cases c1 : (k : Int) + 1 ≤ 12
      · have d1 : decide ((k : Int) + 1 ≤ 12) = true := by simpa using c1
        by_cases c2 : (k : Int) + 1 < (n : Nat)
        · have d2 : decide ((k : Int) + 1 < (n : Nat)) = true := by simpa using c2
          have c3 : ¬ (k : Int) + 1 ≤ (nb : Nat) := by omega
          have d3 : decide ((k : Int) + 1 ≤ (nb : Nat)) = false := by simpa using c3
          clear hk2
          go_wp2
          refine bodyPost_ret (v := .agg #[.int .i64 a0, .int .i64 a1, .int .i64 a2]) (by simp [results, Tryz.results122, go_sem, World.cell?_setCell_other, World.cell?_setCell_same', *]) rfl ?_
          exact ⟨by rw [SK.out, ← HA.out]; rfl, ((HB.out.setCell (by dsimp only; omega) _).setCell (by dsimp only; omega) _).setCell (by dsimp only; omega) _⟩
        · have d2 : decide ((k : Int) + 1 < (n : Nat)) = false := by simpa using c2
          clear hk2
          go_wp2
          refine bodyPost_ret (v := .agg #[.int .i64 a0, .int .i64 a1, .int .i64 a2]) (by simp [results, Tryz.results122, go_sem, World.cell?_setCell_other, World.cell?_setCell_same', *]) rfl ?_
          exact ⟨by rw [SK.out, ← HA.out]; rfl, ((HB.out.setCell (by dsimp only; omega) _).setCell (by dsimp only; omega) _).setCell (by dsimp only; omega) _⟩
      · have d1 : decide ((k : Int) + 1 ≤ 12) = false := by simpa using c1
        clear hk2
        go_wp2
        refine bodyPost_ret (v := .agg #[.int .i64 a0, .int .i64 a1, .int .i64 a2]) (by simp [results, Tryz.results122, go_sem, World.cell?_setCell_other, World.cell?_setCell_same', *]) rfl ?_
        exact ⟨by rw [SK.out, ← HA.out]; rfl, ((HB.out.setCell (by dsimp only; omega) _).setCell (by dsimp only; omega) _).setCell (by dsimp only; omega) _⟩
end Go.Proofs.YtljfiefobnncaabGreatDoor

/- Package polygons: closed. -/
namespace Go.Proofs.YtljfiefobnncaabGreatDoor
open Go.RowKit

theorem take_snoc (l : List (Int × Int)) (k : Nat) (h : k < l.length) : l.take (k + 1) = l.take k ++ [l.getD k (0, 0)] := by
  rw [List.take_add_one, List.getD_eq_getElem?_getD, List.getElem?_eq_getElem h]; rfl

theorem two_cells (w : World) (a b : Int) (t : TypeId) : ∀ (j : Nat) (u : Value), [Value.int .i64 a, .int .i64 b][j]? = some u → (w.alloc (.cells #[.int .i64 a, .int .i64 b] t)).cell? ((⟨w.heap.size, 0, none⟩ : Addr).add j) = some u := by
  intro j u hj
  match j, hj with
  | 0, hj => simp at hj; subst hj; simp [Addr.add]
  | 1, hj => simp at hj; subst hj; simp [Addr.add]
theorem two_one (a b : Int) : ∀ u ∈ [Value.int .i64 a, .int .i64 b], u.oneCell' = true := by
  intro u hu; simp at hu; rcases hu with rfl | rfl <;> rfl

set_option maxRecDepth 4000 in
set_option maxHeartbeats 2000000 in
theorem closed_any (g n cap : Nat) (l : List (Int × Int)) (hn : n = l.length) (h0 : 0 < n) (hn2 : n ≤ 4356) (w : World) (hP : PtsAt g l w) :
    Calls Tryz.prog 99 #[.slice (some ⟨g, 0, none⟩) n cap] w fun e w' => ∃ v, e = .returned v ∧ w'.ownsRow w.heap.size 65 2 v (n + 1) (Qm.ptsV (l ++ [Qm.fstP l])) ∧ Below w.heap.size w w' := by
  obtain ⟨i0, hi, hz0, hz1, hz2⟩ := info_parts infoPoint
  have HP := hid hP
  have hg := hP.1
  have HN := hid hn
  clear hP hn
  go_enter Tryz.func99, Tryz.ntmps99
  go_wp2_with fail
  go_loopw [3, 4] (fun v iv wr => ∃ k : Nat, k ≤ n ∧ iv = .int .i64 k ∧ wr.ownsRow w.heap.size 65 2 v k (Qm.ptsV (l.take k)) ∧ Below w.heap.size w wr) (fun _ i _ => n - (intOf i).toNat)
  case atStart => exact ⟨0, by omega, rfl, World.ownsRow_nil _ _ _ _, Below.refl _ _⟩
  case round =>
    obtain ⟨k, hk, rfl, hown, hb⟩ := hrel
    have HB := hid hb
    have OW := hid hown
    have hz := hb.size
    by_cases hlt : k < n
    · obtain ⟨r0, r1⟩ := (HP.out.on hb hg).2 k (by have := HN.out; omega)
      have hlt' : (k : Int) < (n : Nat) := by omega
      have TS := hid (take_snoc l k (by have := HN.out; omega))
      obtain ⟨⟨pa, pb⟩, hpp⟩ : ∃ p, p = l.getD k (0, 0) := ⟨_, rfl⟩
      rw [← hpp] at r0 r1 TS
      dsimp only at r0 r1
      have n1 : k + 1 ≤ maxLen := by unfold maxLen; omega
      have n2 : (k + 1) * 16 ≤ 140737488355328 := by omega
      have n3 : w.heap.size ≤ (wr.alloc (.cells #[.int .i64 pa, .int .i64 pb] 65)).heap.size := by simp; omega
      clear hb hpp hown
      go_wp2_with (first
        | (at_builtin; refine wpList_append_own _ rfl _ _ 43 rfl w.heap.size 65 i0 (.agg #[.int .i64 0, .int .i64 0]) 2 16 Tryz.underlying43 hi hz0 hz1 hz2 rfl (by decide) _ _ _ rfl (OW.out.alloc _) ⟨_, 0, none⟩ 1 1 [.int .i64 pa, .int .i64 pb] rfl rfl (two_cells _ _ _ _) (two_one _ _) n1 n2 n3 ?_))
      intro v' w3 o3 g3 _
      have B3 := hid (show Below w.heap.size w w3 from (HB.out.alloc hz _).grown g3 n3 (fun q hq => (OW.out.lt q hq).1))
      have O3 := hid (show w3.ownsRow w.heap.size 65 2 v' (k + 1) (Qm.ptsV (l.take (k + 1))) by rw [TS.out, Qm.ptsV_snoc]; exact o3)
      clear o3 g3 r0 r1
      go_wp2
      go_roundw
      case rel => exact ⟨k + 1, by omega, by go_num, O3.out, B3.out⟩
      case measure => simp [intOf]; omega
    · have ek : k = n := by omega
      have hn0 : (0 : Int) < (n : Nat) := by omega
      have OW2 := hid (show wr.ownsRow w.heap.size 65 2 _ n (Qm.ptsV l) by rw [ek, show l.take n = l by rw [HN.out]; exact List.take_length] at hown; exact hown)
      obtain ⟨r0, r1⟩ := (HP.out.on hb hg).2 0 (by have := HN.out; omega)
      simp only [Nat.zero_mul, Nat.zero_add] at r0 r1
      have FS := hid (show Qm.fstP l = l.getD 0 (0, 0) from rfl)
      obtain ⟨⟨pa, pb⟩, hpp⟩ : ∃ p, p = l.getD 0 (0, 0) := ⟨_, rfl⟩
      rw [← hpp] at r0 r1 FS
      dsimp only at r0 r1
      have n1 : n + 1 ≤ maxLen := by unfold maxLen; omega
      have n2 : (n + 1) * 16 ≤ 140737488355328 := by omega
      have n3 : w.heap.size ≤ (wr.alloc (.cells #[.int .i64 pa, .int .i64 pb] 65)).heap.size := by simp; omega
      have hk' : ¬ (k : Int) < (n : Nat) := by omega
      clear hb hpp hown ek OW
      go_wp2_with (first
        | (at_builtin; refine wpList_append_own _ rfl _ _ 43 rfl w.heap.size 65 i0 (.agg #[.int .i64 0, .int .i64 0]) 2 16 Tryz.underlying43 hi hz0 hz1 hz2 rfl (by decide) _ _ _ rfl (OW2.out.alloc _) ⟨_, 0, none⟩ 1 1 [.int .i64 pa, .int .i64 pb] rfl rfl (two_cells _ _ _ _) (two_one _ _) n1 n2 n3 ?_))
      intro v' w3 o3 g3 _
      have B3 := hid (show Below w.heap.size w w3 from (HB.out.alloc hz _).grown g3 n3 (fun q hq => (OW2.out.lt q hq).1))
      have O3 := hid (show w3.ownsRow w.heap.size 65 2 v' (n + 1) (Qm.ptsV (l ++ [Qm.fstP l])) by rw [Qm.ptsV_snoc, FS.out]; exact o3)
      clear o3 g3 r0 r1
      go_wp2
      go_ret
      exact ⟨_, rfl, O3.out, B3.out⟩
end Go.Proofs.YtljfiefobnncaabGreatDoor

/- Package polygons: bestRows. -/
namespace Go.Proofs.YtljfiefobnncaabGreatDoor
open Go.RowKit

namespace Qm
theorem accR_in {l : List Pt} {B : List Rw} (hs : Small l) {M C : Int} (hM : 0 ≤ M) (hC : 0 ≤ C) (h : ∀ j, 0 ≤ (B.getD j (0, 0, 0)).1 ∧ (B.getD j (0, 0, 0)).1 ≤ M ∧ 0 ≤ (B.getD j (0, 0, 0)).2.1 ∧ (B.getD j (0, 0, 0)).2.1 ≤ C) : ∀ k, k ≤ 12 → 0 ≤ (accR l B k).1 ∧ (accR l B k).1 ≤ M + 1 ∧ 0 ≤ (accR l B k).2.1 ∧ (accR l B k).2.1 ≤ C + 28672
  | 0, _ => by simp only [accR]; omega
  | k + 1, hk => by
    have ih := accR_in hs hM hC h k (by omega)
    have hB := h (B.length - (k + 1))
    have c := costOf_in (hs.take (k + 2))
    have ln : ((l.take (k + 2)).length : Int) ≤ 14 := by rw [List.length_take]; omega
    simp only [accR]
    split
    · dsimp only; omega
    · exact ih
theorem rowsTo_in {v : List Pt} (hs : Small v) (m : Nat) : ∀ j, 0 ≤ ((rowsTo v m).getD j (0, 0, 0)).1 ∧ ((rowsTo v m).getD j (0, 0, 0)).1 ≤ m ∧ 0 ≤ ((rowsTo v m).getD j (0, 0, 0)).2.1 ∧ ((rowsTo v m).getD j (0, 0, 0)).2.1 ≤ 28672 * m := by
  induction m with
  | zero => intro j; simp [rowsTo]
  | succ m ih =>
    intro j
    have a := accR_in (hs.drop (v.length - 1 - m)) (by omega) (by omega) ih (spn (m + 1) m) (by unfold spn; omega)
    have ij := ih j
    simp only [rowsTo, List.getD_eq_getElem?_getD, List.getElem?_append, rowsTo_len] at ij ⊢
    split
    · omega
    · cases hjm : j - m with
      | zero => simp only [List.getElem?_cons_zero, Option.getD_some]; omega
      | succ q => simp; omega
end Qm

def rwL (r : Qm.Rw) : List Value := [.int .i64 r.1, .int .i64 r.2.1, .int .i64 r.2.2]
def rwsV (B : List Qm.Rw) : List Value := B.flatMap rwL
theorem rwsV_snoc (B : List Qm.Rw) (r : Qm.Rw) : rwsV (B ++ [r]) = rwsV B ++ rwL r := by simp [rwsV]
theorem rwsV_at (B : List Qm.Rw) : ∀ j, j < B.length → (rwsV B)[j * 3]? = some (.int .i64 (B.getD j (0, 0, 0)).1) ∧ (rwsV B)[j * 3 + 1]? = some (.int .i64 (B.getD j (0, 0, 0)).2.1) ∧ (rwsV B)[j * 3 + 2]? = some (.int .i64 (B.getD j (0, 0, 0)).2.2) := by
  induction B with
  | nil => intro j hj; simp at hj
  | cons p B ih =>
    intro j hj
    have e : rwsV (p :: B) = .int .i64 p.1 :: .int .i64 p.2.1 :: .int .i64 p.2.2 :: rwsV B := by simp [rwsV, rwL]
    cases j with
    | zero => rw [e]; simp
    | succ j =>
      have := ih j (by simpa using hj)
      rw [e, show (j + 1) * 3 = j * 3 + 1 + 1 + 1 from by omega, show j * 3 + 1 + 1 + 1 + 1 = (j * 3 + 1) + 1 + 1 + 1 from by omega, show j * 3 + 1 + 1 + 1 + 2 = (j * 3 + 2) + 1 + 1 + 1 from by omega]
      simpa using this
theorem own_rows {w : World} {b : Nat} {t : TypeId} {v : Value} {B : List Qm.Rw} {n : Nat} (h : w.ownsRow b t 3 v n (rwsV B)) : ∃ ao cap, v = .slice ao n cap ∧ (n = 0 ∨ ∃ gb, ao = some ⟨gb, 0, none⟩ ∧ RowsAt gb B w) := by
  rcases h.2 with ⟨rfl, h0⟩ | ⟨g, cap, cur, rfl, hb, hg, _, _, _, _⟩
  · subst h0; exact ⟨_, _, rfl, .inl rfl⟩
  · refine ⟨_, cap, rfl, .inr ⟨g, rfl, (Array.getElem?_eq_some_iff.1 hg).1, fun j hj => ?_⟩⟩
    have c := fun j u hu => h.cells (g := g) rfl j u hu
    have p := rwsV_at B j hj
    have a1 := c _ _ p.1
    have a2 := c _ _ p.2.1
    have a3 := c _ _ p.2.2
    rw [add_zero_at] at a1 a2 a3
    exact ⟨a1, a2, a3⟩
theorem three_cells (w : World) (a b c : Int) (t : TypeId) : ∀ (j : Nat) (u : Value), [Value.int .i64 a, .int .i64 b, .int .i64 c][j]? = some u → (w.alloc (.cells #[.int .i64 a, .int .i64 b, .int .i64 c] t)).cell? ((⟨w.heap.size, 0, none⟩ : Addr).add j) = some u := by
  intro j u hj
  match j, hj with
  | 0, hj => simp at hj; subst hj; simp [Addr.add]
  | 1, hj => simp at hj; subst hj; simp [Addr.add]
  | 2, hj => simp at hj; subst hj; simp [Addr.add]
theorem three_at (B : Nat) (w : World) (a b c : Int) (t : TypeId) (hB : B = w.heap.size) : ∀ (j : Nat) (u : Value), [Value.int .i64 a, .int .i64 b, .int .i64 c][j]? = some u → (w.alloc (.cells #[.int .i64 a, .int .i64 b, .int .i64 c] t)).cell? ((⟨B, 0, none⟩ : Addr).add j) = some u := by
  subst hB; exact three_cells w a b c t
theorem three_one (a b c : Int) : ∀ u ∈ [Value.int .i64 a, .int .i64 b, .int .i64 c], u.oneCell' = true := by
  intro u hu; simp at hu; rcases hu with rfl | rfl | rfl <;> rfl
theorem own_cap' {w : World} {b : Nat} {t : TypeId} {z : Nat} {v : Value} {n : Nat} {xs : List Value} (h : w.ownsRow b t z v n xs) : ∃ ao cap, v = .slice ao n cap ∧ n ≤ cap := by
  rcases h.2 with ⟨rfl, rfl⟩ | ⟨g, cap, cur, rfl, _, _, h1, _⟩
  · exact ⟨_, _, rfl, Nat.le_refl _⟩
  · exact ⟨_, _, rfl, h1⟩
theorem infoRow : (Tryz.prog.info? 139).map (fun i => (i.zero, i.size, i.bytes)) = some (some (.agg #[.int .i64 0, .int .i64 0, .int .i64 0]), 3, 24) := by kernel_rfl

set_option maxRecDepth 4000 in
set_option maxHeartbeats 2000000 in
theorem bestRows_any (g N cap : Nat) (v : List (Int × Int)) (hn : N = v.length) (h0 : 0 < N) (hcap : N ≤ cap) (hs : Qm.Small v) (hn2 : N ≤ 4357) (w : World) (hP : PtsAt g v w) :
    Calls Tryz.prog 100 #[.slice (some ⟨g, 0, none⟩) N cap] w fun e w' => ∃ vr, e = .returned vr ∧ w'.ownsRow w.heap.size 139 3 vr N (rwsV (Qm.rowsTo v N)) ∧ Below w.heap.size w w' := by
  obtain ⟨i0, hi, hz0, hz1, hz2⟩ := info_parts infoRow
  have HP := hid hP
  have hg := hP.1
  have HN := hid hn
  have HS := hid hs
  clear hP hn hs
  go_enter Tryz.func100, Tryz.ntmps100
  go_wp2_with fail
  go_loopw [3, 4] (fun vr iv wr => ∃ m : Nat, m ≤ N ∧ iv = .int .i64 ((N : Int) - 1 - (m : Nat)) ∧ wr.ownsRow w.heap.size 139 3 vr m (rwsV (Qm.rowsTo v m)) ∧ Below w.heap.size w wr) (fun _ i _ => (intOf i + 1).toNat)
  case atStart => exact ⟨0, by omega, by go_num, World.ownsRow_nil _ _ _ _, Below.refl _ _⟩
  case round =>
    obtain ⟨m, hm, rfl, hown, hb⟩ := hrel
    have HB := hid hb
    have OW := hid hown
    have hz := hb.size
    by_cases hlt : m < N
    · obtain ⟨q, hq⟩ : ∃ q, q = N - 1 - m := ⟨_, rfl⟩
      have e1 : (N : Int) - 1 - (m : Nat) = (q : Nat) := by omega
      have e2 : (0 : Int) ≤ (q : Nat) := by omega
      have e3 : (q : Int) ≤ (N : Nat) := by omega
      have e4 : q ≤ cap := by omega
      have e5 : q ≤ N := by omega
      have e6 : N - q = m + 1 := by omega
      obtain ⟨ao, capb, rfl, hrow⟩ := own_rows hown
      have BRH := hid (show ∀ W', Below w.heap.size w W' → (m = 0 ∨ ∃ gb, ao = some ⟨gb, 0, none⟩ ∧ RowsAt gb (Qm.rowsTo v m) W') → Calls Tryz.prog 122 #[.slice (some ⟨g, q * 2, none⟩) (m + 1) (cap - q), .slice ao m capb] W' fun e w' => e = .returned (rwV (Qm.accR (v.drop q) (Qm.rowsTo v m) (Qm.spn (m + 1) m))) ∧ Below W'.heap.size W' w' from fun W' h hr => by
        have p := ((HP.out.o).on h hg).drop q
        rw [Nat.zero_add] at p
        exact bestRow_any g (q * 2) (m + 1) (cap - q) (v.drop q) (by rw [List.length_drop, ← HN.out]; omega) (by omega) (by omega) (HS.out.drop q) (by omega) ao m capb (Qm.rowsTo v m) (Qm.rowsTo_len v m).symm (by omega) W' p hr (fun j => by have := Qm.rowsTo_in HS.out m j; omega))
      have RT := hid (show Qm.rowsTo v (m + 1) = Qm.rowsTo v m ++ [Qm.accR (v.drop q) (Qm.rowsTo v m) (Qm.spn (m + 1) m)] by rw [hq, HN.out]; rfl)
      obtain ⟨⟨ra, rb, rc⟩, hrr⟩ : ∃ r, r = Qm.accR (v.drop q) (Qm.rowsTo v m) (Qm.spn (m + 1) m) := ⟨_, rfl⟩
      rw [← hrr] at BRH RT
      have HRW := hid hrow
      have HQ := hid hq
      unfold rwV at BRH
      dsimp only at BRH
      clear hb hown hrr hrow hq
      rw [e1]
      go_wp2_with fail
      refine (BRH.out _ HB.out HRW.out).mono ?_
      rintro e w1 ⟨rfl, hb1⟩
      have B1 := hid (show Below w.heap.size w w1 from HB.out.trans (hb1.mono hz))
      have O1 := hid (own_below OW.out hb1)
      have z1 := B1.out.size
      clear hb1
      have n1 : m + 1 ≤ maxLen := by unfold maxLen; omega
      have n2 : (m + 1) * 24 ≤ 140737488355328 := by omega
      have n3 : w.heap.size ≤ ((w1.alloc (.cells #[.int .i64 ra, .int .i64 rb, .int .i64 rc] 139)).alloc (.cells #[.int .i64 ra, .int .i64 rb, .int .i64 rc] 139)).heap.size := by simp; omega
      go_wp2_with (first
        | (at_builtin; refine wpList_append_own _ rfl _ _ 136 rfl w.heap.size 139 i0 (.agg #[.int .i64 0, .int .i64 0, .int .i64 0]) 3 24 Tryz.underlying136 hi hz0 hz1 hz2 rfl (by decide) _ _ _ rfl ((O1.out.alloc _).alloc _) ⟨_, 0, none⟩ 1 1 [.int .i64 ra, .int .i64 rb, .int .i64 rc] rfl rfl (three_at _ _ _ _ _ _ (by simp)) (three_one _ _ _) n1 n2 n3 ?_))
      intro v' w3 o3 g3 _
      have B3 := hid (show Below w.heap.size w w3 from ((B1.out.alloc z1 _).alloc (by simp; omega) _).grown g3 n3 (fun q hq => (O1.out.lt q hq).1))
      have O3 := hid (show w3.ownsRow w.heap.size 139 3 v' (m + 1) (rwsV (Qm.rowsTo v (m + 1))) by rw [RT.out, rwsV_snoc]; exact o3)
      clear o3 g3
      go_wp2
      go_roundw
      case rel => exact ⟨m + 1, by omega, by have := HQ.out; go_num, O3.out, B3.out⟩
      case measure => simp [intOf]
    · have em : m = N := by omega
      have e1 : (N : Int) - 1 - (m : Nat) = -1 := by omega
      subst em
      rw [e1]
      go_wp2
      go_ret
      exact ⟨_, rfl, OW.out, HB.out⟩
end Go.Proofs.YtljfiefobnncaabGreatDoor

/- Package polygons: corners. -/
namespace Go.Proofs.YtljfiefobnncaabGreatDoor
open Go.RowKit

namespace Qm
theorem accR_span (l : List Pt) (B : List Rw) : ∀ k, 0 ≤ (accR l B k).2.2 ∧ (accR l B k).2.2 ≤ k
  | 0 => by simp [accR]
  | k + 1 => by
    have ih := accR_span l B k
    simp only [accR]
    split
    · dsimp only; omega
    · omega
theorem rowsTo_span (v : List Pt) (m : Nat) : ∀ j, 0 ≤ ((rowsTo v m).getD j (0, 0, 0)).2.2 ∧ ((rowsTo v m).getD j (0, 0, 0)).2.2 ≤ 12 := by
  induction m with
  | zero => intro j; simp [rowsTo]
  | succ m ih =>
    intro j
    have a := accR_span (v.drop (v.length - 1 - m)) (rowsTo v m) (spn (m + 1) m)
    have b : spn (m + 1) m ≤ 12 := by unfold spn; omega
    have ij := ih j
    simp only [rowsTo, List.getD_eq_getElem?_getD, List.getElem?_append, rowsTo_len] at ij ⊢
    split
    · omega
    · cases hjm : j - m with
      | zero => simp only [List.getElem?_cons_zero, Option.getD_some]; omega
      | succ q => simp
theorem cornTo_in {B : List Rw} (h : ∀ j, 0 ≤ (B.getD j (0, 0, 0)).2.2 ∧ (B.getD j (0, 0, 0)).2.2 ≤ 12) : ∀ k, 0 ≤ (cornTo B k).2 ∧ (cornTo B k).2 ≤ k + 12 ∧ (cornTo B k).1.length ≤ k
  | 0 => by simp [cornTo]
  | k + 1 => by
    have ih := cornTo_in h k
    have s := h (B.length - 1 - k)
    simp only [cornTo]
    split
    · simp only [List.length_append, List.length_singleton]; omega
    · omega
end Qm

def cpts (c : List (Int × Int)) (I : List Nat) : List (Int × Int) := I.map fun i => c.getD i (0, 0)
theorem cpts_snoc (c : List (Int × Int)) (I : List Nat) (k : Nat) : cpts c (I ++ [k]) = cpts c I ++ [c.getD k (0, 0)] := by simp [cpts]

set_option maxRecDepth 4000 in
set_option maxHeartbeats 2000000 in
theorem corners_any (g n cap : Nat) (c : List (Int × Int)) (hn : n = c.length) (h0 : 0 < n) (hs : Qm.Small c) (hn2 : n ≤ 4356) (w : World) (hP : PtsAt g c w) :
    Calls Tryz.prog 76 #[.slice (some ⟨g, 0, none⟩) n cap] w fun e w' => ∃ v, e = .returned v ∧ w'.ownsRow w.heap.size 65 2 v (Qm.cornL c).length (Qm.ptsV (Qm.cornL c)) ∧ Below w.heap.size w w' := by
  obtain ⟨i0, hi, hz0, hz1, hz2⟩ := info_parts infoPoint
  have HP := hid hP
  have hg := hP.1
  have HN := hid hn
  have HS := hid hs
  have HV := hid (show Qm.Small (c ++ [Qm.fstP c]) from fun p hp => by
    rcases List.mem_append.1 hp with hp | hp
    · exact hs p hp
    · rw [List.mem_singleton.1 hp]; exact hs.at 0)
  have VL := hid (show n + 1 = (c ++ [Qm.fstP c]).length by simp [hn])
  clear hP hn hs
  go_enter Tryz.func76, Tryz.ntmps76
  go_wp2_with fail
  refine (closed_any g n cap c HN.out h0 hn2 _ HP.out).mono ?_
  rintro e w1 ⟨v1, rfl, o1, hb1⟩
  have B1 := hid (show Below w.heap.size w w1 from hb1)
  obtain ⟨g1, cap1, rfl, hg1, hp1, -⟩ := own_at o1 (by omega)
  obtain ⟨ao', cap', e', hc'⟩ := own_cap' o1
  have hc1 : n + 1 ≤ cap1 := by injection e' with _ _ e3; omega
  have HP1 := hid hp1
  clear o1 hb1 hp1 e' hc'
  go_wp2_with fail
  refine (bestRows_any g1 (n + 1) cap1 (c ++ [Qm.fstP c]) VL.out (by omega) hc1 HV.out (by omega) _ HP1.out).mono ?_
  rintro e w2 ⟨v2, rfl, o2, hb2⟩
  have B2 := hid (show Below w.heap.size w w2 from B1.out.trans (hb2.mono B1.out.size))
  obtain ⟨ao2, cap2, rfl, hr2⟩ := own_rows o2
  obtain ⟨gb, hgb⟩ := hr2.resolve_left (by omega)
  obtain ⟨rfl, hrows⟩ := hgb
  have HR := hid hrows
  have hgb2 := hrows.1
  have HP2 := hid (HP.out.on B2.out hg)
  have hg2 : g < w2.heap.size := Nat.lt_of_lt_of_le hg B2.out.size
  obtain ⟨B, hB⟩ : ∃ B, B = Qm.rowsTo (c ++ [Qm.fstP c]) (n + 1) := ⟨_, rfl⟩
  have BL := hid (show B.length = n + 1 by rw [hB, Qm.rowsTo_len])
  have CI := hid (show ∀ k, 0 ≤ (Qm.cornTo B k).2 ∧ (Qm.cornTo B k).2 ≤ k + 12 ∧ (Qm.cornTo B k).1.length ≤ k from fun k => Qm.cornTo_in (by rw [hB]; exact Qm.rowsTo_span _ _) k)
  have SB := hid (show ∀ j, 0 ≤ (B.getD j (0, 0, 0)).2.2 ∧ (B.getD j (0, 0, 0)).2.2 ≤ 12 by rw [hB]; exact Qm.rowsTo_span _ _)
  have CL := hid (show Qm.cornL c = cpts c (Qm.cornTo B n).1 by rw [hB, HN.out]; rfl)
  rw [← hB] at HR
  clear o2 hb2 hr2 hrows hB
  go_wp2_with fail
  go_loopw [5, 6, 7] (fun lv nv iv wr => ∃ k : Nat, k ≤ n ∧ iv = .int .i64 k ∧ nv = .int .i64 (Qm.cornTo B k).2 ∧ wr.ownsRow w2.heap.size 65 2 lv (Qm.cornTo B k).1.length (Qm.ptsV (cpts c (Qm.cornTo B k).1)) ∧ Below w2.heap.size w2 wr) (fun _ _ i _ => n - (intOf i).toNat)
  case atStart => exact ⟨0, by omega, rfl, rfl, World.ownsRow_nil _ _ _ _, Below.refl _ _⟩
  case round =>
    obtain ⟨k, hk, rfl, rfl, hown, hb⟩ := hrel
    have HB := hid hb
    have OW := hid hown
    have hz := hb.size
    have ci := CI.out k
    by_cases hlt : k < n
    · obtain ⟨r0, r1⟩ := (HP2.out.on hb hg2).2 k (by have := HN.out; omega)
      obtain ⟨s0, s1, s2⟩ := (HR.out.on hb hgb2).2 (n - k) (by have := BL.out; omega)
      have sb := SB.out (n - k)
      have hlt' : (k : Int) < (n : Nat) := by omega
      have hlt2 : (k : Int) < (n : Int) + 1 := by omega
      have CT := hid (show Qm.cornTo B (k + 1) = if (k : Int) = (Qm.cornTo B k).2 then ((Qm.cornTo B k).1 ++ [k], (k : Int) + (B.getD (n - k) (0, 0, 0)).2.2) else Qm.cornTo B k by
        have : B.length - 1 - k = n - k := by have := BL.out; omega
        rw [← this]; rfl)
      obtain ⟨sp, hsp⟩ : ∃ sp, sp = (B.getD (n - k) (0, 0, 0)).2.2 := ⟨_, rfl⟩
      rw [← hsp] at s2 sb CT
      obtain ⟨I, nx, hct⟩ : ∃ I nx, Qm.cornTo B k = (I, nx) := ⟨_, _, rfl⟩
      rw [hct] at ci CT OW ⊢
      dsimp only at ci CT OW ⊢
      obtain ⟨q, hq⟩ : ∃ q, q = n - k := ⟨_, rfl⟩
      rw [← hq] at s0 s1 s2
      have q1 : (n : Int) + 1 - 1 - (k : Nat) = (q : Nat) := by omega
      have q1' : (n : Int) - (k : Nat) = (q : Nat) := by omega
      have q2 : (0 : Int) ≤ (q : Nat) := by omega
      have q3 : (q : Int) < (n : Int) + 1 := by omega
      have q4 : q < n + 1 := by omega
      have q5 : IntKind.i64.wrap ((q : Nat) : Int) = (q : Nat) := by rw [IntKind.wrap_i64]; omega
      obtain ⟨⟨pa, pb⟩, hpp⟩ : ∃ p, p = c.getD k (0, 0) := ⟨_, rfl⟩
      have CP := hid (cpts_snoc c I k)
      rw [← hpp] at r0 r1 CP
      dsimp only at r0 r1
      have hgr : g < wr.heap.size := by omega
      have hgbr : gb < wr.heap.size := by omega
      have n1 : I.length + 1 ≤ maxLen := by unfold maxLen; omega
      have n2 : (I.length + 1) * 16 ≤ 140737488355328 := by omega
      have n3 : w2.heap.size ≤ (wr.alloc (.cells #[.int .i64 pa, .int .i64 pb] 65)).heap.size := by simp; omega
      have HQ := hid hq
      have HSP := hid hsp
      clear hb hpp hown hct hq hsp
      by_cases he : (k : Int) = nx
      · rw [if_pos he] at CT
        have de : ((k : Int) == nx) = true := by simpa using he
        have HE := hid he
        clear he
        go_wp2_with (first
          | (at_builtin; refine wpList_append_own _ rfl _ _ 43 rfl w2.heap.size 65 i0 (.agg #[.int .i64 0, .int .i64 0]) 2 16 Tryz.underlying43 hi hz0 hz1 hz2 rfl (by decide) _ _ _ rfl (OW.out.alloc _) ⟨_, 0, none⟩ 1 1 [.int .i64 pa, .int .i64 pb] rfl rfl (two_cells _ _ _ _) (two_one _ _) n1 n2 n3 ?_))
        intro v' w3 o3 g3 _
        have b3 : Below w2.heap.size w2 w3 := (HB.out.alloc hz _).grown g3 n3 (fun q hq => (OW.out.lt q hq).1)
        have B3 := hid b3
        obtain ⟨t0, t1, t2⟩ := (HR.out.on b3 hgb2).2 q (by have := BL.out; omega)
        rw [HQ.out, ← HSP.out] at t2
        rw [← HQ.out] at t2
        have O3 := hid (show w3.ownsRow w2.heap.size 65 2 v' (I ++ [k]).length (Qm.ptsV (cpts c (I ++ [k]))) by rw [CP.out, Qm.ptsV_snoc, List.length_append]; exact o3)
        clear o3 g3 b3 r0 r1 s0 s1 s2
        go_wp2
        go_roundw
        case rel => exact ⟨k + 1, by omega, by go_num, by rw [CT.out], by rw [CT.out]; exact O3.out, B3.out⟩
        case measure => simp [intOf]; omega
      · rw [if_neg he] at CT
        have de : ((k : Int) == nx) = false := by simpa using he
        go_wp2
        go_roundw
        case rel => exact ⟨k + 1, by omega, by go_num, by rw [CT.out], by rw [CT.out]; exact OW.out, HB.out⟩
        case measure => simp [intOf]; omega
    · have ek : k = n := by omega
      subst ek
      have hlt' : ¬ (k : Int) < (k : Nat) := by omega
      have OL := hid (show wr.ownsRow w2.heap.size 65 2 _ (Qm.cornL c).length (Qm.ptsV (Qm.cornL c)) by rw [CL.out]; simp only [cpts, List.length_map]; exact hown)
      clear hown OW
      go_wp2
      go_ret
      exact ⟨_, rfl, OL.out.mono B2.out.size, B2.out.trans (HB.out.mono B2.out.size)⟩
end Go.Proofs.YtljfiefobnncaabGreatDoor
