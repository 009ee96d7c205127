/- Package polygons: bestRow. -/
import Derived.Test.YtljfiefobnncaabK14
import Derived.Deep.RegionWith
namespace Go.Proofs.Ytljfiefobnncaab
open Go.RowKit
attribute [local go_sem ↓] Go.wp_at_zero Go.wp_at_succ

/-- A row of lines in a box. -/
def BoxR (b : Nat) (r : Qm.Rw) (w : World) : Prop := w.cell? ⟨b, 0, none⟩ = some (.int .i64 r.1) ∧ w.cell? ⟨b, 1, none⟩ = some (.int .i64 r.2.1) ∧ w.cell? ⟨b, 2, none⟩ = some (.int .i64 r.2.2) ∧ w.frozen? ⟨b, 0, none⟩ = false ∧ w.frozen? ⟨b, 1, none⟩ = false ∧ w.frozen? ⟨b, 2, none⟩ = false ∧ b < w.heap.size
theorem BoxR.on {B B' : Nat} {p : Qm.Rw} {w w' : World} (h : BoxR B p w) (hb : Below B' w w') (hB : B < B') : BoxR B p w' :=
  ⟨(hb.cell (p := ⟨B, 0, none⟩) hB).trans h.1, (hb.cell (p := ⟨B, 1, none⟩) hB).trans h.2.1, (hb.cell (p := ⟨B, 2, none⟩) hB).trans h.2.2.1, (hb.frozen (p := ⟨B, 0, none⟩) hB).trans h.2.2.2.1, (hb.frozen (p := ⟨B, 1, none⟩) hB).trans h.2.2.2.2.1, (hb.frozen (p := ⟨B, 2, none⟩) hB).trans h.2.2.2.2.2.1, Nat.lt_of_lt_of_le h.2.2.2.2.2.2 hb.size⟩
theorem BoxR.new {B : Nat} {a b c : Int} {w : World} (t : TypeId) (hB : B = w.heap.size) : BoxR B (a, b, c) (w.alloc (.cells #[.int .i64 a, .int .i64 b, .int .i64 c] t)) := by
  subst hB; exact ⟨by simp, by simp, by simp, by simp, by simp, by simp, by simp⟩
theorem BoxR.other {B C j : Nat} {p : Qm.Rw} {v : Value} {w : World} (h : BoxR B p w) (hne : B ≠ C) : BoxR B p (w.setCell ⟨C, j, none⟩ v) := by
  have o : ∀ i, (w.setCell ⟨C, j, none⟩ v).cell? ⟨B, i, none⟩ = w.cell? ⟨B, i, none⟩ := fun i => World.cell?_setCell_other _ _ _ _ (by intro e; injection e with e _ _; exact hne e.symm)
  exact ⟨(o 0).trans h.1, (o 1).trans h.2.1, (o 2).trans h.2.2.1, by simpa using h.2.2.2.1, by simpa using h.2.2.2.2.1, by simpa using h.2.2.2.2.2.1, by rw [World.size_setCell]; exact h.2.2.2.2.2.2⟩
theorem BoxR.set0 {B : Nat} {a b c x : Int} {w : World} (h : BoxR B (a, b, c) w) : BoxR B (x, b, c) (w.setCell ⟨B, 0, none⟩ (.int .i64 x)) :=
  ⟨World.cell?_setCell_same _ _ _ h.1, (World.cell?_setCell_other _ _ _ _ (by simp)).trans h.2.1, (World.cell?_setCell_other _ _ _ _ (by simp)).trans h.2.2.1, by simpa using h.2.2.2.1, by simpa using h.2.2.2.2.1, by simpa using h.2.2.2.2.2.1, by rw [World.size_setCell]; exact h.2.2.2.2.2.2⟩
theorem BoxR.set1 {B : Nat} {a b c x : Int} {w : World} (h : BoxR B (a, b, c) w) : BoxR B (a, x, c) (w.setCell ⟨B, 1, none⟩ (.int .i64 x)) :=
  ⟨(World.cell?_setCell_other _ _ _ _ (by simp)).trans h.1, World.cell?_setCell_same _ _ _ h.2.1, (World.cell?_setCell_other _ _ _ _ (by simp)).trans h.2.2.1, by simpa using h.2.2.2.1, by simpa using h.2.2.2.2.1, by simpa using h.2.2.2.2.2.1, by rw [World.size_setCell]; exact h.2.2.2.2.2.2⟩
theorem BoxR.set2 {B : Nat} {a b c x : Int} {w : World} (h : BoxR B (a, b, c) w) : BoxR B (a, b, x) (w.setCell ⟨B, 2, none⟩ (.int .i64 x)) :=
  ⟨(World.cell?_setCell_other _ _ _ _ (by simp)).trans h.1, (World.cell?_setCell_other _ _ _ _ (by simp)).trans h.2.1, World.cell?_setCell_same _ _ _ h.2.2.1, by simpa using h.2.2.2.1, by simpa using h.2.2.2.2.1, by simpa using h.2.2.2.2.2.1, by rw [World.size_setCell]; exact h.2.2.2.2.2.2⟩
theorem BoxR.alloc {B : Nat} {p : Qm.Rw} {w : World} (h : BoxR B p w) (o : Obj) : BoxR B p (w.alloc o) := h.on ((Below.refl _ _).alloc (Nat.le_refl _) _) h.2.2.2.2.2.2
/-- Rows of lines, in a list. -/
def RowsAt (g : Nat) (B : List Qm.Rw) (w : World) : Prop := g < w.heap.size ∧ ∀ j, j < B.length → w.cell? ⟨g, j * 3, none⟩ = some (.int .i64 (B.getD j (0, 0, 0)).1) ∧ w.cell? ⟨g, j * 3 + 1, none⟩ = some (.int .i64 (B.getD j (0, 0, 0)).2.1) ∧ w.cell? ⟨g, j * 3 + 2, none⟩ = some (.int .i64 (B.getD j (0, 0, 0)).2.2)
theorem RowsAt.on {g : Nat} {l : List Qm.Rw} {w w' : World} {B : Nat} (h : RowsAt g l w) (hb : Below B w w') (hg : g < B) : RowsAt g l w' :=
  ⟨Nat.lt_of_lt_of_le h.1 hb.size, fun j hj => ⟨(hb.cell (p := ⟨g, j * 3, none⟩) hg).trans (h.2 j hj).1, (hb.cell (p := ⟨g, j * 3 + 1, none⟩) hg).trans (h.2 j hj).2.1, (hb.cell (p := ⟨g, j * 3 + 2, none⟩) hg).trans (h.2 j hj).2.2⟩⟩
def RwsIn (B : List Qm.Rw) : Prop := ∀ j, 0 ≤ (B.getD j (0, 0, 0)).1 ∧ (B.getD j (0, 0, 0)).1 ≤ 10000 ∧ 0 ≤ (B.getD j (0, 0, 0)).2.1 ∧ (B.getD j (0, 0, 0)).2.1 ≤ 1000000000

/-- A post that only a way to the end meets. -/
def OnlyN (R : Act → World → Prop) : Exit → Act → World → Prop
  | .normal, a, w => R a w
  | _, _, _ => False
/-- All ways through a piece of code end in one frame, in worlds of which G holds. -/
theorem wp_some {P : Program} {c : Code} {Q : Exit → Act → World → Prop} {a : Act} {w : World} {G : World → Prop} (A : Act) (h : c.wp P (OnlyN fun a' w' => a' = A ∧ G w') a w) (k : ∀ w', G w' → Q .normal A w') : c.wp P Q a w :=
  Code.wp_mono (fun e a' w' h => by
    cases e with
    | normal => obtain ⟨rfl, h3⟩ := h; exact k _ h3
    | _ => exact h.elim) h

set_option maxRecDepth 4000 in
set_option maxHeartbeats 2000000 in
theorem bestRow_any (g o n cap : Nat) (l : List (Int × Int)) (hn : n = l.length) (h0 : 0 < n) (hcap : n ≤ cap) (hs : Qm.Small l) (hn2 : n ≤ 4357) (ao : Option Addr) (nb capb : Nat) (B : List Qm.Rw) (hnb : nb = B.length) (hnb2 : nb ≤ 4357) (w : World) (hP : PtsO g o l w) (hB : nb = 0 ∨ ∃ gb, ao = some ⟨gb, 0, none⟩ ∧ RowsAt gb B w) (hin : RwsIn B) :
    Calls Try.prog 34 #[.slice (some ⟨g, o, none⟩) n cap, .slice ao nb capb] w fun e w' => e = .returned (rwV (Qm.accR l B (Qm.spn n nb))) ∧ Below w.heap.size w w' := by
  have HP := hid hP
  have hg := hP.1
  have HN := hid hn
  have HNB := hid hnb
  have HB0 := hid hB
  have HIN := hid hin
  have HS := hid hs
  have SP := hid (show Qm.spn n nb = min 12 (min (n - 1) nb) from rfl)
  clear hP hn hnb hB hin hs
  go_enter Try.func34, Try.ntmps34
  go_wp2_with fail
  go_loopw [6] (fun sv wr => ∃ k : Nat, sv = .int .i64 ((k : Int) + 1) ∧ k ≤ Qm.spn n nb ∧ BoxR w.heap.size (0, 0, 0) wr ∧ BoxR (w.heap.size + 1) (Qm.accR l B k) wr ∧ Below w.heap.size w wr) (fun s _ => 14 - (intOf s).toNat)
  case atStart => exact ⟨0, rfl, by omega, (BoxR.new _ rfl).alloc _, BoxR.new _ (by simp), by go_grown⟩
  case round =>
    obtain ⟨k, rfl, hk, x0, x1, hb⟩ := hrel
    rw [SP.out] at hk
    have HB := hid hb
    have X0 := hid x0
    have X1 := hid x1
    clear x0
    by_cases hlt : k < min 12 (min (n - 1) nb)
    · have c1 : (k : Int) + 1 ≤ 12 := by omega
      have c2 : (k : Int) + 1 < (n : Nat) := by omega
      have c3 : (k : Int) + 1 ≤ (nb : Nat) := by omega
      have c4 : (k : Int) + 1 + 1 = ((k + 2 : Nat) : Int) := by omega
      have c5 : ((k + 2 : Nat) : Int) ≤ (cap : Nat) := by omega
      have c6 : k + 2 ≤ cap := by omega
      have c7 : ((k + 2 : Nat) : Int).toNat = k + 2 := by omega
      have PT := hid (fun W' (h : Below w.heap.size w W') => (HP.out.on h hg).take (k + 2))
      have lt : (l.take (k + 2)).length = k + 2 := by rw [List.length_take, ← HN.out]; omega
      have sm := HS.out.take (k + 2)
      have FI := hid (fun W' (h : Below w.heap.size w W') => fits_any g o (k + 2) cap (l.take (k + 2)) lt.symm (by omega) sm (by omega) W' (PT.out W' h))
      have CO := hid (fun W' (h : Below w.heap.size w W') => cost_any g o (k + 2) cap (l.take (k + 2)) lt.symm (by omega) sm (by omega) W' (PT.out W' h))
      have ci := Qm.costOf_in sm
      rw [lt] at ci
      have AC := hid (show Qm.accR l B (k + 1) = if Qm.fitB (l.take (k + 2)) && (decide (k = 0) || Qm.betB ((B.getD (nb - (k + 1)) (0, 0, 0)).1 + 1, (B.getD (nb - (k + 1)) (0, 0, 0)).2.1 + Qm.costOf (l.take (k + 2)), (k : Int) + 1) (Qm.accR l B k)) then ((B.getD (nb - (k + 1)) (0, 0, 0)).1 + 1, (B.getD (nb - (k + 1)) (0, 0, 0)).2.1 + Qm.costOf (l.take (k + 2)), (k : Int) + 1) else Qm.accR l B k by rw [HNB.out]; rfl)
      obtain ⟨gb, hgb⟩ := HB0.out.resolve_left (by omega)
      obtain ⟨rfl, hrows⟩ := hgb
      obtain ⟨e0, e1, e2⟩ := (hrows.on hb hrows.1).2 (nb - (k + 1)) (by have := HNB.out; omega)
      have iq := HIN.out (nb - (k + 1))
      obtain ⟨q, hq⟩ : ∃ q, q = nb - (k + 1) := ⟨_, rfl⟩
      rw [← hq] at e0 e1 e2 AC iq
      have q1 : (nb : Int) - ((k : Int) + 1) = (q : Nat) := by omega
      have q2 : (q : Int) < (nb : Nat) := by omega
      have q3 : IntKind.i64.wrap ((q : Nat) : Int) = (q : Nat) := by rw [IntKind.wrap_i64]; omega
      obtain ⟨⟨ra, rb, rc⟩, hrr⟩ : ∃ r, r = B.getD q (0, 0, 0) := ⟨_, rfl⟩
      rw [← hrr] at e0 e1 e2 AC iq
      dsimp only at e0 e1 e2 AC iq
      obtain ⟨ct, hct⟩ : ∃ ct, Qm.costOf (l.take (k + 2)) = ct := ⟨_, rfl⟩
      rw [hct] at CO AC ci
      obtain ⟨ft, hft⟩ : ∃ ft, Qm.fitB (l.take (k + 2)) = ft := ⟨_, rfl⟩
      rw [hft] at FI AC
      obtain ⟨a, ha⟩ : ∃ a, a = Qm.accR l B k := ⟨_, rfl⟩
      rw [← ha] at AC X1 x1
      have IB := hid (fun W' => isBetter_any (ra + 1, rb + ct, (k : Int) + 1) a W')
      have hgw := hrows.1
      have hz := hb.size
      have gb1 : gb < wr.heap.size := by omega
      have HR := hid hrows
      have HQ := hid hq
      clear hb hrr hct hft ha hrows PT sm lt x1 hq
      go_wp2_with fail
      refine (FI.out _ HB.out).mono ?_
      rintro e w1 ⟨rfl, hb1⟩
      have B1 := hid (show Below w.heap.size w w1 from HB.out.trans (hb1.mono HB.out.size))
      have Y0 := hid (X0.out.on hb1 X0.out.2.2.2.2.2.2)
      have Y1 := hid (X1.out.on hb1 X1.out.2.2.2.2.2.2)
      have f0 := ((bcell hb1).1 gb (q * 3) gb1).trans e0
      have f1 := ((bcell hb1).1 gb (q * 3 + 1) gb1).trans e1
      have f2 := ((bcell hb1).1 gb (q * 3 + 2) gb1).trans e2
      have gb2 : gb < w1.heap.size := by have := hb1.size; omega
      clear hb1 e0 e1 e2
      cases ft
      · go_wp2
        go_roundw
        case rel => exact ⟨k + 1, by go_num, by rw [SP.out]; omega, Y0.out, by rw [AC.out]; exact Y1.out, B1.out⟩
        case measure => simp [intOf]; omega
      · go_wp2_with fail
        have RN := hid (show BoxR w1.heap.size (ra + 1, rb, rc) (w1.alloc (.cells #[.int .i64 (ra + 1), .int .i64 rb, .int .i64 rc] 65)) from BoxR.new _ rfl)
        have BN := hid (show Below w.heap.size w (w1.alloc (.cells #[.int .i64 (ra + 1), .int .i64 rb, .int .i64 rc] 65)) from B1.out.alloc B1.out.size _)
        have N0 := hid (show BoxR w.heap.size (0, 0, 0) (w1.alloc (.cells #[.int .i64 (ra + 1), .int .i64 rb, .int .i64 rc] 65)).drew from Y0.out.alloc (.cells #[.int .i64 (ra + 1), .int .i64 rb, .int .i64 rc] 65))
        have N1 := hid (show BoxR (w.heap.size + 1) a (w1.alloc (.cells #[.int .i64 (ra + 1), .int .i64 rb, .int .i64 rc] 65)).drew from Y1.out.alloc (.cells #[.int .i64 (ra + 1), .int .i64 rb, .int .i64 rc] 65))
        have BND := hid (show Below w.heap.size w (w1.alloc (.cells #[.int .i64 (ra + 1), .int .i64 rb, .int .i64 rc] 65)).drew from BN.out.trans ⟨rfl, rfl, rfl, Nat.le_refl _, fun _ _ => rfl⟩)
        have RND := hid (show BoxR w1.heap.size (ra + 1, rb, rc) (w1.alloc (.cells #[.int .i64 (ra + 1), .int .i64 rb, .int .i64 rc] 65)).drew from RN.out)
        have hwr : IntKind.i64.wrap (rb + ct) = rb + ct := by rw [IntKind.wrap_i64]; omega
        have hw1w : w.heap.size + 1 < w1.heap.size := Y1.out.2.2.2.2.2.2
        apply wp_some (G := fun w' => BoxR w1.heap.size (ra + 1, rb + ct, rc) w' ∧ BoxR w.heap.size (0, 0, 0) w' ∧ BoxR (w.heap.size + 1) a w' ∧ Below w.heap.size w w')
        case h =>
          go_region_with (first | (go_at_call 42; refine (CO.out _ BND.out).mono ?_; rintro e w2 ⟨rfl, hb2⟩; have B2 := hid (show Below w.heap.size w w2 from BND.out.trans (hb2.mono BND.out.size)); have R2 := RND.out.on hb2 RND.out.2.2.2.2.2.2; have Z0 := hid (N0.out.on hb2 N0.out.2.2.2.2.2.2); have Z1 := hid (N1.out.on hb2 N1.out.2.2.2.2.2.2); have RR2 := hid R2; clear hb2; obtain ⟨y0, y1, y2, y3, y4, y5, -⟩ := R2; dsimp only at y0 y1 y2))
          all_goals exact ⟨rfl, RR2.out.set1, Z0.out.other (by omega), Z1.out.other (by omega), B2.out.setCell (by dsimp only; omega) _⟩
        rintro w3 ⟨R3, T0, T1, B3⟩
        have R3H := hid R3
        have T0H := hid T0
        have T1H := hid T1
        have B3H := hid B3
        have z3 := R3.2.2.2.2.2.2
        clear RN BN BND RND N0 N1 f0 f1 f2 T0 B3
        obtain ⟨y0, y1, y2, y3, y4, y5, -⟩ := R3
        obtain ⟨a0, a1, a2⟩ := a
        obtain ⟨v0, v1, v2, v3, v4, v5, v6⟩ := T1
        dsimp only at y0 y1 y2 v0 v1 v2
        rcases Nat.eq_zero_or_pos k with hk0 | hk0
        · have AC2 := hid (show Qm.accR l B (k + 1) = (ra + 1, rb + ct, (k : Int) + 1) by rw [AC.out, hk0]; rfl)
          have d1 : ((k : Int) + 1 == 1) = true := by simp; omega
          have d2 : ((k : Int) == 0) = true := by simp; omega
          have d3 : (k == 0) = true := by simp; omega
          clear hk0 AC
          go_wp2
          go_roundw
          case rel =>
            refine ⟨k + 1, by go_num, by rw [SP.out]; omega, ?_, ?_, ?_⟩
            · exact (((T0H.out.other (by omega)).other (by omega)).other (by omega)).other (by omega)
            · rw [AC2.out]; exact (((T1H.out.other (by omega)).set0).set1).set2
            · exact (((B3H.out.setCell (by dsimp only; omega) _).setCell (by dsimp only; omega) _).setCell (by dsimp only; omega) _).setCell (by dsimp only; omega) _
          case measure => simp [intOf]; omega
        · have d1 : ((k : Int) + 1 == 1) = false := by simp; omega
          have d2 : ((k : Int) == 0) = false := by simp; omega
          have d3 : (k == 0) = false := by simp; omega
          have d4 : ¬ (k : Int) + 1 = 1 := by omega
          have d5 : ¬ k = 0 := by omega
          have AC2 := hid (show Qm.accR l B (k + 1) = if Qm.betB (ra + 1, rb + ct, (k : Int) + 1) (a0, a1, a2) then (ra + 1, rb + ct, (k : Int) + 1) else (a0, a1, a2) by rw [AC.out, decide_eq_false d5]; rfl)
          clear AC
          go_wp2_with fail
          refine (IB.out _).mono ?_
          obtain ⟨bt, hbt⟩ : ∃ bt, Qm.betB (ra + 1, rb + ct, (k : Int) + 1) (a0, a1, a2) = bt := ⟨_, rfl⟩
          rw [hbt] at AC2
          simp only [hbt]
          rintro e w4 ⟨rfl, hb4⟩
          have zz : w1.heap.size < (w3.setCell ⟨w1.heap.size, 2, none⟩ (.int .i64 ((k : Int) + 1))).heap.size := by rw [World.size_setCell]; exact z3
          have R4 := (R3H.out.set2 (x := (k : Int) + 1)).on hb4 zz
          have U0 := hid ((T0H.out.other (C := w1.heap.size) (j := 2) (v := .int .i64 ((k : Int) + 1)) (by omega)).on hb4 (by omega))
          have U1 := (T1H.out.other (C := w1.heap.size) (j := 2) (v := .int .i64 ((k : Int) + 1)) (by omega)).on hb4 (by omega)
          have B4 := hid (show Below w.heap.size w w4 from (B3H.out.setCell (by dsimp only; omega) _).trans (hb4.mono (by omega)))
          have U1H := hid U1
          clear hb4 y0 y1 y2 y3 y4 y5 v0 v1 v2 v3 v4 v5 zz
          obtain ⟨y0, y1, y2, y3, y4, y5, y6⟩ := R4
          obtain ⟨v0, v1, v2, v3, v4, v5, v7⟩ := U1
          dsimp only at y0 y1 y2 v0 v1 v2
          cases bt
          · go_wp2
            go_roundw
            case rel => exact ⟨k + 1, by go_num, by rw [SP.out]; omega, U0.out, by rw [AC2.out]; exact U1H.out, B4.out⟩
            case measure => simp [intOf]; omega
          · go_wp2
            go_roundw
            case rel =>
              refine ⟨k + 1, by go_num, by rw [SP.out]; omega, ?_, ?_, ?_⟩
              · exact ((U0.out.other (by omega)).other (by omega)).other (by omega)
              · rw [AC2.out]; exact ((U1H.out.set0).set1).set2
              · exact ((B4.out.setCell (by dsimp only; omega) _).setCell (by dsimp only; omega) _).setCell (by dsimp only; omega) _
            case measure => simp [intOf]; omega
    · have hk2 : k = min 12 (min (n - 1) nb) := by omega
      have SK := hid (show Qm.spn n nb = k by rw [SP.out, hk2])
      have X0' := X0.out
      obtain ⟨a, ha⟩ : ∃ a, a = Qm.accR l B k := ⟨_, rfl⟩
      have HA := hid ha
      rw [← ha] at x1
      obtain ⟨a0, a1, a2⟩ := a
      obtain ⟨v0, v1, v2, v3, v4, v5, v6⟩ := x1
      obtain ⟨u0, u1, u2, u3, u4, u5, u6⟩ := X0'
      dsimp only at v0 v1 v2 u0 u1 u2
      clear hb X0 X1 ha
      by_cases c1 : (k : Int) + 1 ≤ 12
      · have d1 : decide ((k : Int) + 1 ≤ 12) = true := by simpa using c1
        by_cases c2 : (k : Int) + 1 < (n : Nat)
        · have d2 : decide ((k : Int) + 1 < (n : Nat)) = true := by simpa using c2
          have c3 : ¬ (k : Int) + 1 ≤ (nb : Nat) := by omega
          have d3 : decide ((k : Int) + 1 ≤ (nb : Nat)) = false := by simpa using c3
          clear hk2
          go_wp2
          refine bodyPost_ret (v := .agg #[.int .i64 a0, .int .i64 a1, .int .i64 a2]) (by simp [results, Try.results34, go_sem, World.cell?_setCell_other, World.cell?_setCell_same', *]) rfl ?_
          exact ⟨by rw [SK.out, ← HA.out]; rfl, ((HB.out.setCell (by dsimp only; omega) _).setCell (by dsimp only; omega) _).setCell (by dsimp only; omega) _⟩
        · have d2 : decide ((k : Int) + 1 < (n : Nat)) = false := by simpa using c2
          clear hk2
          go_wp2
          refine bodyPost_ret (v := .agg #[.int .i64 a0, .int .i64 a1, .int .i64 a2]) (by simp [results, Try.results34, go_sem, World.cell?_setCell_other, World.cell?_setCell_same', *]) rfl ?_
          exact ⟨by rw [SK.out, ← HA.out]; rfl, ((HB.out.setCell (by dsimp only; omega) _).setCell (by dsimp only; omega) _).setCell (by dsimp only; omega) _⟩
      · have d1 : decide ((k : Int) + 1 ≤ 12) = false := by simpa using c1
        clear hk2
        go_wp2
        refine bodyPost_ret (v := .agg #[.int .i64 a0, .int .i64 a1, .int .i64 a2]) (by simp [results, Try.results34, go_sem, World.cell?_setCell_other, World.cell?_setCell_same', *]) rfl ?_
        exact ⟨by rw [SK.out, ← HA.out]; rfl, ((HB.out.setCell (by dsimp only; omega) _).setCell (by dsimp only; omega) _).setCell (by dsimp only; omega) _⟩
end Go.Proofs.Ytljfiefobnncaab
