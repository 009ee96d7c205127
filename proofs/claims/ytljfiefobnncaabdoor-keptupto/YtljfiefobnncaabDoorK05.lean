import Derived.Test.YtljfiefobnncaabDoorK04
import Derived.Test.YtljfiefobnncaabDoorK02
import Derived.Test.YtljfiefobnncaabDoorK03

/- shape.Twice, cycles.mayBe. -/
namespace Go.Proofs.YtljfiefobnncaabDoor
open Go.RowKit

/-- The points of a row stand at block g. -/
def PtsAt (g : Nat) (l : List (Int × Int)) (w : World) : Prop := g < w.heap.size ∧ ∀ j, j < l.length → w.cell? ⟨g, j * 2, none⟩ = some (.int .i64 (l.getD j (0, 0)).1) ∧ w.cell? ⟨g, j * 2 + 1, none⟩ = some (.int .i64 (l.getD j (0, 0)).2)
theorem PtsAt.on {g : Nat} {l : List (Int × Int)} {w w' : World} {B : Nat} (h : PtsAt g l w) (hb : Below B w w') (hg : g < B) : PtsAt g l w' :=
  ⟨Nat.lt_of_lt_of_le h.1 hb.size, fun j hj => ⟨(hb.cell (p := ⟨g, j * 2, none⟩) hg).trans (h.2 j hj).1, (hb.cell (p := ⟨g, j * 2 + 1, none⟩) hg).trans (h.2 j hj).2⟩⟩
theorem ptsV_at (l : List (Int × Int)) : ∀ j, j < l.length → (Qm.ptsV l)[j * 2]? = some (.int .i64 (l.getD j (0, 0)).1) ∧ (Qm.ptsV l)[j * 2 + 1]? = some (.int .i64 (l.getD j (0, 0)).2) := by
  induction l with
  | nil => intro j hj; simp at hj
  | cons p l ih =>
    intro j hj
    cases j with
    | zero => simp [Qm.ptsV, Qm.ptV]
    | succ j =>
      have := ih j (by simpa using hj)
      have e : Qm.ptsV (p :: l) = .int .i64 p.1 :: .int .i64 p.2 :: Qm.ptsV l := by simp [Qm.ptsV, Qm.ptV]
      rw [e, show (j + 1) * 2 = j * 2 + 1 + 1 from by omega, show j * 2 + 1 + 1 + 1 = (j * 2 + 1) + 1 + 1 from by omega]
      simpa using this
theorem add_zero_at (g j : Nat) : (⟨g, 0, none⟩ : Addr).add j = ⟨g, j, none⟩ := by unfold Addr.add; split <;> simp_all
/-- A row that is owned and not empty stands at its block. -/
theorem own_at {w : World} {b : Nat} {t : TypeId} {v : Value} {l : List (Int × Int)} {n : Nat} (h : w.ownsRow b t 2 v n (Qm.ptsV l)) (hn : 0 < n) : ∃ g cap, v = .slice (some ⟨g, 0, none⟩) n cap ∧ b ≤ g ∧ PtsAt g l w ∧ n = l.length := by
  have hl := h.1
  rw [Qm.ptsV_len] at hl
  rcases h.2 with ⟨_, h0⟩ | ⟨g, cap, cur, rfl, hb, hg, _, _, _, _⟩
  · omega
  · refine ⟨g, cap, rfl, hb, ⟨(Array.getElem?_eq_some_iff.1 hg).1, fun j hj => ?_⟩, by omega⟩
    have c := fun j u hu => h.cells (g := g) rfl j u hu
    have p := ptsV_at l j hj
    have a1 := c _ _ p.1
    have a2 := c _ _ p.2
    rw [add_zero_at] at a1 a2
    exact ⟨a1, a2⟩

/-- A point's box at block B. -/
def BoxP (B : Nat) (p : Int × Int) (w : World) : Prop := w.cell? ⟨B, 0, none⟩ = some (.int .i64 p.1) ∧ w.cell? ⟨B, 1, none⟩ = some (.int .i64 p.2) ∧ w.frozen? ⟨B, 0, none⟩ = false ∧ w.frozen? ⟨B, 1, none⟩ = false ∧ B < w.heap.size

set_option maxRecDepth 4000 in
set_option maxHeartbeats 2000000 in
theorem twice_big (g n cap : Nat) (l : List (Int × Int)) (hn : n = l.length) (h0 : 0 < n) (hs : Qm.Small l) (hn2 : n ≤ 140737488355328) (w : World) (hP : PtsAt g l w) :
    Calls Tryd.prog 21 #[.slice (some ⟨g, 0, none⟩) n cap] w fun e w' => e = .returned (.int .i64 (Qm.twiceOf l)) ∧ Below w.heap.size w w' := by
  have HP := hid hP
  have hg := hP.1
  have HN := hid hn
  obtain ⟨q0, q1⟩ := hP.2 (n - 1) (by omega)
  obtain ⟨n1, hn1⟩ : ∃ n1, n = n1 + 1 := ⟨n - 1, by omega⟩
  subst hn1
  have p0 := Qm.pr_zero l (by omega)
  rw [← hn] at p0
  simp only [Nat.add_sub_cancel] at q0 q1 p0
  rw [← p0] at q0 q1
  have e0 : ((n1 : Int) + 1 == 0) = false := by simp; omega
  clear hP hn p0
  go_enter Tryd.func21, Tryd.ntmps21
  go_wp2
  go_loopw [3, 5] (fun sm i wr => ∃ k : Nat, k ≤ n1 + 1 ∧ i = .int .i64 k ∧ sm = .int .i64 (Qm.tsum l k) ∧ BoxP w.heap.size (Qm.pr l k) wr ∧ Below w.heap.size w wr) (fun _ i _ => n1 + 1 - (intOf i).toNat)
  case atStart => exact ⟨0, by omega, rfl, rfl, ⟨by simp, by simp, by simp, by simp, by simp⟩, by go_grown⟩
  case round =>
    clear q0 q1 e0
    obtain ⟨k, hk, rfl, rfl, ⟨b0, b1, f0, f1, hz⟩, hb⟩ := hrel
    have HB := hid hb
    have ts := Qm.tsum_small hs k
    by_cases hlt : k < n1 + 1
    · obtain ⟨r0, r1⟩ := (HP.out.on hb hg).2 k (by have := HN.out; omega)
      have hlt' : (k : Int) < (n1 : Int) + 1 := by omega
      have sp := hs.at ((k + l.length - 1) % l.length)
      have sq := hs.at k
      have E1 := hid (Qm.pr_succ l k (by have := HN.out; omega))
      have m1 := Qm.mul_small sp.2.2.1 sp.2.2.2 sq.1 sq.2.1
      have m2 := Qm.mul_small sp.1 sp.2.1 sq.2.2.1 sq.2.2.2
      have E2 : Hid (Qm.tsum l (k + 1) = Qm.tsum l k + ((Qm.pr l k).2 * (l.getD k (0, 0)).1 - (Qm.pr l k).1 * (l.getD k (0, 0)).2)) := rfl
      change 0 ≤ (Qm.pr l k).1 ∧ (Qm.pr l k).1 ≤ 32 ∧ 0 ≤ (Qm.pr l k).2 ∧ (Qm.pr l k).2 ≤ 32 at sp
      change 0 ≤ (Qm.pr l k).2 * _ ∧ (Qm.pr l k).2 * _ ≤ 1024 at m1
      change 0 ≤ (Qm.pr l k).1 * _ ∧ (Qm.pr l k).1 * _ ≤ 1024 at m2
      obtain ⟨⟨pa, pb⟩, hpp⟩ : ∃ p, p = Qm.pr l k := ⟨_, rfl⟩
      obtain ⟨⟨qa, qb⟩, hqq⟩ : ∃ p, p = l.getD k (0, 0) := ⟨_, rfl⟩
      rw [← hpp] at b0 b1 m1 m2 sp E2
      rw [← hqq] at r0 r1 m1 m2 sq E1 E2
      dsimp only at b0 b1 r0 r1 m1 m2 sp sq
      obtain ⟨u, hu⟩ : ∃ u, pb * qa = u := ⟨_, rfl⟩
      obtain ⟨z, hzz⟩ : ∃ z, pa * qb = z := ⟨_, rfl⟩
      rw [hu] at m1
      rw [hzz] at m2
      clear hb hpp hqq
      go_wp2
      go_roundw
      case rel => exact ⟨k + 1, by omega, by go_num, by rw [E2.out]; dsimp only; rw [hu, hzz], by rw [E1.out]; exact ⟨by simp [go_sem, World.cell?_setCell_other, World.cell?_setCell_same', *], by simp [go_sem, World.cell?_setCell_other, World.cell?_setCell_same', *], by rw [frozen?_alloc_cells]; simpa using f0, by rw [frozen?_alloc_cells]; simpa using f1, by simp; omega⟩, ((HB.out.setCell (by simp) _).setCell (by simp) _).alloc (by simp; omega) _⟩
      case measure => simp [intOf]; omega
    · have ek : k = n1 + 1 := by omega
      subst ek
      go_wp2
      go_ret
      exact ⟨ret_int (by rw [HN.out]; exact Qm.tsum_all l (by have := HN.out; omega)), HB.out⟩

/-- May it be traced? -/
def mayB (W H : Int) (l : List UInt8) (pol spk : Int) : Bool := Pm.goodB W H l && decide (0 ≤ pol ∧ pol ≤ 3) && decide (0 ≤ spk ∧ spk ≤ 1024)
theorem mayB_pol {W H : Int} {l : List UInt8} {pol spk : Int} (h : ¬ (0 ≤ pol ∧ pol ≤ 3)) : mayB W H l pol spk = false := by unfold mayB; rw [decide_eq_false h]; simp
theorem mayB_spk {W H : Int} {l : List UInt8} {pol spk : Int} (h : ¬ (0 ≤ spk ∧ spk ≤ 1024)) : mayB W H l pol spk = false := by unfold mayB; rw [decide_eq_false h]; simp
theorem mayB_good {W H : Int} {l : List UInt8} {pol spk : Int} (h : 0 ≤ pol ∧ pol ≤ 3) (h2 : 0 ≤ spk ∧ spk ≤ 1024) : mayB W H l pol spk = Pm.goodB W H l := by unfold mayB; rw [decide_eq_true h, decide_eq_true h2]; simp

set_option maxRecDepth 4000 in
set_option maxHeartbeats 1000000 in
theorem mayBe_any (W H : Int) (s : ByteArray) (pol : Int) (draws : ByteArray) (spk : Int) (w : World) :
    Calls Tryd.prog 27 #[.agg #[.int .i64 W, .int .i64 H, .string s], .agg #[.int .i64 pol, .string draws, .int .i64 spk]] w fun e w' => e = .returned (.bool (mayB W H s.data.toList pol spk)) ∧ Below w.heap.size w w' := by
  by_cases p0 : pol < 0
  · have E := hid (mayB_pol (W := W) (H := H) (l := s.data.toList) (pol := pol) (spk := spk) (by omega))
    go_enter Tryd.func27, Tryd.ntmps27
    go_wp2
    go_ret
    exact ⟨ret_bool E.out.symm, by go_grown⟩
  by_cases p1 : 3 < pol
  · have E := hid (mayB_pol (W := W) (H := H) (l := s.data.toList) (pol := pol) (spk := spk) (by omega))
    go_enter Tryd.func27, Tryd.ntmps27
    go_wp2
    go_ret
    exact ⟨ret_bool E.out.symm, by go_grown⟩
  by_cases s0 : spk < 0
  · have E := hid (mayB_spk (W := W) (H := H) (l := s.data.toList) (pol := pol) (spk := spk) (by omega))
    go_enter Tryd.func27, Tryd.ntmps27
    go_wp2
    go_ret
    exact ⟨ret_bool E.out.symm, by go_grown⟩
  by_cases s1 : 1024 < spk
  · have E := hid (mayB_spk (W := W) (H := H) (l := s.data.toList) (pol := pol) (spk := spk) (by omega))
    go_enter Tryd.func27, Tryd.ntmps27
    go_wp2
    go_ret
    exact ⟨ret_bool E.out.symm, by go_grown⟩
  · have E := hid (mayB_good (W := W) (H := H) (l := s.data.toList) (pol := pol) (spk := spk) (by omega) (by omega))
    go_enter Tryd.func27, Tryd.ntmps27
    go_wp2_with (go_at_call 38; refine (isOne_any W H s _).mono ?_; rintro e w' ⟨rfl, rfl⟩)
    go_ret
    exact ⟨ret_bool E.out.symm, by go_grown⟩

theorem twice_any (g n cap : Nat) (l : List (Int × Int)) (hn : n = l.length) (h0 : 0 < n) (hs : Qm.Small l) (hn2 : n ≤ 4356) (w : World) (hP : PtsAt g l w) :
    Calls Tryd.prog 21 #[.slice (some ⟨g, 0, none⟩) n cap] w fun e w' => e = .returned (.int .i64 (Qm.twiceOf l)) ∧ Below w.heap.size w w' :=
  twice_big g n cap l hn h0 hs (by omega) w hP

end Go.Proofs.YtljfiefobnncaabDoor

/- Package shape: Winding; package polygons: bounds, size, cost, isBetter. -/
namespace Go.Proofs.YtljfiefobnncaabDoor
open Go.RowKit

/-- The points of a row stand at block g, from cell o on. -/
def PtsO (g o : Nat) (l : List (Int × Int)) (w : World) : Prop := g < w.heap.size ∧ ∀ j, j < l.length → w.cell? ⟨g, o + j * 2, none⟩ = some (.int .i64 (l.getD j (0, 0)).1) ∧ w.cell? ⟨g, o + j * 2 + 1, none⟩ = some (.int .i64 (l.getD j (0, 0)).2)
theorem PtsO.on {g o : Nat} {l : List (Int × Int)} {w w' : World} {B : Nat} (h : PtsO g o l w) (hb : Below B w w') (hg : g < B) : PtsO g o l w' :=
  ⟨Nat.lt_of_lt_of_le h.1 hb.size, fun j hj => ⟨(hb.cell (p := ⟨g, o + j * 2, none⟩) hg).trans (h.2 j hj).1, (hb.cell (p := ⟨g, o + j * 2 + 1, none⟩) hg).trans (h.2 j hj).2⟩⟩
theorem PtsAt.o {g : Nat} {l : List (Int × Int)} {w : World} (h : PtsAt g l w) : PtsO g 0 l w := ⟨h.1, fun j hj => by have := h.2 j hj; simpa using this⟩
theorem PtsO.take {g o : Nat} {l : List (Int × Int)} {w : World} (h : PtsO g o l w) (n : Nat) : PtsO g o (l.take n) w := ⟨h.1, fun j hj => by
  simp only [List.length_take] at hj
  have := h.2 j (by omega)
  rw [show (l.take n).getD j (0, 0) = l.getD j (0, 0) from by simp only [List.getD_eq_getElem?_getD]; rw [List.getElem?_take_of_lt (by omega)]]
  exact this⟩
theorem PtsO.drop {g o : Nat} {l : List (Int × Int)} {w : World} (h : PtsO g o l w) (n : Nat) : PtsO g (o + n * 2) (l.drop n) w := ⟨h.1, fun j hj => by
  simp only [List.length_drop] at hj
  have := h.2 (n + j) (by omega)
  rw [show (l.drop n).getD j (0, 0) = l.getD (n + j) (0, 0) from by simp only [List.getD_eq_getElem?_getD]; rw [List.getElem?_drop]]
  rw [show o + n * 2 + j * 2 = o + (n + j) * 2 from by omega]
  exact this⟩
theorem BoxP.on {B B' : Nat} {p : Int × Int} {w w' : World} (h : BoxP B p w) (hb : Below B' w w') (hB : B < B') : BoxP B p w' :=
  ⟨(hb.cell (p := ⟨B, 0, none⟩) hB).trans h.1, (hb.cell (p := ⟨B, 1, none⟩) hB).trans h.2.1, (hb.frozen (p := ⟨B, 0, none⟩) hB).trans h.2.2.1, (hb.frozen (p := ⟨B, 1, none⟩) hB).trans h.2.2.2.1, Nat.lt_of_lt_of_le h.2.2.2.2 hb.size⟩
theorem small_in {l : List (Int × Int)} (h : Qm.Small l) (k : Nat) : PtIn (l.getD k (0, 0)) := h.at k

set_option maxRecDepth 4000 in
set_option maxHeartbeats 1000000 in
theorem winding_big (g o n cap : Nat) (l : List (Int × Int)) (hn : n = l.length) (h0 : 0 < n) (hs : Qm.Small l) (hn2 : n ≤ 140737488355328) (x y : Int) (x0 : -32 ≤ x) (x1 : x ≤ 64) (y0 : -32 ≤ y) (y1 : y ≤ 64) (w : World) (hP : PtsO g o l w) :
    Calls Tryd.prog 58 #[.slice (some ⟨g, o, none⟩) n cap, .int .i64 x, .int .i64 y] w fun e w' => e = .returned (.int .i64 (Qm.wsum l x y n)) ∧ Below w.heap.size w w' := by
  have HP := hid hP
  have hg := hP.1
  have HN := hid hn
  obtain ⟨q0, q1⟩ := hP.2 (n - 1) (by omega)
  obtain ⟨n1, hn1⟩ : ∃ n1, n = n1 + 1 := ⟨n - 1, by omega⟩
  subst hn1
  have p0 := Qm.pr_zero l (by omega)
  rw [← hn] at p0
  simp only [Nat.add_sub_cancel] at q0 q1 p0
  rw [← p0] at q0 q1
  have e0 : ((n1 : Int) + 1 == 0) = false := by simp; omega
  clear hP hn p0
  go_enter Tryd.func58, Tryd.ntmps58
  go_wp2_with fail
  go_loopw [7, 9] (fun sm i wr => ∃ k : Nat, k ≤ n1 + 1 ∧ i = .int .i64 k ∧ sm = .int .i64 (Qm.wsum l x y k) ∧ BoxP w.heap.size (Qm.pr l k) wr ∧ Below w.heap.size w wr) (fun _ i _ => n1 + 1 - (intOf i).toNat)
  case atStart => exact ⟨0, by omega, rfl, rfl, ⟨by simp, by simp, by simp, by simp, by simp⟩, by go_grown⟩
  case round =>
    clear q0 q1 e0
    obtain ⟨k, hk, rfl, rfl, hbx, hb⟩ := hrel
    have HB := hid hb
    have ts := Qm.wsum_in l x y k
    by_cases hlt : k < n1 + 1
    · obtain ⟨r0, r1⟩ := (HP.out.on hb hg).2 k (by have := HN.out; omega)
      have hlt' : (k : Int) < (n1 : Int) + 1 := by omega
      have E1 := hid (Qm.pr_succ l k (by have := HN.out; omega))
      have WO := hid (fun W' => windingOf_any (Qm.pr l k) (l.getD k (0, 0)) x y (small_in hs _) (small_in hs _) x0 x1 y0 y1 W')
      have E2 : Hid (Qm.wsum l x y (k + 1) = Qm.wsum l x y k + Qm.wdZ (Qm.pr l k) (l.getD k (0, 0)) x y) := rfl
      have zd := Qm.wdZ_in (Qm.pr l k) (l.getD k (0, 0)) x y
      obtain ⟨z, hz⟩ : ∃ z, Qm.wdZ (Qm.pr l k) (l.getD k (0, 0)) x y = z := ⟨_, rfl⟩
      rw [hz] at E2 WO zd
      obtain ⟨⟨pa, pb⟩, hpp⟩ : ∃ p, p = Qm.pr l k := ⟨_, rfl⟩
      obtain ⟨⟨qa, qb⟩, hqq⟩ : ∃ p, p = l.getD k (0, 0) := ⟨_, rfl⟩
      rw [← hpp] at hbx WO
      rw [← hqq] at r0 r1 E1 WO
      dsimp only at r0 r1 WO
      have BX := hid hbx
      obtain ⟨b0, b1, f0, f1, bz⟩ := hbx
      dsimp only at b0 b1
      clear hb hpp hqq hz
      go_wp2_with fail
      refine (WO.out _).mono ?_
      rintro e w2 ⟨rfl, hb⟩
      have B2 := hid (show Below w.heap.size w w2 from (HB.out.alloc (by omega) _).trans (hb.mono (by simp; omega)))
      have z2 := hb.size
      simp at z2
      have b12 : Below wr.heap.size wr w2 := ((Below.refl _ _).alloc (Nat.le_refl _) _).trans (hb.mono (by simp))
      obtain ⟨c0, c1, g0, g1, -⟩ := BX.out.on b12 bz
      dsimp only at c0 c1
      have hc := (bcell hb).1
      have t0 := hc wr.heap.size 0 (by simp)
      have t1 := hc wr.heap.size 1 (by simp)
      simp at t0 t1
      clear hb hc b0 b1 f0 f1 r0 r1 b12
      go_wp2
      go_roundw
      case rel => exact ⟨k + 1, by omega, by go_num, by rw [E2.out], by rw [E1.out]; exact ⟨by simp [go_sem, World.cell?_setCell_other, World.cell?_setCell_same', *], by simp [go_sem, World.cell?_setCell_other, World.cell?_setCell_same', *], by simpa using g0, by simpa using g1, by simp; omega⟩, (B2.out.setCell (by simp) _).setCell (by simp) _⟩
      case measure => simp [intOf]; omega
    · have ek : k = n1 + 1 := by omega
      subst ek
      go_wp2
      go_ret
      exact ⟨rfl, HB.out⟩

theorem winding_any (g o n cap : Nat) (l : List (Int × Int)) (hn : n = l.length) (h0 : 0 < n) (hs : Qm.Small l) (hn2 : n ≤ 4357) (x y : Int) (x0 : -32 ≤ x) (x1 : x ≤ 64) (y0 : -32 ≤ y) (y1 : y ≤ 64) (w : World) (hP : PtsO g o l w) :
    Calls Tryd.prog 58 #[.slice (some ⟨g, o, none⟩) n cap, .int .i64 x, .int .i64 y] w fun e w' => e = .returned (.int .i64 (Qm.wsum l x y n)) ∧ Below w.heap.size w w' :=
  winding_big g o n cap l hn h0 hs (by omega) x y x0 x1 y0 y1 w hP

end Go.Proofs.YtljfiefobnncaabDoor

/- Package polygons: bounds, size, cost, isBetter. -/
namespace Go.Proofs.YtljfiefobnncaabDoor
open Go.RowKit

set_option maxRecDepth 4000 in
set_option maxHeartbeats 400000 in
theorem size_any (n : Int) (h0 : -9223372036854775807 ≤ n) (h1 : n ≤ 9223372036854775807) (w : World) :
    Calls Tryd.prog 29 #[.int .i64 n] w fun e w' => e = .returned (.int .i64 (Qm.absZ n)) ∧ w' = w := by
  by_cases h : n < 0
  · have E := hid (show Qm.absZ n = -n from if_pos h)
    go_enter Tryd.func29, Tryd.ntmps29
    go_wp2
    go_ret
    exact ⟨ret_int E.out.symm, rfl⟩
  · have E := hid (show Qm.absZ n = n from if_neg h)
    go_enter Tryd.func29, Tryd.ntmps29
    go_wp2
    go_ret
    exact ⟨ret_int E.out.symm, rfl⟩

def rwV (r : Qm.Rw) : Value := .agg #[.int .i64 r.1, .int .i64 r.2.1, .int .i64 r.2.2]
set_option maxRecDepth 4000 in
set_option maxHeartbeats 400000 in
theorem isBetter_any (a b : Qm.Rw) (w : World) :
    Calls Tryd.prog 48 #[rwV a, rwV b] w fun e w' => e = .returned (.bool (Qm.betB a b)) ∧ Below w.heap.size w w' := by
  obtain ⟨a0, a1, a2⟩ := a
  obtain ⟨b0, b1, b2⟩ := b
  unfold rwV
  dsimp only
  by_cases h : a0 = b0
  · subst h
    cases hd : decide (a1 < b1)
    · have D := hid (show Qm.betB (a0, a1, a2) (a0, b1, b2) = false by unfold Qm.betB; simp at hd ⊢; omega)
      go_enter Tryd.func48, Tryd.ntmps48
      go_wp2
      go_ret
      exact ⟨ret_bool D.out.symm, by go_grown⟩
    · have D := hid (show Qm.betB (a0, a1, a2) (a0, b1, b2) = true by unfold Qm.betB; simp at hd ⊢; omega)
      go_enter Tryd.func48, Tryd.ntmps48
      go_wp2
      go_ret
      exact ⟨ret_bool D.out.symm, by go_grown⟩
  · have hb : (a0 == b0) = false := by simpa using h
    cases hd : decide (a0 < b0)
    · have D := hid (show Qm.betB (a0, a1, a2) (b0, b1, b2) = false by unfold Qm.betB; simp at hd ⊢; omega)
      go_enter Tryd.func48, Tryd.ntmps48
      go_wp2
      go_ret
      exact ⟨ret_bool D.out.symm, by go_grown⟩
    · have D := hid (show Qm.betB (a0, a1, a2) (b0, b1, b2) = true by unfold Qm.betB; simp at hd ⊢; omega)
      go_enter Tryd.func48, Tryd.ntmps48
      go_wp2
      go_ret
      exact ⟨ret_bool D.out.symm, by go_grown⟩

theorem BoxP.set0 {B : Nat} {a b x : Int} {w : World} (h : BoxP B (a, b) w) : BoxP B (x, b) (w.setCell ⟨B, 0, none⟩ (.int .i64 x)) :=
  ⟨World.cell?_setCell_same _ _ _ h.1, (World.cell?_setCell_other _ _ _ _ (by simp)).trans h.2.1, by simpa using h.2.2.1, by simpa using h.2.2.2.1, by rw [World.size_setCell]; exact h.2.2.2.2⟩
theorem BoxP.set1 {B : Nat} {a b x : Int} {w : World} (h : BoxP B (a, b) w) : BoxP B (a, x) (w.setCell ⟨B, 1, none⟩ (.int .i64 x)) :=
  ⟨(World.cell?_setCell_other _ _ _ _ (by simp)).trans h.1, World.cell?_setCell_same _ _ _ h.2.1, by simpa using h.2.2.1, by simpa using h.2.2.2.1, by rw [World.size_setCell]; exact h.2.2.2.2⟩
theorem BoxP.other {B C j : Nat} {p : Int × Int} {v : Value} {w : World} (h : BoxP B p w) (hne : B ≠ C) : BoxP B p (w.setCell ⟨C, j, none⟩ v) :=
  ⟨(World.cell?_setCell_other _ _ _ _ (by intro e; injection e with e _ _; exact hne e.symm)).trans h.1, (World.cell?_setCell_other _ _ _ _ (by intro e; injection e with e _ _; exact hne e.symm)).trans h.2.1, by simpa using h.2.2.1, by simpa using h.2.2.2.1, by rw [World.size_setCell]; exact h.2.2.2.2⟩
theorem BoxP.new {B : Nat} {a b : Int} {w : World} (t : TypeId) (hB : B = w.heap.size) : BoxP B (a, b) (w.alloc (.cells #[.int .i64 a, .int .i64 b] t)) := by
  subst hB; exact ⟨by simp, by simp, by simp, by simp, by simp⟩
theorem BoxP.alloc {B : Nat} {p : Int × Int} {w : World} (h : BoxP B p w) (o : Obj) : BoxP B p (w.alloc o) := h.on ((Below.refl _ _).alloc (Nat.le_refl _) _) h.2.2.2.2

set_option maxRecDepth 4000 in
set_option maxHeartbeats 2000000 in
theorem bounds_any (g o n cap : Nat) (l : List (Int × Int)) (hn : n = l.length) (h0 : 0 < n) (hn2 : n ≤ 4357) (w : World) (hP : PtsO g o l w) :
    Calls Tryd.prog 56 #[.slice (some ⟨g, o, none⟩) n cap] w fun e w' => e = .returned (.tuple #[.agg #[.int .i64 (Qm.loF Prod.fst l n), .int .i64 (Qm.loF Prod.snd l n)], .agg #[.int .i64 (Qm.hiF Prod.fst l n), .int .i64 (Qm.hiF Prod.snd l n)]]) ∧ Below w.heap.size w w' := by
  have HP := hid hP
  have hg := hP.1
  have HN := hid hn
  obtain ⟨q0, q1⟩ := hP.2 0 (by omega)
  simp only [Nat.zero_mul, Nat.add_zero] at q0 q1
  have h0' : (0 : Int) < (n : Nat) := by omega
  have e0 : ((n : Int) == 0) = false := by simp; omega
  have hg2 : g < w.heap.size + 1 := by omega
  have hg3 : g < w.heap.size + 1 + 1 := by omega
  clear hP hn
  have E1 := hid (Qm.loF_one Prod.fst l)
  have E2 := hid (Qm.loF_one Prod.snd l)
  have E3 := hid (Qm.hiF_one Prod.fst l)
  have E4 := hid (Qm.hiF_one Prod.snd l)
  obtain ⟨⟨fa, fb⟩, hff⟩ : ∃ p, p = l.getD 0 (0, 0) := ⟨_, rfl⟩
  rw [← hff] at q0 q1 E1 E2 E3 E4
  dsimp only at q0 q1 E1 E2 E3 E4
  clear hff
  go_enter Tryd.func56, Tryd.ntmps56
  go_wp2_with fail
  go_loopw [6] (fun iv wr => ∃ k : Nat, 1 ≤ k ∧ k ≤ n ∧ iv = .int .i64 k ∧ BoxP w.heap.size (0, 0) wr ∧ BoxP (w.heap.size + 1) (0, 0) wr ∧ BoxP (w.heap.size + 1 + 1) (Qm.loF Prod.fst l k, Qm.loF Prod.snd l k) wr ∧ BoxP (w.heap.size + 1 + 1 + 1) (Qm.hiF Prod.fst l k, Qm.hiF Prod.snd l k) wr ∧ Below w.heap.size w wr) (fun i _ => n - (intOf i).toNat)
  case atStart =>
    refine ⟨1, by omega, by omega, rfl, (((BoxP.new _ rfl).alloc _).alloc _).alloc _, ((BoxP.new _ (by simp)).alloc _).alloc _, ?_, ?_, by go_grown⟩
    · rw [E1.out, E2.out]; exact (BoxP.new _ (by simp)).alloc _
    · rw [E3.out, E4.out]; exact BoxP.new _ (by simp)
  case round =>
    clear q0 q1
    obtain ⟨k, h1, hk, rfl, x0, x1, x2, x3, hb⟩ := hrel
    have HB := hid hb
    have X0 := hid x0
    have X1 := hid x1
    have X2 := hid x2
    have X3 := hid x3
    by_cases hlt : k < n
    · obtain ⟨r0, r1⟩ := (HP.out.on hb hg).2 k (by have := HN.out; omega)
      have hlt' : (k : Int) < (n : Nat) := by omega
      have hgr : g < wr.heap.size := Nat.lt_of_lt_of_le hg hb.size
      have hgr2 : g < wr.heap.size + 1 := by omega
      have L1 := hid (show Qm.loF Prod.fst l (k + 1) = if (l.getD k (0, 0)).1 < Qm.loF Prod.fst l k then (l.getD k (0, 0)).1 else Qm.loF Prod.fst l k from rfl)
      have L2 := hid (show Qm.loF Prod.snd l (k + 1) = if (l.getD k (0, 0)).2 < Qm.loF Prod.snd l k then (l.getD k (0, 0)).2 else Qm.loF Prod.snd l k from rfl)
      have L3 := hid (show Qm.hiF Prod.fst l (k + 1) = if Qm.hiF Prod.fst l k < (l.getD k (0, 0)).1 then (l.getD k (0, 0)).1 else Qm.hiF Prod.fst l k from rfl)
      have L4 := hid (show Qm.hiF Prod.snd l (k + 1) = if Qm.hiF Prod.snd l k < (l.getD k (0, 0)).2 then (l.getD k (0, 0)).2 else Qm.hiF Prod.snd l k from rfl)
      obtain ⟨⟨pa, pb⟩, hpp⟩ : ∃ p, p = l.getD k (0, 0) := ⟨_, rfl⟩
      rw [← hpp] at r0 r1 L1 L2 L3 L4
      obtain ⟨a, ha⟩ : ∃ a, a = Qm.loF Prod.fst l k := ⟨_, rfl⟩
      obtain ⟨b, hb'⟩ : ∃ a, a = Qm.loF Prod.snd l k := ⟨_, rfl⟩
      obtain ⟨c, hc⟩ : ∃ a, a = Qm.hiF Prod.fst l k := ⟨_, rfl⟩
      obtain ⟨d, hd⟩ : ∃ a, a = Qm.hiF Prod.snd l k := ⟨_, rfl⟩
      rw [← ha] at L1
      rw [← hb'] at L2
      rw [← hc] at L3
      rw [← hd] at L4
      rw [← ha, ← hb'] at x2 X2
      rw [← hc, ← hd] at x3 X3
      dsimp only at r0 r1 L1 L2 L3 L4
      obtain ⟨y0, y1, y2, y3, yz⟩ := x2
      obtain ⟨z0, z1, z2, z3, zz⟩ := x3
      dsimp only at y0 y1 z0 z1
      clear hb hpp ha hb' hc hd x0 x1
      by_cases p1 : pa < a <;> by_cases p2 : pb < b <;> by_cases p3 : c < pa <;> by_cases p4 : d < pb
      all_goals (
        simp only [p1, p2, p3, p4, ↓reduceIte] at L1 L2 L3 L4
        go_wp2
        go_roundw
        case rel =>
          refine ⟨k + 1, by omega, by omega, by go_num, ?_, ?_, ?_, ?_, ?_⟩
          · repeat (first | (with_reducible exact X0.out) | (with_reducible refine BoxP.other ?_ (by omega)) | (with_reducible refine BoxP.alloc ?_ _))
          · repeat (first | (with_reducible exact X1.out) | (with_reducible refine BoxP.other ?_ (by omega)) | (with_reducible refine BoxP.alloc ?_ _))
          · rw [L1.out, L2.out]; repeat (first | (with_reducible exact X2.out) | (with_reducible refine BoxP.set0 (a := a) ?_) | (with_reducible refine BoxP.set1 (b := b) ?_) | (with_reducible refine BoxP.other ?_ (by omega)) | (with_reducible refine BoxP.alloc ?_ _))
          · rw [L3.out, L4.out]; repeat (first | (with_reducible exact X3.out) | (with_reducible refine BoxP.set0 (a := c) ?_) | (with_reducible refine BoxP.set1 (b := d) ?_) | (with_reducible refine BoxP.other ?_ (by omega)) | (with_reducible refine BoxP.alloc ?_ _))
          · repeat (first | (with_reducible exact HB.out) | (with_reducible refine Below.setCell ?_ (by dsimp only; omega) _) | (with_reducible refine Below.alloc ?_ (by first | omega | (simp only [World.size_setCell]; omega)) _))
        case measure => simp [intOf]; omega)
    · have ek : k = n := by omega
      subst ek
      obtain ⟨y0, y1, y2, y3, yz⟩ := x2
      obtain ⟨z0, z1, z2, z3, zz⟩ := x3
      obtain ⟨u0, u1, u2, u3, uz⟩ := x0
      obtain ⟨v0, v1, v2, v3, vz⟩ := x1
      dsimp only at y0 y1 z0 z1 u0 u1 v0 v1
      obtain ⟨a, ha⟩ : ∃ a, a = Qm.loF Prod.fst l k := ⟨_, rfl⟩
      obtain ⟨b, hb'⟩ : ∃ a, a = Qm.loF Prod.snd l k := ⟨_, rfl⟩
      obtain ⟨c, hc⟩ : ∃ a, a = Qm.hiF Prod.fst l k := ⟨_, rfl⟩
      obtain ⟨d, hd⟩ : ∃ a, a = Qm.hiF Prod.snd l k := ⟨_, rfl⟩
      rw [← ha] at y0
      rw [← hb'] at y1
      rw [← hc] at z0
      rw [← hd] at z1
      have HA := hid ha
      have HB' := hid hb'
      have HC := hid hc
      have HD := hid hd
      clear X0 X1 X2 X3 hb ha hb' hc hd
      go_wp2
      go_region_held3 (fun w' => w'.cell? ⟨w.heap.size + 1 + 1, 0, none⟩ = some (.int .i64 a) ∧ w'.cell? ⟨w.heap.size + 1 + 1, 1, none⟩ = some (.int .i64 b) ∧ w'.cell? ⟨w.heap.size + 1 + 1 + 1, 0, none⟩ = some (.int .i64 c) ∧ w'.cell? ⟨w.heap.size + 1 + 1 + 1, 1, none⟩ = some (.int .i64 d))
        (first | (simp [go_sem, *]; done) | (go_keep))
        (fail)
      all_goals go_wp2
      all_goals (refine bodyPost_ret (v := .tuple #[.agg #[.int .i64 a, .int .i64 b], .agg #[.int .i64 c, .int .i64 d]]) (by simp [results, Tryd.results56, go_sem, World.cell?_setCell_other, World.cell?_setCell_same', *]) rfl ?_)
      all_goals exact ⟨by rw [HA.out, HB'.out, HC.out, HD.out], by go_grown; exact HB.out⟩
end Go.Proofs.YtljfiefobnncaabDoor

/- Package polygons: cost. -/
namespace Go.Proofs.YtljfiefobnncaabDoor
open Go.RowKit

set_option maxRecDepth 4000 in
set_option maxHeartbeats 2000000 in
theorem cost_any (g o n cap : Nat) (l : List (Int × Int)) (hn : n = l.length) (h0 : 0 < n) (hs : Qm.Small l) (hn2 : n ≤ 4357) (w : World) (hP : PtsO g o l w) :
    Calls Tryd.prog 47 #[.slice (some ⟨g, o, none⟩) n cap] w fun e w' => e = .returned (.int .i64 (Qm.costOf l)) ∧ Below w.heap.size w w' := by
  have HP := hid hP
  have hg := hP.1
  have HN := hid hn
  obtain ⟨q0, q1⟩ := hP.2 0 (by omega)
  obtain ⟨t0, t1⟩ := hP.2 (n - 1) (by omega)
  simp only [Nat.zero_mul, Nat.add_zero] at q0 q1
  have sa := hs.at 0
  have sz := hs.at (n - 1)
  have EC := hid (show Qm.costOf l = Qm.costTo (l.getD 0 (0, 0)) (l.getD (n - 1) (0, 0)) l n by rw [hn]; rfl)
  have CI := hid (fun k => Qm.costTo_in hs (l.getD 0 (0, 0)) (l.getD (n - 1) (0, 0)) sa sz k)
  have CS := hid (fun k => show Qm.costTo (l.getD 0 (0, 0)) (l.getD (n - 1) (0, 0)) l (k + 1) = Qm.costTo (l.getD 0 (0, 0)) (l.getD (n - 1) (0, 0)) l k + Qm.absZ (Qm.offZ (l.getD 0 (0, 0)) (l.getD (n - 1) (0, 0)) (l.getD k (0, 0))) from rfl)
  have C0 := hid (show Qm.costTo (l.getD 0 (0, 0)) (l.getD (n - 1) (0, 0)) l 0 = 0 from rfl)
  obtain ⟨n1, hn1⟩ : ∃ n1, n = n1 + 1 := ⟨n - 1, by omega⟩
  subst hn1
  simp only [Nat.add_sub_cancel] at t0 t1 sz EC CI CS C0
  obtain ⟨⟨fa, fb⟩, hff⟩ : ∃ p, p = l.getD 0 (0, 0) := ⟨_, rfl⟩
  obtain ⟨⟨za, zb⟩, hzz⟩ : ∃ p, p = l.getD n1 (0, 0) := ⟨_, rfl⟩
  rw [← hff] at q0 q1 sa EC CI CS C0
  rw [← hzz] at t0 t1 sz EC CI CS C0
  dsimp only at q0 q1 t0 t1 sa sz
  have e0 : ((n1 : Int) + 1 == 0) = false := by simp; omega
  have hg2 : g < w.heap.size + 1 := by omega
  have hg3 : g < w.heap.size + 1 + 1 := by omega
  clear hP hn hff hzz
  go_enter Tryd.func47, Tryd.ntmps47
  go_wp2_with fail
  go_loopw [5, 6] (fun sm iv wr => ∃ k : Nat, k ≤ n1 + 1 ∧ iv = .int .i64 k ∧ sm = .int .i64 (Qm.costTo (fa, fb) (za, zb) l k) ∧ BoxP w.heap.size (fa, fb) wr ∧ BoxP (w.heap.size + 1) (za, zb) wr ∧ Below w.heap.size w wr) (fun _ i _ => n1 + 1 - (intOf i).toNat)
  case atStart => exact ⟨0, by omega, rfl, by rw [C0.out], (BoxP.new _ rfl).alloc _, BoxP.new _ (by simp), by go_grown⟩
  case round =>
    clear q0 q1 t0 t1
    obtain ⟨k, hk, rfl, rfl, x0, x1, hb⟩ := hrel
    have HB := hid hb
    have X0 := hid x0
    have X1 := hid x1
    have ci := CI.out k
    by_cases hlt : k < n1 + 1
    · obtain ⟨r0, r1⟩ := (HP.out.on hb hg).2 k (by have := HN.out; omega)
      have hlt' : (k : Int) < (n1 : Int) + 1 := by omega
      have hgr : g < wr.heap.size := Nat.lt_of_lt_of_le hg hb.size
      have hgr2 : g < wr.heap.size + 1 := by omega
      have sp := hs.at k
      have cs := hid (CS.out k)
      obtain ⟨⟨pa, pb⟩, hpp⟩ : ∃ p, p = l.getD k (0, 0) := ⟨_, rfl⟩
      rw [← hpp] at r0 r1 sp cs
      dsimp only at r0 r1 sp
      have m1 := Qm.mul_in (a := za - fa) (b := pb - fb) (by omega) (by omega) (by omega) (by omega)
      have m2 := Qm.mul_in (a := zb - fb) (b := pa - fa) (by omega) (by omega) (by omega) (by omega)
      have EO := hid (show Qm.offZ (fa, fb) (za, zb) (pa, pb) = (za - fa) * (pb - fb) - (zb - fb) * (pa - fa) from rfl)
      obtain ⟨u, hu⟩ : ∃ u, (za - fa) * (pb - fb) = u := ⟨_, rfl⟩
      obtain ⟨v, hv⟩ : ∃ v, (zb - fb) * (pa - fa) = v := ⟨_, rfl⟩
      rw [hu] at m1 EO
      rw [hv] at m2 EO
      rw [EO.out] at cs
      have SZ := hid (fun W' => size_any (u - v) (by omega) (by omega) W')
      have az : 0 ≤ Qm.absZ (u - v) ∧ Qm.absZ (u - v) ≤ 2048 := by unfold Qm.absZ; split <;> omega
      obtain ⟨y, hy⟩ : ∃ y, Qm.absZ (u - v) = y := ⟨_, rfl⟩
      rw [hy] at cs SZ az
      obtain ⟨y0, y1, y2, y3, yz⟩ := x0
      obtain ⟨z0, z1, z2, z3, zz⟩ := x1
      dsimp only at y0 y1 z0 z1
      obtain ⟨ct, hct⟩ : ∃ ct, ct = Qm.costTo (fa, fb) (za, zb) l k := ⟨_, rfl⟩
      rw [← hct] at ci cs ⊢
      clear hb hpp hy hct
      go_wp2_with fail
      refine (SZ.out _).mono ?_
      rintro e w2 ⟨rfl, e2⟩
      have B2 := hid (show Below w.heap.size w w2 by rw [e2]; exact HB.out.alloc (by omega) _)
      have Y0 := hid (show BoxP w.heap.size (fa, fb) w2 by rw [e2]; exact X0.out.alloc _)
      have Y1 := hid (show BoxP (w.heap.size + 1) (za, zb) w2 by rw [e2]; exact X1.out.alloc _)
      clear e2
      go_wp2
      go_roundw
      case rel => exact ⟨k + 1, by omega, by go_num, by rw [cs.out], Y0.out, Y1.out, B2.out⟩
      case measure => simp [intOf]; omega
    · have ek : k = n1 + 1 := by omega
      subst ek
      go_wp2
      go_ret
      exact ⟨ret_int EC.out.symm, HB.out⟩
end Go.Proofs.YtljfiefobnncaabDoor

/- Package polygons: fits. -/
namespace Go.Proofs.YtljfiefobnncaabDoor
open Go.RowKit

theorem fit_no {l : List (Int × Int)} {x y : Int} (h1 : Qm.loF Prod.fst l l.length ≤ x) (h2 : x < Qm.hiF Prod.fst l l.length) (h3 : Qm.loF Prod.snd l l.length ≤ y) (h4 : y < Qm.hiF Prod.snd l l.length) (h : Qm.okAt l x y = false) : Qm.fitB l = false := by
  cases hf : Qm.fitB l with
  | false => rfl
  | true => rw [(Qm.fitB_iff l).1 hf x y h1 h2 h3 h4] at h; simp at h

set_option maxRecDepth 4000 in
set_option maxHeartbeats 2000000 in
theorem fits_any (g o n cap : Nat) (l : List (Int × Int)) (hn : n = l.length) (h0 : 0 < n) (hs : Qm.Small l) (hn2 : n ≤ 4357) (w : World) (hP : PtsO g o l w) :
    Calls Tryd.prog 46 #[.slice (some ⟨g, o, none⟩) n cap] w fun e w' => e = .returned (.bool (Qm.fitB l)) ∧ Below w.heap.size w w' := by
  have HP := hid hP
  have hg := hP.1
  have HN := hid hn
  obtain ⟨q0, q1⟩ := hP.2 0 (by omega)
  obtain ⟨t0, t1⟩ := hP.2 (n - 1) (by omega)
  simp only [Nat.zero_mul, Nat.add_zero] at q0 q1
  have sa := small_in hs 0
  have sz := small_in hs (n - 1)
  have li := Qm.loF_in hs n
  have hi := Qm.hiF_in hs n
  have FI := hid (Qm.fitB_iff l)
  have FN := hid (fun x y => fit_no (l := l) (x := x) (y := y))
  have OK := hid (fun x y => show Qm.okAt l x y = (!Qm.thB (l.getD (n - 1) (0, 0)) (l.getD 0 (0, 0)) x y && decide (Qm.wsum l x y n = 0)) by rw [hn]; rfl)
  rw [← hn] at FI FN
  obtain ⟨n1, hn1⟩ : ∃ n1, n = n1 + 1 := ⟨n - 1, by omega⟩
  subst hn1
  simp only [Nat.add_sub_cancel] at t0 t1 sz OK
  obtain ⟨⟨fa, fb⟩, hff⟩ : ∃ p, p = l.getD 0 (0, 0) := ⟨_, rfl⟩
  obtain ⟨⟨za, zb⟩, hzz⟩ : ∃ p, p = l.getD n1 (0, 0) := ⟨_, rfl⟩
  rw [← hff] at q0 q1 sa OK
  rw [← hzz] at t0 t1 sz OK
  dsimp only at q0 q1 t0 t1
  have BO := hid (fun W' (h : PtsO g o l W') => bounds_any g o (n1 + 1) cap l HN.out h0 hn2 W' h)
  have GT := hid (fun x y (a : -32 ≤ x) (b : x ≤ 64) (c : -32 ≤ y) (d : y ≤ 64) W' => through_any (za, zb) (fa, fb) x y sz sa a b c d W')
  have WI := hid (fun x y (a : -32 ≤ x) (b : x ≤ 64) (c : -32 ≤ y) (d : y ≤ 64) W' (h : PtsO g o l W') => winding_any g o (n1 + 1) cap l HN.out h0 hs hn2 x y a b c d W' h)
  obtain ⟨lx, hlx⟩ : ∃ v, v = Qm.loF Prod.fst l (n1 + 1) := ⟨_, rfl⟩
  obtain ⟨ly, hly⟩ : ∃ v, v = Qm.loF Prod.snd l (n1 + 1) := ⟨_, rfl⟩
  obtain ⟨hx, hhx⟩ : ∃ v, v = Qm.hiF Prod.fst l (n1 + 1) := ⟨_, rfl⟩
  obtain ⟨hy, hhy⟩ : ∃ v, v = Qm.hiF Prod.snd l (n1 + 1) := ⟨_, rfl⟩
  rw [← hlx, ← hly] at li
  rw [← hhx, ← hhy] at hi
  rw [← hlx, ← hly, ← hhx, ← hhy] at FI FN BO
  have e0 : ((n1 : Int) + 1 == 0) = false := by simp; omega
  have hg2 : g < w.heap.size + 1 := by omega
  have hg3 : g < w.heap.size + 1 + 1 := by omega
  dsimp only at GT
  clear hP hn hff hzz hlx hly hhx hhy sa sz
  go_enter Tryd.func46, Tryd.ntmps46
  go_wp2_with fail
  refine (BO.out _ (HP.out.on (B := w.heap.size) (by go_grown) hg)).mono ?_
  rintro e w2 ⟨rfl, hb⟩
  have B2 := hid (show Below w.heap.size w w2 from Below.trans (b := _) (by go_grown) (hb.mono (by simp; omega)))
  have z2 := hb.size
  simp at z2
  have X0 : BoxP w.heap.size (fa, fb) w2 := BoxP.on ((BoxP.new _ rfl).alloc _) hb (by simp; omega)
  have X1 : BoxP (w.heap.size + 1) (za, zb) w2 := BoxP.on (BoxP.new _ (by simp)) hb (by simp)
  clear hb q0 q1 t0 t1
  have X0H := hid X0
  have X1H := hid X1
  obtain ⟨B3, hB3⟩ : ∃ B3, B3 = w2.heap.size := ⟨_, rfl⟩
  have zB : w.heap.size + 1 < B3 := by omega
  go_wp2_with fail
  rw [← hB3]
  have HB3 := hid hB3
  clear hB3
  go_loopw [7] (fun yv wr => ∃ y : Int, yv = .int .i64 y ∧ ly ≤ y ∧ (y = ly ∨ y ≤ hy) ∧ (∀ x' y', lx ≤ x' → x' < hx → ly ≤ y' → y' < y → Qm.okAt l x' y' = true) ∧ BoxP w.heap.size (fa, fb) wr ∧ BoxP (w.heap.size + 1) (za, zb) wr ∧ BoxP B3 (lx, ly) wr ∧ BoxP (B3 + 1) (hx, hy) wr ∧ Below w.heap.size w wr) (fun y _ => (hy - intOf y).toNat)
  case atStart => exact ⟨ly, rfl, by omega, .inl rfl, fun _ _ _ _ _ _ => by omega, (X0H.out.alloc _).alloc _, (X1H.out.alloc _).alloc _, (BoxP.new _ HB3.out).alloc _, BoxP.new _ (by simp [HB3.out]), (B2.out.alloc (by omega) _).alloc (by simp; omega) _⟩
  case round =>
    clear X0 X1 X0H X1H B2
    obtain ⟨y, rfl, hy0, hy1, hok, x0, x1, x2, x3, hb⟩ := hrel
    have OKS := hid hok
    have HB := hid hb
    have X0 := hid x0
    have X1 := hid x1
    have X2 := hid x2
    have X3 := hid x3
    obtain ⟨a0, a1, -, -, a4⟩ := x0
    obtain ⟨b0, b1, -, -, b4⟩ := x1
    obtain ⟨c0, c1, -, -, c4⟩ := x2
    obtain ⟨d0, d1, -, -, d4⟩ := x3
    dsimp only at a0 a1 b0 b1 c0 c1 d0 d1
    clear hok hb
    by_cases hlt : y < hy
    · go_wp2_with fail
      clear a0 a1 b0 b1 c0 c1 d0 d1 a4 b4 c4 d4
      go_loopw [8] (fun xv wr => ∃ x : Int, xv = .int .i64 x ∧ lx ≤ x ∧ (x = lx ∨ x ≤ hx) ∧ (∀ x', lx ≤ x' → x' < x → Qm.okAt l x' y = true) ∧ BoxP w.heap.size (fa, fb) wr ∧ BoxP (w.heap.size + 1) (za, zb) wr ∧ BoxP B3 (lx, ly) wr ∧ BoxP (B3 + 1) (hx, hy) wr ∧ Below w.heap.size w wr) (fun x _ => (hx - intOf x).toNat)
      case atStart => exact ⟨lx, rfl, by omega, .inl rfl, fun _ _ _ => by omega, X0.out, X1.out, X2.out, X3.out, HB.out⟩
      case round =>
        clear X0 X1 X2 X3 HB
        obtain ⟨x, rfl, hx0, hx1, hok, x0, x1, x2, x3, hb⟩ := hrel
        have OKX := hid hok
        have HB := hid hb
        have X0 := hid x0
        have X1 := hid x1
        have X2 := hid x2
        have X3 := hid x3
        obtain ⟨a0, a1, -, -, a4⟩ := x0
        obtain ⟨b0, b1, -, -, b4⟩ := x1
        obtain ⟨c0, c1, -, -, c4⟩ := x2
        obtain ⟨d0, d1, -, -, d4⟩ := x3
        dsimp only at a0 a1 b0 b1 c0 c1 d0 d1
        clear hok hb
        by_cases hlx : x < hx
        · have ok := hid (OK.out x y)
          obtain ⟨t, ht⟩ : ∃ t, Qm.thB (za, zb) (fa, fb) x y = t := ⟨_, rfl⟩
          have gt := GT.out x y (by omega) (by omega) (by omega) (by omega)
          rw [ht] at gt ok
          have GTX := hid gt
          clear gt ht
          go_wp2_with fail
          refine (GTX.out _).mono ?_
          rintro e w3 ⟨rfl, hb3⟩
          have B3' := hid (show Below w.heap.size w w3 from HB.out.trans (hb3.mono HB.out.size))
          have Y0 := hid (X0.out.on hb3 a4)
          have Y1 := hid (X1.out.on hb3 b4)
          have Y2 := hid (X2.out.on hb3 c4)
          have Y3 := hid (X3.out.on hb3 d4)
          clear hb3 a0 a1 b0 b1 c0 c1 d0 d1
          cases t
          · go_wp2_with fail
            refine (WI.out x y (by omega) (by omega) (by omega) (by omega) _ (HP.out.on B3'.out hg)).mono ?_
            rintro e w4 ⟨rfl, hb4⟩
            have z3 := B3'.out.size
            have B4 := hid (show Below w.heap.size w w4 from B3'.out.trans (hb4.mono z3))
            have Z0 := hid (Y0.out.on hb4 Y0.out.2.2.2.2)
            have Z1 := hid (Y1.out.on hb4 Y1.out.2.2.2.2)
            have Z2 := hid (Y2.out.on hb4 Y2.out.2.2.2.2)
            have Z3 := hid (Y3.out.on hb4 Y3.out.2.2.2.2)
            clear hb4
            obtain ⟨v, hv⟩ : ∃ v, Qm.wsum l x y (n1 + 1) = v := ⟨_, rfl⟩
            rw [hv] at ok ⊢
            clear hv
            by_cases hv0 : v = 0
            · subst hv0
              have okt : Qm.okAt l x y = true := by rw [ok.out]; rfl
              have OKT := hid okt
              clear okt
              go_wp2
              go_roundw
              case rel =>
                refine ⟨x + 1, by go_num, by omega, .inr (by omega), fun x' h1 h2 => ?_, Z0.out, Z1.out, Z2.out, Z3.out, B4.out⟩
                rcases Int.lt_or_le x' x with h3 | h3
                · exact OKX.out x' h1 h3
                · rw [show x' = x from by omega]; exact OKT.out
              case measure => simp [intOf]; omega
            · have ok0 : Qm.okAt l x y = false := by rw [ok.out]; simpa using hv0
              have FF := hid (FN.out x y hx0 hlx hy0 hlt ok0)
              have dv : (v == 0) = false := by simpa using hv0
              clear ok0
              go_wp2
              go_ret
              exact ⟨ret_bool FF.out.symm, B4.out⟩
          · have ok0 : Qm.okAt l x y = false := by rw [ok.out]; rfl
            have FF := hid (FN.out x y hx0 hlx hy0 hlt ok0)
            clear ok0
            go_wp2
            go_ret
            exact ⟨ret_bool FF.out.symm, B3'.out⟩
        · go_wp2
          go_roundw
          case rel =>
            refine ⟨y + 1, by go_num, by omega, .inr (by omega), fun x' y' h1 h2 h3 h4 => ?_, X0.out, X1.out, X2.out, X3.out, HB.out⟩
            rcases Int.lt_or_le y' y with h5 | h5
            · exact OKS.out x' y' h1 h2 h3 h5
            · rw [show y' = y from by omega]; exact OKX.out x' h1 (by omega)
          case measure => simp [intOf]; omega
    · have FT := hid (show Qm.fitB l = true from FI.out.2 fun x' y' h1 h2 h3 h4 => OKS.out x' y' h1 h2 h3 (by omega))
      go_wp2
      go_ret
      exact ⟨ret_bool FT.out.symm, HB.out⟩
end Go.Proofs.YtljfiefobnncaabDoor
