import Derived.Test.YtljfiefobnncaaaDoorK09
import Derived.Test.YtljfiefobnncaaaDoorK04
import Derived.Test.YtljfiefobnncaaaDoorK07

/- shape.Twice, cycles.mayBe. -/
namespace Go.Proofs.YtljfiefobnncaaaDoor
open Go.RowKit

/-- The points of a row stand at block g. -/
def PtsAt (g : Nat) (l : List (Int × Int)) (w : World) : Prop := g < w.heap.size ∧ ∀ j, j < l.length → w.cell? ⟨g, j * 2, none⟩ = some (.int .i64 (l.getD j (0, 0)).1) ∧ w.cell? ⟨g, j * 2 + 1, none⟩ = some (.int .i64 (l.getD j (0, 0)).2)
theorem PtsAt.on {g : Nat} {l : List (Int × Int)} {w w' : World} {B : Nat} (h : PtsAt g l w) (hb : Below B w w') (hg : g < B) : PtsAt g l w' :=
  ⟨Nat.lt_of_lt_of_le h.1 hb.size, fun j hj => ⟨(hb.cell (p := ⟨g, j * 2, none⟩) hg).trans (h.2 j hj).1, (hb.cell (p := ⟨g, j * 2 + 1, none⟩) hg).trans (h.2 j hj).2⟩⟩
theorem ptsV_at (l : List (Int × Int)) : ∀ j, j < l.length → (Qm.ptsV l)[j * 2]? = some (.int .i64 (l.getD j (0, 0)).1) ∧ (Qm.ptsV l)[j * 2 + 1]? = some (.int .i64 (l.getD j (0, 0)).2) := by
  induction l with
  | nil => intro j hj; simp at hj
  | cons p l ih =>
    intro j hj
    cases j with
    | zero => simp [Qm.ptsV, Qm.ptV]
    | succ j =>
      have := ih j (by simpa using hj)
      have e : Qm.ptsV (p :: l) = .int .i64 p.1 :: .int .i64 p.2 :: Qm.ptsV l := by simp [Qm.ptsV, Qm.ptV]
      rw [e, show (j + 1) * 2 = j * 2 + 1 + 1 from by omega, show j * 2 + 1 + 1 + 1 = (j * 2 + 1) + 1 + 1 from by omega]
      simpa using this
theorem add_zero_at (g j : Nat) : (⟨g, 0, none⟩ : Addr).add j = ⟨g, j, none⟩ := by unfold Addr.add; split <;> simp_all
/-- A row that is owned and not empty stands at its block. -/
theorem own_at {w : World} {b : Nat} {t : TypeId} {v : Value} {l : List (Int × Int)} {n : Nat} (h : w.ownsRow b t 2 v n (Qm.ptsV l)) (hn : 0 < n) : ∃ g cap, v = .slice (some ⟨g, 0, none⟩) n cap ∧ b ≤ g ∧ PtsAt g l w ∧ n = l.length := by
  have hl := h.1
  rw [Qm.ptsV_len] at hl
  rcases h.2 with ⟨_, h0⟩ | ⟨g, cap, cur, rfl, hb, hg, _, _, _, _⟩
  · omega
  · refine ⟨g, cap, rfl, hb, ⟨(Array.getElem?_eq_some_iff.1 hg).1, fun j hj => ?_⟩, by omega⟩
    have c := fun j u hu => h.cells (g := g) rfl j u hu
    have p := ptsV_at l j hj
    have a1 := c _ _ p.1
    have a2 := c _ _ p.2
    rw [add_zero_at] at a1 a2
    exact ⟨a1, a2⟩

/-- A point's box at block B. -/
def BoxP (B : Nat) (p : Int × Int) (w : World) : Prop := w.cell? ⟨B, 0, none⟩ = some (.int .i64 p.1) ∧ w.cell? ⟨B, 1, none⟩ = some (.int .i64 p.2) ∧ w.frozen? ⟨B, 0, none⟩ = false ∧ w.frozen? ⟨B, 1, none⟩ = false ∧ B < w.heap.size

set_option maxRecDepth 4000 in
set_option maxHeartbeats 2000000 in
theorem twice_big (g n cap : Nat) (l : List (Int × Int)) (hn : n = l.length) (h0 : 0 < n) (hs : Qm.Small l) (hn2 : n ≤ 140737488355328) (w : World) (hP : PtsAt g l w) :
    Calls Tryd.prog 66 #[.slice (some ⟨g, 0, none⟩) n cap] w fun e w' => e = .returned (.int .i64 (Qm.twiceOf l)) ∧ Below w.heap.size w w' := by
  have HP := hid hP
  have hg := hP.1
  have HN := hid hn
  obtain ⟨q0, q1⟩ := hP.2 (n - 1) (by omega)
  obtain ⟨n1, hn1⟩ : ∃ n1, n = n1 + 1 := ⟨n - 1, by omega⟩
  subst hn1
  have p0 := Qm.pr_zero l (by omega)
  rw [← hn] at p0
  simp only [Nat.add_sub_cancel] at q0 q1 p0
  rw [← p0] at q0 q1
  have e0 : ((n1 : Int) + 1 == 0) = false := by simp; omega
  clear hP hn p0
  go_enter Tryd.func66, Tryd.ntmps66
  go_wp2
  go_loopw [3, 5] (fun sm i wr => ∃ k : Nat, k ≤ n1 + 1 ∧ i = .int .i64 k ∧ sm = .int .i64 (Qm.tsum l k) ∧ BoxP w.heap.size (Qm.pr l k) wr ∧ Below w.heap.size w wr) (fun _ i _ => n1 + 1 - (intOf i).toNat)
  case atStart => exact ⟨0, by omega, rfl, rfl, ⟨by simp, by simp, by simp, by simp, by simp⟩, by go_grown⟩
  case round =>
    clear q0 q1 e0
    obtain ⟨k, hk, rfl, rfl, ⟨b0, b1, f0, f1, hz⟩, hb⟩ := hrel
    have HB := hid hb
    have ts := Qm.tsum_small hs k
    by_cases hlt : k < n1 + 1
    · obtain ⟨r0, r1⟩ := (HP.out.on hb hg).2 k (by have := HN.out; omega)
      have hlt' : (k : Int) < (n1 : Int) + 1 := by omega
      have sp := hs.at ((k + l.length - 1) % l.length)
      have sq := hs.at k
      have E1 := hid (Qm.pr_succ l k (by have := HN.out; omega))
      have m1 := Qm.mul_small sp.2.2.1 sp.2.2.2 sq.1 sq.2.1
      have m2 := Qm.mul_small sp.1 sp.2.1 sq.2.2.1 sq.2.2.2
      have E2 : Hid (Qm.tsum l (k + 1) = Qm.tsum l k + ((Qm.pr l k).2 * (l.getD k (0, 0)).1 - (Qm.pr l k).1 * (l.getD k (0, 0)).2)) := rfl
      change 0 ≤ (Qm.pr l k).1 ∧ (Qm.pr l k).1 ≤ 32 ∧ 0 ≤ (Qm.pr l k).2 ∧ (Qm.pr l k).2 ≤ 32 at sp
      change 0 ≤ (Qm.pr l k).2 * _ ∧ (Qm.pr l k).2 * _ ≤ 1024 at m1
      change 0 ≤ (Qm.pr l k).1 * _ ∧ (Qm.pr l k).1 * _ ≤ 1024 at m2
      obtain ⟨⟨pa, pb⟩, hpp⟩ : ∃ p, p = Qm.pr l k := ⟨_, rfl⟩
      obtain ⟨⟨qa, qb⟩, hqq⟩ : ∃ p, p = l.getD k (0, 0) := ⟨_, rfl⟩
      rw [← hpp] at b0 b1 m1 m2 sp E2
      rw [← hqq] at r0 r1 m1 m2 sq E1 E2
      dsimp only at b0 b1 r0 r1 m1 m2 sp sq
      obtain ⟨u, hu⟩ : ∃ u, pb * qa = u := ⟨_, rfl⟩
      obtain ⟨z, hzz⟩ : ∃ z, pa * qb = z := ⟨_, rfl⟩
      rw [hu] at m1
      rw [hzz] at m2
      clear hb hpp hqq
      go_wp2
      go_roundw
      case rel => exact ⟨k + 1, by omega, by go_num, by rw [E2.out]; dsimp only; rw [hu, hzz], by rw [E1.out]; exact ⟨by simp [go_sem, World.cell?_setCell_other, World.cell?_setCell_same', *], by simp [go_sem, World.cell?_setCell_other, World.cell?_setCell_same', *], by rw [frozen?_alloc_cells]; simpa using f0, by rw [frozen?_alloc_cells]; simpa using f1, by simp; omega⟩, ((HB.out.setCell (by simp) _).setCell (by simp) _).alloc (by simp; omega) _⟩
      case measure => simp [intOf]; omega
    · have ek : k = n1 + 1 := by omega
      subst ek
      go_wp2
      go_ret
      exact ⟨ret_int (by rw [HN.out]; exact Qm.tsum_all l (by have := HN.out; omega)), HB.out⟩

/-- May it be traced? -/
def mayB (W H : Int) (l : List UInt8) (pol spk : Int) : Bool := Pm.goodB W H l && decide (0 ≤ pol ∧ pol ≤ 3) && decide (0 ≤ spk ∧ spk ≤ 1024)
theorem mayB_pol {W H : Int} {l : List UInt8} {pol spk : Int} (h : ¬ (0 ≤ pol ∧ pol ≤ 3)) : mayB W H l pol spk = false := by unfold mayB; rw [decide_eq_false h]; simp
theorem mayB_spk {W H : Int} {l : List UInt8} {pol spk : Int} (h : ¬ (0 ≤ spk ∧ spk ≤ 1024)) : mayB W H l pol spk = false := by unfold mayB; rw [decide_eq_false h]; simp
theorem mayB_good {W H : Int} {l : List UInt8} {pol spk : Int} (h : 0 ≤ pol ∧ pol ≤ 3) (h2 : 0 ≤ spk ∧ spk ≤ 1024) : mayB W H l pol spk = Pm.goodB W H l := by unfold mayB; rw [decide_eq_true h, decide_eq_true h2]; simp



theorem twice_any (g n cap : Nat) (l : List (Int × Int)) (hn : n = l.length) (h0 : 0 < n) (hs : Qm.Small l) (hn2 : n ≤ 4356) (w : World) (hP : PtsAt g l w) :
    Calls Tryd.prog 66 #[.slice (some ⟨g, 0, none⟩) n cap] w fun e w' => e = .returned (.int .i64 (Qm.twiceOf l)) ∧ Below w.heap.size w w' :=
  twice_big g n cap l hn h0 hs (by omega) w hP

end Go.Proofs.YtljfiefobnncaaaDoor

/- Package shape: Winding; package polygons: bounds, size, cost, isBetter. -/
namespace Go.Proofs.YtljfiefobnncaaaDoor
open Go.RowKit

/-- The points of a row stand at block g, from cell o on. -/
def PtsO (g o : Nat) (l : List (Int × Int)) (w : World) : Prop := g < w.heap.size ∧ ∀ j, j < l.length → w.cell? ⟨g, o + j * 2, none⟩ = some (.int .i64 (l.getD j (0, 0)).1) ∧ w.cell? ⟨g, o + j * 2 + 1, none⟩ = some (.int .i64 (l.getD j (0, 0)).2)
theorem PtsO.on {g o : Nat} {l : List (Int × Int)} {w w' : World} {B : Nat} (h : PtsO g o l w) (hb : Below B w w') (hg : g < B) : PtsO g o l w' :=
  ⟨Nat.lt_of_lt_of_le h.1 hb.size, fun j hj => ⟨(hb.cell (p := ⟨g, o + j * 2, none⟩) hg).trans (h.2 j hj).1, (hb.cell (p := ⟨g, o + j * 2 + 1, none⟩) hg).trans (h.2 j hj).2⟩⟩
theorem PtsAt.o {g : Nat} {l : List (Int × Int)} {w : World} (h : PtsAt g l w) : PtsO g 0 l w := ⟨h.1, fun j hj => by have := h.2 j hj; simpa using this⟩
theorem PtsO.take {g o : Nat} {l : List (Int × Int)} {w : World} (h : PtsO g o l w) (n : Nat) : PtsO g o (l.take n) w := ⟨h.1, fun j hj => by
  simp only [List.length_take] at hj
  have := h.2 j (by omega)
  rw [show (l.take n).getD j (0, 0) = l.getD j (0, 0) from by simp only [List.getD_eq_getElem?_getD]; rw [List.getElem?_take_of_lt (by omega)]]
  exact this⟩
theorem PtsO.drop {g o : Nat} {l : List (Int × Int)} {w : World} (h : PtsO g o l w) (n : Nat) : PtsO g (o + n * 2) (l.drop n) w := ⟨h.1, fun j hj => by
  simp only [List.length_drop] at hj
  have := h.2 (n + j) (by omega)
  rw [show (l.drop n).getD j (0, 0) = l.getD (n + j) (0, 0) from by simp only [List.getD_eq_getElem?_getD]; rw [List.getElem?_drop]]
  rw [show o + n * 2 + j * 2 = o + (n + j) * 2 from by omega]
  exact this⟩
theorem BoxP.on {B B' : Nat} {p : Int × Int} {w w' : World} (h : BoxP B p w) (hb : Below B' w w') (hB : B < B') : BoxP B p w' :=
  ⟨(hb.cell (p := ⟨B, 0, none⟩) hB).trans h.1, (hb.cell (p := ⟨B, 1, none⟩) hB).trans h.2.1, (hb.frozen (p := ⟨B, 0, none⟩) hB).trans h.2.2.1, (hb.frozen (p := ⟨B, 1, none⟩) hB).trans h.2.2.2.1, Nat.lt_of_lt_of_le h.2.2.2.2 hb.size⟩
theorem small_in {l : List (Int × Int)} (h : Qm.Small l) (k : Nat) : PtIn (l.getD k (0, 0)) := h.at k





end Go.Proofs.YtljfiefobnncaaaDoor
