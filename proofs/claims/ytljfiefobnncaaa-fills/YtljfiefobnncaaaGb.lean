/- Package shape: Winding; package polygons: bounds, size, cost, isBetter. -/
import Derived.Test.YtljfiefobnncaaaGa
import Derived.Test.YtljfiefobnncaaaCl
namespace Go.Proofs.Ytljfiefobnncaaa
open Go.RowKit

/-- The points of a row stand at block g, from cell o on. -/
def PtsO (g o : Nat) (l : List (Int × Int)) (w : World) : Prop := g < w.heap.size ∧ ∀ j, j < l.length → w.cell? ⟨g, o + j * 2, none⟩ = some (.int .i64 (l.getD j (0, 0)).1) ∧ w.cell? ⟨g, o + j * 2 + 1, none⟩ = some (.int .i64 (l.getD j (0, 0)).2)
theorem PtsO.on {g o : Nat} {l : List (Int × Int)} {w w' : World} {B : Nat} (h : PtsO g o l w) (hb : Below B w w') (hg : g < B) : PtsO g o l w' :=
  ⟨Nat.lt_of_lt_of_le h.1 hb.size, fun j hj => ⟨(hb.cell (p := ⟨g, o + j * 2, none⟩) hg).trans (h.2 j hj).1, (hb.cell (p := ⟨g, o + j * 2 + 1, none⟩) hg).trans (h.2 j hj).2⟩⟩
theorem PtsAt.o {g : Nat} {l : List (Int × Int)} {w : World} (h : PtsAt g l w) : PtsO g 0 l w := ⟨h.1, fun j hj => by have := h.2 j hj; simpa using this⟩
theorem PtsO.take {g o : Nat} {l : List (Int × Int)} {w : World} (h : PtsO g o l w) (n : Nat) : PtsO g o (l.take n) w := ⟨h.1, fun j hj => by
  simp only [List.length_take] at hj
  have := h.2 j (by omega)
  rw [show (l.take n).getD j (0, 0) = l.getD j (0, 0) from by simp only [List.getD_eq_getElem?_getD]; rw [List.getElem?_take_of_lt (by omega)]]
  exact this⟩
theorem PtsO.drop {g o : Nat} {l : List (Int × Int)} {w : World} (h : PtsO g o l w) (n : Nat) : PtsO g (o + n * 2) (l.drop n) w := ⟨h.1, fun j hj => by
  simp only [List.length_drop] at hj
  have := h.2 (n + j) (by omega)
  rw [show (l.drop n).getD j (0, 0) = l.getD (n + j) (0, 0) from by simp only [List.getD_eq_getElem?_getD]; rw [List.getElem?_drop]]
  rw [show o + n * 2 + j * 2 = o + (n + j) * 2 from by omega]
  exact this⟩
theorem BoxP.on {B B' : Nat} {p : Int × Int} {w w' : World} (h : BoxP B p w) (hb : Below B' w w') (hB : B < B') : BoxP B p w' :=
  ⟨(hb.cell (p := ⟨B, 0, none⟩) hB).trans h.1, (hb.cell (p := ⟨B, 1, none⟩) hB).trans h.2.1, (hb.frozen (p := ⟨B, 0, none⟩) hB).trans h.2.2.1, (hb.frozen (p := ⟨B, 1, none⟩) hB).trans h.2.2.2.1, Nat.lt_of_lt_of_le h.2.2.2.2 hb.size⟩
theorem small_in {l : List (Int × Int)} (h : Qm.Small l) (k : Nat) : PtIn (l.getD k (0, 0)) := h.at k

set_option maxHeartbeats 1000000 in
theorem winding_big (g o n cap : Nat) (l : List (Int × Int)) (hn : n = l.length) (h0 : 0 < n) (hs : Qm.Small l) (hn2 : n ≤ 140737488355328) (x y : Int) (x0 : -32 ≤ x) (x1 : x ≤ 64) (y0 : -32 ≤ y) (y1 : y ≤ 64) (w : World) (hP : PtsO g o l w) :
    Calls Try.prog 83 #[.slice (some ⟨g, o, none⟩) n cap, .int .i64 x, .int .i64 y] w fun e w' => e = .returned (.int .i64 (Qm.wsum l x y n)) ∧ Below w.heap.size w w' := by
  have HP := hid hP
  have hg := hP.1
  have HN := hid hn
  obtain ⟨q0, q1⟩ := hP.2 (n - 1) (by omega)
  obtain ⟨n1, hn1⟩ : ∃ n1, n = n1 + 1 := ⟨n - 1, by omega⟩
  subst hn1
  have p0 := Qm.pr_zero l (by omega)
  rw [← hn] at p0
  simp only [Nat.add_sub_cancel] at q0 q1 p0
  rw [← p0] at q0 q1
  have e0 : ((n1 : Int) + 1 == 0) = false := by simp; omega
  clear hP hn p0
  go_enter Try.func83, Try.ntmps83
  go_wp2_with fail
  go_loopw [7, 9] (fun sm i wr => ∃ k : Nat, k ≤ n1 + 1 ∧ i = .int .i64 k ∧ sm = .int .i64 (Qm.wsum l x y k) ∧ BoxP w.heap.size (Qm.pr l k) wr ∧ Below w.heap.size w wr) (fun _ i _ => n1 + 1 - (intOf i).toNat)
  case atStart => exact ⟨0, by omega, rfl, rfl, ⟨by simp, by simp, by simp, by simp, by simp⟩, by go_grown⟩
  case round =>
    clear q0 q1 e0
    obtain ⟨k, hk, rfl, rfl, hbx, hb⟩ := hrel
    have HB := hid hb
    have ts := Qm.wsum_in l x y k
    by_cases hlt : k < n1 + 1
    · obtain ⟨r0, r1⟩ := (HP.out.on hb hg).2 k (by have := HN.out; omega)
      have hlt' : (k : Int) < (n1 : Int) + 1 := by omega
      have E1 := hid (Qm.pr_succ l k (by have := HN.out; omega))
      have WO := hid (fun W' => windingOf_any (Qm.pr l k) (l.getD k (0, 0)) x y (small_in hs _) (small_in hs _) x0 x1 y0 y1 W')
      have E2 : Hid (Qm.wsum l x y (k + 1) = Qm.wsum l x y k + Qm.wdZ (Qm.pr l k) (l.getD k (0, 0)) x y) := rfl
      have zd := Qm.wdZ_in (Qm.pr l k) (l.getD k (0, 0)) x y
      obtain ⟨z, hz⟩ : ∃ z, Qm.wdZ (Qm.pr l k) (l.getD k (0, 0)) x y = z := ⟨_, rfl⟩
      rw [hz] at E2 WO zd
      obtain ⟨⟨pa, pb⟩, hpp⟩ : ∃ p, p = Qm.pr l k := ⟨_, rfl⟩
      obtain ⟨⟨qa, qb⟩, hqq⟩ : ∃ p, p = l.getD k (0, 0) := ⟨_, rfl⟩
      rw [← hpp] at hbx WO
      rw [← hqq] at r0 r1 E1 WO
      dsimp only at r0 r1 WO
      have BX := hid hbx
      obtain ⟨b0, b1, f0, f1, bz⟩ := hbx
      dsimp only at b0 b1
      clear hb hpp hqq hz
      go_wp2_with fail
      refine (WO.out _).mono ?_
      rintro e w2 ⟨rfl, hb⟩
      have B2 := hid (show Below w.heap.size w w2 from (HB.out.alloc (by omega) _).trans (hb.mono (by simp; omega)))
      have z2 := hb.size
      simp at z2
      have b12 : Below wr.heap.size wr w2 := ((Below.refl _ _).alloc (Nat.le_refl _) _).trans (hb.mono (by simp))
      obtain ⟨c0, c1, g0, g1, -⟩ := BX.out.on b12 bz
      dsimp only at c0 c1
      have hc := (bcell hb).1
      have t0 := hc wr.heap.size 0 (by simp)
      have t1 := hc wr.heap.size 1 (by simp)
      simp at t0 t1
      clear hb hc b0 b1 f0 f1 r0 r1 b12
      go_wp2
      go_roundw
      case rel => exact ⟨k + 1, by omega, by go_num, by rw [E2.out], by rw [E1.out]; exact ⟨by simp [go_sem, World.cell?_setCell_other, World.cell?_setCell_same', *], by simp [go_sem, World.cell?_setCell_other, World.cell?_setCell_same', *], by simpa using g0, by simpa using g1, by simp; omega⟩, (B2.out.setCell (by simp) _).setCell (by simp) _⟩
      case measure => simp [intOf]; omega
    · have ek : k = n1 + 1 := by omega
      subst ek
      go_wp2
      go_ret
      exact ⟨rfl, HB.out⟩

theorem winding_any (g o n cap : Nat) (l : List (Int × Int)) (hn : n = l.length) (h0 : 0 < n) (hs : Qm.Small l) (hn2 : n ≤ 4357) (x y : Int) (x0 : -32 ≤ x) (x1 : x ≤ 64) (y0 : -32 ≤ y) (y1 : y ≤ 64) (w : World) (hP : PtsO g o l w) :
    Calls Try.prog 83 #[.slice (some ⟨g, o, none⟩) n cap, .int .i64 x, .int .i64 y] w fun e w' => e = .returned (.int .i64 (Qm.wsum l x y n)) ∧ Below w.heap.size w w' :=
  winding_big g o n cap l hn h0 hs (by omega) x y x0 x1 y0 y1 w hP

end Go.Proofs.Ytljfiefobnncaaa
