import Derived.Test.YtljfiefobnncaabDoorK02

/- isDrawn, joins of package cycles. -/
namespace Go.Proofs.YtljfiefobnncaabDoor
open Go.RowKit
attribute [local go_sem ↓] Go.wp_at_zero Go.wp_at_succ

set_option maxRecDepth 4000 in
set_option maxHeartbeats 2000000 in
theorem isDrawn_any (W H : Nat) (s : ByteArray) (pol : Int) (draws : ByteArray) (spk : Int) (x y : Nat) (hx : x ≤ 100) (hy : y ≤ 100) (w : World) (hw2 : W ≤ 32) :
    Calls Tryd.prog 64 #[.agg #[.int .i64 W, .int .i64 H, .string s], .agg #[.int .i64 pol, .string draws, .int .i64 spk], .agg #[.int .i64 x, .int .i64 y]] w fun e w' => e = .returned (.bool (Pm.bitAt draws.data.toList ((y : Int) * (W + 1) + x).toNat)) ∧ Below w.heap.size w w' := by
  obtain ⟨k, hk⟩ : ∃ k : Nat, k = y * (W + 1) := ⟨_, rfl⟩
  have ek : (y : Int) * ((W : Int) + 1) = (k : Nat) := by rw [hk]; simp
  have hk2 : k ≤ 100 * 33 := by rw [hk]; exact Nat.mul_le_mul hy (by omega)
  rw [ek, show ((k : Int) + (x : Int)).toNat = k + x from by omega]
  clear hk
  by_cases hlt : k + x < draws.size
  · by_cases q : (draws[k + x].toNat : Int) = 49
    · have E := hid (Pm.bitAt_yes draws _ hlt q)
      go_enter Tryd.func64, Tryd.ntmps64
      go_wp2
      go_ret
      exact ⟨ret_bool E.out.symm, by go_grown⟩
    · have E := hid (Pm.bitAt_no draws _ hlt q)
      have b0 : ((draws[k + x].toNat : Int) == 49) = false := by simpa using q
      go_enter Tryd.func64, Tryd.ntmps64
      go_wp2
      go_ret
      exact ⟨ret_bool E.out.symm, by go_grown⟩
  · have E := hid (Pm.bitAt_out draws _ hlt)
    go_enter Tryd.func64, Tryd.ntmps64
    go_wp2
    go_ret
    exact ⟨ret_bool E.out.symm, by go_grown⟩

set_option maxRecDepth 4000 in
set_option maxHeartbeats 2000000 in
theorem joins_any (W H : Nat) (s : ByteArray) (pol : Nat) (draws : ByteArray) (spk : Int) (x y : Nat) (hp : pol ≤ 3) (hx : x ≤ 100) (hy : y ≤ 100) (w : World) (hw2 : W ≤ 32) (hh2 : H ≤ 32) (hl : s.size = W * H) :
    Calls Tryd.prog 55 #[.agg #[.int .i64 W, .int .i64 H, .string s], .agg #[.int .i64 pol, .string draws, .int .i64 spk], .agg #[.int .i64 x, .int .i64 y]] w fun e w' => e = .returned (.bool (Qm.jnB W H s.data.toList pol draws.data.toList x y)) ∧ Below w.heap.size w w' := by
  have HL := hid hl
  clear hl
  match pol, hp with
  | 0, _ =>
    go_enter Tryd.func55, Tryd.ntmps55
    go_wp2
    go_ret
    exact ⟨ret_bool (Qm.jnB_0 ..).symm, by go_grown⟩
  | 1, _ =>
    go_enter Tryd.func55, Tryd.ntmps55
    go_wp2
    go_ret
    exact ⟨ret_bool (Qm.jnB_1 ..).symm, by go_grown⟩
  | 2, _ =>
    go_enter Tryd.func55, Tryd.ntmps55
    go_wp2_with fail
    refine (blackAround_any W H s x y (by omega) (by omega) _ hw2 hh2 HL.out).mono ?_
    rintro e w1 ⟨rfl, hb⟩
    have hc := Qm.cntTo_le (Pm.blackB W H s.data.toList) x y 16
    go_wp2
    go_ret
    exact ⟨ret_bool (by show _ = Qm.jnB W H s.data.toList 2 draws.data.toList x y; rw [Qm.jnB_2]; simp; omega), Below.trans (b := _) (by go_grown) (hb.mono (by simp; omega))⟩
  | 3, _ =>
    go_enter Tryd.func55, Tryd.ntmps55
    go_wp2_with fail
    refine (isDrawn_any W H s 3 draws spk x y hx hy _ hw2).mono ?_
    rintro e w1 ⟨rfl, hb⟩
    go_wp2
    go_ret
    exact ⟨ret_bool (Qm.jnB_3 ..).symm, Below.trans (b := _) (by go_grown) (hb.mono (by simp; omega))⟩
end Go.Proofs.YtljfiefobnncaabDoor

/- next of package cycles. -/
namespace Go.Proofs.YtljfiefobnncaabDoor
open Go.RowKit
attribute [local go_sem ↓] Go.wp_at_zero Go.wp_at_succ

theorem bcell {W w1 : World} (hb : Below W.heap.size W w1) : (∀ b o, b < W.heap.size → w1.cell? ⟨b, o, none⟩ = W.cell? ⟨b, o, none⟩) ∧ (∀ b o, b < W.heap.size → w1.frozen? ⟨b, o, none⟩ = W.frozen? ⟨b, o, none⟩) :=
  ⟨fun b o h => hb.cell (p := ⟨b, o, none⟩) h, fun b o h => hb.frozen (p := ⟨b, o, none⟩) h⟩

/-- All ways through a piece of code end in one frame and one world. -/
theorem wp_one {P : Program} {c : Code} {Q : Exit → Act → World → Prop} {a : Act} {w : World} (A : Act) (W : World) (h : c.wp P (fun e a' w' => e = .normal ∧ a' = A ∧ w' = W) a w) (k : Q .normal A W) : c.wp P Q a w :=
  Code.wp_mono (fun e a' w' ⟨h1, h2, h3⟩ => by subst h1 h2 h3; exact k) h

/-- The walker at block g: its bitmap and its options. -/
def Wk (g W H : Nat) (s : ByteArray) (pol : Nat) (draws : ByteArray) (spk : Int) (w : World) : Prop :=
  w.cell? ⟨g, 0, none⟩ = some (.int .i64 W) ∧ w.cell? ⟨g, 1, none⟩ = some (.int .i64 H) ∧ w.cell? ⟨g, 2, none⟩ = some (.string s) ∧ w.cell? ⟨g, 3, none⟩ = some (.int .i64 pol) ∧ w.cell? ⟨g, 4, none⟩ = some (.string draws) ∧ w.cell? ⟨g, 5, none⟩ = some (.int .i64 spk) ∧ g < w.heap.size

theorem nxD_eq (bl jn : Int → Int → Bool) (px py : Int) (d : Nat) : Qm.nxD bl jn (px, py) d =
    if Qm.isS bl (px, py, if jn px py then (d + 3) % 4 else (d + 1) % 4) then (if jn px py then (d + 3) % 4 else (d + 1) % 4)
    else if Qm.isS bl (px, py, d) then d else (if jn px py then (d + 1) % 4 else (d + 3) % 4) := rfl

section
variable {bl jn : Int → Int → Bool} {px py : Int} {d : Nat}
theorem nxD_f1 (hj : jn px py = false) (ha : Qm.isS bl (px, py, (d + 1) % 4) = true) : Qm.nxD bl jn (px, py) d = (d + 1) % 4 := by rw [nxD_eq]; simp [hj, ha]
theorem nxD_f2 (hj : jn px py = false) (ha : Qm.isS bl (px, py, (d + 1) % 4) = false) (hb : Qm.isS bl (px, py, d) = true) : Qm.nxD bl jn (px, py) d = d := by rw [nxD_eq]; simp [hj, ha, hb]
theorem nxD_f3 (hj : jn px py = false) (ha : Qm.isS bl (px, py, (d + 1) % 4) = false) (hb : Qm.isS bl (px, py, d) = false) : Qm.nxD bl jn (px, py) d = (d + 3) % 4 := by rw [nxD_eq]; simp [hj, ha, hb]
theorem nxD_t1 (hj : jn px py = true) (ha : Qm.isS bl (px, py, (d + 3) % 4) = true) : Qm.nxD bl jn (px, py) d = (d + 3) % 4 := by rw [nxD_eq]; simp [hj, ha]
theorem nxD_t2 (hj : jn px py = true) (ha : Qm.isS bl (px, py, (d + 3) % 4) = false) (hb : Qm.isS bl (px, py, d) = true) : Qm.nxD bl jn (px, py) d = d := by rw [nxD_eq]; simp [hj, ha, hb]
theorem nxD_t3 (hj : jn px py = true) (ha : Qm.isS bl (px, py, (d + 3) % 4) = false) (hb : Qm.isS bl (px, py, d) = false) : Qm.nxD bl jn (px, py) d = (d + 1) % 4 := by rw [nxD_eq]; simp [hj, ha, hb]
end

/-- What 'next' has laid at blocks B to B + 8. -/
def Nx (B g W H : Nat) (s : ByteArray) (pol : Nat) (draws : ByteArray) (spk : Int) (px py d : Nat) (n f : Int) (w X : World) : Prop :=
  Wk g W H s pol draws spk X ∧ (X.cell? ⟨B + 1 + 1 + 1 + 1 + 1, 0, none⟩ = some (.int .i64 px) ∧ X.cell? ⟨B + 1 + 1 + 1 + 1 + 1, 1, none⟩ = some (.int .i64 py)) ∧
  (X.cell? ⟨B + 1 + 1 + 1 + 1 + 1 + 1, 0, none⟩ = some (.int .i64 px) ∧ X.cell? ⟨B + 1 + 1 + 1 + 1 + 1 + 1, 1, none⟩ = some (.int .i64 py) ∧ X.cell? ⟨B + 1 + 1 + 1 + 1 + 1 + 1, 2, none⟩ = some (.int .i64 d)) ∧
  (X.cell? ⟨B + 1 + 1 + 1 + 1 + 1 + 1 + 1, 0, none⟩ = some (.int .i64 px) ∧ X.cell? ⟨B + 1 + 1 + 1 + 1 + 1 + 1 + 1, 1, none⟩ = some (.int .i64 py) ∧ X.cell? ⟨B + 1 + 1 + 1 + 1 + 1 + 1 + 1, 2, none⟩ = some (.int .i64 n)) ∧
  (X.cell? ⟨B + 1 + 1 + 1 + 1 + 1 + 1 + 1 + 1, 0, none⟩ = some (.int .i64 px) ∧ X.cell? ⟨B + 1 + 1 + 1 + 1 + 1 + 1 + 1 + 1, 1, none⟩ = some (.int .i64 py) ∧ X.cell? ⟨B + 1 + 1 + 1 + 1 + 1 + 1 + 1 + 1, 2, none⟩ = some (.int .i64 f)) ∧
  (X.cell? ⟨B + 1, 0, none⟩ = some (.int .i64 0) ∧ X.cell? ⟨B + 1, 1, none⟩ = some (.int .i64 0) ∧ X.cell? ⟨B + 1, 2, none⟩ = some (.int .i64 0)) ∧
  (∀ k j, B < k → k ≤ B + 8 → X.frozen? ⟨k, j, none⟩ = false) ∧
  Below B w X ∧ B + 8 < X.heap.size

theorem frozen_drew (w : World) (a : Addr) : w.drew.frozen? a = w.frozen? a := rfl
theorem frozen_past (w : World) (k j : Nat) (h : w.heap.size ≤ k) : w.frozen? ⟨k, j, none⟩ = false := by
  simp [World.frozen?, Array.getElem?_eq_none h]

theorem Wk.on {g W H : Nat} {s : ByteArray} {pol : Nat} {draws : ByteArray} {spk : Int} {w w' : World} (h : Wk g W H s pol draws spk w) (hb : Below w.heap.size w w') : Wk g W H s pol draws spk w' := by
  obtain ⟨c0, c1, c2, c3, c4, c5, hz⟩ := h
  exact ⟨(hb.cell (p := ⟨g, 0, none⟩) hz).trans c0, (hb.cell (p := ⟨g, 1, none⟩) hz).trans c1, (hb.cell (p := ⟨g, 2, none⟩) hz).trans c2, (hb.cell (p := ⟨g, 3, none⟩) hz).trans c3, (hb.cell (p := ⟨g, 4, none⟩) hz).trans c4, (hb.cell (p := ⟨g, 5, none⟩) hz).trans c5, Nat.lt_of_lt_of_le hz hb.size⟩

theorem Nx.on {B g W H : Nat} {s : ByteArray} {pol : Nat} {draws : ByteArray} {spk : Int} {px py d : Nat} {n f : Int} {w X Y : World} (h : Nx B g W H s pol draws spk px py d n f w X) (hb : Below X.heap.size X Y) : Nx B g W H s pol draws spk px py d n f w Y := by
  obtain ⟨hW, ⟨p0, p1⟩, ⟨a0, a1, a2⟩, ⟨b0, b1, b2⟩, ⟨e0, e1, e2⟩, ⟨r0, r1, r2⟩, fz, hB, hz⟩ := h
  have C : ∀ k j, k < X.heap.size → Y.cell? ⟨k, j, none⟩ = X.cell? ⟨k, j, none⟩ := fun k j hk => hb.cell (p := ⟨k, j, none⟩) hk
  have F : ∀ k j, k < X.heap.size → Y.frozen? ⟨k, j, none⟩ = X.frozen? ⟨k, j, none⟩ := fun k j hk => hb.frozen (p := ⟨k, j, none⟩) hk
  refine ⟨hW.on hb, ⟨?_, ?_⟩, ⟨?_, ?_, ?_⟩, ⟨?_, ?_, ?_⟩, ⟨?_, ?_, ?_⟩, ⟨?_, ?_, ?_⟩, fun k j h1 h2 => (F k j (by omega)).trans (fz k j h1 h2), hB.trans (hb.mono (by omega)), Nat.lt_of_lt_of_le hz hb.size⟩
  all_goals (rw [C _ _ (by omega)]; assumption)

theorem Nx.drawn {B g W H : Nat} {s : ByteArray} {pol : Nat} {draws : ByteArray} {spk : Int} {px py d : Nat} {n f : Int} {w X Y : World} (h : Nx B g W H s pol draws spk px py d n f w X) (hb : Below X.drew.heap.size X.drew Y) : Nx B g W H s pol draws spk px py d n f w Y :=
  Nx.on (X := X.drew) ⟨h.1, h.2.1, h.2.2.1, h.2.2.2.1, h.2.2.2.2.1, h.2.2.2.2.2.1, h.2.2.2.2.2.2.1, h.2.2.2.2.2.2.2.1.drew, h.2.2.2.2.2.2.2.2⟩ hb

theorem Nx.swap {B g W H : Nat} {s : ByteArray} {pol : Nat} {draws : ByteArray} {spk : Int} {px py d : Nat} {n f : Int} {w X : World} (h : Nx B g W H s pol draws spk px py d n f w X) (hg : g < B) :
    Nx B g W H s pol draws spk px py d f n w ((((((X.setCell ⟨B + 1 + 1 + 1 + 1 + 1 + 1 + 1, 0, none⟩ (.int .i64 px)).setCell ⟨B + 1 + 1 + 1 + 1 + 1 + 1 + 1, 1, none⟩ (.int .i64 py)).setCell ⟨B + 1 + 1 + 1 + 1 + 1 + 1 + 1, 2, none⟩ (.int .i64 f)).setCell ⟨B + 1 + 1 + 1 + 1 + 1 + 1 + 1 + 1, 0, none⟩ (.int .i64 px)).setCell ⟨B + 1 + 1 + 1 + 1 + 1 + 1 + 1 + 1, 1, none⟩ (.int .i64 py)).setCell ⟨B + 1 + 1 + 1 + 1 + 1 + 1 + 1 + 1, 2, none⟩ (.int .i64 n)) := by
  obtain ⟨⟨c0, c1, c2, c3, c4, c5, hz0⟩, ⟨p0, p1⟩, ⟨a0, a1, a2⟩, ⟨b0, b1, b2⟩, ⟨e0, e1, e2⟩, ⟨r0, r1, r2⟩, fz, hB, hz⟩ := h
  have n7 : B + 1 + 1 + 1 + 1 + 1 + 1 + 1 ≠ g := by omega
  have n8 : B + 1 + 1 + 1 + 1 + 1 + 1 + 1 + 1 ≠ g := by omega
  refine ⟨⟨?_, ?_, ?_, ?_, ?_, ?_, ?_⟩, ⟨?_, ?_⟩, ⟨?_, ?_, ?_⟩, ⟨?_, ?_, ?_⟩, ⟨?_, ?_, ?_⟩, ⟨?_, ?_, ?_⟩, fun k j h1 h2 => by simpa using fz k j h1 h2, ?_, ?_⟩
  case refine_22 => exact (((((hB.setCell (by first | omega | (dsimp; omega)) _).setCell (by first | omega | (dsimp; omega)) _).setCell (by first | omega | (dsimp; omega)) _).setCell (by first | omega | (dsimp; omega)) _).setCell (by first | omega | (dsimp; omega)) _).setCell (by first | omega | (dsimp; omega)) _
  all_goals first | (simp [World.cell?_setCell_other, World.cell?_setCell_same', *]; done) | (simp [go_sem, World.cell?_setCell_other, World.cell?_setCell_same', *]; done) | (simp only [World.size_setCell]; omega)

set_option maxRecDepth 4000 in
set_option maxHeartbeats 4000000 in
theorem next_any (g W H : Nat) (s : ByteArray) (pol : Nat) (draws : ByteArray) (spk : Int) (x y : Int) (d px py : Nat) (hd : d < 4) (hx : -1000 ≤ x ∧ x ≤ 1000) (hy : -1000 ≤ y ∧ y ≤ 1000) (hpx : px ≤ 100) (hpy : py ≤ 100) (he : Qm.en (x, y, d) = ((px : Int), (py : Int))) (hp : pol ≤ 3) (w : World) (hW : Wk g W H s pol draws spk w) (hw2 : W ≤ 32) (hh2 : H ≤ 32) (hl : s.size = W * H) :
    Calls Tryd.prog 45 #[.pointer (some ⟨g, 0, none⟩), .agg #[.int .i64 x, .int .i64 y, .int .i64 d]] w fun e w' => e = .returned (.agg #[.int .i64 px, .int .i64 py, .int .i64 (Qm.nxD (Pm.blackB W H s.data.toList) (Qm.jnB W H s.data.toList pol draws.data.toList) (px, py) d : Nat)]) ∧ Below w.heap.size w w' := by
  have HL := hid hl
  have HE := hid he
  clear hl he
  have HW := hid hW
  obtain ⟨c0, c1, c2, c3, c4, c5, hz⟩ := hW
  go_enter Tryd.func45, Tryd.ntmps45
  go_wp2_with fail
  refine (end_any x y d hd hx hy _).mono ?_
  rintro e w1 ⟨rfl, o1, o2, o3, rfl⟩
  rw [HE.out]
  go_wp2_with fail
  apply wp_one
  case h =>
    go_region_held3 (fun w' => w'.cell? ⟨w.heap.size, 2, none⟩ = some (.int .i64 d) ∧ w'.cell? ⟨w.heap.size + 1 + 1 + 1 + 1 + 1, 0, none⟩ = some (.int .i64 px) ∧ w'.cell? ⟨w.heap.size + 1 + 1 + 1 + 1 + 1, 1, none⟩ = some (.int .i64 py))
      (first | (simp [go_sem]; done) | (go_keep))
      ((go_at_call 53; refine (leftOf_any d hd _).mono ?_; rintro e w1 ⟨rfl, rfl⟩))
    all_goals exact ⟨rfl, rfl, rfl⟩
  go_wp2_with fail
  apply wp_one
  case h =>
    go_region_held3 (fun w' => w'.cell? ⟨w.heap.size, 2, none⟩ = some (.int .i64 d) ∧ w'.cell? ⟨w.heap.size + 1 + 1 + 1 + 1 + 1, 0, none⟩ = some (.int .i64 px) ∧ w'.cell? ⟨w.heap.size + 1 + 1 + 1 + 1 + 1, 1, none⟩ = some (.int .i64 py))
      (first | (simp [go_sem]; done) | (go_keep))
      ((go_at_call 54; refine (rightOf_any d hd _).mono ?_; rintro e w1 ⟨rfl, rfl⟩))
    all_goals exact ⟨rfl, rfl, rfl⟩
  go_wp2_with fail
  all_goals
    generalize hX : World.drew (World.drew _) = X
    have hN : Nx w.heap.size g W H s pol draws spk px py d (((d : Int) + 1) % 4) (((d : Int) + 3) % 4) w X := by
      rw [← hX]
      refine ⟨HW.out.on (by go_grown), ⟨?_, ?_⟩, ⟨?_, ?_, ?_⟩, ⟨?_, ?_, ?_⟩, ⟨?_, ?_, ?_⟩, ⟨?_, ?_, ?_⟩, fun k j h1 h2 => by simp only [frozen_drew, frozen?_alloc_cells]; exact frozen_past _ _ _ (by omega), by go_grown, ?_⟩
      all_goals first | (simp [go_sem]; done) | (simp; omega)
    clear hX
    have HN := hid hN
    obtain ⟨⟨c0, c1, c2, c3, c4, c5, hz⟩, ⟨p0, p1⟩, ⟨a0, a1, a2⟩, ⟨b0, b1, b2⟩, ⟨e0, e1, e2⟩, ⟨r0, r1, r2⟩, fz, hB, hz8⟩ := hN
    clear hB fz
  all_goals
    go_region_held3 (fun w' => w'.cell? ⟨g, 0, none⟩ = some (.int .i64 W) ∧ w'.cell? ⟨g, 1, none⟩ = some (.int .i64 H) ∧ w'.cell? ⟨g, 2, none⟩ = some (.string s) ∧ w'.cell? ⟨g, 3, none⟩ = some (.int .i64 pol) ∧ w'.cell? ⟨g, 4, none⟩ = some (.string draws) ∧ w'.cell? ⟨g, 5, none⟩ = some (.int .i64 spk) ∧ w'.cell? ⟨w.heap.size + 1 + 1 + 1 + 1 + 1, 0, none⟩ = some (.int .i64 px) ∧ w'.cell? ⟨w.heap.size + 1 + 1 + 1 + 1 + 1, 1, none⟩ = some (.int .i64 py))
      (first | exact ⟨c0, c1, c2, c3, c4, c5, p0, p1⟩ | (have hq := (by assumption : Hid (Nx _ _ _ _ _ _ _ _ _ _ _ _ _ _ _)).out; exact ⟨hq.1.1, hq.1.2.1, hq.1.2.2.1, hq.1.2.2.2.1, hq.1.2.2.2.2.1, hq.1.2.2.2.2.2.1, hq.2.1.1, hq.2.1.2⟩))
      ((go_at_call 55; refine (joins_any W H s pol draws spk px py hp hpx hpy _ hw2 hh2 HL.out).mono ?_; rintro e w1 ⟨rfl, hb⟩; have HN1 := hid (HN.out.drawn hb); clear hb))
  all_goals
    obtain ⟨⟨c0, c1, c2, c3, c4, c5, hz⟩, ⟨p0, p1⟩, ⟨a0, a1, a2⟩, ⟨b0, b1, b2⟩, ⟨e0, e1, e2⟩, ⟨r0, r1, r2⟩, fz, -, hz8⟩ := HN1.out
    have f70 := fz (w.heap.size + 1 + 1 + 1 + 1 + 1 + 1 + 1) 0 (by omega) (by omega)
    have f71 := fz (w.heap.size + 1 + 1 + 1 + 1 + 1 + 1 + 1) 1 (by omega) (by omega)
    have f72 := fz (w.heap.size + 1 + 1 + 1 + 1 + 1 + 1 + 1) 2 (by omega) (by omega)
    have f80 := fz (w.heap.size + 1 + 1 + 1 + 1 + 1 + 1 + 1 + 1) 0 (by omega) (by omega)
    have f81 := fz (w.heap.size + 1 + 1 + 1 + 1 + 1 + 1 + 1 + 1) 1 (by omega) (by omega)
    have f82 := fz (w.heap.size + 1 + 1 + 1 + 1 + 1 + 1 + 1 + 1) 2 (by omega) (by omega)
    clear fz
    have hz0 := HW.out.2.2.2.2.2.2
    cases hj : Qm.jnB W H s.data.toList pol draws.data.toList px py
    case false =>
      go_wp2_with fail
      clear c0 c1 c2 c3 c4 c5 p0 p1 a0 a1 a2 b0 b1 b2 e0 e1 e2 r0 r1 r2 hz8 hz f70 f71 f72 f80 f81 f82
      have HN2 := HN1
      clear HN1
      cases ha : Qm.isS (Pm.blackB W H s.data.toList) (px, py, (d + 1) % 4)
      case true =>
        go_region_held3 (fun w' => w'.cell? ⟨g, 0, none⟩ = some (.int .i64 W) ∧ w'.cell? ⟨g, 1, none⟩ = some (.int .i64 H) ∧ w'.cell? ⟨g, 2, none⟩ = some (.string s) ∧ w'.cell? ⟨w.heap.size + 1 + 1 + 1 + 1 + 1 + 1 + 1, 0, none⟩ = some (.int .i64 px) ∧ w'.cell? ⟨w.heap.size + 1 + 1 + 1 + 1 + 1 + 1 + 1, 1, none⟩ = some (.int .i64 py) ∧ w'.cell? ⟨w.heap.size + 1 + 1 + 1 + 1 + 1 + 1 + 1, 2, none⟩ = some (.int .i64 ((d + 1) % 4 : Nat)))
          (first | (have hq := HN3.out; exact ⟨hq.1.1, hq.1.2.1, hq.1.2.2.1, hq.2.2.2.1.1, hq.2.2.2.1.2.1, hq.2.2.2.1.2.2⟩) | (have hq := HN2.out; exact ⟨hq.1.1, hq.1.2.1, hq.1.2.2.1, hq.2.2.2.1.1, hq.2.2.2.1.2.1, hq.2.2.2.1.2.2⟩))
          ((go_at_call 51; refine (cIsSide_any W H s px py ((d + 1) % 4) (by omega) (by omega) (by omega) _ hw2 hh2 HL.out).mono ?_; rintro e w2 ⟨rfl, hb⟩; have HN3 := hid (Nx.drawn HN2.out hb); clear hb; rw [ha]))
        obtain ⟨⟨c0, c1, c2, c3, c4, c5, hz⟩, ⟨p0, p1⟩, ⟨a0, a1, a2⟩, ⟨b0, b1, b2⟩, ⟨e0, e1, e2⟩, ⟨r0, r1, r2⟩, fz, -, hz8⟩ := HN3.out
        have f10 := fz (w.heap.size + 1) 0 (by omega) (by omega)
        have f11 := fz (w.heap.size + 1) 1 (by omega) (by omega)
        have f12 := fz (w.heap.size + 1) 2 (by omega) (by omega)
        clear fz
        go_wp2
        refine bodyPost_ret (v := .agg #[.int .i64 px, .int .i64 py, .int .i64 ((d + 1) % 4 : Nat)]) (by simp [results, Tryd.results45, go_sem, *]) rfl ?_
        exact ⟨by rw [nxD_f1 hj ha], ((HN3.out.2.2.2.2.2.2.2.1.setCell (by dsimp; omega) _).setCell (by dsimp; omega) _).setCell (by dsimp; omega) _⟩
      case false =>
        go_region_held3 (fun w' => w'.cell? ⟨g, 0, none⟩ = some (.int .i64 W) ∧ w'.cell? ⟨g, 1, none⟩ = some (.int .i64 H) ∧ w'.cell? ⟨g, 2, none⟩ = some (.string s) ∧ w'.cell? ⟨w.heap.size + 1 + 1 + 1 + 1 + 1 + 1 + 1, 0, none⟩ = some (.int .i64 px) ∧ w'.cell? ⟨w.heap.size + 1 + 1 + 1 + 1 + 1 + 1 + 1, 1, none⟩ = some (.int .i64 py) ∧ w'.cell? ⟨w.heap.size + 1 + 1 + 1 + 1 + 1 + 1 + 1, 2, none⟩ = some (.int .i64 ((d + 1) % 4 : Nat)))
          (first | (have hq := HN3.out; exact ⟨hq.1.1, hq.1.2.1, hq.1.2.2.1, hq.2.2.2.1.1, hq.2.2.2.1.2.1, hq.2.2.2.1.2.2⟩) | (have hq := HN2.out; exact ⟨hq.1.1, hq.1.2.1, hq.1.2.2.1, hq.2.2.2.1.1, hq.2.2.2.1.2.1, hq.2.2.2.1.2.2⟩))
          ((go_at_call 51; refine (cIsSide_any W H s px py ((d + 1) % 4) (by omega) (by omega) (by omega) _ hw2 hh2 HL.out).mono ?_; rintro e w2 ⟨rfl, hb⟩; have HN3 := hid (Nx.drawn HN2.out hb); clear hb; rw [ha]))
        obtain ⟨⟨c0, c1, c2, c3, c4, c5, hz⟩, ⟨p0, p1⟩, ⟨a0, a1, a2⟩, ⟨b0, b1, b2⟩, ⟨e0, e1, e2⟩, ⟨r0, r1, r2⟩, fz, -, hz8⟩ := HN3.out
        have f10 := fz (w.heap.size + 1) 0 (by omega) (by omega)
        have f11 := fz (w.heap.size + 1) 1 (by omega) (by omega)
        have f12 := fz (w.heap.size + 1) 2 (by omega) (by omega)
        clear fz
        go_wp2_with fail
        clear c0 c1 c2 c3 c4 c5 p0 p1 a0 a1 a2 b0 b1 b2 e0 e1 e2 r0 r1 r2 hz8 f10 f11 f12 hz
        cases hb2 : Qm.isS (Pm.blackB W H s.data.toList) (px, py, d)
        case true =>
          go_region_held3 (fun w' => w'.cell? ⟨g, 0, none⟩ = some (.int .i64 W) ∧ w'.cell? ⟨g, 1, none⟩ = some (.int .i64 H) ∧ w'.cell? ⟨g, 2, none⟩ = some (.string s) ∧ w'.cell? ⟨w.heap.size + 1 + 1 + 1 + 1 + 1 + 1, 0, none⟩ = some (.int .i64 px) ∧ w'.cell? ⟨w.heap.size + 1 + 1 + 1 + 1 + 1 + 1, 1, none⟩ = some (.int .i64 py) ∧ w'.cell? ⟨w.heap.size + 1 + 1 + 1 + 1 + 1 + 1, 2, none⟩ = some (.int .i64 (d : Nat)))
            (first | (have hq := HN4.out; exact ⟨hq.1.1, hq.1.2.1, hq.1.2.2.1, hq.2.2.1.1, hq.2.2.1.2.1, hq.2.2.1.2.2⟩) | (have hq := HN3.out; exact ⟨hq.1.1, hq.1.2.1, hq.1.2.2.1, hq.2.2.1.1, hq.2.2.1.2.1, hq.2.2.1.2.2⟩))
            ((go_at_call 51; refine (cIsSide_any W H s px py (d) (by omega) (by omega) (by omega) _ hw2 hh2 HL.out).mono ?_; rintro e w2 ⟨rfl, hb⟩; have HN4 := hid (Nx.drawn HN3.out hb); clear hb; rw [hb2]))
          obtain ⟨⟨c0, c1, c2, c3, c4, c5, hz⟩, ⟨p0, p1⟩, ⟨a0, a1, a2⟩, ⟨b0, b1, b2⟩, ⟨e0, e1, e2⟩, ⟨r0, r1, r2⟩, fz, -, hz8⟩ := HN4.out
          have f10 := fz (w.heap.size + 1) 0 (by omega) (by omega)
          have f11 := fz (w.heap.size + 1) 1 (by omega) (by omega)
          have f12 := fz (w.heap.size + 1) 2 (by omega) (by omega)
          clear fz
          go_wp2
          refine bodyPost_ret (v := .agg #[.int .i64 px, .int .i64 py, .int .i64 (d : Nat)]) (by simp [results, Tryd.results45, go_sem, *]) rfl ?_
          exact ⟨by rw [nxD_f2 hj ha hb2], ((HN4.out.2.2.2.2.2.2.2.1.setCell (by dsimp; omega) _).setCell (by dsimp; omega) _).setCell (by dsimp; omega) _⟩
        case false =>
          go_region_held3 (fun w' => w'.cell? ⟨g, 0, none⟩ = some (.int .i64 W) ∧ w'.cell? ⟨g, 1, none⟩ = some (.int .i64 H) ∧ w'.cell? ⟨g, 2, none⟩ = some (.string s) ∧ w'.cell? ⟨w.heap.size + 1 + 1 + 1 + 1 + 1 + 1, 0, none⟩ = some (.int .i64 px) ∧ w'.cell? ⟨w.heap.size + 1 + 1 + 1 + 1 + 1 + 1, 1, none⟩ = some (.int .i64 py) ∧ w'.cell? ⟨w.heap.size + 1 + 1 + 1 + 1 + 1 + 1, 2, none⟩ = some (.int .i64 (d : Nat)))
            (first | (have hq := HN4.out; exact ⟨hq.1.1, hq.1.2.1, hq.1.2.2.1, hq.2.2.1.1, hq.2.2.1.2.1, hq.2.2.1.2.2⟩) | (have hq := HN3.out; exact ⟨hq.1.1, hq.1.2.1, hq.1.2.2.1, hq.2.2.1.1, hq.2.2.1.2.1, hq.2.2.1.2.2⟩))
            ((go_at_call 51; refine (cIsSide_any W H s px py (d) (by omega) (by omega) (by omega) _ hw2 hh2 HL.out).mono ?_; rintro e w2 ⟨rfl, hb⟩; have HN4 := hid (Nx.drawn HN3.out hb); clear hb; rw [hb2]))
          obtain ⟨⟨c0, c1, c2, c3, c4, c5, hz⟩, ⟨p0, p1⟩, ⟨a0, a1, a2⟩, ⟨b0, b1, b2⟩, ⟨e0, e1, e2⟩, ⟨r0, r1, r2⟩, fz, -, hz8⟩ := HN4.out
          have f10 := fz (w.heap.size + 1) 0 (by omega) (by omega)
          have f11 := fz (w.heap.size + 1) 1 (by omega) (by omega)
          have f12 := fz (w.heap.size + 1) 2 (by omega) (by omega)
          clear fz
          go_wp2
          refine bodyPost_ret (v := .agg #[.int .i64 px, .int .i64 py, .int .i64 ((d + 3) % 4 : Nat)]) (by simp [results, Tryd.results45, go_sem, *]) rfl ?_
          exact ⟨by rw [nxD_f3 hj ha hb2], ((HN4.out.2.2.2.2.2.2.2.1.setCell (by dsimp; omega) _).setCell (by dsimp; omega) _).setCell (by dsimp; omega) _⟩
    case true =>
      go_wp2_with fail
      clear c0 c1 c2 c3 c4 c5 p0 p1 a0 a1 a2 b0 b1 b2 e0 e1 e2 r0 r1 r2 hz8 hz f70 f71 f72 f80 f81 f82
      have HN2 := hid (HN1.out.swap hz0)
      clear HN1
      revert HN2
      generalize World.setCell _ _ _ = Y
      intro HN2
      cases ha : Qm.isS (Pm.blackB W H s.data.toList) (px, py, (d + 3) % 4)
      case true =>
        go_region_held3 (fun w' => w'.cell? ⟨g, 0, none⟩ = some (.int .i64 W) ∧ w'.cell? ⟨g, 1, none⟩ = some (.int .i64 H) ∧ w'.cell? ⟨g, 2, none⟩ = some (.string s) ∧ w'.cell? ⟨w.heap.size + 1 + 1 + 1 + 1 + 1 + 1 + 1, 0, none⟩ = some (.int .i64 px) ∧ w'.cell? ⟨w.heap.size + 1 + 1 + 1 + 1 + 1 + 1 + 1, 1, none⟩ = some (.int .i64 py) ∧ w'.cell? ⟨w.heap.size + 1 + 1 + 1 + 1 + 1 + 1 + 1, 2, none⟩ = some (.int .i64 ((d + 3) % 4 : Nat)))
          (first | (have hq := HN3.out; exact ⟨hq.1.1, hq.1.2.1, hq.1.2.2.1, hq.2.2.2.1.1, hq.2.2.2.1.2.1, hq.2.2.2.1.2.2⟩) | (have hq := HN2.out; exact ⟨hq.1.1, hq.1.2.1, hq.1.2.2.1, hq.2.2.2.1.1, hq.2.2.2.1.2.1, hq.2.2.2.1.2.2⟩))
          ((go_at_call 51; refine (cIsSide_any W H s px py ((d + 3) % 4) (by omega) (by omega) (by omega) _ hw2 hh2 HL.out).mono ?_; rintro e w2 ⟨rfl, hb⟩; have HN3 := hid (Nx.drawn HN2.out hb); clear hb; rw [ha]))
        obtain ⟨⟨c0, c1, c2, c3, c4, c5, hz⟩, ⟨p0, p1⟩, ⟨a0, a1, a2⟩, ⟨b0, b1, b2⟩, ⟨e0, e1, e2⟩, ⟨r0, r1, r2⟩, fz, -, hz8⟩ := HN3.out
        have f10 := fz (w.heap.size + 1) 0 (by omega) (by omega)
        have f11 := fz (w.heap.size + 1) 1 (by omega) (by omega)
        have f12 := fz (w.heap.size + 1) 2 (by omega) (by omega)
        clear fz
        go_wp2
        refine bodyPost_ret (v := .agg #[.int .i64 px, .int .i64 py, .int .i64 ((d + 3) % 4 : Nat)]) (by simp [results, Tryd.results45, go_sem, *]) rfl ?_
        exact ⟨by rw [nxD_t1 hj ha], ((HN3.out.2.2.2.2.2.2.2.1.setCell (by dsimp; omega) _).setCell (by dsimp; omega) _).setCell (by dsimp; omega) _⟩
      case false =>
        go_region_held3 (fun w' => w'.cell? ⟨g, 0, none⟩ = some (.int .i64 W) ∧ w'.cell? ⟨g, 1, none⟩ = some (.int .i64 H) ∧ w'.cell? ⟨g, 2, none⟩ = some (.string s) ∧ w'.cell? ⟨w.heap.size + 1 + 1 + 1 + 1 + 1 + 1 + 1, 0, none⟩ = some (.int .i64 px) ∧ w'.cell? ⟨w.heap.size + 1 + 1 + 1 + 1 + 1 + 1 + 1, 1, none⟩ = some (.int .i64 py) ∧ w'.cell? ⟨w.heap.size + 1 + 1 + 1 + 1 + 1 + 1 + 1, 2, none⟩ = some (.int .i64 ((d + 3) % 4 : Nat)))
          (first | (have hq := HN3.out; exact ⟨hq.1.1, hq.1.2.1, hq.1.2.2.1, hq.2.2.2.1.1, hq.2.2.2.1.2.1, hq.2.2.2.1.2.2⟩) | (have hq := HN2.out; exact ⟨hq.1.1, hq.1.2.1, hq.1.2.2.1, hq.2.2.2.1.1, hq.2.2.2.1.2.1, hq.2.2.2.1.2.2⟩))
          ((go_at_call 51; refine (cIsSide_any W H s px py ((d + 3) % 4) (by omega) (by omega) (by omega) _ hw2 hh2 HL.out).mono ?_; rintro e w2 ⟨rfl, hb⟩; have HN3 := hid (Nx.drawn HN2.out hb); clear hb; rw [ha]))
        obtain ⟨⟨c0, c1, c2, c3, c4, c5, hz⟩, ⟨p0, p1⟩, ⟨a0, a1, a2⟩, ⟨b0, b1, b2⟩, ⟨e0, e1, e2⟩, ⟨r0, r1, r2⟩, fz, -, hz8⟩ := HN3.out
        have f10 := fz (w.heap.size + 1) 0 (by omega) (by omega)
        have f11 := fz (w.heap.size + 1) 1 (by omega) (by omega)
        have f12 := fz (w.heap.size + 1) 2 (by omega) (by omega)
        clear fz
        go_wp2_with fail
        clear c0 c1 c2 c3 c4 c5 p0 p1 a0 a1 a2 b0 b1 b2 e0 e1 e2 r0 r1 r2 hz8 f10 f11 f12 hz
        cases hb2 : Qm.isS (Pm.blackB W H s.data.toList) (px, py, d)
        case true =>
          go_region_held3 (fun w' => w'.cell? ⟨g, 0, none⟩ = some (.int .i64 W) ∧ w'.cell? ⟨g, 1, none⟩ = some (.int .i64 H) ∧ w'.cell? ⟨g, 2, none⟩ = some (.string s) ∧ w'.cell? ⟨w.heap.size + 1 + 1 + 1 + 1 + 1 + 1, 0, none⟩ = some (.int .i64 px) ∧ w'.cell? ⟨w.heap.size + 1 + 1 + 1 + 1 + 1 + 1, 1, none⟩ = some (.int .i64 py) ∧ w'.cell? ⟨w.heap.size + 1 + 1 + 1 + 1 + 1 + 1, 2, none⟩ = some (.int .i64 (d : Nat)))
            (first | (have hq := HN4.out; exact ⟨hq.1.1, hq.1.2.1, hq.1.2.2.1, hq.2.2.1.1, hq.2.2.1.2.1, hq.2.2.1.2.2⟩) | (have hq := HN3.out; exact ⟨hq.1.1, hq.1.2.1, hq.1.2.2.1, hq.2.2.1.1, hq.2.2.1.2.1, hq.2.2.1.2.2⟩))
            ((go_at_call 51; refine (cIsSide_any W H s px py (d) (by omega) (by omega) (by omega) _ hw2 hh2 HL.out).mono ?_; rintro e w2 ⟨rfl, hb⟩; have HN4 := hid (Nx.drawn HN3.out hb); clear hb; rw [hb2]))
          obtain ⟨⟨c0, c1, c2, c3, c4, c5, hz⟩, ⟨p0, p1⟩, ⟨a0, a1, a2⟩, ⟨b0, b1, b2⟩, ⟨e0, e1, e2⟩, ⟨r0, r1, r2⟩, fz, -, hz8⟩ := HN4.out
          have f10 := fz (w.heap.size + 1) 0 (by omega) (by omega)
          have f11 := fz (w.heap.size + 1) 1 (by omega) (by omega)
          have f12 := fz (w.heap.size + 1) 2 (by omega) (by omega)
          clear fz
          go_wp2
          refine bodyPost_ret (v := .agg #[.int .i64 px, .int .i64 py, .int .i64 (d : Nat)]) (by simp [results, Tryd.results45, go_sem, *]) rfl ?_
          exact ⟨by rw [nxD_t2 hj ha hb2], ((HN4.out.2.2.2.2.2.2.2.1.setCell (by dsimp; omega) _).setCell (by dsimp; omega) _).setCell (by dsimp; omega) _⟩
        case false =>
          go_region_held3 (fun w' => w'.cell? ⟨g, 0, none⟩ = some (.int .i64 W) ∧ w'.cell? ⟨g, 1, none⟩ = some (.int .i64 H) ∧ w'.cell? ⟨g, 2, none⟩ = some (.string s) ∧ w'.cell? ⟨w.heap.size + 1 + 1 + 1 + 1 + 1 + 1, 0, none⟩ = some (.int .i64 px) ∧ w'.cell? ⟨w.heap.size + 1 + 1 + 1 + 1 + 1 + 1, 1, none⟩ = some (.int .i64 py) ∧ w'.cell? ⟨w.heap.size + 1 + 1 + 1 + 1 + 1 + 1, 2, none⟩ = some (.int .i64 (d : Nat)))
            (first | (have hq := HN4.out; exact ⟨hq.1.1, hq.1.2.1, hq.1.2.2.1, hq.2.2.1.1, hq.2.2.1.2.1, hq.2.2.1.2.2⟩) | (have hq := HN3.out; exact ⟨hq.1.1, hq.1.2.1, hq.1.2.2.1, hq.2.2.1.1, hq.2.2.1.2.1, hq.2.2.1.2.2⟩))
            ((go_at_call 51; refine (cIsSide_any W H s px py (d) (by omega) (by omega) (by omega) _ hw2 hh2 HL.out).mono ?_; rintro e w2 ⟨rfl, hb⟩; have HN4 := hid (Nx.drawn HN3.out hb); clear hb; rw [hb2]))
          obtain ⟨⟨c0, c1, c2, c3, c4, c5, hz⟩, ⟨p0, p1⟩, ⟨a0, a1, a2⟩, ⟨b0, b1, b2⟩, ⟨e0, e1, e2⟩, ⟨r0, r1, r2⟩, fz, -, hz8⟩ := HN4.out
          have f10 := fz (w.heap.size + 1) 0 (by omega) (by omega)
          have f11 := fz (w.heap.size + 1) 1 (by omega) (by omega)
          have f12 := fz (w.heap.size + 1) 2 (by omega) (by omega)
          clear fz
          go_wp2
          refine bodyPost_ret (v := .agg #[.int .i64 px, .int .i64 py, .int .i64 ((d + 1) % 4 : Nat)]) (by simp [results, Tryd.results45, go_sem, *]) rfl ?_
          exact ⟨by rw [nxD_t3 hj ha hb2], ((HN4.out.2.2.2.2.2.2.2.1.setCell (by dsimp; omega) _).setCell (by dsimp; omega) _).setCell (by dsimp; omega) _⟩
end Go.Proofs.YtljfiefobnncaabDoor

/- Package shape: reaches, toTheRight, windingOf, GoesThrough. -/
namespace Go.Proofs.YtljfiefobnncaabDoor
open Go.RowKit

/-- A point of a bitmap; a pixel in its reach. -/
def PtIn (p : Int × Int) : Prop := 0 ≤ p.1 ∧ p.1 ≤ 32 ∧ 0 ≤ p.2 ∧ p.2 ≤ 32
def two (w : World) (p q : Int × Int) : World := (w.alloc (.cells #[.int .i64 p.1, .int .i64 p.2] 46)).alloc (.cells #[.int .i64 q.1, .int .i64 q.2] 46)
theorem two_below (w : World) (p q : Int × Int) : Below w.heap.size w (two w p q) := ((Below.refl _ _).alloc (Nat.le_refl _) _).alloc (by simp) _

set_option maxRecDepth 4000 in
set_option maxHeartbeats 400000 in
theorem reaches_any (p q : Int × Int) (y : Int) (w : World) :
    Calls Tryd.prog 65 #[.agg #[.int .i64 p.1, .int .i64 p.2], .agg #[.int .i64 q.1, .int .i64 q.2], .int .i64 y] w fun e w' => e = .returned (.bool (Qm.reaB p q y)) ∧ Below w.heap.size w w' := by
  obtain ⟨px, py⟩ := p
  obtain ⟨qx, qy⟩ := q
  dsimp only
  cases hd1 : decide (py ≤ y) <;> cases hd2 : decide (qy ≤ y)
  all_goals (
    have D1 := hid hd1
    have D2 := hid hd2
    go_enter Tryd.func65, Tryd.ntmps65
    go_wp2
    go_ret
    exact ⟨ret_bool (by unfold Qm.reaB; rw [D1.out, D2.out]; rfl), by go_grown⟩)

theorem far_in {p q : Int × Int} {x y : Int} (hp : PtIn p) (hq : PtIn q) (x0 : -32 ≤ x) (x1 : x ≤ 64) (y0 : -32 ≤ y) (y1 : y ≤ 64) : (-20000 ≤ (2 * (p.1 - x) - 1) * (q.2 - p.2) ∧ (2 * (p.1 - x) - 1) * (q.2 - p.2) ≤ 20000) ∧ (-20000 ≤ (2 * (y - p.2) + 1) * (q.1 - p.1) ∧ (2 * (y - p.2) + 1) * (q.1 - p.1) ≤ 20000) := by
  unfold PtIn at hp hq
  have m : ∀ {a b : Int}, -200 ≤ a → a ≤ 200 → -32 ≤ b → b ≤ 32 → -20000 ≤ a * b ∧ a * b ≤ 20000 := by
    intro a b a0 a1 b0 b1
    have p : ∀ {u v : Int}, 0 ≤ u → u ≤ 200 → 0 ≤ v → v ≤ 32 → 0 ≤ u * v ∧ u * v ≤ 6400 := fun a b c d => ⟨Int.mul_nonneg a c, Int.mul_le_mul b d c (by omega)⟩
    rcases Int.le_total 0 a with ha | ha <;> rcases Int.le_total 0 b with hb | hb
    · have := p ha a1 hb b1; omega
    · have := p ha a1 (show 0 ≤ -b by omega) (by omega); rw [Int.mul_neg] at this; omega
    · have := p (show 0 ≤ -a by omega) (by omega) hb b1; rw [Int.neg_mul] at this; omega
    · have := p (show 0 ≤ -a by omega) (by omega) (show 0 ≤ -b by omega) (by omega); rw [Int.neg_mul_neg] at this; omega
  exact ⟨m (by omega) (by omega) (by omega) (by omega), m (by omega) (by omega) (by omega) (by omega)⟩

set_option maxRecDepth 4000 in
set_option maxHeartbeats 1000000 in
theorem right_any (p q : Int × Int) (x y : Int) (hp : PtIn p) (hq : PtIn q) (x0 : -32 ≤ x) (x1 : x ≤ 64) (y0 : -32 ≤ y) (y1 : y ≤ 64) (w : World) :
    Calls Tryd.prog 66 #[.agg #[.int .i64 p.1, .int .i64 p.2], .agg #[.int .i64 q.1, .int .i64 q.2], .int .i64 x, .int .i64 y] w fun e w' => e = .returned (.int .i64 (Qm.rtZ p q x y)) ∧ Below w.heap.size w w' := by
  have F := far_in hp hq x0 x1 y0 y1
  have E := hid (show Qm.rtZ p q x y = if q.2 < p.2 then -((2 * (p.1 - x) - 1) * (q.2 - p.2) + (2 * (y - p.2) + 1) * (q.1 - p.1)) else (2 * (p.1 - x) - 1) * (q.2 - p.2) + (2 * (y - p.2) + 1) * (q.1 - p.1) from rfl)
  unfold PtIn at hp hq
  obtain ⟨px, py⟩ := p
  obtain ⟨qx, qy⟩ := q
  dsimp only at hp hq F E ⊢
  obtain ⟨u, hu⟩ : ∃ u, (2 * (px - x) - 1) * (qy - py) = u := ⟨_, rfl⟩
  obtain ⟨v, hv⟩ : ∃ v, (2 * (y - py) + 1) * (qx - px) = v := ⟨_, rfl⟩
  rw [hu, hv] at F E
  by_cases h : qy < py
  · rw [if_pos h] at E
    go_enter Tryd.func66, Tryd.ntmps66
    go_wp2
    go_ret
    exact ⟨ret_int (by rw [E.out]), by go_grown⟩
  · rw [if_neg h] at E
    go_enter Tryd.func66, Tryd.ntmps66
    go_wp2
    go_ret
    exact ⟨ret_int (by rw [E.out]), by go_grown⟩

set_option maxRecDepth 4000 in
set_option maxHeartbeats 1000000 in
theorem windingOf_any (p q : Int × Int) (x y : Int) (hp : PtIn p) (hq : PtIn q) (x0 : -32 ≤ x) (x1 : x ≤ 64) (y0 : -32 ≤ y) (y1 : y ≤ 64) (w : World) :
    Calls Tryd.prog 67 #[.agg #[.int .i64 p.1, .int .i64 p.2], .agg #[.int .i64 q.1, .int .i64 q.2], .int .i64 x, .int .i64 y] w fun e w' => e = .returned (.int .i64 (Qm.wdZ p q x y)) ∧ Below w.heap.size w w' := by
  have RE := hid (fun W' => reaches_any p q y W')
  have RI := hid (fun W' => right_any p q x y hp hq x0 x1 y0 y1 W')
  have E := hid (show Qm.wdZ p q x y = if Qm.reaB p q y = false ∨ Qm.rtZ p q x y ≤ 0 then 0 else if q.2 < p.2 then 1 else -1 from rfl)
  obtain ⟨px, py⟩ := p
  obtain ⟨qx, qy⟩ := q
  dsimp only at RE RI E ⊢
  obtain ⟨r, hr⟩ : ∃ r, Qm.reaB (px, py) (qx, qy) y = r := ⟨_, rfl⟩
  obtain ⟨z, hz⟩ : ∃ z, Qm.rtZ (px, py) (qx, qy) x y = z := ⟨_, rfl⟩
  rw [hr, hz] at E
  rw [hr] at RE
  rw [hz] at RI
  clear hr hz
  go_enter Tryd.func67, Tryd.ntmps67
  go_wp2_with fail
  refine (RE.out _).mono ?_
  rintro e w1 ⟨rfl, hb⟩
  have B1 := hid (show Below w.heap.size w w1 from Below.trans (b := _) (by go_grown) (hb.mono (by simp; omega)))
  have z1 := hb.size
  simp at z1
  obtain ⟨hc, hf⟩ := bcell hb
  clear hb
  cases r
  · go_wp2
    go_ret
    exact ⟨ret_int (by rw [E.out, if_pos (by simp)]), B1.out⟩
  · go_wp2_with fail
    refine (RI.out _).mono ?_
    rintro e w2 ⟨rfl, hb⟩
    have B2 := hid (show Below w.heap.size w w2 from B1.out.trans (hb.mono (by omega)))
    have hc2 := (bcell hb).1
    have q0 := (hc2 (w.heap.size + 1) 1 (by omega)).trans (hc (w.heap.size + 1) 1 (by simp))
    have q1 := (hc2 w.heap.size 1 (by omega)).trans (hc w.heap.size 1 (by simp; omega))
    simp at q0 q1
    clear hb hc hf hc2
    by_cases hz : z ≤ 0
    · have dz : decide (z ≤ 0) = true := by simpa using hz
      go_wp2
      go_ret
      exact ⟨ret_int (by rw [E.out, if_pos (.inr hz)]), B2.out⟩
    · have dz : decide (z ≤ 0) = false := by simpa using hz
      rw [if_neg (by simp; omega)] at E
      by_cases hy : qy < py
      · rw [if_pos hy] at E
        go_wp2
        go_ret
        exact ⟨ret_int E.out.symm, B2.out⟩
      · rw [if_neg hy] at E
        go_wp2
        go_ret
        exact ⟨ret_int E.out.symm, B2.out⟩

set_option maxRecDepth 4000 in
set_option maxHeartbeats 1000000 in
theorem through_any (p q : Int × Int) (x y : Int) (hp : PtIn p) (hq : PtIn q) (x0 : -32 ≤ x) (x1 : x ≤ 64) (y0 : -32 ≤ y) (y1 : y ≤ 64) (w : World) :
    Calls Tryd.prog 57 #[.agg #[.int .i64 p.1, .int .i64 p.2], .agg #[.int .i64 q.1, .int .i64 q.2], .int .i64 x, .int .i64 y] w fun e w' => e = .returned (.bool (Qm.thB p q x y)) ∧ Below w.heap.size w w' := by
  have RE := hid (fun W' => reaches_any p q y W')
  have RI := hid (fun W' => right_any p q x y hp hq x0 x1 y0 y1 W')
  have E := hid (show Qm.thB p q x y = (Qm.reaB p q y && decide (Qm.rtZ p q x y = 0)) from rfl)
  obtain ⟨px, py⟩ := p
  obtain ⟨qx, qy⟩ := q
  dsimp only at RE RI E ⊢
  obtain ⟨r, hr⟩ : ∃ r, Qm.reaB (px, py) (qx, qy) y = r := ⟨_, rfl⟩
  obtain ⟨z, hz⟩ : ∃ z, Qm.rtZ (px, py) (qx, qy) x y = z := ⟨_, rfl⟩
  rw [hr, hz] at E
  rw [hr] at RE
  rw [hz] at RI
  clear hr hz
  go_enter Tryd.func57, Tryd.ntmps57
  go_wp2_with fail
  refine (RE.out _).mono ?_
  rintro e w1 ⟨rfl, hb⟩
  have B1 := hid (show Below w.heap.size w w1 from Below.trans (b := _) (by go_grown) (hb.mono (by simp; omega)))
  have z1 := hb.size
  simp at z1
  obtain ⟨hc, hf⟩ := bcell hb
  clear hb
  cases r
  · go_wp2
    go_ret
    exact ⟨ret_bool (by rw [E.out]; rfl), B1.out⟩
  · go_wp2_with fail
    refine (RI.out _).mono ?_
    rintro e w2 ⟨rfl, hb⟩
    have B2 := hid (show Below w.heap.size w w2 from B1.out.trans (hb.mono (by omega)))
    clear hb hc hf
    by_cases hz : z = 0
    · subst hz
      go_wp2
      go_ret
      exact ⟨ret_bool (by rw [E.out]; rfl), B2.out⟩
    · have dz : (z == 0) = false := by simpa using hz
      rw [show decide (z = 0) = false by simpa using hz] at E
      go_wp2
      go_ret
      exact ⟨ret_bool (by rw [E.out]; rfl), B2.out⟩
end Go.Proofs.YtljfiefobnncaabDoor
