import Derived.Test.YtljfiefobnncaabGreatDoorK02

/- isDrawn, joins of package cycles. -/
namespace Go.Proofs.YtljfiefobnncaabGreatDoor
open Go.RowKit
attribute [local go_sem ↓] Go.wp_at_zero Go.wp_at_succ

set_option maxRecDepth 4000 in
set_option maxHeartbeats 2000000 in
theorem isDrawn_any (W H : Nat) (s : ByteArray) (pol : Int) (draws : ByteArray) (spk : Int) (x y : Nat) (hx : x ≤ 100) (hy : y ≤ 100) (w : World) (hw2 : W ≤ 32) :
    Calls Tryz.prog 149 #[.agg #[.int .i64 W, .int .i64 H, .string s], .agg #[.int .i64 pol, .string draws, .int .i64 spk], .agg #[.int .i64 x, .int .i64 y]] w fun e w' => e = .returned (.bool (Pm.bitAt draws.data.toList ((y : Int) * (W + 1) + x).toNat)) ∧ Below w.heap.size w w' := by
  obtain ⟨k, hk⟩ : ∃ k : Nat, k = y * (W + 1) := ⟨_, rfl⟩
  have ek : (y : Int) * ((W : Int) + 1) = (k : Nat) := by rw [hk]; simp
  have hk2 : k ≤ 100 * 33 := by rw [hk]; exact Nat.mul_le_mul hy (by omega)
  rw [ek, show ((k : Int) + (x : Int)).toNat = k + x from by omega]
  clear hk
  by_cases hlt : k + x < draws.size
  · by_cases q : (draws[k + x].toNat : Int) = 49
    · have E := hid (Pm.bitAt_yes draws _ hlt q)
      go_enter Tryz.func149, Tryz.ntmps149
      go_wp2
      go_ret
      exact ⟨ret_bool E.out.symm, by go_grown⟩
    · have E := hid (Pm.bitAt_no draws _ hlt q)
      have b0 : ((draws[k + x].toNat : Int) == 49) = false := by simpa using q
      go_enter Tryz.func149, Tryz.ntmps149
      go_wp2
      go_ret
      exact ⟨ret_bool E.out.symm, by go_grown⟩
  · have E := hid (Pm.bitAt_out draws _ hlt)
    go_enter Tryz.func149, Tryz.ntmps149
    go_wp2
    go_ret
    exact ⟨ret_bool E.out.symm, by go_grown⟩

set_option maxRecDepth 4000 in
set_option maxHeartbeats 2000000 in
theorem joins_any (W H : Nat) (s : ByteArray) (pol : Nat) (draws : ByteArray) (spk : Int) (x y : Nat) (hp : pol ≤ 3) (hx : x ≤ 100) (hy : y ≤ 100) (w : World) (hw2 : W ≤ 32) (hh2 : H ≤ 32) (hl : s.size = W * H) :
    Calls Tryz.prog 136 #[.agg #[.int .i64 W, .int .i64 H, .string s], .agg #[.int .i64 pol, .string draws, .int .i64 spk], .agg #[.int .i64 x, .int .i64 y]] w fun e w' => e = .returned (.bool (Qm.jnB W H s.data.toList pol draws.data.toList x y)) ∧ Below w.heap.size w w' := by
  have HL := hid hl
  clear hl
  match pol, hp with
  | 0, _ =>
    go_enter Tryz.func136, Tryz.ntmps136
    go_wp2
    go_ret
    exact ⟨ret_bool (Qm.jnB_0 ..).symm, by go_grown⟩
  | 1, _ =>
    go_enter Tryz.func136, Tryz.ntmps136
    go_wp2
    go_ret
    exact ⟨ret_bool (Qm.jnB_1 ..).symm, by go_grown⟩
  | 2, _ =>
    go_enter Tryz.func136, Tryz.ntmps136
    go_wp2_with fail
    refine (blackAround_any W H s x y (by omega) (by omega) _ hw2 hh2 HL.out).mono ?_
    rintro e w1 ⟨rfl, hb⟩
    have hc := Qm.cntTo_le (Pm.blackB W H s.data.toList) x y 16
    go_wp2
    go_ret
    exact ⟨ret_bool (by show _ = Qm.jnB W H s.data.toList 2 draws.data.toList x y; rw [Qm.jnB_2]; simp; omega), Below.trans (b := _) (by go_grown) (hb.mono (by simp; omega))⟩
  | 3, _ =>
    go_enter Tryz.func136, Tryz.ntmps136
    go_wp2_with fail
    refine (isDrawn_any W H s 3 draws spk x y hx hy _ hw2).mono ?_
    rintro e w1 ⟨rfl, hb⟩
    go_wp2
    go_ret
    exact ⟨ret_bool (Qm.jnB_3 ..).symm, Below.trans (b := _) (by go_grown) (hb.mono (by simp; omega))⟩
end Go.Proofs.YtljfiefobnncaabGreatDoor

/- next of package cycles. -/
namespace Go.Proofs.YtljfiefobnncaabGreatDoor
open Go.RowKit
attribute [local go_sem ↓] Go.wp_at_zero Go.wp_at_succ

theorem bcell {W w1 : World} (hb : Below W.heap.size W w1) : (∀ b o, b < W.heap.size → w1.cell? ⟨b, o, none⟩ = W.cell? ⟨b, o, none⟩) ∧ (∀ b o, b < W.heap.size → w1.frozen? ⟨b, o, none⟩ = W.frozen? ⟨b, o, none⟩) :=
  ⟨fun b o h => hb.cell (p := ⟨b, o, none⟩) h, fun b o h => hb.frozen (p := ⟨b, o, none⟩) h⟩

/-- All ways through a piece of code end in one frame and one world. -/
theorem wp_one {P : Program} {c : Code} {Q : Exit → Act → World → Prop} {a : Act} {w : World} (A : Act) (W : World) (h : c.wp P (fun e a' w' => e = .normal ∧ a' = A ∧ w' = W) a w) (k : Q .normal A W) : c.wp P Q a w :=
  Code.wp_mono (fun e a' w' ⟨h1, h2, h3⟩ => by subst h1 h2 h3; exact k) h

/-- The walker at block g: its bitmap and its options. -/
def Wk (g W H : Nat) (s : ByteArray) (pol : Nat) (draws : ByteArray) (spk : Int) (w : World) : Prop :=
  w.cell? ⟨g, 0, none⟩ = some (.int .i64 W) ∧ w.cell? ⟨g, 1, none⟩ = some (.int .i64 H) ∧ w.cell? ⟨g, 2, none⟩ = some (.string s) ∧ w.cell? ⟨g, 3, none⟩ = some (.int .i64 pol) ∧ w.cell? ⟨g, 4, none⟩ = some (.string draws) ∧ w.cell? ⟨g, 5, none⟩ = some (.int .i64 spk) ∧ g < w.heap.size

theorem nxD_eq (bl jn : Int → Int → Bool) (px py : Int) (d : Nat) : Qm.nxD bl jn (px, py) d =
    if Qm.isS bl (px, py, if jn px py then (d + 3) % 4 else (d + 1) % 4) then (if jn px py then (d + 3) % 4 else (d + 1) % 4)
    else if Qm.isS bl (px, py, d) then d else (if jn px py then (d + 1) % 4 else (d + 3) % 4) := rfl

section
variable {bl jn : Int → Int → Bool} {px py : Int} {d : Nat}
theorem nxD_f1 (hj : jn px py = false) (ha : Qm.isS bl (px, py, (d + 1) % 4) = true) : Qm.nxD bl jn (px, py) d = (d + 1) % 4 := by rw [nxD_eq]; simp [hj, ha]
theorem nxD_f2 (hj : jn px py = false) (ha : Qm.isS bl (px, py, (d + 1) % 4) = false) (hb : Qm.isS bl (px, py, d) = true) : Qm.nxD bl jn (px, py) d = d := by rw [nxD_eq]; simp [hj, ha, hb]
theorem nxD_f3 (hj : jn px py = false) (ha : Qm.isS bl (px, py, (d + 1) % 4) = false) (hb : Qm.isS bl (px, py, d) = false) : Qm.nxD bl jn (px, py) d = (d + 3) % 4 := by rw [nxD_eq]; simp [hj, ha, hb]
theorem nxD_t1 (hj : jn px py = true) (ha : Qm.isS bl (px, py, (d + 3) % 4) = true) : Qm.nxD bl jn (px, py) d = (d + 3) % 4 := by rw [nxD_eq]; simp [hj, ha]
theorem nxD_t2 (hj : jn px py = true) (ha : Qm.isS bl (px, py, (d + 3) % 4) = false) (hb : Qm.isS bl (px, py, d) = true) : Qm.nxD bl jn (px, py) d = d := by rw [nxD_eq]; simp [hj, ha, hb]
theorem nxD_t3 (hj : jn px py = true) (ha : Qm.isS bl (px, py, (d + 3) % 4) = false) (hb : Qm.isS bl (px, py, d) = false) : Qm.nxD bl jn (px, py) d = (d + 1) % 4 := by rw [nxD_eq]; simp [hj, ha, hb]
end

/-- What 'next' has laid at blocks B to B + 8. -/
def Nx (B g W H : Nat) (s : ByteArray) (pol : Nat) (draws : ByteArray) (spk : Int) (px py d : Nat) (n f : Int) (w X : World) : Prop :=
  Wk g W H s pol draws spk X ∧ (X.cell? ⟨B + 1 + 1 + 1 + 1 + 1, 0, none⟩ = some (.int .i64 px) ∧ X.cell? ⟨B + 1 + 1 + 1 + 1 + 1, 1, none⟩ = some (.int .i64 py)) ∧
  (X.cell? ⟨B + 1 + 1 + 1 + 1 + 1 + 1, 0, none⟩ = some (.int .i64 px) ∧ X.cell? ⟨B + 1 + 1 + 1 + 1 + 1 + 1, 1, none⟩ = some (.int .i64 py) ∧ X.cell? ⟨B + 1 + 1 + 1 + 1 + 1 + 1, 2, none⟩ = some (.int .i64 d)) ∧
  (X.cell? ⟨B + 1 + 1 + 1 + 1 + 1 + 1 + 1, 0, none⟩ = some (.int .i64 px) ∧ X.cell? ⟨B + 1 + 1 + 1 + 1 + 1 + 1 + 1, 1, none⟩ = some (.int .i64 py) ∧ X.cell? ⟨B + 1 + 1 + 1 + 1 + 1 + 1 + 1, 2, none⟩ = some (.int .i64 n)) ∧
  (X.cell? ⟨B + 1 + 1 + 1 + 1 + 1 + 1 + 1 + 1, 0, none⟩ = some (.int .i64 px) ∧ X.cell? ⟨B + 1 + 1 + 1 + 1 + 1 + 1 + 1 + 1, 1, none⟩ = some (.int .i64 py) ∧ X.cell? ⟨B + 1 + 1 + 1 + 1 + 1 + 1 + 1 + 1, 2, none⟩ = some (.int .i64 f)) ∧
  (X.cell? ⟨B + 1, 0, none⟩ = some (.int .i64 0) ∧ X.cell? ⟨B + 1, 1, none⟩ = some (.int .i64 0) ∧ X.cell? ⟨B + 1, 2, none⟩ = some (.int .i64 0)) ∧
  (∀ k j, B < k → k ≤ B + 8 → X.frozen? ⟨k, j, none⟩ = false) ∧
  Below B w X ∧ B + 8 < X.heap.size

theorem frozen_drew (w : World) (a : Addr) : w.drew.frozen? a = w.frozen? a := rfl
theorem frozen_past (w : World) (k j : Nat) (h : w.heap.size ≤ k) : w.frozen? ⟨k, j, none⟩ = false := by
  simp [World.frozen?, Array.getElem?_eq_none h]

theorem Wk.on {g W H : Nat} {s : ByteArray} {pol : Nat} {draws : ByteArray} {spk : Int} {w w' : World} (h : Wk g W H s pol draws spk w) (hb : Below w.heap.size w w') : Wk g W H s pol draws spk w' := by
  obtain ⟨c0, c1, c2, c3, c4, c5, hz⟩ := h
  exact ⟨(hb.cell (p := ⟨g, 0, none⟩) hz).trans c0, (hb.cell (p := ⟨g, 1, none⟩) hz).trans c1, (hb.cell (p := ⟨g, 2, none⟩) hz).trans c2, (hb.cell (p := ⟨g, 3, none⟩) hz).trans c3, (hb.cell (p := ⟨g, 4, none⟩) hz).trans c4, (hb.cell (p := ⟨g, 5, none⟩) hz).trans c5, Nat.lt_of_lt_of_le hz hb.size⟩

theorem Nx.on {B g W H : Nat} {s : ByteArray} {pol : Nat} {draws : ByteArray} {spk : Int} {px py d : Nat} {n f : Int} {w X Y : World} (h : Nx B g W H s pol draws spk px py d n f w X) (hb : Below X.heap.size X Y) : Nx B g W H s pol draws spk px py d n f w Y := by
  obtain ⟨hW, ⟨p0, p1⟩, ⟨a0, a1, a2⟩, ⟨b0, b1, b2⟩, ⟨e0, e1, e2⟩, ⟨r0, r1, r2⟩, fz, hB, hz⟩ := h
  have C : ∀ k j, k < X.heap.size → Y.cell? ⟨k, j, none⟩ = X.cell? ⟨k, j, none⟩ := fun k j hk => hb.cell (p := ⟨k, j, none⟩) hk
  have F : ∀ k j, k < X.heap.size → Y.frozen? ⟨k, j, none⟩ = X.frozen? ⟨k, j, none⟩ := fun k j hk => hb.frozen (p := ⟨k, j, none⟩) hk
  refine ⟨hW.on hb, ⟨?_, ?_⟩, ⟨?_, ?_, ?_⟩, ⟨?_, ?_, ?_⟩, ⟨?_, ?_, ?_⟩, ⟨?_, ?_, ?_⟩, fun k j h1 h2 => (F k j (by omega)).trans (fz k j h1 h2), hB.trans (hb.mono (by omega)), Nat.lt_of_lt_of_le hz hb.size⟩
  all_goals (rw [C _ _ (by omega)]; assumption)

theorem Nx.drawn {B g W H : Nat} {s : ByteArray} {pol : Nat} {draws : ByteArray} {spk : Int} {px py d : Nat} {n f : Int} {w X Y : World} (h : Nx B g W H s pol draws spk px py d n f w X) (hb : Below X.drew.heap.size X.drew Y) : Nx B g W H s pol draws spk px py d n f w Y :=
  Nx.on (X := X.drew) ⟨h.1, h.2.1, h.2.2.1, h.2.2.2.1, h.2.2.2.2.1, h.2.2.2.2.2.1, h.2.2.2.2.2.2.1, h.2.2.2.2.2.2.2.1.drew, h.2.2.2.2.2.2.2.2⟩ hb

theorem Nx.swap {B g W H : Nat} {s : ByteArray} {pol : Nat} {draws : ByteArray} {spk : Int} {px py d : Nat} {n f : Int} {w X : World} (h : Nx B g W H s pol draws spk px py d n f w X) (hg : g < B) :
    Nx B g W H s pol draws spk px py d f n w ((((((X.setCell ⟨B + 1 + 1 + 1 + 1 + 1 + 1 + 1, 0, none⟩ (.int .i64 px)).setCell ⟨B + 1 + 1 + 1 + 1 + 1 + 1 + 1, 1, none⟩ (.int .i64 py)).setCell ⟨B + 1 + 1 + 1 + 1 + 1 + 1 + 1, 2, none⟩ (.int .i64 f)).setCell ⟨B + 1 + 1 + 1 + 1 + 1 + 1 + 1 + 1, 0, none⟩ (.int .i64 px)).setCell ⟨B + 1 + 1 + 1 + 1 + 1 + 1 + 1 + 1, 1, none⟩ (.int .i64 py)).setCell ⟨B + 1 + 1 + 1 + 1 + 1 + 1 + 1 + 1, 2, none⟩ (.int .i64 n)) := by
  obtain ⟨⟨c0, c1, c2, c3, c4, c5, hz0⟩, ⟨p0, p1⟩, ⟨a0, a1, a2⟩, ⟨b0, b1, b2⟩, ⟨e0, e1, e2⟩, ⟨r0, r1, r2⟩, fz, hB, hz⟩ := h
  have n7 : B + 1 + 1 + 1 + 1 + 1 + 1 + 1 ≠ g := by omega
  have n8 : B + 1 + 1 + 1 + 1 + 1 + 1 + 1 + 1 ≠ g := by omega
  refine ⟨⟨?_, ?_, ?_, ?_, ?_, ?_, ?_⟩, ⟨?_, ?_⟩, ⟨?_, ?_, ?_⟩, ⟨?_, ?_, ?_⟩, ⟨?_, ?_, ?_⟩, ⟨?_, ?_, ?_⟩, fun k j h1 h2 => by simpa using fz k j h1 h2, ?_, ?_⟩
  case refine_22 => exact (((((hB.setCell (by first | omega | (dsimp; omega)) _).setCell (by first | omega | (dsimp; omega)) _).setCell (by first | omega | (dsimp; omega)) _).setCell (by first | omega | (dsimp; omega)) _).setCell (by first | omega | (dsimp; omega)) _).setCell (by first | omega | (dsimp; omega)) _
  all_goals first | (simp [World.cell?_setCell_other, World.cell?_setCell_same', *]; done) | (simp [go_sem, World.cell?_setCell_other, World.cell?_setCell_same', *]; done) | (simp only [World.size_setCell]; omega)

set_option maxRecDepth 4000 in
set_option maxHeartbeats 4000000 in
theorem next_any (g W H : Nat) (s : ByteArray) (pol : Nat) (draws : ByteArray) (spk : Int) (x y : Int) (d px py : Nat) (hd : d < 4) (hx : -1000 ≤ x ∧ x ≤ 1000) (hy : -1000 ≤ y ∧ y ≤ 1000) (hpx : px ≤ 100) (hpy : py ≤ 100) (he : Qm.en (x, y, d) = ((px : Int), (py : Int))) (hp : pol ≤ 3) (w : World) (hW : Wk g W H s pol draws spk w) (hw2 : W ≤ 32) (hh2 : H ≤ 32) (hl : s.size = W * H) :
    Calls Tryz.prog 121 #[.pointer (some ⟨g, 0, none⟩), .agg #[.int .i64 x, .int .i64 y, .int .i64 d]] w fun e w' => e = .returned (.agg #[.int .i64 px, .int .i64 py, .int .i64 (Qm.nxD (Pm.blackB W H s.data.toList) (Qm.jnB W H s.data.toList pol draws.data.toList) (px, py) d : Nat)]) ∧ Below w.heap.size w w' := by
  have HL := hid hl
  have HE := hid he
  clear hl he
  have HW := hid hW
  obtain ⟨c0, c1, c2, c3, c4, c5, hz⟩ := hW
  go_enter Tryz.func121, Tryz.ntmps121
  go_wp2_with fail
  refine (end_any x y d hd hx hy _).mono ?_
  rintro e w1 ⟨rfl, o1, o2, o3, rfl⟩
  rw [HE.out]
  go_wp2_with fail
  apply wp_one
  case h =>
    go_region_held3 (fun w' => w'.cell? ⟨w.heap.size, 2, none⟩ = some (.int .i64 d) ∧ w'.cell? ⟨w.heap.size + 1 + 1 + 1 + 1 + 1, 0, none⟩ = some (.int .i64 px) ∧ w'.cell? ⟨w.heap.size + 1 + 1 + 1 + 1 + 1, 1, none⟩ = some (.int .i64 py))
      (first | (simp [go_sem]; done) | (go_keep))
      ((go_at_call 134; refine (leftOf_any d hd _).mono ?_; rintro e w1 ⟨rfl, rfl⟩))
    all_goals exact ⟨rfl, rfl, rfl⟩
  go_wp2_with fail
  apply wp_one
  case h =>
    go_region_held3 (fun w' => w'.cell? ⟨w.heap.size, 2, none⟩ = some (.int .i64 d) ∧ w'.cell? ⟨w.heap.size + 1 + 1 + 1 + 1 + 1, 0, none⟩ = some (.int .i64 px) ∧ w'.cell? ⟨w.heap.size + 1 + 1 + 1 + 1 + 1, 1, none⟩ = some (.int .i64 py))
      (first | (simp [go_sem]; done) | (go_keep))
      ((go_at_call 135; refine (rightOf_any d hd _).mono ?_; rintro e w1 ⟨rfl, rfl⟩))
    all_goals exact ⟨rfl, rfl, rfl⟩
  go_wp2_with fail
  all_goals
    generalize hX : World.drew (World.drew _) = X
    have hN : Nx w.heap.size g W H s pol draws spk px py d (((d : Int) + 1) % 4) (((d : Int) + 3) % 4) w X := by
      rw [← hX]
      refine ⟨HW.out.on (by go_grown), ⟨?_, ?_⟩, ⟨?_, ?_, ?_⟩, ⟨?_, ?_, ?_⟩, ⟨?_, ?_, ?_⟩, ⟨?_, ?_, ?_⟩, fun k j h1 h2 => by simp only [frozen_drew, frozen?_alloc_cells]; exact frozen_past _ _ _ (by omega), by go_grown, ?_⟩
      all_goals first | (simp [go_sem]; done) | (simp; omega)
    clear hX
    have HN := hid hN
    obtain ⟨⟨c0, c1, c2, c3, c4, c5, hz⟩, ⟨p0, p1⟩, ⟨a0, a1, a2⟩, ⟨b0, b1, b2⟩, ⟨e0, e1, e2⟩, ⟨r0, r1, r2⟩, fz, hB, hz8⟩ := hN
    clear hB fz
  all_goals
    go_region_held3 (fun w' => w'.cell? ⟨g, 0, none⟩ = some (.int .i64 W) ∧ w'.cell? ⟨g, 1, none⟩ = some (.int .i64 H) ∧ w'.cell? ⟨g, 2, none⟩ = some (.string s) ∧ w'.cell? ⟨g, 3, none⟩ = some (.int .i64 pol) ∧ w'.cell? ⟨g, 4, none⟩ = some (.string draws) ∧ w'.cell? ⟨g, 5, none⟩ = some (.int .i64 spk) ∧ w'.cell? ⟨w.heap.size + 1 + 1 + 1 + 1 + 1, 0, none⟩ = some (.int .i64 px) ∧ w'.cell? ⟨w.heap.size + 1 + 1 + 1 + 1 + 1, 1, none⟩ = some (.int .i64 py))
      (first | exact ⟨c0, c1, c2, c3, c4, c5, p0, p1⟩ | (have hq := (by assumption : Hid (Nx _ _ _ _ _ _ _ _ _ _ _ _ _ _ _)).out; exact ⟨hq.1.1, hq.1.2.1, hq.1.2.2.1, hq.1.2.2.2.1, hq.1.2.2.2.2.1, hq.1.2.2.2.2.2.1, hq.2.1.1, hq.2.1.2⟩))
      ((go_at_call 136; refine (joins_any W H s pol draws spk px py hp hpx hpy _ hw2 hh2 HL.out).mono ?_; rintro e w1 ⟨rfl, hb⟩; have HN1 := hid (HN.out.drawn hb); clear hb))
  all_goals
    obtain ⟨⟨c0, c1, c2, c3, c4, c5, hz⟩, ⟨p0, p1⟩, ⟨a0, a1, a2⟩, ⟨b0, b1, b2⟩, ⟨e0, e1, e2⟩, ⟨r0, r1, r2⟩, fz, -, hz8⟩ := HN1.out
    have f70 := fz (w.heap.size + 1 + 1 + 1 + 1 + 1 + 1 + 1) 0 (by omega) (by omega)
    have f71 := fz (w.heap.size + 1 + 1 + 1 + 1 + 1 + 1 + 1) 1 (by omega) (by omega)
    have f72 := fz (w.heap.size + 1 + 1 + 1 + 1 + 1 + 1 + 1) 2 (by omega) (by omega)
    have f80 := fz (w.heap.size + 1 + 1 + 1 + 1 + 1 + 1 + 1 + 1) 0 (by omega) (by omega)
    have f81 := fz (w.heap.size + 1 + 1 + 1 + 1 + 1 + 1 + 1 + 1) 1 (by omega) (by omega)
    have f82 := fz (w.heap.size + 1 + 1 + 1 + 1 + 1 + 1 + 1 + 1) 2 (by omega) (by omega)
    clear fz
    have hz0 := HW.out.2.2.2.2.2.2
    cases hj : Qm.jnB W H s.data.toList pol draws.data.toList px py
    case false =>
      go_wp2_with fail
      clear c0 c1 c2 c3 c4 c5 p0 p1 a0 a1 a2 b0 b1 b2 e0 e1 e2 r0 r1 r2 hz8 hz f70 f71 f72 f80 f81 f82
      have HN2 := HN1
      clear HN1
      cases ha : Qm.isS (Pm.blackB W H s.data.toList) (px, py, (d + 1) % 4)
      case true =>
        go_region_held3 (fun w' => w'.cell? ⟨g, 0, none⟩ = some (.int .i64 W) ∧ w'.cell? ⟨g, 1, none⟩ = some (.int .i64 H) ∧ w'.cell? ⟨g, 2, none⟩ = some (.string s) ∧ w'.cell? ⟨w.heap.size + 1 + 1 + 1 + 1 + 1 + 1 + 1, 0, none⟩ = some (.int .i64 px) ∧ w'.cell? ⟨w.heap.size + 1 + 1 + 1 + 1 + 1 + 1 + 1, 1, none⟩ = some (.int .i64 py) ∧ w'.cell? ⟨w.heap.size + 1 + 1 + 1 + 1 + 1 + 1 + 1, 2, none⟩ = some (.int .i64 ((d + 1) % 4 : Nat)))
          (first | (have hq := HN3.out; exact ⟨hq.1.1, hq.1.2.1, hq.1.2.2.1, hq.2.2.2.1.1, hq.2.2.2.1.2.1, hq.2.2.2.1.2.2⟩) | (have hq := HN2.out; exact ⟨hq.1.1, hq.1.2.1, hq.1.2.2.1, hq.2.2.2.1.1, hq.2.2.2.1.2.1, hq.2.2.2.1.2.2⟩))
          ((go_at_call 132; refine (cIsSide_any W H s px py ((d + 1) % 4) (by omega) (by omega) (by omega) _ hw2 hh2 HL.out).mono ?_; rintro e w2 ⟨rfl, hb⟩; have HN3 := hid (Nx.drawn HN2.out hb); clear hb; rw [ha]))
        obtain ⟨⟨c0, c1, c2, c3, c4, c5, hz⟩, ⟨p0, p1⟩, ⟨a0, a1, a2⟩, ⟨b0, b1, b2⟩, ⟨e0, e1, e2⟩, ⟨r0, r1, r2⟩, fz, -, hz8⟩ := HN3.out
        have f10 := fz (w.heap.size + 1) 0 (by omega) (by omega)
        have f11 := fz (w.heap.size + 1) 1 (by omega) (by omega)
        have f12 := fz (w.heap.size + 1) 2 (by omega) (by omega)
        clear fz
        go_wp2
        refine bodyPost_ret (v := .agg #[.int .i64 px, .int .i64 py, .int .i64 ((d + 1) % 4 : Nat)]) (by simp [results, Tryz.results121, go_sem, *]) rfl ?_
        exact ⟨by rw [nxD_f1 hj ha], ((HN3.out.2.2.2.2.2.2.2.1.setCell (by dsimp; omega) _).setCell (by dsimp; omega) _).setCell (by dsimp; omega) _⟩
      case false =>
        go_region_held3 (fun w' => w'.cell? ⟨g, 0, none⟩ = some (.int .i64 W) ∧ w'.cell? ⟨g, 1, none⟩ = some (.int .i64 H) ∧ w'.cell? ⟨g, 2, none⟩ = some (.string s) ∧ w'.cell? ⟨w.heap.size + 1 + 1 + 1 + 1 + 1 + 1 + 1, 0, none⟩ = some (.int .i64 px) ∧ w'.cell? ⟨w.heap.size + 1 + 1 + 1 + 1 + 1 + 1 + 1, 1, none⟩ = some (.int .i64 py) ∧ w'.cell? ⟨w.heap.size + 1 + 1 + 1 + 1 + 1 + 1 + 1, 2, none⟩ = some (.int .i64 ((d + 1) % 4 : Nat)))
          (first | (have hq := HN3.out; exact ⟨hq.1.1, hq.1.2.1, hq.1.2.2.1, hq.2.2.2.1.1, hq.2.2.2.1.2.1, hq.2.2.2.1.2.2⟩) | (have hq := HN2.out; exact ⟨hq.1.1, hq.1.2.1, hq.1.2.2.1, hq.2.2.2.1.1, hq.2.2.2.1.2.1, hq.2.2.2.1.2.2⟩))
          ((go_at_call 132; refine (cIsSide_any W H s px py ((d + 1) % 4) (by omega) (by omega) (by omega) _ hw2 hh2 HL.out).mono ?_; rintro e w2 ⟨rfl, hb⟩; have HN3 := hid (Nx.drawn HN2.out hb); clear hb; rw [ha]))
        obtain ⟨⟨c0, c1, c2, c3, c4, c5, hz⟩, ⟨p0, p1⟩, ⟨a0, a1, a2⟩, ⟨b0, b1, b2⟩, ⟨e0, e1, e2⟩, ⟨r0, r1, r2⟩, fz, -, hz8⟩ := HN3.out
        have f10 := fz (w.heap.size + 1) 0 (by omega) (by omega)
        have f11 := fz (w.heap.size + 1) 1 (by omega) (by omega)
        have f12 := fz (w.heap.size + 1) 2 (by omega) (by omega)
        clear fz
        go_wp2_with fail
        clear c0 c1 c2 c3 c4 c5 p0 p1 a0 a1 a2 b0 b1 b2 e0 e1 e2 r0 r1 r2 hz8 f10 f11 f12 hz
        cases hb2 : Qm.isS (Pm.blackB W H s.data.toList) (px, py, d)
        case true =>
          go_region_held3 (fun w' => w'.cell? ⟨g, 0, none⟩ = some (.int .i64 W) ∧ w'.cell? ⟨g, 1, none⟩ = some (.int .i64 H) ∧ w'.cell? ⟨g, 2, none⟩ = some (.string s) ∧ w'.cell? ⟨w.heap.size + 1 + 1 + 1 + 1 + 1 + 1, 0, none⟩ = some (.int .i64 px) ∧ w'.cell? ⟨w.heap.size + 1 + 1 + 1 + 1 + 1 + 1, 1, none⟩ = some (.int .i64 py) ∧ w'.cell? ⟨w.heap.size + 1 + 1 + 1 + 1 + 1 + 1, 2, none⟩ = some (.int .i64 (d : Nat)))
            (first | (have hq := HN4.out; exact ⟨hq.1.1, hq.1.2.1, hq.1.2.2.1, hq.2.2.1.1, hq.2.2.1.2.1, hq.2.2.1.2.2⟩) | (have hq := HN3.out; exact ⟨hq.1.1, hq.1.2.1, hq.1.2.2.1, hq.2.2.1.1, hq.2.2.1.2.1, hq.2.2.1.2.2⟩))
            ((go_at_call 132; refine (cIsSide_any W H s px py (d) (by omega) (by omega) (by omega) _ hw2 hh2 HL.out).mono ?_; rintro e w2 ⟨rfl, hb⟩; have HN4 := hid (Nx.drawn HN3.out hb); clear hb; rw [hb2]))
          obtain ⟨⟨c0, c1, c2, c3, c4, c5, hz⟩, ⟨p0, p1⟩, ⟨a0, a1, a2⟩, ⟨b0, b1, b2⟩, ⟨e0, e1, e2⟩, ⟨r0, r1, r2⟩, fz, -, hz8⟩ := HN4.out
          have f10 := fz (w.heap.size + 1) 0 (by omega) (by omega)
          have f11 := fz (w.heap.size + 1) 1 (by omega) (by omega)
          have f12 := fz (w.heap.size + 1) 2 (by omega) (by omega)
          clear fz
          go_wp2
          refine bodyPost_ret (v := .agg #[.int .i64 px, .int .i64 py, .int .i64 (d : Nat)]) (by simp [results, Tryz.results121, go_sem, *]) rfl ?_
          exact ⟨by rw [nxD_f2 hj ha hb2], ((HN4.out.2.2.2.2.2.2.2.1.setCell (by dsimp; omega) _).setCell (by dsimp; omega) _).setCell (by dsimp; omega) _⟩
        case false =>
          go_region_held3 (fun w' => w'.cell? ⟨g, 0, none⟩ = some (.int .i64 W) ∧ w'.cell? ⟨g, 1, none⟩ = some (.int .i64 H) ∧ w'.cell? ⟨g, 2, none⟩ = some (.string s) ∧ w'.cell? ⟨w.heap.size + 1 + 1 + 1 + 1 + 1 + 1, 0, none⟩ = some (.int .i64 px) ∧ w'.cell? ⟨w.heap.size + 1 + 1 + 1 + 1 + 1 + 1, 1, none⟩ = some (.int .i64 py) ∧ w'.cell? ⟨w.heap.size + 1 + 1 + 1 + 1 + 1 + 1, 2, none⟩ = some (.int .i64 (d : Nat)))
            (first | (have hq := HN4.out; exact ⟨hq.1.1, hq.1.2.1, hq.1.2.2.1, hq.2.2.1.1, hq.2.2.1.2.1, hq.2.2.1.2.2⟩) | (have hq := HN3.out; exact ⟨hq.1.1, hq.1.2.1, hq.1.2.2.1, hq.2.2.1.1, hq.2.2.1.2.1, hq.2.2.1.2.2⟩))
            ((go_at_call 132; refine (cIsSide_any W H s px py (d) (by omega) (by omega) (by omega) _ hw2 hh2 HL.out).mono ?_; rintro e w2 ⟨rfl, hb⟩; have HN4 := hid (Nx.drawn HN3.out hb); clear hb; rw [hb2]))
          obtain ⟨⟨c0, c1, c2, c3, c4, c5, hz⟩, ⟨p0, p1⟩, ⟨a0, a1, a2⟩, ⟨b0, b1, b2⟩, ⟨e0, e1, e2⟩, ⟨r0, r1, r2⟩, fz, -, hz8⟩ := HN4.out
          have f10 := fz (w.heap.size + 1) 0 (by omega) (by omega)
          have f11 := fz (w.heap.size + 1) 1 (by omega) (by omega)
          have f12 := fz (w.heap.size + 1) 2 (by omega) (by omega)
          clear fz
          go_wp2
          refine bodyPost_ret (v := .agg #[.int .i64 px, .int .i64 py, .int .i64 ((d + 3) % 4 : Nat)]) (by simp [results, Tryz.results121, go_sem, *]) rfl ?_
          exact ⟨by rw [nxD_f3 hj ha hb2], ((HN4.out.2.2.2.2.2.2.2.1.setCell (by dsimp; omega) _).setCell (by dsimp; omega) _).setCell (by dsimp; omega) _⟩
    case true =>
      go_wp2_with fail
      clear c0 c1 c2 c3 c4 c5 p0 p1 a0 a1 a2 b0 b1 b2 e0 e1 e2 r0 r1 r2 hz8 hz f70 f71 f72 f80 f81 f82
      have HN2 := hid (HN1.out.swap hz0)
      clear HN1
      revert HN2
      generalize World.setCell _ _ _ = Y
      intro HN2
      cases ha : Qm.isS (Pm.blackB W H s.data.toList) (px, py, (d + 3) % 4)
      case true =>
        go_region_held3 (fun w' => w'.cell? ⟨g, 0, none⟩ = some (.int .i64 W) ∧ w'.cell? ⟨g, 1, none⟩ = some (.int .i64 H) ∧ w'.cell? ⟨g, 2, none⟩ = some (.string s) ∧ w'.cell? ⟨w.heap.size + 1 + 1 + 1 + 1 + 1 + 1 + 1, 0, none⟩ = some (.int .i64 px) ∧ w'.cell? ⟨w.heap.size + 1 + 1 + 1 + 1 + 1 + 1 + 1, 1, none⟩ = some (.int .i64 py) ∧ w'.cell? ⟨w.heap.size + 1 + 1 + 1 + 1 + 1 + 1 + 1, 2, none⟩ = some (.int .i64 ((d + 3) % 4 : Nat)))
          (first | (have hq := HN3.out; exact ⟨hq.1.1, hq.1.2.1, hq.1.2.2.1, hq.2.2.2.1.1, hq.2.2.2.1.2.1, hq.2.2.2.1.2.2⟩) | (have hq := HN2.out; exact ⟨hq.1.1, hq.1.2.1, hq.1.2.2.1, hq.2.2.2.1.1, hq.2.2.2.1.2.1, hq.2.2.2.1.2.2⟩))
          ((go_at_call 132; refine (cIsSide_any W H s px py ((d + 3) % 4) (by omega) (by omega) (by omega) _ hw2 hh2 HL.out).mono ?_; rintro e w2 ⟨rfl, hb⟩; have HN3 := hid (Nx.drawn HN2.out hb); clear hb; rw [ha]))
        obtain ⟨⟨c0, c1, c2, c3, c4, c5, hz⟩, ⟨p0, p1⟩, ⟨a0, a1, a2⟩, ⟨b0, b1, b2⟩, ⟨e0, e1, e2⟩, ⟨r0, r1, r2⟩, fz, -, hz8⟩ := HN3.out
        have f10 := fz (w.heap.size + 1) 0 (by omega) (by omega)
        have f11 := fz (w.heap.size + 1) 1 (by omega) (by omega)
        have f12 := fz (w.heap.size + 1) 2 (by omega) (by omega)
        clear fz
        go_wp2
        refine bodyPost_ret (v := .agg #[.int .i64 px, .int .i64 py, .int .i64 ((d + 3) % 4 : Nat)]) (by simp [results, Tryz.results121, go_sem, *]) rfl ?_
        exact ⟨by rw [nxD_t1 hj ha], ((HN3.out.2.2.2.2.2.2.2.1.setCell (by dsimp; omega) _).setCell (by dsimp; omega) _).setCell (by dsimp; omega) _⟩
      case false =>
        go_region_held3 (fun w' => w'.cell? ⟨g, 0, none⟩ = some (.int .i64 W) ∧ w'.cell? ⟨g, 1, none⟩ = some (.int .i64 H) ∧ w'.cell? ⟨g, 2, none⟩ = some (.string s) ∧ w'.cell? ⟨w.heap.size + 1 + 1 + 1 + 1 + 1 + 1 + 1, 0, none⟩ = some (.int .i64 px) ∧ w'.cell? ⟨w.heap.size + 1 + 1 + 1 + 1 + 1 + 1 + 1, 1, none⟩ = some (.int .i64 py) ∧ w'.cell? ⟨w.heap.size + 1 + 1 + 1 + 1 + 1 + 1 + 1, 2, none⟩ = some (.int .i64 ((d + 3) % 4 : Nat)))
          (first | (have hq := HN3.out; exact ⟨hq.1.1, hq.1.2.1, hq.1.2.2.1, hq.2.2.2.1.1, hq.2.2.2.1.2.1, hq.2.2.2.1.2.2⟩) | (have hq := HN2.out; exact ⟨hq.1.1, hq.1.2.1, hq.1.2.2.1, hq.2.2.2.1.1, hq.2.2.2.1.2.1, hq.2.2.2.1.2.2⟩))
          ((go_at_call 132; refine (cIsSide_any W H s px py ((d + 3) % 4) (by omega) (by omega) (by omega) _ hw2 hh2 HL.out).mono ?_; rintro e w2 ⟨rfl, hb⟩; have HN3 := hid (Nx.drawn HN2.out hb); clear hb; rw [ha]))
        obtain ⟨⟨c0, c1, c2, c3, c4, c5, hz⟩, ⟨p0, p1⟩, ⟨a0, a1, a2⟩, ⟨b0, b1, b2⟩, ⟨e0, e1, e2⟩, ⟨r0, r1, r2⟩, fz, -, hz8⟩ := HN3.out
        have f10 := fz (w.heap.size + 1) 0 (by omega) (by omega)
        have f11 := fz (w.heap.size + 1) 1 (by omega) (by omega)
        have f12 := fz (w.heap.size + 1) 2 (by omega) (by omega)
        clear fz
        go_wp2_with fail
        clear c0 c1 c2 c3 c4 c5 p0 p1 a0 a1 a2 b0 b1 b2 e0 e1 e2 r0 r1 r2 hz8 f10 f11 f12 hz
        cases hb2 : Qm.isS (Pm.blackB W H s.data.toList) (px, py, d)
        case true =>
          go_region_held3 (fun w' => w'.cell? ⟨g, 0, none⟩ = some (.int .i64 W) ∧ w'.cell? ⟨g, 1, none⟩ = some (.int .i64 H) ∧ w'.cell? ⟨g, 2, none⟩ = some (.string s) ∧ w'.cell? ⟨w.heap.size + 1 + 1 + 1 + 1 + 1 + 1, 0, none⟩ = some (.int .i64 px) ∧ w'.cell? ⟨w.heap.size + 1 + 1 + 1 + 1 + 1 + 1, 1, none⟩ = some (.int .i64 py) ∧ w'.cell? ⟨w.heap.size + 1 + 1 + 1 + 1 + 1 + 1, 2, none⟩ = some (.int .i64 (d : Nat)))
            (first | (have hq := HN4.out; exact ⟨hq.1.1, hq.1.2.1, hq.1.2.2.1, hq.2.2.1.1, hq.2.2.1.2.1, hq.2.2.1.2.2⟩) | (have hq := HN3.out; exact ⟨hq.1.1, hq.1.2.1, hq.1.2.2.1, hq.2.2.1.1, hq.2.2.1.2.1, hq.2.2.1.2.2⟩))
            ((go_at_call 132; refine (cIsSide_any W H s px py (d) (by omega) (by omega) (by omega) _ hw2 hh2 HL.out).mono ?_; rintro e w2 ⟨rfl, hb⟩; have HN4 := hid (Nx.drawn HN3.out hb); clear hb; rw [hb2]))
          obtain ⟨⟨c0, c1, c2, c3, c4, c5, hz⟩, ⟨p0, p1⟩, ⟨a0, a1, a2⟩, ⟨b0, b1, b2⟩, ⟨e0, e1, e2⟩, ⟨r0, r1, r2⟩, fz, -, hz8⟩ := HN4.out
          have f10 := fz (w.heap.size + 1) 0 (by omega) (by omega)
          have f11 := fz (w.heap.size + 1) 1 (by omega) (by omega)
          have f12 := fz (w.heap.size + 1) 2 (by omega) (by omega)
          clear fz
          go_wp2
          refine bodyPost_ret (v := .agg #[.int .i64 px, .int .i64 py, .int .i64 (d : Nat)]) (by simp [results, Tryz.results121, go_sem, *]) rfl ?_
          exact ⟨by rw [nxD_t2 hj ha hb2], ((HN4.out.2.2.2.2.2.2.2.1.setCell (by dsimp; omega) _).setCell (by dsimp; omega) _).setCell (by dsimp; omega) _⟩
        case false =>
          go_region_held3 (fun w' => w'.cell? ⟨g, 0, none⟩ = some (.int .i64 W) ∧ w'.cell? ⟨g, 1, none⟩ = some (.int .i64 H) ∧ w'.cell? ⟨g, 2, none⟩ = some (.string s) ∧ w'.cell? ⟨w.heap.size + 1 + 1 + 1 + 1 + 1 + 1, 0, none⟩ = some (.int .i64 px) ∧ w'.cell? ⟨w.heap.size + 1 + 1 + 1 + 1 + 1 + 1, 1, none⟩ = some (.int .i64 py) ∧ w'.cell? ⟨w.heap.size + 1 + 1 + 1 + 1 + 1 + 1, 2, none⟩ = some (.int .i64 (d : Nat)))
            (first | (have hq := HN4.out; exact ⟨hq.1.1, hq.1.2.1, hq.1.2.2.1, hq.2.2.1.1, hq.2.2.1.2.1, hq.2.2.1.2.2⟩) | (have hq := HN3.out; exact ⟨hq.1.1, hq.1.2.1, hq.1.2.2.1, hq.2.2.1.1, hq.2.2.1.2.1, hq.2.2.1.2.2⟩))
            ((go_at_call 132; refine (cIsSide_any W H s px py (d) (by omega) (by omega) (by omega) _ hw2 hh2 HL.out).mono ?_; rintro e w2 ⟨rfl, hb⟩; have HN4 := hid (Nx.drawn HN3.out hb); clear hb; rw [hb2]))
          obtain ⟨⟨c0, c1, c2, c3, c4, c5, hz⟩, ⟨p0, p1⟩, ⟨a0, a1, a2⟩, ⟨b0, b1, b2⟩, ⟨e0, e1, e2⟩, ⟨r0, r1, r2⟩, fz, -, hz8⟩ := HN4.out
          have f10 := fz (w.heap.size + 1) 0 (by omega) (by omega)
          have f11 := fz (w.heap.size + 1) 1 (by omega) (by omega)
          have f12 := fz (w.heap.size + 1) 2 (by omega) (by omega)
          clear fz
          go_wp2
          refine bodyPost_ret (v := .agg #[.int .i64 px, .int .i64 py, .int .i64 ((d + 1) % 4 : Nat)]) (by simp [results, Tryz.results121, go_sem, *]) rfl ?_
          exact ⟨by rw [nxD_t3 hj ha hb2], ((HN4.out.2.2.2.2.2.2.2.1.setCell (by dsimp; omega) _).setCell (by dsimp; omega) _).setCell (by dsimp; omega) _⟩
end Go.Proofs.YtljfiefobnncaabGreatDoor

/- What is taken: a row of marks, and the cycles that it stands for. Nothing of the program stands here. -/
namespace Go.Proofs.YtljfiefobnncaabGreatDoor.Qm

/-- How many of the first n marks are not set. -/
def cntF (T : Nat → Bool) : Nat → Nat
  | 0 => 0
  | n + 1 => cntF T n + if T n then 0 else 1
theorem cntF_le (T : Nat → Bool) (n : Nat) : cntF T n ≤ n := by
  induction n with
  | zero => exact Nat.le_refl _
  | succ n ih => unfold cntF; split <;> omega
def mark (T : Nat → Bool) (c : Nat) (n : Nat) : Bool := T n || n == c
theorem cntF_mark_past (T : Nat → Bool) (c : Nat) : ∀ n, n ≤ c → cntF (mark T c) n = cntF T n
  | 0, _ => rfl
  | n + 1, h => by
    unfold cntF
    rw [cntF_mark_past T c n (by omega)]
    have : mark T c n = T n := by unfold mark; rw [show (n == c) = false from by simp; omega]; simp
    rw [this]
theorem cntF_mark (T : Nat → Bool) (c : Nat) (hc : T c = false) : ∀ n, c < n → cntF (mark T c) n + 1 = cntF T n
  | 0, h => absurd h (Nat.not_lt_zero _)
  | n + 1, h => by
    unfold cntF
    rcases Nat.lt_or_ge c n with h1 | h1
    · have : mark T c n = T n := by unfold mark; rw [show (n == c) = false from by simp; omega]; simp
      rw [this]
      have := cntF_mark T c hc n h1
      omega
    · obtain rfl : n = c := by omega
      rw [cntF_mark_past T n n (Nat.le_refl _), hc]
      simp [mark]

/-- The marks stand for what lies on the cycles. -/
def Rep (bl : Int → Int → Bool) (f : Sd → Sd) (T : Nat → Bool) (R : List (Sd × Nat)) : Prop := ∀ t, isS bl t = true → (T (codeS t).toNat = true ↔ Tk f R t)
/-- .. and for what lies on the first m sides from s. -/
def RepM (bl : Int → Int → Bool) (f : Sd → Sd) (T : Nat → Bool) (R : List (Sd × Nat)) (s : Sd) (m : Nat) : Prop := ∀ t, isS bl t = true → (T (codeS t).toNat = true ↔ Tk f R t ∨ ∃ i, i < m ∧ t = it f i s)

theorem Rep.zero {bl : Int → Int → Bool} {f : Sd → Sd} {T : Nat → Bool} {R : List (Sd × Nat)} (h : Rep bl f T R) (s : Sd) : RepM bl f T R s 0 := fun t ht => by
  rw [h t ht]; constructor
  · exact .inl
  · rintro (h | ⟨i, hi, _⟩)
    · exact h
    · omega

section
variable {bl : Int → Int → Bool} {W H : Int} {f : Sd → Sd} {T : Nat → Bool} {R : List (Sd × Nat)} {s : Sd} {m : Nat}

theorem RepM.succ (hp : Pic bl W H) (h : RepM bl f T R s m) (hs : isS bl (it f m s) = true) : RepM bl f (mark T (codeS (it f m s)).toNat) R s (m + 1) := fun t ht => by
  unfold mark
  rw [Bool.or_eq_true, h t ht, beq_iff_eq]
  constructor
  · rintro ((h | ⟨i, hi, e⟩) | e)
    · exact .inl h
    · exact .inr ⟨i, by omega, e⟩
    · refine .inr ⟨m, by omega, code_inj hp ht hs ?_⟩
      have := code_in hp ht; have := code_in hp hs; omega
  · rintro (h | ⟨i, hi, e⟩)
    · exact .inl (.inl h)
    · rcases Nat.lt_or_ge i m with h1 | h1
      · exact .inl (.inr ⟨i, h1, e⟩)
      · obtain rfl : i = m := by omega
        exact .inr (by rw [e])

theorem RepM.free (h : RepM bl f T R s m) (hs : isS bl (it f m s) = true) (hT : T (codeS (it f m s)).toNat = false) : ¬ Tk f R (it f m s) ∧ ∀ i, i < m → it f i s ≠ it f m s := by
  have : ¬ (Tk f R (it f m s) ∨ ∃ i, i < m ∧ it f m s = it f i s) := fun hh => absurd ((h _ hs).2 hh) (by rw [hT]; simp)
  exact ⟨fun hh => this (.inl hh), fun i hi e => this (.inr ⟨i, hi, e.symm⟩)⟩

/-- A whole cycle more. -/
theorem RepM.whole (h : RepM bl f T R s m) : Rep bl f T (R ++ [(s, m)]) := fun t ht => by
  rw [h t ht]
  constructor
  · rintro (⟨c, hc, i, hi, e⟩ | ⟨i, hi, e⟩)
    · exact ⟨c, List.mem_append_left _ hc, i, hi, e⟩
    · exact ⟨(s, m), by simp, i, hi, e⟩
  · rintro ⟨c, hc, i, hi, e⟩
    rcases List.mem_append.1 hc with hc | hc
    · exact .inl ⟨c, hc, i, hi, e⟩
    · rw [List.mem_singleton] at hc; subst hc; exact .inr ⟨i, hi, e⟩
end

/-- The cells of a row of points. -/
def ptV (p : Int × Int) : List Value := [.int .i64 p.1, .int .i64 p.2]
def ptsV (l : List (Int × Int)) : List Value := l.flatMap ptV
theorem ptsV_snoc (l : List (Int × Int)) (p : Int × Int) : ptsV (l ++ [p]) = ptsV l ++ ptV p := by simp [ptsV]
theorem ptsV_len (l : List (Int × Int)) : (ptsV l).length = l.length * 2 := by
  induction l with
  | nil => rfl
  | cons p l ih => simp only [ptsV, List.flatMap_cons, List.length_append] at *; rw [ih]; simp [ptV]; omega
theorem ptsOf_succ (f : Sd → Sd) (s : Sd) (m : Nat) : ptsOf f (s, m + 1) = ptsOf f (s, m) ++ [fromP (it f m s)] := by simp [ptsOf, List.range_succ]
theorem ptsOf_len (f : Sd → Sd) (c : Sd × Nat) : (ptsOf f c).length = c.2 := by simp [ptsOf]
end Go.Proofs.YtljfiefobnncaabGreatDoor.Qm
