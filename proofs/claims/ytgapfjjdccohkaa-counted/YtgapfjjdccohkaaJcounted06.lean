import Derived.Test.YtgapfjjdccohkaaJcounted05
import Derived.Test.YtgapfjjdccohkaaJcounted02
import Derived.Deep.Onto

/- next of package cycles. -/
namespace Go.Proofs.Ytgapfjjdccohkaa
open Go.RowKit
attribute [local go_sem ↓] Go.wp_at_zero Go.wp_at_succ

theorem bcell {W w1 : World} (hb : Below W.heap.size W w1) : (∀ b o, b < W.heap.size → w1.cell? ⟨b, o, none⟩ = W.cell? ⟨b, o, none⟩) ∧ (∀ b o, b < W.heap.size → w1.frozen? ⟨b, o, none⟩ = W.frozen? ⟨b, o, none⟩) :=
  ⟨fun b o h => hb.cell (p := ⟨b, o, none⟩) h, fun b o h => hb.frozen (p := ⟨b, o, none⟩) h⟩

/-- All ways through a piece of code end in one frame and one world. -/
theorem wp_one {P : Program} {c : Code} {Q : Exit → Act → World → Prop} {a : Act} {w : World} (A : Act) (W : World) (h : c.wp P (fun e a' w' => e = .normal ∧ a' = A ∧ w' = W) a w) (k : Q .normal A W) : c.wp P Q a w :=
  Code.wp_mono (fun e a' w' ⟨h1, h2, h3⟩ => by subst h1 h2 h3; exact k) h

/-- The walker at block g: its bitmap and its options. -/
def Wk (g W H : Nat) (s : ByteArray) (pol : Nat) (draws : ByteArray) (spk : Int) (w : World) : Prop :=
  w.cell? ⟨g, 0, none⟩ = some (.int .i64 W) ∧ w.cell? ⟨g, 1, none⟩ = some (.int .i64 H) ∧ w.cell? ⟨g, 2, none⟩ = some (.string s) ∧ w.cell? ⟨g, 3, none⟩ = some (.int .i64 pol) ∧ w.cell? ⟨g, 4, none⟩ = some (.string draws) ∧ w.cell? ⟨g, 5, none⟩ = some (.int .i64 spk) ∧ g < w.heap.size

theorem nxD_eq (bl jn : Int → Int → Bool) (px py : Int) (d : Nat) : Qm.nxD bl jn (px, py) d =
    if Qm.isS bl (px, py, if jn px py then (d + 3) % 4 else (d + 1) % 4) then (if jn px py then (d + 3) % 4 else (d + 1) % 4)
    else if Qm.isS bl (px, py, d) then d else (if jn px py then (d + 1) % 4 else (d + 3) % 4) := rfl

section
variable {bl jn : Int → Int → Bool} {px py : Int} {d : Nat}
theorem nxD_f1 (hj : jn px py = false) (ha : Qm.isS bl (px, py, (d + 1) % 4) = true) : Qm.nxD bl jn (px, py) d = (d + 1) % 4 := by rw [nxD_eq]; simp [hj, ha]
theorem nxD_f2 (hj : jn px py = false) (ha : Qm.isS bl (px, py, (d + 1) % 4) = false) (hb : Qm.isS bl (px, py, d) = true) : Qm.nxD bl jn (px, py) d = d := by rw [nxD_eq]; simp [hj, ha, hb]
theorem nxD_f3 (hj : jn px py = false) (ha : Qm.isS bl (px, py, (d + 1) % 4) = false) (hb : Qm.isS bl (px, py, d) = false) : Qm.nxD bl jn (px, py) d = (d + 3) % 4 := by rw [nxD_eq]; simp [hj, ha, hb]
theorem nxD_t1 (hj : jn px py = true) (ha : Qm.isS bl (px, py, (d + 3) % 4) = true) : Qm.nxD bl jn (px, py) d = (d + 3) % 4 := by rw [nxD_eq]; simp [hj, ha]
theorem nxD_t2 (hj : jn px py = true) (ha : Qm.isS bl (px, py, (d + 3) % 4) = false) (hb : Qm.isS bl (px, py, d) = true) : Qm.nxD bl jn (px, py) d = d := by rw [nxD_eq]; simp [hj, ha, hb]
theorem nxD_t3 (hj : jn px py = true) (ha : Qm.isS bl (px, py, (d + 3) % 4) = false) (hb : Qm.isS bl (px, py, d) = false) : Qm.nxD bl jn (px, py) d = (d + 1) % 4 := by rw [nxD_eq]; simp [hj, ha, hb]
end

/-- What 'next' has laid at blocks B to B + 8. -/
def Nx (B g W H : Nat) (s : ByteArray) (pol : Nat) (draws : ByteArray) (spk : Int) (px py d : Nat) (n f : Int) (w X : World) : Prop :=
  Wk g W H s pol draws spk X ∧ (X.cell? ⟨B + 1 + 1 + 1 + 1 + 1, 0, none⟩ = some (.int .i64 px) ∧ X.cell? ⟨B + 1 + 1 + 1 + 1 + 1, 1, none⟩ = some (.int .i64 py)) ∧
  (X.cell? ⟨B + 1 + 1 + 1 + 1 + 1 + 1, 0, none⟩ = some (.int .i64 px) ∧ X.cell? ⟨B + 1 + 1 + 1 + 1 + 1 + 1, 1, none⟩ = some (.int .i64 py) ∧ X.cell? ⟨B + 1 + 1 + 1 + 1 + 1 + 1, 2, none⟩ = some (.int .i64 d)) ∧
  (X.cell? ⟨B + 1 + 1 + 1 + 1 + 1 + 1 + 1, 0, none⟩ = some (.int .i64 px) ∧ X.cell? ⟨B + 1 + 1 + 1 + 1 + 1 + 1 + 1, 1, none⟩ = some (.int .i64 py) ∧ X.cell? ⟨B + 1 + 1 + 1 + 1 + 1 + 1 + 1, 2, none⟩ = some (.int .i64 n)) ∧
  (X.cell? ⟨B + 1 + 1 + 1 + 1 + 1 + 1 + 1 + 1, 0, none⟩ = some (.int .i64 px) ∧ X.cell? ⟨B + 1 + 1 + 1 + 1 + 1 + 1 + 1 + 1, 1, none⟩ = some (.int .i64 py) ∧ X.cell? ⟨B + 1 + 1 + 1 + 1 + 1 + 1 + 1 + 1, 2, none⟩ = some (.int .i64 f)) ∧
  (X.cell? ⟨B + 1, 0, none⟩ = some (.int .i64 0) ∧ X.cell? ⟨B + 1, 1, none⟩ = some (.int .i64 0) ∧ X.cell? ⟨B + 1, 2, none⟩ = some (.int .i64 0)) ∧
  (∀ k j, B < k → k ≤ B + 8 → X.frozen? ⟨k, j, none⟩ = false) ∧
  Below B w X ∧ B + 8 < X.heap.size

theorem frozen_drew (w : World) (a : Addr) : w.drew.frozen? a = w.frozen? a := rfl
theorem frozen_past (w : World) (k j : Nat) (h : w.heap.size ≤ k) : w.frozen? ⟨k, j, none⟩ = false := by
  simp [World.frozen?, Array.getElem?_eq_none h]

theorem Wk.on {g W H : Nat} {s : ByteArray} {pol : Nat} {draws : ByteArray} {spk : Int} {w w' : World} (h : Wk g W H s pol draws spk w) (hb : Below w.heap.size w w') : Wk g W H s pol draws spk w' := by
  obtain ⟨c0, c1, c2, c3, c4, c5, hz⟩ := h
  exact ⟨(hb.cell (p := ⟨g, 0, none⟩) hz).trans c0, (hb.cell (p := ⟨g, 1, none⟩) hz).trans c1, (hb.cell (p := ⟨g, 2, none⟩) hz).trans c2, (hb.cell (p := ⟨g, 3, none⟩) hz).trans c3, (hb.cell (p := ⟨g, 4, none⟩) hz).trans c4, (hb.cell (p := ⟨g, 5, none⟩) hz).trans c5, Nat.lt_of_lt_of_le hz hb.size⟩

theorem Nx.on {B g W H : Nat} {s : ByteArray} {pol : Nat} {draws : ByteArray} {spk : Int} {px py d : Nat} {n f : Int} {w X Y : World} (h : Nx B g W H s pol draws spk px py d n f w X) (hb : Below X.heap.size X Y) : Nx B g W H s pol draws spk px py d n f w Y := by
  obtain ⟨hW, ⟨p0, p1⟩, ⟨a0, a1, a2⟩, ⟨b0, b1, b2⟩, ⟨e0, e1, e2⟩, ⟨r0, r1, r2⟩, fz, hB, hz⟩ := h
  have C : ∀ k j, k < X.heap.size → Y.cell? ⟨k, j, none⟩ = X.cell? ⟨k, j, none⟩ := fun k j hk => hb.cell (p := ⟨k, j, none⟩) hk
  have F : ∀ k j, k < X.heap.size → Y.frozen? ⟨k, j, none⟩ = X.frozen? ⟨k, j, none⟩ := fun k j hk => hb.frozen (p := ⟨k, j, none⟩) hk
  refine ⟨hW.on hb, ⟨?_, ?_⟩, ⟨?_, ?_, ?_⟩, ⟨?_, ?_, ?_⟩, ⟨?_, ?_, ?_⟩, ⟨?_, ?_, ?_⟩, fun k j h1 h2 => (F k j (by omega)).trans (fz k j h1 h2), hB.trans (hb.mono (by omega)), Nat.lt_of_lt_of_le hz hb.size⟩
  all_goals (rw [C _ _ (by omega)]; assumption)

theorem Nx.drawn {B g W H : Nat} {s : ByteArray} {pol : Nat} {draws : ByteArray} {spk : Int} {px py d : Nat} {n f : Int} {w X Y : World} (h : Nx B g W H s pol draws spk px py d n f w X) (hb : Below X.drew.heap.size X.drew Y) : Nx B g W H s pol draws spk px py d n f w Y :=
  Nx.on (X := X.drew) ⟨h.1, h.2.1, h.2.2.1, h.2.2.2.1, h.2.2.2.2.1, h.2.2.2.2.2.1, h.2.2.2.2.2.2.1, h.2.2.2.2.2.2.2.1.drew, h.2.2.2.2.2.2.2.2⟩ hb

theorem Nx.swap {B g W H : Nat} {s : ByteArray} {pol : Nat} {draws : ByteArray} {spk : Int} {px py d : Nat} {n f : Int} {w X : World} (h : Nx B g W H s pol draws spk px py d n f w X) (hg : g < B) :
    Nx B g W H s pol draws spk px py d f n w ((((((X.setCell ⟨B + 1 + 1 + 1 + 1 + 1 + 1 + 1, 0, none⟩ (.int .i64 px)).setCell ⟨B + 1 + 1 + 1 + 1 + 1 + 1 + 1, 1, none⟩ (.int .i64 py)).setCell ⟨B + 1 + 1 + 1 + 1 + 1 + 1 + 1, 2, none⟩ (.int .i64 f)).setCell ⟨B + 1 + 1 + 1 + 1 + 1 + 1 + 1 + 1, 0, none⟩ (.int .i64 px)).setCell ⟨B + 1 + 1 + 1 + 1 + 1 + 1 + 1 + 1, 1, none⟩ (.int .i64 py)).setCell ⟨B + 1 + 1 + 1 + 1 + 1 + 1 + 1 + 1, 2, none⟩ (.int .i64 n)) := by
  obtain ⟨⟨c0, c1, c2, c3, c4, c5, hz0⟩, ⟨p0, p1⟩, ⟨a0, a1, a2⟩, ⟨b0, b1, b2⟩, ⟨e0, e1, e2⟩, ⟨r0, r1, r2⟩, fz, hB, hz⟩ := h
  have n7 : B + 1 + 1 + 1 + 1 + 1 + 1 + 1 ≠ g := by omega
  have n8 : B + 1 + 1 + 1 + 1 + 1 + 1 + 1 + 1 ≠ g := by omega
  refine ⟨⟨?_, ?_, ?_, ?_, ?_, ?_, ?_⟩, ⟨?_, ?_⟩, ⟨?_, ?_, ?_⟩, ⟨?_, ?_, ?_⟩, ⟨?_, ?_, ?_⟩, ⟨?_, ?_, ?_⟩, fun k j h1 h2 => by simpa using fz k j h1 h2, ?_, ?_⟩
  case refine_22 => exact (((((hB.setCell (by first | omega | (dsimp; omega)) _).setCell (by first | omega | (dsimp; omega)) _).setCell (by first | omega | (dsimp; omega)) _).setCell (by first | omega | (dsimp; omega)) _).setCell (by first | omega | (dsimp; omega)) _).setCell (by first | omega | (dsimp; omega)) _
  all_goals first | (simp [World.cell?_setCell_other, World.cell?_setCell_same', *]; done) | (simp [go_sem, World.cell?_setCell_other, World.cell?_setCell_same', *]; done) | (simp only [World.size_setCell]; omega)

set_option maxHeartbeats 4000000 in
theorem next_any (g W H : Nat) (s : ByteArray) (pol : Nat) (draws : ByteArray) (spk : Int) (x y : Int) (d px py : Nat) (hd : d < 4) (hx : -1000 ≤ x ∧ x ≤ 1000) (hy : -1000 ≤ y ∧ y ≤ 1000) (hpx : px ≤ 100) (hpy : py ≤ 100) (he : Qm.en (x, y, d) = ((px : Int), (py : Int))) (hp : pol ≤ 3) (w : World) (hW : Wk g W H s pol draws spk w) (hw2 : W ≤ 32) (hh2 : H ≤ 32) (hl : s.size = W * H) :
    Calls Try.prog 71 #[.pointer (some ⟨g, 0, none⟩), .agg #[.int .i64 x, .int .i64 y, .int .i64 d]] w fun e w' => e = .returned (.agg #[.int .i64 px, .int .i64 py, .int .i64 (Qm.nxD (Pm.blackB W H s.data.toList) (Qm.jnB W H s.data.toList pol draws.data.toList) (px, py) d : Nat)]) ∧ Below w.heap.size w w' := by
  have HL := hid hl
  have HE := hid he
  clear hl he
  have HW := hid hW
  obtain ⟨c0, c1, c2, c3, c4, c5, hz⟩ := hW
  go_enter Try.func71, Try.ntmps71
  go_wp2_with fail
  refine (end_any x y d hd hx hy _).mono ?_
  rintro e w1 ⟨rfl, o1, o2, o3, rfl⟩
  rw [HE.out]
  go_wp2_with fail
  apply wp_one
  case h =>
    go_region_held3 (fun w' => w'.cell? ⟨w.heap.size, 2, none⟩ = some (.int .i64 d) ∧ w'.cell? ⟨w.heap.size + 1 + 1 + 1 + 1 + 1, 0, none⟩ = some (.int .i64 px) ∧ w'.cell? ⟨w.heap.size + 1 + 1 + 1 + 1 + 1, 1, none⟩ = some (.int .i64 py))
      (first | (simp [go_sem]; done) | (go_keep))
      ((go_at_call 78; refine (leftOf_any d hd _).mono ?_; rintro e w1 ⟨rfl, rfl⟩))
    all_goals exact ⟨rfl, rfl, rfl⟩
  go_wp2_with fail
  apply wp_one
  case h =>
    go_region_held3 (fun w' => w'.cell? ⟨w.heap.size, 2, none⟩ = some (.int .i64 d) ∧ w'.cell? ⟨w.heap.size + 1 + 1 + 1 + 1 + 1, 0, none⟩ = some (.int .i64 px) ∧ w'.cell? ⟨w.heap.size + 1 + 1 + 1 + 1 + 1, 1, none⟩ = some (.int .i64 py))
      (first | (simp [go_sem]; done) | (go_keep))
      ((go_at_call 79; refine (rightOf_any d hd _).mono ?_; rintro e w1 ⟨rfl, rfl⟩))
    all_goals exact ⟨rfl, rfl, rfl⟩
  go_wp2_with fail
  all_goals
    generalize hX : World.drew (World.drew _) = X
    have hN : Nx w.heap.size g W H s pol draws spk px py d (((d : Int) + 1) % 4) (((d : Int) + 3) % 4) w X := by
      rw [← hX]
      refine ⟨HW.out.on (by go_grown), ⟨?_, ?_⟩, ⟨?_, ?_, ?_⟩, ⟨?_, ?_, ?_⟩, ⟨?_, ?_, ?_⟩, ⟨?_, ?_, ?_⟩, fun k j h1 h2 => by simp only [frozen_drew, frozen?_alloc_cells]; exact frozen_past _ _ _ (by omega), by go_grown, ?_⟩
      all_goals first | (simp [go_sem]; done) | (simp; omega)
    clear hX
    have HN := hid hN
    obtain ⟨⟨c0, c1, c2, c3, c4, c5, hz⟩, ⟨p0, p1⟩, ⟨a0, a1, a2⟩, ⟨b0, b1, b2⟩, ⟨e0, e1, e2⟩, ⟨r0, r1, r2⟩, fz, hB, hz8⟩ := hN
    clear hB fz
  all_goals
    go_region_held3 (fun w' => w'.cell? ⟨g, 0, none⟩ = some (.int .i64 W) ∧ w'.cell? ⟨g, 1, none⟩ = some (.int .i64 H) ∧ w'.cell? ⟨g, 2, none⟩ = some (.string s) ∧ w'.cell? ⟨g, 3, none⟩ = some (.int .i64 pol) ∧ w'.cell? ⟨g, 4, none⟩ = some (.string draws) ∧ w'.cell? ⟨g, 5, none⟩ = some (.int .i64 spk) ∧ w'.cell? ⟨w.heap.size + 1 + 1 + 1 + 1 + 1, 0, none⟩ = some (.int .i64 px) ∧ w'.cell? ⟨w.heap.size + 1 + 1 + 1 + 1 + 1, 1, none⟩ = some (.int .i64 py))
      (first | exact ⟨c0, c1, c2, c3, c4, c5, p0, p1⟩ | (have hq := (by assumption : Hid (Nx _ _ _ _ _ _ _ _ _ _ _ _ _ _ _)).out; exact ⟨hq.1.1, hq.1.2.1, hq.1.2.2.1, hq.1.2.2.2.1, hq.1.2.2.2.2.1, hq.1.2.2.2.2.2.1, hq.2.1.1, hq.2.1.2⟩))
      ((go_at_call 80; refine (joins_any W H s pol draws spk px py hp hpx hpy _ hw2 hh2 HL.out).mono ?_; rintro e w1 ⟨rfl, hb⟩; have HN1 := hid (HN.out.drawn hb); clear hb))
  all_goals
    obtain ⟨⟨c0, c1, c2, c3, c4, c5, hz⟩, ⟨p0, p1⟩, ⟨a0, a1, a2⟩, ⟨b0, b1, b2⟩, ⟨e0, e1, e2⟩, ⟨r0, r1, r2⟩, fz, -, hz8⟩ := HN1.out
    have f70 := fz (w.heap.size + 1 + 1 + 1 + 1 + 1 + 1 + 1) 0 (by omega) (by omega)
    have f71 := fz (w.heap.size + 1 + 1 + 1 + 1 + 1 + 1 + 1) 1 (by omega) (by omega)
    have f72 := fz (w.heap.size + 1 + 1 + 1 + 1 + 1 + 1 + 1) 2 (by omega) (by omega)
    have f80 := fz (w.heap.size + 1 + 1 + 1 + 1 + 1 + 1 + 1 + 1) 0 (by omega) (by omega)
    have f81 := fz (w.heap.size + 1 + 1 + 1 + 1 + 1 + 1 + 1 + 1) 1 (by omega) (by omega)
    have f82 := fz (w.heap.size + 1 + 1 + 1 + 1 + 1 + 1 + 1 + 1) 2 (by omega) (by omega)
    clear fz
    have hz0 := HW.out.2.2.2.2.2.2
    cases hj : Qm.jnB W H s.data.toList pol draws.data.toList px py
    case false =>
      go_wp2_with fail
      clear c0 c1 c2 c3 c4 c5 p0 p1 a0 a1 a2 b0 b1 b2 e0 e1 e2 r0 r1 r2 hz8 hz f70 f71 f72 f80 f81 f82
      have HN2 := HN1
      clear HN1
      cases ha : Qm.isS (Pm.blackB W H s.data.toList) (px, py, (d + 1) % 4)
      case true =>
        go_region_held3 (fun w' => w'.cell? ⟨g, 0, none⟩ = some (.int .i64 W) ∧ w'.cell? ⟨g, 1, none⟩ = some (.int .i64 H) ∧ w'.cell? ⟨g, 2, none⟩ = some (.string s) ∧ w'.cell? ⟨w.heap.size + 1 + 1 + 1 + 1 + 1 + 1 + 1, 0, none⟩ = some (.int .i64 px) ∧ w'.cell? ⟨w.heap.size + 1 + 1 + 1 + 1 + 1 + 1 + 1, 1, none⟩ = some (.int .i64 py) ∧ w'.cell? ⟨w.heap.size + 1 + 1 + 1 + 1 + 1 + 1 + 1, 2, none⟩ = some (.int .i64 ((d + 1) % 4 : Nat)))
          (first | (have hq := HN3.out; exact ⟨hq.1.1, hq.1.2.1, hq.1.2.2.1, hq.2.2.2.1.1, hq.2.2.2.1.2.1, hq.2.2.2.1.2.2⟩) | (have hq := HN2.out; exact ⟨hq.1.1, hq.1.2.1, hq.1.2.2.1, hq.2.2.2.1.1, hq.2.2.2.1.2.1, hq.2.2.2.1.2.2⟩))
          ((go_at_call 76; refine (cIsSide_any W H s px py ((d + 1) % 4) (by omega) (by omega) (by omega) _ hw2 hh2 HL.out).mono ?_; rintro e w2 ⟨rfl, hb⟩; have HN3 := hid (Nx.drawn HN2.out hb); clear hb; rw [ha]))
        obtain ⟨⟨c0, c1, c2, c3, c4, c5, hz⟩, ⟨p0, p1⟩, ⟨a0, a1, a2⟩, ⟨b0, b1, b2⟩, ⟨e0, e1, e2⟩, ⟨r0, r1, r2⟩, fz, -, hz8⟩ := HN3.out
        have f10 := fz (w.heap.size + 1) 0 (by omega) (by omega)
        have f11 := fz (w.heap.size + 1) 1 (by omega) (by omega)
        have f12 := fz (w.heap.size + 1) 2 (by omega) (by omega)
        clear fz
        go_wp2
        refine bodyPost_ret (v := .agg #[.int .i64 px, .int .i64 py, .int .i64 ((d + 1) % 4 : Nat)]) (by simp [results, Try.results71, go_sem, *]) rfl ?_
        exact ⟨by rw [nxD_f1 hj ha], ((HN3.out.2.2.2.2.2.2.2.1.setCell (by dsimp; omega) _).setCell (by dsimp; omega) _).setCell (by dsimp; omega) _⟩
      case false =>
        go_region_held3 (fun w' => w'.cell? ⟨g, 0, none⟩ = some (.int .i64 W) ∧ w'.cell? ⟨g, 1, none⟩ = some (.int .i64 H) ∧ w'.cell? ⟨g, 2, none⟩ = some (.string s) ∧ w'.cell? ⟨w.heap.size + 1 + 1 + 1 + 1 + 1 + 1 + 1, 0, none⟩ = some (.int .i64 px) ∧ w'.cell? ⟨w.heap.size + 1 + 1 + 1 + 1 + 1 + 1 + 1, 1, none⟩ = some (.int .i64 py) ∧ w'.cell? ⟨w.heap.size + 1 + 1 + 1 + 1 + 1 + 1 + 1, 2, none⟩ = some (.int .i64 ((d + 1) % 4 : Nat)))
          (first | (have hq := HN3.out; exact ⟨hq.1.1, hq.1.2.1, hq.1.2.2.1, hq.2.2.2.1.1, hq.2.2.2.1.2.1, hq.2.2.2.1.2.2⟩) | (have hq := HN2.out; exact ⟨hq.1.1, hq.1.2.1, hq.1.2.2.1, hq.2.2.2.1.1, hq.2.2.2.1.2.1, hq.2.2.2.1.2.2⟩))
          ((go_at_call 76; refine (cIsSide_any W H s px py ((d + 1) % 4) (by omega) (by omega) (by omega) _ hw2 hh2 HL.out).mono ?_; rintro e w2 ⟨rfl, hb⟩; have HN3 := hid (Nx.drawn HN2.out hb); clear hb; rw [ha]))
        obtain ⟨⟨c0, c1, c2, c3, c4, c5, hz⟩, ⟨p0, p1⟩, ⟨a0, a1, a2⟩, ⟨b0, b1, b2⟩, ⟨e0, e1, e2⟩, ⟨r0, r1, r2⟩, fz, -, hz8⟩ := HN3.out
        have f10 := fz (w.heap.size + 1) 0 (by omega) (by omega)
        have f11 := fz (w.heap.size + 1) 1 (by omega) (by omega)
        have f12 := fz (w.heap.size + 1) 2 (by omega) (by omega)
        clear fz
        go_wp2_with fail
        clear c0 c1 c2 c3 c4 c5 p0 p1 a0 a1 a2 b0 b1 b2 e0 e1 e2 r0 r1 r2 hz8 f10 f11 f12 hz
        cases hb2 : Qm.isS (Pm.blackB W H s.data.toList) (px, py, d)
        case true =>
          go_region_held3 (fun w' => w'.cell? ⟨g, 0, none⟩ = some (.int .i64 W) ∧ w'.cell? ⟨g, 1, none⟩ = some (.int .i64 H) ∧ w'.cell? ⟨g, 2, none⟩ = some (.string s) ∧ w'.cell? ⟨w.heap.size + 1 + 1 + 1 + 1 + 1 + 1, 0, none⟩ = some (.int .i64 px) ∧ w'.cell? ⟨w.heap.size + 1 + 1 + 1 + 1 + 1 + 1, 1, none⟩ = some (.int .i64 py) ∧ w'.cell? ⟨w.heap.size + 1 + 1 + 1 + 1 + 1 + 1, 2, none⟩ = some (.int .i64 (d : Nat)))
            (first | (have hq := HN4.out; exact ⟨hq.1.1, hq.1.2.1, hq.1.2.2.1, hq.2.2.1.1, hq.2.2.1.2.1, hq.2.2.1.2.2⟩) | (have hq := HN3.out; exact ⟨hq.1.1, hq.1.2.1, hq.1.2.2.1, hq.2.2.1.1, hq.2.2.1.2.1, hq.2.2.1.2.2⟩))
            ((go_at_call 76; refine (cIsSide_any W H s px py (d) (by omega) (by omega) (by omega) _ hw2 hh2 HL.out).mono ?_; rintro e w2 ⟨rfl, hb⟩; have HN4 := hid (Nx.drawn HN3.out hb); clear hb; rw [hb2]))
          obtain ⟨⟨c0, c1, c2, c3, c4, c5, hz⟩, ⟨p0, p1⟩, ⟨a0, a1, a2⟩, ⟨b0, b1, b2⟩, ⟨e0, e1, e2⟩, ⟨r0, r1, r2⟩, fz, -, hz8⟩ := HN4.out
          have f10 := fz (w.heap.size + 1) 0 (by omega) (by omega)
          have f11 := fz (w.heap.size + 1) 1 (by omega) (by omega)
          have f12 := fz (w.heap.size + 1) 2 (by omega) (by omega)
          clear fz
          go_wp2
          refine bodyPost_ret (v := .agg #[.int .i64 px, .int .i64 py, .int .i64 (d : Nat)]) (by simp [results, Try.results71, go_sem, *]) rfl ?_
          exact ⟨by rw [nxD_f2 hj ha hb2], ((HN4.out.2.2.2.2.2.2.2.1.setCell (by dsimp; omega) _).setCell (by dsimp; omega) _).setCell (by dsimp; omega) _⟩
        case false =>
          go_region_held3 (fun w' => w'.cell? ⟨g, 0, none⟩ = some (.int .i64 W) ∧ w'.cell? ⟨g, 1, none⟩ = some (.int .i64 H) ∧ w'.cell? ⟨g, 2, none⟩ = some (.string s) ∧ w'.cell? ⟨w.heap.size + 1 + 1 + 1 + 1 + 1 + 1, 0, none⟩ = some (.int .i64 px) ∧ w'.cell? ⟨w.heap.size + 1 + 1 + 1 + 1 + 1 + 1, 1, none⟩ = some (.int .i64 py) ∧ w'.cell? ⟨w.heap.size + 1 + 1 + 1 + 1 + 1 + 1, 2, none⟩ = some (.int .i64 (d : Nat)))
            (first | (have hq := HN4.out; exact ⟨hq.1.1, hq.1.2.1, hq.1.2.2.1, hq.2.2.1.1, hq.2.2.1.2.1, hq.2.2.1.2.2⟩) | (have hq := HN3.out; exact ⟨hq.1.1, hq.1.2.1, hq.1.2.2.1, hq.2.2.1.1, hq.2.2.1.2.1, hq.2.2.1.2.2⟩))
            ((go_at_call 76; refine (cIsSide_any W H s px py (d) (by omega) (by omega) (by omega) _ hw2 hh2 HL.out).mono ?_; rintro e w2 ⟨rfl, hb⟩; have HN4 := hid (Nx.drawn HN3.out hb); clear hb; rw [hb2]))
          obtain ⟨⟨c0, c1, c2, c3, c4, c5, hz⟩, ⟨p0, p1⟩, ⟨a0, a1, a2⟩, ⟨b0, b1, b2⟩, ⟨e0, e1, e2⟩, ⟨r0, r1, r2⟩, fz, -, hz8⟩ := HN4.out
          have f10 := fz (w.heap.size + 1) 0 (by omega) (by omega)
          have f11 := fz (w.heap.size + 1) 1 (by omega) (by omega)
          have f12 := fz (w.heap.size + 1) 2 (by omega) (by omega)
          clear fz
          go_wp2
          refine bodyPost_ret (v := .agg #[.int .i64 px, .int .i64 py, .int .i64 ((d + 3) % 4 : Nat)]) (by simp [results, Try.results71, go_sem, *]) rfl ?_
          exact ⟨by rw [nxD_f3 hj ha hb2], ((HN4.out.2.2.2.2.2.2.2.1.setCell (by dsimp; omega) _).setCell (by dsimp; omega) _).setCell (by dsimp; omega) _⟩
    case true =>
      go_wp2_with fail
      clear c0 c1 c2 c3 c4 c5 p0 p1 a0 a1 a2 b0 b1 b2 e0 e1 e2 r0 r1 r2 hz8 hz f70 f71 f72 f80 f81 f82
      have HN2 := hid (HN1.out.swap hz0)
      clear HN1
      revert HN2
      generalize World.setCell _ _ _ = Y
      intro HN2
      cases ha : Qm.isS (Pm.blackB W H s.data.toList) (px, py, (d + 3) % 4)
      case true =>
        go_region_held3 (fun w' => w'.cell? ⟨g, 0, none⟩ = some (.int .i64 W) ∧ w'.cell? ⟨g, 1, none⟩ = some (.int .i64 H) ∧ w'.cell? ⟨g, 2, none⟩ = some (.string s) ∧ w'.cell? ⟨w.heap.size + 1 + 1 + 1 + 1 + 1 + 1 + 1, 0, none⟩ = some (.int .i64 px) ∧ w'.cell? ⟨w.heap.size + 1 + 1 + 1 + 1 + 1 + 1 + 1, 1, none⟩ = some (.int .i64 py) ∧ w'.cell? ⟨w.heap.size + 1 + 1 + 1 + 1 + 1 + 1 + 1, 2, none⟩ = some (.int .i64 ((d + 3) % 4 : Nat)))
          (first | (have hq := HN3.out; exact ⟨hq.1.1, hq.1.2.1, hq.1.2.2.1, hq.2.2.2.1.1, hq.2.2.2.1.2.1, hq.2.2.2.1.2.2⟩) | (have hq := HN2.out; exact ⟨hq.1.1, hq.1.2.1, hq.1.2.2.1, hq.2.2.2.1.1, hq.2.2.2.1.2.1, hq.2.2.2.1.2.2⟩))
          ((go_at_call 76; refine (cIsSide_any W H s px py ((d + 3) % 4) (by omega) (by omega) (by omega) _ hw2 hh2 HL.out).mono ?_; rintro e w2 ⟨rfl, hb⟩; have HN3 := hid (Nx.drawn HN2.out hb); clear hb; rw [ha]))
        obtain ⟨⟨c0, c1, c2, c3, c4, c5, hz⟩, ⟨p0, p1⟩, ⟨a0, a1, a2⟩, ⟨b0, b1, b2⟩, ⟨e0, e1, e2⟩, ⟨r0, r1, r2⟩, fz, -, hz8⟩ := HN3.out
        have f10 := fz (w.heap.size + 1) 0 (by omega) (by omega)
        have f11 := fz (w.heap.size + 1) 1 (by omega) (by omega)
        have f12 := fz (w.heap.size + 1) 2 (by omega) (by omega)
        clear fz
        go_wp2
        refine bodyPost_ret (v := .agg #[.int .i64 px, .int .i64 py, .int .i64 ((d + 3) % 4 : Nat)]) (by simp [results, Try.results71, go_sem, *]) rfl ?_
        exact ⟨by rw [nxD_t1 hj ha], ((HN3.out.2.2.2.2.2.2.2.1.setCell (by dsimp; omega) _).setCell (by dsimp; omega) _).setCell (by dsimp; omega) _⟩
      case false =>
        go_region_held3 (fun w' => w'.cell? ⟨g, 0, none⟩ = some (.int .i64 W) ∧ w'.cell? ⟨g, 1, none⟩ = some (.int .i64 H) ∧ w'.cell? ⟨g, 2, none⟩ = some (.string s) ∧ w'.cell? ⟨w.heap.size + 1 + 1 + 1 + 1 + 1 + 1 + 1, 0, none⟩ = some (.int .i64 px) ∧ w'.cell? ⟨w.heap.size + 1 + 1 + 1 + 1 + 1 + 1 + 1, 1, none⟩ = some (.int .i64 py) ∧ w'.cell? ⟨w.heap.size + 1 + 1 + 1 + 1 + 1 + 1 + 1, 2, none⟩ = some (.int .i64 ((d + 3) % 4 : Nat)))
          (first | (have hq := HN3.out; exact ⟨hq.1.1, hq.1.2.1, hq.1.2.2.1, hq.2.2.2.1.1, hq.2.2.2.1.2.1, hq.2.2.2.1.2.2⟩) | (have hq := HN2.out; exact ⟨hq.1.1, hq.1.2.1, hq.1.2.2.1, hq.2.2.2.1.1, hq.2.2.2.1.2.1, hq.2.2.2.1.2.2⟩))
          ((go_at_call 76; refine (cIsSide_any W H s px py ((d + 3) % 4) (by omega) (by omega) (by omega) _ hw2 hh2 HL.out).mono ?_; rintro e w2 ⟨rfl, hb⟩; have HN3 := hid (Nx.drawn HN2.out hb); clear hb; rw [ha]))
        obtain ⟨⟨c0, c1, c2, c3, c4, c5, hz⟩, ⟨p0, p1⟩, ⟨a0, a1, a2⟩, ⟨b0, b1, b2⟩, ⟨e0, e1, e2⟩, ⟨r0, r1, r2⟩, fz, -, hz8⟩ := HN3.out
        have f10 := fz (w.heap.size + 1) 0 (by omega) (by omega)
        have f11 := fz (w.heap.size + 1) 1 (by omega) (by omega)
        have f12 := fz (w.heap.size + 1) 2 (by omega) (by omega)
        clear fz
        go_wp2_with fail
        clear c0 c1 c2 c3 c4 c5 p0 p1 a0 a1 a2 b0 b1 b2 e0 e1 e2 r0 r1 r2 hz8 f10 f11 f12 hz
        cases hb2 : Qm.isS (Pm.blackB W H s.data.toList) (px, py, d)
        case true =>
          go_region_held3 (fun w' => w'.cell? ⟨g, 0, none⟩ = some (.int .i64 W) ∧ w'.cell? ⟨g, 1, none⟩ = some (.int .i64 H) ∧ w'.cell? ⟨g, 2, none⟩ = some (.string s) ∧ w'.cell? ⟨w.heap.size + 1 + 1 + 1 + 1 + 1 + 1, 0, none⟩ = some (.int .i64 px) ∧ w'.cell? ⟨w.heap.size + 1 + 1 + 1 + 1 + 1 + 1, 1, none⟩ = some (.int .i64 py) ∧ w'.cell? ⟨w.heap.size + 1 + 1 + 1 + 1 + 1 + 1, 2, none⟩ = some (.int .i64 (d : Nat)))
            (first | (have hq := HN4.out; exact ⟨hq.1.1, hq.1.2.1, hq.1.2.2.1, hq.2.2.1.1, hq.2.2.1.2.1, hq.2.2.1.2.2⟩) | (have hq := HN3.out; exact ⟨hq.1.1, hq.1.2.1, hq.1.2.2.1, hq.2.2.1.1, hq.2.2.1.2.1, hq.2.2.1.2.2⟩))
            ((go_at_call 76; refine (cIsSide_any W H s px py (d) (by omega) (by omega) (by omega) _ hw2 hh2 HL.out).mono ?_; rintro e w2 ⟨rfl, hb⟩; have HN4 := hid (Nx.drawn HN3.out hb); clear hb; rw [hb2]))
          obtain ⟨⟨c0, c1, c2, c3, c4, c5, hz⟩, ⟨p0, p1⟩, ⟨a0, a1, a2⟩, ⟨b0, b1, b2⟩, ⟨e0, e1, e2⟩, ⟨r0, r1, r2⟩, fz, -, hz8⟩ := HN4.out
          have f10 := fz (w.heap.size + 1) 0 (by omega) (by omega)
          have f11 := fz (w.heap.size + 1) 1 (by omega) (by omega)
          have f12 := fz (w.heap.size + 1) 2 (by omega) (by omega)
          clear fz
          go_wp2
          refine bodyPost_ret (v := .agg #[.int .i64 px, .int .i64 py, .int .i64 (d : Nat)]) (by simp [results, Try.results71, go_sem, *]) rfl ?_
          exact ⟨by rw [nxD_t2 hj ha hb2], ((HN4.out.2.2.2.2.2.2.2.1.setCell (by dsimp; omega) _).setCell (by dsimp; omega) _).setCell (by dsimp; omega) _⟩
        case false =>
          go_region_held3 (fun w' => w'.cell? ⟨g, 0, none⟩ = some (.int .i64 W) ∧ w'.cell? ⟨g, 1, none⟩ = some (.int .i64 H) ∧ w'.cell? ⟨g, 2, none⟩ = some (.string s) ∧ w'.cell? ⟨w.heap.size + 1 + 1 + 1 + 1 + 1 + 1, 0, none⟩ = some (.int .i64 px) ∧ w'.cell? ⟨w.heap.size + 1 + 1 + 1 + 1 + 1 + 1, 1, none⟩ = some (.int .i64 py) ∧ w'.cell? ⟨w.heap.size + 1 + 1 + 1 + 1 + 1 + 1, 2, none⟩ = some (.int .i64 (d : Nat)))
            (first | (have hq := HN4.out; exact ⟨hq.1.1, hq.1.2.1, hq.1.2.2.1, hq.2.2.1.1, hq.2.2.1.2.1, hq.2.2.1.2.2⟩) | (have hq := HN3.out; exact ⟨hq.1.1, hq.1.2.1, hq.1.2.2.1, hq.2.2.1.1, hq.2.2.1.2.1, hq.2.2.1.2.2⟩))
            ((go_at_call 76; refine (cIsSide_any W H s px py (d) (by omega) (by omega) (by omega) _ hw2 hh2 HL.out).mono ?_; rintro e w2 ⟨rfl, hb⟩; have HN4 := hid (Nx.drawn HN3.out hb); clear hb; rw [hb2]))
          obtain ⟨⟨c0, c1, c2, c3, c4, c5, hz⟩, ⟨p0, p1⟩, ⟨a0, a1, a2⟩, ⟨b0, b1, b2⟩, ⟨e0, e1, e2⟩, ⟨r0, r1, r2⟩, fz, -, hz8⟩ := HN4.out
          have f10 := fz (w.heap.size + 1) 0 (by omega) (by omega)
          have f11 := fz (w.heap.size + 1) 1 (by omega) (by omega)
          have f12 := fz (w.heap.size + 1) 2 (by omega) (by omega)
          clear fz
          go_wp2
          refine bodyPost_ret (v := .agg #[.int .i64 px, .int .i64 py, .int .i64 ((d + 1) % 4 : Nat)]) (by simp [results, Try.results71, go_sem, *]) rfl ?_
          exact ⟨by rw [nxD_t3 hj ha hb2], ((HN4.out.2.2.2.2.2.2.2.1.setCell (by dsimp; omega) _).setCell (by dsimp; omega) _).setCell (by dsimp; omega) _⟩
end Go.Proofs.Ytgapfjjdccohkaa

/- take of package cycles. -/
namespace Go.Proofs.Ytgapfjjdccohkaa
open Go.RowKit
attribute [local go_sem ↓] Go.wp_at_zero Go.wp_at_succ

/-- The walker's marks. -/
def Tkn (g : Nat) (T : Nat → Bool) (w : World) : Prop := ∀ n, n < 4356 → w.cell? ⟨g, 6 + n, none⟩ = some (.bool (T n)) ∧ w.frozen? ⟨g, 6 + n, none⟩ = false
theorem Tkn.on {g : Nat} {T : Nat → Bool} {w w' : World} {B : Nat} (h : Tkn g T w) (hb : Below B w w') (hg : g < B) : Tkn g T w' := fun n hn =>
  ⟨(hb.cell (p := ⟨g, 6 + n, none⟩) hg).trans (h n hn).1, (hb.frozen (p := ⟨g, 6 + n, none⟩) hg).trans (h n hn).2⟩

theorem grown_of_below {w w' : World} (h : Below w.heap.size w w') (r : Option Nat) : w.grownBy w' r := ⟨h.os, h.tape, h.output, h.size, fun k hk _ => h.block k hk⟩

theorem set_grown {w w2 : World} (h : Below w.heap.size w w2) (a : Addr) {v : Value} : w.grownBy (w2.setCell a v) (some a.block) :=
  ⟨h.os, h.tape, h.output, by rw [World.size_setCell]; exact h.size, fun k hk hne => (Below.heap_setCell _ _ _ _ (fun e => hne (by rw [e]))).trans (h.block k hk)⟩
theorem set_wk {g W H : Nat} {s : ByteArray} {pol : Nat} {draws : ByteArray} {spk : Int} {w : World} {c : Nat} {v : Value} (h : Wk g W H s pol draws spk w) : Wk g W H s pol draws spk (w.setCell ⟨g, 6 + c, none⟩ v) := by
  obtain ⟨c0, c1, c2, c3, c4, c5, hz⟩ := h
  have C : ∀ j, j < 6 → (w.setCell ⟨g, 6 + c, none⟩ v).cell? ⟨g, j, none⟩ = w.cell? ⟨g, j, none⟩ := fun j hj => World.cell?_setCell_other _ _ _ _ (by intro e; injection e with _ e2 _; omega)
  exact ⟨(C 0 (by omega)).trans c0, (C 1 (by omega)).trans c1, (C 2 (by omega)).trans c2, (C 3 (by omega)).trans c3, (C 4 (by omega)).trans c4, (C 5 (by omega)).trans c5, by rw [World.size_setCell]; exact hz⟩
theorem set_tkn {g : Nat} {T : Nat → Bool} {w : World} (h : Tkn g T w) (c : Nat) : Tkn g (Qm.mark T c) (w.setCell ⟨g, 6 + c, none⟩ (.bool true)) := by
  intro n hn
  refine ⟨?_, by simpa using (h n hn).2⟩
  by_cases e : n = c
  · subst e
    rw [World.cell?_setCell_same _ _ _ (h n hn).1]
    simp [Qm.mark]
  · rw [World.cell?_setCell_other _ _ _ _ (by intro e2; injection e2 with _ e3 _; omega), (h n hn).1]
    simp [Qm.mark, e]

set_option maxHeartbeats 2000000 in
theorem take_no (g W H : Nat) (s : ByteArray) (pol : Nat) (draws : ByteArray) (spk : Int) (T : Nat → Bool) (x y d c : Nat) (hd : d < 4) (hx : x ≤ 32) (hy : y ≤ 32) (hc : c = (y * 33 + x) * 4 + d) (hT : T c = true) (w : World) (hW : Wk g W H s pol draws spk w) (hK : Tkn g T w) :
    Calls Try.prog 70 #[.pointer (some ⟨g, 0, none⟩), .agg #[.int .i64 x, .int .i64 y, .int .i64 d]] w fun e w' => e = .returned (.bool false) ∧ Below w.heap.size w w' := by
  have c4 : c < 4356 := by omega
  have ec : ((y : Int) * 33 + (x : Int)) * 4 + (d : Int) = (c : Nat) := by omega
  have hcell := (hK c c4).1
  rw [hT] at hcell
  have HK := hid hK
  clear hK hc
  have hz := hW.2.2.2.2.2.2
  have c0' : (0 : Int) ≤ (c : Nat) := by omega
  have c1' : ((c : Nat) : Int) < 4356 := by omega
  go_enter Try.func70, Try.ntmps70
  go_wp2_with fail
  have d0 : decide (((c : Nat) : Int) < 0) = false := by simp
  have d1 : decide ((4356 : Int) ≤ ((c : Nat) : Int)) = false := by simp; omega
  go_quiet (fail)
  go_wp2
  go_ret
  exact ⟨rfl, ((Below.refl _ _).alloc (Nat.le_refl _) _).trans ⟨rfl, rfl, rfl, Nat.le_refl _, fun _ _ => rfl⟩⟩

set_option maxHeartbeats 2000000 in
theorem take_none (g W H : Nat) (s : ByteArray) (pol : Nat) (draws : ByteArray) (spk : Int) (T : Nat → Bool) (x y d c : Nat) (hd : d < 4) (hx : x ≤ 32) (hy : y ≤ 32) (hc : c = (y * 33 + x) * 4 + d) (hT : T c = false) (w : World) (hW : Wk g W H s pol draws spk w) (hK : Tkn g T w) (hw2 : W ≤ 32) (hh2 : H ≤ 32) (hl : s.size = W * H) (hS : Qm.isS (Pm.blackB W H s.data.toList) (x, y, d) = false) :
    Calls Try.prog 70 #[.pointer (some ⟨g, 0, none⟩), .agg #[.int .i64 x, .int .i64 y, .int .i64 d]] w fun e w' => e = .returned (.bool false) ∧ Below w.heap.size w w' := by
  have HL := hid hl
  have c4 : c < 4356 := by omega
  have ec : ((y : Int) * 33 + (x : Int)) * 4 + (d : Int) = (c : Nat) := by omega
  have hcell := (hK c c4).1
  rw [hT] at hcell
  have HK := hid hK
  clear hK hc hl
  have HW := hid hW
  obtain ⟨k0, k1, k2, k3, k4, k5, hz⟩ := hW
  have c0' : (0 : Int) ≤ (c : Nat) := by omega
  have c1' : ((c : Nat) : Int) < 4356 := by omega
  go_enter Try.func70, Try.ntmps70
  go_wp2_with fail
  have d0 : decide (((c : Nat) : Int) < 0) = false := by simp
  have d1 : decide ((4356 : Int) ≤ ((c : Nat) : Int)) = false := by simp; omega
  go_region_held3 (fun w' => w'.cell? ⟨g, 6 + c, none⟩ = some (.bool false) ∧ w'.cell? ⟨g, 0, none⟩ = some (.int .i64 W) ∧ w'.cell? ⟨g, 1, none⟩ = some (.int .i64 H) ∧ w'.cell? ⟨g, 2, none⟩ = some (.string s) ∧ w'.cell? ⟨w.heap.size, 0, none⟩ = some (.int .i64 x) ∧ w'.cell? ⟨w.heap.size, 1, none⟩ = some (.int .i64 y) ∧ w'.cell? ⟨w.heap.size, 2, none⟩ = some (.int .i64 d))
    (first | (simp [go_sem, *]; done) | (go_keep))
    ((go_at_call 76; refine (cIsSide_any W H s x y d hd (by omega) (by omega) _ hw2 hh2 HL.out).mono ?_; rintro e w2 ⟨rfl, hb⟩; have HB := hid hb; obtain ⟨hcc, hff⟩ := bcell hb; clear hb hff; rw [hS]))
  go_wp2
  go_ret
  exact ⟨rfl, Below.trans (b := _) (by go_grown) (HB.out.mono (by simp))⟩

set_option maxHeartbeats 2000000 in
theorem take_yes (g W H : Nat) (s : ByteArray) (pol : Nat) (draws : ByteArray) (spk : Int) (T : Nat → Bool) (x y d c : Nat) (hd : d < 4) (hx : x ≤ 32) (hy : y ≤ 32) (hc : c = (y * 33 + x) * 4 + d) (hT : T c = false) (w : World) (hW : Wk g W H s pol draws spk w) (hK : Tkn g T w) (hw2 : W ≤ 32) (hh2 : H ≤ 32) (hl : s.size = W * H) (hS : Qm.isS (Pm.blackB W H s.data.toList) (x, y, d) = true) :
    Calls Try.prog 70 #[.pointer (some ⟨g, 0, none⟩), .agg #[.int .i64 x, .int .i64 y, .int .i64 d]] w fun e w' => e = .returned (.bool true) ∧ w.grownBy w' (some g) ∧ Wk g W H s pol draws spk w' ∧ Tkn g (Qm.mark T c) w' := by
  have HL := hid hl
  have c4 : c < 4356 := by omega
  have ec : ((y : Int) * 33 + (x : Int)) * 4 + (d : Int) = (c : Nat) := by omega
  have hcell := (hK c c4).1
  have hfro := (hK c c4).2
  rw [hT] at hcell
  have HK := hid hK
  clear hK hc hl
  have HW := hid hW
  obtain ⟨k0, k1, k2, k3, k4, k5, hz⟩ := hW
  have c0' : (0 : Int) ≤ (c : Nat) := by omega
  have c1' : ((c : Nat) : Int) < 4356 := by omega
  go_enter Try.func70, Try.ntmps70
  go_wp2_with fail
  have d0 : decide (((c : Nat) : Int) < 0) = false := by simp
  have d1 : decide ((4356 : Int) ≤ ((c : Nat) : Int)) = false := by simp; omega
  go_region_held3 (fun w' => w'.cell? ⟨g, 6 + c, none⟩ = some (.bool false) ∧ w'.cell? ⟨g, 0, none⟩ = some (.int .i64 W) ∧ w'.cell? ⟨g, 1, none⟩ = some (.int .i64 H) ∧ w'.cell? ⟨g, 2, none⟩ = some (.string s) ∧ w'.cell? ⟨w.heap.size, 0, none⟩ = some (.int .i64 x) ∧ w'.cell? ⟨w.heap.size, 1, none⟩ = some (.int .i64 y) ∧ w'.cell? ⟨w.heap.size, 2, none⟩ = some (.int .i64 d))
    (first | (simp [go_sem, *]; done) | (go_keep))
    ((go_at_call 76; refine (cIsSide_any W H s x y d hd (by omega) (by omega) _ hw2 hh2 HL.out).mono ?_; rintro e w2 ⟨rfl, hb⟩; have HB := hid hb; obtain ⟨hcc, hff⟩ := bcell hb; clear hb; rw [hS]))
  have HB1 := hid (Below.trans (b := _) (show Below w.heap.size w _ by go_grown) (HB.out.mono (by simp)))
  clear HB
  have hcell2 := (HB1.out.cell (p := ⟨g, 6 + c, none⟩) hz).trans hcell
  have hfro2 := (HB1.out.frozen (p := ⟨g, 6 + c, none⟩) hz).trans hfro
  clear hcc hff
  go_wp2
  go_ret
  exact ⟨rfl, set_grown HB1.out _, set_wk (HW.out.on HB1.out), set_tkn (HK.out.on HB1.out hz) c⟩
end Go.Proofs.Ytgapfjjdccohkaa

/- walk of package cycles. -/
namespace Go.Proofs.Ytgapfjjdccohkaa
open Go.RowKit

theorem gb_trans {a b c : World} {r : Option Nat} (h : a.grownBy b r) (k : b.grownBy c r) : a.grownBy c r :=
  ⟨k.os.trans h.os, k.tape.trans h.tape, k.output.trans h.output, Nat.le_trans h.size k.size, fun i hi hn => (k.block i (Nat.lt_of_lt_of_le hi h.size) hn).trans (h.block i hi hn)⟩
/-- Behind a step that turns nothing below B. -/
theorem gb_below {a b c : World} {r : Option Nat} {B : Nat} (h : a.grownBy b r) (k : Below B b c) (hB : a.heap.size ≤ B) : a.grownBy c r :=
  ⟨k.os.trans h.os, k.tape.trans h.tape, k.output.trans h.output, Nat.le_trans h.size k.size, fun i hi hn => (k.block i (Nat.lt_of_lt_of_le hi hB)).trans (h.block i hi hn)⟩
theorem gb_below_of {a b : World} {g B : Nat} (h : a.grownBy b (some g)) (hB : B ≤ g) (hz : B ≤ a.heap.size) : Below B a b :=
  ⟨h.os, h.tape, h.output, h.size, fun k hk => h.block k (by omega) (by simp; omega)⟩
theorem Wk.onB {g W H : Nat} {s : ByteArray} {pol : Nat} {draws : ByteArray} {spk : Int} {w w' : World} {B : Nat} (h : Wk g W H s pol draws spk w) (hb : Below B w w') (hg : g < B) : Wk g W H s pol draws spk w' := by
  obtain ⟨c0, c1, c2, c3, c4, c5, hz⟩ := h
  exact ⟨(hb.cell (p := ⟨g, 0, none⟩) hg).trans c0, (hb.cell (p := ⟨g, 1, none⟩) hg).trans c1, (hb.cell (p := ⟨g, 2, none⟩) hg).trans c2, (hb.cell (p := ⟨g, 3, none⟩) hg).trans c3, (hb.cell (p := ⟨g, 4, none⟩) hg).trans c4, (hb.cell (p := ⟨g, 5, none⟩) hg).trans c5, Nat.lt_of_lt_of_le hz hb.size⟩

/-- How many marks are not set, in the world. -/
def unt (g : Nat) (w : World) : Nat := Qm.cntF (fun n => match w.cell? ⟨g, 6 + n, none⟩ with | some (.bool b) => b | _ => true) 4356
theorem cntF_congr (T T' : Nat → Bool) : ∀ n, (∀ i, i < n → T i = T' i) → Qm.cntF T n = Qm.cntF T' n
  | 0, _ => rfl
  | n + 1, h => by unfold Qm.cntF; rw [cntF_congr T T' n (fun i hi => h i (by omega)), h n (by omega)]
theorem unt_of {g : Nat} {T : Nat → Bool} {w : World} (h : Tkn g T w) : unt g w = Qm.cntF T 4356 := cntF_congr _ _ _ fun i hi => by rw [(h i hi).1]

theorem infoPoint : (Try.prog.info? 47).map (fun i => (i.zero, i.size, i.bytes)) = some (some (.agg #[.int .i64 0, .int .i64 0]), 2, 16) := by kernel_rfl

/-- A side's box at block B. -/
def BoxS (B : Nat) (t : Qm.Sd) (w : World) : Prop :=
  w.cell? ⟨B, 0, none⟩ = some (.int .i64 t.1) ∧ w.cell? ⟨B, 1, none⟩ = some (.int .i64 t.2.1) ∧ w.cell? ⟨B, 2, none⟩ = some (.int .i64 (t.2.2 : Nat)) ∧ w.frozen? ⟨B, 0, none⟩ = false ∧ w.frozen? ⟨B, 1, none⟩ = false ∧ w.frozen? ⟨B, 2, none⟩ = false ∧ B < w.heap.size
theorem BoxS.of {B : Nat} {t : Qm.Sd} {w w' : World} (h : BoxS B t w) (hb : w'.heap[B]? = w.heap[B]?) (hz : w.heap.size ≤ w'.heap.size) : BoxS B t w' := by
  obtain ⟨a, b, c, d, e, f, z⟩ := h
  exact ⟨(World.cell?_of_block (a := ⟨B, 0, none⟩) hb).trans a, (World.cell?_of_block (a := ⟨B, 1, none⟩) hb).trans b, (World.cell?_of_block (a := ⟨B, 2, none⟩) hb).trans c, (World.frozen?_of_block (a := ⟨B, 0, none⟩) hb).trans d, (World.frozen?_of_block (a := ⟨B, 1, none⟩) hb).trans e, (World.frozen?_of_block (a := ⟨B, 2, none⟩) hb).trans f, Nat.lt_of_lt_of_le z hz⟩
theorem BoxS.set {B : Nat} {t : Qm.Sd} {w : World} (h : BoxS B t w) (u : Qm.Sd) : BoxS B u (((w.setCell ⟨B, 0, none⟩ (.int .i64 u.1)).setCell ⟨B, 1, none⟩ (.int .i64 u.2.1)).setCell ⟨B, 2, none⟩ (.int .i64 (u.2.2 : Nat))) := by
  obtain ⟨a, b, c, d, e, f, z⟩ := h
  refine ⟨?_, ?_, ?_, by simpa using d, by simpa using e, by simpa using f, by simpa using z⟩
  · rw [World.cell?_setCell_other _ _ _ _ (by simp), World.cell?_setCell_other _ _ _ _ (by simp), World.cell?_setCell_same _ _ _ a]
  · rw [World.cell?_setCell_other _ _ _ _ (by simp)]
    exact World.cell?_setCell_same _ _ _ ((World.cell?_setCell_other _ _ _ _ (by simp)).trans b)
  · exact World.cell?_setCell_same _ _ _ ((World.cell?_setCell_other _ _ _ _ (by simp)).trans ((World.cell?_setCell_other _ _ _ _ (by simp)).trans c))

/-- The step of a bitmap with its policy. -/
abbrev fB (W H : Nat) (s : ByteArray) (pol : Nat) (draws : ByteArray) : Qm.Sd → Qm.Sd := Qm.nx (Pm.blackB W H s.data.toList) (Qm.jnB W H s.data.toList pol draws.data.toList)
abbrev bB (W H : Nat) (s : ByteArray) : Qm.Sd → Prop := fun t => Qm.isS (Pm.blackB W H s.data.toList) t = true

/-- What holds in a walk behind m steps. -/
structure Wlk (g W H : Nat) (s : ByteArray) (pol : Nat) (draws : ByteArray) (spk : Int) (R : List (Qm.Sd × Nat)) (s0 : Qm.Sd) (w : World) (m : Nat) (T : Nat → Bool) (v : Value) (wr : World) : Prop where
  box : BoxS w.heap.size (Qm.it (fB W H s pol draws) m s0) wr
  own : wr.ownsRow (w.heap.size + 1) 47 2 v m (Qm.ptsV (Qm.ptsOf (fB W H s pol draws) (s0, m)))
  grown : w.grownBy wr (some g)
  wk : Wk g W H s pol draws spk wr
  tkn : Tkn g T wr
  rep : Qm.RepM (Pm.blackB W H s.data.toList) (fB W H s pol draws) T R s0 m
  run : Qm.Run (fB W H s pol draws) s0 m
  side : 0 < m → Qm.isS (Pm.blackB W H s.data.toList) s0 = true ∧ ¬ Qm.Tk (fB W H s pol draws) R s0
  few : m + Qm.cntF T 4356 ≤ 4356
end Go.Proofs.Ytgapfjjdccohkaa
