/- outlinekeep: isSide, step. -/
import Derived.Test.YtljfiefobnncaaaFb
import Derived.Test.YtljfiefobnncaaaCp
namespace Go.Proofs.Ytljfiefobnncaaa
open Go.RowKit

set_option maxHeartbeats 1000000 in
theorem isSide_yes (W H : Nat) (s : ByteArray) (t : Qm.Sd) (hw2 : W ≤ 32) (hh2 : H ≤ 32) (hl : s.size = W * H) (ht : Qm.isS (Pm.blackB W H s.data.toList) t = true) (w : World) :
    Calls Try.prog 20 #[.agg #[.int .i64 W, .int .i64 H, .string s], .agg #[.int .i64 (Qm.fromP t).1, .int .i64 (Qm.fromP t).2], .agg #[.int .i64 (Qm.en t).1, .int .i64 (Qm.en t).2]] w fun e w' => e = .returned (.bool true) ∧ Below w.heap.size w w' := by
  have d4 := Qm.isS_lt ht
  have hi := Qm.side_in (Qm.pic_of W H s.data.toList hw2 hh2) ht
  have HL := hid hl
  clear hl
  obtain ⟨x, y, d⟩ := t
  simp only at d4 hi
  match d, d4 with
  | 0, _ =>
    simp [Qm.isS, Qm.outQ] at ht
    obtain ⟨b1, b2⟩ := ht
    have B1 := hid b1
    have B2 := hid b2
    clear b1 b2
    simp only [Qm.fromP, Qm.en]
    go_enter Try.func20, Try.ntmps20
    go_wp2_with fail
    refine (keepBlack_any W H s _ _ _ hw2 hh2 HL.out).mono ?_
    rintro e w1 ⟨rfl, e1⟩
    have Bw := hid (show Below w.heap.size w w1 by rw [e1]; go_grown)
    have Z := Bw.out.size
    obtain ⟨hc, hf⟩ := bcell (show Below _ _ w1 by rw [e1]; exact (Below.refl _ _).alloc (Nat.le_refl _) _)
    clear e1
    rw [show Pm.blackB W H s.data.toList (x) (y) = true from B1.out]
    go_wp2_with fail
    refine (keepBlack_any W H s _ _ _ hw2 hh2 HL.out).mono ?_
    rintro e w2 ⟨rfl, e2⟩
    have Bw2 := hid (show Below w.heap.size w w2 by rw [e2]; exact Bw.out.alloc Z _)
    clear e2 hc hf
    rw [show Pm.blackB W H s.data.toList (x - 1) (y) = false from B2.out]
    go_wp2
    go_ret
    exact ⟨rfl, Bw2.out⟩
  | 1, _ =>
    simp [Qm.isS, Qm.outQ] at ht
    obtain ⟨b1, b2⟩ := ht
    have B1 := hid b1
    have B2 := hid b2
    clear b1 b2
    simp only [Qm.fromP, Qm.en]
    go_enter Try.func20, Try.ntmps20
    go_wp2_with fail
    refine (keepBlack_any W H s _ _ _ hw2 hh2 HL.out).mono ?_
    rintro e w1 ⟨rfl, e1⟩
    have Bw := hid (show Below w.heap.size w w1 by rw [e1]; go_grown)
    have Z := Bw.out.size
    obtain ⟨hc, hf⟩ := bcell (show Below _ _ w1 by rw [e1]; exact (Below.refl _ _).alloc (Nat.le_refl _) _)
    clear e1
    rw [show Pm.blackB W H s.data.toList (x) (y - 1) = true from B1.out]
    go_wp2_with fail
    refine (keepBlack_any W H s _ _ _ hw2 hh2 HL.out).mono ?_
    rintro e w2 ⟨rfl, e2⟩
    have Bw2 := hid (show Below w.heap.size w w2 by rw [e2]; exact Bw.out.alloc Z _)
    clear e2 hc hf
    rw [show Pm.blackB W H s.data.toList (x) (y) = false from B2.out]
    go_wp2
    go_ret
    exact ⟨rfl, Bw2.out⟩
  | 2, _ =>
    simp [Qm.isS, Qm.outQ] at ht
    obtain ⟨b1, b2⟩ := ht
    have B1 := hid b1
    have B2 := hid b2
    clear b1 b2
    simp only [Qm.fromP, Qm.en]
    go_enter Try.func20, Try.ntmps20
    go_wp2_with fail
    refine (keepBlack_any W H s _ _ _ hw2 hh2 HL.out).mono ?_
    rintro e w1 ⟨rfl, e1⟩
    have Bw := hid (show Below w.heap.size w w1 by rw [e1]; go_grown)
    have Z := Bw.out.size
    obtain ⟨hc, hf⟩ := bcell (show Below _ _ w1 by rw [e1]; exact (Below.refl _ _).alloc (Nat.le_refl _) _)
    clear e1
    rw [show Pm.blackB W H s.data.toList (x - 1) (y - 1) = true from B1.out]
    go_wp2_with fail
    refine (keepBlack_any W H s _ _ _ hw2 hh2 HL.out).mono ?_
    rintro e w2 ⟨rfl, e2⟩
    have Bw2 := hid (show Below w.heap.size w w2 by rw [e2]; exact Bw.out.alloc Z _)
    clear e2 hc hf
    rw [show Pm.blackB W H s.data.toList (x) (y - 1) = false from B2.out]
    go_wp2
    go_ret
    exact ⟨rfl, Bw2.out⟩
  | 3, _ =>
    simp [Qm.isS, Qm.outQ] at ht
    obtain ⟨b1, b2⟩ := ht
    have B1 := hid b1
    have B2 := hid b2
    clear b1 b2
    simp only [Qm.fromP, Qm.en]
    go_enter Try.func20, Try.ntmps20
    go_wp2_with fail
    refine (keepBlack_any W H s _ _ _ hw2 hh2 HL.out).mono ?_
    rintro e w1 ⟨rfl, e1⟩
    have Bw := hid (show Below w.heap.size w w1 by rw [e1]; go_grown)
    have Z := Bw.out.size
    obtain ⟨hc, hf⟩ := bcell (show Below _ _ w1 by rw [e1]; exact (Below.refl _ _).alloc (Nat.le_refl _) _)
    clear e1
    rw [show Pm.blackB W H s.data.toList (x - 1) (y) = true from B1.out]
    go_wp2_with fail
    refine (keepBlack_any W H s _ _ _ hw2 hh2 HL.out).mono ?_
    rintro e w2 ⟨rfl, e2⟩
    have Bw2 := hid (show Below w.heap.size w w2 by rw [e2]; exact Bw.out.alloc Z _)
    clear e2 hc hf
    rw [show Pm.blackB W H s.data.toList (x - 1) (y - 1) = false from B2.out]
    go_wp2
    go_ret
    exact ⟨rfl, Bw2.out⟩
end Go.Proofs.Ytljfiefobnncaaa
