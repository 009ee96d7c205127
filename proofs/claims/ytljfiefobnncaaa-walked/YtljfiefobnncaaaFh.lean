/- outlinekeep: sides. -/
import Derived.Test.YtljfiefobnncaaaFa
import Derived.Test.YtljfiefobnncaaaQp
import Derived.Test.YtljfiefobnncaaaCf
namespace Go.Proofs.Ytljfiefobnncaaa
open Go.RowKit

/-- A bitmap lies in the block b. -/
def Bmp (b W H : Nat) (s : ByteArray) (w : World) : Prop := b < w.heap.size ∧ w.cell? ⟨b, 0, none⟩ = some (.int .i64 W) ∧ w.cell? ⟨b, 1, none⟩ = some (.int .i64 H) ∧ w.cell? ⟨b, 2, none⟩ = some (.string s)
theorem Bmp.on {b W H : Nat} {s : ByteArray} {w w' : World} {B : Nat} (h : Bmp b W H s w) (hb : Below B w w') (hg : b < B) : Bmp b W H s w' :=
  ⟨Nat.lt_of_lt_of_le h.1 hb.size, (hb.cell (p := ⟨b, 0, none⟩) hg).trans h.2.1, (hb.cell (p := ⟨b, 1, none⟩) hg).trans h.2.2.1, (hb.cell (p := ⟨b, 2, none⟩) hg).trans h.2.2.2⟩

set_option maxRecDepth 4000 in
set_option maxHeartbeats 2000000 in
theorem keepSides_any (W H : Nat) (s : ByteArray) (w : World) (hw2 : W ≤ 32) (hh2 : H ≤ 32) (hl : s.size = W * H) :
    Calls Try.prog 22 #[.agg #[.int .i64 W, .int .i64 H, .string s]] w fun e w' => e = .returned (.int .i64 (Qm.bx (W + 1) (H + 1) (Qm.cS (Pm.blackB W H s.data.toList)))) ∧ Below w.heap.size w w' := by
  have HL := hid hl
  clear hl
  obtain ⟨bl, hbl⟩ : ∃ bl, bl = Pm.blackB W H s.data.toList := ⟨_, rfl⟩
  have KB := hid (fun (x y : Int) (w : World) => keepBlack_any W H s x y w hw2 hh2 HL.out)
  rw [← hbl] at KB ⊢
  clear hbl
  go_enter Try.func22, Try.ntmps22
  go_wp2_with fail
  go_loopw [3, 4] (fun nv yv wr => ∃ y : Nat, y ≤ H + 1 ∧ yv = .int .i64 y ∧ nv = .int .i64 (Qm.bx (W + 1) y (Qm.cS bl)) ∧ Bmp w.heap.size W H s wr ∧ Below w.heap.size w wr) (fun _ y _ => H + 1 - (intOf y).toNat)
  case atStart => exact ⟨0, by omega, rfl, rfl, ⟨by simp, by simp, by simp, by simp⟩, by go_grown⟩
  case round =>
    obtain ⟨y, hy, rfl, rfl, hm, hb⟩ := hrel
    have HM := hid hm
    have HB := hid hb
    clear hb
    have bn := Qm.bx_cS bl (W + 1) y (by omega) (by omega)
    by_cases hlt : y ≤ H
    · obtain ⟨hz, b0, b1, b2⟩ := hm
      have hlt' : (y : Int) ≤ (H : Int) := by omega
      go_wp2_with fail
      clear b0 b1 b2
      go_loopw [3, 5] (fun nv xv wr => ∃ x : Nat, x ≤ W + 1 ∧ xv = .int .i64 x ∧ nv = .int .i64 (Qm.bx (W + 1) y (Qm.cS bl) + Qm.sN x (fun x => Qm.cS bl x y)) ∧ Bmp w.heap.size W H s wr ∧ Below w.heap.size w wr) (fun _ x _ => W + 1 - (intOf x).toNat)
      case atStart => exact ⟨0, by omega, rfl, by simp [Qm.sN], HM.out, HB.out⟩
      case round =>
        clear HM HB
        obtain ⟨x, hx, rfl, rfl, hm, hb⟩ := hrel
        have HM := hid hm
        have HB := hid hb
        clear hb
        have rn := Qm.row_cS bl x y
        by_cases hlx : x ≤ W
        · obtain ⟨hz, b0, b1, b2⟩ := hm
          have hlx' : (x : Int) ≤ (W : Int) := by omega
          have EC := hid (show Qm.sN (x + 1) (fun x => Qm.cS bl x y) = Qm.sN x (fun x => Qm.cS bl x y) + ((if bl x y = bl ((x : Int) - 1) y then 0 else 1) + (if bl x y = bl x ((y : Int) - 1) then 0 else 1)) from rfl)
          obtain ⟨n0, hn0⟩ : ∃ n0, n0 = Qm.sN x (fun x => Qm.cS bl x y) := ⟨_, rfl⟩
          obtain ⟨m0, hm0⟩ : ∃ m0, m0 = Qm.bx (W + 1) y (Qm.cS bl) := ⟨_, rfl⟩
          rw [← hn0] at rn EC ⊢
          rw [← hm0] at bn ⊢
          have HN0 := hid hn0
          have HM0 := hid hm0
          clear hn0 hm0
          go_wp2_with fail
          refine (KB.out _ _ _).mono ?_
          rintro e w1 ⟨rfl, e1⟩
          have B1 := hid (show Below w.heap.size w w1 by rw [e1]; exact HB.out.alloc HB.out.size _)
          have M1 := HM.out.on (w' := w1) (B := wr.heap.size) (by rw [e1]; exact (Below.refl _ _).alloc (Nat.le_refl _) _) hz
          clear e1 b0 b1 b2 hz
          obtain ⟨hz, b0, b1, b2⟩ := M1
          go_wp2_with fail
          refine (KB.out _ _ _).mono ?_
          rintro e w2 ⟨rfl, e1⟩
          have B2 := hid (show Below w.heap.size w w2 by rw [e1]; exact B1.out.alloc B1.out.size _)
          have M2 := Bmp.on (w' := w2) (B := w1.heap.size) ⟨hz, b0, b1, b2⟩ (by rw [e1]; exact (Below.refl _ _).alloc (Nat.le_refl _) _) hz
          clear e1 b0 b1 b2 hz
          obtain ⟨hz, b0, b1, b2⟩ := M2
          go_wp2_with fail
          refine (KB.out _ _ _).mono ?_
          rintro e w3 ⟨rfl, e1⟩
          have B3 := hid (show Below w.heap.size w w3 by rw [e1]; exact B2.out.alloc B2.out.size _)
          have M3 := hid (Bmp.on (w' := w3) (B := w2.heap.size) ⟨hz, b0, b1, b2⟩ (by rw [e1]; exact (Below.refl _ _).alloc (Nat.le_refl _) _) hz)
          clear e1 b0 b1 b2 hz
          obtain ⟨u, hu⟩ : ∃ u, u = bl x y := ⟨_, rfl⟩
          obtain ⟨v, hv⟩ : ∃ v, v = bl ((x : Int) - 1) y := ⟨_, rfl⟩
          obtain ⟨t, ht⟩ : ∃ t, t = bl x ((y : Int) - 1) := ⟨_, rfl⟩
          rw [← hu, ← hv, ← ht] at EC
          rw [← hu, ← hv, ← ht]
          clear hu hv ht
          cases u <;> cases v <;> cases t
          all_goals go_wp2
          all_goals go_roundw
          all_goals first
            | exact ⟨x + 1, by omega, by go_num, by have := EC.out; simp at this; rw [this]; first | done | go_num, M3.out, B3.out⟩
            | (simp [intOf]; omega)
        · have hlx' : ¬ (x : Int) ≤ (W : Int) := by omega
          have hxe : x = W + 1 := by omega
          obtain ⟨hz, b0, b1, b2⟩ := hm
          go_wp2
          go_roundw
          case rel => exact ⟨y + 1, by omega, by go_num, by rw [hxe]; rfl, HM.out, HB.out⟩
          case measure => simp [intOf]; omega
    · have hlt' : ¬ (y : Int) ≤ (H : Int) := by omega
      have hye : y = H + 1 := by omega
      obtain ⟨hz, b0, b1, b2⟩ := hm
      go_wp2
      go_ret
      exact ⟨ret_int (by first | rfl | rw [hye]), HB.out⟩
end Go.Proofs.Ytljfiefobnncaaa
