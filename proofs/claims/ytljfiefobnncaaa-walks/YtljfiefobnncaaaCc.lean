/- isSide of package cycles. -/
import Derived.Test.YtljfiefobnncaaaCb
import Derived.Deep.QuietTactic
import Derived.BigQuiet
import Derived.Deep.RegionHeld3
import Derived.Deep.DrawnRows
namespace Go.Proofs.Ytljfiefobnncaaa
open Go.RowKit
attribute [local go_sem ↓] Go.wp_at_zero Go.wp_at_succ

/-- A block's cells stand, and may be written. -/
def At (w : World) (b : Nat) (cs : List Value) : Prop := b < w.heap.size ∧ (∀ j v, cs[j]? = some v → w.cell? ⟨b, j, none⟩ = some v) ∧ (∀ j, j < cs.length → w.frozen? ⟨b, j, none⟩ = false)
theorem At.on {w w' : World} {b B : Nat} {cs : List Value} (h : At w b cs) (hb : Below B w w') (hB : b < B) : At w' b cs :=
  ⟨Nat.lt_of_lt_of_le h.1 hb.size, fun j v hj => (hb.cell (p := ⟨b, j, none⟩) hB).trans (h.2.1 j v hj), fun j hj => (hb.frozen (p := ⟨b, j, none⟩) hB).trans (h.2.2 j hj)⟩
theorem At.call {w w' : World} {b : Nat} {cs : List Value} (h : At w b cs) (hb : Below w.heap.size w w') : At w' b cs := h.on hb h.1
theorem At.new (w : World) (cs : List Value) (t : TypeId) : At (w.alloc (.cells cs.toArray t)) w.heap.size cs := by
  refine ⟨by simp, fun j v hj => ?_, fun j hj => by simp⟩
  simp [hj]
theorem At.alloc {w : World} {b : Nat} {cs : List Value} (h : At w b cs) (o : Obj) : At (w.alloc o) b cs := h.call ((Below.refl _ _).alloc (Nat.le_refl _) _)

set_option maxHeartbeats 2000000 in
theorem cIsSide_any (W H : Nat) (s : ByteArray) (x y : Int) (d : Nat) (hd : d < 4) (hx : -1000 ≤ x ∧ x ≤ 1000) (hy : -1000 ≤ y ∧ y ≤ 1000) (w : World) (hw2 : W ≤ 32) (hh2 : H ≤ 32) (hl : s.size = W * H) :
    Calls Try.prog 92 #[.agg #[.int .i64 W, .int .i64 H, .string s], .agg #[.int .i64 x, .int .i64 y, .int .i64 d]] w fun e w' => e = .returned (.bool (Qm.isS (Pm.blackB W H s.data.toList) (x, y, d))) ∧ Below w.heap.size w w' := by
  have HL := hid hl
  clear hl
  rw [Qm.isS_lr _ _ _ _ hd]
  obtain ⟨a, ha⟩ : ∃ a, Pm.blackB W H s.data.toList (Qm.rpx x d) (Qm.rpy y d) = a := ⟨_, rfl⟩
  rw [ha]
  have HA := hid ha
  clear ha
  go_enter Try.func92, Try.ntmps92
  go_wp2_with fail
  go_region_held3 (fun w' => w'.cell? ⟨w.heap.size + 1, 0, none⟩ = some (.int .i64 x) ∧ w'.cell? ⟨w.heap.size + 1, 1, none⟩ = some (.int .i64 y) ∧ w'.cell? ⟨w.heap.size + 1, 2, none⟩ = some (.int .i64 d))
    (first | (simp [go_sem]; done) | (go_keep))
    (first | (go_at_call 94; refine (leftOf_any d hd _).mono ?_; rintro e w1 ⟨rfl, rfl⟩) | (go_at_call 103; refine (pixLeft_any x y d hx hy _).mono ?_; rintro e w1 ⟨rfl, o1, o2, rfl⟩))
  all_goals go_wp2_with fail
  all_goals
    go_region_held3 (fun w' => w'.cell? ⟨w.heap.size + 1, 0, none⟩ = some (.int .i64 x) ∧ w'.cell? ⟨w.heap.size + 1, 1, none⟩ = some (.int .i64 y) ∧ w'.cell? ⟨w.heap.size + 1, 2, none⟩ = some (.int .i64 d))
      (first | (simp [go_sem]; done) | (go_keep))
      (first | (go_at_call 95; refine (rightOf_any d hd _).mono ?_; rintro e w1 ⟨rfl, rfl⟩) | (go_at_call 103; refine (pixRight_any x y d hx hy _).mono ?_; rintro e w1 ⟨rfl, o3, o4, rfl⟩))
  all_goals go_wp2_with fail
  all_goals
    refine (isBlack_any W H s _ _ _ hw2 hh2 HL.out).mono ?_
    rintro e w1 ⟨rfl, rfl⟩
    rw [HA.out]
  all_goals cases a
  all_goals go_wp2_with (go_at_call 104; refine (isBlack_any W H s _ _ _ hw2 hh2 HL.out).mono ?_; rintro e w1 ⟨rfl, rfl⟩)
  all_goals go_ret
  all_goals exact ⟨ret_bool (by simp), by go_grown⟩
end Go.Proofs.Ytljfiefobnncaaa
