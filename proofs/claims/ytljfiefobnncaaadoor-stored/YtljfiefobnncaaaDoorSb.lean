/- plain: the P1 file of a bitmap. -/
import Derived.Test.YtljfiefobnncaaaDoorSa
import Derived.Test.YtljfiefobnncaaaDoorPu
import Derived.Deep.QuietTactic
import Derived.BigQuiet
import Derived.Deep.RegionHeld3
import Derived.Deep.DrawnRows
namespace Go.Proofs.YtljfiefobnncaaaDoor
open Go.RowKit
attribute [local go_sem ↓] Go.wp_at_zero Go.wp_at_succ

theorem Inb.start (w : World) (W H : Nat) (s : ByteArray) (t : TypeId) : Inb w.heap.size W H s w (w.alloc (.cells #[.int .i64 W, .int .i64 H, .string s] t)).drew :=
  ⟨by simp, by simp, by simp, ((Below.refl _ _).alloc (Nat.le_refl _) _).drew, by simp⟩

theorem number_inb {B W H : Nat} {s : ByteArray} {w wx : World} (hI : Inb B W H s w wx) (n : Nat) (n2 : n ≤ 32) :
    Calls Tryd.prog 27 #[.int .i64 n] wx fun e w' => e = .returned (.string ⟨(Pm.itoaL n).toArray⟩) ∧ Inb B W H s w w' :=
  (number_keep n n2 wx).mono fun _ _ ⟨he, hb⟩ => ⟨he, hI.on hb⟩

set_option maxRecDepth 4000 in
set_option maxHeartbeats 1000000 in
theorem plainKeep_any (W H : Nat) (s : ByteArray) (w : World) (hw1 : 1 ≤ W) (hw2 : W ≤ 32) (hh2 : H ≤ 32) (hl : s.size = W * H) :
    Calls Tryd.prog 12 #[.agg #[.int .i64 W, .int .i64 H, .string s]] w fun e w' => e = .returned (.string ⟨(Pm.head1 W H ++ Pm.p1To s.data.toList W s.size).toArray⟩) ∧ Below w.heap.size w w' := by
  have HL := hid hl
  clear hl
  have iw := Pm.itoaL_len W
  have ih := Pm.itoaL_len H
  have s1 : ¬ 9223372036854775807 < 3 + (Pm.itoaL W).length := by omega
  have s2 : ¬ 9223372036854775807 < 3 + (Pm.itoaL W).length + 1 := by omega
  have s3 : ¬ 9223372036854775807 < 3 + (Pm.itoaL W).length + 1 + (Pm.itoaL H).length := by omega
  have s4 : ¬ 9223372036854775807 < 3 + (Pm.itoaL W).length + 1 + (Pm.itoaL H).length + 1 := by omega
  go_enter Tryd.func12, Tryd.ntmps12
  go_wp2
  go_region_held3 (fun w' => w'.cell? ⟨w.heap.size, 0, none⟩ = some (.int .i64 W) ∧ w'.cell? ⟨w.heap.size, 1, none⟩ = some (.int .i64 H) ∧ w'.cell? ⟨w.heap.size, 2, none⟩ = some (.string s) ∧ Below w.heap.size w w' ∧ w.heap.size < w'.heap.size)
    (first | exact Inb.start w W H s 23 | exact (by assumption : Inb w.heap.size W H s w _))
    (first | (go_at_call_of 27 (Value.int .i64 (W : Nat)); refine (number_inb (Inb.start w W H s 23) W hw2).mono ?_; rintro e w1 ⟨rfl, hI1⟩) | (go_at_call_of 27 (Value.int .i64 (H : Nat)); refine (number_inb (by assumption : Inb w.heap.size W H s w _) H hh2).mono ?_; rintro e w2 ⟨rfl, hI2⟩))
  go_wp2
  have sz : s.size ≤ 1024 := by rw [HL.out]; exact Nat.mul_le_mul hw2 hh2
  clear s1 s2 s3 s4
  go_loopw [3, 4] (fun f i wr => ∃ (k : Nat) (F : ByteArray), k ≤ s.size ∧ i = .int .i64 k ∧ f = .string F ∧ Hid (F.data.toList = Pm.head1 W H ++ Pm.p1To s.data.toList W k) ∧ F.size ≤ 20 + 2 * k ∧ Inb w.heap.size W H s w wr) (fun _ i _ => s.size - (intOf i).toNat)
  case atStart => exact ⟨0, _, by omega, rfl, rfl, Pm.head1_data W H, Pm.head1_size W H, (by assumption : Inb w.heap.size W H s w _)⟩
  case round =>
    obtain ⟨k, F, hk, rfl, rfl, hF, hFs, hI⟩ := hrel
    have HI := hid hI
    obtain ⟨c0, c1, c2, hnx, hsz⟩ := hI
    by_cases hlt : k < s.size
    · have D := hid (Pm.one_cut F s _ k hlt hF.out)
      have GD := hid (Pm.getD_at s k hlt)
      have w0 : ((W : Int) == 0) = false := beq_eq_false_iff_ne.2 (by omega)
      by_cases hm : k % W = W - 1
      · have b0 : ((k : Int) % (W : Int) == (W : Int) - 1) = true := beq_iff_eq.2 (by omega)
        have E := hid (Pm.p1To_yes s.data.toList W k hm)
        clear hm
        go_wp2
        go_quiet (fail)
        go_wp2
        go_roundw
        case rel => exact ⟨k + 1, _, by omega, by go_num, rfl, by show _ = _; rw [E.out, GD.out, ← List.append_assoc, ← List.append_assoc, ← D.out]; simp, by simp only [ByteArray.size_append]; show _ + 1 ≤ _; simp; omega, HI.out.on ⟨rfl, rfl, rfl, Nat.le_refl _, fun _ _ => rfl⟩⟩
        case measure => simp [intOf]; omega
      · have b0 : ((k : Int) % (W : Int) == (W : Int) - 1) = false := beq_eq_false_iff_ne.2 (by omega)
        have E := hid (Pm.p1To_no s.data.toList W k hm)
        clear hm
        go_wp2
        go_quiet (fail)
        go_wp2
        go_roundw
        case rel => exact ⟨k + 1, _, by omega, by go_num, rfl, by show _ = _; rw [E.out, GD.out, ← List.append_assoc, ← D.out], by simp only [ByteArray.size_append]; simp; omega, HI.out.on ⟨rfl, rfl, rfl, Nat.le_refl _, fun _ _ => rfl⟩⟩
        case measure => simp [intOf]; omega
    · go_wp2
      go_ret
      refine ⟨ret_string ?_, hnx⟩
      rw [Pm.of_data F _ hF.out, show k = s.size from by omega]
end Go.Proofs.YtljfiefobnncaaaDoor
