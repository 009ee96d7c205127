/- files.Write. -/
import Derived.Test.YtljfiefobnncaaaDoorWb
import Derived.Test.YtljfiefobnncaaaDoorWc
import Derived.Test.YtljfiefobnncaaaDoorPn
import Derived.Deep.RegionWith
namespace Go.Proofs.YtljfiefobnncaaaDoor
open Go.RowKit

theorem bcell {W w1 : World} (hb : Below W.heap.size W w1) : (∀ b o, b < W.heap.size → w1.cell? ⟨b, o, none⟩ = W.cell? ⟨b, o, none⟩) ∧ (∀ b o, b < W.heap.size → w1.frozen? ⟨b, o, none⟩ = W.frozen? ⟨b, o, none⟩) :=
  ⟨fun b o h => hb.cell (p := ⟨b, o, none⟩) h, fun b o h => hb.frozen (p := ⟨b, o, none⟩) h⟩

set_option maxRecDepth 4000 in
set_option maxHeartbeats 400000 in
theorem filesWrite_no (W H : Int) (s : ByteArray) (w : World) (hg : Pm.goodB W H s.data.toList = false) :
    Calls Tryd.prog 22 #[.agg #[.int .i64 W, .int .i64 H, .string s]] w fun e w' => e = .returned (.tuple #[.string ⟨#[]⟩, .int .i64 4]) ∧ Below w.heap.size w w' := by
  go_enter Tryd.func22, Tryd.ntmps22
  go_wp2_with (go_at_call 43; refine (isOne_any W H s _).mono ?_; rintro e w' ⟨rfl, rfl⟩; rw [hg])
  go_ret2
  exact ⟨rfl, ((Below.refl _ _).alloc (Nat.le_refl _) _).alloc (by simp) _⟩

set_option maxRecDepth 4000 in
set_option maxHeartbeats 400000 in
theorem filesWrite_yes (W H : Nat) (s : ByteArray) (w : World) (hw1 : 1 ≤ W) (hw2 : W ≤ 32) (hh1 : 1 ≤ H) (hh2 : H ≤ 32) (hl : s.size = W * H) (hg : Pm.goodB W H s.data.toList = true) :
    Calls Tryd.prog 22 #[.agg #[.int .i64 W, .int .i64 H, .string s]] w fun e w' => e = .returned (.tuple #[.string ⟨(Pm.writeTo W H s.data.toList H).toArray⟩, .int .i64 0]) ∧ Below w.heap.size w w' := by
  have HL := hid hl
  have hg2 := hid hg
  clear hl hg
  have iw := Pm.itoaL_len W
  have ih := Pm.itoaL_len H
  go_enter Tryd.func22, Tryd.ntmps22
  go_wp2_with (first
    | (go_at_call 43; refine (isOne_any W H s _).mono ?_; rintro e w' ⟨rfl, rfl⟩; rw [hg2.out])
    | (go_at_call_of 24 (Value.int .i64 (W : Nat)); refine (itoa_any W (by omega) _).mono ?_; rintro e w' ⟨rfl, rfl⟩)
    | (go_at_call_of 24 (Value.int .i64 (H : Nat)); refine (itoa_any H (by omega) _).mono ?_; rintro e w' ⟨rfl, rfl⟩))
  go_loopw [6, 7] (fun f i wr => ∃ (y : Nat) (F : ByteArray), y ≤ H ∧ i = .int .i64 y ∧ f = .string F ∧ Hid (F.data.toList = Pm.writeTo W H s.data.toList y) ∧ F.size ≤ 20 + 4 * y ∧ wr.cell? ⟨w.heap.size, 0, none⟩ = some (.int .i64 W) ∧ wr.cell? ⟨w.heap.size, 1, none⟩ = some (.int .i64 H) ∧ wr.cell? ⟨w.heap.size, 2, none⟩ = some (.string s) ∧ Below w.heap.size w wr ∧ w.heap.size < wr.heap.size) (fun _ i _ => H - (intOf i).toNat)
  case atStart => exact ⟨0, _, by omega, rfl, rfl, Pm.head_data W H, Pm.head_size W H, by simp, by simp, by simp, ((Below.refl _ _).alloc (Nat.le_refl _) _).alloc (by simp) _, by simp; omega⟩
  case round =>
    obtain ⟨y, F, hy, rfl, rfl, hF, hFs, c0, c1, c2, hnx, hsz⟩ := hrel
    by_cases hlt : y < H
    · have sp := Pm.span W H y hlt
      have ar := Pm.area_nat W H hw2 hh2
      obtain ⟨a, ha⟩ : ∃ a, a = y * W := ⟨_, rfl⟩
      obtain ⟨b, hb⟩ : ∃ b, b = (y + 1) * W := ⟨_, rfl⟩
      have hl := HL.out
      have ea : (y : Int) * (W : Int) = (a : Nat) := by rw [ha]; simp
      have eb : ((y : Int) + 1) * (W : Int) = (b : Nat) := by rw [hb]; simp
      have hab : a ≤ b := by omega
      have hbs : b ≤ s.size := by omega
      have hb4 : b ≤ 1024 := by omega
      have hab2 : b - a = W := by omega
      have HA := hid ha
      have HB := hid hb
      clear ha hb hl sp ar
      have R := Pm.extract_row s W y a b HA.out HB.out
      have he : (s.extract a b).size = b - a := by simp; omega
      have HE := hid he
      have hp := Pm.packRow_len (Pm.rowOf s.data.toList W y)
      have hrl := Pm.rowOf_len s.data.toList W H y (by simpa using HL.out) hlt
      have hpl : (Pm.packRow (Pm.rowOf s.data.toList W y)).length ≤ 4 := by omega
      have HR := hid R
      clear he R hp hrl
      go_wp2_with fail
      refine (packRow_any (s.extract a b) (by rw [HE.out]; omega) (by rw [HE.out]; omega) _).mono ?_
      rintro e w2 ⟨rfl, hb2⟩
      rw [HR.out]
      have d0 := (hb2.cell (p := ⟨w.heap.size, 0, none⟩) hsz).trans c0
      have d1 := (hb2.cell (p := ⟨w.heap.size, 1, none⟩) hsz).trans c1
      have d2 := (hb2.cell (p := ⟨w.heap.size, 2, none⟩) hsz).trans c2
      have hnx2 := hnx.trans (hb2.mono (Nat.le_of_lt hsz))
      have hsz2 := hb2.size
      clear hb2 c0 c1 c2
      go_wp2
      go_roundw
      case rel => exact ⟨y + 1, _, by omega, by go_num, rfl, Pm.step_data F W H y s.data.toList hF.out, Pm.step_size F _ y hFs hpl, d0, d1, d2, hnx2, by omega⟩
      case measure => simp [intOf]; omega
    · go_wp2
      go_ret2
      refine ⟨?_, hnx⟩
      rw [Pm.of_data F _ hF.out, show y = H from by omega]; rfl
end Go.Proofs.YtljfiefobnncaaaDoor
