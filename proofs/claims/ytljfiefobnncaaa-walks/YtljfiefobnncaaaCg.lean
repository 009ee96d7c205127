/- take of package cycles. -/
import Derived.Test.YtljfiefobnncaaaCf
import Derived.Test.YtljfiefobnncaaaQd
namespace Go.Proofs.Ytljfiefobnncaaa
open Go.RowKit
attribute [local go_sem ↓] Go.wp_at_zero Go.wp_at_succ

/-- The walker's marks. -/
def Tkn (g : Nat) (T : Nat → Bool) (w : World) : Prop := ∀ n, n < 4356 → w.cell? ⟨g, 6 + n, none⟩ = some (.bool (T n)) ∧ w.frozen? ⟨g, 6 + n, none⟩ = false
theorem Tkn.on {g : Nat} {T : Nat → Bool} {w w' : World} {B : Nat} (h : Tkn g T w) (hb : Below B w w') (hg : g < B) : Tkn g T w' := fun n hn =>
  ⟨(hb.cell (p := ⟨g, 6 + n, none⟩) hg).trans (h n hn).1, (hb.frozen (p := ⟨g, 6 + n, none⟩) hg).trans (h n hn).2⟩

theorem grown_of_below {w w' : World} (h : Below w.heap.size w w') (r : Option Nat) : w.grownBy w' r := ⟨h.os, h.tape, h.output, h.size, fun k hk _ => h.block k hk⟩

theorem set_grown {w w2 : World} (h : Below w.heap.size w w2) (a : Addr) {v : Value} : w.grownBy (w2.setCell a v) (some a.block) :=
  ⟨h.os, h.tape, h.output, by rw [World.size_setCell]; exact h.size, fun k hk hne => (Below.heap_setCell _ _ _ _ (fun e => hne (by rw [e]))).trans (h.block k hk)⟩
theorem set_wk {g W H : Nat} {s : ByteArray} {pol : Nat} {draws : ByteArray} {spk : Int} {w : World} {c : Nat} {v : Value} (h : Wk g W H s pol draws spk w) : Wk g W H s pol draws spk (w.setCell ⟨g, 6 + c, none⟩ v) := by
  obtain ⟨c0, c1, c2, c3, c4, c5, hz⟩ := h
  have C : ∀ j, j < 6 → (w.setCell ⟨g, 6 + c, none⟩ v).cell? ⟨g, j, none⟩ = w.cell? ⟨g, j, none⟩ := fun j hj => World.cell?_setCell_other _ _ _ _ (by intro e; injection e with _ e2 _; omega)
  exact ⟨(C 0 (by omega)).trans c0, (C 1 (by omega)).trans c1, (C 2 (by omega)).trans c2, (C 3 (by omega)).trans c3, (C 4 (by omega)).trans c4, (C 5 (by omega)).trans c5, by rw [World.size_setCell]; exact hz⟩
theorem set_tkn {g : Nat} {T : Nat → Bool} {w : World} (h : Tkn g T w) (c : Nat) : Tkn g (Qm.mark T c) (w.setCell ⟨g, 6 + c, none⟩ (.bool true)) := by
  intro n hn
  refine ⟨?_, by simpa using (h n hn).2⟩
  by_cases e : n = c
  · subst e
    rw [World.cell?_setCell_same _ _ _ (h n hn).1]
    simp [Qm.mark]
  · rw [World.cell?_setCell_other _ _ _ _ (by intro e2; injection e2 with _ e3 _; omega), (h n hn).1]
    simp [Qm.mark, e]

set_option maxHeartbeats 2000000 in
theorem take_no (g W H : Nat) (s : ByteArray) (pol : Nat) (draws : ByteArray) (spk : Int) (T : Nat → Bool) (x y d c : Nat) (hd : d < 4) (hx : x ≤ 32) (hy : y ≤ 32) (hc : c = (y * 33 + x) * 4 + d) (hT : T c = true) (w : World) (hW : Wk g W H s pol draws spk w) (hK : Tkn g T w) :
    Calls Try.prog 85 #[.pointer (some ⟨g, 0, none⟩), .agg #[.int .i64 x, .int .i64 y, .int .i64 d]] w fun e w' => e = .returned (.bool false) ∧ Below w.heap.size w w' := by
  have c4 : c < 4356 := by omega
  have ec : ((y : Int) * 33 + (x : Int)) * 4 + (d : Int) = (c : Nat) := by omega
  have hcell := (hK c c4).1
  rw [hT] at hcell
  have HK := hid hK
  clear hK hc
  have hz := hW.2.2.2.2.2.2
  have c0' : (0 : Int) ≤ (c : Nat) := by omega
  have c1' : ((c : Nat) : Int) < 4356 := by omega
  go_enter Try.func85, Try.ntmps85
  go_wp2_with fail
  have d0 : decide (((c : Nat) : Int) < 0) = false := by simp
  have d1 : decide ((4356 : Int) ≤ ((c : Nat) : Int)) = false := by simp; omega
  go_quiet (fail)
  go_wp2
  go_ret
  exact ⟨rfl, ((Below.refl _ _).alloc (Nat.le_refl _) _).trans ⟨rfl, rfl, rfl, Nat.le_refl _, fun _ _ => rfl⟩⟩

set_option maxHeartbeats 2000000 in
theorem take_none (g W H : Nat) (s : ByteArray) (pol : Nat) (draws : ByteArray) (spk : Int) (T : Nat → Bool) (x y d c : Nat) (hd : d < 4) (hx : x ≤ 32) (hy : y ≤ 32) (hc : c = (y * 33 + x) * 4 + d) (hT : T c = false) (w : World) (hW : Wk g W H s pol draws spk w) (hK : Tkn g T w) (hw2 : W ≤ 32) (hh2 : H ≤ 32) (hl : s.size = W * H) (hS : Qm.isS (Pm.blackB W H s.data.toList) (x, y, d) = false) :
    Calls Try.prog 85 #[.pointer (some ⟨g, 0, none⟩), .agg #[.int .i64 x, .int .i64 y, .int .i64 d]] w fun e w' => e = .returned (.bool false) ∧ Below w.heap.size w w' := by
  have HL := hid hl
  have c4 : c < 4356 := by omega
  have ec : ((y : Int) * 33 + (x : Int)) * 4 + (d : Int) = (c : Nat) := by omega
  have hcell := (hK c c4).1
  rw [hT] at hcell
  have HK := hid hK
  clear hK hc hl
  have HW := hid hW
  obtain ⟨k0, k1, k2, k3, k4, k5, hz⟩ := hW
  have c0' : (0 : Int) ≤ (c : Nat) := by omega
  have c1' : ((c : Nat) : Int) < 4356 := by omega
  go_enter Try.func85, Try.ntmps85
  go_wp2_with fail
  have d0 : decide (((c : Nat) : Int) < 0) = false := by simp
  have d1 : decide ((4356 : Int) ≤ ((c : Nat) : Int)) = false := by simp; omega
  go_region_held3 (fun w' => w'.cell? ⟨g, 6 + c, none⟩ = some (.bool false) ∧ w'.cell? ⟨g, 0, none⟩ = some (.int .i64 W) ∧ w'.cell? ⟨g, 1, none⟩ = some (.int .i64 H) ∧ w'.cell? ⟨g, 2, none⟩ = some (.string s) ∧ w'.cell? ⟨w.heap.size, 0, none⟩ = some (.int .i64 x) ∧ w'.cell? ⟨w.heap.size, 1, none⟩ = some (.int .i64 y) ∧ w'.cell? ⟨w.heap.size, 2, none⟩ = some (.int .i64 d))
    (first | (simp [go_sem, *]; done) | (go_keep))
    ((go_at_call 92; refine (cIsSide_any W H s x y d hd (by omega) (by omega) _ hw2 hh2 HL.out).mono ?_; rintro e w2 ⟨rfl, hb⟩; have HB := hid hb; obtain ⟨hcc, hff⟩ := bcell hb; clear hb hff; rw [hS]))
  go_wp2
  go_ret
  exact ⟨rfl, Below.trans (b := _) (by go_grown) (HB.out.mono (by simp))⟩

set_option maxHeartbeats 2000000 in
theorem take_yes (g W H : Nat) (s : ByteArray) (pol : Nat) (draws : ByteArray) (spk : Int) (T : Nat → Bool) (x y d c : Nat) (hd : d < 4) (hx : x ≤ 32) (hy : y ≤ 32) (hc : c = (y * 33 + x) * 4 + d) (hT : T c = false) (w : World) (hW : Wk g W H s pol draws spk w) (hK : Tkn g T w) (hw2 : W ≤ 32) (hh2 : H ≤ 32) (hl : s.size = W * H) (hS : Qm.isS (Pm.blackB W H s.data.toList) (x, y, d) = true) :
    Calls Try.prog 85 #[.pointer (some ⟨g, 0, none⟩), .agg #[.int .i64 x, .int .i64 y, .int .i64 d]] w fun e w' => e = .returned (.bool true) ∧ w.grownBy w' (some g) ∧ Wk g W H s pol draws spk w' ∧ Tkn g (Qm.mark T c) w' := by
  have HL := hid hl
  have c4 : c < 4356 := by omega
  have ec : ((y : Int) * 33 + (x : Int)) * 4 + (d : Int) = (c : Nat) := by omega
  have hcell := (hK c c4).1
  have hfro := (hK c c4).2
  rw [hT] at hcell
  have HK := hid hK
  clear hK hc hl
  have HW := hid hW
  obtain ⟨k0, k1, k2, k3, k4, k5, hz⟩ := hW
  have c0' : (0 : Int) ≤ (c : Nat) := by omega
  have c1' : ((c : Nat) : Int) < 4356 := by omega
  go_enter Try.func85, Try.ntmps85
  go_wp2_with fail
  have d0 : decide (((c : Nat) : Int) < 0) = false := by simp
  have d1 : decide ((4356 : Int) ≤ ((c : Nat) : Int)) = false := by simp; omega
  go_region_held3 (fun w' => w'.cell? ⟨g, 6 + c, none⟩ = some (.bool false) ∧ w'.cell? ⟨g, 0, none⟩ = some (.int .i64 W) ∧ w'.cell? ⟨g, 1, none⟩ = some (.int .i64 H) ∧ w'.cell? ⟨g, 2, none⟩ = some (.string s) ∧ w'.cell? ⟨w.heap.size, 0, none⟩ = some (.int .i64 x) ∧ w'.cell? ⟨w.heap.size, 1, none⟩ = some (.int .i64 y) ∧ w'.cell? ⟨w.heap.size, 2, none⟩ = some (.int .i64 d))
    (first | (simp [go_sem, *]; done) | (go_keep))
    ((go_at_call 92; refine (cIsSide_any W H s x y d hd (by omega) (by omega) _ hw2 hh2 HL.out).mono ?_; rintro e w2 ⟨rfl, hb⟩; have HB := hid hb; obtain ⟨hcc, hff⟩ := bcell hb; clear hb; rw [hS]))
  have HB1 := hid (Below.trans (b := _) (show Below w.heap.size w _ by go_grown) (HB.out.mono (by simp)))
  clear HB
  have hcell2 := (HB1.out.cell (p := ⟨g, 6 + c, none⟩) hz).trans hcell
  have hfro2 := (HB1.out.frozen (p := ⟨g, 6 + c, none⟩) hz).trans hfro
  clear hcc hff
  go_wp2
  go_ret
  exact ⟨rfl, set_grown HB1.out _, set_wk (HW.out.on HB1.out), set_tkn (HK.out.on HB1.out hz) c⟩
end Go.Proofs.Ytljfiefobnncaaa
