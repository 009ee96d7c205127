/- walk of package cycles. -/
import Derived.Test.YtljfiefobnncaaaCg
import Derived.Deep.Onto
namespace Go.Proofs.Ytljfiefobnncaaa
open Go.RowKit

theorem gb_trans {a b c : World} {r : Option Nat} (h : a.grownBy b r) (k : b.grownBy c r) : a.grownBy c r :=
  ⟨k.os.trans h.os, k.tape.trans h.tape, k.output.trans h.output, Nat.le_trans h.size k.size, fun i hi hn => (k.block i (Nat.lt_of_lt_of_le hi h.size) hn).trans (h.block i hi hn)⟩
/-- Behind a step that turns nothing below B. -/
theorem gb_below {a b c : World} {r : Option Nat} {B : Nat} (h : a.grownBy b r) (k : Below B b c) (hB : a.heap.size ≤ B) : a.grownBy c r :=
  ⟨k.os.trans h.os, k.tape.trans h.tape, k.output.trans h.output, Nat.le_trans h.size k.size, fun i hi hn => (k.block i (Nat.lt_of_lt_of_le hi hB)).trans (h.block i hi hn)⟩
theorem gb_below_of {a b : World} {g B : Nat} (h : a.grownBy b (some g)) (hB : B ≤ g) (hz : B ≤ a.heap.size) : Below B a b :=
  ⟨h.os, h.tape, h.output, h.size, fun k hk => h.block k (by omega) (by simp; omega)⟩
theorem Wk.onB {g W H : Nat} {s : ByteArray} {pol : Nat} {draws : ByteArray} {spk : Int} {w w' : World} {B : Nat} (h : Wk g W H s pol draws spk w) (hb : Below B w w') (hg : g < B) : Wk g W H s pol draws spk w' := by
  obtain ⟨c0, c1, c2, c3, c4, c5, hz⟩ := h
  exact ⟨(hb.cell (p := ⟨g, 0, none⟩) hg).trans c0, (hb.cell (p := ⟨g, 1, none⟩) hg).trans c1, (hb.cell (p := ⟨g, 2, none⟩) hg).trans c2, (hb.cell (p := ⟨g, 3, none⟩) hg).trans c3, (hb.cell (p := ⟨g, 4, none⟩) hg).trans c4, (hb.cell (p := ⟨g, 5, none⟩) hg).trans c5, Nat.lt_of_lt_of_le hz hb.size⟩

/-- How many marks are not set, in the world. -/
def unt (g : Nat) (w : World) : Nat := Qm.cntF (fun n => match w.cell? ⟨g, 6 + n, none⟩ with | some (.bool b) => b | _ => true) 4356
theorem cntF_congr (T T' : Nat → Bool) : ∀ n, (∀ i, i < n → T i = T' i) → Qm.cntF T n = Qm.cntF T' n
  | 0, _ => rfl
  | n + 1, h => by unfold Qm.cntF; rw [cntF_congr T T' n (fun i hi => h i (by omega)), h n (by omega)]
theorem unt_of {g : Nat} {T : Nat → Bool} {w : World} (h : Tkn g T w) : unt g w = Qm.cntF T 4356 := cntF_congr _ _ _ fun i hi => by rw [(h i hi).1]

theorem infoPoint : (Try.prog.info? 47).map (fun i => (i.zero, i.size, i.bytes)) = some (some (.agg #[.int .i64 0, .int .i64 0]), 2, 16) := by kernel_rfl

/-- A side's box at block B. -/
def BoxS (B : Nat) (t : Qm.Sd) (w : World) : Prop :=
  w.cell? ⟨B, 0, none⟩ = some (.int .i64 t.1) ∧ w.cell? ⟨B, 1, none⟩ = some (.int .i64 t.2.1) ∧ w.cell? ⟨B, 2, none⟩ = some (.int .i64 (t.2.2 : Nat)) ∧ w.frozen? ⟨B, 0, none⟩ = false ∧ w.frozen? ⟨B, 1, none⟩ = false ∧ w.frozen? ⟨B, 2, none⟩ = false ∧ B < w.heap.size
theorem BoxS.of {B : Nat} {t : Qm.Sd} {w w' : World} (h : BoxS B t w) (hb : w'.heap[B]? = w.heap[B]?) (hz : w.heap.size ≤ w'.heap.size) : BoxS B t w' := by
  obtain ⟨a, b, c, d, e, f, z⟩ := h
  exact ⟨(World.cell?_of_block (a := ⟨B, 0, none⟩) hb).trans a, (World.cell?_of_block (a := ⟨B, 1, none⟩) hb).trans b, (World.cell?_of_block (a := ⟨B, 2, none⟩) hb).trans c, (World.frozen?_of_block (a := ⟨B, 0, none⟩) hb).trans d, (World.frozen?_of_block (a := ⟨B, 1, none⟩) hb).trans e, (World.frozen?_of_block (a := ⟨B, 2, none⟩) hb).trans f, Nat.lt_of_lt_of_le z hz⟩
theorem BoxS.set {B : Nat} {t : Qm.Sd} {w : World} (h : BoxS B t w) (u : Qm.Sd) : BoxS B u (((w.setCell ⟨B, 0, none⟩ (.int .i64 u.1)).setCell ⟨B, 1, none⟩ (.int .i64 u.2.1)).setCell ⟨B, 2, none⟩ (.int .i64 (u.2.2 : Nat))) := by
  obtain ⟨a, b, c, d, e, f, z⟩ := h
  refine ⟨?_, ?_, ?_, by simpa using d, by simpa using e, by simpa using f, by simpa using z⟩
  · rw [World.cell?_setCell_other _ _ _ _ (by simp), World.cell?_setCell_other _ _ _ _ (by simp), World.cell?_setCell_same _ _ _ a]
  · rw [World.cell?_setCell_other _ _ _ _ (by simp)]
    exact World.cell?_setCell_same _ _ _ ((World.cell?_setCell_other _ _ _ _ (by simp)).trans b)
  · exact World.cell?_setCell_same _ _ _ ((World.cell?_setCell_other _ _ _ _ (by simp)).trans ((World.cell?_setCell_other _ _ _ _ (by simp)).trans c))

/-- The step of a bitmap with its policy. -/
abbrev fB (W H : Nat) (s : ByteArray) (pol : Nat) (draws : ByteArray) : Qm.Sd → Qm.Sd := Qm.nx (Pm.blackB W H s.data.toList) (Qm.jnB W H s.data.toList pol draws.data.toList)
abbrev bB (W H : Nat) (s : ByteArray) : Qm.Sd → Prop := fun t => Qm.isS (Pm.blackB W H s.data.toList) t = true

/-- What holds in a walk behind m steps. -/
structure Wlk (g W H : Nat) (s : ByteArray) (pol : Nat) (draws : ByteArray) (spk : Int) (R : List (Qm.Sd × Nat)) (s0 : Qm.Sd) (w : World) (m : Nat) (T : Nat → Bool) (v : Value) (wr : World) : Prop where
  box : BoxS w.heap.size (Qm.it (fB W H s pol draws) m s0) wr
  own : wr.ownsRow (w.heap.size + 1) 47 2 v m (Qm.ptsV (Qm.ptsOf (fB W H s pol draws) (s0, m)))
  grown : w.grownBy wr (some g)
  wk : Wk g W H s pol draws spk wr
  tkn : Tkn g T wr
  rep : Qm.RepM (Pm.blackB W H s.data.toList) (fB W H s pol draws) T R s0 m
  run : Qm.Run (fB W H s pol draws) s0 m
  side : 0 < m → Qm.isS (Pm.blackB W H s.data.toList) s0 = true ∧ ¬ Qm.Tk (fB W H s pol draws) R s0
  few : m + Qm.cntF T 4356 ≤ 4356
end Go.Proofs.Ytljfiefobnncaaa
