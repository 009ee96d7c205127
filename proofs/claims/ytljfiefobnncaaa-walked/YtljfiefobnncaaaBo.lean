/- A block of three cells. -/
import Derived.WalkKit
namespace Go.Proofs.Ytljfiefobnncaaa
open Go.RowKit

/-- A block of three cells at B, that may be written; below it all is as it was. -/
def Box3 (B : Nat) (a b c : Value) (w wr : World) : Prop :=
  (wr.cell? ⟨B, 0, none⟩ = some a ∧ wr.cell? ⟨B, 1, none⟩ = some b ∧ wr.cell? ⟨B, 2, none⟩ = some c) ∧
  (wr.frozen? ⟨B, 0, none⟩ = false ∧ wr.frozen? ⟨B, 1, none⟩ = false ∧ wr.frozen? ⟨B, 2, none⟩ = false) ∧ Below B w wr ∧ B < wr.heap.size
theorem Box3.on {B : Nat} {a b c : Value} {w wr w2 : World} (h : Box3 B a b c w wr) (hb : Below wr.heap.size wr w2) : Box3 B a b c w w2 := by
  obtain ⟨⟨c0, c1, c2⟩, ⟨f0, f1, f2⟩, hn, hz⟩ := h
  exact ⟨⟨(hb.cell (p := ⟨B, 0, none⟩) hz).trans c0, (hb.cell (p := ⟨B, 1, none⟩) hz).trans c1, (hb.cell (p := ⟨B, 2, none⟩) hz).trans c2⟩,
    ⟨(hb.frozen (p := ⟨B, 0, none⟩) hz).trans f0, (hb.frozen (p := ⟨B, 1, none⟩) hz).trans f1, (hb.frozen (p := ⟨B, 2, none⟩) hz).trans f2⟩, hn.trans (hb.mono (Nat.le_of_lt hz)), Nat.lt_of_lt_of_le hz hb.size⟩
theorem Box3.new (w : World) (a b c : Value) (t : TypeId) : Box3 w.heap.size a b c w (w.alloc (.cells #[a, b, c] t)) :=
  ⟨⟨by simp, by simp, by simp⟩, ⟨by simp, by simp, by simp⟩, (Below.refl _ _).alloc (Nat.le_refl _) _, by simp⟩
theorem Box3.alloc {B : Nat} {a b c : Value} {w wr : World} (h : Box3 B a b c w wr) (o : Obj) : Box3 B a b c w (wr.alloc o) :=
  h.on ((Below.refl _ _).alloc (Nat.le_refl _) _)
end Go.Proofs.Ytljfiefobnncaaa
