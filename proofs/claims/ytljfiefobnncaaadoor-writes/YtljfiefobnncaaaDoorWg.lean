/- outline.Write and the law Writes, out of the contracts. -/
import Derived.Test.YtljfiefobnncaaaDoorWd
import Derived.Test.YtljfiefobnncaaaDoorWf
namespace Go.Proofs.YtljfiefobnncaaaDoor
open Go.RowKit

/-- What both sides write. -/
def writeOut (W H : Int) (s : ByteArray) (r : ByteArray) (n : Int) : Prop :=
  (Pm.goodB W H s.data.toList = false ∧ r = ⟨#[]⟩ ∧ n = 4) ∨ (Pm.goodB W H s.data.toList = true ∧ r = ⟨(Pm.writeTo W.toNat H.toNat s.data.toList H.toNat).toArray⟩ ∧ n = 0)

theorem filesWrite_any (W H : Int) (s : ByteArray) (w : World) :
    Calls Tryd.prog 22 #[.agg #[.int .i64 W, .int .i64 H, .string s]] w fun e w' => ∃ r n, e = .returned (.tuple #[.string r, .int .i64 n]) ∧ writeOut W H s r n ∧ Below w.heap.size w w' := by
  cases hg : Pm.goodB W H s.data.toList
  · exact (filesWrite_no W H s w hg).mono fun e w' ⟨he, hb⟩ => ⟨_, _, he, .inl ⟨hg, rfl, rfl⟩, hb⟩
  · obtain ⟨a, b, rfl, rfl, h1, h2, h3, h4, h5⟩ := Pm.goodB_parts hg
    exact (filesWrite_yes a b s w h1 h2 h3 h4 (by simpa using h5) hg).mono fun e w' ⟨he, hb⟩ => ⟨_, _, he, .inr ⟨hg, rfl, rfl⟩, hb⟩

theorem refWrite_any (W H : Int) (s : ByteArray) (w : World) :
    Calls Tryd.prog 10 #[.agg #[.int .i64 W, .int .i64 H, .string s]] w fun e w' => ∃ r n, e = .returned (.tuple #[.string r, .int .i64 n]) ∧ writeOut W H s r n ∧ Below w.heap.size w w' := by
  cases hg : Pm.goodB W H s.data.toList
  · exact (refWrite_no W H s w hg).mono fun e w' ⟨he, hb⟩ => ⟨_, _, he, .inl ⟨hg, rfl, rfl⟩, hb⟩
  · obtain ⟨a, b, rfl, rfl, h1, h2, h3, h4, h5⟩ := Pm.goodB_parts hg
    exact (refWrite_yes a b s w h1 h2 h3 h4 (by simpa using h5) hg).mono fun e w' ⟨he, hb⟩ => ⟨_, _, he, .inr ⟨hg, rfl, rfl⟩, hb⟩

theorem writeOut_one {W H : Int} {s r1 r2 : ByteArray} {n1 n2 : Int} (h1 : writeOut W H s r1 n1) (h2 : writeOut W H s r2 n2) : r1 = r2 ∧ n1 = n2 := by
  rcases h1 with ⟨a, rfl, rfl⟩ | ⟨a, rfl, rfl⟩ <;> rcases h2 with ⟨b, rfl, rfl⟩ | ⟨b, rfl, rfl⟩
  · exact ⟨rfl, rfl⟩
  · rw [a] at b; cases b
  · rw [a] at b; cases b
  · exact ⟨rfl, rfl⟩

set_option maxRecDepth 4000 in
set_option maxHeartbeats 400000 in
theorem outlineWrite_any (W H : Int) (s : ByteArray) (w : World) :
    Calls Tryd.prog 9 #[.agg #[.int .i64 W, .int .i64 H, .string s]] w fun e w' => ∃ r n, e = .returned (.tuple #[.string r, .int .i64 n]) ∧ writeOut W H s r n ∧ Below w.heap.size w w' := by
  go_enter Tryd.func9, Tryd.ntmps9
  go_wp2_with (go_at_call 22; refine (filesWrite_any W H s _).mono ?_; rintro e w' ⟨r, n, rfl, ho, hb⟩)
  go_ret2
  exact ⟨r, n, rfl, ho, ((Below.refl _ _).alloc (Nat.le_refl _) _).trans (hb.mono (by simp))⟩

set_option maxRecDepth 4000 in
set_option maxHeartbeats 400000 in
theorem writes_calls (W H : Int) (s : ByteArray) (w : World) :
    Calls Tryd.prog 4 #[.agg #[.int .i64 W, .int .i64 H, .string s]] w fun e w' => e = .returned (.bool true) ∧ Below w.heap.size w w' := by
  go_enter Tryd.func4, Tryd.ntmps4
  go_wp2_with fail
  refine (outlineWrite_any W H s _).mono ?_
  rintro e w1 ⟨r, n, rfl, ho, hb⟩
  have hz := hb.size
  simp at hz
  have d0 := (hb.cell (p := ⟨w.heap.size, 0, none⟩) (by simp))
  have d1 := (hb.cell (p := ⟨w.heap.size, 1, none⟩) (by simp))
  have d2 := (hb.cell (p := ⟨w.heap.size, 2, none⟩) (by simp))
  simp at d0 d1 d2
  go_wp2_with fail
  refine (refWrite_any W H s _).mono ?_
  rintro e w2 ⟨r2, n2, rfl, ho2, hb2⟩
  obtain ⟨rfl, rfl⟩ := writeOut_one ho ho2
  go_wp2
  go_ret
  exact ⟨rfl, ((((Below.refl _ _).alloc (Nat.le_refl _) _).trans (hb.mono (by simp))).trans (hb2.mono (by omega)))⟩
end Go.Proofs.YtljfiefobnncaaaDoor
