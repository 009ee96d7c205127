/- The law Walks, of any bitmap and any options. -/
import Derived.Test.YtljfiefobnncaaaEj
namespace Go.Proofs.Ytljfiefobnncaaa
open Go.RowKit

/-- A book that was just made. -/
theorem OBook.new (kb : Nat) (w : World) (lt : kb < w.heap.size) (c0 : w.cell? ⟨kb, 0, none⟩ = some (.int .i64 (0 : Nat))) (c1 : w.cell? ⟨kb, 1, none⟩ = some (.slice none 0 0)) (c2 : w.cell? ⟨kb, 2, none⟩ = some (.slice none 0 0)) (fz : ∀ j, w.frozen? ⟨kb, j, none⟩ = false) :
    OBook kb 0 (.slice none 0 0) (.slice none 0 0) [] [] w where
  lt := lt
  c0 := c0
  c1 := c1
  c2 := c2
  fz := fz
  po := World.ownsRow_nil _ _ _ _
  so := World.ownsRow_nil _ _ _ _
  mp := by simp
  ms := by simp
  a1 := by simp [Value.ownBlock]
  a2 := by simp [Value.ownBlock]
  a3 := by simp [Value.ownBlock]
  far := by simp
  old := by simp
  few := by simp

set_option maxRecDepth 4000 in
set_option maxHeartbeats 1000000 in
theorem walks_any (W H : Int) (s : ByteArray) (pol : Int) (draws : ByteArray) (spk : Int) (w : World) :
    Calls Try.prog 3 #[.agg #[.int .i64 W, .int .i64 H, .string s], .agg #[.int .i64 pol, .string draws, .int .i64 spk]] w fun e w' => e = .returned (.bool true) ∧ Below w.heap.size w w' := by
  go_enter Try.func3, Try.ntmps3
  go_wp2_with fail
  have hN := OBook.new (w.heap.size + 1 + 1) (((w.alloc (.cells #[.int .i64 W, .int .i64 H, .string s] 23)).alloc (.cells #[.int .i64 pol, .string draws, .int .i64 spk] 25)).alloc (.cells #[.int .i64 0, .slice none 0 0, .slice none 0 0] 30))
    (by simp) (by simp [go_sem]) (by simp [go_sem]) (by simp [go_sem]) (fun j => by simp [go_sem])
  refine (walked_any _ 0 _ _ [] [] W H s pol draws spk _ hN (by omega)).mono ?_
  rintro e w1 ⟨rfl, N', vp', vs', P', S', ho, -, hfr⟩
  have B1 := hid (show Below w.heap.size w w1 from by
    have z := hfr.size
    simp at z
    refine Below.trans (b := ((w.alloc (.cells #[.int .i64 W, .int .i64 H, .string s] 23)).alloc (.cells #[.int .i64 pol, .string draws, .int .i64 spk] 25)).alloc (.cells #[.int .i64 0, .slice none 0 0, .slice none 0 0] 30)) (by go_grown) ⟨hfr.os, hfr.tape, hfr.output, hfr.size, fun k hk => hfr.block k (by simp; omega) (fun hc => ?_)⟩
    rcases hc with e | e | e
    · omega
    · simp [Value.ownBlock] at e
    · simp [Value.ownBlock] at e)
  have OB := hid ho
  clear ho hfr hN
  go_wp2_with fail
  refine (looks_any _ _ _ _ _ _ _ OB.out.book).mono ?_
  rintro e w2 ⟨rfl, b2⟩
  have B2 := hid (B1.out.trans (b2.mono B1.out.size))
  clear b2
  go_wp2
  go_ret
  exact ⟨rfl, B2.out⟩
end Go.Proofs.Ytljfiefobnncaaa
