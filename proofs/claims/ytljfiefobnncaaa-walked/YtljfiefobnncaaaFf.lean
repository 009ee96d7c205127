/- outlinekeep: options. -/
import Derived.Test.YtljfiefobnncaaaFe
namespace Go.Proofs.Ytljfiefobnncaaa
open Go.RowKit

set_option maxHeartbeats 400000 in
theorem options_any (p : Int) (draws : ByteArray) (p1 : -9223372036854775808 ≤ p) (p2 : p ≤ 9223372036854775807) (w : World) :
    Calls Try.prog 16 #[.int .i64 p, .string draws] w fun e w' => (∃ r : Nat, e = .returned (.agg #[.int .i64 r, .string draws, .int .i64 0]) ∧ r ≤ 3) ∧ Below w.heap.size w w' := by
  go_enter Try.func16, Try.ntmps16
  go_wp2_with fail
  refine (pick_any p 4 p1 p2 (by omega) (by omega) _).mono ?_
  rintro e w1 ⟨⟨r, rfl, hr⟩, rfl⟩
  go_wp2
  refine bodyPost_ret (v := .agg #[.int .i64 r, .string draws, .int .i64 0]) (by simp [results, Try.results16, go_sem]) rfl ?_
  exact ⟨⟨r, rfl, by omega⟩, by go_grown⟩
end Go.Proofs.Ytljfiefobnncaaa
