/- outline.Read and the law Reads, out of the contracts. -/
import Derived.Test.YtljfiefobnncaaaDoorRm
namespace Go.Proofs.YtljfiefobnncaaaDoor
open Go.RowKit

set_option maxRecDepth 4000 in
set_option maxHeartbeats 1000000 in
theorem outlineRead_any (s : ByteArray) (hs : s.size ≤ 140737488355328) (w : World) :
    Calls Tryd.prog 7 #[.string s] w fun e w' => (∃ (n m : Nat) (bits : List UInt8) (r : Int) (q : Nat), e = .returned (.tuple #[.agg #[.int .i64 n, .int .i64 m, .string ⟨bits.toArray⟩], .int .i64 r, .int .i64 q]) ∧ Pm.readOut s.data.toList n m bits r q) ∧ Below w.heap.size w w' := by
  go_enter Tryd.func7, Tryd.ntmps7
  go_wp2_with fail
  refine (filesRead_any s hs _).mono ?_
  rintro e w1 ⟨⟨n, m, bits, r, q, rfl, ho⟩, hb⟩
  have X1 := (Box3.new w (.int .i64 0) (.int .i64 0) (.string ⟨#[]⟩) 23).on hb
  obtain ⟨⟨d0, d1, d2⟩, ⟨f0, f1, f2⟩, hB, hz⟩ := X1
  have HO := hidr ho
  clear hb ho
  go_wp2
  refine bodyPost_ret (v := .tuple #[.agg #[.int .i64 n, .int .i64 m, .string ⟨bits.toArray⟩], .int .i64 r, .int .i64 q]) (by simp [results, Tryd.results7, go_sem, d0, d1, d2]) rfl ?_
  exact ⟨⟨n, m, bits, r, q, rfl, HO.out⟩, ((hB.setCell (by simp) _).setCell (by simp) _).setCell (by simp) _⟩

set_option maxRecDepth 4000 in
set_option maxHeartbeats 1000000 in
theorem reads_calls (s : ByteArray) (hs : s.size ≤ 140737488355328) (w : World) :
    Calls Tryd.prog 3 #[.string s] w fun e w' => e = .returned (.bool true) ∧ Below w.heap.size w w' := by
  go_enter Tryd.func3, Tryd.ntmps3
  go_wp2_with fail
  refine (outlineRead_any s hs _).mono ?_
  rintro e w1 ⟨⟨n, m, bits, r, q, rfl, ho⟩, hb⟩
  have HO := hidr ho
  clear ho
  go_wp2_with fail
  refine (refRead_any s hs _).mono ?_
  rintro e w2 ⟨⟨n', m', bits', r', q', rfl, ho'⟩, hb2⟩
  obtain ⟨rfl, rfl, rfl, rfl, rfl⟩ := Pm.readOut_one HO.out ho'
  have X2 := (Box3.new w1 (.int .i64 n) (.int .i64 m) (.string ⟨bits.toArray⟩) 23).on hb2
  obtain ⟨⟨d0, d1, d2⟩, -, hB, hz⟩ := X2
  have hB0 : Below w.heap.size w w2 := hb.trans (hB.mono hb.size)
  clear hb hb2 ho'
  go_wp2
  go_ret
  exact ⟨rfl, hB0.alloc (by have := hB0.size; omega) _⟩
end Go.Proofs.YtljfiefobnncaaaDoor
