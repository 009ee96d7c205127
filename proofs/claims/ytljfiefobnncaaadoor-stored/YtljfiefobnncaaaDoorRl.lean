/- files.Read, outline.Read, outlineref.Read. -/
import Derived.Test.YtljfiefobnncaaaDoorBo
import Derived.Test.YtljfiefobnncaaaDoorRi
import Derived.Test.YtljfiefobnncaaaDoorRk
namespace Go.Proofs.YtljfiefobnncaaaDoor
open Go.RowKit

set_option maxRecDepth 4000 in
set_option maxHeartbeats 1000000 in
theorem filesRead_any (s : ByteArray) (hs : s.size ≤ 140737488355328) (w : World) :
    Calls Tryd.prog 16 #[.string s] w fun e w' => (∃ (n m : Nat) (bits : List UInt8) (r : Int) (q : Nat), e = .returned (.tuple #[.agg #[.int .i64 n, .int .i64 m, .string ⟨bits.toArray⟩], .int .i64 r, .int .i64 q]) ∧ Pm.readOut s.data.toList n m bits r q) ∧ Below w.heap.size w w' := by
  go_enter Tryd.func16, Tryd.ntmps16
  go_wp2_with fail
  refine (readHead_any s hs _).mono ?_
  rintro e w1 ⟨⟨c0, n0, m0, p0, e0, rfl, hh⟩, hb⟩
  have X1 := (Box3.new w (.int .i64 0) (.int .i64 0) (.string ⟨#[]⟩) 23).on hb
  have X1h := hidr X1
  obtain ⟨⟨d0, d1, d2⟩, ⟨f0, f1, f2⟩, hB, hz⟩ := X1
  clear hb
  by_cases z0 : e0 = 0
  · have k := Pm.headOut_ok hh z0
    subst z0
    obtain ⟨k1, k2, k3, k4, k5, k6⟩ := k
    have k1' : p0 ≤ s.size := by simpa using k1
    have K6 := hidr k6
    have HH := hidr hh
    clear k1 k6 hh
    go_wp2_with fail
    refine (readPixels_any s p0 c0 n0 m0 k1' hs k2 k3 k4 k5 _).mono ?_
    rintro e w2 ⟨⟨b1, p1, e1, rfl, hp⟩, hb2⟩
    have X2 := (X1h.out.alloc _).on hb2
    have k1 := (hb2.cell (p := ⟨w1.heap.size, 1, none⟩) (by simp))
    have k2 := (hb2.cell (p := ⟨w1.heap.size, 2, none⟩) (by simp))
    simp at k1 k2
    have HP := hidr hp
    clear hb2 hp d0 d1 d2 f0 f1 f2 hB
    obtain ⟨⟨g0, g1, g2⟩, ⟨j0, j1, j2⟩, hB2, hz3⟩ := X2
    by_cases z1 : e1 = 0
    · subst z1
      go_wp2
      refine bodyPost_ret (v := .tuple #[.agg #[.int .i64 n0, .int .i64 m0, .string ⟨b1.toArray⟩], .int .i64 0, .int .i64 0]) (by simp [results, Tryd.results16, go_sem, g0, g1, g2]) rfl ?_
      exact ⟨⟨n0, m0, b1, 0, 0, rfl, c0, n0, m0, p0, 0, HH.out, .inr ⟨rfl, b1, p1, 0, HP.out, .inr ⟨rfl, rfl, rfl, rfl, rfl, rfl⟩⟩⟩, ((hB2.setCell (by simp) _).setCell (by simp) _).setCell (by simp) _⟩
    · have b1' : (e1 != 0) = true := bne_iff_ne.2 z1
      go_wp2
      refine bodyPost_ret (v := .tuple #[.agg #[.int .i64 0, .int .i64 0, .string ⟨#[]⟩], .int .i64 e1, .int .i64 p1]) (by simp [results, Tryd.results16, go_sem, g0, g1, g2]) rfl ?_
      exact ⟨⟨0, 0, [], e1, p1, rfl, c0, n0, m0, p0, 0, HH.out, .inr ⟨rfl, b1, p1, e1, HP.out, .inl ⟨z1, rfl, rfl, rfl, rfl, rfl⟩⟩⟩, ((hB2.setCell (by simp) _).setCell (by simp) _).setCell (by simp) _⟩
  · have b0 : (e0 != 0) = true := bne_iff_ne.2 z0
    have HH := hidr hh
    clear hh
    go_wp2
    refine bodyPost_ret (v := .tuple #[.agg #[.int .i64 0, .int .i64 0, .string ⟨#[]⟩], .int .i64 e0, .int .i64 p0]) (by simp [results, Tryd.results16, go_sem, d0, d1, d2, hz]) rfl ?_
    exact ⟨⟨0, 0, [], e0, p0, rfl, c0, n0, m0, p0, e0, HH.out, .inl ⟨z0, rfl, rfl, rfl, rfl, rfl⟩⟩, (((hB.setCell (by simp) _).setCell (by simp) _).setCell (by simp) _).alloc (by simp; omega) _⟩
end Go.Proofs.YtljfiefobnncaaaDoor
