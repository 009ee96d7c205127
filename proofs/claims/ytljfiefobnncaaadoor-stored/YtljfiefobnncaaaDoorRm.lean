/- outlineref.Read. -/
import Derived.Test.YtljfiefobnncaaaDoorRl
namespace Go.Proofs.YtljfiefobnncaaaDoor
open Go.RowKit

/-- What the two calls of 'side' and the pixels behind them come to, once the two letters are read. -/
theorem tail_out {l : List UInt8} {c : UInt8} (hk : Pm.kindOut l c 2 0) : ∀ {n1 p1 : Nat} {e1 : Int}, Pm.sideOut l 2 n1 p1 e1 →
    (e1 ≠ 0 → Pm.readOut l 0 0 [] e1 p1) ∧
    (e1 = 0 → ∀ {n2 p2 : Nat} {e2 : Int}, Pm.sideOut l p1 n2 p2 e2 →
      (e2 ≠ 0 → Pm.readOut l 0 0 [] e2 p2) ∧
      (e2 = 0 → ∀ {b : List UInt8} {p3 : Nat} {e3 : Int}, Pm.pixOut c l p2 n1 n2 b p3 e3 →
        (e3 ≠ 0 → Pm.readOut l 0 0 [] e3 p3) ∧ (e3 = 0 → Pm.readOut l n1 n2 b 0 0))) := by
  intro n1 p1 e1 h1
  refine ⟨fun z => ⟨0, 0, 0, p1, e1, ⟨c, 2, 0, hk, .inr ⟨rfl, n1, p1, e1, h1, .inl ⟨z, rfl, rfl, rfl, rfl, rfl⟩⟩⟩, .inl ⟨z, rfl, rfl, rfl, rfl, rfl⟩⟩, ?_⟩
  intro z1 n2 p2 e2 h2
  refine ⟨fun z => ⟨0, 0, 0, p2, e2, ⟨c, 2, 0, hk, .inr ⟨rfl, n1, p1, e1, h1, .inr ⟨z1, n2, p2, e2, h2, .inl ⟨z, rfl, rfl, rfl, rfl, rfl⟩⟩⟩⟩, .inl ⟨z, rfl, rfl, rfl, rfl, rfl⟩⟩, ?_⟩
  intro z2 b p3 e3 h3
  have hh : Pm.headOut l c n1 n2 p2 0 := ⟨c, 2, 0, hk, .inr ⟨rfl, n1, p1, e1, h1, .inr ⟨z1, n2, p2, e2, h2, .inr ⟨z2, rfl, rfl, rfl, rfl, rfl⟩⟩⟩⟩
  exact ⟨fun z => ⟨c, n1, n2, p2, 0, hh, .inr ⟨rfl, b, p3, e3, h3, .inl ⟨z, rfl, rfl, rfl, rfl, rfl⟩⟩⟩, fun z => ⟨c, n1, n2, p2, 0, hh, .inr ⟨rfl, b, p3, e3, h3, .inr ⟨z, rfl, rfl, rfl, rfl, rfl⟩⟩⟩⟩
theorem kind_bad {l : List UInt8} {c : UInt8} {p : Nat} {e : Int} (hk : Pm.kindOut l c p e) (z : e ≠ 0) : Pm.readOut l 0 0 [] e p :=
  ⟨0, 0, 0, p, e, ⟨c, p, e, hk, .inl ⟨z, rfl, rfl, rfl, rfl, rfl⟩⟩, .inl ⟨z, rfl, rfl, rfl, rfl, rfl⟩⟩

theorem Below.two (w : World) (o1 o2 : Obj) : Below w.heap.size w ((w.alloc o1).alloc o2) := ((Below.refl _ _).alloc (Nat.le_refl _) _).alloc (by simp) _

set_option maxRecDepth 4000 in
set_option maxHeartbeats 2000000 in
theorem refRead_any (s : ByteArray) (hs : s.size ≤ 140737488355328) (w : World) :
    Calls Tryd.prog 8 #[.string s] w fun e w' => (∃ (n m : Nat) (bits : List UInt8) (r : Int) (q : Nat), e = .returned (.tuple #[.agg #[.int .i64 n, .int .i64 m, .string ⟨bits.toArray⟩], .int .i64 r, .int .i64 q]) ∧ Pm.readOut s.data.toList n m bits r q) ∧ Below w.heap.size w w' := by
  by_cases h0 : 0 < s.size
  · cases q0 : ((s[0].toNat : Int) != 80)
    · have e0 : (s[0].toNat : Int) = 80 := by simpa using q0
      have K0 := hidr (show ∃ x, s.data.toList[0]? = some x ∧ (x.toNat : Int) = 80 from ⟨_, at_get s 0 h0, e0⟩)
      clear e0
      by_cases h1 : 1 < s.size
      · by_cases q12 : (s[1].toNat : Int) = 49 ∨ (s[1].toNat : Int) = 52
        · rcases q12 with q12 | q12
          · have q1 : ((s[1].toNat : Int) != 49) = false := by simp [q12]
            have q3 : ((s[1].toNat : Int) == 49) = true := by simp [q12]
            have E := hidr q12
            have KK := hidr (show Pm.kindOut s.data.toList s[1] 2 0 from .inr (.inr ⟨K0.out, at_get s 1 h1, .inl q12, rfl, rfl⟩))
            clear q12
            go_enter Tryd.func8, Tryd.ntmps8
            go_wp2_with fail
            refine (at_in s 0 h0 _).mono ?_
            rintro e w1 ⟨rfl, rfl⟩
            go_wp2_with fail
            refine (at_in s 1 h1 _).mono ?_
            rintro e w1 ⟨rfl, rfl⟩
            go_wp2_with fail
            refine (side_any s 2 (by omega) hs _).mono ?_
            rintro e w1 ⟨⟨n1, p1, e1, g1, rfl, n1', p1', hs1, hr1⟩, rfl⟩
            have TT := hidr (tail_out KK.out hs1)
            have o1 := Pm.sideOut_ok (by simp; omega) hs1
            clear hs1
            rcases hr1 with ⟨rfl, rfl, rfl, rfl⟩ | ⟨z1, rfl, rfl, rfl⟩
            · have b1 := o1.2.1 rfl
              have op1 : p1 ≤ s.size := by simpa using o1.1
              clear o1
              go_wp2_with fail
              refine (side_any s p1 op1 hs _).mono ?_
              rintro e w1 ⟨⟨n2, p2, e2, g2, rfl, n2', p2', hs2, hr2⟩, rfl⟩
              have T2 := hidr (TT.out.2 (by trivial) hs2)
              have o2 := Pm.sideOut_ok (by simpa using op1) hs2
              clear hs2
              rcases hr2 with ⟨rfl, rfl, rfl, rfl⟩ | ⟨z2, rfl, rfl, rfl⟩
              · have b2 := o2.2.1 rfl
                have op2 : p2 ≤ s.size := by simpa using o2.1
                clear o2
                obtain ⟨t, ht⟩ : ∃ t, t = n1 * n2 := ⟨_, rfl⟩
                have et : (n1 : Int) * (n2 : Int) = (t : Nat) := by rw [ht]; simp
                have t1 : 1 ≤ t := by rw [ht]; exact Nat.mul_le_mul b1.1 b2.1
                have t2 : t ≤ 1024 := by rw [ht]; exact Nat.mul_le_mul b1.2 b2.2
                have T := hidr ht
                clear ht
                go_wp2_with fail
                refine (plain_any s p2 t op2 hs t1 t2 _).mono ?_
                rintro e w1 ⟨⟨b3, e3, g3, rfl, p3, hs3, hr3⟩, rfl⟩
                have T3 := hidr (T2.out.2 (by trivial) (.inl ⟨E.out, by rw [← T.out]; exact hs3⟩))
                clear hs3
                rcases hr3 with ⟨rfl, rfl⟩ | ⟨z3, rfl⟩
                · go_wp2
                  refine bodyPost_ret (v := .tuple #[.agg #[.int .i64 n1, .int .i64 n2, .string ⟨b3.toArray⟩], .int .i64 0, .int .i64 0]) (by simp [results, Tryd.results8, go_sem]) rfl ?_
                  exact ⟨⟨n1, n2, b3, 0, 0, rfl, T3.out.2 (by trivial)⟩, Below.two _ _ _⟩
                · have q : (e3 != 0) = true := bne_iff_ne.2 z3
                  go_wp2
                  refine bodyPost_ret (v := .tuple #[.agg #[.int .i64 0, .int .i64 0, .string ⟨#[]⟩], .int .i64 e3, .int .i64 g3]) (by simp [results, Tryd.results8, go_sem]) rfl ?_
                  exact ⟨⟨0, 0, [], e3, g3, rfl, T3.out.1 z3⟩, Below.two _ _ _⟩
              · have q : (e2 != 0) = true := bne_iff_ne.2 z2
                go_wp2
                refine bodyPost_ret (v := .tuple #[.agg #[.int .i64 0, .int .i64 0, .string ⟨#[]⟩], .int .i64 e2, .int .i64 g2]) (by simp [results, Tryd.results8, go_sem]) rfl ?_
                exact ⟨⟨0, 0, [], e2, g2, rfl, T2.out.1 z2⟩, Below.two _ _ _⟩
            · have q : (e1 != 0) = true := bne_iff_ne.2 z1
              go_wp2
              refine bodyPost_ret (v := .tuple #[.agg #[.int .i64 0, .int .i64 0, .string ⟨#[]⟩], .int .i64 e1, .int .i64 g1]) (by simp [results, Tryd.results8, go_sem]) rfl ?_
              exact ⟨⟨0, 0, [], e1, g1, rfl, TT.out.1 z1⟩, Below.two _ _ _⟩
          · have q1 : ((s[1].toNat : Int) != 49) = true := by simp [q12]
            have q2 : ((s[1].toNat : Int) != 52) = false := by simp [q12]
            have q3 : ((s[1].toNat : Int) == 49) = false := by simp [q12]
            have E := hidr (show ¬ (s[1].toNat : Int) = 49 by omega)
            have KK := hidr (show Pm.kindOut s.data.toList s[1] 2 0 from .inr (.inr ⟨K0.out, at_get s 1 h1, .inr q12, rfl, rfl⟩))
            clear q12
            go_enter Tryd.func8, Tryd.ntmps8
            go_wp2_with fail
            refine (at_in s 0 h0 _).mono ?_
            rintro e w1 ⟨rfl, rfl⟩
            go_wp2_with fail
            refine (at_in s 1 h1 _).mono ?_
            rintro e w1 ⟨rfl, rfl⟩
            go_wp2_with fail
            refine (side_any s 2 (by omega) hs _).mono ?_
            rintro e w1 ⟨⟨n1, p1, e1, g1, rfl, n1', p1', hs1, hr1⟩, rfl⟩
            have TT := hidr (tail_out KK.out hs1)
            have o1 := Pm.sideOut_ok (by simp; omega) hs1
            clear hs1
            rcases hr1 with ⟨rfl, rfl, rfl, rfl⟩ | ⟨z1, rfl, rfl, rfl⟩
            · have b1 := o1.2.1 rfl
              have op1 : p1 ≤ s.size := by simpa using o1.1
              clear o1
              go_wp2_with fail
              refine (side_any s p1 op1 hs _).mono ?_
              rintro e w1 ⟨⟨n2, p2, e2, g2, rfl, n2', p2', hs2, hr2⟩, rfl⟩
              have T2 := hidr (TT.out.2 (by trivial) hs2)
              have o2 := Pm.sideOut_ok (by simpa using op1) hs2
              clear hs2
              rcases hr2 with ⟨rfl, rfl, rfl, rfl⟩ | ⟨z2, rfl, rfl, rfl⟩
              · have b2 := o2.2.1 rfl
                have op2 : p2 ≤ s.size := by simpa using o2.1
                clear o2
                go_wp2_with fail
                refine (packed_any s p2 n1 n2 op2 hs b1.1 b1.2 b2.1 b2.2 _).mono ?_
                rintro e w1 ⟨⟨b3, e3, g3, rfl, p3, hs3, hr3⟩, rfl⟩
                have T3 := hidr (T2.out.2 (by trivial) (.inr ⟨E.out, hs3⟩))
                clear hs3
                rcases hr3 with ⟨rfl, rfl⟩ | ⟨z3, rfl⟩
                · go_wp2
                  refine bodyPost_ret (v := .tuple #[.agg #[.int .i64 n1, .int .i64 n2, .string ⟨b3.toArray⟩], .int .i64 0, .int .i64 0]) (by simp [results, Tryd.results8, go_sem]) rfl ?_
                  exact ⟨⟨n1, n2, b3, 0, 0, rfl, T3.out.2 (by trivial)⟩, Below.two _ _ _⟩
                · have q : (e3 != 0) = true := bne_iff_ne.2 z3
                  go_wp2
                  refine bodyPost_ret (v := .tuple #[.agg #[.int .i64 0, .int .i64 0, .string ⟨#[]⟩], .int .i64 e3, .int .i64 g3]) (by simp [results, Tryd.results8, go_sem]) rfl ?_
                  exact ⟨⟨0, 0, [], e3, g3, rfl, T3.out.1 z3⟩, Below.two _ _ _⟩
              · have q : (e2 != 0) = true := bne_iff_ne.2 z2
                go_wp2
                refine bodyPost_ret (v := .tuple #[.agg #[.int .i64 0, .int .i64 0, .string ⟨#[]⟩], .int .i64 e2, .int .i64 g2]) (by simp [results, Tryd.results8, go_sem]) rfl ?_
                exact ⟨⟨0, 0, [], e2, g2, rfl, T2.out.1 z2⟩, Below.two _ _ _⟩
            · have q : (e1 != 0) = true := bne_iff_ne.2 z1
              go_wp2
              refine bodyPost_ret (v := .tuple #[.agg #[.int .i64 0, .int .i64 0, .string ⟨#[]⟩], .int .i64 e1, .int .i64 g1]) (by simp [results, Tryd.results8, go_sem]) rfl ?_
              exact ⟨⟨0, 0, [], e1, g1, rfl, TT.out.1 z1⟩, Below.two _ _ _⟩
        · have n1 : ¬ (s[1].toNat : Int) = 49 := fun h => q12 (.inl h)
          have n2 : ¬ (s[1].toNat : Int) = 52 := fun h => q12 (.inr h)
          have q1 : ((s[1].toNat : Int) != 49) = true := bne_iff_ne.2 n1
          have q2 : ((s[1].toNat : Int) != 52) = true := bne_iff_ne.2 n2
          have N := hidr (And.intro n1 n2)
          clear n1 n2 q12
          go_enter Tryd.func8, Tryd.ntmps8
          go_wp2_with fail
          refine (at_in s 0 h0 _).mono ?_
          rintro e w1 ⟨rfl, rfl⟩
          go_wp2_with fail
          refine (at_in s 1 h1 _).mono ?_
          rintro e w1 ⟨rfl, rfl⟩
          go_wp2_with (first | (go_at_call 18; refine (lacks_any s 1 (by omega) _).mono ?_; rintro e w' ⟨rfl, rfl⟩))
          refine bodyPost_ret (v := .tuple #[.agg #[.int .i64 0, .int .i64 0, .string ⟨#[]⟩], .int .i64 (Pm.lackE s.size 1), .int .i64 1]) (by simp [results, Tryd.results8, go_sem]) rfl ?_
          exact ⟨⟨0, 0, [], _, 1, rfl, kind_bad (c := 0) (.inr (.inl ⟨K0.out, fun x hx => (by rw [at_get s 1 h1] at hx; cases hx; exact N.out), rfl, rfl, by simp⟩)) (lackE_ne _ _)⟩, Below.two _ _ _⟩
      · go_enter Tryd.func8, Tryd.ntmps8
        go_wp2_with fail
        refine (at_in s 0 h0 _).mono ?_
        rintro e w1 ⟨rfl, rfl⟩
        go_wp2_with fail
        refine (at_out s 1 h1 _).mono ?_
        rintro e w1 ⟨rfl, rfl⟩
        go_wp2_with (first | (go_at_call 18; refine (lacks_any s 1 (by omega) _).mono ?_; rintro e w' ⟨rfl, rfl⟩))
        refine bodyPost_ret (v := .tuple #[.agg #[.int .i64 0, .int .i64 0, .string ⟨#[]⟩], .int .i64 (Pm.lackE s.size 1), .int .i64 1]) (by simp [results, Tryd.results8, go_sem]) rfl ?_
        exact ⟨⟨0, 0, [], _, 1, rfl, kind_bad (c := 0) (.inr (.inl ⟨K0.out, fun x hx => (by rw [at_none s 1 h1] at hx; cases hx), rfl, rfl, by simp⟩)) (lackE_ne _ _)⟩, Below.two _ _ _⟩
    · have n1 : ¬ (s[0].toNat : Int) = 80 := by simpa using q0
      have N := hidr n1
      clear n1
      go_enter Tryd.func8, Tryd.ntmps8
      go_wp2_with (first | (go_at_call 17; refine (at_in s 0 h0 _).mono ?_; rintro e w' ⟨rfl, rfl⟩) | (go_at_call 18; refine (lacks_any s 0 (by omega) _).mono ?_; rintro e w' ⟨rfl, rfl⟩))
      refine bodyPost_ret (v := .tuple #[.agg #[.int .i64 0, .int .i64 0, .string ⟨#[]⟩], .int .i64 (Pm.lackE s.size 0), .int .i64 0]) (by simp [results, Tryd.results8, go_sem]) rfl ?_
      exact ⟨⟨0, 0, [], _, 0, rfl, kind_bad (c := 0) (.inl ⟨fun x hx => (by rw [at_get s 0 h0] at hx; cases hx; exact N.out), rfl, rfl, by simp⟩) (lackE_ne _ _)⟩, Below.two _ _ _⟩
  · go_enter Tryd.func8, Tryd.ntmps8
    go_wp2_with (first | (go_at_call 17; refine (at_out s 0 h0 _).mono ?_; rintro e w' ⟨rfl, rfl⟩) | (go_at_call 18; refine (lacks_any s 0 (by omega) _).mono ?_; rintro e w' ⟨rfl, rfl⟩))
    refine bodyPost_ret (v := .tuple #[.agg #[.int .i64 0, .int .i64 0, .string ⟨#[]⟩], .int .i64 (Pm.lackE s.size 0), .int .i64 0]) (by simp [results, Tryd.results8, go_sem]) rfl ?_
    exact ⟨⟨0, 0, [], _, 0, rfl, kind_bad (c := 0) (.inl ⟨fun x hx => (by rw [at_none s 0 h0] at hx; cases hx), rfl, rfl, by simp⟩) (lackE_ne _ _)⟩, Below.two _ _ _⟩
end Go.Proofs.YtljfiefobnncaaaDoor
