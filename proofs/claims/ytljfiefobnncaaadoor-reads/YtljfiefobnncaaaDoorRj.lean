/- readKind, readHead, readPixels. -/
import Derived.Test.YtljfiefobnncaaaDoorRe
import Derived.Test.YtljfiefobnncaaaDoorRh
import Derived.Test.YtljfiefobnncaaaDoorPt
namespace Go.Proofs.YtljfiefobnncaaaDoor
open Go.RowKit

set_option maxRecDepth 4000 in
set_option maxHeartbeats 1000000 in
theorem readKind_any (s : ByteArray) (w : World) :
    Calls Tryd.prog 53 #[.string s] w fun e w' => (∃ (c : UInt8) (p : Nat) (r : Int), e = .returned (.tuple #[.int .u8 c.toNat, .int .i64 p, .int .i64 r]) ∧ Pm.kindOut s.data.toList c p r) ∧ w' = w := by
  by_cases h0 : 0 < s.size
  · cases q0 : ((s[0].toNat : Int) != 80)
    · have e0 : (s[0].toNat : Int) = 80 := by simpa using q0
      have K0 := hidr (show ∃ x, s.data.toList[0]? = some x ∧ (x.toNat : Int) = 80 from ⟨_, at_get s 0 h0, e0⟩)
      clear e0
      by_cases h1 : 1 < s.size
      · cases q1 : ((s[1].toNat : Int) != 49)
        · have e1 : (s[1].toNat : Int) = 49 := by simpa using q1
          have E1 := hidr e1
          clear e1
          go_enter Tryd.func53, Tryd.ntmps53
          go_wp2
          go_ret3
          exact ⟨⟨s[1], 2, 0, rfl, .inr (.inr ⟨K0.out, at_get s 1 h1, .inl E1.out, rfl, rfl⟩)⟩, rfl⟩
        · cases q2 : ((s[1].toNat : Int) != 52)
          · have e1 : (s[1].toNat : Int) = 52 := by simpa using q2
            have E1 := hidr e1
            clear e1
            go_enter Tryd.func53, Tryd.ntmps53
            go_wp2
            go_ret3
            exact ⟨⟨s[1], 2, 0, rfl, .inr (.inr ⟨K0.out, at_get s 1 h1, .inr E1.out, rfl, rfl⟩)⟩, rfl⟩
          · have n1 : ¬ (s[1].toNat : Int) = 49 := by simpa using q1
            have n2 : ¬ (s[1].toNat : Int) = 52 := by simpa using q2
            have N := hidr (And.intro n1 n2)
            clear n1 n2
            go_enter Tryd.func53, Tryd.ntmps53
            go_wp2_with (first | (go_at_call 68; refine (wrongAt_any s 1 _).mono ?_; rintro e w' ⟨rfl, rfl⟩))
            go_ret3
            exact ⟨⟨0, 1, _, rfl, .inr (.inl ⟨K0.out, fun x hx => (by rw [at_get s 1 h1] at hx; cases hx; exact N.out), rfl, rfl, by simp⟩)⟩, rfl⟩
      · go_enter Tryd.func53, Tryd.ntmps53
        go_wp2_with (first | (go_at_call 68; refine (wrongAt_any s 1 _).mono ?_; rintro e w' ⟨rfl, rfl⟩))
        go_ret3
        exact ⟨⟨0, 1, _, rfl, .inr (.inl ⟨K0.out, fun x hx => (by rw [at_none s 1 h1] at hx; cases hx), rfl, rfl, by simp⟩)⟩, rfl⟩
    · have n1 : ¬ (s[0].toNat : Int) = 80 := by simpa using q0
      have N := hidr n1
      clear n1
      go_enter Tryd.func53, Tryd.ntmps53
      go_wp2_with (first | (go_at_call 68; refine (wrongAt_any s 0 _).mono ?_; rintro e w' ⟨rfl, rfl⟩))
      go_ret3
      exact ⟨⟨0, 0, _, rfl, .inl ⟨fun x hx => (by rw [at_get s 0 h0] at hx; cases hx; exact N.out), rfl, rfl, by simp⟩⟩, rfl⟩
  · go_enter Tryd.func53, Tryd.ntmps53
    go_wp2_with (first | (go_at_call 68; refine (wrongAt_any s 0 _).mono ?_; rintro e w' ⟨rfl, rfl⟩))
    go_ret3
    exact ⟨⟨0, 0, _, rfl, .inl ⟨fun x hx => (by rw [at_none s 0 h0] at hx; cases hx), rfl, rfl, by simp⟩⟩, rfl⟩
end Go.Proofs.YtljfiefobnncaaaDoor
