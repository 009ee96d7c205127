/- past, Gap, readNumber, Number. -/
import Derived.Test.YtljfiefobnncaaaDoorRb
import Derived.Test.YtljfiefobnncaaaDoorNu
namespace Go.Proofs.YtljfiefobnncaaaDoor
open Go.RowKit

/-- Where a comment that begins at a ends: behind its newline, or not at all. -/
def pastOut (s : ByteArray) (a : Nat) (r : Int) : Prop :=
  (∃ p : Nat, r = (p : Int) ∧ a < p ∧ p ≤ s.size ∧ Pm.skipG (s.data.toList.drop a) true + a = p + Pm.skipG (s.data.toList.drop p) false) ∨
  (r = -1 ∧ Pm.skipG (s.data.toList.drop a) true + a = s.size)

set_option maxRecDepth 4000 in
set_option maxHeartbeats 400000 in
theorem past_any (s : ByteArray) (a : Nat) (ha : a ≤ s.size) (hs : s.size ≤ 140737488355328) (w : World) :
    Calls Tryd.prog 57 #[.string s, .int .i64 a] w fun e w' => (∃ r, e = .returned (.int .i64 r) ∧ pastOut s a r) ∧ w' = w := by
  go_enter Tryd.func57, Tryd.ntmps57
  go_wp2
  go_loop [5] (fun i => ∃ k : Nat, a ≤ k ∧ k ≤ s.size ∧ i = .int .i64 k ∧ Hid (Pm.skipG (s.data.toList.drop a) true + a = k + Pm.skipG (s.data.toList.drop k) true)) (fun i => s.size - (intOf i).toNat)
  case atStart => exact ⟨a, Nat.le_refl _, ha, rfl, Nat.add_comm _ _⟩
  case round =>
    obtain ⟨k, hak, hk, rfl, E⟩ := hrel
    by_cases hlt : k < s.size
    · cases q10 : ((s[k].toNat : Int) == 10)
      · have S := hidr (Pm.skip_in s k hlt q10)
        go_wp2
        go_round
        case rel => exact ⟨k + 1, by omega, by omega, by go_num, by show _ = _; rw [E.out, S.out]; omega⟩
        case measure => simp [intOf]; omega
      · have S := hidr (Pm.skip_nl s k hlt q10)
        go_wp2
        go_ret
        exact ⟨⟨_, rfl, .inl ⟨k + 1, by simp, by omega, by omega, by rw [E.out, S.out]; omega⟩⟩, rfl⟩
    · have S := hidr (Pm.skip_end s k (by omega) true)
      go_wp2
      go_ret
      exact ⟨⟨_, rfl, .inr ⟨rfl, by rw [E.out, S.out]; omega⟩⟩, rfl⟩

/-- What Gap answers: the gap's end; or -1, where a comment goes on to the end. -/
def gapOut (s : ByteArray) (a : Nat) (g : Int) : Prop :=
  g = (Pm.gapEnd s.data.toList a : Nat) ∨ (g = -1 ∧ a < Pm.gapEnd s.data.toList a ∧ Pm.gapEnd s.data.toList a = s.size)

set_option maxRecDepth 4000 in
set_option maxHeartbeats 400000 in
theorem gap_any (s : ByteArray) (a : Nat) (ha : a ≤ s.size) (hs : s.size ≤ 140737488355328) (w : World) :
    Calls Tryd.prog 40 #[.string s, .int .i64 a] w fun e w' => (∃ g, e = .returned (.int .i64 g) ∧ gapOut s a g) ∧ w' = w := by
  go_enter Tryd.func40, Tryd.ntmps40
  go_wp2
  go_loop [1] (fun i => ∃ k : Nat, a ≤ k ∧ k ≤ s.size ∧ i = .int .i64 k ∧ Hid (Pm.gapEnd s.data.toList a = k + Pm.skipG (s.data.toList.drop k) false)) (fun i => s.size - (intOf i).toNat)
  case atStart => exact ⟨a, Nat.le_refl _, ha, rfl, rfl⟩
  case round =>
    obtain ⟨k, hak, hk, rfl, E⟩ := hrel
    by_cases hlt : k < s.size
    · cases q35 : ((s[k].toNat : Int) == 35)
      · cases hb : Pm.blankB s[k]
        · have S := hidr (Pm.skip_not s k hlt q35 hb)
          go_wp2_with (go_at_call 42; refine (blank_any s[k] _).mono ?_; rintro e w' ⟨rfl, rfl⟩; rw [hb])
          go_ret
          exact ⟨⟨_, rfl, .inl (by rw [E.out, S.out]; rfl)⟩, rfl⟩
        · have S := hidr (Pm.skip_blank s k hlt q35 hb)
          go_wp2_with (go_at_call 42; refine (blank_any s[k] _).mono ?_; rintro e w' ⟨rfl, rfl⟩; rw [hb])
          go_round
          case rel => exact ⟨k + 1, by omega, by omega, by go_num, by show _ = _; rw [E.out, S.out]; omega⟩
          case measure => simp [intOf]; omega
      · have hb : Pm.blankB s[k] = false := by rw [Pm.blankB_eq, eq_of_beq q35]; rfl
        have S := hidr (Pm.skip_hash s k hlt q35 false)
        have q10 : ((s[k].toNat : Int) == 10) = false := by have := eq_of_beq q35; rw [this]; rfl
        have S2 := hidr (Pm.skip_in s k hlt q10)
        clear q10
        go_wp2_with (go_at_call 42; refine (blank_any s[k] _).mono ?_; rintro e w' ⟨rfl, rfl⟩; rw [hb])
        refine (past_any s k hk hs _).mono ?_
        rintro e w2 ⟨⟨r, rfl, ho⟩, rfl⟩
        rcases ho with ⟨p, rfl, h1, h2, h3⟩ | ⟨rfl, h3⟩
        · have H3 := hidr h3
          clear h3
          go_wp2
          go_round
          case rel => exact ⟨p, by omega, by omega, rfl, by show _ = _; have := E.out; have := S.out; have := S2.out; have := H3.out; omega⟩
          case measure => simp [intOf]; omega
        · have H3 := hidr h3
          clear h3
          go_wp2
          go_ret
          exact ⟨⟨_, rfl, .inr ⟨rfl, by have := E.out; have := S.out; have := S2.out; have := H3.out; omega, by have := E.out; have := S.out; have := S2.out; have := H3.out; omega⟩⟩, rfl⟩
    · have S := hidr (Pm.skip_end s k (by omega) false)
      go_wp2
      go_ret
      exact ⟨⟨_, rfl, .inl (by rw [E.out, S.out]; rfl)⟩, rfl⟩

set_option maxRecDepth 4000 in
set_option maxHeartbeats 2000000 in
theorem readNumber_any (s : ByteArray) (g : Nat) (hg : g ≤ s.size) (hs : s.size ≤ 140737488355328) (w : World) :
    Calls Tryd.prog 70 #[.string s, .int .i64 g] w fun e w' => (∃ (n p : Nat) (r : Int), e = .returned (.tuple #[.int .i64 n, .int .i64 p, .int .i64 r]) ∧ Pm.numOut s.data.toList g n p r) ∧ w' = w := by
  have c := scanNumber_any s g hg hs
  obtain ⟨n, hn⟩ : ∃ n, n = Pm.numV 0 (s.data.toList.drop g) := ⟨_, rfl⟩
  obtain ⟨m, hm⟩ : ∃ m, m = Pm.numC (s.data.toList.drop g) := ⟨_, rfl⟩
  rw [← hn, ← hm] at c
  have HN := hidr hn
  have HM := hidr hm
  have C := hidr c
  clear c hn hm
  by_cases m0 : m = 0
  · have M0 := hidr m0
    have b0 : (((g + m : Nat) : Int) == (g : Int)) = true := beq_iff_eq.2 (by omega)
    clear m0
    go_enter Tryd.func70, Tryd.ntmps70
    go_wp2_with (first | (go_at_call 83; refine (C.out _).mono ?_; rintro e w' ⟨rfl, rfl⟩) | (go_at_call 68; refine (wrongAt_any s (g + m) _).mono ?_; rintro e w' ⟨rfl, rfl⟩))
    go_ret3
    exact ⟨⟨0, g + m, _, rfl, .inl ⟨by rw [← HM.out]; exact M0.out, rfl, by have := M0.out; omega, by have := M0.out; subst this; simp⟩⟩, rfl⟩
  · have b0 : (((g + m : Nat) : Int) == (g : Int)) = false := beq_eq_false_iff_ne.2 (by omega)
    by_cases n0 : n = 0
    · have b1 : ((n : Int) == 0) = true := beq_iff_eq.2 (by omega)
      have N0 := hidr n0
      clear n0
      go_enter Tryd.func70, Tryd.ntmps70
      go_wp2_with (first | (go_at_call 83; refine (C.out _).mono ?_; rintro e w' ⟨rfl, rfl⟩) | fail)
      go_ret3
      exact ⟨⟨0, g, _, rfl, .inr (.inl ⟨by have := HM.out; omega, .inl (by rw [← HN.out]; exact N0.out), rfl, rfl, rfl⟩)⟩, rfl⟩
    · have b1 : ((n : Int) == 0) = false := beq_eq_false_iff_ne.2 (by omega)
      by_cases n1 : 32 < n
      · go_enter Tryd.func70, Tryd.ntmps70
        go_wp2_with (first | (go_at_call 83; refine (C.out _).mono ?_; rintro e w' ⟨rfl, rfl⟩) | fail)
        go_ret3
        exact ⟨⟨0, g, _, rfl, .inr (.inl ⟨by have := HM.out; omega, .inr (by rw [← HN.out]; exact n1), rfl, rfl, rfl⟩)⟩, rfl⟩
      · go_enter Tryd.func70, Tryd.ntmps70
        go_wp2_with (first | (go_at_call 83; refine (C.out _).mono ?_; rintro e w' ⟨rfl, rfl⟩) | fail)
        go_ret3
        exact ⟨⟨n, g + m, _, rfl, .inr (.inr ⟨by have := HM.out; omega, by have := HN.out; omega, by have := HN.out; omega, HN.out, by have := HM.out; omega, rfl⟩)⟩, rfl⟩

end Go.Proofs.YtljfiefobnncaaaDoor
