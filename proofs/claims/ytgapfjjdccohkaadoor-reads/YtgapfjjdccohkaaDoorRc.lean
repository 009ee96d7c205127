/- past, Gap, readNumber, Number. -/
import Derived.Test.YtgapfjjdccohkaaDoorRb
namespace Go.Proofs.YtgapfjjdccohkaaDoor
open Go.RowKit

/-- Where a comment that begins at a ends: behind its newline, or not at all. -/
def pastOut (s : ByteArray) (a : Nat) (r : Int) : Prop :=
  (∃ p : Nat, r = (p : Int) ∧ a < p ∧ p ≤ s.size ∧ Pm.skipG (s.data.toList.drop a) true + a = p + Pm.skipG (s.data.toList.drop p) false) ∨
  (r = -1 ∧ Pm.skipG (s.data.toList.drop a) true + a = s.size)

set_option maxHeartbeats 400000 in
theorem past_any (s : ByteArray) (a : Nat) (ha : a ≤ s.size) (hs : s.size ≤ 140737488355328) (w : World) :
    Calls Tryd.prog 36 #[.string s, .int .i64 a] w fun e w' => (∃ r, e = .returned (.int .i64 r) ∧ pastOut s a r) ∧ w' = w := by
  go_enter Tryd.func36, Tryd.ntmps36
  go_wp2
  go_loop [5] (fun i => ∃ k : Nat, a ≤ k ∧ k ≤ s.size ∧ i = .int .i64 k ∧ Hid (Pm.skipG (s.data.toList.drop a) true + a = k + Pm.skipG (s.data.toList.drop k) true)) (fun i => s.size - (intOf i).toNat)
  case atStart => exact ⟨a, Nat.le_refl _, ha, rfl, Nat.add_comm _ _⟩
  case round =>
    obtain ⟨k, hak, hk, rfl, E⟩ := hrel
    by_cases hlt : k < s.size
    · cases q10 : ((s[k].toNat : Int) == 10)
      · have S := hidr (Pm.skip_in s k hlt q10)
        go_wp2
        go_round
        case rel => exact ⟨k + 1, by omega, by omega, by go_num, by show _ = _; rw [E.out, S.out]; omega⟩
        case measure => simp [intOf]; omega
      · have S := hidr (Pm.skip_nl s k hlt q10)
        go_wp2
        go_ret
        exact ⟨⟨_, rfl, .inl ⟨k + 1, by simp, by omega, by omega, by rw [E.out, S.out]; omega⟩⟩, rfl⟩
    · have S := hidr (Pm.skip_end s k (by omega) true)
      go_wp2
      go_ret
      exact ⟨⟨_, rfl, .inr ⟨rfl, by rw [E.out, S.out]; omega⟩⟩, rfl⟩

/-- What Gap answers: the gap's end; or -1, where a comment goes on to the end. -/
def gapOut (s : ByteArray) (a : Nat) (g : Int) : Prop :=
  g = (Pm.gapEnd s.data.toList a : Nat) ∨ (g = -1 ∧ a < Pm.gapEnd s.data.toList a ∧ Pm.gapEnd s.data.toList a = s.size)

set_option maxHeartbeats 400000 in
theorem gap_any (s : ByteArray) (a : Nat) (ha : a ≤ s.size) (hs : s.size ≤ 140737488355328) (w : World) :
    Calls Tryd.prog 26 #[.string s, .int .i64 a] w fun e w' => (∃ g, e = .returned (.int .i64 g) ∧ gapOut s a g) ∧ w' = w := by
  go_enter Tryd.func26, Tryd.ntmps26
  go_wp2
  go_loop [1] (fun i => ∃ k : Nat, a ≤ k ∧ k ≤ s.size ∧ i = .int .i64 k ∧ Hid (Pm.gapEnd s.data.toList a = k + Pm.skipG (s.data.toList.drop k) false)) (fun i => s.size - (intOf i).toNat)
  case atStart => exact ⟨a, Nat.le_refl _, ha, rfl, rfl⟩
  case round =>
    obtain ⟨k, hak, hk, rfl, E⟩ := hrel
    by_cases hlt : k < s.size
    · cases q35 : ((s[k].toNat : Int) == 35)
      · cases hb : Pm.blankB s[k]
        · have S := hidr (Pm.skip_not s k hlt q35 hb)
          go_wp2_with (go_at_call 28; refine (blank_any s[k] _).mono ?_; rintro e w' ⟨rfl, rfl⟩; rw [hb])
          go_ret
          exact ⟨⟨_, rfl, .inl (by rw [E.out, S.out]; rfl)⟩, rfl⟩
        · have S := hidr (Pm.skip_blank s k hlt q35 hb)
          go_wp2_with (go_at_call 28; refine (blank_any s[k] _).mono ?_; rintro e w' ⟨rfl, rfl⟩; rw [hb])
          go_round
          case rel => exact ⟨k + 1, by omega, by omega, by go_num, by show _ = _; rw [E.out, S.out]; omega⟩
          case measure => simp [intOf]; omega
      · have hb : Pm.blankB s[k] = false := by rw [Pm.blankB_eq, eq_of_beq q35]; rfl
        have S := hidr (Pm.skip_hash s k hlt q35 false)
        have q10 : ((s[k].toNat : Int) == 10) = false := by have := eq_of_beq q35; rw [this]; rfl
        have S2 := hidr (Pm.skip_in s k hlt q10)
        clear q10
        go_wp2_with (go_at_call 28; refine (blank_any s[k] _).mono ?_; rintro e w' ⟨rfl, rfl⟩; rw [hb])
        refine (past_any s k hk hs _).mono ?_
        rintro e w2 ⟨⟨r, rfl, ho⟩, rfl⟩
        rcases ho with ⟨p, rfl, h1, h2, h3⟩ | ⟨rfl, h3⟩
        · have H3 := hidr h3
          clear h3
          go_wp2
          go_round
          case rel => exact ⟨p, by omega, by omega, rfl, by show _ = _; have := E.out; have := S.out; have := S2.out; have := H3.out; omega⟩
          case measure => simp [intOf]; omega
        · have H3 := hidr h3
          clear h3
          go_wp2
          go_ret
          exact ⟨⟨_, rfl, .inr ⟨rfl, by have := E.out; have := S.out; have := S2.out; have := H3.out; omega, by have := E.out; have := S.out; have := S2.out; have := H3.out; omega⟩⟩, rfl⟩
    · have S := hidr (Pm.skip_end s k (by omega) false)
      go_wp2
      go_ret
      exact ⟨⟨_, rfl, .inl (by rw [E.out, S.out]; rfl)⟩, rfl⟩

set_option maxHeartbeats 2000000 in
theorem readNumber_any (s : ByteArray) (g : Nat) (hg : g ≤ s.size) (hs : s.size ≤ 140737488355328) (w : World) :
    Calls Tryd.prog 43 #[.string s, .int .i64 g] w fun e w' => (∃ (n p : Nat) (r : Int), e = .returned (.tuple #[.int .i64 n, .int .i64 p, .int .i64 r]) ∧ Pm.numOut s.data.toList g n p r) ∧ w' = w := by
  go_enter Tryd.func43, Tryd.ntmps43
  go_wp2
  go_loop [7, 8] (fun v i => ∃ n k : Nat, n ≤ 33 ∧ g ≤ k ∧ k ≤ s.size ∧ i = .int .i64 k ∧ v = .int .i64 n ∧ Hid (Pm.numV 0 (s.data.toList.drop g) = Pm.numV n (s.data.toList.drop k) ∧ g + Pm.numC (s.data.toList.drop g) = k + Pm.numC (s.data.toList.drop k))) (fun _ i => s.size - (intOf i).toNat)
  case atStart => exact ⟨0, g, by omega, Nat.le_refl _, hg, rfl, rfl, rfl, rfl⟩
  case round =>
    obtain ⟨n, k, hn, hgk, hk, rfl, rfl, E⟩ := hrel
    have fin : ∀ (hv : Pm.numV n (s.data.toList.drop k) = n) (hc : Pm.numC (s.data.toList.drop k) = 0), Pm.numV 0 (s.data.toList.drop g) = n ∧ g + Pm.numC (s.data.toList.drop g) = k := fun hv hc => ⟨by rw [E.out.1, hv], by rw [E.out.2, hc]; omega⟩
    have FIN := hidr fin
    clear fin
    by_cases hlt : k < s.size
    · cases hd : Pm.digitB s[k]
      · have F := hidr (FIN.out (by rw [Pm.numV_step s k hlt, if_neg (by simp [hd])]) (by rw [Pm.numC_step s k hlt, if_neg (by simp [hd])]))
        by_cases hkg : k = g
        · subst hkg
          go_wp2_with (first | (go_at_call 51; refine (isDigit_any s[k] _).mono ?_; rintro e w' ⟨rfl, rfl⟩; rw [hd]) | (go_at_call 41; refine (wrongAt_any s k _).mono ?_; rintro e w' ⟨rfl, rfl⟩))
          go_ret3
          exact ⟨⟨0, k, _, rfl, .inl ⟨by have := F.out.2; omega, rfl, rfl, by simp⟩⟩, rfl⟩
        · have b0 : ((k : Int) == (g : Int)) = false := beq_eq_false_iff_ne.2 (by omega)
          by_cases n0 : n = 0
          · have b1 : ((n : Int) == 0) = true := beq_iff_eq.2 (by omega)
            have N0 := hidr n0
            clear n0
            go_wp2_with (first | (go_at_call 51; refine (isDigit_any s[k] _).mono ?_; rintro e w' ⟨rfl, rfl⟩; rw [hd]) | fail)
            go_ret3
            exact ⟨⟨0, g, _, rfl, .inr (.inl ⟨by have := F.out.2; omega, .inl (by rw [F.out.1]; exact N0.out), rfl, rfl, rfl⟩)⟩, rfl⟩
          · have b1 : ((n : Int) == 0) = false := beq_eq_false_iff_ne.2 (by omega)
            by_cases n1 : 32 < n
            · go_wp2_with (first | (go_at_call 51; refine (isDigit_any s[k] _).mono ?_; rintro e w' ⟨rfl, rfl⟩; rw [hd]) | fail)
              go_ret3
              exact ⟨⟨0, g, _, rfl, .inr (.inl ⟨by have := F.out.2; omega, .inr (by rw [F.out.1]; exact n1), rfl, rfl, rfl⟩)⟩, rfl⟩
            · go_wp2_with (first | (go_at_call 51; refine (isDigit_any s[k] _).mono ?_; rintro e w' ⟨rfl, rfl⟩; rw [hd]) | fail)
              go_ret3
              exact ⟨⟨n, k, _, rfl, .inr (.inr ⟨by have := F.out.2; omega, by rw [F.out.1]; omega, by rw [F.out.1]; omega, F.out.1.symm, F.out.2.symm, rfl⟩)⟩, rfl⟩
      · have db := Pm.digit_bounds hd
        have C := hidr (Pm.numC_step s k hlt)
        by_cases big : 32 < 10 * (n : Int) + ((s[k].toNat : Int) - 48)
        · have V := hidr (Pm.numV_on s k hlt n 33 hd (by omega))
          have big2 : 32 < (n : Int) * 10 + ((s[k].toNat : Int) - 48) := by omega
          go_wp2_with (first | (go_at_call 51; refine (isDigit_any s[k] _).mono ?_; rintro e w' ⟨rfl, rfl⟩; rw [hd]) | fail)
          go_round
          case rel => exact ⟨33, k + 1, by omega, by omega, by omega, by go_num, rfl, by rw [E.out.1, V.out], by rw [E.out.2, C.out, if_pos hd]; omega⟩
          case measure => simp [intOf]; omega
        · have V := hidr (Pm.numV_on s k hlt n (10 * n + (s[k].toNat - 48)) hd (by omega))
          have big2 : ¬ 32 < (n : Int) * 10 + ((s[k].toNat : Int) - 48) := by omega
          go_wp2_with (first | (go_at_call 51; refine (isDigit_any s[k] _).mono ?_; rintro e w' ⟨rfl, rfl⟩; rw [hd]) | fail)
          go_round
          case rel => exact ⟨10 * n + (s[k].toNat - 48), k + 1, by omega, by omega, by omega, by go_num, by go_num, by rw [E.out.1, V.out], by rw [E.out.2, C.out, if_pos hd]; omega⟩
          case measure => simp [intOf]; omega
    · have F := hidr (FIN.out (Pm.numV_end s k (by omega) n) (Pm.numC_end s k (by omega)))
      by_cases hkg : k = g
      · subst hkg
        go_wp2_with (first | (go_at_call 41; refine (wrongAt_any s k _).mono ?_; rintro e w' ⟨rfl, rfl⟩))
        go_ret3
        exact ⟨⟨0, k, _, rfl, .inl ⟨by have := F.out.2; omega, rfl, rfl, by simp⟩⟩, rfl⟩
      · have b0 : ((k : Int) == (g : Int)) = false := beq_eq_false_iff_ne.2 (by omega)
        by_cases n0 : n = 0
        · have b1 : ((n : Int) == 0) = true := beq_iff_eq.2 (by omega)
          have N0 := hidr n0
          clear n0
          go_wp2_with (first | fail)
          go_ret3
          exact ⟨⟨0, g, _, rfl, .inr (.inl ⟨by have := F.out.2; omega, .inl (by rw [F.out.1]; exact N0.out), rfl, rfl, rfl⟩)⟩, rfl⟩
        · have b1 : ((n : Int) == 0) = false := beq_eq_false_iff_ne.2 (by omega)
          by_cases n1 : 32 < n
          · go_wp2_with (first | fail)
            go_ret3
            exact ⟨⟨0, g, _, rfl, .inr (.inl ⟨by have := F.out.2; omega, .inr (by rw [F.out.1]; exact n1), rfl, rfl, rfl⟩)⟩, rfl⟩
          · go_wp2_with (first | fail)
            go_ret3
            exact ⟨⟨n, k, _, rfl, .inr (.inr ⟨by have := F.out.2; omega, by rw [F.out.1]; omega, by rw [F.out.1]; omega, F.out.1.symm, F.out.2.symm, rfl⟩)⟩, rfl⟩
end Go.Proofs.YtgapfjjdccohkaaDoor
