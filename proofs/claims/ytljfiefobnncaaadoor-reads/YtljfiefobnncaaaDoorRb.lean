/- skipBlanks, skipGap, past, Gap. -/
import Derived.Test.YtljfiefobnncaaaDoorRa
namespace Go.Proofs.YtljfiefobnncaaaDoor
open Go.RowKit

set_option maxRecDepth 4000 in
set_option maxHeartbeats 400000 in
theorem skipBlanks_any (s : ByteArray) (a : Nat) (ha : a ≤ s.size) (hs : s.size ≤ 140737488355328) (w : World) :
    Calls Tryd.prog 71 #[.string s, .int .i64 a] w fun e w' => e = .returned (.int .i64 (a + Pm.blanks (s.data.toList.drop a) : Nat)) ∧ w' = w := by
  go_enter Tryd.func71, Tryd.ntmps71
  go_wp2
  go_loop [1] (fun i => ∃ k : Nat, k ≤ s.size ∧ i = .int .i64 k ∧ Hid (a + Pm.blanks (s.data.toList.drop a) = k + Pm.blanks (s.data.toList.drop k))) (fun i => s.size - (intOf i).toNat)
  case atStart => exact ⟨a, ha, rfl, rfl⟩
  case round =>
    obtain ⟨k, hk, rfl, E⟩ := hrel
    by_cases hlt : k < s.size
    · have S := hidr (Pm.blanks_step s k hlt)
      cases hb : Pm.blankB s[k]
      · go_wp2_with (go_at_call 72; refine (isBlank_any s[k] _).mono ?_; rintro e w' ⟨rfl, rfl⟩; rw [hb])
        go_ret
        exact ⟨ret_int (by rw [E.out, S.out, if_neg (by simp [hb])]; omega), rfl⟩
      · go_wp2_with (go_at_call 72; refine (isBlank_any s[k] _).mono ?_; rintro e w' ⟨rfl, rfl⟩; rw [hb])
        go_round
        case rel => exact ⟨k + 1, by omega, by go_num, by show _ = _; rw [E.out, S.out, if_pos hb]; omega⟩
        case measure => simp [intOf]; omega
    · have S := hidr (Pm.blanks_end s k (by omega))
      go_wp2
      go_ret
      exact ⟨ret_int (by have := E.out; have := S.out; omega), rfl⟩

set_option maxRecDepth 4000 in
set_option maxHeartbeats 1000000 in
theorem skipGap_any (s : ByteArray) (a : Nat) (ha : a ≤ s.size) (hs : s.size ≤ 140737488355328) (w : World) :
    Calls Tryd.prog 69 #[.string s, .int .i64 a] w fun e w' => e = .returned (.int .i64 (Pm.gapEnd s.data.toList a : Nat)) ∧ w' = w := by
  go_enter Tryd.func69, Tryd.ntmps69
  go_wp2
  go_loop [1, 5] (fun i c => ∃ (k : Nat) (q : Bool), k ≤ s.size ∧ i = .int .i64 k ∧ c = .bool q ∧ Hid (Pm.gapEnd s.data.toList a = k + Pm.skipG (s.data.toList.drop k) q)) (fun i _ => s.size - (intOf i).toNat)
  case atStart => exact ⟨a, false, ha, rfl, rfl, rfl⟩
  case round =>
    obtain ⟨k, q, hk, rfl, rfl, E⟩ := hrel
    by_cases hlt : k < s.size
    · have S := hidr (Pm.skip_step s k hlt q)
      cases q35 : ((s[k].toNat : Int) == 35)
      · cases q10 : ((s[k].toNat : Int) == 10)
        · cases hb : Pm.blankB s[k]
          · cases q
            · go_wp2_with (go_at_call 72; refine (isBlank_any s[k] _).mono ?_; rintro e w' ⟨rfl, rfl⟩; rw [hb])
              go_ret
              exact ⟨ret_int (by rw [E.out, S.out, if_neg (by simp [hb, q35])]; omega), rfl⟩
            · go_wp2_with (go_at_call 72; refine (isBlank_any s[k] _).mono ?_; rintro e w' ⟨rfl, rfl⟩; rw [hb])
              go_round
              case rel => exact ⟨k + 1, true, by omega, by go_num, rfl, by show _ = _; rw [E.out, S.out, if_pos (by simp), q35, q10]; simp only [Bool.or_true, Bool.not_false, Bool.and_self]; omega⟩
              case measure => simp [intOf]; omega
          · cases q
            all_goals
              go_wp2_with (go_at_call 72; refine (isBlank_any s[k] _).mono ?_; rintro e w' ⟨rfl, rfl⟩; rw [hb])
              go_round
              case rel => exact ⟨k + 1, _, by omega, by go_num, rfl, by show _ = _; rw [E.out, S.out, if_pos (by simp [hb]), q35, q10]; simp only [Bool.or_true, Bool.or_self, Bool.not_false, Bool.and_self, Bool.and_false]; omega⟩
              case measure => simp [intOf]; omega
        · have hb : Pm.blankB s[k] = true := by rw [Pm.blankB_eq, q10]; simp
          cases q
          all_goals
            go_wp2_with (go_at_call 72; refine (isBlank_any s[k] _).mono ?_; rintro e w' ⟨rfl, rfl⟩; rw [hb])
            go_round
            case rel => exact ⟨k + 1, false, by omega, by go_num, rfl, by show _ = _; rw [E.out, S.out, if_pos (by simp [hb]), q35, q10]; simp only [Bool.not_true, Bool.false_and]; omega⟩
            case measure => simp [intOf]; omega
      · have q10 : ((s[k].toNat : Int) == 10) = false := by have := eq_of_beq q35; rw [this]; rfl
        cases q
        all_goals
          go_wp2
          go_round
          case rel => exact ⟨k + 1, true, by omega, by go_num, rfl, by show _ = _; rw [E.out, S.out, if_pos (by simp [q35]), q35, q10]; simp only [Bool.true_or, Bool.not_false, Bool.and_self]; omega⟩
          case measure => simp [intOf]; omega
    · have S := hidr (Pm.skip_end s k (by omega) q)
      go_wp2
      go_ret
      exact ⟨ret_int (by rw [E.out, S.out]; omega), rfl⟩
end Go.Proofs.YtljfiefobnncaaaDoor
