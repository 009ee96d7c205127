/- IsOne and Good: is it a bitmap? -/
import Derived.Test.YtljfiefobnncaaaWa
namespace Go.Proofs.Ytljfiefobnncaaa
open Go.RowKit

set_option maxHeartbeats 400000 in
theorem isOne_any (W H : Int) (s : ByteArray) (w : World) :
    Calls Try.prog 76 #[.agg #[.int .i64 W, .int .i64 H, .string s]] w fun e w' => e = .returned (.bool (Pm.goodB W H s.data.toList)) ∧ w' = w.alloc (.cells #[.int .i64 W, .int .i64 H, .string s] 23) := by
  cases hw : Pm.sideB W
  · go_enter Try.func76, Try.ntmps76
    go_wp2_with (go_at_call 64; refine (isSide_any _ _).mono ?_; rintro e w' ⟨rfl, rfl⟩)
    go_ret
    exact ⟨ret_bool (Pm.goodB_w hw).symm, rfl⟩
  · cases hh : Pm.sideB H
    · go_enter Try.func76, Try.ntmps76
      go_wp2_with (go_at_call 64; refine (isSide_any _ _).mono ?_; rintro e w' ⟨rfl, rfl⟩)
      go_ret
      exact ⟨ret_bool (Pm.goodB_h hh).symm, rfl⟩
    · have bw := Pm.sideB_bounds hw
      have bh := Pm.sideB_bounds hh
      have bm := Pm.area_le bw.1 bw.2 bh.1 bh.2
      by_cases hl : (s.size : Int) = W * H
      · have hb : ((s.size : Int) != W * H) = false := by simp [hl]
        have hsz : (s.size : Int) ≤ 1024 := by omega
        have HL : Hid ((s.size : Int) = W * H) := hl
        clear hl
        go_enter Try.func76, Try.ntmps76
        go_wp2_with (go_at_call 64; refine (isSide_any _ _).mono ?_; rintro e w' ⟨rfl, rfl⟩)
        go_loop [3] (fun i => ∃ k : Nat, k ≤ s.size ∧ i = .int .i64 k ∧ Hid ((s.data.toList.take k).all Pm.okPix = true)) (fun i => s.size - (intOf i).toNat)
        case atStart => exact ⟨0, Nat.zero_le _, rfl, rfl⟩
        case round =>
          obtain ⟨k, hk, rfl, hall⟩ := hrel
          by_cases hlt : k < s.size
          · by_cases h0 : (s[k].toNat : Int) = 48
            · go_wp2
              go_round
              case rel => exact ⟨k + 1, by omega, by go_num, Pm.all_step s k hlt hall (.inl h0)⟩
              case measure => simp [intOf]; omega
            · by_cases h1 : (s[k].toNat : Int) = 49
              · go_wp2
                go_round
                case rel => exact ⟨k + 1, by omega, by go_num, Pm.all_step s k hlt hall (.inr h1)⟩
                case measure => simp [intOf]; omega
              · have b0 : ((s[k].toNat : Int) != 48) = true := bne_iff_ne.2 h0
                have b1 : ((s[k].toNat : Int) != 49) = true := bne_iff_ne.2 h1
                go_wp2
                go_ret
                exact ⟨ret_bool (Pm.goodB_bad s k hlt h0 h1).symm, rfl⟩
          · go_wp2
            go_ret
            exact ⟨ret_bool (Pm.goodB_yes hw hh HL.out (by have := hall.out; rwa [List.take_of_length_le (by simp; omega)] at this)).symm, rfl⟩
      · have hb : ((s.size : Int) != W * H) = true := by simp [hl]
        go_enter Try.func76, Try.ntmps76
        go_wp2_with (go_at_call 64; refine (isSide_any _ _).mono ?_; rintro e w' ⟨rfl, rfl⟩)
        go_ret
        exact ⟨ret_bool (Pm.goodB_len hl).symm, rfl⟩

set_option maxHeartbeats 1000000 in
theorem good_any (W H : Int) (s : ByteArray) (w : World) :
    Calls Try.prog 70 #[.agg #[.int .i64 W, .int .i64 H, .string s]] w fun e w' => e = .returned (.bool (Pm.goodB W H s.data.toList)) ∧ w' = w.alloc (.cells #[.int .i64 W, .int .i64 H, .string s] 23) := by
  by_cases w1 : W < 1
  · go_enter Try.func70, Try.ntmps70
    go_wp2
    go_ret
    exact ⟨ret_bool (Pm.goodB_w (Pm.sideB_low (by omega))).symm, rfl⟩
  by_cases h1 : H < 1
  · go_enter Try.func70, Try.ntmps70
    go_wp2
    go_ret
    exact ⟨ret_bool (Pm.goodB_h (Pm.sideB_low (by omega))).symm, rfl⟩
  by_cases w2 : 32 < W
  · go_enter Try.func70, Try.ntmps70
    go_wp2
    go_ret
    exact ⟨ret_bool (Pm.goodB_w (Pm.sideB_high (by omega))).symm, rfl⟩
  by_cases h2 : 32 < H
  · go_enter Try.func70, Try.ntmps70
    go_wp2
    go_ret
    exact ⟨ret_bool (Pm.goodB_h (Pm.sideB_high (by omega))).symm, rfl⟩
  have bm := Pm.area_le (w := W) (h := H) (by omega) (by omega) (by omega) (by omega)
  by_cases hl : (s.size : Int) = W * H
  · have hb : ((s.size : Int) != W * H) = false := by simp [hl]
    have hsz : (s.size : Int) ≤ 1024 := by omega
    have HL : Hid ((s.size : Int) = W * H) := hl
    clear hl
    go_enter Try.func70, Try.ntmps70
    go_wp2
    go_loop [3] (fun i => ∃ k : Nat, k ≤ s.size ∧ i = .int .i64 k ∧ Hid ((s.data.toList.take k).all Pm.okPix = true)) (fun i => s.size - (intOf i).toNat)
    case atStart => exact ⟨0, Nat.zero_le _, rfl, rfl⟩
    case round =>
      obtain ⟨k, hk, rfl, hall⟩ := hrel
      by_cases hlt : k < s.size
      · by_cases q1 : (s[k].toNat : Int) = 49
        · go_wp2
          go_round
          case rel => exact ⟨k + 1, by omega, by go_num, Pm.all_step s k hlt hall (.inr q1)⟩
          case measure => simp [intOf]; omega
        · by_cases q0 : (s[k].toNat : Int) = 48
          · go_wp2
            go_round
            case rel => exact ⟨k + 1, by omega, by go_num, Pm.all_step s k hlt hall (.inl q0)⟩
            case measure => simp [intOf]; omega
          · have b0 : ((s[k].toNat : Int) != 48) = true := bne_iff_ne.2 q0
            have b1 : ((s[k].toNat : Int) != 49) = true := bne_iff_ne.2 q1
            go_wp2
            go_ret
            exact ⟨ret_bool (Pm.goodB_bad s k hlt q0 q1).symm, rfl⟩
      · go_wp2
        go_ret
        exact ⟨ret_bool (Pm.goodB_yes (Pm.sideB_yes (by omega) (by omega)) (Pm.sideB_yes (by omega) (by omega)) HL.out (by have := hall.out; rwa [List.take_of_length_le (by simp; omega)] at this)).symm, rfl⟩
  · have hb : ((s.size : Int) != W * H) = true := by simp [hl]
    go_enter Try.func70, Try.ntmps70
    go_wp2
    go_ret
    exact ⟨ret_bool (Pm.goodB_len hl).symm, rfl⟩
end Go.Proofs.Ytljfiefobnncaaa
