/- The document's own packed. -/
import Derived.Test.YtljfiefobnncaaaDoorRf
import Derived.Test.YtljfiefobnncaaaDoorRh
namespace Go.Proofs.YtljfiefobnncaaaDoor
open Go.RowKit

theorem at_in_i (s : ByteArray) (i : Int) (a : Nat) (hi : i = (a : Int)) (ha : a < s.size) (w : World) :
    Calls Tryd.prog 17 #[.string s, .int .i64 i] w fun e w' => e = .returned (.tuple #[.int .u8 s[a].toNat, .bool true]) ∧ w' = w := by
  subst hi; exact at_in s a ha w
theorem at_out_i (s : ByteArray) (i : Int) (a : Nat) (hi : i = (a : Int)) (ha : ¬ a < s.size) (w : World) :
    Calls Tryd.prog 17 #[.string s, .int .i64 i] w fun e w' => e = .returned (.tuple #[.int .u8 0, .bool false]) ∧ w' = w := by
  subst hi; exact at_out s a ha w
theorem itoa_i (i : Int) (n : Nat) (hi : i = (n : Int)) (h : n < 33) (w : World) :
    Calls Tryd.prog 24 #[.int .i64 i] w fun e w' => e = .returned (.string ⟨(Pm.itoaL n).toArray⟩) ∧ w' = w := by
  subst hi; exact itoa_any n h w

theorem wrap64_byte (c : UInt8) : wrap64 (c.toNat : Int) = (c.toNat : Int) := by
  have := c.toNat_lt
  unfold wrap64; omega

set_option maxRecDepth 4000 in
set_option maxHeartbeats 2000000 in
theorem packed_any (s : ByteArray) (a W H : Nat) (ha : a ≤ s.size) (hs : s.size ≤ 140737488355328) (w1 : 1 ≤ W) (w2 : W ≤ 32) (h1 : 1 ≤ H) (h2 : H ≤ 32) (w : World) :
    Calls Tryd.prog 21 #[.string s, .int .i64 a, .int .i64 W, .int .i64 H] w fun e w' => (∃ (bits : List UInt8) (r : Int) (q : Nat), e = .returned (.tuple #[.string ⟨bits.toArray⟩, .int .i64 r, .int .i64 q]) ∧ bitsRef (Pm.packedOut s.data.toList a W H) bits r q) ∧ w' = w := by
  by_cases has : a < s.size
  · cases hb : Pm.blankB s[a]
    · go_enter Tryd.func21, Tryd.ntmps21
      go_wp2_with (first | (go_at_call 17; refine (at_in s a has _).mono ?_; rintro e w' ⟨rfl, rfl⟩) | (go_at_call 42; refine (blank_any s[a] _).mono ?_; rintro e w' ⟨rfl, rfl⟩; rw [hb]) | (go_at_call 18; refine (lacks_any s a ha _).mono ?_; rintro e w' ⟨rfl, rfl⟩))
      go_ret3
      exact ⟨⟨[], _, a, rfl, a, .inl ⟨fun c hc => (by rw [at_get s a has] at hc; cases hc; exact hb), rfl, rfl, by simp⟩, .inr ⟨lackE_ne _ _, rfl⟩⟩, rfl⟩
    · have BL := hidr (show ∃ c, s.data.toList[a]? = some c ∧ Pm.blankB c = true from ⟨_, at_get s a has, hb⟩)
      obtain ⟨r, hr⟩ : ∃ r, r = (W + 7) / 8 := ⟨_, rfl⟩
      have er : ((W : Int) + 7) / 8 = (r : Nat) := by omega
      have r1 : 1 ≤ r := by omega
      have r2 : r ≤ 4 := by omega
      have R := hidr hr
      clear hr
      go_enter Tryd.func21, Tryd.ntmps21
      go_wp2_with (first | (go_at_call 17; refine (at_in s a has _).mono ?_; rintro e w' ⟨rfl, rfl⟩) | (go_at_call 42; refine (blank_any s[a] _).mono ?_; rintro e w' ⟨rfl, rfl⟩; rw [hb]))
      simp only [er]
      clear er
      go_loop [17, 18] (fun f i => ∃ (y : Nat) (F : ByteArray), y ≤ H ∧ i = .int .i64 y ∧ f = .string F ∧ Hid (F.data.toList = Pm.rowsTo s.data.toList (a + 1) r W y) ∧ F.size ≤ 32 * y ∧ Hid (a + 1 + y * r ≤ s.size)) (fun _ i => H - (intOf i).toNat)
      case atStart => exact ⟨0, ⟨#[]⟩, by omega, rfl, rfl, by show _ = _; simp [Pm.rowsTo], Nat.le_refl _, by show _ ≤ _; omega⟩
      case round =>
        obtain ⟨y, F, hy, rfl, rfl, hF, hFs, hZ⟩ := hrel
        by_cases hlt : y < H
        · obtain ⟨q, hq⟩ : ∃ q, q = y * r := ⟨_, rfl⟩
          have eq1 : (y : Int) * (r : Int) = (q : Nat) := by rw [hq]; simp
          have q2 : q ≤ 128 := by rw [hq]; exact Nat.mul_le_mul (show y ≤ 32 by omega) r2
          have Q := hidr hq
          clear hq
          go_wp2
          go_loop [17, 19] (fun f i => ∃ (x : Nat) (G : ByteArray), x ≤ W ∧ i = .int .i64 x ∧ f = .string G ∧ Hid (G.data.toList = Pm.rowsTo s.data.toList (a + 1) r W y ++ Pm.rowTo s.data.toList (a + 1 + q) x) ∧ G.size ≤ 32 * y + 2 * x ∧ Hid (x = 0 ∨ a + 1 + q + (x - 1) / 8 < s.size)) (fun _ i => W - (intOf i).toNat)
          case atStart => exact ⟨0, F, by omega, rfl, rfl, by show _ = _; simpa [Pm.rowTo] using hF.out, by omega, .inl rfl⟩
          case round =>
            obtain ⟨x, G, hx, rfl, rfl, hG, hGs, hZ2⟩ := hrel
            by_cases hxw : x < W
            · obtain ⟨k, hk⟩ : ∃ k, k = a + 1 + q + x / 8 := ⟨_, rfl⟩
              have ek : (a : Int) + 1 + (q : Int) + (x : Int) / 8 = (k : Nat) := by omega
              have K := hidr hk
              have kb : k ≤ 140737488365328 := by omega
              clear hk
              by_cases hks : k < s.size
              · obtain ⟨m, hm⟩ : ∃ m, m = x % 8 := ⟨_, rfl⟩
                have em : (x : Int) % 8 = (m : Nat) := by omega
                have m7 : m ≤ 7 := by omega
                have M := hidr hm
                clear hm
                go_wp2_with (first | (go_at_call 17; refine (at_in_i s _ k (by omega) hks _).mono ?_; rintro e w' ⟨rfl, rfl⟩))
                simp only [em, wrap64_byte]
                clear em
                obtain ⟨c, hc⟩ : ∃ c, c = s[k].toNat := ⟨_, rfl⟩
                have CB := hidr hc
                have cb : c ≤ 255 := by have := s[k].toNat_lt; omega
                clear hc
                go_loop [21, 22] (fun v i => ∃ (z u : Nat), m ≤ z ∧ z ≤ 7 ∧ i = .int .i64 z ∧ v = .int .i64 u ∧ u ≤ 255 ∧ Hid (u = c / 2 ^ (z - m))) (fun _ i => 8 - (intOf i).toNat)
                case atStart => exact ⟨m, c, by omega, by omega, rfl, by rw [CB.out], by omega, by show _ = _; simp⟩
                case round =>
                  obtain ⟨z, u, hz1, hz2, rfl, rfl, hu, hU⟩ := hrel
                  by_cases hz7 : z < 7
                  · have E := hidr (Pm.half_step c z m hz1)
                    go_wp2
                    go_round
                    case rel => exact ⟨z + 1, u / 2, by omega, by omega, by go_num, by go_num, by omega, by show _ = _; rw [hU.out, E.out]⟩
                    case measure => simp [intOf]; omega
                  · have UE := hidr (show u = s[k].toNat / 2 ^ (7 - x % 8) by rw [hU.out, ← M.out, ← CB.out, show z = 7 from by omega])
                    have D := hidr (Pm.pix_data s G _ (a + 1 + q) x k u hG.out hks K.out UE.out)
                    have LN := Pm.itoaL_len (u % 2)
                    go_wp2_with (first | (go_at_call 24; refine (itoa_i _ (u % 2) (by omega) (by omega) _).mono ?_; rintro e w' ⟨rfl, rfl⟩))
                    go_round
                    case rel => exact ⟨x + 1, _, by omega, by go_num, rfl, D, by simp only [ByteArray.size_append]; show G.size + (Pm.itoaL (u % 2)).length ≤ _; omega, .inr (by show _ < _; rw [show x + 1 - 1 = x from by omega, ← K.out]; exact hks)⟩
                    case measure => simp [intOf]; omega
              · go_wp2_with (first | (go_at_call 17; refine (at_out_i s _ k (by omega) hks _).mono ?_; rintro e w' ⟨rfl, rfl⟩))
                go_ret3
                refine ⟨⟨[], 2, s.size, rfl, s.size, .inr (.inl ⟨BL.out, ?_, rfl, by simp, rfl⟩), .inr ⟨by omega, rfl⟩⟩, rfl⟩
                have e1 := K.out
                have e2 := Q.out
                have e3 := R.out
                have m := Nat.mul_le_mul_right r (Nat.succ_le_of_lt hlt)
                rw [Nat.succ_mul, Nat.mul_comm H r] at m
                rw [← R.out]
                simp only [Array.length_toList]
                show s.size < _
                omega
            · have hxW : x = W := by omega
              have LAST := hidr (show a + 1 + (y + 1) * r ≤ s.size by
                have e2 := Q.out
                have e3 := R.out
                rw [Nat.succ_mul]
                rcases hZ2.out with h | h <;> omega)
              have DD := hidr (show G.data.toList = Pm.rowsTo s.data.toList (a + 1) r W (y + 1) by rw [Pm.rowsTo_succ, hG.out, Q.out, hxW])
              clear hxW
              have GL := Pm.rowsTo_length s.data.toList (a + 1) r W (y + 1)
              have GS := Pm.size_of_data G _ DD.out
              have GB : G.size ≤ 32 * (y + 1) := by rw [GS, GL, Nat.mul_comm]; exact Nat.mul_le_mul_right _ w2
              clear GL GS
              go_wp2
              go_round
              case rel => exact ⟨y + 1, G, by omega, by go_num, rfl, DD, GB, LAST⟩
              case measure => simp [intOf]; omega
        · go_wp2
          go_ret3
          have hyH : y = H := by omega
          refine ⟨⟨Pm.rowsTo s.data.toList (a + 1) r W H, 0, 0, ?_, _, .inr (.inr ⟨BL.out, ?_, by rw [← R.out], rfl, rfl⟩), .inl ⟨rfl, rfl⟩⟩, rfl⟩
          · rw [← hyH, ← Pm.of_data F _ hF.out]; rfl
          · have := hZ.out
            rw [← R.out, Nat.mul_comm r H, ← hyH]; simpa using this
  · go_enter Tryd.func21, Tryd.ntmps21
    go_wp2_with (first | (go_at_call 17; refine (at_out s a has _).mono ?_; rintro e w' ⟨rfl, rfl⟩) | (go_at_call 42; refine (blank_zero _).mono ?_; rintro e w' ⟨rfl, rfl⟩) | (go_at_call 18; refine (lacks_any s a ha _).mono ?_; rintro e w' ⟨rfl, rfl⟩))
    go_ret3
    exact ⟨⟨[], _, a, rfl, a, .inl ⟨fun c hc => (by rw [at_none s a has] at hc; cases hc), rfl, rfl, by simp⟩, .inr ⟨lackE_ne _ _, rfl⟩⟩, rfl⟩
end Go.Proofs.YtljfiefobnncaaaDoor
