/- The numbers of a text: scan.Number, outlineref.Number. -/
import Derived.Test.YtljfiefobnncaaaDoorRa
namespace Go.Proofs.YtljfiefobnncaaaDoor
open Go.RowKit

theorem results_tmp4 {fn : Func} {t u v x : Tmp} (h : fn.results = #[.tmp t, .tmp u, .tmp v, .tmp x]) (tmps : Array Value) (P : Program) (w : World) :
    (results fn tmps).run P w = .ok (.tuple #[tmps.getD t undef, tmps.getD u undef, tmps.getD v undef, tmps.getD x undef]) w := by
  simp [results, h]

theorem ret_two {k1 k2 : IntKind} {a b c d : Int} (h1 : a = c) (h2 : b = d) : Ending.returned (.tuple #[.int k1 a, .int k2 b]) = .returned (.tuple #[.int k1 c, .int k2 d]) := by rw [h1, h2]

set_option maxRecDepth 4000 in
set_option maxHeartbeats 1000000 in
theorem number_any (s : ByteArray) (g : Nat) (hg : g ≤ s.size) (hs : s.size ≤ 140737488355328) (w : World) :
    Calls Tryd.prog 41 #[.string s, .int .i64 g, .int .i64 32] w fun e w' => e = .returned (.tuple #[.int .i64 (Pm.numV 0 (s.data.toList.drop g) : Nat), .int .i64 (g + Pm.numC (s.data.toList.drop g) : Nat)]) ∧ w' = w := by
  go_enter Tryd.func41, Tryd.ntmps41
  go_wp2
  go_loop [8, 1] (fun v i => ∃ n k : Nat, n ≤ 33 ∧ g ≤ k ∧ k ≤ s.size ∧ i = .int .i64 k ∧ v = .int .i64 n ∧ Hid (Pm.numV 0 (s.data.toList.drop g) = Pm.numV n (s.data.toList.drop k) ∧ g + Pm.numC (s.data.toList.drop g) = k + Pm.numC (s.data.toList.drop k))) (fun _ i => s.size - (intOf i).toNat)
  case atStart => exact ⟨0, g, by omega, Nat.le_refl _, hg, rfl, rfl, rfl, rfl⟩
  case round =>
    obtain ⟨n, k, hn, hgk, hk, rfl, rfl, E⟩ := hrel
    have fin : ∀ (hv : Pm.numV n (s.data.toList.drop k) = n) (hc : Pm.numC (s.data.toList.drop k) = 0), Pm.numV 0 (s.data.toList.drop g) = n ∧ g + Pm.numC (s.data.toList.drop g) = k := fun hv hc => ⟨by rw [E.out.1, hv], by rw [E.out.2, hc]; omega⟩
    have FIN := hidr fin
    clear fin
    by_cases hlt : k < s.size
    · cases hd : Pm.digitB s[k]
      · have F := hidr (FIN.out (by rw [Pm.numV_step s k hlt, if_neg (by simp [hd])]) (by rw [Pm.numC_step s k hlt, if_neg (by simp [hd])]))
        go_wp2_with (go_at_call 58; refine (digit_any s[k] _).mono ?_; rintro e w' ⟨rfl, rfl⟩; rw [hd])
        go_ret2
        exact ⟨ret_two (by have := F.out.1; omega) (by have := F.out.2; omega), rfl⟩
      · have db := Pm.digit_bounds hd
        have C := hidr (Pm.numC_step s k hlt)
        by_cases big : 32 < 10 * (n : Int) + (s[k].toNat : Int) - 48
        · have V := hidr (Pm.numV_on s k hlt n 33 hd (by omega))
          go_wp2_with (go_at_call 58; refine (digit_any s[k] _).mono ?_; rintro e w' ⟨rfl, rfl⟩; rw [hd])
          go_round
          case rel => exact ⟨33, k + 1, by omega, by omega, by omega, by go_num, rfl, by rw [E.out.1, V.out], by rw [E.out.2, C.out, if_pos hd]; omega⟩
          case measure => simp [intOf]; omega
        · have V := hidr (Pm.numV_on s k hlt n (10 * n + (s[k].toNat - 48)) hd (by omega))
          go_wp2_with (go_at_call 58; refine (digit_any s[k] _).mono ?_; rintro e w' ⟨rfl, rfl⟩; rw [hd])
          go_round
          case rel => exact ⟨10 * n + (s[k].toNat - 48), k + 1, by omega, by omega, by omega, by go_num, by go_num, by rw [E.out.1, V.out], by rw [E.out.2, C.out, if_pos hd]; omega⟩
          case measure => simp [intOf]; omega
    · have F := hidr (FIN.out (Pm.numV_end s k (by omega) n) (Pm.numC_end s k (by omega)))
      go_wp2
      go_ret2
      exact ⟨ret_two (by have := F.out.1; omega) (by have := F.out.2; omega), rfl⟩

set_option maxRecDepth 4000 in
set_option maxHeartbeats 1000000 in
theorem scanNumber_any (s : ByteArray) (g : Nat) (hg : g ≤ s.size) (hs : s.size ≤ 140737488355328) (w : World) :
    Calls Tryd.prog 83 #[.string s, .int .i64 g] w fun e w' => e = .returned (.tuple #[.int .i64 (Pm.numV 0 (s.data.toList.drop g) : Nat), .int .i64 (g + Pm.numC (s.data.toList.drop g) : Nat)]) ∧ w' = w := by
  go_enter Tryd.func83, Tryd.ntmps83
  go_wp2
  go_loop [6, 7] (fun v i => ∃ n k : Nat, n ≤ 33 ∧ g ≤ k ∧ k ≤ s.size ∧ i = .int .i64 k ∧ v = .int .i64 n ∧ Hid (Pm.numV 0 (s.data.toList.drop g) = Pm.numV n (s.data.toList.drop k) ∧ g + Pm.numC (s.data.toList.drop g) = k + Pm.numC (s.data.toList.drop k))) (fun _ i => s.size - (intOf i).toNat)
  case atStart => exact ⟨0, g, by omega, Nat.le_refl _, hg, rfl, rfl, rfl, rfl⟩
  case round =>
    obtain ⟨n, k, hn, hgk, hk, rfl, rfl, E⟩ := hrel
    have fin : ∀ (hv : Pm.numV n (s.data.toList.drop k) = n) (hc : Pm.numC (s.data.toList.drop k) = 0), Pm.numV 0 (s.data.toList.drop g) = n ∧ g + Pm.numC (s.data.toList.drop g) = k := fun hv hc => ⟨by rw [E.out.1, hv], by rw [E.out.2, hc]; omega⟩
    have FIN := hidr fin
    clear fin
    by_cases hlt : k < s.size
    · cases hd : Pm.digitB s[k]
      · have F := hidr (FIN.out (by rw [Pm.numV_step s k hlt, if_neg (by simp [hd])]) (by rw [Pm.numC_step s k hlt, if_neg (by simp [hd])]))
        go_wp2_with (go_at_call 90; refine (isDigit_any s[k] _).mono ?_; rintro e w' ⟨rfl, rfl⟩; rw [hd])
        go_ret2
        exact ⟨ret_two (by have := F.out.1; omega) (by have := F.out.2; omega), rfl⟩
      · have db := Pm.digit_bounds hd
        have C := hidr (Pm.numC_step s k hlt)
        by_cases big : 32 < 10 * (n : Int) + (s[k].toNat : Int) - 48
        · have V := hidr (Pm.numV_on s k hlt n 33 hd (by omega))
          have big2 : 32 < (n : Int) * 10 + ((s[k].toNat : Int) - 48) := by omega
          go_wp2_with (go_at_call 90; refine (isDigit_any s[k] _).mono ?_; rintro e w' ⟨rfl, rfl⟩; rw [hd])
          go_round
          case rel => exact ⟨33, k + 1, by omega, by omega, by omega, by go_num, rfl, by rw [E.out.1, V.out], by rw [E.out.2, C.out, if_pos hd]; omega⟩
          case measure => simp [intOf]; omega
        · have V := hidr (Pm.numV_on s k hlt n (10 * n + (s[k].toNat - 48)) hd (by omega))
          have big2 : ¬ 32 < (n : Int) * 10 + ((s[k].toNat : Int) - 48) := by omega
          go_wp2_with (go_at_call 90; refine (isDigit_any s[k] _).mono ?_; rintro e w' ⟨rfl, rfl⟩; rw [hd])
          go_round
          case rel => exact ⟨10 * n + (s[k].toNat - 48), k + 1, by omega, by omega, by omega, by go_num, by go_num, by rw [E.out.1, V.out], by rw [E.out.2, C.out, if_pos hd]; omega⟩
          case measure => simp [intOf]; omega
    · have F := hidr (FIN.out (Pm.numV_end s k (by omega) n) (Pm.numC_end s k (by omega)))
      go_wp2
      go_ret2
      exact ⟨ret_two (by have := F.out.1; omega) (by have := F.out.2; omega), rfl⟩

end Go.Proofs.YtljfiefobnncaaaDoor
