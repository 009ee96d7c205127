import Derived.Test.YtljfiefobnncaaaDoorK18
import Derived.Test.YtljfiefobnncaaaDoorK14
import Derived.Test.YtljfiefobnncaaaDoorK06

/- The numbers of a text: scan.Number, outlineref.Number. -/
namespace Go.Proofs.YtljfiefobnncaaaDoor
open Go.RowKit

theorem results_tmp4 {fn : Func} {t u v x : Tmp} (h : fn.results = #[.tmp t, .tmp u, .tmp v, .tmp x]) (tmps : Array Value) (P : Program) (w : World) :
    (results fn tmps).run P w = .ok (.tuple #[tmps.getD t undef, tmps.getD u undef, tmps.getD v undef, tmps.getD x undef]) w := by
  simp [results, h]

theorem ret_two {k1 k2 : IntKind} {a b c d : Int} (h1 : a = c) (h2 : b = d) : Ending.returned (.tuple #[.int k1 a, .int k2 b]) = .returned (.tuple #[.int k1 c, .int k2 d]) := by rw [h1, h2]

set_option maxRecDepth 4000 in
set_option maxHeartbeats 1000000 in
theorem number_any (s : ByteArray) (g : Nat) (hg : g ≤ s.size) (hs : s.size ≤ 140737488355328) (w : World) :
    Calls Tryd.prog 41 #[.string s, .int .i64 g, .int .i64 32] w fun e w' => e = .returned (.tuple #[.int .i64 (Pm.numV 0 (s.data.toList.drop g) : Nat), .int .i64 (g + Pm.numC (s.data.toList.drop g) : Nat)]) ∧ w' = w := by
  go_enter Tryd.func41, Tryd.ntmps41
  go_wp2
  go_loop [8, 1] (fun v i => ∃ n k : Nat, n ≤ 33 ∧ g ≤ k ∧ k ≤ s.size ∧ i = .int .i64 k ∧ v = .int .i64 n ∧ Hid (Pm.numV 0 (s.data.toList.drop g) = Pm.numV n (s.data.toList.drop k) ∧ g + Pm.numC (s.data.toList.drop g) = k + Pm.numC (s.data.toList.drop k))) (fun _ i => s.size - (intOf i).toNat)
  case atStart => exact ⟨0, g, by omega, Nat.le_refl _, hg, rfl, rfl, rfl, rfl⟩
  case round =>
    obtain ⟨n, k, hn, hgk, hk, rfl, rfl, E⟩ := hrel
    have fin : ∀ (hv : Pm.numV n (s.data.toList.drop k) = n) (hc : Pm.numC (s.data.toList.drop k) = 0), Pm.numV 0 (s.data.toList.drop g) = n ∧ g + Pm.numC (s.data.toList.drop g) = k := fun hv hc => ⟨by rw [E.out.1, hv], by rw [E.out.2, hc]; omega⟩
    have FIN := hidr fin
    clear fin
    by_cases hlt : k < s.size
    · cases hd : Pm.digitB s[k]
      · have F := hidr (FIN.out (by rw [Pm.numV_step s k hlt, if_neg (by simp [hd])]) (by rw [Pm.numC_step s k hlt, if_neg (by simp [hd])]))
        go_wp2_with (go_at_call 58; refine (digit_any s[k] _).mono ?_; rintro e w' ⟨rfl, rfl⟩; rw [hd])
        go_ret2
        exact ⟨ret_two (by have := F.out.1; omega) (by have := F.out.2; omega), rfl⟩
      · have db := Pm.digit_bounds hd
        have C := hidr (Pm.numC_step s k hlt)
        by_cases big : 32 < 10 * (n : Int) + (s[k].toNat : Int) - 48
        · have V := hidr (Pm.numV_on s k hlt n 33 hd (by omega))
          go_wp2_with (go_at_call 58; refine (digit_any s[k] _).mono ?_; rintro e w' ⟨rfl, rfl⟩; rw [hd])
          go_round
          case rel => exact ⟨33, k + 1, by omega, by omega, by omega, by go_num, rfl, by rw [E.out.1, V.out], by rw [E.out.2, C.out, if_pos hd]; omega⟩
          case measure => simp [intOf]; omega
        · have V := hidr (Pm.numV_on s k hlt n (10 * n + (s[k].toNat - 48)) hd (by omega))
          go_wp2_with (go_at_call 58; refine (digit_any s[k] _).mono ?_; rintro e w' ⟨rfl, rfl⟩; rw [hd])
          go_round
          case rel => exact ⟨10 * n + (s[k].toNat - 48), k + 1, by omega, by omega, by omega, by go_num, by go_num, by rw [E.out.1, V.out], by rw [E.out.2, C.out, if_pos hd]; omega⟩
          case measure => simp [intOf]; omega
    · have F := hidr (FIN.out (Pm.numV_end s k (by omega) n) (Pm.numC_end s k (by omega)))
      go_wp2
      go_ret2
      exact ⟨ret_two (by have := F.out.1; omega) (by have := F.out.2; omega), rfl⟩

set_option maxRecDepth 4000 in
set_option maxHeartbeats 1000000 in
theorem scanNumber_any (s : ByteArray) (g : Nat) (hg : g ≤ s.size) (hs : s.size ≤ 140737488355328) (w : World) :
    Calls Tryd.prog 83 #[.string s, .int .i64 g] w fun e w' => e = .returned (.tuple #[.int .i64 (Pm.numV 0 (s.data.toList.drop g) : Nat), .int .i64 (g + Pm.numC (s.data.toList.drop g) : Nat)]) ∧ w' = w := by
  go_enter Tryd.func83, Tryd.ntmps83
  go_wp2
  go_loop [6, 7] (fun v i => ∃ n k : Nat, n ≤ 33 ∧ g ≤ k ∧ k ≤ s.size ∧ i = .int .i64 k ∧ v = .int .i64 n ∧ Hid (Pm.numV 0 (s.data.toList.drop g) = Pm.numV n (s.data.toList.drop k) ∧ g + Pm.numC (s.data.toList.drop g) = k + Pm.numC (s.data.toList.drop k))) (fun _ i => s.size - (intOf i).toNat)
  case atStart => exact ⟨0, g, by omega, Nat.le_refl _, hg, rfl, rfl, rfl, rfl⟩
  case round =>
    obtain ⟨n, k, hn, hgk, hk, rfl, rfl, E⟩ := hrel
    have fin : ∀ (hv : Pm.numV n (s.data.toList.drop k) = n) (hc : Pm.numC (s.data.toList.drop k) = 0), Pm.numV 0 (s.data.toList.drop g) = n ∧ g + Pm.numC (s.data.toList.drop g) = k := fun hv hc => ⟨by rw [E.out.1, hv], by rw [E.out.2, hc]; omega⟩
    have FIN := hidr fin
    clear fin
    by_cases hlt : k < s.size
    · cases hd : Pm.digitB s[k]
      · have F := hidr (FIN.out (by rw [Pm.numV_step s k hlt, if_neg (by simp [hd])]) (by rw [Pm.numC_step s k hlt, if_neg (by simp [hd])]))
        go_wp2_with (go_at_call 90; refine (isDigit_any s[k] _).mono ?_; rintro e w' ⟨rfl, rfl⟩; rw [hd])
        go_ret2
        exact ⟨ret_two (by have := F.out.1; omega) (by have := F.out.2; omega), rfl⟩
      · have db := Pm.digit_bounds hd
        have C := hidr (Pm.numC_step s k hlt)
        by_cases big : 32 < 10 * (n : Int) + (s[k].toNat : Int) - 48
        · have V := hidr (Pm.numV_on s k hlt n 33 hd (by omega))
          have big2 : 32 < (n : Int) * 10 + ((s[k].toNat : Int) - 48) := by omega
          go_wp2_with (go_at_call 90; refine (isDigit_any s[k] _).mono ?_; rintro e w' ⟨rfl, rfl⟩; rw [hd])
          go_round
          case rel => exact ⟨33, k + 1, by omega, by omega, by omega, by go_num, rfl, by rw [E.out.1, V.out], by rw [E.out.2, C.out, if_pos hd]; omega⟩
          case measure => simp [intOf]; omega
        · have V := hidr (Pm.numV_on s k hlt n (10 * n + (s[k].toNat - 48)) hd (by omega))
          have big2 : ¬ 32 < (n : Int) * 10 + ((s[k].toNat : Int) - 48) := by omega
          go_wp2_with (go_at_call 90; refine (isDigit_any s[k] _).mono ?_; rintro e w' ⟨rfl, rfl⟩; rw [hd])
          go_round
          case rel => exact ⟨10 * n + (s[k].toNat - 48), k + 1, by omega, by omega, by omega, by go_num, by go_num, by rw [E.out.1, V.out], by rw [E.out.2, C.out, if_pos hd]; omega⟩
          case measure => simp [intOf]; omega
    · have F := hidr (FIN.out (Pm.numV_end s k (by omega) n) (Pm.numC_end s k (by omega)))
      go_wp2
      go_ret2
      exact ⟨ret_two (by have := F.out.1; omega) (by have := F.out.2; omega), rfl⟩

end Go.Proofs.YtljfiefobnncaaaDoor

/- Reading paths: what stands at a place, blanks, coordinates. -/
namespace Go.Proofs.YtljfiefobnncaaaDoor
open Go.RowKit

theorem at_some (s : ByteArray) (k : Nat) (h : k < s.size) : s.data.toList[k]? = some s[k] := by
  rw [List.getElem?_eq_getElem (by simpa using h)]; rfl
theorem atY_none (s : ByteArray) (k : Nat) (h : ¬ k < s.size) : s.data.toList[k]? = none := by
  rw [List.getElem?_eq_none (by simpa using h)]
/-- Does c stand at k? -/
def isAtB (l : List UInt8) (k c : Nat) : Bool := match l[k]? with | some b => ((b.toNat : Int) == (c : Int)) | none => false
theorem isAtB_in (s : ByteArray) (k c : Nat) (h : k < s.size) : isAtB s.data.toList k c = ((s[k].toNat : Int) == (c : Int)) := by unfold isAtB; rw [at_some s k h]
theorem isAtB_out (s : ByteArray) (k c : Nat) (h : ¬ k < s.size) : isAtB s.data.toList k c = false := by unfold isAtB; rw [atY_none s k h]

set_option maxRecDepth 4000 in
set_option maxHeartbeats 400000 in
theorem isAt_any (s : ByteArray) (k c : Nat) (hk : k ≤ 140737488355328) (w : World) :
    Calls Tryd.prog 81 #[.string s, .int .i64 k, .int .u8 c] w fun e w' => e = .returned (.bool (isAtB s.data.toList k c)) ∧ w' = w := by
  have k0' : (0 : Int) ≤ (k : Nat) := by omega
  by_cases h : k < s.size
  · have E := hid (isAtB_in s k c h)
    go_enter Tryd.func81, Tryd.ntmps81
    go_wp2
    go_ret
    exact ⟨ret_bool E.out.symm, rfl⟩
  · have E := hid (isAtB_out s k c h)
    have h' : ((s.size : Nat) : Int) ≤ (k : Nat) := by omega
    go_enter Tryd.func81, Tryd.ntmps81
    go_wp2
    go_ret
    exact ⟨ret_bool E.out.symm, rfl⟩
/-- Does a blank stand at k? -/
def blAt (l : List UInt8) (k : Nat) : Bool := isAtB l k 32 || isAtB l k 10
theorem blAt_in (s : ByteArray) (k : Nat) (h : k < s.size) : blAt s.data.toList k = Pm.blB s[k] := by
  unfold blAt; rw [isAtB_in s k 32 h, isAtB_in s k 10 h, Pm.blB_eq]; rfl
theorem blAt_out (s : ByteArray) (k : Nat) (h : ¬ k < s.size) : blAt s.data.toList k = false := by
  unfold blAt; rw [isAtB_out s k 32 h, isAtB_out s k 10 h]; rfl
theorem blAt_blN (s : ByteArray) (k : Nat) : blAt s.data.toList k = decide (Pm.blN (s.data.toList.drop k) ≠ 0) := by
  by_cases h : k < s.size
  · rw [blAt_in s k h, Pm.blN_step s k h]
    cases e : Pm.blB s[k] <;> simp
  · rw [blAt_out s k h, Pm.blN_end s k (by omega)]; rfl
set_option maxRecDepth 4000 in
set_option maxHeartbeats 400000 in
theorem pIsBlank_any (s : ByteArray) (k : Nat) (hk : k ≤ 140737488355328) (w : World) :
    Calls Tryd.prog 80 #[.string s, .int .i64 k] w fun e w' => e = .returned (.bool (blAt s.data.toList k)) ∧ w' = w := by
  have A1 := hid (fun W => isAt_any s k 32 hk W)
  have A2 := hid (fun W => isAt_any s k 10 hk W)
  have E : Hid (blAt s.data.toList k = (isAtB s.data.toList k 32 || isAtB s.data.toList k 10)) := rfl
  obtain ⟨b2, hb2⟩ : ∃ b, b = isAtB s.data.toList k 10 := ⟨_, rfl⟩
  rw [← hb2] at A2 E
  cases h1 : isAtB s.data.toList k 32
  · rw [h1] at A1 E
    clear h1 hb2
    go_enter Tryd.func80, Tryd.ntmps80
    go_wp2_with fail
    refine (A1.out _).mono ?_
    rintro e w1 ⟨rfl, rfl⟩
    go_wp2_with fail
    refine (A2.out _).mono ?_
    rintro e w2 ⟨rfl, rfl⟩
    go_wp2
    go_ret
    exact ⟨ret_bool (by rw [E.out]; rfl), rfl⟩
  · rw [h1] at A1 E
    clear h1 hb2
    go_enter Tryd.func80, Tryd.ntmps80
    go_wp2_with fail
    refine (A1.out _).mono ?_
    rintro e w1 ⟨rfl, rfl⟩
    go_wp2
    go_ret
    exact ⟨ret_bool (by rw [E.out]; rfl), rfl⟩

set_option maxRecDepth 4000 in
set_option maxHeartbeats 400000 in
theorem pSkip_any (s : ByteArray) (a : Nat) (ha : a ≤ s.size) (hs : s.size ≤ 140737488355328) (w : World) :
    Calls Tryd.prog 64 #[.string s, .int .i64 a] w fun e w' => e = .returned (.int .i64 (Pm.skp s.data.toList a : Nat)) ∧ w' = w := by
  go_enter Tryd.func64, Tryd.ntmps64
  go_wp2_with fail
  go_loop [1] (fun i => ∃ k : Nat, k ≤ s.size ∧ i = .int .i64 k ∧ Hid (Pm.skp s.data.toList a = k + Pm.blN (s.data.toList.drop k))) (fun i => s.size - (intOf i).toNat)
  case atStart => exact ⟨a, ha, rfl, rfl⟩
  case round =>
    obtain ⟨k, hk, rfl, E⟩ := hrel
    have C := hid (fun W => pIsBlank_any s k (by omega) W)
    by_cases hlt : k < s.size
    · have B := hid (blAt_in s k hlt)
      have S := hid (Pm.blN_step s k hlt)
      cases hb : Pm.blB s[k]
      · have F := hid (show Pm.skp s.data.toList a = k by rw [E.out, S.out, hb]; rfl)
        rw [B.out, hb] at C
        clear hb S B
        go_wp2_with fail
        refine (C.out _).mono ?_
        rintro e w1 ⟨rfl, rfl⟩
        go_wp2
        go_ret
        exact ⟨ret_int (by rw [F.out]), rfl⟩
      · have F := hid (show Pm.skp s.data.toList a = k + 1 + Pm.blN (s.data.toList.drop (k + 1)) by rw [E.out, S.out, hb, if_pos rfl]; omega)
        rw [B.out, hb] at C
        clear hb S B
        go_wp2_with fail
        refine (C.out _).mono ?_
        rintro e w1 ⟨rfl, rfl⟩
        go_wp2
        go_round
        case rel => exact ⟨k + 1, by omega, by go_num, F⟩
        case measure => simp [intOf]; omega
    · have B := hid (blAt_out s k hlt)
      have F := hid (show Pm.skp s.data.toList a = k by rw [E.out, Pm.blN_end s k (by omega)]; rfl)
      rw [B.out] at C
      clear B
      go_wp2_with fail
      refine (C.out _).mono ?_
      rintro e w1 ⟨rfl, rfl⟩
      go_wp2
      go_ret
      exact ⟨ret_int (by rw [F.out]), rfl⟩

set_option maxRecDepth 4000 in
set_option maxHeartbeats 400000 in
theorem refSkip_any (s : ByteArray) (a : Nat) (ha : a ≤ s.size) (hs : s.size ≤ 140737488355328) (w : World) :
    Calls Tryd.prog 49 #[.string s, .int .i64 a] w fun e w' => e = .returned (.int .i64 (Pm.skp s.data.toList a : Nat)) ∧ w' = w := by
  go_enter Tryd.func49, Tryd.ntmps49
  go_wp2_with fail
  go_loop [1] (fun i => ∃ k : Nat, k ≤ s.size ∧ i = .int .i64 k ∧ Hid (Pm.skp s.data.toList a = k + Pm.blN (s.data.toList.drop k))) (fun i => s.size - (intOf i).toNat)
  case atStart => exact ⟨a, ha, rfl, rfl⟩
  case round =>
    obtain ⟨k, hk, rfl, E⟩ := hrel
    by_cases hlt : k < s.size
    · have B := hid (Pm.blB_eq s[k])
      have S := hid (Pm.blN_step s k hlt)
      cases q1 : ((s[k].toNat : Int) == 32)
      · cases q2 : ((s[k].toNat : Int) == 10)
        · have F := hid (show Pm.skp s.data.toList a = k by rw [E.out, S.out, B.out, q1, q2]; rfl)
          clear S B
          go_wp2
          go_ret
          exact ⟨ret_int (by rw [F.out]), rfl⟩
        · have F := hid (show Pm.skp s.data.toList a = k + 1 + Pm.blN (s.data.toList.drop (k + 1)) by rw [E.out, S.out, B.out, q1, q2, if_pos (by rfl)]; omega)
          clear S B
          go_wp2
          go_round
          case rel => exact ⟨k + 1, by omega, by go_num, F⟩
          case measure => simp [intOf]; omega
      · have F := hid (show Pm.skp s.data.toList a = k + 1 + Pm.blN (s.data.toList.drop (k + 1)) by rw [E.out, S.out, B.out, q1, if_pos (by rfl)]; omega)
        clear S B
        go_wp2
        go_round
        case rel => exact ⟨k + 1, by omega, by go_num, F⟩
        case measure => simp [intOf]; omega
    · have F := hid (show Pm.skp s.data.toList a = k by rw [E.out, Pm.blN_end s k (by omega)]; rfl)
      go_wp2
      go_ret
      exact ⟨ret_int (by rw [F.out]), rfl⟩

end Go.Proofs.YtljfiefobnncaaaDoor
