/- readPacked. -/
import Derived.Test.YtljfiefobnncaaaDoorRd
import Derived.Test.YtljfiefobnncaaaDoorRg
namespace Go.Proofs.YtljfiefobnncaaaDoor
open Go.RowKit

theorem at_get (s : ByteArray) (k : Nat) (hk : k < s.size) : s.data.toList[k]? = some s[k] := by
  rw [List.getElem?_eq_getElem (by simpa using hk)]; rfl
theorem at_none (s : ByteArray) (k : Nat) (hk : ¬ k < s.size) : s.data.toList[k]? = none := by
  rw [List.getElem?_eq_none]; simpa using hk

set_option maxRecDepth 4000 in
set_option maxHeartbeats 1000000 in
theorem readPacked_any (s : ByteArray) (a W H : Nat) (ha : a ≤ s.size) (hs : s.size ≤ 140737488355328) (w1 : 1 ≤ W) (w2 : W ≤ 32) (h1 : 1 ≤ H) (h2 : H ≤ 32) (w : World) :
    Calls Tryd.prog 56 #[.string s, .int .i64 a, .int .i64 W, .int .i64 H] w fun e w' => (∃ (bits : List UInt8) (p : Nat) (r : Int), e = .returned (.tuple #[.string ⟨bits.toArray⟩, .int .i64 p, .int .i64 r]) ∧ Pm.packedOut s.data.toList a W H bits p r) ∧ Below w.heap.size w w' := by
  by_cases has : a < s.size
  · cases hb : Pm.blankB s[a]
    · go_enter Tryd.func56, Tryd.ntmps56
      go_wp2_with (first | (go_at_call 72; refine (isBlank_any s[a] _).mono ?_; rintro e w' ⟨rfl, rfl⟩; rw [hb]) | (go_at_call 68; refine (wrongAt_any s a _).mono ?_; rintro e w' ⟨rfl, rfl⟩))
      go_ret3
      exact ⟨⟨[], a, _, rfl, .inl ⟨fun c hc => by rw [at_get s a has] at hc; cases hc; exact hb, rfl, rfl, by simp⟩⟩, Below.refl _ _⟩
    · have BL := hidr (show ∃ c, s.data.toList[a]? = some c ∧ Pm.blankB c = true from ⟨_, at_get s a has, hb⟩)
      obtain ⟨r, hr⟩ : ∃ r, r = (W + 7) / 8 := ⟨_, rfl⟩
      have er : ((W : Int) + 7) / 8 = (r : Nat) := by omega
      have r1 : 1 ≤ r := by omega
      have r2 : r ≤ 4 := by omega
      have r3 : W ≤ 8 * r := by omega
      obtain ⟨t, ht⟩ : ∃ t, t = r * H := ⟨_, rfl⟩
      have et : (r : Int) * (H : Int) = (t : Nat) := by rw [ht]; simp
      have t2 : t ≤ 128 := by rw [ht]; exact Nat.mul_le_mul r2 h2
      have R := hidr hr
      have T := hidr ht
      clear hr ht
      by_cases hl : s.size < a + 1 + t
      · have hl2 : (s.size : Int) - ((a : Int) + 1) < (t : Int) := by omega
        go_enter Tryd.func56, Tryd.ntmps56
        go_wp2_with (first | (go_at_call 72; refine (isBlank_any s[a] _).mono ?_; rintro e w' ⟨rfl, rfl⟩; rw [hb]))
        go_ret3
        exact ⟨⟨[], s.size, _, rfl, .inr (.inl ⟨BL.out, by rw [← R.out, ← T.out]; simpa using hl, rfl, by simp, rfl⟩)⟩, Below.refl _ _⟩
      · have hl2 : decide ((s.size : Int) - ((a : Int) + 1) < (t : Int)) = false := decide_eq_false (by omega)
        have hl3 : decide (s.size ≤ a) = false := decide_eq_false (by omega)
        go_enter Tryd.func56, Tryd.ntmps56
        go_wp2_with (first | (go_at_call 72; refine (isBlank_any s[a] _).mono ?_; rintro e w' ⟨rfl, rfl⟩; rw [hb]))
        simp only [er]
        clear hl2 hl3 er et
        go_loopw [12, 1, 13] (fun f x i wr => ∃ (y p : Nat) (F : ByteArray), y ≤ H ∧ i = .int .i64 y ∧ x = .int .i64 p ∧ f = .string F ∧ Hid (p = a + 1 + y * r) ∧ Hid (F.data.toList = Pm.rowsTo s.data.toList (a + 1) r W y) ∧ F.size ≤ 32 * y ∧ Below w'.heap.size w' wr) (fun _ _ i _ => H - (intOf i).toNat)
        case atStart => exact ⟨0, a + 1, ⟨#[]⟩, by omega, rfl, by go_num, rfl, by show _ = _; omega, by show _ = _; simp [Pm.rowsTo], Nat.le_refl _, Below.refl _ _⟩
        case round =>
          obtain ⟨y, p, F, hy, rfl, rfl, rfl, hp, hF, hFs, hnx⟩ := hrel
          by_cases hlt : y < H
          · have sp : y * r + r ≤ t := by
              have := T.out
              have m := Nat.mul_le_mul_right r (Nat.succ_le_of_lt hlt)
              rw [Nat.succ_mul, Nat.mul_comm H r] at m
              omega
            have hp2 : p + r ≤ s.size := by have := hp.out; omega
            have he : (s.extract p (p + r)).size = r := by simp; omega
            have HE := hidr he
            have C := hidr (unpackRow_any (s.extract p (p + r)) W w1 w2 (by rw [he]; omega) (by rw [he]; omega))
            have RC := hidr (Pm.rowTo_cut s p (p + r) W (by omega))
            have RL := Pm.rowTo_length s.data.toList p W
            have RLL : (Pm.rowTo s.data.toList p W).length ≤ 32 := by omega
            clear he sp RL
            go_wp2_with fail
            refine (C.out _).mono ?_
            rintro e w3 ⟨rfl, hb3⟩
            rw [RC.out]
            have hnx2 := hnx.trans (hb3.mono hnx.size)
            clear hb3
            go_wp2
            go_roundw
            case rel =>
              refine ⟨y + 1, p + r, _, by omega, by go_num, by go_num, rfl, ?_, ?_, ?_, hnx2⟩
              · show _ = _
                have := hp.out
                rw [Nat.succ_mul]; omega
              · show _ = _
                rw [Pm.rowsTo_succ, ← hF.out, ← hp.out]; simp
              · simp only [ByteArray.size_append]
                show F.size + (Pm.rowTo s.data.toList p W).length ≤ _
                omega
            case measure => simp [intOf]; omega
          · go_wp2
            go_ret3
            have hyH : y = H := by omega
            refine ⟨⟨Pm.rowsTo s.data.toList (a + 1) r W H, p, 0, ?_, .inr (.inr ⟨BL.out, ?_, by rw [← R.out], ?_, rfl⟩)⟩, hnx⟩
            · rw [← hyH, ← Pm.of_data F _ hF.out]; rfl
            · rw [← R.out, ← T.out]; simp; omega
            · rw [← R.out, ← T.out, hp.out, hyH, T.out, Nat.mul_comm]
  · go_enter Tryd.func56, Tryd.ntmps56
    go_wp2_with (first | (go_at_call 68; refine (wrongAt_any s a _).mono ?_; rintro e w' ⟨rfl, rfl⟩))
    go_ret3
    exact ⟨⟨[], a, _, rfl, .inl ⟨fun c hc => (by rw [at_none s a has] at hc; cases hc), rfl, rfl, by simp⟩⟩, Below.refl _ _⟩
end Go.Proofs.YtljfiefobnncaaaDoor
