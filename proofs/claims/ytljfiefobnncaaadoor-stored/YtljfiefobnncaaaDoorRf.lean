/- The document's own plain. -/
import Derived.Test.YtljfiefobnncaaaDoorRd
import Derived.Test.YtljfiefobnncaaaDoorPs
namespace Go.Proofs.YtljfiefobnncaaaDoor
open Go.RowKit

set_option maxRecDepth 4000 in
set_option maxHeartbeats 400000 in
theorem blank_zero (w : World) :
    Calls Tryd.prog 42 #[.int .u8 0] w fun e w' => e = .returned (.bool false) ∧ w' = w := blank_any 0 w

/-- What the document's own 'plain' and 'packed' answer: as the code does; the place is 0 where all is well. -/
def bitsRef (out : List UInt8 → Nat → Int → Prop) (bits : List UInt8) (e : Int) (q : Nat) : Prop :=
  ∃ p, out bits p e ∧ ((e = 0 ∧ q = 0) ∨ (e ≠ 0 ∧ q = p))

set_option maxRecDepth 4000 in
set_option maxHeartbeats 1000000 in
theorem plain_any (s : ByteArray) (a n : Nat) (ha : a ≤ s.size) (hs : s.size ≤ 140737488355328) (h1 : 1 ≤ n) (hn : n ≤ 1024) (w : World) :
    Calls Tryd.prog 20 #[.string s, .int .i64 a, .int .i64 n] w fun e w' => (∃ (bits : List UInt8) (r : Int) (q : Nat), e = .returned (.tuple #[.string ⟨bits.toArray⟩, .int .i64 r, .int .i64 q]) ∧ bitsRef (Pm.plainOut s.data.toList a n) bits r q) ∧ w' = w := by
  go_enter Tryd.func20, Tryd.ntmps20
  go_wp2
  go_loop [9, 1] (fun v x => ∃ (F : ByteArray) (B : List UInt8) (k : Nat), v = .string F ∧ x = .int .i64 k ∧ k ≤ s.size ∧ F.size ≤ n ∧ Hid (F.data.toList = B) ∧ Hid (Pm.PlainAt s.data.toList a n B k)) (fun _ x => s.size + 1 - (intOf x).toNat)
  case atStart => exact ⟨⟨#[]⟩, [], a, rfl, rfl, ha, Nat.zero_le _, rfl, Pm.PlainAt.start _ _ _ (by simpa using ha)⟩
  case round =>
    obtain ⟨F, B, k, rfl, rfl, hk, hF, hFB, hP⟩ := hrel
    have SZ := hidr (Pm.size_of_data F B hFB.out)
    by_cases hlt : F.size < n
    · by_cases hks : k < s.size
      · cases hb : Pm.blankB s[k]
        · by_cases q0 : (s[k].toNat : Int) = 48
          · have b0 : ((s[k].toNat : Int) == 48) = true := beq_iff_eq.2 q0
            have Q0 := hidr q0
            clear q0
            go_wp2_with (first | (go_at_call 17; refine (at_in s k hks _).mono ?_; rintro e w' ⟨rfl, rfl⟩) | (go_at_call 42; refine (blank_any s[k] _).mono ?_; rintro e w' ⟨rfl, rfl⟩; rw [hb]))
            go_round
            case rel => exact ⟨_, B ++ [s[k]], k + 1, rfl, by go_num, by omega, by simp; omega, Pm.one_cut F s B k hks hFB.out, hP.out.pix hks hb (Pm.okPix_of _ (.inl Q0.out)) (by have := SZ.out; omega)⟩
            case measure => simp [intOf]; omega
          · by_cases q1 : (s[k].toNat : Int) = 49
            · have b0 : ((s[k].toNat : Int) == 48) = false := beq_eq_false_iff_ne.2 q0
              have b1 : ((s[k].toNat : Int) == 49) = true := beq_iff_eq.2 q1
              have Q1 := hidr q1
              clear q1
              go_wp2_with (first | (go_at_call 17; refine (at_in s k hks _).mono ?_; rintro e w' ⟨rfl, rfl⟩) | (go_at_call 42; refine (blank_any s[k] _).mono ?_; rintro e w' ⟨rfl, rfl⟩; rw [hb]))
              go_round
              case rel => exact ⟨_, B ++ [s[k]], k + 1, rfl, by go_num, by omega, by simp; omega, Pm.one_cut F s B k hks hFB.out, hP.out.pix hks hb (Pm.okPix_of _ (.inr Q1.out)) (by have := SZ.out; omega)⟩
              case measure => simp [intOf]; omega
            · have b0 : ((s[k].toNat : Int) == 48) = false := beq_eq_false_iff_ne.2 q0
              have b1 : ((s[k].toNat : Int) == 49) = false := beq_eq_false_iff_ne.2 q1
              go_wp2_with (first | (go_at_call 17; refine (at_in s k hks _).mono ?_; rintro e w' ⟨rfl, rfl⟩) | (go_at_call 42; refine (blank_any s[k] _).mono ?_; rintro e w' ⟨rfl, rfl⟩; rw [hb]) | (go_at_call 18; refine (lacks_any s k hk _).mono ?_; rintro e w' ⟨rfl, rfl⟩))
              go_ret3
              exact ⟨⟨[], _, k, rfl, k, hP.out.out_no (by have := SZ.out; omega) (fun _ => ⟨hb, Pm.okPix_not _ q0 q1⟩), .inr ⟨lackE_ne _ _, rfl⟩⟩, rfl⟩
        · go_wp2_with (first | (go_at_call 17; refine (at_in s k hks _).mono ?_; rintro e w' ⟨rfl, rfl⟩) | (go_at_call 42; refine (blank_any s[k] _).mono ?_; rintro e w' ⟨rfl, rfl⟩; rw [hb]))
          go_round
          case rel => exact ⟨F, B, k + 1, rfl, by go_num, by omega, hF, hFB, hP.out.blank hks hb (by have := SZ.out; omega)⟩
          case measure => simp [intOf]; omega
      · go_wp2_with (first | (go_at_call 17; refine (at_out s k hks _).mono ?_; rintro e w' ⟨rfl, rfl⟩) | (go_at_call 42; refine (blank_zero _).mono ?_; rintro e w' ⟨rfl, rfl⟩) | (go_at_call 18; refine (lacks_any s k hk _).mono ?_; rintro e w' ⟨rfl, rfl⟩))
        go_ret3
        exact ⟨⟨[], _, k, rfl, k, hP.out.out_no (by have := SZ.out; omega) (fun h => absurd h hks), .inr ⟨lackE_ne _ _, rfl⟩⟩, rfl⟩
    · go_wp2
      go_ret3
      exact ⟨⟨B, 0, 0, by rw [← Pm.of_data F B hFB.out]; rfl, k, hP.out.out_yes (by have := SZ.out; omega), .inl ⟨rfl, rfl⟩⟩, rfl⟩
end Go.Proofs.YtljfiefobnncaaaDoor
