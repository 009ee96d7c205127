/- readPlain, plain. -/
import Derived.Test.YtljfiefobnncaaaDoorRd
import Derived.Test.YtljfiefobnncaaaDoorWc
import Derived.Test.YtljfiefobnncaaaDoorPs
namespace Go.Proofs.YtljfiefobnncaaaDoor
open Go.RowKit

set_option maxRecDepth 4000 in
set_option maxHeartbeats 1000000 in
theorem readPlain_any (s : ByteArray) (a n : Nat) (ha : a ≤ s.size) (hs : s.size ≤ 140737488355328) (h1 : 1 ≤ n) (hn : n ≤ 1024) (w : World) :
    Calls Tryd.prog 55 #[.string s, .int .i64 a, .int .i64 n] w fun e w' => (∃ (bits : List UInt8) (p : Nat) (r : Int), e = .returned (.tuple #[.string ⟨bits.toArray⟩, .int .i64 p, .int .i64 r]) ∧ Pm.plainOut s.data.toList a n bits p r) ∧ Below w.heap.size w w' := by
  obtain ⟨i0, hi, hz0, hz1, hz2⟩ := info_parts infoByte
  go_enter Tryd.func55, Tryd.ntmps55
  go_wp2
  go_loopw [9, 10, 1] (fun v i x wr => ∃ (B : List UInt8) (k : Nat), i = .int .i64 B.length ∧ x = .int .i64 k ∧ k ≤ s.size ∧ B.length ≤ n ∧ Hid (Pm.PlainAt s.data.toList a n B k) ∧ wr.ownsRow w.heap.size 5 1 v B.length (cellsOf B) ∧ Below w.heap.size w wr) (fun _ i _ _ => n - (intOf i).toNat)
  case atStart => exact ⟨[], a, rfl, rfl, ha, by simp, Pm.PlainAt.start _ _ _ (by simpa using ha), World.ownsRow_nil _ _ _ _, Below.refl _ _⟩
  case round =>
    obtain ⟨B, k, rfl, rfl, hk, hB, hP, hown, hnx⟩ := hrel
    have hsz := hnx.size
    by_cases hlt : B.length < n
    · obtain ⟨j, hj⟩ : ∃ j, j = k + Pm.blanks (s.data.toList.drop k) := ⟨_, rfl⟩
      have hjs : j ≤ s.size := by
        have := Pm.blanks_le (s.data.toList.drop k)
        rw [List.length_drop] at this
        have e : s.data.toList.length = s.size := by simp
        omega
      have P2 := hidr (hP.out.skip hlt _ k rfl |> (hj ▸ ·))
      have NB : Hid (∀ h : j < s.size, Pm.blankB s[j] = false) := by subst hj; exact Pm.blanks_stop s _ k rfl
      have c := skipBlanks_any s k hk hs
      rw [← hj] at c
      have C := hidr c
      clear c hj hP
      by_cases hj2 : j < s.size
      · by_cases q0 : (s[j].toNat : Int) = 48
        · have b0 : ((s[j].toNat : Int) != 48) = false := by simp [q0]
          have Q0 := hidr q0
          clear q0
          go_wp2_with (first
            | (go_at_call 71; refine (C.out _).mono ?_; rintro e w' ⟨rfl, rfl⟩)
            | (at_builtin; refine wpList_append_own _ rfl _ _ 55 rfl w.heap.size 5 i0 (.int .u8 0) 1 1 Tryd.underlying55 hi hz0 hz1 hz2 rfl (by decide) _ _ _ rfl (hown.alloc _) ⟨_, 0, none⟩ 1 1 [.int .u8 s[j].toNat] rfl rfl ?c1 ?c2 ?c3 ?c4 ?c5 ?_))
          case c1 =>
            intro j' u hj'
            match j', hj' with
            | 0, hj' => simp at hj'; subst hj'; simp [Addr.add]
          case c2 => intro u hu; simp at hu; subst hu; rfl
          case c3 => unfold maxLen; omega
          case c4 => omega
          case c5 => simp; omega
          · intro v' w1 hown' hgrow _
            have hb : Below w.heap.size w w1 := (hnx.alloc (by omega) _).grown hgrow (by simp; omega) (fun k hk => (hown.lt k hk).1)
            have ho : w1.ownsRow w.heap.size 5 1 v' (B ++ [s[j]]).length (cellsOf (B ++ [s[j]])) := by rw [cellsOf_snoc, List.length_append]; exact hown'
            clear hown' hgrow hown
            go_wp2
            go_roundw
            case rel => exact ⟨B ++ [s[j]], j + 1, by simp, by go_num, by omega, by simp; omega, P2.out.pix hj2 (NB.out hj2) (Pm.okPix_of _ (.inl Q0.out)) hlt, ho, hb⟩
            case measure => simp [intOf]; omega
        · by_cases q1 : (s[j].toNat : Int) = 49
          · have b0 : ((s[j].toNat : Int) != 48) = true := bne_iff_ne.2 q0
            have b1 : ((s[j].toNat : Int) != 49) = false := by simp [q1]
            have Q1 := hidr q1
            clear q1
            go_wp2_with (first
              | (go_at_call 71; refine (C.out _).mono ?_; rintro e w' ⟨rfl, rfl⟩)
              | (at_builtin; refine wpList_append_own _ rfl _ _ 55 rfl w.heap.size 5 i0 (.int .u8 0) 1 1 Tryd.underlying55 hi hz0 hz1 hz2 rfl (by decide) _ _ _ rfl (hown.alloc _) ⟨_, 0, none⟩ 1 1 [.int .u8 s[j].toNat] rfl rfl ?c1 ?c2 ?c3 ?c4 ?c5 ?_))
            case c1 =>
              intro j' u hj'
              match j', hj' with
              | 0, hj' => simp at hj'; subst hj'; simp [Addr.add]
            case c2 => intro u hu; simp at hu; subst hu; rfl
            case c3 => unfold maxLen; omega
            case c4 => omega
            case c5 => simp; omega
            · intro v' w1 hown' hgrow _
              have hb : Below w.heap.size w w1 := (hnx.alloc (by omega) _).grown hgrow (by simp; omega) (fun k hk => (hown.lt k hk).1)
              have ho : w1.ownsRow w.heap.size 5 1 v' (B ++ [s[j]]).length (cellsOf (B ++ [s[j]])) := by rw [cellsOf_snoc, List.length_append]; exact hown'
              clear hown' hgrow hown
              go_wp2
              go_roundw
              case rel => exact ⟨B ++ [s[j]], j + 1, by simp, by go_num, by omega, by simp; omega, P2.out.pix hj2 (NB.out hj2) (Pm.okPix_of _ (.inr Q1.out)) hlt, ho, hb⟩
              case measure => simp [intOf]; omega
          · have b0 : ((s[j].toNat : Int) != 48) = true := bne_iff_ne.2 q0
            have b1 : ((s[j].toNat : Int) != 49) = true := bne_iff_ne.2 q1
            go_wp2_with (first | (go_at_call 71; refine (C.out _).mono ?_; rintro e w' ⟨rfl, rfl⟩) | (go_at_call 68; refine (wrongAt_any s j _).mono ?_; rintro e w' ⟨rfl, rfl⟩))
            go_ret3
            exact ⟨⟨[], j, _, rfl, P2.out.out_no hlt (fun h => ⟨NB.out h, Pm.okPix_not _ q0 q1⟩)⟩, hnx⟩
      · go_wp2_with (first | (go_at_call 71; refine (C.out _).mono ?_; rintro e w' ⟨rfl, rfl⟩) | (go_at_call 68; refine (wrongAt_any s j _).mono ?_; rintro e w' ⟨rfl, rfl⟩))
        go_ret3
        exact ⟨⟨[], j, _, rfl, P2.out.out_no hlt (fun h => absurd h hj2)⟩, hnx⟩
    · have hBn : Hid (B.length = n) := show B.length = n by omega
      have hB1 : 0 < B.length := by omega
      rcases hown.2 with ⟨-, h0⟩ | ⟨g, cap, cur, rfl, -, -, -, -, -, -⟩
      · omega
      · have hcv := run_convert_bytes_back (P := Tryd.prog) wr 55 9 5 ⟨g, 0, none⟩ cap B Tryd.underlying55 Tryd.underlying5 Tryd.underlying9 (fun j hj => hown.cells (g := g) rfl j _ (by simp [cellsOf, hj]))
        go_wp2
        go_ret3
        exact ⟨⟨B, k, 0, rfl, hP.out.out_yes hBn.out⟩, hnx⟩
end Go.Proofs.YtljfiefobnncaaaDoor
