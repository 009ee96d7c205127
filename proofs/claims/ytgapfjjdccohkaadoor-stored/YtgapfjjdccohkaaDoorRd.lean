/- Number, readSide, side. -/
import Derived.Test.YtgapfjjdccohkaaDoorRc
namespace Go.Proofs.YtgapfjjdccohkaaDoor
open Go.RowKit

theorem results_tmp4 {fn : Func} {t u v x : Tmp} (h : fn.results = #[.tmp t, .tmp u, .tmp v, .tmp x]) (tmps : Array Value) (P : Program) (w : World) :
    (results fn tmps).run P w = .ok (.tuple #[tmps.getD t undef, tmps.getD u undef, tmps.getD v undef, tmps.getD x undef]) w := by
  simp [results, h]

theorem ret_two {k1 k2 : IntKind} {a b c d : Int} (h1 : a = c) (h2 : b = d) : Ending.returned (.tuple #[.int k1 a, .int k2 b]) = .returned (.tuple #[.int k1 c, .int k2 d]) := by rw [h1, h2]

set_option maxHeartbeats 1000000 in
theorem number_any (s : ByteArray) (g : Nat) (hg : g ≤ s.size) (hs : s.size ≤ 140737488355328) (w : World) :
    Calls Tryd.prog 27 #[.string s, .int .i64 g, .int .i64 32] w fun e w' => e = .returned (.tuple #[.int .i64 (Pm.numV 0 (s.data.toList.drop g) : Nat), .int .i64 (g + Pm.numC (s.data.toList.drop g) : Nat)]) ∧ w' = w := by
  go_enter Tryd.func27, Tryd.ntmps27
  go_wp2
  go_loop [8, 1] (fun v i => ∃ n k : Nat, n ≤ 33 ∧ g ≤ k ∧ k ≤ s.size ∧ i = .int .i64 k ∧ v = .int .i64 n ∧ Hid (Pm.numV 0 (s.data.toList.drop g) = Pm.numV n (s.data.toList.drop k) ∧ g + Pm.numC (s.data.toList.drop g) = k + Pm.numC (s.data.toList.drop k))) (fun _ i => s.size - (intOf i).toNat)
  case atStart => exact ⟨0, g, by omega, Nat.le_refl _, hg, rfl, rfl, rfl, rfl⟩
  case round =>
    obtain ⟨n, k, hn, hgk, hk, rfl, rfl, E⟩ := hrel
    have fin : ∀ (hv : Pm.numV n (s.data.toList.drop k) = n) (hc : Pm.numC (s.data.toList.drop k) = 0), Pm.numV 0 (s.data.toList.drop g) = n ∧ g + Pm.numC (s.data.toList.drop g) = k := fun hv hc => ⟨by rw [E.out.1, hv], by rw [E.out.2, hc]; omega⟩
    have FIN := hidr fin
    clear fin
    by_cases hlt : k < s.size
    · cases hd : Pm.digitB s[k]
      · have F := hidr (FIN.out (by rw [Pm.numV_step s k hlt, if_neg (by simp [hd])]) (by rw [Pm.numC_step s k hlt, if_neg (by simp [hd])]))
        go_wp2_with (go_at_call 37; refine (digit_any s[k] _).mono ?_; rintro e w' ⟨rfl, rfl⟩; rw [hd])
        go_ret2
        exact ⟨ret_two (by have := F.out.1; omega) (by have := F.out.2; omega), rfl⟩
      · have db := Pm.digit_bounds hd
        have C := hidr (Pm.numC_step s k hlt)
        by_cases big : 32 < 10 * (n : Int) + (s[k].toNat : Int) - 48
        · have V := hidr (Pm.numV_on s k hlt n 33 hd (by omega))
          go_wp2_with (go_at_call 37; refine (digit_any s[k] _).mono ?_; rintro e w' ⟨rfl, rfl⟩; rw [hd])
          go_round
          case rel => exact ⟨33, k + 1, by omega, by omega, by omega, by go_num, rfl, by rw [E.out.1, V.out], by rw [E.out.2, C.out, if_pos hd]; omega⟩
          case measure => simp [intOf]; omega
        · have V := hidr (Pm.numV_on s k hlt n (10 * n + (s[k].toNat - 48)) hd (by omega))
          go_wp2_with (go_at_call 37; refine (digit_any s[k] _).mono ?_; rintro e w' ⟨rfl, rfl⟩; rw [hd])
          go_round
          case rel => exact ⟨10 * n + (s[k].toNat - 48), k + 1, by omega, by omega, by omega, by go_num, by go_num, by rw [E.out.1, V.out], by rw [E.out.2, C.out, if_pos hd]; omega⟩
          case measure => simp [intOf]; omega
    · have F := hidr (FIN.out (Pm.numV_end s k (by omega) n) (Pm.numC_end s k (by omega)))
      go_wp2
      go_ret2
      exact ⟨ret_two (by have := F.out.1; omega) (by have := F.out.2; omega), rfl⟩

set_option maxHeartbeats 400000 in
theorem readSide_any (s : ByteArray) (a : Nat) (ha : a ≤ s.size) (hs : s.size ≤ 140737488355328) (w : World) :
    Calls Tryd.prog 33 #[.string s, .int .i64 a] w fun e w' => (∃ (n p : Nat) (r : Int), e = .returned (.tuple #[.int .i64 n, .int .i64 p, .int .i64 r]) ∧ Pm.sideOut s.data.toList a n p r) ∧ w' = w := by
  obtain ⟨g, hg⟩ : ∃ g, g = Pm.gapEnd s.data.toList a := ⟨_, rfl⟩
  have g1 : a ≤ g := hg ▸ Pm.gapEnd_ge _ _
  have g2 : g ≤ s.size := hg ▸ (by simpa using Pm.gapEnd_le s.data.toList a (by simpa using ha))
  have G := hidr hg
  clear hg
  have c := skipGap_any s a ha hs
  rw [← G.out] at c
  have C := hidr c
  clear c
  by_cases hga : g = a
  · have b0 : ((g : Int) == (a : Int)) = true := by rw [hga]; simp
    have GA := hidr hga
    clear hga
    go_enter Tryd.func33, Tryd.ntmps33
    go_wp2_with (first | (go_at_call 42; refine (C.out _).mono ?_; rintro e w' ⟨rfl, rfl⟩) | (go_at_call 41; refine (wrongAt_any s a _).mono ?_; rintro e w' ⟨rfl, rfl⟩))
    go_ret3
    exact ⟨⟨0, a, _, rfl, .inl ⟨by rw [← G.out]; exact GA.out, rfl, rfl, by simp⟩⟩, rfl⟩
  · have b0 : ((g : Int) == (a : Int)) = false := beq_eq_false_iff_ne.2 (by omega)
    go_enter Tryd.func33, Tryd.ntmps33
    go_wp2_with (first | (go_at_call 42; refine (C.out _).mono ?_; rintro e w' ⟨rfl, rfl⟩) | (go_at_call 43; refine (readNumber_any s g g2 hs _).mono ?_; rintro e w' ⟨⟨n, p, r, rfl, ho⟩, rfl⟩))
    go_ret3
    exact ⟨⟨n, p, r, rfl, .inr (by rw [← G.out]; exact ⟨by omega, ho⟩)⟩, rfl⟩

/-- What the document's own 'side' answers: as the code does, the place apart. -/
def sideRef (l : List UInt8) (a n p : Nat) (e : Int) (q : Nat) : Prop :=
  ∃ n' p', Pm.sideOut l a n' p' e ∧ ((e = 0 ∧ n = n' ∧ p = p' ∧ q = 0) ∨ (e ≠ 0 ∧ n = 0 ∧ p = 0 ∧ q = p'))
theorem lackE_ne (n a : Nat) : Pm.lackE n a ≠ 0 := by unfold Pm.lackE; split <;> omega

set_option maxHeartbeats 1000000 in
theorem side_any (s : ByteArray) (a : Nat) (ha : a ≤ s.size) (hs : s.size ≤ 140737488355328) (w : World) :
    Calls Tryd.prog 15 #[.string s, .int .i64 a] w fun e w' => (∃ (n p : Nat) (r : Int) (q : Nat), e = .returned (.tuple #[.int .i64 n, .int .i64 p, .int .i64 r, .int .i64 q]) ∧ sideRef s.data.toList a n p r q) ∧ w' = w := by
  have Z := hidr (Pm.gapEnd_le s.data.toList a (by simpa using ha))
  have Z1 := hidr (Pm.gapEnd_ge s.data.toList a)
  go_enter Tryd.func15, Tryd.ntmps15
  go_wp2_with (go_at_call 26; fail)
  refine (gap_any s a ha hs _).mono ?_
  rintro e w1 ⟨⟨g0, rfl, ho⟩, rfl⟩
  rcases ho with hg | ⟨rfl, h1, h2⟩
  · obtain ⟨g, hgg⟩ : ∃ g, g = Pm.gapEnd s.data.toList a := ⟨_, rfl⟩
    rw [← hgg] at hg
    subst hg
    have g1 : a ≤ g := hgg ▸ Z1.out
    have g2 : g ≤ s.size := hgg ▸ (by simpa using Z.out)
    have G := hidr hgg
    clear hgg
    obtain ⟨nv, hnv⟩ : ∃ nv, nv = Pm.numV 0 (s.data.toList.drop g) := ⟨_, rfl⟩
    obtain ⟨nc, hnc⟩ : ∃ nc, nc = Pm.numC (s.data.toList.drop g) := ⟨_, rfl⟩
    have cN := number_any s g g2 hs
    rw [← hnv, ← hnc] at cN
    have CN := hidr cN
    have NV := hidr hnv
    have NC := hidr hnc
    have nb : nv ≤ 33 := by rw [hnv]; exact Pm.numV_le _ _ (by omega)
    have cb : nc ≤ s.size := by rw [hnc]; exact Nat.le_trans (Pm.numC_le _) (by simp)
    clear cN hnv hnc
    by_cases hga : g = a
    · subst hga
      go_wp2_with (go_at_call 14; refine (lacks_any s g g2 _).mono ?_; rintro e w' ⟨rfl, rfl⟩)
      refine bodyPost_ret (results_tmp4 rfl _ _ _) rfl ?_
      exact ⟨⟨0, 0, _, g, rfl, 0, g, .inl ⟨G.out.symm, rfl, rfl, by simp⟩, .inr ⟨lackE_ne _ _, rfl, rfl, rfl⟩⟩, rfl⟩
    · have b0 : ((g : Int) == (a : Int)) = false := beq_eq_false_iff_ne.2 (by omega)
      by_cases c0 : nc = 0
      · have b1 : ((g : Int) + (nc : Int) == (g : Int)) = true := beq_iff_eq.2 (by omega)
        have C0 := hidr c0
        clear c0
        go_wp2_with (first | (go_at_call 27; refine (CN.out _).mono ?_; rintro e w' ⟨rfl, rfl⟩) | (go_at_call 14; refine (lacks_any s g g2 _).mono ?_; rintro e w' ⟨rfl, rfl⟩))
        refine bodyPost_ret (results_tmp4 rfl _ _ _) rfl ?_
        exact ⟨⟨0, 0, _, g, rfl, 0, g, .inr (by rw [← G.out]; exact ⟨by omega, .inl ⟨by rw [← NC.out]; exact C0.out, rfl, rfl, by simp⟩⟩), .inr ⟨lackE_ne _ _, rfl, rfl, rfl⟩⟩, rfl⟩
      · have b1 : ((g : Int) + (nc : Int) == (g : Int)) = false := beq_eq_false_iff_ne.2 (by omega)
        by_cases n0 : nv < 1
        · go_wp2_with (first | (go_at_call 27; refine (CN.out _).mono ?_; rintro e w' ⟨rfl, rfl⟩))
          refine bodyPost_ret (results_tmp4 rfl _ _ _) rfl ?_
          exact ⟨⟨0, 0, 3, g, rfl, 0, g, .inr (by rw [← G.out]; exact ⟨by omega, .inr (.inl ⟨by rw [← NC.out]; omega, .inl (by rw [← NV.out]; omega), rfl, rfl, rfl⟩)⟩), .inr ⟨by omega, rfl, rfl, rfl⟩⟩, rfl⟩
        · by_cases n1 : 32 < nv
          · go_wp2_with (first | (go_at_call 27; refine (CN.out _).mono ?_; rintro e w' ⟨rfl, rfl⟩))
            refine bodyPost_ret (results_tmp4 rfl _ _ _) rfl ?_
            exact ⟨⟨0, 0, 3, g, rfl, 0, g, .inr (by rw [← G.out]; exact ⟨by omega, .inr (.inl ⟨by rw [← NC.out]; omega, .inr (by rw [← NV.out]; omega), rfl, rfl, rfl⟩)⟩), .inr ⟨by omega, rfl, rfl, rfl⟩⟩, rfl⟩
          · go_wp2_with (first | (go_at_call 27; refine (CN.out _).mono ?_; rintro e w' ⟨rfl, rfl⟩))
            refine bodyPost_ret (results_tmp4 rfl _ _ _) rfl ?_
            exact ⟨⟨nv, g + nc, 0, 0, rfl, nv, g + nc, .inr (by rw [← G.out]; exact ⟨by omega, .inr (.inr ⟨by rw [← NC.out]; omega, by rw [← NV.out]; omega, by rw [← NV.out]; omega, NV.out, by rw [← NC.out], rfl⟩)⟩), .inl ⟨rfl, rfl, rfl, rfl⟩⟩, rfl⟩
  · have H1 := hidr h1
    have H2 := hidr h2
    clear h1 h2
    go_wp2
    refine bodyPost_ret (results_tmp4 rfl _ _ _) rfl ?_
    refine ⟨⟨0, 0, _, s.size, rfl, 0, s.size, .inr ⟨H1.out, ?_⟩, .inr ⟨by omega, rfl, rfl, rfl⟩⟩, rfl⟩
    rw [H2.out]
    exact .inl ⟨Pm.numC_end s _ (Nat.le_refl _), rfl, rfl, (Pm.lackE_short (by simp)).symm⟩
end Go.Proofs.YtgapfjjdccohkaaDoor
