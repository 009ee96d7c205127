/- Number, readSide, side. -/
import Derived.Test.YtljfiefobnncaaaDoorRc
namespace Go.Proofs.YtljfiefobnncaaaDoor
open Go.RowKit

set_option maxRecDepth 4000 in
set_option maxHeartbeats 400000 in
theorem readSide_any (s : ByteArray) (a : Nat) (ha : a ≤ s.size) (hs : s.size ≤ 140737488355328) (w : World) :
    Calls Tryd.prog 54 #[.string s, .int .i64 a] w fun e w' => (∃ (n p : Nat) (r : Int), e = .returned (.tuple #[.int .i64 n, .int .i64 p, .int .i64 r]) ∧ Pm.sideOut s.data.toList a n p r) ∧ w' = w := by
  obtain ⟨g, hg⟩ : ∃ g, g = Pm.gapEnd s.data.toList a := ⟨_, rfl⟩
  have g1 : a ≤ g := hg ▸ Pm.gapEnd_ge _ _
  have g2 : g ≤ s.size := hg ▸ (by simpa using Pm.gapEnd_le s.data.toList a (by simpa using ha))
  have G := hidr hg
  clear hg
  have c := skipGap_any s a ha hs
  rw [← G.out] at c
  have C := hidr c
  clear c
  by_cases hga : g = a
  · have b0 : ((g : Int) == (a : Int)) = true := by rw [hga]; simp
    have GA := hidr hga
    clear hga
    go_enter Tryd.func54, Tryd.ntmps54
    go_wp2_with (first | (go_at_call 69; refine (C.out _).mono ?_; rintro e w' ⟨rfl, rfl⟩) | (go_at_call 68; refine (wrongAt_any s a _).mono ?_; rintro e w' ⟨rfl, rfl⟩))
    go_ret3
    exact ⟨⟨0, a, _, rfl, .inl ⟨by rw [← G.out]; exact GA.out, rfl, rfl, by simp⟩⟩, rfl⟩
  · have b0 : ((g : Int) == (a : Int)) = false := beq_eq_false_iff_ne.2 (by omega)
    go_enter Tryd.func54, Tryd.ntmps54
    go_wp2_with (first | (go_at_call 69; refine (C.out _).mono ?_; rintro e w' ⟨rfl, rfl⟩) | (go_at_call 70; refine (readNumber_any s g g2 hs _).mono ?_; rintro e w' ⟨⟨n, p, r, rfl, ho⟩, rfl⟩))
    go_ret3
    exact ⟨⟨n, p, r, rfl, .inr (by rw [← G.out]; exact ⟨by omega, ho⟩)⟩, rfl⟩

/-- What the document's own 'side' answers: as the code does, the place apart. -/
def sideRef (l : List UInt8) (a n p : Nat) (e : Int) (q : Nat) : Prop :=
  ∃ n' p', Pm.sideOut l a n' p' e ∧ ((e = 0 ∧ n = n' ∧ p = p' ∧ q = 0) ∨ (e ≠ 0 ∧ n = 0 ∧ p = 0 ∧ q = p'))
theorem lackE_ne (n a : Nat) : Pm.lackE n a ≠ 0 := by unfold Pm.lackE; split <;> omega

set_option maxRecDepth 4000 in
set_option maxHeartbeats 1000000 in
theorem side_any (s : ByteArray) (a : Nat) (ha : a ≤ s.size) (hs : s.size ≤ 140737488355328) (w : World) :
    Calls Tryd.prog 19 #[.string s, .int .i64 a] w fun e w' => (∃ (n p : Nat) (r : Int) (q : Nat), e = .returned (.tuple #[.int .i64 n, .int .i64 p, .int .i64 r, .int .i64 q]) ∧ sideRef s.data.toList a n p r q) ∧ w' = w := by
  have Z := hidr (Pm.gapEnd_le s.data.toList a (by simpa using ha))
  have Z1 := hidr (Pm.gapEnd_ge s.data.toList a)
  go_enter Tryd.func19, Tryd.ntmps19
  go_wp2_with (go_at_call 40; fail)
  refine (gap_any s a ha hs _).mono ?_
  rintro e w1 ⟨⟨g0, rfl, ho⟩, rfl⟩
  rcases ho with hg | ⟨rfl, h1, h2⟩
  · obtain ⟨g, hgg⟩ : ∃ g, g = Pm.gapEnd s.data.toList a := ⟨_, rfl⟩
    rw [← hgg] at hg
    subst hg
    have g1 : a ≤ g := hgg ▸ Z1.out
    have g2 : g ≤ s.size := hgg ▸ (by simpa using Z.out)
    have G := hidr hgg
    clear hgg
    obtain ⟨nv, hnv⟩ : ∃ nv, nv = Pm.numV 0 (s.data.toList.drop g) := ⟨_, rfl⟩
    obtain ⟨nc, hnc⟩ : ∃ nc, nc = Pm.numC (s.data.toList.drop g) := ⟨_, rfl⟩
    have cN := number_any s g g2 hs
    rw [← hnv, ← hnc] at cN
    have CN := hidr cN
    have NV := hidr hnv
    have NC := hidr hnc
    have nb : nv ≤ 33 := by rw [hnv]; exact Pm.numV_le _ _ (by omega)
    have cb : nc ≤ s.size := by rw [hnc]; exact Nat.le_trans (Pm.numC_le _) (by simp)
    clear cN hnv hnc
    by_cases hga : g = a
    · subst hga
      go_wp2_with (go_at_call 18; refine (lacks_any s g g2 _).mono ?_; rintro e w' ⟨rfl, rfl⟩)
      refine bodyPost_ret (results_tmp4 rfl _ _ _) rfl ?_
      exact ⟨⟨0, 0, _, g, rfl, 0, g, .inl ⟨G.out.symm, rfl, rfl, by simp⟩, .inr ⟨lackE_ne _ _, rfl, rfl, rfl⟩⟩, rfl⟩
    · have b0 : ((g : Int) == (a : Int)) = false := beq_eq_false_iff_ne.2 (by omega)
      by_cases c0 : nc = 0
      · have b1 : ((g : Int) + (nc : Int) == (g : Int)) = true := beq_iff_eq.2 (by omega)
        have C0 := hidr c0
        clear c0
        go_wp2_with (first | (go_at_call 41; refine (CN.out _).mono ?_; rintro e w' ⟨rfl, rfl⟩) | (go_at_call 18; refine (lacks_any s g g2 _).mono ?_; rintro e w' ⟨rfl, rfl⟩))
        refine bodyPost_ret (results_tmp4 rfl _ _ _) rfl ?_
        exact ⟨⟨0, 0, _, g, rfl, 0, g, .inr (by rw [← G.out]; exact ⟨by omega, .inl ⟨by rw [← NC.out]; exact C0.out, rfl, rfl, by simp⟩⟩), .inr ⟨lackE_ne _ _, rfl, rfl, rfl⟩⟩, rfl⟩
      · have b1 : ((g : Int) + (nc : Int) == (g : Int)) = false := beq_eq_false_iff_ne.2 (by omega)
        by_cases n0 : nv < 1
        · go_wp2_with (first | (go_at_call 41; refine (CN.out _).mono ?_; rintro e w' ⟨rfl, rfl⟩))
          refine bodyPost_ret (results_tmp4 rfl _ _ _) rfl ?_
          exact ⟨⟨0, 0, 3, g, rfl, 0, g, .inr (by rw [← G.out]; exact ⟨by omega, .inr (.inl ⟨by rw [← NC.out]; omega, .inl (by rw [← NV.out]; omega), rfl, rfl, rfl⟩)⟩), .inr ⟨by omega, rfl, rfl, rfl⟩⟩, rfl⟩
        · by_cases n1 : 32 < nv
          · go_wp2_with (first | (go_at_call 41; refine (CN.out _).mono ?_; rintro e w' ⟨rfl, rfl⟩))
            refine bodyPost_ret (results_tmp4 rfl _ _ _) rfl ?_
            exact ⟨⟨0, 0, 3, g, rfl, 0, g, .inr (by rw [← G.out]; exact ⟨by omega, .inr (.inl ⟨by rw [← NC.out]; omega, .inr (by rw [← NV.out]; omega), rfl, rfl, rfl⟩)⟩), .inr ⟨by omega, rfl, rfl, rfl⟩⟩, rfl⟩
          · go_wp2_with (first | (go_at_call 41; refine (CN.out _).mono ?_; rintro e w' ⟨rfl, rfl⟩))
            refine bodyPost_ret (results_tmp4 rfl _ _ _) rfl ?_
            exact ⟨⟨nv, g + nc, 0, 0, rfl, nv, g + nc, .inr (by rw [← G.out]; exact ⟨by omega, .inr (.inr ⟨by rw [← NC.out]; omega, by rw [← NV.out]; omega, by rw [← NV.out]; omega, NV.out, by rw [← NC.out], rfl⟩)⟩), .inl ⟨rfl, rfl, rfl, rfl⟩⟩, rfl⟩
  · have H1 := hidr h1
    have H2 := hidr h2
    clear h1 h2
    go_wp2
    refine bodyPost_ret (results_tmp4 rfl _ _ _) rfl ?_
    refine ⟨⟨0, 0, _, s.size, rfl, 0, s.size, .inr ⟨H1.out, ?_⟩, .inr ⟨by omega, rfl, rfl, rfl⟩⟩, rfl⟩
    rw [H2.out]
    exact .inl ⟨Pm.numC_end s _ (Nat.le_refl _), rfl, rfl, (Pm.lackE_short (by simp)).symm⟩
end Go.Proofs.YtljfiefobnncaaaDoor
