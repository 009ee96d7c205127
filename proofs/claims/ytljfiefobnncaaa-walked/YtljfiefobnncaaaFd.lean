/- outlinekeep: step, twice. -/
import Derived.Test.YtljfiefobnncaaaFc
namespace Go.Proofs.Ytljfiefobnncaaa
open Go.RowKit

set_option maxHeartbeats 1000000 in
theorem step_big (g n cap i : Nat) (tw : Int) (l : List (Int × Int)) (hn : n = l.length) (hi : i < n) (hn2 : n ≤ 140737488355328) (w : World) (hP : PtsAt g l w) :
    Calls Try.prog 19 #[.agg #[.slice (some ⟨g, 0, none⟩) n cap, .int .i64 tw], .int .i64 i] w fun e w' => e = .returned (.tuple #[.agg #[.int .i64 (l.getD i (0, 0)).1, .int .i64 (l.getD i (0, 0)).2], .agg #[.int .i64 (l.getD ((i + 1) % l.length) (0, 0)).1, .int .i64 (l.getD ((i + 1) % l.length) (0, 0)).2]]) ∧ Below w.heap.size w w' := by
  have hg := hP.1
  have g1 : g < w.heap.size + 1 := by omega
  have g2 : g < w.heap.size + 1 + 1 := by omega
  have g3 : ¬ g = w.heap.size := by omega
  have g4 : ¬ g = w.heap.size + 1 := by omega
  have g5 : ¬ g = w.heap.size + 1 + 1 := by omega
  obtain ⟨a0, a1⟩ := hP.2 i (by omega)
  obtain ⟨z0, z1⟩ := hP.2 0 (by omega)
  obtain ⟨⟨pa, pb⟩, hpp⟩ : ∃ p, l.getD i (0, 0) = p := ⟨_, rfl⟩
  obtain ⟨⟨za, zb⟩, hzz⟩ : ∃ p, l.getD 0 (0, 0) = p := ⟨_, rfl⟩
  rw [hpp] at a0 a1 ⊢
  rw [hzz] at z0 z1
  by_cases h1 : i + 1 < n
  · obtain ⟨c0, c1⟩ := hP.2 (i + 1) (by omega)
    rw [Nat.mod_eq_of_lt (by omega)]
    obtain ⟨⟨qa, qb⟩, hqq⟩ : ∃ p, l.getD (i + 1) (0, 0) = p := ⟨_, rfl⟩
    rw [hqq] at c0 c1 ⊢
    have h1' : (i : Int) + 1 < n := by omega
    have h2' : (0 : Int) ≤ (i : Int) + 1 := by omega
    have h3' : IntKind.i64.wrap ((i : Int) + 1) = (i : Int) + 1 := by rw [IntKind.wrap_i64]; omega
    have h4' : ((i : Int) + 1).toNat = i + 1 := by omega
    clear hP hpp hzz hqq hn z0 z1
    dsimp only at a0 a1 c0 c1 ⊢
    go_enter Try.func19, Try.ntmps19
    go_wp2
    go_region_held3 (fun w' => w'.cell? ⟨w.heap.size + 1 + 1 + 1, 0, none⟩ = some (.int .i64 pa) ∧ w'.cell? ⟨w.heap.size + 1 + 1 + 1, 1, none⟩ = some (.int .i64 pb) ∧ w'.cell? ⟨w.heap.size, 0, none⟩ = some (.slice (some ⟨g, 0, none⟩) n cap) ∧ w'.cell? ⟨g, (i + 1) * 2, none⟩ = some (.int .i64 qa) ∧ w'.cell? ⟨g, (i + 1) * 2 + 1, none⟩ = some (.int .i64 qb))
      (first | (simp [go_sem, *]; done) | (go_keep))
      (fail)
    all_goals go_wp2
    all_goals (refine bodyPost_ret (v := .tuple #[.agg #[.int .i64 pa, .int .i64 pb], .agg #[.int .i64 qa, .int .i64 qb]]) (by simp [results, Try.results19, go_sem]) rfl ?_)
    all_goals exact ⟨rfl, by go_grown⟩
  · rw [show (i + 1) % l.length = 0 from by rw [show i + 1 = l.length from by omega, Nat.mod_self], hzz]
    have h1' : ¬ (i : Int) + 1 < n := by omega
    have h2' : (0 : Int) < n := by omega
    have h3' : 0 < n := by omega
    clear hP hpp hzz hn
    dsimp only at a0 a1 z0 z1 ⊢
    go_enter Try.func19, Try.ntmps19
    go_wp2
    go_region_held3 (fun w' => w'.cell? ⟨w.heap.size + 1 + 1 + 1, 0, none⟩ = some (.int .i64 pa) ∧ w'.cell? ⟨w.heap.size + 1 + 1 + 1, 1, none⟩ = some (.int .i64 pb) ∧ w'.cell? ⟨w.heap.size, 0, none⟩ = some (.slice (some ⟨g, 0, none⟩) n cap) ∧ w'.cell? ⟨g, 0, none⟩ = some (.int .i64 za) ∧ w'.cell? ⟨g, 1, none⟩ = some (.int .i64 zb))
      (first | (simp [go_sem, *]; done) | (go_keep))
      (fail)
    all_goals go_wp2
    all_goals (refine bodyPost_ret (v := .tuple #[.agg #[.int .i64 pa, .int .i64 pb], .agg #[.int .i64 za, .int .i64 zb]]) (by simp [results, Try.results19, go_sem]) rfl ?_)
    all_goals exact ⟨rfl, by go_grown⟩

theorem step_any (g n cap i : Nat) (tw : Int) (l : List (Int × Int)) (hn : n = l.length) (hi : i < n) (hn2 : n ≤ 4356) (w : World) (hP : PtsAt g l w) :
    Calls Try.prog 19 #[.agg #[.slice (some ⟨g, 0, none⟩) n cap, .int .i64 tw], .int .i64 i] w fun e w' => e = .returned (.tuple #[.agg #[.int .i64 (l.getD i (0, 0)).1, .int .i64 (l.getD i (0, 0)).2], .agg #[.int .i64 (l.getD ((i + 1) % l.length) (0, 0)).1, .int .i64 (l.getD ((i + 1) % l.length) (0, 0)).2]]) ∧ Below w.heap.size w w' :=
  step_big g n cap i tw l hn hi (by omega) w hP

end Go.Proofs.Ytljfiefobnncaaa
