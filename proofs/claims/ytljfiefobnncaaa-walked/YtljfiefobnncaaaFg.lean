/- outlinekeep: works. -/
import Derived.Test.YtljfiefobnncaaaFf
import Derived.Test.YtljfiefobnncaaaQf
namespace Go.Proofs.Ytljfiefobnncaaa
open Go.RowKit

theorem sides_one : Qm.sidesTo (Pm.blackB 1 1 [49]) 1 (1 * 1) = [(0, 0, 0), (0, 1, 1), (1, 1, 2), (1, 0, 3)] := by decide
/-- Of one black pixel there is one cycle. -/
theorem res_one : Qm.Res (fB 1 1 ⟨#[49]⟩ 0 ⟨#[]⟩) (bB 1 1 ⟨#[49]⟩) Qm.key [((0, 0, 0), 4)] := by
  refine ⟨?_, by simp, ?_⟩
  · intro c hc
    simp only [List.mem_singleton] at hc
    subst hc
    refine ⟨⟨by decide, by decide, by decide, ?_⟩, ?_⟩
    · have : ∀ (i j : Fin 4), i.val < j.val → Qm.it (fB 1 1 ⟨#[49]⟩ 0 ⟨#[]⟩) i.val (0, 0, 0) ≠ Qm.it (fB 1 1 ⟨#[49]⟩ 0 ⟨#[]⟩) j.val (0, 0, 0) := by decide
      intro i j hij hj
      exact this ⟨i, by omega⟩ ⟨j, hj⟩ hij
    · have : ∀ (i : Fin 4), 0 < i.val → Qm.key (0, 0, 0) < Qm.key (Qm.it (fB 1 1 ⟨#[49]⟩ 0 ⟨#[]⟩) i.val (0, 0, 0)) := by decide
      intro i h0 hi
      exact this ⟨i, hi⟩ h0
  · intro t ht
    have h1 := (Qm.all_sidesTo (Qm.pic_of 1 1 [49] (by omega) (by omega)) t).2 ht
    rw [sides_one] at h1
    simp only [List.mem_cons, List.mem_nil_iff, or_false] at h1
    rcases h1 with rfl | rfl | rfl | rfl
    · exact ⟨_, List.mem_singleton.2 rfl, 0, by decide, by decide⟩
    · exact ⟨_, List.mem_singleton.2 rfl, 1, by decide, by decide⟩
    · exact ⟨_, List.mem_singleton.2 rfl, 2, by decide, by decide⟩
    · exact ⟨_, List.mem_singleton.2 rfl, 3, by decide, by decide⟩

/-- What one sees of the answer for one black pixel. -/
theorem one_shown {vl : Value} {w w' : World} (h : FindOut 1 1 ⟨#[49]⟩ 0 ⟨#[]⟩ w vl w') : Below w.heap.size w w' ∧ ∃ gl cap g c, vl = .slice (some ⟨gl, 0, none⟩) 1 cap ∧ gl < w'.heap.size ∧ g < w'.heap.size ∧ w'.cell? ⟨gl, 0, none⟩ = some (.slice (some ⟨g, 0, none⟩) 4 c) ∧ w'.cell? ⟨gl, 1, none⟩ = some (.int .i64 2)
    ∧ w'.cell? ⟨g, 0, none⟩ = some (.int .i64 0) ∧ w'.cell? ⟨g, 1, none⟩ = some (.int .i64 0) ∧ w'.cell? ⟨g, 2, none⟩ = some (.int .i64 0) ∧ w'.cell? ⟨g, 3, none⟩ = some (.int .i64 1) ∧ w'.cell? ⟨g, 4, none⟩ = some (.int .i64 1) ∧ w'.cell? ⟨g, 5, none⟩ = some (.int .i64 1) ∧ w'.cell? ⟨g, 6, none⟩ = some (.int .i64 1) ∧ w'.cell? ⟨g, 7, none⟩ = some (.int .i64 0) := by
  obtain ⟨L, h1, h2, h3, _⟩ := h
  refine ⟨h3, ?_⟩
  have e := h1.unique res_one
  obtain ⟨v, rfl⟩ : ∃ v, L = [(v, ((0, 0, 0), 4))] := by
    match L, e with
    | [], e => simp at e
    | [(v, c)], e => simp at e; subst e; exact ⟨v, rfl⟩
    | _ :: _ :: _, e => simp at e
  have sh := h2.shown (fun p hp => by simp at hp; subst hp; simp)
  obtain ⟨ao, cap, rfl, hr⟩ := sh.row
  obtain ⟨gl, rfl, hgl, hc⟩ := hr.resolve_left (by simp)
  obtain ⟨g, c, hv, _, hg, hp⟩ := sh.pts _ (List.mem_singleton.2 rfl)
  simp only at hv hp
  subst hv
  have s0 := shpV_at (fB 1 1 ⟨#[49]⟩ 0 ⟨#[]⟩) [((Value.slice (some ⟨g, 0, none⟩) 4 c), ((0, 0, 0), 4))] 0 (by simp)
  have c0 := hc _ _ s0.1
  have c1 := hc _ _ s0.2
  have ep : Qm.ptsOf (fB 1 1 ⟨#[49]⟩ 0 ⟨#[]⟩) ((0, 0, 0), 4) = [(0, 0), (0, 1), (1, 1), (1, 0)] := by decide
  have et : Qm.twiceOf (Qm.ptsOf (fB 1 1 ⟨#[49]⟩ 0 ⟨#[]⟩) ((0, 0, 0), 4)) = 2 := by decide
  simp only [List.getElem_cons_zero, et] at c0 c1
  rw [ep] at hp
  have p0 := hp 0 (by simp)
  have p1 := hp 1 (by simp)
  have p2 := hp 2 (by simp)
  have p3 := hp 3 (by simp)
  exact ⟨gl, cap, g, c, rfl, hgl, hg, c0, c1, p0.1, p0.2, p1.1, p1.2, p2.1, p2.2, p3.1, p3.2⟩

set_option maxRecDepth 4000 in
set_option maxHeartbeats 1000000 in
theorem works_any (w : World) :
    Calls Try.prog 13 #[] w fun e w' => e = .returned (.bool true) ∧ Below w.heap.size w w' := by
  go_enter Try.func13, Try.ntmps13
  go_wp2_with fail
  refine (cycles_yes 1 1 ⟨#[49]⟩ 0 ⟨#[]⟩ 0 _ (by decide) (by omega) (by omega) rfl (by omega)).mono ?_
  rintro e w1 ⟨vl, rfl, ho⟩
  obtain ⟨hb, gl, cap, g, c, rfl, hgl, hg, c0, c1, p0, p1, p2, p3, p4, p5, p6, p7⟩ := one_shown ho
  have B1 := hid (show Below w.heap.size w w1 from Below.trans (b := _) (by go_grown) (hb.mono (by simp)))
  clear hb ho
  go_wp2
  go_ret
  exact ⟨rfl, B1.out⟩
end Go.Proofs.Ytljfiefobnncaaa
