/- outlineref.turned, Twice. -/
import Derived.Test.YtljfiefobnncaaaDe
import Derived.Deep.MidRow
namespace Go.Proofs.Ytljfiefobnncaaa
open Go.RowKit
attribute [local go_sem ↓] Go.wp_at_zero Go.wp_at_succ

theorem pts_one (l : List (Int × Int)) : ∀ u ∈ Qm.ptsV l, u.oneCell' = true := by
  intro u hu
  simp only [Qm.ptsV, List.mem_flatMap] at hu
  obtain ⟨s, _, hs⟩ := hu
  simp only [Qm.ptV, List.mem_cons, List.not_mem_nil, or_false] at hs
  rcases hs with rfl | rfl <;> rfl
theorem ptsV_app (a b : List (Int × Int)) : Qm.ptsV (a ++ b) = Qm.ptsV a ++ Qm.ptsV b := by simp [Qm.ptsV]
/-- The cells of a row of points, from number k on. -/
theorem PtsAt.news {g : Nat} {l : List (Int × Int)} {w : World} (h : PtsAt g l w) (k m : Nat) (hk : k + m ≤ l.length) : ∀ j u, (Qm.ptsV ((l.drop k).take m))[j]? = some u → w.cell? ((⟨g, k * 2, none⟩ : Addr).add j) = some u := by
  intro j u hj
  have hl : (Qm.ptsV ((l.drop k).take m)).length = m * 2 := by rw [Qm.ptsV_len]; simp; omega
  have hj2 : j < m * 2 := by rw [← hl]; exact (List.getElem?_eq_some_iff.1 hj).1
  rw [Addr.add_mid]
  have e := ptsV_at ((l.drop k).take m) (j / 2) (by simp; omega)
  have d : ((l.drop k).take m).getD (j / 2) (0, 0) = l.getD (k + j / 2) (0, 0) := by
    simp only [List.getD_eq_getElem?_getD, List.getElem?_take, List.getElem?_drop]
    rw [if_pos (by omega)]
  rw [d] at e
  have p := h.2 (k + j / 2) (by omega)
  rcases (show j = j / 2 * 2 ∨ j = j / 2 * 2 + 1 by omega) with hh | hh
  · rw [hh] at hj
    rw [e.1] at hj
    rw [show k * 2 + j = (k + j / 2) * 2 from by omega, p.1]
    exact hj
  · rw [hh] at hj
    rw [e.2] at hj
    rw [show k * 2 + j = (k + j / 2) * 2 + 1 from by omega, p.2]
    exact hj

set_option maxRecDepth 4000 in
set_option maxHeartbeats 2000000 in
theorem turned_any (g n cap : Nat) (l : List (Int × Int)) (hn : n = l.length) (h0 : 0 < n) (hc : n ≤ cap) (hs : Qm.Small l) (hn2 : n ≤ 4356) (w : World) (hP : PtsAt g l w) :
    Calls Try.prog 54 #[.slice (some ⟨g, 0, none⟩) n cap] w fun e w' => ∃ v k, e = .returned v ∧ k < n ∧ (∀ j, j < n → keyP (l.getD k (0, 0)) ≤ keyP (l.getD j (0, 0))) ∧ w'.ownsRow w.heap.size 47 2 v n (Qm.ptsV (l.drop k ++ l.take k)) ∧ Below w.heap.size w w' := by
  obtain ⟨i0, hi, hz0, hz1, hz2⟩ := info_parts infoPoint
  have HP := hid hP
  have hg := hP.1
  have HN := hid hn
  clear hP hn
  go_enter Try.func54, Try.ntmps54
  go_wp2
  go_loopw [3, 4] (fun kv iv wr => ∃ (k i : Nat), k < n ∧ i ≤ n ∧ kv = .int .i64 k ∧ iv = .int .i64 i ∧ Hid (∀ j, j < i → keyP (l.getD k (0, 0)) ≤ keyP (l.getD j (0, 0))) ∧ Below w.heap.size w wr) (fun _ i _ => n - (intOf i).toNat)
  case atStart => exact ⟨0, 0, by omega, by omega, rfl, rfl, fun j hj => by omega, Below.refl _ _⟩
  case round =>
    obtain ⟨k, i, hk, hi2, rfl, rfl, hmin, hb⟩ := hrel
    have HB := hid hb
    clear hb
    by_cases hlt : i < n
    · obtain ⟨s0, s1⟩ := (HP.out.on HB.out hg).2 i (by have := HN.out; omega)
      obtain ⟨t0, t1⟩ := (HP.out.on HB.out hg).2 k (by have := HN.out; omega)
      have si := hs.at i
      have sk := hs.at k
      obtain ⟨⟨xi, yi⟩, hpi⟩ : ∃ t, t = l.getD i (0, 0) := ⟨_, rfl⟩
      obtain ⟨⟨xk, yk⟩, hpk⟩ : ∃ t, t = l.getD k (0, 0) := ⟨_, rfl⟩
      have rd : ∀ (wx : World), Below w.heap.size w wx → wx.cell? ⟨g, i * 2, none⟩ = some (.int .i64 xi) ∧ wx.cell? ⟨g, i * 2 + 1, none⟩ = some (.int .i64 yi) ∧ wx.cell? ⟨g, k * 2, none⟩ = some (.int .i64 xk) ∧ wx.cell? ⟨g, k * 2 + 1, none⟩ = some (.int .i64 yk) := fun wx hx => by
        have a := (HP.out.on hx hg).2 i (by have := HN.out; omega)
        have b := (HP.out.on hx hg).2 k (by have := HN.out; omega)
        rw [← hpi] at a
        rw [← hpk] at b
        exact ⟨a.1, a.2, b.1, b.2⟩
      rw [← hpi] at s0 s1 si
      rw [← hpk] at t0 t1 sk
      dsimp only at s0 s1 t0 t1 si sk
      have RD := hid rd
      have HPI := hid hpi
      have HPK := hid hpk
      clear rd hpi hpk
      have i0' : (0 : Int) ≤ (i : Nat) := by omega
      have i1' : ((i : Nat) : Int) < (n : Nat) := by omega
      have k0' : (0 : Int) ≤ (k : Nat) := by omega
      have k1' : ((k : Nat) : Int) < (n : Nat) := by omega
      go_wp2_with fail
      go_region_held3 (fun w' => w'.cell? ⟨g, i * 2, none⟩ = some (.int .i64 xi) ∧ w'.cell? ⟨g, i * 2 + 1, none⟩ = some (.int .i64 yi) ∧ w'.cell? ⟨g, k * 2, none⟩ = some (.int .i64 xk) ∧ w'.cell? ⟨g, k * 2 + 1, none⟩ = some (.int .i64 yk))
        (first | exact ⟨s0, s1, t0, t1⟩ | exact RD.out _ B2.out)
        ((go_at_call 75; refine (ahead_any xi yi xk yk (by omega) (by omega) _).mono ?_; rintro e w2 ⟨rfl, hb2⟩; have B2 := hid (show Below w.heap.size w w2 from HB.out.trans (Below.trans (b := _) ((Below.refl _ _).drew) (hb2.mono (by have := HB.out.size; simp; omega)))); clear hb2))
      clear s0 s1 t0 t1
      cases ha : decide (keyP (xi, yi) < keyP (xk, yk))
      · go_wp2
        go_roundw
        case rel => exact ⟨k, i + 1, hk, by omega, rfl, by go_num, fun j hj => by
          rcases Nat.lt_or_ge j i with h1 | h1
          · exact hmin.out j h1
          · obtain rfl : j = i := by omega
            rw [← HPI.out, ← HPK.out]
            simp at ha; exact ha, B2.out⟩
        case measure => simp [intOf]; omega
      · go_wp2
        go_roundw
        case rel => exact ⟨i, i + 1, hlt, by omega, rfl, by go_num, fun j hj => by
          rcases Nat.lt_or_ge j i with h1 | h1
          · have := hmin.out j h1
            rw [← HPK.out] at this
            rw [← HPI.out]
            simp at ha; omega
          · obtain rfl : j = i := by omega
            exact Int.le_refl _, B2.out⟩
        case measure => simp [intOf]; omega
    · have e1 : i = n := by omega
      have hk0 : (0 : Int) ≤ (k : Nat) := by omega
      have hk1 : ((k : Nat) : Int) ≤ (n : Nat) := by omega
      have hc1 : ((n : Nat) : Int) ≤ (cap : Nat) := by omega
      have hc2 : ((k : Nat) : Int) ≤ (cap : Nat) := by omega
      have nw1 := hid ((HP.out.on HB.out hg).news k (n - k) (by have := HN.out; omega))
      have d1 : (l.drop k).take (n - k) = l.drop k := List.take_of_length_le (by have := HN.out; simp; omega)
      rw [d1] at nw1
      have l1 := hid (show (Qm.ptsV (l.drop k)).length = (n - k) * 2 by rw [Qm.ptsV_len]; simp; have := HN.out; omega)
      have l2 := hid (show (Qm.ptsV (l.take k)).length = k * 2 by rw [Qm.ptsV_len]; simp; have := HN.out; omega)
      have hsz := HB.out.size
      clear d1
      go_wp2_with (first
        | (at_builtin; refine wpList_append_own _ rfl _ _ 41 rfl w.heap.size 47 i0 (.agg #[.int .i64 0, .int .i64 0]) 2 16 Try.underlying41 hi hz0 hz1 hz2 rfl (by decide) _ _ _ rfl (World.ownsRow_nil _ _ _ _) ⟨g, k * 2, none⟩ (n - k) (cap - k) (Qm.ptsV (l.drop k)) rfl l1.out nw1.out (pts_one _) (by unfold maxLen; omega) (by omega) hsz ?_))
      intro v1 w1 o1 g1 _
      have B1 := hid (show Below w.heap.size w w1 from HB.out.grown g1 hsz (fun q hq => by simp [Value.ownBlock] at hq))
      have O1 := hid o1
      have hsz1 := B1.out.size
      clear o1 g1 nw1 HB
      have nw2 := hid ((HP.out.on B1.out hg).news 0 k (by have := HN.out; omega))
      simp only [List.drop_zero, Nat.zero_mul] at nw2
      go_wp2_with (first
        | (at_builtin; refine wpList_append_own _ rfl _ _ 41 rfl w.heap.size 47 i0 (.agg #[.int .i64 0, .int .i64 0]) 2 16 Try.underlying41 hi hz0 hz1 hz2 rfl (by decide) _ _ _ rfl O1.out ⟨g, 0, none⟩ k cap (Qm.ptsV (l.take k)) rfl l2.out nw2.out (pts_one _) (by unfold maxLen; omega) (by omega) hsz1 ?_))
      intro v2 w2 o2 g2 _
      have B2 := hid (show Below w.heap.size w w2 from B1.out.grown g2 hsz1 (fun q hq => (O1.out.lt q hq).1))
      have O2 := hid o2
      clear o2 g2
      go_wp2
      go_ret
      refine ⟨_, k, rfl, hk, fun j hj => hmin.out j (by omega), ?_, B2.out⟩
      have := O2.out
      rw [← ptsV_app, show n - k + k = n by omega] at this
      exact this
end Go.Proofs.Ytljfiefobnncaaa
