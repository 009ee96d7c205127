import Derived.Test.YtgapfjjdccohkaaJcounted19
import Derived.Deep.MidRow
import Derived.Test.YtgapfjjdccohkaaJcounted08

/- outlineref.turned, Twice. -/
namespace Go.Proofs.Ytgapfjjdccohkaa
open Go.RowKit
attribute [local go_sem ↓] Go.wp_at_zero Go.wp_at_succ

theorem pts_one (l : List (Int × Int)) : ∀ u ∈ Qm.ptsV l, u.oneCell' = true := by
  intro u hu
  simp only [Qm.ptsV, List.mem_flatMap] at hu
  obtain ⟨s, _, hs⟩ := hu
  simp only [Qm.ptV, List.mem_cons, List.not_mem_nil, or_false] at hs
  rcases hs with rfl | rfl <;> rfl
theorem ptsV_app (a b : List (Int × Int)) : Qm.ptsV (a ++ b) = Qm.ptsV a ++ Qm.ptsV b := by simp [Qm.ptsV]
/-- The cells of a row of points, from number k on. -/
theorem PtsAt.news {g : Nat} {l : List (Int × Int)} {w : World} (h : PtsAt g l w) (k m : Nat) (hk : k + m ≤ l.length) : ∀ j u, (Qm.ptsV ((l.drop k).take m))[j]? = some u → w.cell? ((⟨g, k * 2, none⟩ : Addr).add j) = some u := by
  intro j u hj
  have hl : (Qm.ptsV ((l.drop k).take m)).length = m * 2 := by rw [Qm.ptsV_len]; simp; omega
  have hj2 : j < m * 2 := by rw [← hl]; exact (List.getElem?_eq_some_iff.1 hj).1
  rw [Addr.add_mid]
  have e := ptsV_at ((l.drop k).take m) (j / 2) (by simp; omega)
  have d : ((l.drop k).take m).getD (j / 2) (0, 0) = l.getD (k + j / 2) (0, 0) := by
    simp only [List.getD_eq_getElem?_getD, List.getElem?_take, List.getElem?_drop]
    rw [if_pos (by omega)]
  rw [d] at e
  have p := h.2 (k + j / 2) (by omega)
  rcases (show j = j / 2 * 2 ∨ j = j / 2 * 2 + 1 by omega) with hh | hh
  · rw [hh] at hj
    rw [e.1] at hj
    rw [show k * 2 + j = (k + j / 2) * 2 from by omega, p.1]
    exact hj
  · rw [hh] at hj
    rw [e.2] at hj
    rw [show k * 2 + j = (k + j / 2) * 2 + 1 from by omega, p.2]
    exact hj

set_option maxRecDepth 4000 in
set_option maxHeartbeats 2000000 in
theorem turned_any (g n cap : Nat) (l : List (Int × Int)) (hn : n = l.length) (h0 : 0 < n) (hc : n ≤ cap) (hs : Qm.Small l) (hn2 : n ≤ 4356) (w : World) (hP : PtsAt g l w) :
    Calls Try.prog 46 #[.slice (some ⟨g, 0, none⟩) n cap] w fun e w' => ∃ v k, e = .returned v ∧ k < n ∧ (∀ j, j < n → keyP (l.getD k (0, 0)) ≤ keyP (l.getD j (0, 0))) ∧ w'.ownsRow w.heap.size 47 2 v n (Qm.ptsV (l.drop k ++ l.take k)) ∧ Below w.heap.size w w' := by
  obtain ⟨i0, hi, hz0, hz1, hz2⟩ := info_parts infoPoint
  have HP := hid hP
  have hg := hP.1
  have HN := hid hn
  clear hP hn
  go_enter Try.func46, Try.ntmps46
  go_wp2
  go_loopw [3, 4] (fun kv iv wr => ∃ (k i : Nat), k < n ∧ i ≤ n ∧ kv = .int .i64 k ∧ iv = .int .i64 i ∧ Hid (∀ j, j < i → keyP (l.getD k (0, 0)) ≤ keyP (l.getD j (0, 0))) ∧ Below w.heap.size w wr) (fun _ i _ => n - (intOf i).toNat)
  case atStart => exact ⟨0, 0, by omega, by omega, rfl, rfl, fun j hj => by omega, Below.refl _ _⟩
  case round =>
    obtain ⟨k, i, hk, hi2, rfl, rfl, hmin, hb⟩ := hrel
    have HB := hid hb
    clear hb
    by_cases hlt : i < n
    · obtain ⟨s0, s1⟩ := (HP.out.on HB.out hg).2 i (by have := HN.out; omega)
      obtain ⟨t0, t1⟩ := (HP.out.on HB.out hg).2 k (by have := HN.out; omega)
      have si := hs.at i
      have sk := hs.at k
      obtain ⟨⟨xi, yi⟩, hpi⟩ : ∃ t, t = l.getD i (0, 0) := ⟨_, rfl⟩
      obtain ⟨⟨xk, yk⟩, hpk⟩ : ∃ t, t = l.getD k (0, 0) := ⟨_, rfl⟩
      have rd : ∀ (wx : World), Below w.heap.size w wx → wx.cell? ⟨g, i * 2, none⟩ = some (.int .i64 xi) ∧ wx.cell? ⟨g, i * 2 + 1, none⟩ = some (.int .i64 yi) ∧ wx.cell? ⟨g, k * 2, none⟩ = some (.int .i64 xk) ∧ wx.cell? ⟨g, k * 2 + 1, none⟩ = some (.int .i64 yk) := fun wx hx => by
        have a := (HP.out.on hx hg).2 i (by have := HN.out; omega)
        have b := (HP.out.on hx hg).2 k (by have := HN.out; omega)
        rw [← hpi] at a
        rw [← hpk] at b
        exact ⟨a.1, a.2, b.1, b.2⟩
      rw [← hpi] at s0 s1 si
      rw [← hpk] at t0 t1 sk
      dsimp only at s0 s1 t0 t1 si sk
      have RD := hid rd
      have HPI := hid hpi
      have HPK := hid hpk
      clear rd hpi hpk
      have i0' : (0 : Int) ≤ (i : Nat) := by omega
      have i1' : ((i : Nat) : Int) < (n : Nat) := by omega
      have k0' : (0 : Int) ≤ (k : Nat) := by omega
      have k1' : ((k : Nat) : Int) < (n : Nat) := by omega
      go_wp2_with fail
      go_region_held3 (fun w' => w'.cell? ⟨g, i * 2, none⟩ = some (.int .i64 xi) ∧ w'.cell? ⟨g, i * 2 + 1, none⟩ = some (.int .i64 yi) ∧ w'.cell? ⟨g, k * 2, none⟩ = some (.int .i64 xk) ∧ w'.cell? ⟨g, k * 2 + 1, none⟩ = some (.int .i64 yk))
        (first | exact ⟨s0, s1, t0, t1⟩ | exact RD.out _ B2.out)
        ((go_at_call 61; refine (ahead_any xi yi xk yk (by omega) (by omega) _).mono ?_; rintro e w2 ⟨rfl, hb2⟩; have B2 := hid (show Below w.heap.size w w2 from HB.out.trans (Below.trans (b := _) ((Below.refl _ _).drew) (hb2.mono (by have := HB.out.size; simp; omega)))); clear hb2))
      clear s0 s1 t0 t1
      cases ha : decide (keyP (xi, yi) < keyP (xk, yk))
      · go_wp2
        go_roundw
        case rel => exact ⟨k, i + 1, hk, by omega, rfl, by go_num, fun j hj => by
          rcases Nat.lt_or_ge j i with h1 | h1
          · exact hmin.out j h1
          · obtain rfl : j = i := by omega
            rw [← HPI.out, ← HPK.out]
            simp at ha; exact ha, B2.out⟩
        case measure => simp [intOf]; omega
      · go_wp2
        go_roundw
        case rel => exact ⟨i, i + 1, hlt, by omega, rfl, by go_num, fun j hj => by
          rcases Nat.lt_or_ge j i with h1 | h1
          · have := hmin.out j h1
            rw [← HPK.out] at this
            rw [← HPI.out]
            simp at ha; omega
          · obtain rfl : j = i := by omega
            exact Int.le_refl _, B2.out⟩
        case measure => simp [intOf]; omega
    · have e1 : i = n := by omega
      have hk0 : (0 : Int) ≤ (k : Nat) := by omega
      have hk1 : ((k : Nat) : Int) ≤ (n : Nat) := by omega
      have hc1 : ((n : Nat) : Int) ≤ (cap : Nat) := by omega
      have hc2 : ((k : Nat) : Int) ≤ (cap : Nat) := by omega
      have nw1 := hid ((HP.out.on HB.out hg).news k (n - k) (by have := HN.out; omega))
      have d1 : (l.drop k).take (n - k) = l.drop k := List.take_of_length_le (by have := HN.out; simp; omega)
      rw [d1] at nw1
      have l1 := hid (show (Qm.ptsV (l.drop k)).length = (n - k) * 2 by rw [Qm.ptsV_len]; simp; have := HN.out; omega)
      have l2 := hid (show (Qm.ptsV (l.take k)).length = k * 2 by rw [Qm.ptsV_len]; simp; have := HN.out; omega)
      have hsz := HB.out.size
      clear d1
      go_wp2_with (first
        | (at_builtin; refine wpList_append_own _ rfl _ _ 41 rfl w.heap.size 47 i0 (.agg #[.int .i64 0, .int .i64 0]) 2 16 Try.underlying41 hi hz0 hz1 hz2 rfl (by decide) _ _ _ rfl (World.ownsRow_nil _ _ _ _) ⟨g, k * 2, none⟩ (n - k) (cap - k) (Qm.ptsV (l.drop k)) rfl l1.out nw1.out (pts_one _) (by unfold maxLen; omega) (by omega) hsz ?_))
      intro v1 w1 o1 g1 _
      have B1 := hid (show Below w.heap.size w w1 from HB.out.grown g1 hsz (fun q hq => by simp [Value.ownBlock] at hq))
      have O1 := hid o1
      have hsz1 := B1.out.size
      clear o1 g1 nw1 HB
      have nw2 := hid ((HP.out.on B1.out hg).news 0 k (by have := HN.out; omega))
      simp only [List.drop_zero, Nat.zero_mul] at nw2
      go_wp2_with (first
        | (at_builtin; refine wpList_append_own _ rfl _ _ 41 rfl w.heap.size 47 i0 (.agg #[.int .i64 0, .int .i64 0]) 2 16 Try.underlying41 hi hz0 hz1 hz2 rfl (by decide) _ _ _ rfl O1.out ⟨g, 0, none⟩ k cap (Qm.ptsV (l.take k)) rfl l2.out nw2.out (pts_one _) (by unfold maxLen; omega) (by omega) hsz1 ?_))
      intro v2 w2 o2 g2 _
      have B2 := hid (show Below w.heap.size w w2 from B1.out.grown g2 hsz1 (fun q hq => (O1.out.lt q hq).1))
      have O2 := hid o2
      clear o2 g2
      go_wp2
      go_ret
      refine ⟨_, k, rfl, hk, fun j hj => hmin.out j (by omega), ?_, B2.out⟩
      have := O2.out
      rw [← ptsV_app, show n - k + k = n by omega] at this
      exact this
end Go.Proofs.Ytgapfjjdccohkaa

/- outlineref.Twice. -/
namespace Go.Proofs.Ytgapfjjdccohkaa
open Go.RowKit

set_option maxRecDepth 4000 in
set_option maxHeartbeats 2000000 in
theorem refTwice_any (g n cap : Nat) (l : List (Int × Int)) (hn : n = l.length) (h0 : 0 < n) (hs : Qm.Small l) (hn2 : n ≤ 4356) (w : World) (hP : PtsAt g l w) :
    Calls Try.prog 48 #[.slice (some ⟨g, 0, none⟩) n cap] w fun e w' => e = .returned (.int .i64 (Qm.twiceOf l)) ∧ Below w.heap.size w w' := by
  have HP := hid hP
  have hg := hP.1
  have HN := hid hn
  have e0 : ((n : Int) == 0) = false := by simp; omega
  clear hP hn
  go_enter Try.func48, Try.ntmps48
  go_wp2
  go_loopw [3, 4] (fun sm i wr => ∃ k : Nat, k ≤ n ∧ i = .int .i64 k ∧ sm = .int .i64 (Qm.fsum l k) ∧ Below w.heap.size w wr) (fun _ i _ => n - (intOf i).toNat)
  case atStart => exact ⟨0, by omega, rfl, rfl, Below.refl _ _⟩
  case round =>
    obtain ⟨k, hk, rfl, rfl, hb⟩ := hrel
    have HB := hid hb
    have ts := Qm.fsum_small hs k
    by_cases hlt : k < n
    · obtain ⟨r, hr⟩ : ∃ r, r = (k + 1) % n := ⟨_, rfl⟩
      have hrn : r < n := by rw [hr]; exact Nat.mod_lt _ h0
      have er : ((k : Int) + 1) % (n : Int) = (r : Nat) := by rw [hr]; simp
      obtain ⟨r0, r1⟩ := (HP.out.on hb hg).2 k (by have := HN.out; omega)
      obtain ⟨q0, q1⟩ := (HP.out.on hb hg).2 r (by have := HN.out; omega)
      have sp := hs.at k
      have sq := hs.at r
      have E2 : Hid (Qm.fsum l (k + 1) = Qm.fsum l k + ((l.getD k (0, 0)).2 * (l.getD r (0, 0)).1 - (l.getD k (0, 0)).1 * (l.getD r (0, 0)).2)) := by rw [hr, HN.out]; rfl
      have m1 := Qm.mul_small sp.2.2.1 sp.2.2.2 sq.1 sq.2.1
      have m2 := Qm.mul_small sp.1 sp.2.1 sq.2.2.1 sq.2.2.2
      obtain ⟨⟨pa, pb⟩, hpp⟩ : ∃ p, p = l.getD k (0, 0) := ⟨_, rfl⟩
      obtain ⟨⟨qa, qb⟩, hqq⟩ : ∃ p, p = l.getD r (0, 0) := ⟨_, rfl⟩
      rw [← hpp] at r0 r1 m1 m2 sp E2
      rw [← hqq] at q0 q1 m1 m2 sq E2
      dsimp only at r0 r1 q0 q1 m1 m2 sp sq
      obtain ⟨u, hu⟩ : ∃ u, pb * qa = u := ⟨_, rfl⟩
      obtain ⟨z, hzz⟩ : ∃ z, pa * qb = z := ⟨_, rfl⟩
      rw [hu] at m1
      rw [hzz] at m2
      have hz := HB.out.size
      have b1 : (0 : Int) ≤ (r : Nat) := by omega
      have b2 : ((r : Nat) : Int) < (n : Nat) := by omega
      have hg2 : g < wr.heap.size := by omega
      clear hb hpp hqq hr
      go_wp2
      go_roundw
      case rel => exact ⟨k + 1, by omega, by go_num, by rw [E2.out]; dsimp only; rw [hu, hzz]; congr 1; omega, (HB.out.alloc hz _).alloc (by simp; omega) _⟩
      case measure => simp [intOf]; omega
    · have ek : k = n := by omega
      go_wp2
      go_ret
      exact ⟨ret_int (by rw [ek, HN.out]; exact (Qm.twiceOf_fsum l).symm), HB.out⟩
end Go.Proofs.Ytgapfjjdccohkaa

/- outlineref.sorted. -/
namespace Go.Proofs.Ytgapfjjdccohkaa
open Go.RowKit
attribute [local go_sem ↓] Go.wp_at_zero Go.wp_at_succ

/-- A shape: where its points are, twice its area; and its first point. -/
abbrev Ent : Type := Value × Int × (Int × Int)
def entV (L : List Ent) : List Value := L.flatMap fun e => [e.1, .int .i64 e.2.1]
theorem entV_app (a b : List Ent) : entV (a ++ b) = entV a ++ entV b := by simp [entV]
theorem entV_len (L : List Ent) : (entV L).length = L.length * 2 := by
  induction L with
  | nil => rfl
  | cons p l ih => simp only [entV, List.flatMap_cons, List.length_append] at *; rw [ih]; simp; omega
theorem entV_at (L : List Ent) (e0 : Ent) : ∀ j, j < L.length → (entV L)[j * 2]? = some (L.getD j e0).1 ∧ (entV L)[j * 2 + 1]? = some (.int .i64 (L.getD j e0).2.1) := by
  induction L with
  | nil => intro j hj; simp at hj
  | cons p l ih =>
    intro j hj
    cases j with
    | zero => simp [entV]
    | succ j =>
      have := ih j (by simpa using hj)
      have e : entV (p :: l) = p.1 :: .int .i64 p.2.1 :: entV l := by simp [entV]
      rw [e, show (j + 1) * 2 = j * 2 + 1 + 1 from by omega, show j * 2 + 1 + 1 + 1 = (j * 2 + 1) + 1 + 1 from by omega]
      simpa using this

/-- The points of v begin with p. -/
def HeadAt (v : Value) (p : Int × Int) (w : World) : Prop := ∃ g n cap, v = .slice (some ⟨g, 0, none⟩) n cap ∧ 0 < n ∧ g < w.heap.size ∧ w.cell? ⟨g, 0, none⟩ = some (.int .i64 p.1) ∧ w.cell? ⟨g, 1, none⟩ = some (.int .i64 p.2)
/-- The row of shapes stands, with the first point of each. -/
structure EntsAt (gl : Nat) (L : List Ent) (w : World) : Prop where
  lt : gl < w.heap.size
  cells : ∀ j e0, j < L.length → w.cell? ⟨gl, j * 2, none⟩ = some (L.getD j e0).1 ∧ w.cell? ⟨gl, j * 2 + 1, none⟩ = some (.int .i64 (L.getD j e0).2.1)
  heads : ∀ e ∈ L, HeadAt e.1 e.2.2 w ∧ 0 ≤ e.2.2.1 ∧ e.2.2.1 ≤ 32
theorem HeadAt.on {v : Value} {p : Int × Int} {w w' : World} (h : HeadAt v p w) (hb : Below w.heap.size w w') : HeadAt v p w' := by
  obtain ⟨g, n, cap, e, h0, hg, c0, c1⟩ := h
  exact ⟨g, n, cap, e, h0, Nat.lt_of_lt_of_le hg hb.size, (hb.cell (p := ⟨g, 0, none⟩) hg).trans c0, (hb.cell (p := ⟨g, 1, none⟩) hg).trans c1⟩
theorem EntsAt.on {gl : Nat} {L : List Ent} {w w' : World} (h : EntsAt gl L w) (hb : Below w.heap.size w w') : EntsAt gl L w' :=
  ⟨Nat.lt_of_lt_of_le h.lt hb.size, fun j e0 hj => ⟨(hb.cell (p := ⟨gl, j * 2, none⟩) h.lt).trans (h.cells j e0 hj).1, (hb.cell (p := ⟨gl, j * 2 + 1, none⟩) h.lt).trans (h.cells j e0 hj).2⟩, fun e he => ⟨(h.heads e he).1.on hb, (h.heads e he).2⟩⟩

/-- What has been laid behind i of them: before the new one has its place, and behind. -/
def InsAt (L : List Ent) (e0 : Ent) (i : Nat) (b : Bool) (out : List Ent) : Prop :=
  (b = false ∧ out = L.take i ∧ ∀ j, j < i → ¬ keyP e0.2.2 < keyP (L.getD j e0).2.2) ∨
  (b = true ∧ ∃ j, j < i ∧ j < L.length ∧ out = L.take j ++ e0 :: (L.drop j).take (i - j) ∧ (∀ m, m < j → ¬ keyP e0.2.2 < keyP (L.getD m e0).2.2) ∧ keyP e0.2.2 < keyP (L.getD j e0).2.2)
theorem take_getD (L : List Ent) (e0 : Ent) (i : Nat) (h : i < L.length) : L.take (i + 1) = L.take i ++ [L.getD i e0] := by
  rw [List.take_succ_eq_append_getElem h, List.getD_eq_getElem?_getD, List.getElem?_eq_getElem h]; rfl
theorem drop_take_getD (L : List Ent) (e0 : Ent) (j i : Nat) (hj : j ≤ i) (h : i < L.length) : (L.drop j).take (i + 1 - j) = (L.drop j).take (i - j) ++ [L.getD i e0] := by
  rw [show i + 1 - j = (i - j) + 1 from by omega, List.take_succ_eq_append_getElem (by simp; omega)]
  congr 1
  rw [List.getD_eq_getElem?_getD, List.getElem?_eq_getElem h, List.getElem_drop]
  simp only [Option.getD_some, List.cons.injEq, and_true]
  congr 1; omega
/-- The new one comes first. -/
theorem InsAt.put {L : List Ent} {e0 : Ent} {i : Nat} {out : List Ent} (h : InsAt L e0 i false out) (hi : i < L.length) (ha : keyP e0.2.2 < keyP (L.getD i e0).2.2) : InsAt L e0 (i + 1) true (out ++ [e0] ++ [L.getD i e0]) := by
  rcases h with ⟨_, rfl, h3⟩ | ⟨h1, _⟩
  · refine .inr ⟨rfl, i, by omega, hi, ?_, h3, ha⟩
    rw [drop_take_getD L e0 i i (Nat.le_refl _) hi]
    simp
  · cases h1
theorem InsAt.go {L : List Ent} {e0 : Ent} {i : Nat} {b : Bool} {out : List Ent} (h : InsAt L e0 i b out) (hi : i < L.length) (ha : b = true ∨ ¬ keyP e0.2.2 < keyP (L.getD i e0).2.2) : InsAt L e0 (i + 1) b (out ++ [L.getD i e0]) := by
  rcases h with ⟨rfl, rfl, h3⟩ | ⟨rfl, j, h1, h2, rfl, h3, h4⟩
  · refine .inl ⟨rfl, (take_getD L e0 i hi).symm, fun j hj => ?_⟩
    rcases Nat.lt_or_ge j i with h5 | h5
    · exact h3 j h5
    · obtain rfl : j = i := by omega
      exact ha.resolve_left (by simp)
  · refine .inr ⟨rfl, j, by omega, h2, ?_, h3, h4⟩
    rw [drop_take_getD L e0 j i (by omega) hi]
    simp
/-- The whole, with the new one in its place. -/
def InsOut (L : List Ent) (e0 : Ent) (out : List Ent) : Prop := ∃ j, j ≤ L.length ∧ out = L.take j ++ e0 :: L.drop j ∧ (∀ m, m < j → ¬ keyP e0.2.2 < keyP (L.getD m e0).2.2) ∧ (j < L.length → keyP e0.2.2 < keyP (L.getD j e0).2.2)
theorem InsAt.done {L : List Ent} {e0 : Ent} {out : List Ent} (h : InsAt L e0 L.length true out) : InsOut L e0 out := by
  rcases h with ⟨h1, _⟩ | ⟨_, j, h1, h2, rfl, h3, h4⟩
  · cases h1
  · exact ⟨j, by omega, by rw [List.take_of_length_le (l := L.drop j) (by simp)], h3, fun _ => h4⟩
theorem InsAt.last {L : List Ent} {e0 : Ent} {out : List Ent} (h : InsAt L e0 L.length false out) : InsOut L e0 (out ++ [e0]) := by
  rcases h with ⟨_, rfl, h3⟩ | ⟨h1, _⟩
  · exact ⟨L.length, Nat.le_refl _, by simp, h3, fun h => by omega⟩
  · cases h1
end Go.Proofs.Ytgapfjjdccohkaa

/- outlineref.sorted, walked. -/
namespace Go.Proofs.Ytgapfjjdccohkaa
open Go.RowKit
attribute [local go_sem ↓] Go.wp_at_zero Go.wp_at_succ

theorem two_at (w : World) (g : Nat) (a b : Value) (t : TypeId) (hg : g = w.heap.size) : ∀ j u, [a, b][j]? = some u → (w.alloc (.cells #[a, b] t)).cell? ((⟨g, 0, none⟩ : Addr).add j) = some u := by
  subst hg
  intro j u hj
  rw [add_zero_at, World.cell?_alloc_new]
  simpa using hj

theorem two_oneD {a b : Value} (ha : a.oneCell' = true) (hb : b.oneCell' = true) : ∀ u ∈ [a, b], u.oneCell' = true := by
  intro u hu
  simp at hu
  rcases hu with rfl | rfl <;> assumption

/-- A box of two cells stands; below it all is as it was. -/
def Bx2 (B : Nat) (a b : Value) (w wr : World) : Prop := wr.cell? ⟨B, 0, none⟩ = some a ∧ wr.cell? ⟨B, 1, none⟩ = some b ∧ Below B w wr ∧ B < wr.heap.size
theorem Bx2.onB {B : Nat} {a b : Value} {w wr w2 : World} (h : Bx2 B a b w wr) (hb : Below (B + 1) wr w2) : Bx2 B a b w w2 :=
  ⟨(hb.cell (p := ⟨B, 0, none⟩) (by simp)).trans h.1, (hb.cell (p := ⟨B, 1, none⟩) (by simp)).trans h.2.1, h.2.2.1.trans (hb.mono (by omega)), Nat.lt_of_lt_of_le h.2.2.2 hb.size⟩

set_option maxRecDepth 4000 in
set_option maxHeartbeats 2000000 in
theorem sorted_any (ao : Option Addr) (n cap : Nat) (L : List Ent) (e0 : Ent) (w : World) (hL : n = L.length) (hl : n = 0 ∨ ∃ gl, ao = some ⟨gl, 0, none⟩ ∧ EntsAt gl L w) (h0 : HeadAt e0.1 e0.2.2 w) (hs : 0 ≤ e0.2.2.1 ∧ e0.2.2.1 ≤ 32) (hn : n ≤ 5000) :
    Calls Try.prog 47 #[.slice ao n cap, .agg #[e0.1, .int .i64 e0.2.1]] w fun e w' => ∃ v out, e = .returned v ∧ InsOut L e0 out ∧ w'.ownsRow w.heap.size 43 2 v (n + 1) (entV out) ∧ Below w.heap.size w w' := by
  obtain ⟨i0, hi, hz0, hz1, hz2⟩ := info_parts infoShape
  obtain ⟨v0, tw0, x0, y0⟩ := e0
  dsimp only at h0 hs
  have H0 := hid h0
  obtain ⟨g0, n0, cap0, rfl, hn0, hg0, p0, p1⟩ := h0
  have HLL := hid hL
  have HL := hid hl
  obtain ⟨E0, hE0⟩ : ∃ E0 : Ent, E0 = (.slice (some ⟨g0, 0, none⟩) n0 cap0, tw0, x0, y0) := ⟨_, rfl⟩
  rw [← hE0]
  have HE0 := hid hE0
  have k0 : Hid (keyP E0.2.2 = keyP (x0, y0)) := by rw [hE0]; rfl
  have vE : (E0.1 = .slice (some ⟨g0, 0, none⟩) n0 cap0) := by rw [hE0]
  have tE : (E0.2.1 = tw0) := by rw [hE0]
  rw [vE, tE]
  have ent0 : Hid (∀ out : List Ent, entV (out ++ [E0]) = entV out ++ [.slice (some ⟨g0, 0, none⟩) n0 cap0, .int .i64 tw0]) := fun out => by rw [entV_app]; simp [entV, vE, tE]
  clear hL hl hE0 vE tE
  go_enter Try.func47, Try.ntmps47
  go_wp2
  go_loopw [5, 6, 7] (fun ov bv iv wr => ∃ (i : Nat) (b : Bool) (out : List Ent), i ≤ n ∧ iv = .int .i64 i ∧ bv = .bool b ∧ Hid (InsAt L E0 i b out) ∧ out.length ≤ i + 1 ∧ Hid (out.length = i + if b then 1 else 0) ∧ Hid (wr.ownsRow (w.heap.size + 1) 43 2 ov out.length (entV out)) ∧ Hid (Bx2 w.heap.size (.slice (some ⟨g0, 0, none⟩) n0 cap0) (.int .i64 tw0) w wr)) (fun _ _ i _ => n - (intOf i).toNat)
  case atStart => exact ⟨0, false, [], by omega, rfl, rfl, .inl ⟨rfl, rfl, fun j hj => by omega⟩, by simp, hid (by simp), World.ownsRow_nil _ _ _ _, ⟨by simp, by simp, by go_grown, by simp⟩⟩
  case round =>
    obtain ⟨i, b, out, hin, rfl, rfl, hI, hol, hol2, hown, hX⟩ := hrel
    obtain ⟨b0, b1, -, hz⟩ := hX.out
    by_cases hlt : i < n
    · obtain ⟨gl, rfl, hEA⟩ := HL.out.resolve_left (by omega)
      have HEA := hid hEA
      have hgl := hEA.lt
      clear hEA
      have hiL : i < L.length := by have := HLL.out; omega
      obtain ⟨Ei, hEi⟩ : ∃ Ei, Ei = L.getD i E0 := ⟨_, rfl⟩
      have hmem : Ei ∈ L := by rw [hEi, List.getD_eq_getElem?_getD, List.getElem?_eq_getElem hiL]; exact List.getElem_mem hiL
      obtain ⟨hhd, si0, si1⟩ := HEA.out.heads Ei hmem
      have HEi := hid hEi
      obtain ⟨vi, twi, xi, yi⟩ := Ei
      dsimp only at hhd si0 si1
      obtain ⟨gi, ni, capi, rfl, hni, hgi, q0, q1⟩ := hhd
      have rd : ∀ (wx : World), Below w.heap.size w wx → wx.cell? ⟨g0, 0, none⟩ = some (.int .i64 x0) ∧ wx.cell? ⟨g0, 1, none⟩ = some (.int .i64 y0) ∧ wx.cell? ⟨gi, 0, none⟩ = some (.int .i64 xi) ∧ wx.cell? ⟨gi, 1, none⟩ = some (.int .i64 yi) ∧ wx.cell? ⟨gl, i * 2, none⟩ = some (.slice (some ⟨gi, 0, none⟩) ni capi) ∧ wx.cell? ⟨gl, i * 2 + 1, none⟩ = some (.int .i64 twi) := fun wx hx => by
        have a := HEA.out.cells i E0 hiL
        rw [← HEi.out] at a
        exact ⟨(hx.cell (p := ⟨g0, 0, none⟩) hg0).trans p0, (hx.cell (p := ⟨g0, 1, none⟩) hg0).trans p1, (hx.cell (p := ⟨gi, 0, none⟩) hgi).trans q0, (hx.cell (p := ⟨gi, 1, none⟩) hgi).trans q1, (hx.cell (p := ⟨gl, i * 2, none⟩) hgl).trans a.1, (hx.cell (p := ⟨gl, i * 2 + 1, none⟩) hgl).trans a.2⟩
      have RD := hid rd
      have ki : Hid (keyP (L.getD i E0).2.2 = keyP (xi, yi)) := by rw [← HEi.out]; rfl
      have enti : Hid (∀ out : List Ent, entV (out ++ [L.getD i E0]) = entV out ++ [.slice (some ⟨gi, 0, none⟩) ni capi, .int .i64 twi]) := fun out => by rw [entV_app, ← HEi.out]; simp [entV]
      clear rd hEi p0 p1 q0 q1
      obtain ⟨m0, m1, m2, m3, m4, m5⟩ := RD.out _ hX.out.2.2.1
      have i0' : (0 : Int) ≤ (i : Nat) := by omega
      have i1' : ((i : Nat) : Int) < (n : Nat) := by omega
      have j1' : (0 : Int) < (n0 : Nat) := by omega
      have j2' : (0 : Int) < (ni : Nat) := by omega
      go_wp2_with fail
      go_region_held3 (fun w' => w'.cell? ⟨w.heap.size, 0, none⟩ = some (.slice (some ⟨g0, 0, none⟩) n0 cap0) ∧ w'.cell? ⟨g0, 0, none⟩ = some (.int .i64 x0) ∧ w'.cell? ⟨g0, 1, none⟩ = some (.int .i64 y0) ∧ w'.cell? ⟨gi, 0, none⟩ = some (.int .i64 xi) ∧ w'.cell? ⟨gi, 1, none⟩ = some (.int .i64 yi) ∧ w'.cell? ⟨gl, i * 2, none⟩ = some (.slice (some ⟨gi, 0, none⟩) ni capi))
        (first | exact ⟨b0, m0, m1, m2, m3, m4⟩ | (have hr := RD.out _ X2.out.2.2.1; exact ⟨X2.out.1, hr.1, hr.2.1, hr.2.2.1, hr.2.2.2.1, hr.2.2.2.2.1⟩))
        ((go_at_call 61; refine (ahead_any x0 y0 xi yi hs ⟨si0, si1⟩ _).mono ?_; rintro e w2 ⟨rfl, hb2⟩; have L2 := hid (show Below wr.heap.size wr w2 from Below.trans (b := _) ((Below.refl _ _).drew) hb2); have X2 := hid (hX.out.onB (L2.out.mono (by omega))); clear hb2))
      have O2 := hid (own_below hown.out L2.out)
      have z2 := L2.out.size
      obtain ⟨c0, c1, -, -⟩ := X2.out
      clear b0 b1 m0 m1 m2 m3 m4 m5
      obtain ⟨m0, m1, m2, m3, m4, m5⟩ := RD.out _ X2.out.2.2.1
      cases ha : decide (keyP (x0, y0) < keyP (xi, yi))
      · have hna : ¬ keyP E0.2.2 < keyP (L.getD i E0).2.2 := by rw [k0.out, ki.out]; simpa using ha
        have HNX := hid (hI.out.go hiL (.inr hna))
        clear hna
        cases b
        · go_wp2_with (first
            | (at_builtin; refine wpList_append_own _ rfl _ _ 35 rfl (w.heap.size + 1) 43 i0 (.agg #[.slice none 0 0, .int .i64 0]) 2 32 Try.underlying35 hi hz0 hz1 hz2 rfl (by decide) _ _ _ rfl (O2.out.alloc _) ⟨_, 0, none⟩ 1 1 [.slice (some ⟨gi, 0, none⟩) ni capi, .int .i64 twi] rfl rfl (two_at _ _ _ _ _ rfl) (two_oneD rfl rfl) (by unfold maxLen; omega) (by omega) (by simp; omega) ?_))
          intro v3 w3 o3 g3 _
          have Bl3 := hid (show Below (w.heap.size + 1) w2 w3 from ((Below.refl _ _).alloc (by omega) _).grown g3 (by simp; omega) (fun q hq => (O2.out.lt q hq).1))
          have X3 := hid (Bx2.onB X2.out Bl3.out)
          have z3 := Bl3.out.size
          have O3 := hid o3
          clear o3 g3
          go_wp2
          go_roundw
          case rel => exact ⟨i + 1, _, out ++ [L.getD i E0], by omega, by go_num, rfl, HNX, by simp; omega, hid (by simp; have := hol2.out; simp at this; omega), hid (by rw [enti.out, List.length_append]; exact O3.out), X3⟩
          case measure => simp [intOf]; omega
        · go_wp2_with (first
            | (at_builtin; refine wpList_append_own _ rfl _ _ 35 rfl (w.heap.size + 1) 43 i0 (.agg #[.slice none 0 0, .int .i64 0]) 2 32 Try.underlying35 hi hz0 hz1 hz2 rfl (by decide) _ _ _ rfl (O2.out.alloc _) ⟨_, 0, none⟩ 1 1 [.slice (some ⟨gi, 0, none⟩) ni capi, .int .i64 twi] rfl rfl (two_at _ _ _ _ _ rfl) (two_oneD rfl rfl) (by unfold maxLen; omega) (by omega) (by simp; omega) ?_))
          intro v3 w3 o3 g3 _
          have Bl3 := hid (show Below (w.heap.size + 1) w2 w3 from ((Below.refl _ _).alloc (by omega) _).grown g3 (by simp; omega) (fun q hq => (O2.out.lt q hq).1))
          have X3 := hid (Bx2.onB X2.out Bl3.out)
          have z3 := Bl3.out.size
          have O3 := hid o3
          clear o3 g3
          go_wp2
          go_roundw
          case rel => exact ⟨i + 1, _, out ++ [L.getD i E0], by omega, by go_num, rfl, HNX, by simp; omega, hid (by simp; have := hol2.out; simp at this; omega), hid (by rw [enti.out, List.length_append]; exact O3.out), X3⟩
          case measure => simp [intOf]; omega
      · have hya : keyP E0.2.2 < keyP (L.getD i E0).2.2 := by rw [k0.out, ki.out]; simpa using ha
        cases b
        · have HNX := hid (hI.out.put hiL hya)
          clear hya
          go_wp2_with (first
            | (at_builtin; refine wpList_append_own _ rfl _ _ 35 rfl (w.heap.size + 1) 43 i0 (.agg #[.slice none 0 0, .int .i64 0]) 2 32 Try.underlying35 hi hz0 hz1 hz2 rfl (by decide) _ _ _ rfl (O2.out.alloc _) ⟨_, 0, none⟩ 1 1 [.slice (some ⟨g0, 0, none⟩) n0 cap0, .int .i64 tw0] rfl rfl (two_at _ _ _ _ _ rfl) (two_oneD rfl rfl) (by unfold maxLen; omega) (by omega) (by simp; omega) ?_))
          intro v3 w3 o3 g3 _
          have Bl3 := hid (show Below (w.heap.size + 1) w2 w3 from ((Below.refl _ _).alloc (by omega) _).grown g3 (by simp; omega) (fun q hq => (O2.out.lt q hq).1))
          have X3 := hid (Bx2.onB X2.out Bl3.out)
          have z3 := Bl3.out.size
          have O3 := hid o3
          clear o3 g3
          obtain ⟨d0, d1, -, -⟩ := X3.out
          clear c0 c1 m0 m1 m2 m3 m4 m5
          obtain ⟨m0, m1, m2, m3, m4, m5⟩ := RD.out _ X3.out.2.2.1
          go_wp2_with (first
            | (at_builtin; refine wpList_append_own _ rfl _ _ 35 rfl (w.heap.size + 1) 43 i0 (.agg #[.slice none 0 0, .int .i64 0]) 2 32 Try.underlying35 hi hz0 hz1 hz2 rfl (by decide) _ _ _ rfl (O3.out.alloc _) ⟨_, 0, none⟩ 1 1 [.slice (some ⟨gi, 0, none⟩) ni capi, .int .i64 twi] rfl rfl (two_at _ _ _ _ _ rfl) (two_oneD rfl rfl) (by unfold maxLen; omega) (by omega) (by simp; omega) ?_))
          intro v4 w4 o4 g4 _
          have Bl4 := hid (show Below (w.heap.size + 1) w3 w4 from ((Below.refl _ _).alloc (by omega) _).grown g4 (by simp; omega) (fun q hq => (O3.out.lt q hq).1))
          have X4 := hid (Bx2.onB X3.out Bl4.out)
          have z4 := Bl4.out.size
          have O4 := hid o4
          clear o4 g4
          go_wp2
          go_roundw
          case rel => exact ⟨i + 1, true, out ++ [E0] ++ [L.getD i E0], by omega, by go_num, rfl, HNX, by simp; have := hol2.out; simp at this; omega, hid (by simp; have := hol2.out; simp at this; omega), hid (by rw [enti.out, ent0.out, List.length_append, List.length_append, List.append_assoc]; exact O4.out), X4⟩
          case measure => simp [intOf]; omega
        · have HNX := hid (hI.out.go hiL (.inl rfl))
          clear hya
          go_wp2_with (first
            | (at_builtin; refine wpList_append_own _ rfl _ _ 35 rfl (w.heap.size + 1) 43 i0 (.agg #[.slice none 0 0, .int .i64 0]) 2 32 Try.underlying35 hi hz0 hz1 hz2 rfl (by decide) _ _ _ rfl (O2.out.alloc _) ⟨_, 0, none⟩ 1 1 [.slice (some ⟨gi, 0, none⟩) ni capi, .int .i64 twi] rfl rfl (two_at _ _ _ _ _ rfl) (two_oneD rfl rfl) (by unfold maxLen; omega) (by omega) (by simp; omega) ?_))
          intro v3 w3 o3 g3 _
          have Bl3 := hid (show Below (w.heap.size + 1) w2 w3 from ((Below.refl _ _).alloc (by omega) _).grown g3 (by simp; omega) (fun q hq => (O2.out.lt q hq).1))
          have X3 := hid (Bx2.onB X2.out Bl3.out)
          have z3 := Bl3.out.size
          have O3 := hid o3
          clear o3 g3
          go_wp2
          go_roundw
          case rel => exact ⟨i + 1, _, out ++ [L.getD i E0], by omega, by go_num, rfl, HNX, by simp; omega, hid (by simp; have := hol2.out; simp at this; omega), hid (by rw [enti.out, List.length_append]; exact O3.out), X3⟩
          case measure => simp [intOf]; omega
    · have e1 : i = n := by omega
      have hIL : InsAt L E0 L.length b out := by rw [← HLL.out, ← e1]; exact hI.out
      have HIL := hid hIL
      clear hIL
      cases b
      · have HO := hid HIL.out.last
        go_wp2_with (first
          | (at_builtin; refine wpList_append_own _ rfl _ _ 35 rfl (w.heap.size + 1) 43 i0 (.agg #[.slice none 0 0, .int .i64 0]) 2 32 Try.underlying35 hi hz0 hz1 hz2 rfl (by decide) _ _ _ rfl (hown.out.alloc _) ⟨_, 0, none⟩ 1 1 [.slice (some ⟨g0, 0, none⟩) n0 cap0, .int .i64 tw0] rfl rfl (two_at _ _ _ _ _ rfl) (two_oneD rfl rfl) (by unfold maxLen; omega) (by omega) (by simp; omega) ?_))
        intro v3 w3 o3 g3 _
        have Bl3 := hid (show Below (w.heap.size + 1) wr w3 from ((Below.refl _ _).alloc (by omega) _).grown g3 (by simp; omega) (fun q hq => (hown.out.lt q hq).1))
        have X3 := hid (Bx2.onB hX.out Bl3.out)
        have z3 := Bl3.out.size
        have O3 := hid o3
        clear o3 g3
        go_wp2
        go_ret
        refine ⟨_, out ++ [E0], rfl, HO.out, ?_, X3.out.2.2.1⟩
        have := O3.out
        rw [← ent0.out, show out.length = n by have := hol2.out; simp at this; omega] at this
        exact this.mono (by omega)
      · have HO := hid HIL.out.done
        go_wp2
        go_ret
        refine ⟨_, rfl, out, HO.out, ?_, hX.out.2.2.1⟩
        have := hown.out
        rw [show out.length = n + 1 by have := hol2.out; simp at this; omega] at this
        exact this.mono (by omega)
end Go.Proofs.Ytgapfjjdccohkaa

/- outlineref.Cycles: what holds in its loops. -/
namespace Go.Proofs.Ytgapfjjdccohkaa
open Go.RowKit

/-! The marks of the sides by their places. -/
section
variable {f : Qm.Sd → Qm.Sd} {P : Qm.Sd → Prop}

theorem ptsOf_turn (f : Qm.Sd → Qm.Sd) (s : Qm.Sd) (n k : Nat) (hk : k < n) (he : Qm.it f n s = s) : (Qm.ptsOf f (s, n)).drop k ++ (Qm.ptsOf f (s, n)).take k = Qm.ptsOf f (Qm.it f k s, n) := by
  apply List.ext_getElem?
  intro j
  simp only [Qm.ptsOf, List.getElem?_append, List.length_drop, List.length_map, List.length_range, List.getElem?_drop, List.getElem?_take, List.getElem?_map]
  by_cases h1 : j < n - k
  · rw [if_pos h1, List.getElem?_range (show k + j < n by omega), List.getElem?_range (show j < n by omega)]
    simp only [Option.map_some]
    rw [← Qm.it_add, Nat.add_comm]
  · rw [if_neg h1]
    by_cases h2 : j < n
    · rw [if_pos (by omega), List.getElem?_range (show j - (n - k) < n by omega), List.getElem?_range h2]
      simp only [Option.map_some]
      rw [← Qm.it_add, show j + k = (j - (n - k)) + n from by omega, Qm.it_add, he]
    · rw [if_neg (by omega), List.getElem?_eq_none (by simp; omega)]; simp

def RepI (f : Qm.Sd → Qm.Sd) (SL : List Qm.Sd) (G : Nat → Bool) (R : List (Qm.Sd × Nat)) (s : Qm.Sd) (m : Nat) : Prop := ∀ j, j < SL.length → (G j = true ↔ Qm.Tk f R (SL.getD j (0, 0, 0)) ∨ ∃ i, i < m ∧ SL.getD j (0, 0, 0) = Qm.it f i s)

theorem RepI.succ {SL : List Qm.Sd} {G : Nat → Bool} {R : List (Qm.Sd × Nat)} {s : Qm.Sd} {m k : Nat} (h : RepI f SL G R s m) (hk : k < SL.length) (e : SL.getD k (0, 0, 0) = Qm.it f m s) (hnd : ∀ i j, i < SL.length → j < SL.length → SL.getD i (0, 0, 0) = SL.getD j (0, 0, 0) → i = j) : RepI f SL (Qm.mark G k) R s (m + 1) := fun j hj => by
  unfold Qm.mark
  rw [Bool.or_eq_true, h j hj, beq_iff_eq]
  constructor
  · rintro ((h | ⟨i, hi, e2⟩) | rfl)
    · exact .inl h
    · exact .inr ⟨i, by omega, e2⟩
    · exact .inr ⟨m, by omega, e⟩
  · rintro (h | ⟨i, hi, e2⟩)
    · exact .inl (.inl h)
    · rcases Nat.lt_or_ge i m with h1 | h1
      · exact .inl (.inr ⟨i, h1, e2⟩)
      · obtain rfl : i = m := by omega
        exact .inr (hnd j k hj hk (e2.trans e.symm))
theorem RepI.free {SL : List Qm.Sd} {G : Nat → Bool} {R : List (Qm.Sd × Nat)} {s : Qm.Sd} {m k : Nat} (h : RepI f SL G R s m) (hk : k < SL.length) (e : SL.getD k (0, 0, 0) = Qm.it f m s) (hG : G k = false) : ¬ Qm.Tk f R (Qm.it f m s) ∧ ∀ i, i < m → Qm.it f i s ≠ Qm.it f m s := by
  have : ¬ (Qm.Tk f R (SL.getD k (0, 0, 0)) ∨ ∃ i, i < m ∧ SL.getD k (0, 0, 0) = Qm.it f i s) := fun hh => absurd ((h k hk).2 hh) (by rw [hG]; simp)
  rw [e] at this
  exact ⟨fun hh => this (.inl hh), fun i hi e2 => this (.inr ⟨i, hi, e2.symm⟩)⟩
end

def untG (gg n : Nat) (w : World) : Nat := Qm.cntF (fun j => match w.cell? ⟨gg, j, none⟩ with | some (.bool b) => b | _ => true) n
theorem untG_of {gg n : Nat} {G : Nat → Bool} {w : World} (h : GoneAt gg n G w) : untG gg n w = Qm.cntF G n := cntF_congr _ _ _ fun i hi => by rw [(h.2 i hi).1]

/-- The answer so far, to be read: the row of shapes, and each shape's points; all of it in blocks behind gg. -/
structure Seen (f : Qm.Sd → Qm.Sd) (gg : Nat) (vl : Value) (L : List (Value × (Qm.Sd × Nat))) (w : World) : Prop where
  row : ∃ ao cap, vl = .slice ao L.length cap ∧ (L.length = 0 ∨ ∃ gl, ao = some ⟨gl, 0, none⟩ ∧ gg < gl ∧ gl < w.heap.size ∧ ∀ j u, (shpV f L)[j]? = some u → w.cell? ⟨gl, j, none⟩ = some u)
  pts : ∀ p ∈ L, ∃ g cap, p.1 = .slice (some ⟨g, 0, none⟩) p.2.2 cap ∧ p.2.2 ≤ cap ∧ 0 < p.2.2 ∧ gg < g ∧ PtsAt g (Qm.ptsOf f p.2) w
theorem Seen.nil (f : Qm.Sd → Qm.Sd) (gg : Nat) (w : World) : Seen f gg (.slice none 0 0) [] w := ⟨⟨none, 0, rfl, .inl rfl⟩, fun p hp => by simp at hp⟩
theorem Seen.on {f : Qm.Sd → Qm.Sd} {gg : Nat} {vl : Value} {L : List (Value × (Qm.Sd × Nat))} {w w' : World} (h : Seen f gg vl L w) (hb : w.grownBy w' (some gg)) : Seen f gg vl L w' := by
  have C : ∀ g j, gg < g → g < w.heap.size → w'.cell? ⟨g, j, none⟩ = w.cell? ⟨g, j, none⟩ := fun g j h1 h2 => World.cell?_of_block (a := ⟨g, j, none⟩) (hb.block g h2 (by simp; omega))
  refine ⟨?_, fun p hp => ?_⟩
  · obtain ⟨ao, cap, e, h1⟩ := h.row
    refine ⟨ao, cap, e, h1.imp id ?_⟩
    rintro ⟨gl, e2, h2, h3, h4⟩
    exact ⟨gl, e2, h2, Nat.lt_of_lt_of_le h3 hb.size, fun j u hu => (C _ _ h2 h3).trans (h4 j u hu)⟩
  · obtain ⟨g, cap, e, h1, h2, h3, h4⟩ := h.pts p hp
    exact ⟨g, cap, e, h1, h2, h3, Nat.lt_of_lt_of_le h4.1 hb.size, fun j hj => ⟨(C _ _ h3 h4.1).trans (h4.2 j hj).1, (C _ _ h3 h4.1).trans (h4.2 j hj).2⟩⟩

def entOf (f : Qm.Sd → Qm.Sd) (p : Value × (Qm.Sd × Nat)) : Ent := (p.1, Qm.twiceOf (Qm.ptsOf f p.2), Qm.fromP p.2.1)
theorem entV_map (f : Qm.Sd → Qm.Sd) (L : List (Value × (Qm.Sd × Nat))) : entV (L.map (entOf f)) = shpV f L := by
  induction L with
  | nil => rfl
  | cons p l ih =>
    have a : entV ((p :: l).map (entOf f)) = (entOf f p).1 :: .int .i64 (entOf f p).2.1 :: entV (l.map (entOf f)) := by simp [entV]
    have b : shpV f (p :: l) = p.1 :: .int .i64 (Qm.twiceOf (Qm.ptsOf f p.2)) :: shpV f l := by simp [shpV]
    rw [a, b, ih]; rfl
theorem keyP_from (s : Qm.Sd) : keyP (Qm.fromP s) = Qm.key s := rfl
theorem ptsOf_getD (f : Qm.Sd → Qm.Sd) (c : Qm.Sd × Nat) (j : Nat) (h : j < c.2) : (Qm.ptsOf f c).getD j (0, 0) = Qm.fromP (Qm.it f j c.1) := by
  simp [Qm.ptsOf, List.getD_eq_getElem?_getD, h]

/-- What holds behind i sides. -/
structure RC (W H : Nat) (s : ByteArray) (pol : Nat) (draws : ByteArray) (spk : Int) (gg gl : Nat) (SL : List Qm.Sd) (w : World) (i : Nat) (L : List (Value × (Qm.Sd × Nat))) (G : Nat → Bool) (vo : Value) (wr : World) : Prop where
  canon : ∀ p ∈ L, Qm.Canon (fB W H s pol draws) (bB W H s) Qm.key p.2
  sorted : (L.map (·.2)).Pairwise fun a b => Qm.key a.1 < Qm.key b.1
  rep : RepI (fB W H s pol draws) SL G (L.map (·.2)) (0, 0, 0) 0
  past : ∀ j, j < i → G j = true
  gone : GoneAt gg SL.length G wr
  sds : 0 < SL.length → SdsAt gl SL wr
  box : Bb w.heap.size W H s pol draws spk w wr
  lt : w.heap.size + 1 < gg ∧ gl < gg
  seen : Seen (fB W H s pol draws) gg vo L wr
  few : L.length ≤ i

section
variable {W H : Nat} {s : ByteArray} {pol : Nat} {draws : ByteArray} {spk : Int} {gg gl : Nat} {SL : List Qm.Sd} {w : World} {i : Nat} {L : List (Value × (Qm.Sd × Nat))} {G : Nat → Bool} {vo : Value} {wr : World}

theorem RC.cyc (h : RC W H s pol draws spk gg gl SL w i L G vo wr) : ∀ c ∈ L.map (·.2), Qm.Cyc (fB W H s pol draws) (bB W H s) c.1 c.2 := by
  intro c hc
  obtain ⟨p, hp, rfl⟩ := List.mem_map.1 hc
  exact (h.canon p hp).1

theorem Bb.gb {B : Nat} {w2 : World} (h : Bb B W H s pol draws spk w wr) (hb : wr.grownBy w2 (some gg)) (hg : B + 1 < gg) : Bb B W H s pol draws spk w w2 := by
  have hz := h.2.2.2.2.2.2.2
  have C : ∀ k j, k < B + 2 → w2.cell? ⟨k, j, none⟩ = wr.cell? ⟨k, j, none⟩ := fun k j h1 => World.cell?_of_block (a := ⟨k, j, none⟩) (hb.block k (by omega) (by simp; omega))
  exact ⟨(C B 0 (by omega)).trans h.1, (C B 1 (by omega)).trans h.2.1, (C B 2 (by omega)).trans h.2.2.1, (C (B + 1) 0 (by omega)).trans h.2.2.2.1, (C (B + 1) 1 (by omega)).trans h.2.2.2.2.1, (C (B + 1) 2 (by omega)).trans h.2.2.2.2.2.1, h.2.2.2.2.2.2.1.trans (gb_below_of hb (by omega) (by omega)), Nat.lt_of_lt_of_le hz hb.size⟩
theorem SdsAt.gb {l : List Qm.Sd} {g : Nat} {w2 : World} (h : SdsAt g l wr) (hb : wr.grownBy w2 (some gg)) (hg : g < gg) : SdsAt g l w2 := by
  have C : ∀ j, w2.cell? ⟨g, j, none⟩ = wr.cell? ⟨g, j, none⟩ := fun j => World.cell?_of_block (a := ⟨g, j, none⟩) (hb.block g h.1 (by simp; omega))
  exact ⟨Nat.lt_of_lt_of_le h.1 hb.size, fun j hj => by rw [C, C, C, C]; exact h.2 j hj⟩

/-- Nothing was walked from side i: it was gone. -/
theorem RC.none (h : RC W H s pol draws spk gg gl SL w i L G vo wr) (hG : G i = true) : RC W H s pol draws spk gg gl SL w (i + 1) L G vo wr :=
  { h with past := fun j hj => by
             rcases Nat.lt_or_ge j i with h1 | h1
             · exact h.past j h1
             · obtain rfl : j = i := by omega
               exact hG
           few := by have := h.few; omega }

theorem RC.res (h : RC W H s pol draws spk gg gl SL w SL.length L G vo wr) (hall : ∀ t, Qm.isS (Pm.blackB W H s.data.toList) t = true → ∃ j, j < SL.length ∧ SL.getD j (0, 0, 0) = t) : Qm.Res (fB W H s pol draws) (bB W H s) Qm.key (L.map (·.2)) := by
  refine ⟨fun c hc => ?_, h.sorted, fun t ht => ?_⟩
  · obtain ⟨p, hp, rfl⟩ := List.mem_map.1 hc
    exact h.canon p hp
  · obtain ⟨j, hj, rfl⟩ := hall t ht
    rcases (h.rep j hj).1 (h.past j hj) with h1 | ⟨_, h1, _⟩
    · exact h1
    · omega
end
end Go.Proofs.Ytgapfjjdccohkaa
