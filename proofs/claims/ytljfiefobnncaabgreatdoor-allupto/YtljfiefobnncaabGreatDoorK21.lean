import Derived.Test.YtljfiefobnncaabGreatDoorK19
import Derived.Test.YtljfiefobnncaabGreatDoorK20
import Derived.Test.YtljfiefobnncaabGreatDoorK17
import Derived.Deep.QuietTactic
import Derived.BigQuiet
import Derived.Deep.RegionHeld3

/- What filling gives: the winding numbers of cycles and of their polygons. Nothing of the program stands here. -/
namespace Go.Proofs.YtljfiefobnncaabGreatDoor.Qm

theorem Pth.len {v : List Pt} {i j : Nat} {l : List Nat} (h : Pth (okV v) i j l) : i ≤ j ∧ l.length ≤ j - i + 1 := by
  induction h with
  | one i => simp
  | cons i k j l ho _ ih => have := ho.1; simp only [List.length_cons]; omega
theorem Pth.le {v : List Pt} {i j : Nat} {l : List Nat} (h : Pth (okV v) i j l) : ∀ x ∈ l, x ≤ j := by
  induction h with
  | one i => intro x hx; simp at hx; omega
  | cons i k j l ho hp ih =>
    intro x hx
    rcases List.mem_cons.1 hx with h | h
    · have := hp.len.1; have := ho.1; omega
    · exact ih x h
theorem cornN_lt {c : List Pt} (h0 : 0 < c.length) (hu : Unit (c ++ [fstP c])) : ∀ x ∈ cornN c, x < c.length := by
  intro x hx
  rcases (cornN_is h0 hu).1.unsnoc with ⟨h, _⟩ | ⟨k, m, e, hp, hk⟩
  · omega
  · have e2 : cornN c = m := List.append_cancel_right e
    rw [e2] at hx
    have := hp.le x hx
    have := hk.1
    omega
theorem Cyc.unit {bl jn : Int → Int → Bool} {c : Sd × Nat} (h : Cyc (nx bl jn) (fun s => isS bl s = true) c.1 c.2) : Unit (ptsOf (nx bl jn) c ++ [fstP (ptsOf (nx bl jn) c)]) := by
  have h0 : 0 < c.2 := h.2.1
  have hl := ptsOf_len (nx bl jn) c
  have A : ∀ i, i ≤ c.2 → (ptsOf (nx bl jn) c ++ [fstP (ptsOf (nx bl jn) c)]).getD i (0, 0) = fromP (it (nx bl jn) i c.1) := by
    intro i hi
    rcases Nat.lt_or_ge i c.2 with h1 | h1
    · rw [getD_app_l _ _ _ _ (by omega), ptsOf_getD _ c i h1]
    · obtain rfl : i = c.2 := by omega
      rw [getD_app_r _ _ _ _ (by omega), hl, Nat.sub_self, List.getD_cons_zero]
      unfold fstP
      rw [ptsOf_getD _ c 0 h0, h.2.2.1]; rfl
  intro i hi
  rw [List.length_append, hl, List.length_singleton] at hi
  rw [A i (by omega), A (i + 1) (by omega)]
  have hs := isS_lt (it_isS (jn := jn) h.1 i)
  have e : fromP (it (nx bl jn) (i + 1) c.1) = en (it (nx bl jn) i c.1) := rfl
  rw [e]
  generalize it (nx bl jn) i c.1 = t at hs ⊢
  obtain ⟨x, y, d⟩ := t
  have hd : d = 0 ∨ d = 1 ∨ d = 2 ∨ d = 3 := by have : d < 4 := hs; omega
  rcases hd with rfl | rfl | rfl | rfl <;> simp [en, fromP, unitP] <;> omega

theorem far_anti (p q : Pt) (x y : Int) : farZ q p x y = -farZ p q x y := by
  have a := cr_far p q x y
  have b := cr_far q p x y
  have c : crZ q p x y = -crZ p q x y := by unfold crZ; grind
  omega
theorem wd_anti (p q : Pt) (x y : Int) : wdZ q p x y = -wdZ p q x y := by
  rw [wdZ_eq, wdZ_eq, far_anti p q]
  repeat' split <;> try omega

/-- What a side adds. -/
theorem wd_side {s : Sd} (h : s.2.2 < 4) (x y : Int) : wdZ (fromP s) (en s) x y = hw x y s := by
  obtain ⟨a, b, d⟩ := s
  have hd : d = 0 ∨ d = 1 ∨ d = 2 ∨ d = 3 := by have : d < 4 := h; omega
  rw [wdZ_eq]
  rcases hd with rfl | rfl | rfl | rfl
  · have e : farZ (a, b) (a, b + 1) x y = 2 * (a - x) - 1 := by unfold farZ; simp only; grind
    simp only [en, fromP, hw, e, true_and]
    repeat' split <;> try omega
  · simp only [en, fromP, hw]
    repeat' split <;> try omega
  · have e : farZ (a, b) (a, b - 1) x y = -(2 * (a - x) - 1) := by unfold farZ; simp only; grind
    simp only [en, fromP, hw, e, true_and]
    repeat' split <;> try omega
  · simp only [en, fromP, hw]
    repeat' split <;> try omega

/-- The winding number of a cycle, by its points or by its sides. -/
theorem Cyc.wsum {bl jn : Int → Int → Bool} {c : Sd × Nat} (h : Cyc (nx bl jn) (fun s => isS bl s = true) c.1 c.2) (x y : Int) : Qm.wsum (ptsOf (nx bl jn) c) x y c.2 = wn (cyS (nx bl jn) c) x y := by
  have h0 : 0 < c.2 := h.2.1
  have hl := ptsOf_len (nx bl jn) c
  have e1 : Qm.wsum (ptsOf (nx bl jn) c) x y c.2 = fsE (fun p q => wdZ p q x y) (ptsOf (nx bl jn) c) c.2 := by
    have := bsE_all (fun p q => wdZ p q x y) (ptsOf (nx bl jn) c) (by omega)
    rw [hl] at this
    rw [wsum_bsE, this]
  rw [e1]
  have key : ∀ k, k ≤ c.2 → fsE (fun p q => wdZ p q x y) (ptsOf (nx bl jn) c) k = sm ((List.range k).map fun i => it (nx bl jn) i c.1) (hw x y) := by
    intro k
    induction k with
    | zero => intro _; rfl
    | succ k ih =>
      intro hk
      rw [fsE, ih (by omega), List.range_succ, List.map_append, sm_app]
      congr 1
      have n1 : nxP (ptsOf (nx bl jn) c) k = en (it (nx bl jn) k c.1) := by
        unfold nxP
        rw [hl, ptsOf_getD _ c _ (Nat.mod_lt _ h0), ← h.mod (k + 1)]; rfl
      rw [ptsOf_getD _ c k (by omega), n1, wd_side (isS_lt (it_isS (jn := jn) h.1 k))]
      simp [sm]
  exact key c.2 (Nat.le_refl _)

/-- Line by line along a row of points. -/
def gS (e : Pt → Pt → Int) (w : List Pt) : Nat → Int
  | 0 => 0
  | k + 1 => gS e w k + e (w.getD k (0, 0)) (w.getD (k + 1) (0, 0))
def chE (e : Pt → Pt → Int) : List Pt → Int
  | a :: b :: l => e a b + chE e (b :: l)
  | _ => 0
theorem gS_cons (e : Pt → Pt → Int) (a : Pt) (w : List Pt) (k : Nat) : gS e (a :: w) (k + 1) = e a (w.getD 0 (0, 0)) + gS e w k := by
  induction k with
  | zero => simp [gS]
  | succ k ih => rw [gS, ih, gS]; simp only [List.getD_cons_succ]; omega
theorem chE_gS (e : Pt → Pt → Int) : ∀ w : List Pt, chE e w = gS e w (w.length - 1)
  | [] => rfl
  | [_] => rfl
  | a :: b :: l => by
    rw [chE, chE_gS e (b :: l)]
    show _ = gS e (a :: b :: l) (l.length + 1)
    rw [gS_cons]; rfl
theorem fsE_gS (e : Pt → Pt → Int) (l : List Pt) (h0 : 0 < l.length) : ∀ k, k ≤ l.length → fsE e l k = gS e (l ++ [fstP l]) k
  | 0, _ => rfl
  | k + 1, hk => by
    rw [fsE, gS, fsE_gS e l h0 k (by omega), getD_app_l _ _ _ _ (by omega)]
    congr 2
    rcases Nat.lt_or_ge (k + 1) l.length with h | h
    · rw [nxP_lt l k h, getD_app_l _ _ _ _ h]
    · obtain rfl : k = l.length - 1 := by omega
      rw [nxP_last l h0, getD_app_r _ _ _ _ h, show l.length - 1 + 1 - l.length = 0 from by omega]; rfl
theorem gS_sl (e : Pt → Pt → Int) (v : List Pt) (i j : Nat) : ∀ k, k ≤ j - i → gS e (sl v i j) k = gS e v (i + k) - gS e v i
  | 0, _ => by simp [gS]
  | k + 1, hk => by
    rw [gS, gS_sl e v i j k (by omega), sl_getD (by omega), sl_getD (by omega), ← Nat.add_assoc, gS]
    rw [Nat.add_assoc]; omega
/-- A line that fits adds as much as what it stands for. -/
theorem okV_wd {v : List Pt} {i j : Nat} (h : okV v i j) (x y : Int) : wdZ (v.getD i (0, 0)) (v.getD j (0, 0)) x y = gS (fun p q => wdZ p q x y) v j - gS (fun p q => wdZ p q x y) v i := by
  obtain ⟨h1, h2, _, h4⟩ := h
  have hl := sl_len (v := v) (i := i) (j := j) (by omega) h2
  have h0 : 0 < (sl v i j).length := by omega
  have a := ((okAt_iff _ x y).1 ((fit_all h0).1 h4 x y)).2
  rw [wsum_bsE, bsE_all _ _ h0, fsE_gS _ _ h0 _ (Nat.le_refl _), hl, gS] at a
  have e1 : gS (fun p q => wdZ p q x y) (sl v i j ++ [fstP (sl v i j)]) (j - i) = gS (fun p q => wdZ p q x y) (sl v i j) (j - i) := by
    have key : ∀ k, k ≤ j - i → gS (fun p q => wdZ p q x y) (sl v i j ++ [fstP (sl v i j)]) k = gS (fun p q => wdZ p q x y) (sl v i j) k := by
      intro k
      induction k with
      | zero => intro _; rfl
      | succ k ih => intro hk; rw [gS, gS, ih (by omega), getD_app_l _ _ _ _ (by omega), getD_app_l _ _ _ _ (by omega)]
    exact key _ (Nat.le_refl _)
  rw [e1, gS_sl _ _ _ _ _ (Nat.le_refl _), getD_app_l _ _ _ _ (by omega), getD_app_r _ _ _ _ (by omega), sl_getD (by omega), hl, show j - i + 1 - (j - i + 1) = 0 from by omega, List.getD_cons_zero] at a
  unfold fstP at a
  rw [sl_getD (by omega), show i + (j - i) = j from by omega, Nat.add_zero, wd_anti (v.getD i (0, 0))] at a
  omega
theorem Pth.chain {v : List Pt} {i j : Nat} {l : List Nat} (h : Pth (okV v) i j l) (x y : Int) : chE (fun p q => wdZ p q x y) (l.map fun k => v.getD k (0, 0)) = gS (fun p q => wdZ p q x y) v j - gS (fun p q => wdZ p q x y) v i := by
  induction h with
  | one i => simp [chE]
  | cons i k j l ho hp ih =>
    obtain ⟨m, rfl⟩ := hp.head
    rw [List.map_cons, List.map_cons] at *
    rw [chE, ih, okV_wd ho]; omega

/-- A polygon winds as its cycle does. -/
theorem corn_wsum {c : List Pt} (h0 : 0 < c.length) (hu : Unit (c ++ [fstP c])) (x y : Int) : Qm.wsum (cornL c) x y (cornL c).length = Qm.wsum c x y c.length := by
  have hp := (cornN_is h0 hu).1
  obtain ⟨m, hm⟩ := hp.head
  have hne : 0 < (cornN c).length := by
    rcases Nat.eq_zero_or_pos (cornN c).length with h | h
    · rw [List.length_eq_zero_iff.1 h] at hm
      rw [List.nil_append] at hm
      injection hm with h1 _
      omega
    · exact h
  have hl0 : 0 < (cornL c).length := by unfold cornL; simpa using hne
  have hlt := cornN_lt h0 hu
  have e1 : (cornN c ++ [c.length]).map (fun k => (c ++ [fstP c]).getD k (0, 0)) = cornL c ++ [fstP (cornL c)] := by
    rw [List.map_append]
    congr 1
    · unfold cornL
      exact List.map_congr_left fun k hk => getD_app_l _ _ _ _ (hlt k hk)
    · rw [List.map_singleton, getD_app_r _ _ _ _ (Nat.le_refl _), Nat.sub_self, List.getD_cons_zero]
      congr 1
      match hN : cornN c, hne with
      | a :: t, _ =>
        rw [hN] at hm
        simp only [List.cons_append, List.cons.injEq] at hm
        unfold cornL
        rw [hN, hm.1]; rfl
  have a := hp.chain x y
  rw [e1, chE_gS, List.length_append, List.length_singleton, Nat.add_sub_cancel] at a
  rw [wsum_bsE, bsE_all _ _ hl0, fsE_gS _ _ hl0 _ (Nat.le_refl _), a, wsum_bsE, bsE_all _ _ h0, fsE_gS _ _ h0 _ (Nat.le_refl _), gS]
  omega

/-- The winding numbers of all shapes together. -/
def wndA (L : List (List Pt)) (x y : Int) : Int := (L.map fun l => Qm.wsum l x y l.length).sum
section
variable {bl jn : Int → Int → Bool} {R : List (Sd × Nat)}
theorem Res.cycles (h : Res (nx bl jn) (fun s => isS bl s = true) key R) {W H : Int} (hp : Pic bl W H) (x y : Int) : wndA (R.map (ptsOf (nx bl jn))) x y = if bl x y = true then 1 else 0 := by
  rw [← h.wnA hp x y, wn, ← sm_all]
  unfold wndA
  rw [List.map_map]
  congr 1
  refine List.map_congr_left fun c hc => ?_
  simp only [Function.comp, ptsOf_len]
  exact (h.1 c hc).1.wsum x y
theorem Res.corners (h : Res (nx bl jn) (fun s => isS bl s = true) key R) {W H : Int} (hp : Pic bl W H) (x y : Int) : wndA (R.map fun c => cornL (ptsOf (nx bl jn) c)) x y = if bl x y = true then 1 else 0 := by
  rw [← h.cycles hp x y]
  unfold wndA
  rw [List.map_map, List.map_map]
  congr 1
  refine List.map_congr_left fun c hc => ?_
  simp only [Function.comp]
  exact corn_wsum (by rw [ptsOf_len]; exact (h.1 c hc).1.2.1) (h.1 c hc).1.unit x y
end
end Go.Proofs.YtljfiefobnncaabGreatDoor.Qm

/- outlineref: Above. -/
namespace Go.Proofs.YtljfiefobnncaabGreatDoor
open Go.RowKit

namespace Qm
/-- What Above answers. -/
def abV (p q : Pt) (x y : Int) : Int := if thR p q x y = true then 0 else abZ p q x y
theorem abV_in (p q : Pt) (x y : Int) : -1 ≤ abV p q x y ∧ abV p q x y ≤ 1 := by
  unfold abV abZ; repeat' split <;> try omega
theorem mid_in {p q : Pt} {x y : Int} (hp : 0 ≤ p.1 ∧ p.1 ≤ 32 ∧ 0 ≤ p.2 ∧ p.2 ≤ 32) (hq : 0 ≤ q.1 ∧ q.1 ≤ 32 ∧ 0 ≤ q.2 ∧ q.2 ≤ 32) (x0 : -32 ≤ x) (x1 : x ≤ 64) (y0 : -32 ≤ y) (y1 : y ≤ 64) {a b : Int} (ha : a = 2 * (p.1 - x) - 1 ∨ a = 2 * (p.2 - y) - 1) (hb : b = 2 * (q.1 - x) - 1 ∨ b = 2 * (q.2 - y) - 1) : -40000 ≤ a * b ∧ a * b ≤ 40000 := by
  have m : ∀ {a b : Int}, -200 ≤ a → a ≤ 200 → -200 ≤ b → b ≤ 200 → -40000 ≤ a * b ∧ a * b ≤ 40000 := by
    intro a b a0 a1 b0 b1
    have p : ∀ {u v : Int}, 0 ≤ u → u ≤ 200 → 0 ≤ v → v ≤ 200 → 0 ≤ u * v ∧ u * v ≤ 40000 := fun a b c d => ⟨Int.mul_nonneg a c, Int.mul_le_mul b d c (by omega)⟩
    rcases Int.le_total 0 a with ha | ha <;> rcases Int.le_total 0 b with hb | hb
    · have := p ha a1 hb b1; omega
    · have := p ha a1 (show 0 ≤ -b by omega) (by omega); rw [Int.mul_neg] at this; omega
    · have := p (show 0 ≤ -a by omega) (by omega) hb b1; rw [Int.neg_mul] at this; omega
    · have := p (show 0 ≤ -a by omega) (by omega) (show 0 ≤ -b by omega) (by omega); rw [Int.neg_mul_neg] at this; omega
  exact m (by omega) (by omega) (by omega) (by omega)
end Qm

set_option maxRecDepth 4000 in
set_option maxHeartbeats 1000000 in
theorem above_any (p q : Int × Int) (x y : Int) (hp : PtIn p) (hq : PtIn q) (x0 : -32 ≤ x) (x1 : x ≤ 64) (y0 : -32 ≤ y) (y1 : y ≤ 64) (w : World) :
    Calls Tryz.prog 140 #[.agg #[.int .i64 p.1, .int .i64 p.2], .agg #[.int .i64 q.1, .int .i64 q.2], .int .i64 x, .int .i64 y] w fun e w' => e = .returned (.tuple #[.int .i64 (Qm.abV p q x y), .bool (!Qm.thR p q x y)]) ∧ Below w.heap.size w w' := by
  have m1 := Qm.mid_in hp hq x0 x1 y0 y1 (.inl rfl) (.inr rfl)
  have m2 := Qm.mid_in hp hq x0 x1 y0 y1 (.inr rfl) (.inl rfl)
  have m3 := Qm.mid_in hp hq x0 x1 y0 y1 (.inl rfl) (.inl rfl)
  have m4 := Qm.mid_in hp hq x0 x1 y0 y1 (.inr rfl) (.inr rfl)
  have T := hid (Qm.thR_iff p q x y)
  have E := hid (show Qm.abV p q x y = if Qm.thR p q x y = true then 0 else if 2 * (p.1 - x) - 1 < 0 ∧ 0 < 2 * (q.1 - x) - 1 ∧ 0 < Qm.crZ p q x y then -1 else if 0 < 2 * (p.1 - x) - 1 ∧ 2 * (q.1 - x) - 1 < 0 ∧ Qm.crZ p q x y < 0 then 1 else 0 from rfl)
  have C := hid (show Qm.crZ p q x y = (2 * (p.1 - x) - 1) * (2 * (q.2 - y) - 1) - (2 * (p.2 - y) - 1) * (2 * (q.1 - x) - 1) from rfl)
  have D := hid (show Qm.dtZ p q x y = (2 * (p.1 - x) - 1) * (2 * (q.1 - x) - 1) + (2 * (p.2 - y) - 1) * (2 * (q.2 - y) - 1) from rfl)
  unfold PtIn at hp hq
  obtain ⟨px, py⟩ := p
  obtain ⟨qx, qy⟩ := q
  dsimp only at hp hq m1 m2 m3 m4 T E C D ⊢
  obtain ⟨u, hu⟩ : ∃ u, (2 * (px - x) - 1) * (2 * (qy - y) - 1) = u := ⟨_, rfl⟩
  obtain ⟨v, hv⟩ : ∃ v, (2 * (py - y) - 1) * (2 * (qx - x) - 1) = v := ⟨_, rfl⟩
  obtain ⟨s, hs⟩ : ∃ s, (2 * (px - x) - 1) * (2 * (qx - x) - 1) = s := ⟨_, rfl⟩
  obtain ⟨t, ht⟩ : ∃ t, (2 * (py - y) - 1) * (2 * (qy - y) - 1) = t := ⟨_, rfl⟩
  rw [hu] at m1 C
  rw [hv] at m2 C
  rw [hs] at m3 D
  rw [ht] at m4 D
  rw [C.out] at T E
  rw [D.out] at T
  clear C D
  obtain ⟨r, hr⟩ : ∃ r, Qm.thR (px, py) (qx, qy) x y = r := ⟨_, rfl⟩
  rw [hr] at T E ⊢
  obtain ⟨z, hz⟩ : ∃ z, Qm.abV (px, py) (qx, qy) x y = z := ⟨_, rfl⟩
  rw [hz] at E ⊢
  clear hr hz
  by_cases h1 : u - v = 0
  · have b1 : (u - v == 0) = true := by simpa using h1
    by_cases h2 : s + t ≤ 0
    · have h2b : decide (s + t ≤ 0) = true := by simpa using h2
      have R := hid (show r = true from T.out.2 ⟨h1, h2⟩)
      have Z := hid (show z = 0 by rw [E.out, if_pos R.out])
      clear h1
      go_enter Tryz.func140, Tryz.ntmps140
      go_wp2
      go_ret2
      exact ⟨by rw [Z.out, R.out]; rfl, by go_grown⟩
    · have h2b : decide (s + t ≤ 0) = false := by simpa using h2
      have R := hid (show r = false by cases hr : r with | false => rfl | true => exact absurd (T.out.1 hr).2 h2)
      have Z := hid (show z = 0 by rw [E.out, if_neg (by rw [R.out]; simp), if_neg (by omega), if_neg (by omega)])
      have c1 : ¬ 0 < u - v := by omega
      have c2 : ¬ u - v < 0 := by omega
      clear h1
      go_enter Tryz.func140, Tryz.ntmps140
      go_wp2
      all_goals (
        go_ret2
        exact ⟨by rw [Z.out, R.out]; rfl, by go_grown⟩)
  · have b1 : (u - v == 0) = false := by simpa using h1
    have R := hid (show r = false by cases hr : r with | false => rfl | true => exact absurd (T.out.1 hr).1 h1)
    have Z := hid (show z = if 2 * (px - x) - 1 < 0 ∧ 0 < 2 * (qx - x) - 1 ∧ 0 < u - v then -1 else if 0 < 2 * (px - x) - 1 ∧ 2 * (qx - x) - 1 < 0 ∧ u - v < 0 then 1 else 0 by rw [E.out, if_neg (by rw [R.out]; simp)])
    cases g1 : decide (2 * (px - x) - 1 < 0) <;> cases g2 : decide (0 < 2 * (qx - x) - 1) <;> cases g3 : decide (0 < u - v)
    all_goals (
      have G1 := hid g1
      have G2 := hid g2
      have G3 := hid g3
      simp only [decide_eq_true_eq, decide_eq_false_iff_not] at g1 g2 g3
      have k1 : ¬ (2 * (px - x) - 1 = 0) := by omega
      have k2 : ¬ (2 * (qx - x) - 1 = 0) := by omega
      go_enter Tryz.func140, Tryz.ntmps140
      go_wp2
      all_goals (
        go_ret2
        refine ⟨?_, by go_grown⟩
        rw [Z.out, R.out]
        first
          | (rw [if_pos ⟨by omega, by omega, by omega⟩]; rfl)
          | (rw [if_neg (by omega), if_pos ⟨by omega, by omega, by omega⟩]; rfl)
          | (rw [if_neg (by omega), if_neg (by omega)]; rfl)))
end Go.Proofs.YtljfiefobnncaabGreatDoor

/- outlineref: Clean, Fits. -/
namespace Go.Proofs.YtljfiefobnncaabGreatDoor
open Go.RowKit

namespace Qm
/-- What Clean answers. -/
def clnB (l : List Pt) (x y : Int) : Bool := ((List.range l.length).all fun i => !thR (l.getD i (0, 0)) (nxP l i) x y) && decide (fsE (fun p q => abZ p q x y) l l.length = 0)
theorem clnB_iff (l : List Pt) (x y : Int) : clnB l x y = true ↔ cleanP l x y := by
  unfold clnB cleanP
  rw [Bool.and_eq_true, List.all_eq_true, decide_eq_true_eq]
  simp
theorem clnB_no {l : List Pt} {x y : Int} {i : Nat} (hi : i < l.length) (h : thR (l.getD i (0, 0)) (nxP l i) x y = true) : clnB l x y = false := by
  cases e : clnB l x y with
  | false => rfl
  | true => rw [((clnB_iff l x y).1 e).1 i hi] at h; simp at h
theorem clnB_end {l : List Pt} {x y : Int} (h : ∀ i, i < l.length → thR (l.getD i (0, 0)) (nxP l i) x y = false) : clnB l x y = (fsE (fun p q => abZ p q x y) l l.length == 0) := by
  have e : ((List.range l.length).all fun i => !thR (l.getD i (0, 0)) (nxP l i) x y) = true := by rw [List.all_eq_true]; intro i hi; rw [h i (List.mem_range.1 hi)]; rfl
  unfold clnB; rw [e]; rfl
theorem abZ_in (p q : Pt) (x y : Int) : -1 ≤ abZ p q x y ∧ abZ p q x y ≤ 1 := by
  unfold abZ; repeat' split <;> try omega
theorem fsE_ab_in (l : List Pt) (x y : Int) (k : Nat) : -(k : Int) ≤ fsE (fun p q => abZ p q x y) l k ∧ fsE (fun p q => abZ p q x y) l k ≤ k := by
  induction k with
  | zero => simp [fsE]
  | succ k ih => have := abZ_in (l.getD k (0, 0)) (nxP l k) x y; simp only [fsE]; omega
end Qm

set_option maxRecDepth 4000 in
set_option maxHeartbeats 1000000 in
theorem clean_any (g o n cap : Nat) (l : List (Int × Int)) (hn : n = l.length) (h0 : 0 < n) (hs : Qm.Small l) (hn2 : n ≤ 4357) (x y : Int) (x0 : -32 ≤ x) (x1 : x ≤ 64) (y0 : -32 ≤ y) (y1 : y ≤ 64) (w : World) (hP : PtsO g o l w) :
    Calls Tryz.prog 123 #[.slice (some ⟨g, o, none⟩) n cap, .int .i64 x, .int .i64 y] w fun e w' => e = .returned (.bool (Qm.clnB l x y)) ∧ Below w.heap.size w w' := by
  have HP := hid hP
  have hg := hP.1
  have HN := hid hn
  have e0 : ((n : Int) == 0) = false := by simp; omega
  clear hP hn
  go_enter Tryz.func123, Tryz.ntmps123
  go_wp2
  go_loopw [7, 8] (fun sm i wr => ∃ k : Nat, k ≤ n ∧ i = .int .i64 k ∧ sm = .int .i64 (Qm.fsE (fun p q => Qm.abZ p q x y) l k) ∧ (∀ i, i < k → Qm.thR (l.getD i (0, 0)) (Qm.nxP l i) x y = false) ∧ Below w.heap.size w wr) (fun _ i _ => n - (intOf i).toNat)
  case atStart => exact ⟨0, by omega, rfl, rfl, fun _ h => by omega, Below.refl _ _⟩
  case round =>
    obtain ⟨k, hk, rfl, rfl, hth, hb⟩ := hrel
    have HB := hid hb
    have TH := hid hth
    have ts := Qm.fsE_ab_in l x y k
    clear hth
    by_cases hlt : k < n
    · obtain ⟨r, hr⟩ : ∃ r, r = (k + 1) % n := ⟨_, rfl⟩
      have hrn : r < n := by rw [hr]; exact Nat.mod_lt _ h0
      have er : ((k : Int) + 1) % (n : Int) = (r : Nat) := by rw [hr]; simp
      obtain ⟨r0, r1⟩ := (HP.out.on hb hg).2 k (by have := HN.out; omega)
      obtain ⟨q0, q1⟩ := (HP.out.on hb hg).2 r (by have := HN.out; omega)
      have NX := hid (show Qm.nxP l k = l.getD r (0, 0) by rw [hr, HN.out]; rfl)
      have AB := hid (fun W' => above_any (l.getD k (0, 0)) (l.getD r (0, 0)) x y (small_in hs _) (small_in hs _) x0 x1 y0 y1 W')
      have E2 : Hid (Qm.fsE (fun p q => Qm.abZ p q x y) l (k + 1) = Qm.fsE (fun p q => Qm.abZ p q x y) l k + Qm.abZ (l.getD k (0, 0)) (Qm.nxP l k) x y) := rfl
      have ai := Qm.abZ_in (l.getD k (0, 0)) (Qm.nxP l k) x y
      have AV := hid (show Qm.abV (l.getD k (0, 0)) (l.getD r (0, 0)) x y = if Qm.thR (l.getD k (0, 0)) (l.getD r (0, 0)) x y = true then 0 else Qm.abZ (l.getD k (0, 0)) (l.getD r (0, 0)) x y from rfl)
      have NO := hid (fun h => Qm.clnB_no (l := l) (x := x) (y := y) (i := k) (by rw [← HN.out]; exact hlt) h)
      have TN := hid (show Qm.thR (l.getD k (0, 0)) (Qm.nxP l k) x y = false → ∀ i, i < k + 1 → Qm.thR (l.getD i (0, 0)) (Qm.nxP l i) x y = false from fun h i hi => by
        rcases Nat.lt_or_ge i k with h1 | h1
        · exact TH.out i h1
        · obtain rfl : i = k := by omega
          exact h)
      rw [NX.out] at E2 ai NO TN
      obtain ⟨t, ht⟩ : ∃ t, Qm.thR (l.getD k (0, 0)) (l.getD r (0, 0)) x y = t := ⟨_, rfl⟩
      rw [ht] at AB AV NO TN
      obtain ⟨z, hz⟩ : ∃ z, Qm.abZ (l.getD k (0, 0)) (l.getD r (0, 0)) x y = z := ⟨_, rfl⟩
      rw [hz] at E2 AV ai
      obtain ⟨av, hav⟩ : ∃ av, Qm.abV (l.getD k (0, 0)) (l.getD r (0, 0)) x y = av := ⟨_, rfl⟩
      rw [hav] at AB AV
      obtain ⟨⟨pa, pb⟩, hpp⟩ : ∃ p, p = l.getD k (0, 0) := ⟨_, rfl⟩
      obtain ⟨⟨qa, qb⟩, hqq⟩ : ∃ p, p = l.getD r (0, 0) := ⟨_, rfl⟩
      rw [← hpp] at r0 r1 AB
      rw [← hqq] at q0 q1 AB
      dsimp only at r0 r1 q0 q1 AB
      have hz' := HB.out.size
      have b1 : (0 : Int) ≤ (r : Nat) := by omega
      have b2 : ((r : Nat) : Int) < (n : Nat) := by omega
      have b3 : (0 : Int) ≤ (k : Nat) + 1 := by omega
      have b4 : IntKind.i64.wrap ((k : Int) + 1) = (k : Int) + 1 := by rw [IntKind.wrap_i64]; omega
      have b5 : ((k : Int) + 1).tmod (n : Nat) = (r : Nat) := by rw [Int.tmod_eq_emod_of_nonneg b3]; exact er
      have b6 : ¬ (n : Int) = 0 := by omega
      have b8 : ¬ n = 0 := by omega
      have b9 : (n == 0) = false := by simp; omega
      have b7 : IntKind.i64.wrap ((r : Nat) : Int) = (r : Nat) := by rw [IntKind.wrap_i64]; omega
      have S0 := hid (show wr.drew.cell? ⟨g, o + k * 2, none⟩ = some (.int .i64 pa) ∧ wr.drew.cell? ⟨g, o + k * 2 + 1, none⟩ = some (.int .i64 pb) ∧ wr.drew.cell? ⟨g, o + r * 2, none⟩ = some (.int .i64 qa) ∧ wr.drew.cell? ⟨g, o + r * 2 + 1, none⟩ = some (.int .i64 qb) from ⟨r0, r1, q0, q1⟩)
      have HBD := hid (show Below w.heap.size w wr.drew from HB.out.trans ⟨rfl, rfl, rfl, Nat.le_refl _, fun _ _ => rfl⟩)
      have hgd : g < wr.drew.heap.size := by show g < wr.heap.size; omega
      clear hb hpp hqq hr ht hz hav
      go_wp2_with fail
      go_region_held3 (fun w' => w'.cell? ⟨g, o + k * 2, none⟩ = some (.int .i64 pa) ∧ w'.cell? ⟨g, o + k * 2 + 1, none⟩ = some (.int .i64 pb) ∧ w'.cell? ⟨g, o + r * 2, none⟩ = some (.int .i64 qa) ∧ w'.cell? ⟨g, o + r * 2 + 1, none⟩ = some (.int .i64 qb))
        (first | exact S0.out | exact (by assumption : _ ∧ _ ∧ _ ∧ _))
        (first | (go_at_call 140; refine (AB.out _).mono ?_; rintro e w2 ⟨rfl, hb2⟩; have hS2 : w2.cell? ⟨g, o + k * 2, none⟩ = some (.int .i64 pa) ∧ w2.cell? ⟨g, o + k * 2 + 1, none⟩ = some (.int .i64 pb) ∧ w2.cell? ⟨g, o + r * 2, none⟩ = some (.int .i64 qa) ∧ w2.cell? ⟨g, o + r * 2 + 1, none⟩ = some (.int .i64 qb) := ⟨(hb2.cell (p := ⟨g, o + k * 2, none⟩) hgd).trans S0.out.1, (hb2.cell (p := ⟨g, o + k * 2 + 1, none⟩) hgd).trans S0.out.2.1, (hb2.cell (p := ⟨g, o + r * 2, none⟩) hgd).trans S0.out.2.2.1, (hb2.cell (p := ⟨g, o + r * 2 + 1, none⟩) hgd).trans S0.out.2.2.2⟩; have B2 := hid (show Below w.heap.size w w2 from HBD.out.trans (hb2.mono HBD.out.size)); clear hb2))
      clear r0 r1 q0 q1 S0 hS2
      cases t
      · have AV2 := hid (show av = z by rw [AV.out, if_neg (by simp)])
        obtain rfl := AV2.out
        go_wp2
        go_roundw
        case rel => exact ⟨k + 1, by omega, by go_num, by rw [E2.out], TN.out (by trivial), B2.out⟩
        case measure => simp [intOf]; omega
      · go_wp2
        go_ret
        exact ⟨ret_bool (NO.out (by trivial)).symm, B2.out⟩
    · have ek : k = n := by omega
      subst ek
      have CE := hid (show Qm.clnB l x y = (Qm.fsE (fun p q => Qm.abZ p q x y) l k == 0) by rw [HN.out]; exact Qm.clnB_end fun i hi => TH.out i (by rw [HN.out]; exact hi))
      obtain ⟨v, hv⟩ : ∃ v, Qm.fsE (fun p q => Qm.abZ p q x y) l k = v := ⟨_, rfl⟩
      rw [hv] at CE ⊢
      go_wp2
      go_ret
      exact ⟨ret_bool CE.out.symm, HB.out⟩

set_option maxRecDepth 4000 in
set_option maxHeartbeats 1000000 in
theorem refFits_any (g o n cap : Nat) (l : List (Int × Int)) (hn : n = l.length) (h0 : 2 ≤ n) (hs : Qm.Small l) (hn2 : n ≤ 13) (hu : Qm.Unit l) (w : World) (hP : PtsO g o l w) :
    Calls Tryz.prog 101 #[.slice (some ⟨g, o, none⟩) n cap] w fun e w' => e = .returned (.bool (Qm.fitB l)) ∧ Below w.heap.size w w' := by
  have HP := hid hP
  have hg := hP.1
  have HN := hid hn
  have FR := hid (hu.fit_ref (by omega) (by omega))
  have F2 := hid (fun h => Qm.fit_two hu h)
  have CI := hid (Qm.clnB_iff l)
  have CL := hid (fun x y (a : -32 ≤ x) (b : x ≤ 64) (c : -32 ≤ y) (d : y ≤ 64) W' (h : PtsO g o l W') => clean_any g o n cap l hn (by omega) hs (by omega) x y a b c d W' h)
  obtain ⟨q0, q1⟩ := hP.2 0 (by omega)
  simp only [Nat.zero_mul, Nat.add_zero] at q0 q1
  have s0 := hs.at 0
  clear hP hn hs hu
  rcases Nat.eq_or_lt_of_le h0 with h2 | h2
  · have e2 : ((n : Int) == 2) = true := by simp; omega
    have FT := hid (show Qm.fitB l = true from F2.out (by rw [← HN.out]; omega))
    clear h2
    go_enter Tryz.func101, Tryz.ntmps101
    go_wp2
    go_ret
    exact ⟨ret_bool FT.out.symm, Below.refl _ _⟩
  · have e2 : ((n : Int) == 2) = false := by simp; omega
    have FF := hid (show ∀ x y, (l.getD 0 (0, 0)).1 - 13 ≤ x → x ≤ (l.getD 0 (0, 0)).1 + 13 → (l.getD 0 (0, 0)).2 - 13 ≤ y → y ≤ (l.getD 0 (0, 0)).2 + 13 → Qm.clnB l x y = false → Qm.fitB l = false from fun x y a b c d h => by
      cases e : Qm.fitB l with
      | false => rfl
      | true =>
        rcases FR.out.1 e with h3 | h3
        · rw [← HN.out] at h3; omega
        · rw [(CI.out x y).2 (h3 x y a b c d)] at h; simp at h)
    have FT := hid (show (∀ x y, (l.getD 0 (0, 0)).1 - 13 ≤ x → x ≤ (l.getD 0 (0, 0)).1 + 13 → (l.getD 0 (0, 0)).2 - 13 ≤ y → y ≤ (l.getD 0 (0, 0)).2 + 13 → Qm.clnB l x y = true) → Qm.fitB l = true from fun h => FR.out.2 (.inr fun x y a b c d => (CI.out x y).1 (h x y a b c d)))
    obtain ⟨⟨fa, fb⟩, hff⟩ : ∃ p, p = l.getD 0 (0, 0) := ⟨_, rfl⟩
    rw [← hff] at q0 q1 s0 FF FT
    dsimp only at q0 q1 s0 FF FT
    clear hff FR F2 CI
    go_enter Tryz.func101, Tryz.ntmps101
    go_wp2_with fail
    go_loopw [3] (fun yv wr => ∃ y : Int, yv = .int .i64 y ∧ fb - 13 ≤ y ∧ y ≤ fb + 14 ∧ (∀ x' y', fa - 13 ≤ x' → x' ≤ fa + 13 → fb - 13 ≤ y' → y' < y → Qm.clnB l x' y' = true) ∧ Below w.heap.size w wr) (fun y _ => (fb + 14 - intOf y).toNat)
    case atStart => exact ⟨fb - 13, rfl, by omega, by omega, fun _ _ _ _ _ _ => by omega, Below.refl _ _⟩
    case round =>
      obtain ⟨y, rfl, hy0, hy1, hok, hb⟩ := hrel
      have OKS := hid hok
      have HB := hid hb
      have r0 := (hb.cell (p := ⟨g, o, none⟩) hg).trans q0
      have r1 := (hb.cell (p := ⟨g, o + 1, none⟩) hg).trans q1
      clear hok hb
      by_cases hlt : y ≤ fb + 13
      · go_wp2_with fail
        clear r0 r1
        go_loopw [4] (fun xv wr => ∃ x : Int, xv = .int .i64 x ∧ fa - 13 ≤ x ∧ x ≤ fa + 14 ∧ (∀ x', fa - 13 ≤ x' → x' < x → Qm.clnB l x' y = true) ∧ Below w.heap.size w wr) (fun x _ => (fa + 14 - intOf x).toNat)
        case atStart => exact ⟨fa - 13, rfl, by omega, by omega, fun _ _ _ => by omega, HB.out⟩
        case round =>
          clear HB
          obtain ⟨x, rfl, hx0, hx1, hok, hb⟩ := hrel
          have OKX := hid hok
          have HB := hid hb
          have r0 := (hb.cell (p := ⟨g, o, none⟩) hg).trans q0
          have r1 := (hb.cell (p := ⟨g, o + 1, none⟩) hg).trans q1
          clear hok hb
          by_cases hlx : x ≤ fa + 13
          · have FX := hid (FF.out x y hx0 hlx hy0 hlt)
            have cl := CL.out x y (by omega) (by omega) (by omega) (by omega)
            obtain ⟨t, ht⟩ : ∃ t, Qm.clnB l x y = t := ⟨_, rfl⟩
            rw [ht] at cl FX
            have CLX := hid cl
            have HT := hid ht
            clear cl ht
            go_wp2_with fail
            refine (CLX.out _ (HP.out.on HB.out hg)).mono ?_
            rintro e w2 ⟨rfl, hb2⟩
            have B2 := hid (show Below w.heap.size w w2 from HB.out.trans (hb2.mono HB.out.size))
            clear hb2 r0 r1
            cases t
            · go_wp2
              go_ret
              exact ⟨ret_bool (FX.out (by trivial)).symm, B2.out⟩
            · go_wp2
              go_roundw
              case rel =>
                refine ⟨x + 1, by go_num, by omega, by omega, fun x' h1 h2 => ?_, B2.out⟩
                rcases Int.lt_or_le x' x with h3 | h3
                · exact OKX.out x' h1 h3
                · rw [show x' = x from by omega]; exact HT.out
              case measure => simp [intOf]; omega
          · go_wp2
            go_roundw
            case rel =>
              refine ⟨y + 1, by go_num, by omega, by omega, fun x' y' h1 h2 h3 h4 => ?_, HB.out⟩
              rcases Int.lt_or_le y' y with h5 | h5
              · exact OKS.out x' y' h1 h2 h3 h5
              · rw [show y' = y from by omega]; exact OKX.out x' h1 (by omega)
            case measure => simp [intOf]; omega
      · have FTT := hid (show Qm.fitB l = true from FT.out fun x y a b c d => OKS.out x y a b c (by omega))
        go_wp2
        go_ret
        exact ⟨ret_bool FTT.out.symm, HB.out⟩
end Go.Proofs.YtljfiefobnncaabGreatDoor

/- outlineref: Cost, better. -/
namespace Go.Proofs.YtljfiefobnncaabGreatDoor
open Go.RowKit

set_option maxRecDepth 4000 in
set_option maxHeartbeats 2000000 in
theorem refCost_any (g o n cap : Nat) (l : List (Int × Int)) (hn : n = l.length) (h0 : 0 < n) (hs : Qm.Small l) (hn2 : n ≤ 4357) (w : World) (hP : PtsO g o l w) :
    Calls Tryz.prog 102 #[.slice (some ⟨g, o, none⟩) n cap] w fun e w' => e = .returned (.int .i64 (Qm.costOf l)) ∧ Below w.heap.size w w' := by
  have HP := hid hP
  have hg := hP.1
  have HN := hid hn
  obtain ⟨q0, q1⟩ := hP.2 0 (by omega)
  obtain ⟨t0, t1⟩ := hP.2 (n - 1) (by omega)
  simp only [Nat.zero_mul, Nat.add_zero] at q0 q1
  have sa := hs.at 0
  have sz := hs.at (n - 1)
  have EC := hid (show Qm.costOf l = Qm.costTo (l.getD 0 (0, 0)) (l.getD (n - 1) (0, 0)) l n by rw [hn]; rfl)
  have CI := hid (fun k => Qm.costTo_in hs (l.getD 0 (0, 0)) (l.getD (n - 1) (0, 0)) sa sz k)
  have CS := hid (fun k => show Qm.costTo (l.getD 0 (0, 0)) (l.getD (n - 1) (0, 0)) l (k + 1) = Qm.costTo (l.getD 0 (0, 0)) (l.getD (n - 1) (0, 0)) l k + Qm.absZ (Qm.offZ (l.getD 0 (0, 0)) (l.getD (n - 1) (0, 0)) (l.getD k (0, 0))) from rfl)
  have C0 := hid (show Qm.costTo (l.getD 0 (0, 0)) (l.getD (n - 1) (0, 0)) l 0 = 0 from rfl)
  obtain ⟨n1, hn1⟩ : ∃ n1, n = n1 + 1 := ⟨n - 1, by omega⟩
  subst hn1
  simp only [Nat.add_sub_cancel] at t0 t1 sz EC CI CS C0
  obtain ⟨⟨fa, fb⟩, hff⟩ : ∃ p, p = l.getD 0 (0, 0) := ⟨_, rfl⟩
  obtain ⟨⟨za, zb⟩, hzz⟩ : ∃ p, p = l.getD n1 (0, 0) := ⟨_, rfl⟩
  rw [← hff] at q0 q1 sa EC CI CS C0
  rw [← hzz] at t0 t1 sz EC CI CS C0
  dsimp only at q0 q1 t0 t1 sa sz
  have e0 : ((n1 : Int) + 1 == 0) = false := by simp; omega
  have hg2 : g < w.heap.size + 1 := by omega
  have hg3 : g < w.heap.size + 1 + 1 := by omega
  clear hP hn hff hzz
  go_enter Tryz.func102, Tryz.ntmps102
  go_wp2_with fail
  go_loopw [5, 6] (fun sm iv wr => ∃ k : Nat, k ≤ n1 + 1 ∧ iv = .int .i64 k ∧ sm = .int .i64 (Qm.costTo (fa, fb) (za, zb) l k) ∧ BoxP w.heap.size (fa, fb) wr ∧ BoxP (w.heap.size + 1) (za, zb) wr ∧ Below w.heap.size w wr) (fun _ i _ => n1 + 1 - (intOf i).toNat)
  case atStart => exact ⟨0, by omega, rfl, by rw [C0.out], (BoxP.new _ rfl).alloc _, BoxP.new _ (by simp), by go_grown⟩
  case round =>
    clear q0 q1 t0 t1
    obtain ⟨k, hk, rfl, rfl, x0, x1, hb⟩ := hrel
    have HB := hid hb
    have X0 := hid x0
    have X1 := hid x1
    have ci := CI.out k
    by_cases hlt : k < n1 + 1
    · obtain ⟨r0, r1⟩ := (HP.out.on hb hg).2 k (by have := HN.out; omega)
      have hlt' : (k : Int) < (n1 : Int) + 1 := by omega
      have hk0 : (0 : Int) ≤ (k : Nat) := by omega
      have hgr : g < wr.heap.size := Nat.lt_of_lt_of_le hg hb.size
      have sp := hs.at k
      have cs := hid (CS.out k)
      obtain ⟨⟨pa, pb⟩, hpp⟩ : ∃ p, p = l.getD k (0, 0) := ⟨_, rfl⟩
      rw [← hpp] at r0 r1 sp cs
      dsimp only at r0 r1 sp
      have m1 := Qm.mul_in (a := za - fa) (b := pb - fb) (by omega) (by omega) (by omega) (by omega)
      have m2 := Qm.mul_in (a := zb - fb) (b := pa - fa) (by omega) (by omega) (by omega) (by omega)
      have EO := hid (show Qm.offZ (fa, fb) (za, zb) (pa, pb) = (za - fa) * (pb - fb) - (zb - fb) * (pa - fa) from rfl)
      obtain ⟨u, hu⟩ : ∃ u, (za - fa) * (pb - fb) = u := ⟨_, rfl⟩
      obtain ⟨v, hv⟩ : ∃ v, (zb - fb) * (pa - fa) = v := ⟨_, rfl⟩
      rw [hu] at m1 EO
      rw [hv] at m2 EO
      rw [EO.out] at cs
      obtain ⟨y0, y1, y2, y3, yz⟩ := x0
      obtain ⟨z0, z1, z2, z3, zz⟩ := x1
      dsimp only at y0 y1 z0 z1
      obtain ⟨ct, hct⟩ : ∃ ct, ct = Qm.costTo (fa, fb) (za, zb) l k := ⟨_, rfl⟩
      rw [← hct] at ci cs ⊢
      clear hb hpp hct
      by_cases hneg : u - v < 0
      · have AZ := hid (show Qm.absZ (u - v) = -(u - v) from if_pos hneg)
        rw [AZ.out] at cs
        go_wp2_with fail
        go_quiet (fail)
        go_wp2
        go_roundw
        case rel => exact ⟨k + 1, by omega, by go_num, by rw [cs.out], X0.out.on (B' := wr.heap.size) ⟨rfl, rfl, rfl, Nat.le_refl _, fun _ _ => rfl⟩ yz, X1.out.on (B' := wr.heap.size) ⟨rfl, rfl, rfl, Nat.le_refl _, fun _ _ => rfl⟩ zz, HB.out.trans ⟨rfl, rfl, rfl, Nat.le_refl _, fun _ _ => rfl⟩⟩
        case measure => simp [intOf]; omega
      · have AZ := hid (show Qm.absZ (u - v) = u - v from if_neg hneg)
        rw [AZ.out] at cs
        go_wp2_with fail
        go_quiet (fail)
        go_wp2
        go_roundw
        case rel => exact ⟨k + 1, by omega, by go_num, by rw [cs.out], X0.out.on (B' := wr.heap.size) ⟨rfl, rfl, rfl, Nat.le_refl _, fun _ _ => rfl⟩ yz, X1.out.on (B' := wr.heap.size) ⟨rfl, rfl, rfl, Nat.le_refl _, fun _ _ => rfl⟩ zz, HB.out.trans ⟨rfl, rfl, rfl, Nat.le_refl _, fun _ _ => rfl⟩⟩
        case measure => simp [intOf]; omega
    · have ek : k = n1 + 1 := by omega
      subst ek
      go_wp2
      go_ret
      exact ⟨ret_int EC.out.symm, HB.out⟩

/-- Numbers, in a list. -/
def NumsAt (g : Nat) (l : List Nat) (w : World) : Prop := g < w.heap.size ∧ ∀ j, j < l.length → w.cell? ⟨g, j, none⟩ = some (.int .i64 ((l.getD j 0 : Nat) : Int))
theorem NumsAt.on {g : Nat} {l : List Nat} {w w' : World} {B : Nat} (h : NumsAt g l w) (hb : Below B w w') (hg : g < B) : NumsAt g l w' :=
  ⟨Nat.lt_of_lt_of_le h.1 hb.size, fun j hj => (hb.cell (p := ⟨g, j, none⟩) hg).trans (h.2 j hj)⟩

theorem lexltB_drop {a b : List Nat} {k : Nat} (ha : k < a.length) (hb : k < b.length) : Qm.lexltB (a.drop k) (b.drop k) = if a.getD k 0 = b.getD k 0 then Qm.lexltB (a.drop (k + 1)) (b.drop (k + 1)) else decide (a.getD k 0 < b.getD k 0) := by
  rw [List.drop_eq_getElem_cons ha, List.drop_eq_getElem_cons hb, Qm.lexltB]
  simp [List.getD_eq_getElem?_getD, ha, hb]

set_option maxRecDepth 4000 in
set_option maxHeartbeats 2000000 in
theorem better_any (ga na ca gb nb cb : Nat) (a b : List Nat) (xa xb : Int) (hna : na = a.length) (hnb : nb = b.length) (la : na ≤ 100000) (lb : nb ≤ 100000) (ao : Option Addr) (w : World) (hA : NumsAt ga a w) (hB : nb = 0 ∨ (ao = some ⟨gb, 0, none⟩ ∧ NumsAt gb b w)) :
    Calls Tryz.prog 103 #[.agg #[.slice (some ⟨ga, 0, none⟩) na ca, .int .i64 xa], .agg #[.slice ao nb cb, .int .i64 xb]] w fun e w' => e = .returned (.bool (Qm.bettB a xa b xb)) ∧ Below w.heap.size w w' := by
  have HA := hid hA
  have HB0 := hid hB
  have BT := hid (show Qm.bettB a xa b xb = if nb = 0 then true else if na = nb then (if xa = xb then Qm.lexltB a b else decide (xa < xb)) else decide (na < nb) by rw [hna, hnb]; rfl)
  have HNA := hid hna
  have HNB := hid hnb
  have hga := hA.1
  clear hA hB hna hnb
  by_cases h1 : nb = 0
  · rw [if_pos h1] at BT
    subst h1
    go_enter Tryz.func103, Tryz.ntmps103
    go_wp2
    go_ret
    exact ⟨ret_bool BT.out.symm, by go_grown⟩
  · obtain ⟨rfl, hB⟩ := HB0.out.resolve_left h1
    rw [if_neg h1] at BT
    have HB := hid hB
    have hgb := hB.1
    have e1 : ((nb : Int) == 0) = false := by simp; omega
    clear hB
    by_cases h2 : na = nb
    · rw [if_pos h2] at BT
      subst h2
      by_cases h3 : xa = xb
      · rw [if_pos h3] at BT
        subst h3
        go_enter Tryz.func103, Tryz.ntmps103
        go_wp2_with fail
        go_loopw [5] (fun iv wr => ∃ k : Nat, k ≤ na ∧ iv = .int .i64 k ∧ Qm.lexltB a b = Qm.lexltB (a.drop k) (b.drop k) ∧ (wr.cell? ⟨w.heap.size, 0, none⟩ = some (.slice (some ⟨ga, 0, none⟩) na ca) ∧ wr.cell? ⟨w.heap.size + 1, 0, none⟩ = some (.slice (some ⟨gb, 0, none⟩) na cb) ∧ w.heap.size + 1 < wr.heap.size) ∧ Below w.heap.size w wr) (fun i _ => na - (intOf i).toNat)
        case atStart => exact ⟨0, by omega, rfl, rfl, ⟨by simp, by simp, by simp⟩, by go_grown⟩
        case round =>
          obtain ⟨k, hk, rfl, hlx, ⟨c0, c1, cz⟩, hb⟩ := hrel
          have HBW := hid hb
          have LX := hid hlx
          clear hlx
          by_cases hlt : k < na
          · have ra := (HA.out.on hb hga).2 k (by have := HNA.out; omega)
            have rb := (HB.out.on hb hgb).2 k (by have := HNB.out; omega)
            have LD := hid (lexltB_drop (a := a) (b := b) (k := k) (by rw [← HNA.out]; exact hlt) (by rw [← HNB.out]; exact hlt))
            have hk0 : (0 : Int) ≤ (k : Nat) := by omega
            have hk1 : ((k : Nat) : Int) < (na : Nat) := by omega
            obtain ⟨u, hu⟩ : ∃ u, u = a.getD k 0 := ⟨_, rfl⟩
            obtain ⟨v, hv⟩ : ∃ v, v = b.getD k 0 := ⟨_, rfl⟩
            rw [← hu] at ra LD
            rw [← hv] at rb LD
            have g1 : ga < wr.heap.size := by omega
            have g2 : gb < wr.heap.size := by omega
            clear hu hv hb
            by_cases huv : u = v
            · subst huv
              rw [if_pos rfl] at LD
              go_wp2_with fail
              go_quiet (fail)
              go_wp2
              go_roundw
              case rel => exact ⟨k + 1, by omega, by go_num, LX.out.trans LD.out, ⟨c0, c1, cz⟩, HBW.out.trans ⟨rfl, rfl, rfl, Nat.le_refl _, fun _ _ => rfl⟩⟩
              case measure => simp [intOf]; omega
            · rw [if_neg huv] at LD
              have e2 : ((u : Int) == (v : Int)) = false := by simp; omega
              have e3 : (u == v) = false := by simp; omega
              have D := hid (show decide (u < v) = decide ((u : Int) < (v : Int)) by simp)
              go_wp2_with fail
              go_quiet (fail)
              go_wp2_with fail
              go_quiet (fail)
              go_wp2
              go_ret
              exact ⟨ret_bool (by rw [BT.out, LX.out, LD.out]), HBW.out.trans ⟨rfl, rfl, rfl, Nat.le_refl _, fun _ _ => rfl⟩⟩
          · have hk' : ((na : Nat) : Int) ≤ (k : Nat) := by omega
            have LF := hid (show Qm.lexltB a b = false by
              rw [LX.out, List.drop_eq_nil_of_le (show a.length ≤ k by rw [← HNA.out]; omega)]; rfl)
            go_wp2
            go_ret
            exact ⟨ret_bool (by rw [BT.out, LF.out]), HBW.out⟩
      · rw [if_neg h3] at BT
        have e3 : (xa == xb) = false := by simpa using h3
        go_enter Tryz.func103, Tryz.ntmps103
        go_wp2
        go_ret
        exact ⟨ret_bool BT.out.symm, by go_grown⟩
    · rw [if_neg h2] at BT
      have e2 : ((na : Int) == (nb : Int)) = false := by simp; omega
      have e3 : (na == nb) = false := by simp; omega
      go_enter Tryz.func103, Tryz.ntmps103
      go_wp2
      go_ret
      exact ⟨ret_bool (by rw [BT.out]), by go_grown⟩
end Go.Proofs.YtljfiefobnncaabGreatDoor
