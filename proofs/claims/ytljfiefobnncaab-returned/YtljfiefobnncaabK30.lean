import Derived.Test.YtljfiefobnncaabK29
import Derived.Test.YtljfiefobnncaabK23
import Derived.Test.YtljfiefobnncaabK24
import Derived.Test.YtljfiefobnncaabK27

/- What filling gives: the winding numbers of cycles and of their polygons. Nothing of the program stands here. -/
namespace Go.Proofs.Ytljfiefobnncaab.Qm

theorem Pth.len {v : List Pt} {i j : Nat} {l : List Nat} (h : Pth (okV v) i j l) : i ≤ j ∧ l.length ≤ j - i + 1 := by
  induction h with
  | one i => simp
  | cons i k j l ho _ ih => have := ho.1; simp only [List.length_cons]; omega
theorem Pth.le {v : List Pt} {i j : Nat} {l : List Nat} (h : Pth (okV v) i j l) : ∀ x ∈ l, x ≤ j := by
  induction h with
  | one i => intro x hx; simp at hx; omega
  | cons i k j l ho hp ih =>
    intro x hx
    rcases List.mem_cons.1 hx with h | h
    · have := hp.len.1; have := ho.1; omega
    · exact ih x h
theorem cornN_lt {c : List Pt} (h0 : 0 < c.length) (hu : Unit (c ++ [fstP c])) : ∀ x ∈ cornN c, x < c.length := by
  intro x hx
  rcases (cornN_is h0 hu).1.unsnoc with ⟨h, _⟩ | ⟨k, m, e, hp, hk⟩
  · omega
  · have e2 : cornN c = m := List.append_cancel_right e
    rw [e2] at hx
    have := hp.le x hx
    have := hk.1
    omega
theorem Cyc.unit {bl jn : Int → Int → Bool} {c : Sd × Nat} (h : Cyc (nx bl jn) (fun s => isS bl s = true) c.1 c.2) : Unit (ptsOf (nx bl jn) c ++ [fstP (ptsOf (nx bl jn) c)]) := by
  have h0 : 0 < c.2 := h.2.1
  have hl := ptsOf_len (nx bl jn) c
  have A : ∀ i, i ≤ c.2 → (ptsOf (nx bl jn) c ++ [fstP (ptsOf (nx bl jn) c)]).getD i (0, 0) = fromP (it (nx bl jn) i c.1) := by
    intro i hi
    rcases Nat.lt_or_ge i c.2 with h1 | h1
    · rw [getD_app_l _ _ _ _ (by omega), ptsOf_getD _ c i h1]
    · obtain rfl : i = c.2 := by omega
      rw [getD_app_r _ _ _ _ (by omega), hl, Nat.sub_self, List.getD_cons_zero]
      unfold fstP
      rw [ptsOf_getD _ c 0 h0, h.2.2.1]; rfl
  intro i hi
  rw [List.length_append, hl, List.length_singleton] at hi
  rw [A i (by omega), A (i + 1) (by omega)]
  have hs := isS_lt (it_isS (jn := jn) h.1 i)
  have e : fromP (it (nx bl jn) (i + 1) c.1) = en (it (nx bl jn) i c.1) := rfl
  rw [e]
  generalize it (nx bl jn) i c.1 = t at hs ⊢
  obtain ⟨x, y, d⟩ := t
  have hd : d = 0 ∨ d = 1 ∨ d = 2 ∨ d = 3 := by have : d < 4 := hs; omega
  rcases hd with rfl | rfl | rfl | rfl <;> simp [en, fromP, unitP] <;> omega

theorem far_anti (p q : Pt) (x y : Int) : farZ q p x y = -farZ p q x y := by
  have a := cr_far p q x y
  have b := cr_far q p x y
  have c : crZ q p x y = -crZ p q x y := by unfold crZ; grind
  omega
theorem wd_anti (p q : Pt) (x y : Int) : wdZ q p x y = -wdZ p q x y := by
  rw [wdZ_eq, wdZ_eq, far_anti p q]
  repeat' split <;> try omega

/-- What a side adds. -/
theorem wd_side {s : Sd} (h : s.2.2 < 4) (x y : Int) : wdZ (fromP s) (en s) x y = hw x y s := by
  obtain ⟨a, b, d⟩ := s
  have hd : d = 0 ∨ d = 1 ∨ d = 2 ∨ d = 3 := by have : d < 4 := h; omega
  rw [wdZ_eq]
  rcases hd with rfl | rfl | rfl | rfl
  · have e : farZ (a, b) (a, b + 1) x y = 2 * (a - x) - 1 := by unfold farZ; simp only; grind
    simp only [en, fromP, hw, e, true_and]
    repeat' split <;> try omega
  · simp only [en, fromP, hw]
    repeat' split <;> try omega
  · have e : farZ (a, b) (a, b - 1) x y = -(2 * (a - x) - 1) := by unfold farZ; simp only; grind
    simp only [en, fromP, hw, e, true_and]
    repeat' split <;> try omega
  · simp only [en, fromP, hw]
    repeat' split <;> try omega

/-- The winding number of a cycle, by its points or by its sides. -/
theorem Cyc.wsum {bl jn : Int → Int → Bool} {c : Sd × Nat} (h : Cyc (nx bl jn) (fun s => isS bl s = true) c.1 c.2) (x y : Int) : Qm.wsum (ptsOf (nx bl jn) c) x y c.2 = wn (cyS (nx bl jn) c) x y := by
  have h0 : 0 < c.2 := h.2.1
  have hl := ptsOf_len (nx bl jn) c
  have e1 : Qm.wsum (ptsOf (nx bl jn) c) x y c.2 = fsE (fun p q => wdZ p q x y) (ptsOf (nx bl jn) c) c.2 := by
    have := bsE_all (fun p q => wdZ p q x y) (ptsOf (nx bl jn) c) (by omega)
    rw [hl] at this
    rw [wsum_bsE, this]
  rw [e1]
  have key : ∀ k, k ≤ c.2 → fsE (fun p q => wdZ p q x y) (ptsOf (nx bl jn) c) k = sm ((List.range k).map fun i => it (nx bl jn) i c.1) (hw x y) := by
    intro k
    induction k with
    | zero => intro _; rfl
    | succ k ih =>
      intro hk
      rw [fsE, ih (by omega), List.range_succ, List.map_append, sm_app]
      congr 1
      have n1 : nxP (ptsOf (nx bl jn) c) k = en (it (nx bl jn) k c.1) := by
        unfold nxP
        rw [hl, ptsOf_getD _ c _ (Nat.mod_lt _ h0), ← h.mod (k + 1)]; rfl
      rw [ptsOf_getD _ c k (by omega), n1, wd_side (isS_lt (it_isS (jn := jn) h.1 k))]
      simp [sm]
  exact key c.2 (Nat.le_refl _)

/-- Line by line along a row of points. -/
def gS (e : Pt → Pt → Int) (w : List Pt) : Nat → Int
  | 0 => 0
  | k + 1 => gS e w k + e (w.getD k (0, 0)) (w.getD (k + 1) (0, 0))
def chE (e : Pt → Pt → Int) : List Pt → Int
  | a :: b :: l => e a b + chE e (b :: l)
  | _ => 0
theorem gS_cons (e : Pt → Pt → Int) (a : Pt) (w : List Pt) (k : Nat) : gS e (a :: w) (k + 1) = e a (w.getD 0 (0, 0)) + gS e w k := by
  induction k with
  | zero => simp [gS]
  | succ k ih => rw [gS, ih, gS]; simp only [List.getD_cons_succ]; omega
theorem chE_gS (e : Pt → Pt → Int) : ∀ w : List Pt, chE e w = gS e w (w.length - 1)
  | [] => rfl
  | [_] => rfl
  | a :: b :: l => by
    rw [chE, chE_gS e (b :: l)]
    show _ = gS e (a :: b :: l) (l.length + 1)
    rw [gS_cons]; rfl
theorem fsE_gS (e : Pt → Pt → Int) (l : List Pt) (h0 : 0 < l.length) : ∀ k, k ≤ l.length → fsE e l k = gS e (l ++ [fstP l]) k
  | 0, _ => rfl
  | k + 1, hk => by
    rw [fsE, gS, fsE_gS e l h0 k (by omega), getD_app_l _ _ _ _ (by omega)]
    congr 2
    rcases Nat.lt_or_ge (k + 1) l.length with h | h
    · rw [nxP_lt l k h, getD_app_l _ _ _ _ h]
    · obtain rfl : k = l.length - 1 := by omega
      rw [nxP_last l h0, getD_app_r _ _ _ _ h, show l.length - 1 + 1 - l.length = 0 from by omega]; rfl
theorem gS_sl (e : Pt → Pt → Int) (v : List Pt) (i j : Nat) : ∀ k, k ≤ j - i → gS e (sl v i j) k = gS e v (i + k) - gS e v i
  | 0, _ => by simp [gS]
  | k + 1, hk => by
    rw [gS, gS_sl e v i j k (by omega), sl_getD (by omega), sl_getD (by omega), ← Nat.add_assoc, gS]
    rw [Nat.add_assoc]; omega
/-- A line that fits adds as much as what it stands for. -/
theorem okV_wd {v : List Pt} {i j : Nat} (h : okV v i j) (x y : Int) : wdZ (v.getD i (0, 0)) (v.getD j (0, 0)) x y = gS (fun p q => wdZ p q x y) v j - gS (fun p q => wdZ p q x y) v i := by
  obtain ⟨h1, h2, _, h4⟩ := h
  have hl := sl_len (v := v) (i := i) (j := j) (by omega) h2
  have h0 : 0 < (sl v i j).length := by omega
  have a := ((okAt_iff _ x y).1 ((fit_all h0).1 h4 x y)).2
  rw [wsum_bsE, bsE_all _ _ h0, fsE_gS _ _ h0 _ (Nat.le_refl _), hl, gS] at a
  have e1 : gS (fun p q => wdZ p q x y) (sl v i j ++ [fstP (sl v i j)]) (j - i) = gS (fun p q => wdZ p q x y) (sl v i j) (j - i) := by
    have key : ∀ k, k ≤ j - i → gS (fun p q => wdZ p q x y) (sl v i j ++ [fstP (sl v i j)]) k = gS (fun p q => wdZ p q x y) (sl v i j) k := by
      intro k
      induction k with
      | zero => intro _; rfl
      | succ k ih => intro hk; rw [gS, gS, ih (by omega), getD_app_l _ _ _ _ (by omega), getD_app_l _ _ _ _ (by omega)]
    exact key _ (Nat.le_refl _)
  rw [e1, gS_sl _ _ _ _ _ (Nat.le_refl _), getD_app_l _ _ _ _ (by omega), getD_app_r _ _ _ _ (by omega), sl_getD (by omega), hl, show j - i + 1 - (j - i + 1) = 0 from by omega, List.getD_cons_zero] at a
  unfold fstP at a
  rw [sl_getD (by omega), show i + (j - i) = j from by omega, Nat.add_zero, wd_anti (v.getD i (0, 0))] at a
  omega
theorem Pth.chain {v : List Pt} {i j : Nat} {l : List Nat} (h : Pth (okV v) i j l) (x y : Int) : chE (fun p q => wdZ p q x y) (l.map fun k => v.getD k (0, 0)) = gS (fun p q => wdZ p q x y) v j - gS (fun p q => wdZ p q x y) v i := by
  induction h with
  | one i => simp [chE]
  | cons i k j l ho hp ih =>
    obtain ⟨m, rfl⟩ := hp.head
    rw [List.map_cons, List.map_cons] at *
    rw [chE, ih, okV_wd ho]; omega

/-- A polygon winds as its cycle does. -/
theorem corn_wsum {c : List Pt} (h0 : 0 < c.length) (hu : Unit (c ++ [fstP c])) (x y : Int) : Qm.wsum (cornL c) x y (cornL c).length = Qm.wsum c x y c.length := by
  have hp := (cornN_is h0 hu).1
  obtain ⟨m, hm⟩ := hp.head
  have hne : 0 < (cornN c).length := by
    rcases Nat.eq_zero_or_pos (cornN c).length with h | h
    · rw [List.length_eq_zero_iff.1 h] at hm
      rw [List.nil_append] at hm
      injection hm with h1 _
      omega
    · exact h
  have hl0 : 0 < (cornL c).length := by unfold cornL; simpa using hne
  have hlt := cornN_lt h0 hu
  have e1 : (cornN c ++ [c.length]).map (fun k => (c ++ [fstP c]).getD k (0, 0)) = cornL c ++ [fstP (cornL c)] := by
    rw [List.map_append]
    congr 1
    · unfold cornL
      exact List.map_congr_left fun k hk => getD_app_l _ _ _ _ (hlt k hk)
    · rw [List.map_singleton, getD_app_r _ _ _ _ (Nat.le_refl _), Nat.sub_self, List.getD_cons_zero]
      congr 1
      match hN : cornN c, hne with
      | a :: t, _ =>
        rw [hN] at hm
        simp only [List.cons_append, List.cons.injEq] at hm
        unfold cornL
        rw [hN, hm.1]; rfl
  have a := hp.chain x y
  rw [e1, chE_gS, List.length_append, List.length_singleton, Nat.add_sub_cancel] at a
  rw [wsum_bsE, bsE_all _ _ hl0, fsE_gS _ _ hl0 _ (Nat.le_refl _), a, wsum_bsE, bsE_all _ _ h0, fsE_gS _ _ h0 _ (Nat.le_refl _), gS]
  omega

/-- The winding numbers of all shapes together. -/
def wndA (L : List (List Pt)) (x y : Int) : Int := (L.map fun l => Qm.wsum l x y l.length).sum
section
variable {bl jn : Int → Int → Bool} {R : List (Sd × Nat)}
theorem Res.cycles (h : Res (nx bl jn) (fun s => isS bl s = true) key R) {W H : Int} (hp : Pic bl W H) (x y : Int) : wndA (R.map (ptsOf (nx bl jn))) x y = if bl x y = true then 1 else 0 := by
  rw [← h.wnA hp x y, wn, ← sm_all]
  unfold wndA
  rw [List.map_map]
  congr 1
  refine List.map_congr_left fun c hc => ?_
  simp only [Function.comp, ptsOf_len]
  exact (h.1 c hc).1.wsum x y
theorem Res.corners (h : Res (nx bl jn) (fun s => isS bl s = true) key R) {W H : Int} (hp : Pic bl W H) (x y : Int) : wndA (R.map fun c => cornL (ptsOf (nx bl jn) c)) x y = if bl x y = true then 1 else 0 := by
  rw [← h.cycles hp x y]
  unfold wndA
  rw [List.map_map, List.map_map]
  congr 1
  refine List.map_congr_left fun c hc => ?_
  simp only [Function.comp]
  exact corn_wsum (by rw [ptsOf_len]; exact (h.1 c hc).1.2.1) (h.1 c hc).1.unit x y
end
end Go.Proofs.Ytljfiefobnncaab.Qm

/- What is filled again: cycles and polygons. -/
namespace Go.Proofs.Ytljfiefobnncaab
open Go.RowKit

def shOf (L : List (Value × List (Int × Int))) : List ShT := L.map fun p => (p.2, Qm.twiceOf p.2)
theorem shOf_len (L : List (Value × List (Int × Int))) : (shOf L).length = L.length := by simp [shOf]
theorem shOf_at (L : List (Value × List (Int × Int))) (i : Nat) (hi : i < L.length) : (shOf L).getD i sh0 = (L[i].2, Qm.twiceOf L[i].2) := by
  simp [shOf, List.getD_eq_getElem?_getD, hi]
/-- A list of shapes that may be read is one to be read. -/
theorem ShownP.sh {ao : Option Addr} {n cap : Nat} {L : List (Value × List (Int × Int))} {w : World} (h : ShownP (.slice ao n cap) L w) : n = (shOf L).length ∧ ShIs ao (shOf L) w := by
  obtain ⟨ao', cap', e, hr⟩ := h.row
  injection e with e1 e2 _
  subst e1
  refine ⟨by rw [shOf_len]; exact e2, ?_⟩
  rcases hr with h0 | ⟨gl, rfl, hg, hc⟩
  · exact .inl (by rw [shOf_len]; exact h0)
  · by_cases hn : L.length = 0
    · exact .inl (by rw [shOf_len]; exact hn)
    refine .inr ⟨gl, 0, rfl, hg, fun i hi => ?_⟩
    rw [shOf_len] at hi
    rw [shOf_at L i hi]
    obtain ⟨g, c, e, h0, hp⟩ := h.pts L[i] (List.getElem_mem hi)
    have s := shpP_at L i hi
    rw [e] at s
    exact ⟨_, c, by rw [Nat.zero_add]; exact hc _ _ s.1, by rw [Nat.zero_add]; exact hc _ _ s.2, .inr ⟨g, 0, rfl, hp.o⟩⟩
theorem totW_wnd (L : List ShT) (x y : Int) : ∀ k, k ≤ L.length → totW L x y k = Qm.wndA ((L.take k).map (·.1)) x y
  | 0, _ => by simp [totW, Qm.wndA]
  | k + 1, hk => by
    have e : L.getD k sh0 = L[k] := by rw [List.getD_eq_getElem?_getD, List.getElem?_eq_getElem (by omega)]; rfl
    rw [totW, totW_wnd L x y k (by omega), e, List.take_succ_eq_append_getElem (by omega)]
    unfold Qm.wndA
    rw [List.map_append, List.map_append, List.sum_append]
    congr 1
    simp only [List.map_cons, List.map_nil, List.sum_cons, List.sum_nil, Int.add_zero]
theorem totW_all (L : List (Value × List (Int × Int))) (x y : Int) : totW (shOf L) x y (shOf L).length = Qm.wndA (L.map (·.2)) x y := by
  rw [totW_wnd _ _ _ _ (Nat.le_refl _), List.take_length]
  unfold shOf
  rw [List.map_map]; rfl
theorem plB_of {L : List (Value × List (Int × Int))} (h : ∀ p ∈ L, 0 < p.2.length ∧ Qm.Small p.2) : plB (shOf L) = true := by
  unfold plB
  rw [List.all_eq_true]
  intro s hs
  obtain ⟨p, hp, rfl⟩ := List.mem_map.1 hs
  refine okSh_of (h p hp).1 ?_
  rw [List.all_eq_true]
  intro q hq
  exact decide_eq_true ((h p hp).2 q hq)
theorem px_one (b : Bool) {r : Int} (hr : r = 0 ∨ r = 1) : pxV (wrap64 (if b = true then 1 else 0)) r = if b = true then 49 else 48 := by
  have w0 : wrap64 0 = 0 := by unfold wrap64; omega
  have w1 : wrap64 1 = 1 := by unfold wrap64; omega
  cases b
  · simp [w0, pxV, pxB]
  · rcases hr with rfl | rfl
    · simp [w1, pxV, pxB]
    · simp [w1, pxV, pxB]
/-- The bitmap comes back. -/
theorem fpxs_back {L : List ShT} {W H : Nat} {l : List UInt8} {r : Int} (hr : r = 0 ∨ r = 1) (hW : 1 ≤ W) (hl : l.length = W * H) (hall : l.all Pm.okPix = true) (h : ∀ x y, totW L x y L.length = if Pm.blackB W H l x y = true then 1 else 0) : fpxs L W r (H * W) = l := by
  apply List.ext_getElem
  · rw [fpxs_len, hl, Nat.mul_comm]
  · intro k h1 h2
    rw [fpxs_len] at h1
    simp only [fpxs, List.getElem_map, List.getElem_range]
    have kx : k % W < W := Nat.mod_lt _ (by omega)
    have ky : k / W < H := Nat.div_lt_of_lt_mul (by rwa [Nat.mul_comm] at h1)
    unfold fpx
    rw [h, px_one _ hr, Pm.blackB_in W H l (k % W) (k / W) kx ky (k / W * W) rfl]
    have ek : k / W * W + k % W = k := by rw [Nat.mul_comm]; exact Nat.div_add_mod k W
    rw [ek]
    have ok := List.all_eq_true.1 hall l[k] (List.getElem_mem h2)
    unfold Pm.bitAt
    rw [List.getElem?_eq_getElem h2]
    unfold Pm.okPix at ok
    simp only [Bool.or_eq_true, beq_iff_eq] at ok
    rcases ok with e | e <;> rw [e] <;> rfl
end Go.Proofs.Ytljfiefobnncaab
