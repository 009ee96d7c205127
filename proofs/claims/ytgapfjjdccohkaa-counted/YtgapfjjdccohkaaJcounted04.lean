import Derived.Test.YtgapfjjdccohkaaJcounted03

/- Pieces of black and of white that hold together, and the cycles round them. Nothing of the program stands here. -/
namespace Go.Proofs.Ytgapfjjdccohkaa.Qm

/-- The four pixels round a point: nw, ne, se, sw. -/
def ps4 (p : Int × Int) : Nat → Int × Int
  | 0 => (p.1 - 1, p.2 - 1)
  | 1 => (p.1, p.2 - 1)
  | 2 => (p.1, p.2)
  | _ => (p.1 - 1, p.2)
theorem p40 (p : Int × Int) : ps4 p 0 = (p.1 - 1, p.2 - 1) := rfl
theorem p41 (p : Int × Int) : ps4 p 1 = (p.1, p.2 - 1) := rfl
theorem p42 (p : Int × Int) : ps4 p 2 = (p.1, p.2) := rfl
theorem p43 (p : Int × Int) : ps4 p 3 = (p.1 - 1, p.2) := rfl
def v4 (a b c e : Bool) : Nat → Bool
  | 0 => a
  | 1 => b
  | 2 => c
  | _ => e
def inL : Nat → Nat
  | 0 => 1
  | 1 => 0
  | 2 => 3
  | _ => 2
def ouL : Nat → Nat
  | 0 => 2
  | 1 => 1
  | 2 => 0
  | _ => 3
def inR : Nat → Nat
  | 0 => 0
  | 1 => 3
  | 2 => 2
  | _ => 1
def ouR : Nat → Nat
  | 0 => 3
  | 1 => 2
  | 2 => 1
  | _ => 0
/-- Do two of the four hold together? -/
def link (j : Bool) (v : Nat → Bool) (i k : Nat) : Bool := (v i == v k) && (i == k || (i + 1) % 4 == k || (k + 1) % 4 == i || ((i + 2) % 4 == k && (v i == j || v ((i + 1) % 4) == v i || v ((i + 3) % 4) == v i)))
theorem next_link : ∀ (j a b c e : Bool) (d : Fin 4), inQ a b c e d = true → (link j (v4 a b c e) (inL d) (ouL (nextD j a b c e d)) = true ∧ link j (v4 a b c e) (inR d) (ouR (nextD j a b c e d)) = true) := by decide
theorem ouL_lt (d : Nat) : ouL d < 4 := by unfold ouL; split <;> omega
theorem ouR_lt (d : Nat) : ouR d < 4 := by unfold ouR; split <;> omega
theorem inL_lt (d : Nat) : inL d < 4 := by unfold inL; split <;> omega
theorem inR_lt (d : Nat) : inR d < 4 := by unfold inR; split <;> omega

/-- Two pixels next to each other that hold together. -/
def Adj (bl : Int → Int → Bool) (j : Bool) (p q : Int × Int) : Prop := bl p.1 p.2 = bl q.1 q.2 ∧ ((q.1 = p.1 ∧ (q.2 = p.2 + 1 ∨ q.2 = p.2 - 1)) ∨ (q.2 = p.2 ∧ (q.1 = p.1 + 1 ∨ q.1 = p.1 - 1)) ∨ (bl p.1 p.2 = j ∧ (q.1 = p.1 + 1 ∨ q.1 = p.1 - 1) ∧ (q.2 = p.2 + 1 ∨ q.2 = p.2 - 1)))
def InG (W H : Int) (p : Int × Int) : Prop := -1 ≤ p.1 ∧ p.1 ≤ W ∧ -1 ≤ p.2 ∧ p.2 ≤ H
/-- They hold together within the grid. -/
inductive Cn (bl : Int → Int → Bool) (j : Bool) (W H : Int) (p : Int × Int) : Int × Int → Prop
  | refl : Cn bl j W H p p
  | step (q r : Int × Int) : Cn bl j W H p q → Adj bl j q r → InG W H r → Cn bl j W H p r
section
variable {bl : Int → Int → Bool} {j : Bool} {W H : Int} {p q r : Int × Int}
theorem Adj.symm (h : Adj bl j p q) : Adj bl j q p := by
  obtain ⟨h1, h2⟩ := h
  refine ⟨h1.symm, ?_⟩
  rcases h2 with h2 | h2 | ⟨h3, h2⟩
  · exact .inl (by omega)
  · exact .inr (.inl (by omega))
  · exact .inr (.inr ⟨by rw [← h1]; exact h3, by omega⟩)
theorem Cn.trans (h : Cn bl j W H p q) (k : Cn bl j W H q r) : Cn bl j W H p r := by
  induction k with
  | refl => exact h
  | step a b _ hb hg ih => exact .step a b ih hb hg
theorem Cn.one (h : Adj bl j p q) (hg : InG W H q) : Cn bl j W H p q := .step p q .refl h hg
theorem Cn.in (h : Cn bl j W H p q) (hp : InG W H p) : InG W H q := by
  cases h with
  | refl => exact hp
  | step _ _ _ _ hg => exact hg
theorem Cn.symm (h : Cn bl j W H p q) (hp : InG W H p) : Cn bl j W H q p := by
  induction h with
  | refl => exact .refl
  | step a b ha hab hg ih => exact (Cn.one hab.symm (ha.in hp)).trans ih
theorem Cn.colour (h : Cn bl j W H p q) : bl p.1 p.2 = bl q.1 q.2 := by
  induction h with
  | refl => rfl
  | step a b _ hab _ ih => exact ih.trans hab.1
/-- Within the four. -/
theorem link_cn (P : Int × Int) (hg : ∀ i, i < 4 → InG W H (ps4 P i)) {i k : Nat} (hi : i < 4) (hk : k < 4) (h : link j (v4 (bl (P.1 - 1) (P.2 - 1)) (bl P.1 (P.2 - 1)) (bl P.1 P.2) (bl (P.1 - 1) P.2)) i k = true) : Cn bl j W H (ps4 P i) (ps4 P k) := by
  have vv : ∀ i, i < 4 → v4 (bl (P.1 - 1) (P.2 - 1)) (bl P.1 (P.2 - 1)) (bl P.1 P.2) (bl (P.1 - 1) P.2) i = bl (ps4 P i).1 (ps4 P i).2 := by
    intro i hi
    have : i = 0 ∨ i = 1 ∨ i = 2 ∨ i = 3 := by omega
    rcases this with rfl | rfl | rfl | rfl <;> rfl
  have side : ∀ i, i < 4 → bl (ps4 P i).1 (ps4 P i).2 = bl (ps4 P ((i + 1) % 4)).1 (ps4 P ((i + 1) % 4)).2 → Adj bl j (ps4 P i) (ps4 P ((i + 1) % 4)) := by
    intro i hi e
    refine ⟨e, ?_⟩
    have : i = 0 ∨ i = 1 ∨ i = 2 ∨ i = 3 := by omega
    rcases this with rfl | rfl | rfl | rfl
    · exact .inr (.inl ⟨rfl, .inl (show P.1 = P.1 - 1 + 1 by omega)⟩)
    · exact .inl ⟨rfl, .inl (show P.2 = P.2 - 1 + 1 by omega)⟩
    · exact .inr (.inl ⟨rfl, .inr rfl⟩)
    · exact .inl ⟨rfl, .inr rfl⟩
  have diag : ∀ i, i < 4 → bl (ps4 P i).1 (ps4 P i).2 = bl (ps4 P ((i + 2) % 4)).1 (ps4 P ((i + 2) % 4)).2 → bl (ps4 P i).1 (ps4 P i).2 = j → Adj bl j (ps4 P i) (ps4 P ((i + 2) % 4)) := by
    intro i hi e ej
    refine ⟨e, .inr (.inr ⟨ej, ?_⟩)⟩
    have : i = 0 ∨ i = 1 ∨ i = 2 ∨ i = 3 := by omega
    rcases this with rfl | rfl | rfl | rfl
    · exact ⟨.inl (show P.1 = P.1 - 1 + 1 by omega), .inl (show P.2 = P.2 - 1 + 1 by omega)⟩
    · exact ⟨.inr rfl, .inl (show P.2 = P.2 - 1 + 1 by omega)⟩
    · exact ⟨.inr rfl, .inr rfl⟩
    · exact ⟨.inl (show P.1 = P.1 - 1 + 1 by omega), .inr rfl⟩
  unfold link at h
  rw [Bool.and_eq_true, beq_iff_eq] at h
  obtain ⟨hv, h⟩ := h
  rw [vv i hi, vv k hk] at hv
  simp only [Bool.or_eq_true, Bool.and_eq_true, beq_iff_eq] at h
  rw [vv i hi, vv _ (Nat.mod_lt _ (by omega)), vv _ (Nat.mod_lt _ (by omega))] at h
  rcases h with ((h | h) | h) | ⟨h, h2⟩
  · subst h; exact .refl
  · subst h; exact .one (side i hi hv) (hg _ hk)
  · have := side k hk (by rw [h]; exact hv.symm)
    rw [h] at this
    exact .one this.symm (hg _ hk)
  · subst h
    rcases h2 with (h2 | h2) | h2
    · exact .one (diag i hi hv h2) (hg _ hk)
    · have s1 := side i hi h2.symm
      have s2 := side ((i + 1) % 4) (Nat.mod_lt _ (by omega)) (by rw [show ((i + 1) % 4 + 1) % 4 = (i + 2) % 4 from by omega, h2]; exact hv)
      rw [show ((i + 1) % 4 + 1) % 4 = (i + 2) % 4 from by omega] at s2
      exact .step _ _ (.one s1 (hg _ (Nat.mod_lt _ (by omega)))) s2 (hg _ hk)
    · have s1 := side ((i + 3) % 4) (Nat.mod_lt _ (by omega)) (by rw [show ((i + 3) % 4 + 1) % 4 = i from by omega]; exact h2)
      rw [show ((i + 3) % 4 + 1) % 4 = i from by omega] at s1
      have s2 := side ((i + 2) % 4) (Nat.mod_lt _ (by omega)) (by rw [show ((i + 2) % 4 + 1) % 4 = (i + 3) % 4 from by omega, h2]; exact hv.symm)
      rw [show ((i + 2) % 4 + 1) % 4 = (i + 3) % 4 from by omega] at s2
      exact .step _ _ (.one s1.symm (hg _ (Nat.mod_lt _ (by omega)))) s2.symm (hg _ hk)

def lf (s : Sd) : Int × Int := (lpx s.1 s.2.2, lpy s.2.1 s.2.2)
def rt (s : Sd) : Int × Int := (rpx s.1 s.2.2, rpy s.2.1 s.2.2)
theorem lf_in (s : Sd) (h : s.2.2 < 4) : lf s = ps4 (en s) (inL s.2.2) ∧ rt s = ps4 (en s) (inR s.2.2) := by
  obtain ⟨x, y, d⟩ := s
  have : d = 0 ∨ d = 1 ∨ d = 2 ∨ d = 3 := by have : d < 4 := h; omega
  rcases this with rfl | rfl | rfl | rfl <;> simp [lf, rt, lpx, lpy, rpx, rpy, ps4, en, inL, inR] <;> omega
theorem lf_out (s : Sd) (h : s.2.2 < 4) : lf s = ps4 (fromP s) (ouL s.2.2) ∧ rt s = ps4 (fromP s) (ouR s.2.2) := by
  obtain ⟨x, y, d⟩ := s
  have : d = 0 ∨ d = 1 ∨ d = 2 ∨ d = 3 := by have : d < 4 := h; omega
  rcases this with rfl | rfl | rfl | rfl <;> simp [lf, rt, lpx, lpy, rpx, rpy, ps4, fromP, ouL, ouR]
end

section
variable {bl : Int → Int → Bool} {j : Bool} {W H : Int}
theorem lf_next (hp : Pic bl W H) {s : Sd} (h : isS bl s = true) : Cn bl j W H (lf s) (lf (nx bl (fun _ _ => j) s)) ∧ Cn bl j W H (rt s) (rt (nx bl (fun _ _ => j) s)) := by
  have hd := isS_lt h
  have hn := nx_isS (jn := fun _ _ => j) h
  have hi := side_in hp hn
  have hi2 : 0 ≤ (en s).1 ∧ (en s).1 ≤ W ∧ 0 ≤ (en s).2 ∧ (en s).2 ≤ H := hi
  have hg : ∀ i, i < 4 → InG W H (ps4 (en s) i) := by
    intro i hi
    have : i = 0 ∨ i = 1 ∨ i = 2 ∨ i = 3 := by omega
    rcases this with rfl | rfl | rfl | rfl <;> simp only [p40, p41, p42, p43, InG] <;> omega
  rw [isS_in] at h
  have nl := next_link j _ _ _ _ ⟨s.2.2, hd⟩ h
  simp only at nl
  obtain ⟨e1, e2⟩ := lf_in s hd
  obtain ⟨e3, e4⟩ := lf_out (nx bl (fun _ _ => j) s) (isS_lt hn)
  rw [e1, e2, e3, e4]
  exact ⟨link_cn _ hg (inL_lt _) (ouL_lt _) nl.1, link_cn _ hg (inR_lt _) (ouR_lt _) nl.2⟩
theorem it_cn (hp : Pic bl W H) {s : Sd} (h : isS bl s = true) (i : Nat) : Cn bl j W H (lf s) (lf (it (nx bl fun _ _ => j) i s)) ∧ Cn bl j W H (rt s) (rt (it (nx bl fun _ _ => j) i s)) := by
  induction i with
  | zero => exact ⟨.refl, .refl⟩
  | succ i ih =>
    have := lf_next (j := j) hp (it_isS (jn := fun _ _ => j) h i)
    exact ⟨ih.1.trans this.1, ih.2.trans this.2⟩
end
end Go.Proofs.Ytgapfjjdccohkaa.Qm

/- All cycles together: their sides are all sides, each once; their winding numbers are 1 at black pixels, 0 at white ones; how many sides there are. Nothing of the program stands here. -/
namespace Go.Proofs.Ytgapfjjdccohkaa.Qm

/-- The sides of all cycles. -/
def alS (f : Sd → Sd) (R : List (Sd × Nat)) : List Sd := R.flatMap (cyS f)
theorem alS_cons (f : Sd → Sd) (c : Sd × Nat) (R : List (Sd × Nat)) : alS f (c :: R) = cyS f c ++ alS f R := rfl
theorem sm_all (f : Sd → Sd) (g : Sd → Int) (R : List (Sd × Nat)) : (R.map fun c => sm (cyS f c) g).sum = sm (alS f R) g := by
  induction R with
  | nil => rfl
  | cons c R ih => rw [List.map_cons, List.sum_cons, ih, alS_cons, sm_app]

section
variable {bl jn : Int → Int → Bool} {R : List (Sd × Nat)}

theorem Res.closed (h : Res (nx bl jn) (fun s => isS bl s = true) key R) : Closed (alS (nx bl jn) R) := by
  have h1 := h.1
  clear h
  induction R with
  | nil => exact Closed.nil
  | cons c R ih => exact (h1 c (by simp)).1.closed.app (ih fun c' hc => h1 c' (by simp [hc]))
theorem Res.mem (h : Res (nx bl jn) (fun s => isS bl s = true) key R) {s : Sd} : s ∈ alS (nx bl jn) R ↔ isS bl s = true := by
  unfold alS
  rw [List.mem_flatMap]
  constructor
  · rintro ⟨c, hc, hs⟩
    exact (h.1 c hc).1.sides s hs
  · intro hs
    obtain ⟨c, hc, i, hi, e⟩ := h.2.2 s hs
    exact ⟨c, hc, mem_cyS.2 ⟨i, hi, e⟩⟩
theorem Res.nodup (h : Res (nx bl jn) (fun s => isS bl s = true) key R) : (alS (nx bl jn) R).Nodup := by
  unfold alS
  rw [List.Nodup, List.pairwise_flatMap]
  refine ⟨fun c hc => (h.1 c hc).1.nodup, List.Pairwise.imp_of_mem ?_ h.2.1⟩
  intro a b ha hb hk x hx y hy e
  subst e
  obtain ⟨i, hi, e1⟩ := mem_cyS.1 hx
  obtain ⟨j, hj, e2⟩ := mem_cyS.1 hy
  have := (h.1 a ha).share (h.1 b hb) hi (e1.symm.trans e2)
  subst this
  omega

theorem Res.ctA (h : Res (nx bl jn) (fun s => isS bl s = true) key R) (s : Sd) : ct (alS (nx bl jn) R) s = if isS bl s = true then 1 else 0 := by
  by_cases hs : isS bl s = true
  · rw [if_pos hs]; exact ct_yes h.nodup (h.mem.2 hs)
  · rw [if_neg hs]; exact ct_no fun hm => hs (h.mem.1 hm)

/-- All winding numbers together tell black from white. -/
theorem Res.wnA (h : Res (nx bl jn) (fun s => isS bl s = true) key R) {W H : Int} (hp : Pic bl W H) (x y : Int) : wn (alS (nx bl jn) R) x y = if bl x y = true then 1 else 0 := by
  have hs : ∀ s ∈ alS (nx bl jn) R, isS bl s = true := fun s hm => h.mem.1 hm
  have hd : ∀ s ∈ alS (nx bl jn) R, s.2.2 < 4 := fun s hm => isS_lt (hs s hm)
  have hlow : ∀ s ∈ alS (nx bl jn) R, 0 ≤ s.1 := fun s hm => (side_in hp (hs s hm)).1
  have neg : ∀ x y, x < 0 → bl x y = false := fun x y hx => by
    cases e : bl x y with
    | false => rfl
    | true => have := hp.box _ _ e; omega
  by_cases hx : x < 0
  · rw [wn_left h.closed hd x y fun s hm => by have := hlow s hm; omega, neg x y hx]; simp
  · obtain ⟨n, rfl⟩ : ∃ n : Nat, x = n := ⟨x.toNat, by omega⟩
    clear hx
    have key : ∀ n : Nat, wn (alS (nx bl jn) R) ((n : Int) - 1) y = if bl ((n : Int) - 1) y = true then 1 else 0 := by
      intro n
      induction n with
      | zero => rw [wn_left h.closed hd _ y fun s hm => by have := hlow s hm; simp; omega, neg _ y (by simp)]; simp
      | succ n ih =>
        have a := wn_x (alS (nx bl jn) R) n y
        rw [h.ctA, h.ctA, ih] at a
        rw [show ((n + 1 : Nat) : Int) - 1 = n from by omega]
        simp only [isS, outQ] at a
        rw [show y + 1 - 1 = y from by omega] at a
        cases e1 : bl ((n : Int) - 1) y <;> cases e2 : bl (n : Int) y <;> simp [e1, e2] at a ⊢ <;> omega
    have := key (n + 1)
    rwa [show ((n + 1 : Nat) : Int) - 1 = n from by omega] at this

/-- All areas together. -/
theorem Res.area (h : Res (nx bl jn) (fun s => isS bl s = true) key R) {W H : Nat} (hp : Pic bl W H) : (R.map fun c => twiceOf (ptsOf (nx bl jn) c)).sum = 2 * bx W H (fun x y => if bl x y = true then 1 else 0) := by
  rw [← bx_congr (fun x y => h.wnA hp x y), bx_wn hp fun s hm => h.mem.1 hm, ← sm_all]
  have h1 := h.1
  clear h
  induction R with
  | nil => rfl
  | cons c R ih =>
    simp only [List.map_cons, List.sum_cons]
    rw [ih fun c' hc => h1 c' (by simp [hc]), (h1 c (by simp)).1.twice hp, bx_wn hp (h1 c (by simp)).1.sides]
    omega
end

theorem bx_one (W H : Nat) (a b : Int) (ha : 0 ≤ a ∧ a < W) (hb : 0 ≤ b ∧ b < H) : bx W H (fun x y => if a = x ∧ b = y then 1 else 0) = 1 := by
  have e : bx W H (fun x y => if a = x ∧ b = y then 1 else 0) = sN H fun y => if b = (y : Int) then 1 else 0 := by
    refine sN_congr fun y _ => ?_
    by_cases hy : b = (y : Int)
    · rw [if_pos hy]
      have := sN_eq W a 1
      rw [if_pos ha] at this
      exact (sN_congr fun x _ => by simp [hy]).trans this
    · rw [if_neg hy]
      exact (sN_congr (h := fun _ => 0) fun x _ => by simp [hy]).trans (sN_zero W)
  rw [e, sN_eq, if_pos hb]
/-- At (x, y): how many of its western and its northern line are sides? -/
def cS (bl : Int → Int → Bool) (x y : Int) : Int := (if bl x y = bl (x - 1) y then 0 else 1) + (if bl x y = bl x (y - 1) then 0 else 1)
/-- Is s the western or the northern line of (x, y)? -/
def eS (x y : Int) (s : Sd) : Int := (if s = (x, y, 0) then 1 else 0) + (if s = (x, y + 1, 2) then 1 else 0) + ((if s = (x, y, 1) then 1 else 0) + (if s = (x + 1, y, 3) then 1 else 0))
theorem bx_eS {bl : Int → Int → Bool} {W H : Nat} (hp : Pic bl W H) {s : Sd} (h : isS bl s = true) : bx (W + 1) (H + 1) (fun x y => eS x y s) = 1 := by
  have d4 := isS_lt h
  have hi := side_in hp h
  obtain ⟨x, y, d⟩ := s
  simp only at hi d4
  match d, d4 with
  | 0, _ => exact (bx_congr fun a b => by simp [eS]).trans (bx_one (W + 1) (H + 1) x y (by omega) (by omega))
  | 1, _ => exact (bx_congr fun a b => by simp [eS]).trans (bx_one (W + 1) (H + 1) x y (by omega) (by omega))
  | 2, _ =>
    have hb : 0 ≤ y - 1 ∧ y - 1 < H := by simp [isS, outQ] at h; have := hp.box _ _ h.1; omega
    exact (bx_congr fun a b => by simp only [eS, Prod.mk.injEq]; simp; split <;> split <;> omega).trans (bx_one (W + 1) (H + 1) x (y - 1) (by omega) (by omega))
  | 3, _ =>
    have hb : 0 ≤ x - 1 := by simp [isS, outQ] at h; have := hp.box _ _ h.1; omega
    exact (bx_congr fun a b => by simp only [eS, Prod.mk.injEq]; simp; split <;> split <;> omega).trans (bx_one (W + 1) (H + 1) (x - 1) y (by omega) (by omega))
theorem sm_one (S : List Sd) : sm S (fun _ => 1) = S.length := by
  induction S with
  | nil => rfl
  | cons s S ih => rw [sm_cons, ih, List.length_cons]; omega

/-- How many sides there are. -/
theorem Res.count {bl jn : Int → Int → Bool} {R : List (Sd × Nat)} (h : Res (nx bl jn) (fun s => isS bl s = true) key R) {W H : Nat} (hp : Pic bl W H) : ((alS (nx bl jn) R).length : Int) = bx (W + 1) (H + 1) (cS bl) := by
  rw [← sm_one, ← sm_congr (fun s hm => bx_eS hp (h.mem.1 hm)), ← bx_sm]
  refine bx_congr fun x y => ?_
  have e : sm (alS (nx bl jn) R) (eS x y) = (ct (alS (nx bl jn) R) (x, y, 0) + ct (alS (nx bl jn) R) (x, y + 1, 2)) + (ct (alS (nx bl jn) R) (x, y, 1) + ct (alS (nx bl jn) R) (x + 1, y, 3)) := by
    unfold eS ct
    rw [sm_add, sm_add, sm_add]
  rw [e, h.ctA, h.ctA, h.ctA, h.ctA]
  simp only [isS, outQ, cS]
  rw [show y + 1 - 1 = y from by omega, show x + 1 - 1 = x from by omega]
  cases bl x y <;> cases bl (x - 1) y <;> cases bl x (y - 1) <;> simp
end Go.Proofs.Ytgapfjjdccohkaa.Qm

/- Winding numbers are the same all over a piece; a cycle's first point is that of a piece. Nothing of the program stands here. -/
namespace Go.Proofs.Ytgapfjjdccohkaa.Qm

section
variable {bl jn : Int → Int → Bool} {c : Sd × Nat}
theorem Cyc.mem_next (h : Cyc (nx bl jn) (fun s => isS bl s = true) c.1 c.2) {s : Sd} (hs : isS bl s = true) : s ∈ cyS (nx bl jn) c ↔ nx bl jn s ∈ cyS (nx bl jn) c := by
  constructor
  · intro hm
    obtain ⟨i, _, rfl⟩ := mem_cyS.1 hm
    exact h.mem (i + 1)
  · intro hm
    obtain ⟨i, _, e⟩ := mem_cyS.1 hm
    cases i with
    | zero =>
      have e2 : nx bl jn s = nx bl jn (it (nx bl jn) (c.2 - 1) c.1) := by
        rw [e]
        show c.1 = it (nx bl jn) (c.2 - 1 + 1) c.1
        rw [Nat.sub_add_cancel h.2.1, h.2.2.1]
      rw [nx_inj hs (it_isS h.1 _) e2]; exact h.mem _
    | succ i =>
      have e2 : nx bl jn s = nx bl jn (it (nx bl jn) i c.1) := e
      rw [nx_inj hs (it_isS h.1 _) e2]; exact h.mem _
theorem ct_iff {S : List Sd} (hn : S.Nodup) {s t : Sd} (h : s ∈ S ↔ t ∈ S) : ct S s = ct S t := by
  by_cases hs : s ∈ S
  · rw [ct_yes hn hs, ct_yes hn (h.1 hs)]
  · rw [ct_no hs, ct_no fun ht => hs (h.2 ht)]
end

section
variable {bl : Int → Int → Bool} {j : Bool} {c : Sd × Nat}
/-- Across a crossing. -/
theorem Cyc.diag (h : Cyc (nx bl fun _ _ => j) (fun s => isS bl s = true) c.1 c.2) (X Y : Int) :
    (bl (X - 1) (Y - 1) = j → bl X Y = j → wn (cyS (nx bl fun _ _ => j) c) (X - 1) (Y - 1) = wn (cyS (nx bl fun _ _ => j) c) X Y) ∧ (bl X (Y - 1) = j → bl (X - 1) Y = j → wn (cyS (nx bl fun _ _ => j) c) X (Y - 1) = wn (cyS (nx bl fun _ _ => j) c) (X - 1) Y) := by
  have hS := h.closed
  have hn := h.nodup
  have hs := h.sides
  have no : ∀ t : Sd, isS bl t = false → ct (cyS (nx bl fun _ _ => j) c) t = 0 := fun t ht => ct_no fun hm => by rw [hs t hm] at ht; simp at ht
  have sx : ∀ x y, bl (x - 1) y = bl x y → wn (cyS (nx bl fun _ _ => j) c) (x - 1) y = wn (cyS (nx bl fun _ _ => j) c) x y := fun x y e => wn_same_x hs e
  have sy : ∀ x y, bl x (y - 1) = bl x y → wn (cyS (nx bl fun _ _ => j) c) x (y - 1) = wn (cyS (nx bl fun _ _ => j) c) x y := fun x y e => wn_same_y hS hs e
  have wx := wn_x (cyS (nx bl fun _ _ => j) c)
  have wy := wn_y hS (fun s hm => isS_lt (hs s hm))
  constructor
  · intro h1 h2
    by_cases h3 : bl X (Y - 1) = j
    · rw [sx X (Y - 1) (by rw [h1, h3]), sy X Y (by rw [h3, h2])]
    · by_cases h4 : bl (X - 1) Y = j
      · rw [sy (X - 1) Y (by rw [h1, h4]), sx X Y (by rw [h4, h2])]
      · have a := wx X (Y - 1)
        have b := wy X Y
        rw [show Y - 1 + 1 = Y from by omega] at a
        cases j with
        | true =>
          simp only [Bool.not_eq_true] at h3 h4
          have i1 : isS bl (X + 1, Y, 3) = true := by simp only [isS, outQ]; rw [show X + 1 - 1 = X from by omega, h2, h3]; rfl
          have e1 : nx bl (fun _ _ => true) (X + 1, Y, 3) = (X, Y, 2) := by
            simp only [nx, en, nxD]
            rw [show X + 1 - 1 = X from by omega, h1, h2, h3, h4]; rfl
          have m := ct_iff hn (h.mem_next i1)
          rw [e1] at m
          have z1 := no (X, Y - 1, 0) (by simp only [isS, outQ]; rw [h3]; rfl)
          have z2 := no (X, Y, 1) (by simp only [isS, outQ]; rw [h3]; rfl)
          omega
        | false =>
          simp only [Bool.not_eq_false] at h3 h4
          have i1 : isS bl (X, Y - 1, 0) = true := by simp only [isS, outQ]; rw [h3, h1]; rfl
          have e1 : nx bl (fun _ _ => false) (X, Y - 1, 0) = (X, Y, 1) := by
            simp only [nx, en, nxD]
            rw [show Y - 1 + 1 = Y from by omega, h1, h2, h3, h4]; rfl
          have m := ct_iff hn (h.mem_next i1)
          rw [e1] at m
          have z1 := no (X, Y, 2) (by simp only [isS, outQ]; rw [h1]; rfl)
          have z2 := no (X + 1, Y, 3) (by simp only [isS, outQ]; rw [show X + 1 - 1 = X from by omega, h2]; rfl)
          omega
  · intro h1 h2
    by_cases h3 : bl X Y = j
    · rw [sy X Y (by rw [h1, h3]), sx X Y (by rw [h2, h3])]
    · by_cases h4 : bl (X - 1) (Y - 1) = j
      · rw [← sx X (Y - 1) (by rw [h4, h1]), sy (X - 1) Y (by rw [h4, h2])]
      · have a := wx X Y
        have b := wy X Y
        cases j with
        | true =>
          simp only [Bool.not_eq_true] at h3 h4
          have i1 : isS bl (X, Y + 1, 2) = true := by simp only [isS, outQ]; rw [show Y + 1 - 1 = Y from by omega, h2, h3]; rfl
          have e1 : nx bl (fun _ _ => true) (X, Y + 1, 2) = (X, Y, 1) := by
            simp only [nx, en, nxD]
            rw [show Y + 1 - 1 = Y from by omega, h1, h2, h3, h4]; rfl
          have m := ct_iff hn (h.mem_next i1)
          rw [e1] at m
          have z1 := no (X, Y, 0) (by simp only [isS, outQ]; rw [h3]; rfl)
          have z2 := no (X + 1, Y, 3) (by simp only [isS, outQ]; rw [show X + 1 - 1 = X from by omega, h3]; rfl)
          omega
        | false =>
          simp only [Bool.not_eq_false] at h3 h4
          have i1 : isS bl (X + 1, Y, 3) = true := by simp only [isS, outQ]; rw [show X + 1 - 1 = X from by omega, h3, h1]; rfl
          have e1 : nx bl (fun _ _ => false) (X + 1, Y, 3) = (X, Y, 0) := by
            simp only [nx, en, nxD]
            rw [show X + 1 - 1 = X from by omega, h1, h2, h3, h4]; rfl
          have m := ct_iff hn (h.mem_next i1)
          rw [e1] at m
          have z1 := no (X, Y + 1, 2) (by simp only [isS, outQ]; rw [show Y + 1 - 1 = Y from by omega, h2]; rfl)
          have z2 := no (X, Y, 1) (by simp only [isS, outQ]; rw [h1]; rfl)
          omega
theorem Cyc.adj (h : Cyc (nx bl fun _ _ => j) (fun s => isS bl s = true) c.1 c.2) {p q : Int × Int} (ha : Adj bl j p q) : wn (cyS (nx bl fun _ _ => j) c) p.1 p.2 = wn (cyS (nx bl fun _ _ => j) c) q.1 q.2 := by
  obtain ⟨a, b⟩ := p
  obtain ⟨u, v⟩ := q
  obtain ⟨he, ha⟩ := ha
  simp only at he ha ⊢
  have sx : ∀ x y, bl (x - 1) y = bl x y → wn (cyS (nx bl fun _ _ => j) c) (x - 1) y = wn (cyS (nx bl fun _ _ => j) c) x y := fun x y e => wn_same_x h.sides e
  have sy : ∀ x y, bl x (y - 1) = bl x y → wn (cyS (nx bl fun _ _ => j) c) x (y - 1) = wn (cyS (nx bl fun _ _ => j) c) x y := fun x y e => wn_same_y h.closed h.sides e
  rcases ha with ⟨rfl, h1 | h1⟩ | ⟨rfl, h1 | h1⟩ | ⟨hj, h1 | h1, h2 | h2⟩
  · subst h1
    have := sy u (b + 1)
    rw [show b + 1 - 1 = b from by omega] at this
    exact this he
  · subst h1; exact (sy u b he.symm).symm
  · subst h1
    have := sx (a + 1) v
    rw [show a + 1 - 1 = a from by omega] at this
    exact this he
  · subst h1; exact (sx a v he.symm).symm
  · subst h1; subst h2
    have := (h.diag (a + 1) (b + 1)).1
    rw [show a + 1 - 1 = a from by omega, show b + 1 - 1 = b from by omega] at this
    exact this hj (by rw [← he]; exact hj)
  · subst h1; subst h2
    have := (h.diag (a + 1) b).2
    rw [show a + 1 - 1 = a from by omega] at this
    exact (this (by rw [← he]; exact hj) hj).symm
  · subst h1; subst h2
    have := (h.diag a (b + 1)).2
    rw [show b + 1 - 1 = b from by omega] at this
    exact this hj (by rw [← he]; exact hj)
  · subst h1; subst h2
    exact ((h.diag a b).1 (by rw [← he]; exact hj) hj).symm
theorem Cyc.cn (h : Cyc (nx bl fun _ _ => j) (fun s => isS bl s = true) c.1 c.2) {W H : Int} {p q : Int × Int} (hc : Cn bl j W H p q) : wn (cyS (nx bl fun _ _ => j) c) p.1 p.2 = wn (cyS (nx bl fun _ _ => j) c) q.1 q.2 := by
  induction hc with
  | refl => rfl
  | step a b _ hab _ ih => exact ih.trans (h.adj hab)
end

/-- Does p come ahead of q? -/
def Bef (p q : Int × Int) : Prop := p.2 < q.2 ∨ (p.2 = q.2 ∧ p.1 < q.1)
section
variable {bl jn : Int → Int → Bool} {W H : Int} {c : Sd × Nat}
/-- Ahead of its first point a cycle winds round nothing. -/
theorem Canon.wn_first (hp : Pic bl W H) (h : Canon (nx bl jn) (fun s => isS bl s = true) key c) {u v : Int} (hb : Bef (u, v) (c.1.1, c.1.2.1)) : wn (cyS (nx bl jn) c) u v = 0 := by
  have hc := h.1
  have f0 := side_in hp hc.1
  have w32 := hp.w
  have pt : ∀ s ∈ cyS (nx bl jn) c, 0 ≤ s.1 ∧ (c.1.2.1 < s.2.1 ∨ (c.1.2.1 = s.2.1 ∧ c.1.1 ≤ s.1)) := fun s hs => by
    have hi := side_in hp (hc.sides s hs)
    obtain ⟨i, _, rfl⟩ := mem_cyS.1 hs
    have := h.least i
    simp only [key] at this
    omega
  have en' : ∀ s ∈ cyS (nx bl jn) c, c.1.2.1 < (en s).2 ∨ (c.1.2.1 = (en s).2 ∧ c.1.1 ≤ (en s).1) := fun s hs => by
    have := (pt (nx bl jn s) ((hc.mem_next (hc.sides s hs)).1 hs)).2
    exact this
  rcases hb with hb | ⟨hb, hx⟩
  · simp only at hb
    refine sm_zero fun s hs => ?_
    have a := (pt s hs).2
    have b := en' s hs
    obtain ⟨x, y, d⟩ := s
    unfold hw
    simp only at a ⊢
    rw [if_neg, if_neg]
    · rintro ⟨rfl, h2, _⟩; omega
    · rintro ⟨rfl, h2, _⟩
      simp only [en] at b
      omega
  · simp only at hb hx
    subst hb
    rw [← wn_left hc.closed (fun s hs => isS_lt (hc.sides s hs)) (-1) c.1.2.1 fun s hs => by have := (pt s hs).1; omega]
    refine sm_congr fun s hs => ?_
    have a := pt s hs
    have b := en' s hs
    obtain ⟨x, y, d⟩ := s
    unfold hw
    simp only at a ⊢
    by_cases h2 : d = 2 ∧ y = c.1.2.1 + 1
    · obtain ⟨rfl, rfl⟩ := h2
      simp only [en] at b
      rw [if_pos ⟨rfl, rfl, by omega⟩, if_pos ⟨rfl, rfl, by omega⟩]
    · by_cases h0 : d = 0 ∧ y = c.1.2.1
      · obtain ⟨rfl, rfl⟩ := h0
        rw [if_neg (by omega), if_pos ⟨rfl, rfl, by omega⟩, if_neg (by omega), if_pos ⟨rfl, rfl, by omega⟩]
      · rw [if_neg (by omega), if_neg (by omega), if_neg (by omega), if_neg (by omega)]
theorem Canon.dir (h : Canon (nx bl jn) (fun s => isS bl s = true) key c) : c.1.2.2 = 0 ∨ c.1.2.2 = 1 := by
  have h4 := h.1.four
  have := h.2 1 (by omega) (by omega)
  have e : it (nx bl jn) 1 c.1 = nx bl jn c.1 := rfl
  have hd := isS_lt h.1.1
  rw [e, key_nx _ _ _ hd] at this
  have : c.1.2.2 = 0 ∨ c.1.2.2 = 1 ∨ c.1.2.2 = 2 ∨ c.1.2.2 = 3 := by omega
  rcases this with h | h | h | h
  · exact .inl h
  · exact .inr h
  · rw [h] at this; simp at this; omega
  · rw [h] at this; simp at this; omega
theorem Canon.first (hp : Pic bl W H) (h : Canon (nx bl jn) (fun s => isS bl s = true) key c) :
    (c.1.2.2 = 0 → bl c.1.1 c.1.2.1 = true ∧ wn (cyS (nx bl jn) c) c.1.1 c.1.2.1 = 1 ∧ lw (cyS (nx bl jn) c) c.1 = 1) ∧ (c.1.2.2 = 1 → bl c.1.1 c.1.2.1 = false ∧ wn (cyS (nx bl jn) c) c.1.1 c.1.2.1 = -1 ∧ lw (cyS (nx bl jn) c) c.1 = 0) := by
  have hS := h.1.closed
  have ws := wn_side hS h.1.nodup h.1.sides (x := c.1.1) (y := c.1.2.1) (d := c.1.2.2) (h.1.mem 0)
  have hl : lw (cyS (nx bl jn) c) c.1 = wn (cyS (nx bl jn) c) (lpx c.1.1 c.1.2.2) (lpy c.1.2.1 c.1.2.2) := rfl
  have is := isS_lr bl c.1.1 c.1.2.1 c.1.2.2 (isS_lt h.1.1)
  rw [show (c.1.1, c.1.2.1, c.1.2.2) = c.1 from rfl, h.1.1] at is
  constructor
  · intro hd
    rw [hd] at ws hl is
    have z := h.wn_first hp (u := c.1.1 - 1) (v := c.1.2.1) (.inr ⟨rfl, by simp only; omega⟩)
    simp [lpx, lpy, rpx, rpy] at ws hl is
    rw [z] at ws
    exact ⟨is.1, by omega, by omega⟩
  · intro hd
    rw [hd] at ws hl is
    have z := h.wn_first hp (u := c.1.1) (v := c.1.2.1 - 1) (.inl (by simp only; omega))
    simp [lpx, lpy, rpx, rpy] at ws hl is
    rw [z] at ws hl
    exact ⟨is.2, by omega, hl⟩
end
end Go.Proofs.Ytgapfjjdccohkaa.Qm
