/- All cycles together: their sides are all sides, each once; their winding numbers are 1 at black pixels, 0 at white ones; how many sides there are. Nothing of the program stands here. -/
import Derived.Test.YtljfiefobnncaaaQl
namespace Go.Proofs.Ytljfiefobnncaaa.Qm

/-- The sides of all cycles. -/
def alS (f : Sd → Sd) (R : List (Sd × Nat)) : List Sd := R.flatMap (cyS f)
theorem alS_cons (f : Sd → Sd) (c : Sd × Nat) (R : List (Sd × Nat)) : alS f (c :: R) = cyS f c ++ alS f R := rfl
theorem sm_all (f : Sd → Sd) (g : Sd → Int) (R : List (Sd × Nat)) : (R.map fun c => sm (cyS f c) g).sum = sm (alS f R) g := by
  induction R with
  | nil => rfl
  | cons c R ih => rw [List.map_cons, List.sum_cons, ih, alS_cons, sm_app]

section
variable {bl jn : Int → Int → Bool} {R : List (Sd × Nat)}

theorem Res.closed (h : Res (nx bl jn) (fun s => isS bl s = true) key R) : Closed (alS (nx bl jn) R) := by
  have h1 := h.1
  clear h
  induction R with
  | nil => exact Closed.nil
  | cons c R ih => exact (h1 c (by simp)).1.closed.app (ih fun c' hc => h1 c' (by simp [hc]))
theorem Res.mem (h : Res (nx bl jn) (fun s => isS bl s = true) key R) {s : Sd} : s ∈ alS (nx bl jn) R ↔ isS bl s = true := by
  unfold alS
  rw [List.mem_flatMap]
  constructor
  · rintro ⟨c, hc, hs⟩
    exact (h.1 c hc).1.sides s hs
  · intro hs
    obtain ⟨c, hc, i, hi, e⟩ := h.2.2 s hs
    exact ⟨c, hc, mem_cyS.2 ⟨i, hi, e⟩⟩
theorem Res.nodup (h : Res (nx bl jn) (fun s => isS bl s = true) key R) : (alS (nx bl jn) R).Nodup := by
  unfold alS
  rw [List.Nodup, List.pairwise_flatMap]
  refine ⟨fun c hc => (h.1 c hc).1.nodup, List.Pairwise.imp_of_mem ?_ h.2.1⟩
  intro a b ha hb hk x hx y hy e
  subst e
  obtain ⟨i, hi, e1⟩ := mem_cyS.1 hx
  obtain ⟨j, hj, e2⟩ := mem_cyS.1 hy
  have := (h.1 a ha).share (h.1 b hb) hi (e1.symm.trans e2)
  subst this
  omega

theorem Res.ctA (h : Res (nx bl jn) (fun s => isS bl s = true) key R) (s : Sd) : ct (alS (nx bl jn) R) s = if isS bl s = true then 1 else 0 := by
  by_cases hs : isS bl s = true
  · rw [if_pos hs]; exact ct_yes h.nodup (h.mem.2 hs)
  · rw [if_neg hs]; exact ct_no fun hm => hs (h.mem.1 hm)

/-- All winding numbers together tell black from white. -/
theorem Res.wnA (h : Res (nx bl jn) (fun s => isS bl s = true) key R) {W H : Int} (hp : Pic bl W H) (x y : Int) : wn (alS (nx bl jn) R) x y = if bl x y = true then 1 else 0 := by
  have hs : ∀ s ∈ alS (nx bl jn) R, isS bl s = true := fun s hm => h.mem.1 hm
  have hd : ∀ s ∈ alS (nx bl jn) R, s.2.2 < 4 := fun s hm => isS_lt (hs s hm)
  have hlow : ∀ s ∈ alS (nx bl jn) R, 0 ≤ s.1 := fun s hm => (side_in hp (hs s hm)).1
  have neg : ∀ x y, x < 0 → bl x y = false := fun x y hx => by
    cases e : bl x y with
    | false => rfl
    | true => have := hp.box _ _ e; omega
  by_cases hx : x < 0
  · rw [wn_left h.closed hd x y fun s hm => by have := hlow s hm; omega, neg x y hx]; simp
  · obtain ⟨n, rfl⟩ : ∃ n : Nat, x = n := ⟨x.toNat, by omega⟩
    clear hx
    have key : ∀ n : Nat, wn (alS (nx bl jn) R) ((n : Int) - 1) y = if bl ((n : Int) - 1) y = true then 1 else 0 := by
      intro n
      induction n with
      | zero => rw [wn_left h.closed hd _ y fun s hm => by have := hlow s hm; simp; omega, neg _ y (by simp)]; simp
      | succ n ih =>
        have a := wn_x (alS (nx bl jn) R) n y
        rw [h.ctA, h.ctA, ih] at a
        rw [show ((n + 1 : Nat) : Int) - 1 = n from by omega]
        simp only [isS, outQ] at a
        rw [show y + 1 - 1 = y from by omega] at a
        cases e1 : bl ((n : Int) - 1) y <;> cases e2 : bl (n : Int) y <;> simp [e1, e2] at a ⊢ <;> omega
    have := key (n + 1)
    rwa [show ((n + 1 : Nat) : Int) - 1 = n from by omega] at this

/-- All areas together. -/
theorem Res.area (h : Res (nx bl jn) (fun s => isS bl s = true) key R) {W H : Nat} (hp : Pic bl W H) : (R.map fun c => twiceOf (ptsOf (nx bl jn) c)).sum = 2 * bx W H (fun x y => if bl x y = true then 1 else 0) := by
  rw [← bx_congr (fun x y => h.wnA hp x y), bx_wn hp fun s hm => h.mem.1 hm, ← sm_all]
  have h1 := h.1
  clear h
  induction R with
  | nil => rfl
  | cons c R ih =>
    simp only [List.map_cons, List.sum_cons]
    rw [ih fun c' hc => h1 c' (by simp [hc]), (h1 c (by simp)).1.twice hp, bx_wn hp (h1 c (by simp)).1.sides]
    omega
end

theorem bx_one (W H : Nat) (a b : Int) (ha : 0 ≤ a ∧ a < W) (hb : 0 ≤ b ∧ b < H) : bx W H (fun x y => if a = x ∧ b = y then 1 else 0) = 1 := by
  have e : bx W H (fun x y => if a = x ∧ b = y then 1 else 0) = sN H fun y => if b = (y : Int) then 1 else 0 := by
    refine sN_congr fun y _ => ?_
    by_cases hy : b = (y : Int)
    · rw [if_pos hy]
      have := sN_eq W a 1
      rw [if_pos ha] at this
      exact (sN_congr fun x _ => by simp [hy]).trans this
    · rw [if_neg hy]
      exact (sN_congr (h := fun _ => 0) fun x _ => by simp [hy]).trans (sN_zero W)
  rw [e, sN_eq, if_pos hb]
/-- At (x, y): how many of its western and its northern line are sides? -/
def cS (bl : Int → Int → Bool) (x y : Int) : Int := (if bl x y = bl (x - 1) y then 0 else 1) + (if bl x y = bl x (y - 1) then 0 else 1)
/-- Is s the western or the northern line of (x, y)? -/
def eS (x y : Int) (s : Sd) : Int := (if s = (x, y, 0) then 1 else 0) + (if s = (x, y + 1, 2) then 1 else 0) + ((if s = (x, y, 1) then 1 else 0) + (if s = (x + 1, y, 3) then 1 else 0))
theorem bx_eS {bl : Int → Int → Bool} {W H : Nat} (hp : Pic bl W H) {s : Sd} (h : isS bl s = true) : bx (W + 1) (H + 1) (fun x y => eS x y s) = 1 := by
  have d4 := isS_lt h
  have hi := side_in hp h
  obtain ⟨x, y, d⟩ := s
  simp only at hi d4
  match d, d4 with
  | 0, _ => exact (bx_congr fun a b => by simp [eS]).trans (bx_one (W + 1) (H + 1) x y (by omega) (by omega))
  | 1, _ => exact (bx_congr fun a b => by simp [eS]).trans (bx_one (W + 1) (H + 1) x y (by omega) (by omega))
  | 2, _ =>
    have hb : 0 ≤ y - 1 ∧ y - 1 < H := by simp [isS, outQ] at h; have := hp.box _ _ h.1; omega
    exact (bx_congr fun a b => by simp only [eS, Prod.mk.injEq]; simp; split <;> split <;> omega).trans (bx_one (W + 1) (H + 1) x (y - 1) (by omega) (by omega))
  | 3, _ =>
    have hb : 0 ≤ x - 1 := by simp [isS, outQ] at h; have := hp.box _ _ h.1; omega
    exact (bx_congr fun a b => by simp only [eS, Prod.mk.injEq]; simp; split <;> split <;> omega).trans (bx_one (W + 1) (H + 1) (x - 1) y (by omega) (by omega))
theorem sm_one (S : List Sd) : sm S (fun _ => 1) = S.length := by
  induction S with
  | nil => rfl
  | cons s S ih => rw [sm_cons, ih, List.length_cons]; omega

/-- How many sides there are. -/
theorem Res.count {bl jn : Int → Int → Bool} {R : List (Sd × Nat)} (h : Res (nx bl jn) (fun s => isS bl s = true) key R) {W H : Nat} (hp : Pic bl W H) : ((alS (nx bl jn) R).length : Int) = bx (W + 1) (H + 1) (cS bl) := by
  rw [← sm_one, ← sm_congr (fun s hm => bx_eS hp (h.mem.1 hm)), ← bx_sm]
  refine bx_congr fun x y => ?_
  have e : sm (alS (nx bl jn) R) (eS x y) = (ct (alS (nx bl jn) R) (x, y, 0) + ct (alS (nx bl jn) R) (x, y + 1, 2)) + (ct (alS (nx bl jn) R) (x, y, 1) + ct (alS (nx bl jn) R) (x + 1, y, 3)) := by
    unfold eS ct
    rw [sm_add, sm_add, sm_add]
  rw [e, h.ctA, h.ctA, h.ctA, h.ctA]
  simp only [isS, outQ, cS]
  rw [show y + 1 - 1 = y from by omega, show x + 1 - 1 = x from by omega]
  cases bl x y <;> cases bl (x - 1) y <;> cases bl x (y - 1) <;> simp
end Go.Proofs.Ytljfiefobnncaaa.Qm
