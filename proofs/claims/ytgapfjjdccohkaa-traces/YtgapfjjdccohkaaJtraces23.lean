import Derived.Test.YtgapfjjdccohkaaJtraces22
import Derived.Test.YtgapfjjdccohkaaJtraces03
import Derived.Test.YtgapfjjdccohkaaJtraces02
import Derived.Test.YtgapfjjdccohkaaJtraces11
import Derived.Maps.AppendAt

/- No cycle's Twice is 0; all cycles' together are twice the black pixels; a cycle has four sides or more; the cycles' sides are all sides. Nothing of the program stands here. -/
namespace Go.Proofs.Ytgapfjjdccohkaa.Qm

theorem wn_out {bl : Int → Int → Bool} {W H : Int} (hp : Pic bl W H) {S : List Sd} (hS : Closed S) (hs : ∀ s ∈ S, isS bl s = true) (x y : Int) (h : ¬ (0 ≤ x ∧ x < W ∧ 0 ≤ y ∧ y < H)) : wn S x y = 0 := by
  by_cases h1 : x < 0
  · exact wn_left hS (fun s hm => isS_lt (hs s hm)) x y fun s hm => by have := side_in hp (hs s hm); omega
  · by_cases h2 : W ≤ x
    · exact wn_right x y fun s hm => by have := side_in hp (hs s hm); omega
    · refine sm_zero fun s hm => ?_
      have hi := hs s hm
      unfold hw
      rw [if_neg ?_, if_neg ?_]
      · rintro ⟨a, b, _⟩
        obtain ⟨x', y', d'⟩ := s
        simp only at a b
        subst a b
        simp [isS, outQ] at hi
        have := hp.box _ _ hi.1
        omega
      · rintro ⟨a, b, _⟩
        obtain ⟨x', y', d'⟩ := s
        simp only at a b
        subst a b
        simp [isS, outQ] at hi
        have := hp.box _ _ hi.1
        omega

section
variable {bl jn : Int → Int → Bool} {c : Sd × Nat}

theorem Cyc.twice_ne (h : Cyc (nx bl jn) (fun s => isS bl s = true) c.1 c.2) {W H : Nat} (hp : Pic bl W H) :
    (lw (cyS (nx bl jn) c) c.1 = 1 ∧ 0 < twiceOf (ptsOf (nx bl jn) c)) ∨ (lw (cyS (nx bl jn) c) c.1 = 0 ∧ twiceOf (ptsOf (nx bl jn) c) < 0) := by
  rw [h.twice hp]
  obtain ⟨hk, hv⟩ := h.sign hp
  have hl : wn (cyS (nx bl jn) c) (lpx c.1.1 c.1.2.2) (lpy c.1.2.1 c.1.2.2) = lw (cyS (nx bl jn) c) c.1 := rfl
  have hr := wn_side h.closed h.nodup h.sides (x := c.1.1) (y := c.1.2.1) (d := c.1.2.2) (h.mem 0)
  have out := wn_out hp h.closed h.sides
  obtain ⟨S, eS⟩ : ∃ S, cyS (nx bl jn) c = S := ⟨_, rfl⟩
  rw [eS] at hk hv hl hr out ⊢
  rcases hk with hk | hk
  · refine .inr ⟨hk, ?_⟩
    rw [hk] at hv hl
    obtain ⟨px, py, e, hb⟩ : ∃ px py : Nat, wn S px py = -1 ∧ px < W ∧ py < H := by
      have hr2 : wn S (rpx c.1.1 c.1.2.2) (rpy c.1.2.1 c.1.2.2) = -1 := by omega
      obtain ⟨a, ea⟩ : ∃ a, rpx c.1.1 c.1.2.2 = a := ⟨_, rfl⟩
      obtain ⟨b, eb⟩ : ∃ b, rpy c.1.2.1 c.1.2.2 = b := ⟨_, rfl⟩
      rw [ea, eb] at hr2
      by_cases hb : 0 ≤ a ∧ a < (W : Int) ∧ 0 ≤ b ∧ b < (H : Int)
      · exact ⟨a.toNat, b.toNat, by rw [show ((a.toNat : Nat) : Int) = a from by omega, show ((b.toNat : Nat) : Int) = b from by omega]; exact hr2, by omega, by omega⟩
      · rw [out a b hb] at hr2; omega
    have := bx_pos (g := fun x y => -wn S x y) (fun x y => by have := hv x y; omega) hb.1 hb.2
    rw [bx_neg] at this
    omega
  · refine .inl ⟨hk, ?_⟩
    rw [hk] at hv hl
    obtain ⟨px, py, e, hb⟩ : ∃ px py : Nat, wn S px py = 1 ∧ px < W ∧ py < H := by
      obtain ⟨a, ea⟩ : ∃ a, lpx c.1.1 c.1.2.2 = a := ⟨_, rfl⟩
      obtain ⟨b, eb⟩ : ∃ b, lpy c.1.2.1 c.1.2.2 = b := ⟨_, rfl⟩
      rw [ea, eb] at hl
      by_cases hb : 0 ≤ a ∧ a < (W : Int) ∧ 0 ≤ b ∧ b < (H : Int)
      · exact ⟨a.toNat, b.toNat, by rw [show ((a.toNat : Nat) : Int) = a from by omega, show ((b.toNat : Nat) : Int) = b from by omega]; exact hl, by omega, by omega⟩
      · rw [out a b hb] at hl; omega
    have := bx_pos (g := fun x y => wn S x y) (fun x y => by have := hv x y; omega) hb.1 hb.2
    rw [show (fun x y => wn S x y) = wn S from rfl] at this
    omega

/-- Each side that is not the last goes one on; no side goes back: four or more. -/
theorem par_it (bl jn : Int → Int → Bool) {s : Sd} (h : isS bl s = true) (n : Nat) : ((it (nx bl jn) n s).1 + (it (nx bl jn) n s).2.1 + n) % 2 = (s.1 + s.2.1) % 2 := by
  induction n with
  | zero => simp [it]
  | succ n ih =>
    have hi := it_isS (jn := jn) h n
    have d4 := isS_lt hi
    have e1 : (it (nx bl jn) (n + 1) s).1 = (en (it (nx bl jn) n s)).1 := rfl
    have e2 : (it (nx bl jn) (n + 1) s).2.1 = (en (it (nx bl jn) n s)).2 := rfl
    rw [e1, e2, ← ih]
    obtain ⟨t, et⟩ : ∃ t, it (nx bl jn) n s = t := ⟨_, rfl⟩
    rw [et] at d4 ⊢
    clear et hi e1 e2 ih
    obtain ⟨x, y, d⟩ := t
    simp only at d4
    match d, d4 with
    | 0, _ => simp [en]; omega
    | 1, _ => simp [en]; omega
    | 2, _ => simp [en]; omega
    | 3, _ => simp [en]; omega
theorem Cyc.four (h : Cyc (nx bl jn) (fun s => isS bl s = true) c.1 c.2) : 4 ≤ c.2 := by
  have p := par_it bl jn h.1 c.2
  have hn := h.2.1
  have hb := h.2.2.1
  rw [hb] at p
  by_cases h2 : c.2 = 2
  · exfalso
    rw [h2] at hb
    have i0 : isS bl c.1 = true := h.1
    have d0 := isS_lt i0
    have i1 := nx_isS (jn := jn) i0
    have d1 := isS_lt i1
    have nb : (nx bl jn c.1).2.2 ≠ (c.1.2.2 + 2) % 4 := by
      have := i0
      rw [isS_in] at this
      exact next_no_back _ _ _ _ _ ⟨c.1.2.2, d0⟩ this
    have e1 : (en (nx bl jn c.1)).1 = c.1.1 := congrArg (fun s : Sd => s.1) hb
    have e2 : (en (nx bl jn c.1)).2 = c.1.2.1 := congrArg (fun s : Sd => s.2.1) hb
    have f1 : (nx bl jn c.1).1 = (en c.1).1 := rfl
    have f2 : (nx bl jn c.1).2.1 = (en c.1).2 := rfl
    obtain ⟨t, et⟩ : ∃ t, nx bl jn c.1 = t := ⟨_, rfl⟩
    rw [et] at d1 nb e1 e2 f1 f2
    clear hb i1 p h et
    obtain ⟨⟨x, y, d⟩, n⟩ := c
    obtain ⟨x', y', d'⟩ := t
    simp only at d0 d1 nb e1 e2 f1 f2
    subst f1 f2
    match d, d0, d', d1 with
    | 0, _, 0, _ => simp [en] at e1 e2; omega
    | 0, _, 1, _ => simp [en] at e1 e2; omega
    | 0, _, 2, _ => simp at nb
    | 0, _, 3, _ => simp [en] at e1 e2; omega
    | 1, _, 0, _ => simp [en] at e1 e2; omega
    | 1, _, 1, _ => simp [en] at e1 e2; omega
    | 1, _, 2, _ => simp [en] at e1 e2; omega
    | 1, _, 3, _ => simp at nb
    | 2, _, 0, _ => simp at nb
    | 2, _, 1, _ => simp [en] at e1 e2; omega
    | 2, _, 2, _ => simp [en] at e1 e2; omega
    | 2, _, 3, _ => simp [en] at e1 e2; omega
    | 3, _, 0, _ => simp [en] at e1 e2; omega
    | 3, _, 1, _ => simp at nb
    | 3, _, 2, _ => simp [en] at e1 e2; omega
    | 3, _, 3, _ => simp [en] at e1 e2; omega
  · omega
end
end Go.Proofs.Ytgapfjjdccohkaa.Qm

/- All cycles together: their sides are all sides, each once; their winding numbers are 1 at black pixels, 0 at white ones; how many sides there are. Nothing of the program stands here. -/
namespace Go.Proofs.Ytgapfjjdccohkaa.Qm

/-- The sides of all cycles. -/
def alS (f : Sd → Sd) (R : List (Sd × Nat)) : List Sd := R.flatMap (cyS f)
theorem alS_cons (f : Sd → Sd) (c : Sd × Nat) (R : List (Sd × Nat)) : alS f (c :: R) = cyS f c ++ alS f R := rfl
theorem sm_all (f : Sd → Sd) (g : Sd → Int) (R : List (Sd × Nat)) : (R.map fun c => sm (cyS f c) g).sum = sm (alS f R) g := by
  induction R with
  | nil => rfl
  | cons c R ih => rw [List.map_cons, List.sum_cons, ih, alS_cons, sm_app]

section
variable {bl jn : Int → Int → Bool} {R : List (Sd × Nat)}

theorem Res.closed (h : Res (nx bl jn) (fun s => isS bl s = true) key R) : Closed (alS (nx bl jn) R) := by
  have h1 := h.1
  clear h
  induction R with
  | nil => exact Closed.nil
  | cons c R ih => exact (h1 c (by simp)).1.closed.app (ih fun c' hc => h1 c' (by simp [hc]))
theorem Res.mem (h : Res (nx bl jn) (fun s => isS bl s = true) key R) {s : Sd} : s ∈ alS (nx bl jn) R ↔ isS bl s = true := by
  unfold alS
  rw [List.mem_flatMap]
  constructor
  · rintro ⟨c, hc, hs⟩
    exact (h.1 c hc).1.sides s hs
  · intro hs
    obtain ⟨c, hc, i, hi, e⟩ := h.2.2 s hs
    exact ⟨c, hc, mem_cyS.2 ⟨i, hi, e⟩⟩
theorem Res.nodup (h : Res (nx bl jn) (fun s => isS bl s = true) key R) : (alS (nx bl jn) R).Nodup := by
  unfold alS
  rw [List.Nodup, List.pairwise_flatMap]
  refine ⟨fun c hc => (h.1 c hc).1.nodup, List.Pairwise.imp_of_mem ?_ h.2.1⟩
  intro a b ha hb hk x hx y hy e
  subst e
  obtain ⟨i, hi, e1⟩ := mem_cyS.1 hx
  obtain ⟨j, hj, e2⟩ := mem_cyS.1 hy
  have := (h.1 a ha).share (h.1 b hb) hi (e1.symm.trans e2)
  subst this
  omega

theorem Res.ctA (h : Res (nx bl jn) (fun s => isS bl s = true) key R) (s : Sd) : ct (alS (nx bl jn) R) s = if isS bl s = true then 1 else 0 := by
  by_cases hs : isS bl s = true
  · rw [if_pos hs]; exact ct_yes h.nodup (h.mem.2 hs)
  · rw [if_neg hs]; exact ct_no fun hm => hs (h.mem.1 hm)

/-- All winding numbers together tell black from white. -/
theorem Res.wnA (h : Res (nx bl jn) (fun s => isS bl s = true) key R) {W H : Int} (hp : Pic bl W H) (x y : Int) : wn (alS (nx bl jn) R) x y = if bl x y = true then 1 else 0 := by
  have hs : ∀ s ∈ alS (nx bl jn) R, isS bl s = true := fun s hm => h.mem.1 hm
  have hd : ∀ s ∈ alS (nx bl jn) R, s.2.2 < 4 := fun s hm => isS_lt (hs s hm)
  have hlow : ∀ s ∈ alS (nx bl jn) R, 0 ≤ s.1 := fun s hm => (side_in hp (hs s hm)).1
  have neg : ∀ x y, x < 0 → bl x y = false := fun x y hx => by
    cases e : bl x y with
    | false => rfl
    | true => have := hp.box _ _ e; omega
  by_cases hx : x < 0
  · rw [wn_left h.closed hd x y fun s hm => by have := hlow s hm; omega, neg x y hx]; simp
  · obtain ⟨n, rfl⟩ : ∃ n : Nat, x = n := ⟨x.toNat, by omega⟩
    clear hx
    have key : ∀ n : Nat, wn (alS (nx bl jn) R) ((n : Int) - 1) y = if bl ((n : Int) - 1) y = true then 1 else 0 := by
      intro n
      induction n with
      | zero => rw [wn_left h.closed hd _ y fun s hm => by have := hlow s hm; simp; omega, neg _ y (by simp)]; simp
      | succ n ih =>
        have a := wn_x (alS (nx bl jn) R) n y
        rw [h.ctA, h.ctA, ih] at a
        rw [show ((n + 1 : Nat) : Int) - 1 = n from by omega]
        simp only [isS, outQ] at a
        rw [show y + 1 - 1 = y from by omega] at a
        cases e1 : bl ((n : Int) - 1) y <;> cases e2 : bl (n : Int) y <;> simp [e1, e2] at a ⊢ <;> omega
    have := key (n + 1)
    rwa [show ((n + 1 : Nat) : Int) - 1 = n from by omega] at this

/-- All areas together. -/
theorem Res.area (h : Res (nx bl jn) (fun s => isS bl s = true) key R) {W H : Nat} (hp : Pic bl W H) : (R.map fun c => twiceOf (ptsOf (nx bl jn) c)).sum = 2 * bx W H (fun x y => if bl x y = true then 1 else 0) := by
  rw [← bx_congr (fun x y => h.wnA hp x y), bx_wn hp fun s hm => h.mem.1 hm, ← sm_all]
  have h1 := h.1
  clear h
  induction R with
  | nil => rfl
  | cons c R ih =>
    simp only [List.map_cons, List.sum_cons]
    rw [ih fun c' hc => h1 c' (by simp [hc]), (h1 c (by simp)).1.twice hp, bx_wn hp (h1 c (by simp)).1.sides]
    omega
end

theorem bx_one (W H : Nat) (a b : Int) (ha : 0 ≤ a ∧ a < W) (hb : 0 ≤ b ∧ b < H) : bx W H (fun x y => if a = x ∧ b = y then 1 else 0) = 1 := by
  have e : bx W H (fun x y => if a = x ∧ b = y then 1 else 0) = sN H fun y => if b = (y : Int) then 1 else 0 := by
    refine sN_congr fun y _ => ?_
    by_cases hy : b = (y : Int)
    · rw [if_pos hy]
      have := sN_eq W a 1
      rw [if_pos ha] at this
      exact (sN_congr fun x _ => by simp [hy]).trans this
    · rw [if_neg hy]
      exact (sN_congr (h := fun _ => 0) fun x _ => by simp [hy]).trans (sN_zero W)
  rw [e, sN_eq, if_pos hb]
/-- At (x, y): how many of its western and its northern line are sides? -/
def cS (bl : Int → Int → Bool) (x y : Int) : Int := (if bl x y = bl (x - 1) y then 0 else 1) + (if bl x y = bl x (y - 1) then 0 else 1)
/-- Is s the western or the northern line of (x, y)? -/
def eS (x y : Int) (s : Sd) : Int := (if s = (x, y, 0) then 1 else 0) + (if s = (x, y + 1, 2) then 1 else 0) + ((if s = (x, y, 1) then 1 else 0) + (if s = (x + 1, y, 3) then 1 else 0))
theorem bx_eS {bl : Int → Int → Bool} {W H : Nat} (hp : Pic bl W H) {s : Sd} (h : isS bl s = true) : bx (W + 1) (H + 1) (fun x y => eS x y s) = 1 := by
  have d4 := isS_lt h
  have hi := side_in hp h
  obtain ⟨x, y, d⟩ := s
  simp only at hi d4
  match d, d4 with
  | 0, _ => exact (bx_congr fun a b => by simp [eS]).trans (bx_one (W + 1) (H + 1) x y (by omega) (by omega))
  | 1, _ => exact (bx_congr fun a b => by simp [eS]).trans (bx_one (W + 1) (H + 1) x y (by omega) (by omega))
  | 2, _ =>
    have hb : 0 ≤ y - 1 ∧ y - 1 < H := by simp [isS, outQ] at h; have := hp.box _ _ h.1; omega
    exact (bx_congr fun a b => by simp only [eS, Prod.mk.injEq]; simp; split <;> split <;> omega).trans (bx_one (W + 1) (H + 1) x (y - 1) (by omega) (by omega))
  | 3, _ =>
    have hb : 0 ≤ x - 1 := by simp [isS, outQ] at h; have := hp.box _ _ h.1; omega
    exact (bx_congr fun a b => by simp only [eS, Prod.mk.injEq]; simp; split <;> split <;> omega).trans (bx_one (W + 1) (H + 1) (x - 1) y (by omega) (by omega))
theorem sm_one (S : List Sd) : sm S (fun _ => 1) = S.length := by
  induction S with
  | nil => rfl
  | cons s S ih => rw [sm_cons, ih, List.length_cons]; omega

/-- How many sides there are. -/
theorem Res.count {bl jn : Int → Int → Bool} {R : List (Sd × Nat)} (h : Res (nx bl jn) (fun s => isS bl s = true) key R) {W H : Nat} (hp : Pic bl W H) : ((alS (nx bl jn) R).length : Int) = bx (W + 1) (H + 1) (cS bl) := by
  rw [← sm_one, ← sm_congr (fun s hm => bx_eS hp (h.mem.1 hm)), ← bx_sm]
  refine bx_congr fun x y => ?_
  have e : sm (alS (nx bl jn) R) (eS x y) = (ct (alS (nx bl jn) R) (x, y, 0) + ct (alS (nx bl jn) R) (x, y + 1, 2)) + (ct (alS (nx bl jn) R) (x, y, 1) + ct (alS (nx bl jn) R) (x + 1, y, 3)) := by
    unfold eS ct
    rw [sm_add, sm_add, sm_add]
  rw [e, h.ctA, h.ctA, h.ctA, h.ctA]
  simp only [isS, outQ, cS]
  rw [show y + 1 - 1 = y from by omega, show x + 1 - 1 = x from by omega]
  cases bl x y <;> cases bl (x - 1) y <;> cases bl x (y - 1) <;> simp
end Go.Proofs.Ytgapfjjdccohkaa.Qm

/- What Walked counts: sums by rows, what is ahead of a cycle in the answer. Nothing of the program stands here. -/
namespace Go.Proofs.Ytgapfjjdccohkaa.Qm
open Pm

theorem sN_bound {n : Nat} {g : Nat → Int} {m : Int} (e : ∀ i, i < n → 0 ≤ g i ∧ g i ≤ m) : 0 ≤ sN n g ∧ sN n g ≤ m * n := by
  induction n with
  | zero => simp [sN]
  | succ n ih =>
    have a := ih fun i hi => e i (by omega)
    have b := e n (by omega)
    simp only [sN]
    have : m * ((n + 1 : Nat) : Int) = m * n + m := by rw [show ((n + 1 : Nat) : Int) = (n : Int) + 1 from by omega, Int.mul_add]; omega
    rw [this]; omega
theorem cS_in (bl : Int → Int → Bool) (x y : Int) : 0 ≤ cS bl x y ∧ cS bl x y ≤ 2 := by
  unfold cS; split <;> split <;> omega
theorem row_cS (bl : Int → Int → Bool) (n : Nat) (y : Int) : 0 ≤ sN n (fun x => cS bl x y) ∧ sN n (fun x => cS bl x y) ≤ 2 * n := sN_bound fun _ _ => cS_in bl _ _
theorem bx_cS (bl : Int → Int → Bool) (W H : Nat) (hw : W ≤ 33) (hh : H ≤ 33) : 0 ≤ bx W H (cS bl) ∧ bx W H (cS bl) ≤ 2178 := by
  have a := sN_bound (n := H) (g := fun y => sN W fun x => cS bl x y) (m := 66) fun i _ => by have := row_cS bl W i; omega
  unfold bx
  omega
theorem sN_app (a b : Nat) (g : Nat → Int) : sN (a + b) g = sN a g + sN b fun i => g (a + i) := by
  induction b with
  | zero => simp [sN]
  | succ b ih => rw [← Nat.add_assoc]; simp only [sN, ih]; omega
/-- Black pixels, counted byte by byte. -/
theorem bits_rows (W H : Nat) (l : List UInt8) : sN (H * W) (fun i => if bitAt l i = true then 1 else 0) = bx W H (fun x y => if blackB W H l x y = true then 1 else 0) := by
  have key : ∀ h, h ≤ H → sN (h * W) (fun i => if bitAt l i = true then 1 else 0) = sN h fun y => sN W fun x => if blackB W H l x y = true then 1 else 0 := by
    intro h
    induction h with
    | zero => intro _; simp [sN]
    | succ h ih =>
      intro hh
      rw [Nat.succ_mul, sN_app, ih (by omega)]
      simp only [sN]
      congr 1
      refine sN_congr fun x hx => ?_
      rw [blackB_in W H l x h hx (by omega) (h * W) rfl]
  exact key H (Nat.le_refl _)

section
variable {f : Sd → Sd} {P : Sd → Prop} {R : List (Sd × Nat)} {i : Nat}
theorem Res.at (h : Res f P key R) (hi : i < R.length) : Canon f P key R[i] := h.1 _ (List.getElem_mem hi)
/-- No side of a cycle is on a cycle ahead of it. -/
theorem Res.fresh (h : Res f P key R) (hi : i < R.length) (m : Nat) : ¬ Tk f (R.take i) (it f m R[i].1) := by
  rintro ⟨c, hc, j, hj, e⟩
  obtain ⟨a, ha, rfl⟩ := List.mem_iff_getElem.1 hc
  simp only [List.length_take] at ha
  rw [List.getElem_take] at hj e
  have s := (h.at (i := a) (by omega)).share (h.at hi) hj e.symm
  have p := List.pairwise_iff_getElem.1 h.2.1 a i (by omega) hi (by omega)
  rw [s] at p
  omega
theorem Res.lt (h : Res f P key R) (hi : i + 1 < R.length) : key R[i].1 < key R[i + 1].1 := List.pairwise_iff_getElem.1 h.2.1 i (i + 1) (by omega) hi (by omega)
theorem take_next {α : Type} {R : List α} {i : Nat} (hi : i < R.length) : R.take (i + 1) = R.take i ++ [R[i]] := by
  rw [List.take_add_one, List.getElem?_eq_getElem hi]; rfl
theorem alS_app (f : Sd → Sd) (R S : List (Sd × Nat)) : alS f (R ++ S) = alS f R ++ alS f S := by simp [alS]
theorem cyS_len (f : Sd → Sd) (c : Sd × Nat) : (cyS f c).length = c.2 := by simp [cyS]
/-- How many sides the first i cycles have. -/
def totS (R : List (Sd × Nat)) (i : Nat) : Nat := ((R.take i).map (·.2)).sum
theorem totS_zero (R : List (Sd × Nat)) : totS R 0 = 0 := rfl
theorem totS_succ (hi : i < R.length) : totS R (i + 1) = totS R i + R[i].2 := by
  unfold totS; rw [take_next hi, List.map_append, List.sum_append, List.map_singleton, List.sum_singleton]
theorem len_alS (f : Sd → Sd) (R : List (Sd × Nat)) : (alS f R).length = (R.map (·.2)).sum := by
  induction R with
  | nil => rfl
  | cons c R ih => rw [alS_cons, List.length_append, ih, cyS_len]; simp
theorem totS_all (f : Sd → Sd) (R : List (Sd × Nat)) : totS R R.length = (alS f R).length := by
  unfold totS; rw [List.take_length, len_alS]
theorem totS_mono (R : List (Sd × Nat)) (i : Nat) : totS R i ≤ totS R R.length := by
  unfold totS
  rw [List.take_length]
  conv => rhs; rw [← List.take_append_drop i R]
  rw [List.map_append, List.sum_append]
  omega
/-- Twice the area of the first i cycles. -/
def areaS (f : Sd → Sd) (R : List (Sd × Nat)) (i : Nat) : Int := ((R.take i).map fun c => twiceOf (ptsOf f c)).sum
theorem areaS_zero (f : Sd → Sd) (R : List (Sd × Nat)) : areaS f R 0 = 0 := rfl
theorem areaS_succ (f : Sd → Sd) (hi : i < R.length) : areaS f R (i + 1) = areaS f R i + twiceOf (ptsOf f R[i]) := by
  unfold areaS; rw [take_next hi, List.map_append, List.sum_append, List.map_singleton, List.sum_singleton]
theorem areaS_all (f : Sd → Sd) (R : List (Sd × Nat)) : areaS f R R.length = (R.map fun c => twiceOf (ptsOf f c)).sum := by
  unfold areaS; rw [List.take_length]
theorem areaS_small (f : Sd → Sd) (R : List (Sd × Nat)) (hs : ∀ c ∈ R, Small (ptsOf f c)) : ∀ i, i ≤ R.length → -1024 * (totS R i : Int) ≤ areaS f R i ∧ areaS f R i ≤ 1024 * (totS R i : Int)
  | 0, _ => by simp [totS_zero, areaS_zero]
  | i + 1, hi => by
    have a := areaS_small f R hs i (by omega)
    have b := fsum_small (hs _ (List.getElem_mem (l := R) (n := i) (by omega))) (ptsOf f R[i]).length
    rw [← twiceOf_fsum, ptsOf_len] at b
    rw [areaS_succ f (by omega), totS_succ (by omega)]
    omega
end

section
variable {bl jn : Int → Int → Bool} {R : List (Sd × Nat)} {i : Nat}
theorem Canon.step_end {c : Sd × Nat} (h : Canon (nx bl jn) (fun s => isS bl s = true) key c) (k : Nat) : fromP (it (nx bl jn) ((k + 1) % c.2) c.1) = en (it (nx bl jn) k c.1) := by
  rw [← h.1.mod (k + 1)]; rfl
end
end Go.Proofs.Ytgapfjjdccohkaa.Qm

/- outlineref: Trace. -/
namespace Go.Proofs.Ytgapfjjdccohkaa
open Go.RowKit

namespace Qm
theorem Cyc.unit {bl jn : Int → Int → Bool} {c : Sd × Nat} (h : Cyc (nx bl jn) (fun s => isS bl s = true) c.1 c.2) : Unit (ptsOf (nx bl jn) c ++ [fstP (ptsOf (nx bl jn) c)]) := by
  have h0 : 0 < c.2 := h.2.1
  have hl := ptsOf_len (nx bl jn) c
  have A : ∀ i, i ≤ c.2 → (ptsOf (nx bl jn) c ++ [fstP (ptsOf (nx bl jn) c)]).getD i (0, 0) = fromP (it (nx bl jn) i c.1) := by
    intro i hi
    rcases Nat.lt_or_ge i c.2 with h1 | h1
    · rw [getD_app_l _ _ _ _ (by omega), ptsOf_getD _ c i h1]
    · obtain rfl : i = c.2 := by omega
      rw [getD_app_r _ _ _ _ (by omega), hl, Nat.sub_self, List.getD_cons_zero]
      unfold fstP
      rw [ptsOf_getD _ c 0 h0, h.2.2.1]; rfl
  intro i hi
  rw [List.length_append, hl, List.length_singleton] at hi
  rw [A i (by omega), A (i + 1) (by omega)]
  have hs := isS_lt (it_isS (jn := jn) h.1 i)
  have e : fromP (it (nx bl jn) (i + 1) c.1) = en (it (nx bl jn) i c.1) := rfl
  rw [e]
  generalize it (nx bl jn) i c.1 = t at hs ⊢
  obtain ⟨x, y, d⟩ := t
  have hd : d = 0 ∨ d = 1 ∨ d = 2 ∨ d = 3 := by have : d < 4 := hs; omega
  rcases hd with rfl | rfl | rfl | rfl <;> simp [en, fromP, unitP] <;> omega
theorem len_totS {R : List (Sd × Nat)} (h : ∀ c ∈ R, 0 < c.2) : R.length ≤ totS R R.length := by
  unfold totS
  rw [List.take_length]
  induction R with
  | nil => simp
  | cons c R ih =>
    have := ih fun c hc => h c (List.mem_cons_of_mem _ hc)
    have := h c (List.mem_cons_self ..)
    simp only [List.length_cons, List.map_cons, List.sum_cons]
    omega
theorem Res.len {bl jn : Int → Int → Bool} {R : List (Sd × Nat)} (h : Res (nx bl jn) (fun s => isS bl s = true) key R) {W H : Nat} (hp : Pic bl W H) (hw : W ≤ 32) (hh : H ≤ 32) : R.length ≤ 2178 := by
  have a := len_totS (R := R) fun c hc => (h.1 c hc).1.2.1
  have b := totS_all (nx bl jn) R
  have c := h.count hp
  have d := bx_cS bl (W + 1) (H + 1) (by omega) (by omega)
  omega
end Qm

set_option maxHeartbeats 400000 in
theorem refTrace_no (W H : Int) (s : ByteArray) (pol : Int) (draws : ByteArray) (spk : Int) (w : World) (hm : mayB W H s.data.toList pol spk = false) :
    Calls Try.prog 39 #[.agg #[.int .i64 W, .int .i64 H, .string s], .agg #[.int .i64 pol, .string draws, .int .i64 spk]] w fun e w' => e = .returned (.tuple #[.slice none 0 0, .int .i64 4]) ∧ Below w.heap.size w w' := by
  go_enter Try.func39, Try.ntmps39
  go_wp2_with fail
  refine (refCycles_no W H s pol draws spk _ hm).mono ?_
  rintro e w1 ⟨rfl, hb⟩
  have HB := hid hb
  clear hb
  go_wp2
  go_ret2
  exact ⟨rfl, Below.trans (b := _) (by go_grown) (HB.out.mono (by simp; omega))⟩

theorem new_at2 (w : World) (g : Nat) (a : Value) (b : Int) (ao : Option Addr × Nat × Nat) (t : TypeId) (ha : a = .slice ao.1 ao.2.1 ao.2.2) (hg : g = w.heap.size) : ∀ (j : Nat) (u : Value), [a, .int .i64 b][j]? = some u → (w.alloc (.cells #[a, .int .i64 b] t)).cell? ((⟨g, 0, none⟩ : Addr).add j) = some u := by
  subst hg
  exact vt_cells w a b t ao.1 ao.2.1 ao.2.2 ha

def RefTr (W H : Nat) (s : ByteArray) (pol : Nat) (draws : ByteArray) (spk : Int) (w : World) (vl : Value) (w' : World) : Prop :=
  ∃ (R : List (Qm.Sd × Nat)) (L : List (Value × List (Int × Int))), Qm.Res (fB W H s pol draws) (bB W H s) Qm.key R ∧ L.map (·.2) = Qm.polys (fB W H s pol draws) spk R ∧ RowP w.heap.size vl L w' ∧ Below w.heap.size w w'

set_option maxRecDepth 4000 in
set_option maxHeartbeats 2000000 in
theorem refTrace_yes (W H : Nat) (s : ByteArray) (pol : Nat) (draws : ByteArray) (spk : Int) (w : World) (hm : mayB W H s.data.toList pol spk = true) (hw1 : 1 ≤ W) (hw2 : W ≤ 32) (hh2 : H ≤ 32) (hl : s.size = W * H) (hp : pol ≤ 3) (s0 : 0 ≤ spk) (s1 : spk ≤ 1024) :
    Calls Try.prog 39 #[.agg #[.int .i64 W, .int .i64 H, .string s], .agg #[.int .i64 pol, .string draws, .int .i64 spk]] w fun e w' => ∃ vl, e = .returned (.tuple #[vl, .int .i64 0]) ∧ RefTr W H s pol draws spk w vl w' := by
  obtain ⟨i0, hi, hz0, hz1, hz2⟩ := info_parts infoShape
  have HL := hid hl
  clear hl
  go_enter Try.func39, Try.ntmps39
  go_wp2_with fail
  refine (refCycles_yes W H s pol draws spk _ hm hw1 hw2 hh2 HL.out hp).mono ?_
  rintro e w1 ⟨vl, rfl, Lc, hR, hRow, hb1⟩
  have B1 := hid (show Below w.heap.size w w1 from Below.trans (b := _) (by go_grown) (hb1.mono (by simp; omega)))
  have z1 := hb1.size
  simp at z1
  have c2 := (bcell hb1).1 (w.heap.size + 1) 2 (by simp)
  simp at c2
  have SH := hid hRow.shown
  obtain ⟨al, cl, rfl, hrow⟩ := SH.out.row
  have RES := hid hR
  have HROW := hid hrow
  have hLn := Qm.Res.len hR (Qm.pic_of W H s.data.toList hw2 hh2) hw2 hh2
  rw [List.length_map] at hLn
  clear hR hRow hrow hb1
  obtain ⟨R, hRR⟩ : ∃ R, R = Lc.map (·.2) := ⟨_, rfl⟩
  rw [← hRR] at RES
  have RR := hid hRR
  clear hRR
  obtain ⟨n, hn⟩ : ∃ n, n = Lc.length := ⟨_, rfl⟩
  have RL := hid (show R.length = n by rw [RR.out, List.length_map, hn])
  rw [← hn] at hLn HROW SH ⊢
  clear hn
  obtain ⟨f, hf⟩ : ∃ f, f = fB W H s pol draws := ⟨_, rfl⟩
  have SM := hid (show ∀ c ∈ R, Qm.Small (Qm.ptsOf f c) ∧ c.2 ≤ 4356 ∧ 0 < c.2 ∧ Qm.Unit (Qm.ptsOf f c ++ [Qm.fstP (Qm.ptsOf f c)]) from fun c hc => by rw [hf]; exact ⟨small_pts hw2 hh2 (RES.out.1 c hc).1, cyc_le hw2 hh2 (RES.out.1 c hc).1, (RES.out.1 c hc).1.2.1, (RES.out.1 c hc).1.unit⟩)
  rw [← hf] at SH HROW
  have TO := hid (show ∀ L vl' wr, L.map (·.2) = Qm.polys f spk (R.take n) → RowP w.heap.size vl' L wr → Below w.heap.size w wr → RefTr W H s pol draws spk w vl' wr from fun L vl' wr h1 h2 h3 => ⟨R, L, RES.out, by rw [h1, ← RL.out, List.take_length, hf], h2, h3⟩)
  clear hf
  go_wp2_with fail
  go_loopw [8, 9] (fun lv iv wr => ∃ (i : Nat) (L : List (Value × List (Int × Int))), i ≤ n ∧ iv = .int .i64 i ∧ L.length ≤ i ∧ L.map (·.2) = Qm.polys f spk (R.take i) ∧ RowP w1.heap.size lv L wr ∧ Below w1.heap.size w1 wr) (fun _ i _ => n - (intOf i).toNat)
  case atStart => exact ⟨0, [], by omega, rfl, by simp, rfl, RowP.nil _ _, Below.refl _ _⟩
  case round =>
    obtain ⟨i, L, hin, rfl, hLi, hpl, hrp, hb⟩ := hrel
    have HB := hid hb
    have RP := hid hrp
    have PL := hid hpl
    have hz := hb.size
    by_cases hlt : i < n
    · obtain ⟨gl, rfl, hgl, hc⟩ := HROW.out.resolve_left (by omega)
      have hlt' : (i : Int) < (n : Nat) := by omega
      have hi0' : (0 : Int) ≤ (i : Nat) := by omega
      have hiR : i < R.length := by rw [RL.out]; exact hlt
      obtain ⟨g, c, m0, hpt, d0, d1⟩ := SH.out.at' RR.out hc hiR
      obtain ⟨sm, hle, _, un⟩ := SM.out R[i] (List.getElem_mem hiR)
      have PN := hid (Qm.polys_next (f := f) (spk := spk) hiR)
      have tws := Qm.fsum_small sm (Qm.ptsOf f R[i]).length
      rw [← Qm.twiceOf_fsum, Qm.ptsOf_len] at tws
      have BG := hid (show Qm.bigB f spk R[i] = decide (2 * spk < Qm.absZ (Qm.twiceOf (Qm.ptsOf f R[i]))) from rfl)
      have PLN := Qm.ptsOf_len f R[i]
      obtain ⟨cy, hcy⟩ : ∃ cy, cy = R[i] := ⟨_, rfl⟩
      rw [← hcy] at m0 hpt d0 d1 sm hle PN tws BG PLN un
      obtain ⟨m, hm⟩ : ∃ m, m = cy.2 := ⟨_, rfl⟩
      rw [← hm] at m0 d0 hle tws PLN
      obtain ⟨ps, hps⟩ : ∃ ps, ps = Qm.ptsOf f cy := ⟨_, rfl⟩
      rw [← hps] at hpt d1 sm PN tws BG PLN un
      have hg : g < w1.heap.size := hpt.1
      have HPT := hid hpt
      have e0 := (hb.cell (p := ⟨gl, i * 2, none⟩) hgl).trans d0
      have e1 := (hb.cell (p := ⟨gl, i * 2 + 1, none⟩) hgl).trans d1
      have e2 := (hb.cell (p := ⟨w.heap.size + 1, 2, none⟩) (show w.heap.size + 1 < _ by omega)).trans c2
      have PG := hid (fun W' (h : Below w1.heap.size w1 W') => polygon_any g m c ps PLN.symm m0 sm hle un W' (HPT.out.on h hg))
      have cpos := Qm.cornL_pos (c := ps) (by omega)
      obtain ⟨tw, htw⟩ : ∃ tw, tw = Qm.twiceOf ps := ⟨_, rfl⟩
      rw [← htw] at e1 BG tws
      obtain ⟨bg, hbg⟩ : ∃ bg, bg = Qm.bigB f spk cy := ⟨_, rfl⟩
      rw [← hbg] at PN BG
      obtain ⟨cl', hcl'⟩ : ∃ q, q = Qm.cornL ps := ⟨_, rfl⟩
      rw [← hcl'] at PG PN cpos
      have hgl' : gl < wr.heap.size := by omega
      clear hb hrp hpl hpt hc d0 d1 hcy hm hps htw hbg hcl' sm un
      by_cases hneg : tw < 0
      all_goals (
        have AZ := hid (show Qm.absZ tw = if tw < 0 then -tw else tw from rfl)
        first | rw [if_pos hneg] at AZ | rw [if_neg hneg] at AZ
        rw [AZ.out] at BG
        cases bg
        · have q1 := of_decide_eq_false BG.out.symm
          go_wp2
          go_roundw
          case rel => exact ⟨i + 1, L, by omega, by go_num, by omega, by rw [PN.out]; exact PL.out, RP.out, HB.out⟩
          case measure => simp [intOf]; omega
        · have q1 := of_decide_eq_true BG.out.symm
          go_wp2_with fail
          refine (PG.out _ HB.out).mono ?_
          rintro e w3 ⟨v3, rfl, o3, b3⟩
          obtain ⟨g3, cap3, rfl, hg3, hp3, -⟩ := own_at o3 cpos
          have O3 := hid o3
          have HB3 := hid b3
          have z3 := b3.size
          clear o3 b3 hp3 e0 e1 e2
          obtain ⟨nc, hnc⟩ : ∃ nc, nc = cl'.length := ⟨_, rfl⟩
          rw [← hnc]
          have HNC := hid hnc
          clear hnc
          obtain ⟨t4, ht4⟩ : ∃ t4, t4 = Qm.twiceOf cl' := ⟨_, rfl⟩
          rw [← ht4]
          have HT4 := hid ht4
          clear ht4
          have n1 : L.length + 1 ≤ maxLen := by unfold maxLen; omega
          have n2 : (L.length + 1) * 32 ≤ 140737488355328 := by omega
          have W4 := hid (show Below w3.heap.size w3 (w3.alloc (.cells #[.slice (some ⟨g3, 0, none⟩) nc cap3, .int .i64 t4] 43)) from (Below.refl _ _).alloc (Nat.le_refl _) _)
          have R4 := hid ((RP.out.on HB3.out).on W4.out)
          have n3 : w1.heap.size ≤ ((w3.alloc (.cells #[.slice (some ⟨g3, 0, none⟩) nc cap3, .int .i64 t4] 43)).alloc (.cells #[.slice (some ⟨g3, 0, none⟩) nc cap3, .int .i64 t4] 43)).heap.size := by simp; omega
          go_wp2_with (first
            | (at_builtin; refine wpList_append_own_at _ rfl _ _ 35 rfl w1.heap.size 43 i0 (.agg #[.slice none 0 0, .int .i64 0]) 2 32 Try.underlying35 hi hz0 hz1 hz2 rfl (by decide) _ _ _ rfl (R4.out.row.alloc _) ⟨_, 0, none⟩ 1 1 [.slice (some ⟨g3, 0, none⟩) nc cap3, .int .i64 t4] rfl rfl (new_at2 _ _ _ _ (some ⟨g3, 0, none⟩, nc, cap3) _ rfl (by simp)) (vt_one _ _ _ _) n1 n2 n3 ?_))
          intro vl' w5 o5 g5 _ e5
          have RP5 := hid (RP.out.snoc (v := .slice (some ⟨g3, 0, none⟩) nc cap3) (l := cl') (vl' := vl') (by omega) HB3.out (by rw [HNC.out] at *; exact O3.out) cpos W4.out (by rw [← HT4.out]; exact o5) g5 (by simpa using e5))
          have B5 := hid (show Below w1.heap.size w1 w5 from (((HB.out.trans (HB3.out.mono (by omega))).alloc (by omega) _).alloc (by simp; omega) _).grown g5 n3 (fun q hq => (R4.out.row.lt q hq).1))
          clear o5 g5 e5
          go_wp2
          go_roundw
          case rel => exact ⟨i + 1, L ++ [(.slice (some ⟨g3, 0, none⟩) nc cap3, cl')], by omega, by go_num, by simp; omega, by rw [PN.out, List.map_append, PL.out]; rfl, RP5.out, B5.out⟩
          case measure => simp [intOf]; omega)
    · have ei : i = n := by omega
      subst ei
      have hlt' : ¬ (i : Int) < (i : Nat) := by omega
      go_wp2
      go_ret2
      exact ⟨_, rfl, TO.out L _ _ PL.out (RP.out.mono B1.out.size) (B1.out.trans (HB.out.mono B1.out.size))⟩
end Go.Proofs.Ytgapfjjdccohkaa
