import Derived.Test.YtljfiefobnncaabDoorK13
import Derived.Test.YtljfiefobnncaabDoorK02
import Derived.Test.YtljfiefobnncaabDoorK01
import Derived.Test.YtljfiefobnncaabDoorK09
import Derived.Test.YtljfiefobnncaabDoorK03
import Derived.WalkKit

/- One cycle's winding numbers have one sign; its Twice is twice their sum. Nothing of the program stands here. -/
namespace Go.Proofs.YtljfiefobnncaabDoor.Qm

theorem next_turn : ∀ (j nw ne se sw : Bool) (d : Fin 4), inQ nw ne se sw d = true → nextD j nw ne se sw d = d.val ∨ nextD j nw ne se sw d = (d.val + 1) % 4 ∨ nextD j nw ne se sw d = (d.val + 3) % 4 := by decide

/-- The number on the left of a side. -/
def lw (S : List Sd) (s : Sd) : Int := wn S (lpx s.1 s.2.2) (lpy s.2.1 s.2.2)
def rw' (S : List Sd) (s : Sd) : Int := wn S (rpx s.1 s.2.2) (rpy s.2.1 s.2.2)

section
variable {bl jn : Int → Int → Bool} {c : Sd × Nat}

theorem lw_next {S : List Sd} (hS : Closed S) (hn : S.Nodup) (hs : ∀ s ∈ S, isS bl s = true) {s : Sd} (h : s ∈ S) (h' : nx bl jn s ∈ S) : lw S (nx bl jn s) = lw S s := by
  have i0 := hs _ h
  have i1 := hs _ h'
  have d4 := isS_lt i0
  have w0 := wn_side hS hn hs (x := s.1) (y := s.2.1) (d := s.2.2) h
  have w1 := wn_side hS hn hs (x := (nx bl jn s).1) (y := (nx bl jn s).2.1) (d := (nx bl jn s).2.2) h'
  have tn : (nx bl jn s).2.2 = s.2.2 ∨ (nx bl jn s).2.2 = (s.2.2 + 1) % 4 ∨ (nx bl jn s).2.2 = (s.2.2 + 3) % 4 := by
    have := i0
    rw [isS_in] at this
    exact next_turn _ _ _ _ _ ⟨s.2.2, d4⟩ this
  have e1 : (nx bl jn s).1 = (en s).1 := rfl
  have e2 : (nx bl jn s).2.1 = (en s).2 := rfl
  unfold lw
  obtain ⟨t, et⟩ : ∃ t, nx bl jn s = t := ⟨_, rfl⟩
  rw [et] at i1 w1 tn e1 e2 ⊢
  clear h' et
  obtain ⟨x', y', d'⟩ := t
  obtain ⟨x, y, d⟩ := s
  simp only at e1 e2 tn w0 w1 d4 ⊢
  subst e1 e2
  match d, d4 with
  | 0, _ =>
    rcases tn with rfl | rfl | rfl
    · simp [isS, outQ, en] at i0 i1
      have := wn_same_y hS hs (x := x) (y := y + 1) (by rw [i1.1]; simpa using i0.1)
      simp [lpx, lpy, en] at this ⊢; exact this.symm
    · simp [lpx, lpy, en]
    · simp [lpx, lpy, rpx, rpy, en] at w0 w1 ⊢; omega
  | 1, _ =>
    rcases tn with rfl | rfl | rfl
    · simp [isS, outQ, en] at i0 i1
      have := wn_same_x (S := S) hs (x := x + 1) (y := y - 1) (by rw [i1.1]; simpa using i0.1)
      simp [lpx, lpy, en] at this ⊢; exact this.symm
    · simp [lpx, lpy, en]
    · simp [lpx, lpy, rpx, rpy, en] at w0 w1 ⊢; omega
  | 2, _ =>
    rcases tn with rfl | rfl | rfl
    · simp [isS, outQ, en] at i0 i1
      have := wn_same_y hS hs (x := x - 1) (y := y - 1) (by rw [i0.1]; simpa using i1.1)
      simp [lpx, lpy, en] at this ⊢; exact this
    · simp [lpx, lpy, en]
    · simp [lpx, lpy, rpx, rpy, en] at w0 w1 ⊢; omega
  | 3, _ =>
    rcases tn with rfl | rfl | rfl
    · simp [isS, outQ, en] at i0 i1
      have := wn_same_x (S := S) hs (x := x - 1) (y := y) (by rw [i0.1]; simpa using i1.1)
      simp [lpx, lpy, en] at this ⊢; exact this
    · simp [lpx, lpy, en]
    · simp [lpx, lpy, rpx, rpy, en] at w0 w1 ⊢; omega

theorem Cyc.lw_all (h : Cyc (nx bl jn) (fun s => isS bl s = true) c.1 c.2) {s : Sd} (hs : s ∈ cyS (nx bl jn) c) : lw (cyS (nx bl jn) c) s = lw (cyS (nx bl jn) c) c.1 := by
  have key : ∀ i, lw (cyS (nx bl jn) c) (it (nx bl jn) i c.1) = lw (cyS (nx bl jn) c) c.1 := by
    intro i
    induction i with
    | zero => rfl
    | succ i ih => exact (lw_next h.closed h.nodup h.sides (h.mem i) (h.mem (i + 1))).trans ih
  obtain ⟨i, _, rfl⟩ := mem_cyS.1 hs
  exact key i

/-- All winding numbers of a cycle are 0 or one and the same sign. -/
theorem Cyc.sign (h : Cyc (nx bl jn) (fun s => isS bl s = true) c.1 c.2) {W H : Int} (hp : Pic bl W H) :
    (lw (cyS (nx bl jn) c) c.1 = 0 ∨ lw (cyS (nx bl jn) c) c.1 = 1) ∧ ∀ x y, wn (cyS (nx bl jn) c) x y = 0 ∨ wn (cyS (nx bl jn) c) x y = 2 * lw (cyS (nx bl jn) c) c.1 - 1 := by
  have hS := h.closed
  have hn := h.nodup
  have hs := h.sides
  have hl : ∀ {x y : Int} {d : Nat}, (x, y, d) ∈ cyS (nx bl jn) c → wn (cyS (nx bl jn) c) (lpx x d) (lpy y d) = lw (cyS (nx bl jn) c) c.1 ∧ wn (cyS (nx bl jn) c) (rpx x d) (rpy y d) = lw (cyS (nx bl jn) c) c.1 - 1 := fun {x y d} hm => by
    have a := h.lw_all hm
    have b := wn_side hS hn hs hm
    unfold lw at a
    simp only at a
    unfold lw
    omega
  have h0 := h.mem 0
  have hd : ∀ s ∈ cyS (nx bl jn) c, s.2.2 < 4 := fun s hm => isS_lt (hs s hm)
  have hlow : ∀ s ∈ cyS (nx bl jn) c, 0 ≤ s.1 := fun s hm => (side_in hp (hs s hm)).1
  obtain ⟨S, eS⟩ : ∃ S, cyS (nx bl jn) c = S := ⟨_, rfl⟩
  rw [eS] at hS hn hs h0 hd hlow hl ⊢
  obtain ⟨k, ek⟩ : ∃ k, lw S c.1 = k := ⟨_, rfl⟩
  rw [ek] at hl ⊢
  have vals : ∀ (y : Int) (n : Nat), wn S ((n : Int) - 1) y = 0 ∨ ((k = 0 ∨ k = 1) ∧ (wn S ((n : Int) - 1) y = k ∨ wn S ((n : Int) - 1) y = k - 1)) := by
    intro y n
    induction n with
    | zero => exact .inl (wn_left hS hd _ y fun s hm => by have := hlow s hm; simp; omega)
    | succ n ih =>
      have e : ((n + 1 : Nat) : Int) - 1 = n := by omega
      rw [e]
      by_cases u : ((n : Int), y + 1, 2) ∈ S
      · have := hl u
        simp [lpx, lpy, rpx, rpy] at this
        omega
      · by_cases v : ((n : Int), y, 0) ∈ S
        · have := hl v
          simp [lpx, lpy, rpx, rpy] at this
          omega
        · have := wn_x S n y
          rw [ct_no u, ct_no v] at this
          omega
  have all : ∀ x y : Int, wn S x y = 0 ∨ ((k = 0 ∨ k = 1) ∧ (wn S x y = k ∨ wn S x y = k - 1)) := by
    intro x y
    by_cases hx : x < 0
    · exact .inl (wn_left hS hd x y fun s hm => by have := hlow s hm; omega)
    · have := vals y (x + 1).toNat
      rwa [show (((x + 1).toNat : Nat) : Int) - 1 = x from by omega] at this
  have hk : k = 0 ∨ k = 1 := by
    have a := hl (x := c.1.1) (y := c.1.2.1) (d := c.1.2.2) h0
    have b1 := all (lpx c.1.1 c.1.2.2) (lpy c.1.2.1 c.1.2.2)
    have b2 := all (rpx c.1.1 c.1.2.2) (rpy c.1.2.1 c.1.2.2)
    omega
  refine ⟨hk, fun x y => ?_⟩
  have := all x y
  omega
end

/-- A sum over the first n numbers. -/
def sN (n : Nat) (g : Nat → Int) : Int := match n with
  | 0 => 0
  | n + 1 => sN n g + g n
theorem sN_congr {n : Nat} {g h : Nat → Int} (e : ∀ i, i < n → g i = h i) : sN n g = sN n h := by
  induction n with
  | zero => rfl
  | succ n ih => simp only [sN]; rw [ih fun i hi => e i (by omega), e n (by omega)]
theorem sN_add (n : Nat) (g h : Nat → Int) : sN n (fun i => g i + h i) = sN n g + sN n h := by
  induction n with
  | zero => rfl
  | succ n ih => simp only [sN, ih]; omega
theorem sN_zero (n : Nat) : sN n (fun _ => 0) = 0 := by
  induction n with
  | zero => rfl
  | succ n ih => simp only [sN, ih]; rfl
/-- A sum over a box of pixels. -/
def bx (W H : Nat) (g : Int → Int → Int) : Int := sN H fun y => sN W fun x => g x y
theorem bx_add (W H : Nat) (g h : Int → Int → Int) : bx W H (fun x y => g x y + h x y) = bx W H g + bx W H h := by
  unfold bx; rw [← sN_add]; exact sN_congr fun y _ => sN_add W _ _
theorem bx_zero (W H : Nat) : bx W H (fun _ _ => 0) = 0 := by
  unfold bx; exact (sN_congr fun y _ => sN_zero W).trans (sN_zero H)
theorem bx_congr {W H : Nat} {g h : Int → Int → Int} (e : ∀ x y : Int, g x y = h x y) : bx W H g = bx W H h := by
  unfold bx; exact sN_congr fun y _ => sN_congr fun x _ => e _ _
theorem bx_sm (W H : Nat) (S : List Sd) (g : Int → Int → Sd → Int) : bx W H (fun x y => sm S (g x y)) = sm S (fun s => bx W H (fun x y => g x y s)) := by
  induction S with
  | nil => exact bx_zero W H
  | cons s S ih => rw [sm_cons, ← ih, ← bx_add]; exact bx_congr fun x y => sm_cons _ _ _
theorem sN_lt (n : Nat) (a v : Int) : sN n (fun x => if (x : Int) < a then v else 0) = v * (if a < 0 then 0 else if a ≤ n then a else n) := by
  induction n with
  | zero =>
    simp only [sN]
    by_cases h1 : a < 0
    · rw [if_pos h1]; simp
    · by_cases h2 : a ≤ ((0 : Nat) : Int)
      · rw [if_neg h1, if_pos h2, show a = 0 from by omega]; simp
      · rw [if_neg h1, if_neg h2]; simp
  | succ n ih =>
    simp only [sN, ih]
    by_cases h1 : a < 0
    · rw [if_pos h1, if_neg (by omega), if_pos h1]; omega
    · by_cases h2 : a ≤ n
      · rw [if_neg h1, if_pos h2, if_neg (by omega), if_neg h1, if_pos (by omega)]; omega
      · rw [if_neg h1, if_neg h2, if_pos (by omega), if_neg h1]
        by_cases h3 : a ≤ ((n + 1 : Nat) : Int)
        · rw [if_pos h3, show a = (n : Int) + 1 from by omega, Int.mul_add]; omega
        · rw [if_neg h3, show ((n + 1 : Nat) : Int) = (n : Int) + 1 from by omega, Int.mul_add]; omega
theorem sN_eq (n : Nat) (a : Int) (v : Int) : sN n (fun y => if a = (y : Int) then v else 0) = if 0 ≤ a ∧ a < n then v else 0 := by
  induction n with
  | zero => simp only [sN]; rw [if_neg (by omega)]
  | succ n ih =>
    simp only [sN, ih]
    repeat' split <;> try omega
end Go.Proofs.YtljfiefobnncaabDoor.Qm

/- Twice of a cycle is twice the sum of its winding numbers, and not 0; over all cycles the winding numbers are 1 at black pixels and 0 at white ones. Nothing of the program stands here. -/
namespace Go.Proofs.YtljfiefobnncaabDoor.Qm

/-- A side's share of the area. -/
def hx (s : Sd) : Int := if s.2.2 = 2 then s.1 else if s.2.2 = 0 then -s.1 else 0
theorem bx_hw {bl : Int → Int → Bool} {W H : Nat} (hp : Pic bl W H) {s : Sd} (h : isS bl s = true) : bx W H (fun x y => hw x y s) = hx s := by
  have d4 := isS_lt h
  have hi := side_in hp h
  obtain ⟨x, y, d⟩ := s
  simp only at hi d4
  match d, d4 with
  | 0, _ =>
    have hb : 0 ≤ y ∧ y < H := by simp [isS, outQ] at h; have := hp.box _ _ h.1; omega
    have e : bx W H (fun a b => hw a b (x, y, 0)) = sN H fun b => if y = (b : Int) then -1 * x else 0 := by
      refine sN_congr fun b _ => ?_
      by_cases hy : y = (b : Int)
      · rw [if_pos hy, show x = (if x < 0 then 0 else if x ≤ (W : Int) then x else W) from by rw [if_neg (by omega), if_pos hi.2.1], ← sN_lt]
        refine sN_congr fun a _ => ?_
        rw [if_neg (show ¬ x < 0 from by omega), if_pos hi.2.1]
        simp [hw, hy]
      · rw [if_neg hy, ← sN_zero W]
        exact sN_congr fun a _ => by simp [hw, hy]
    rw [e, sN_eq, if_pos hb]; simp [hx]
  | 1, _ => exact (bx_congr (h := fun _ _ => 0) fun a b => by simp [hw]).trans ((bx_zero W H).trans (by simp [hx]))
  | 2, _ =>
    have hb : 0 ≤ y - 1 ∧ y - 1 < H := by simp [isS, outQ] at h; have := hp.box _ _ h.1; omega
    have e : bx W H (fun a b => hw a b (x, y, 2)) = sN H fun b => if y - 1 = (b : Int) then 1 * x else 0 := by
      refine sN_congr fun b _ => ?_
      by_cases hy : y - 1 = (b : Int)
      · rw [if_pos hy, show x = (if x < 0 then 0 else if x ≤ (W : Int) then x else W) from by rw [if_neg (by omega), if_pos hi.2.1], ← sN_lt]
        refine sN_congr fun a _ => ?_
        rw [if_neg (show ¬ x < 0 from by omega), if_pos hi.2.1]
        have : y = (b : Int) + 1 := by omega
        simp [hw, this]
      · rw [if_neg hy, ← sN_zero W]
        have : ¬ y = (b : Int) + 1 := by omega
        exact sN_congr fun a _ => by simp [hw, this]
    rw [e, sN_eq, if_pos hb]; simp [hx]
  | 3, _ => exact (bx_congr (h := fun _ _ => 0) fun a b => by simp [hw]).trans ((bx_zero W H).trans (by simp [hx]))
theorem bx_wn {bl : Int → Int → Bool} {W H : Nat} (hp : Pic bl W H) {S : List Sd} (hs : ∀ s ∈ S, isS bl s = true) : bx W H (wn S) = sm S hx := by
  have := bx_sm W H S hw
  unfold wn
  rw [show (bx W H fun x y => sm S (hw x y)) = _ from this]
  exact sm_congr fun s h => bx_hw hp (hs s h)

theorem cross_hx {S : List Sd} (hS : Closed S) (hd : ∀ s ∈ S, s.2.2 < 4) : sm S (fun s => cross (fromP s) (en s)) = 2 * sm S hx := by
  have h := hS (fun p => p.1 * p.2)
  have e : sm S (fun s => cross (fromP s) (en s)) = sm S (fun s => (hx s + hx s) + ((fun p : Int × Int => p.1 * p.2) (en s) - (fun p : Int × Int => p.1 * p.2) (fromP s))) := by
    refine sm_congr fun s hs => ?_
    have d4 := hd s hs
    obtain ⟨x, y, d⟩ := s
    have c := Int.mul_comm x y
    match d, d4 with
    | 0, _ => simp [cross, fromP, en, hx, Int.mul_add]; omega
    | 1, _ => simp [cross, fromP, en, hx, Int.mul_add, Int.add_mul]; omega
    | 2, _ => simp [cross, fromP, en, hx, Int.mul_sub]; omega
    | 3, _ => simp [cross, fromP, en, hx, Int.mul_sub, Int.sub_mul]; omega
  rw [e, sm_add, sm_add, h]; omega

section
variable {bl jn : Int → Int → Bool} {c : Sd × Nat}

theorem ptsOf_getD (f : Sd → Sd) (c : Sd × Nat) (i : Nat) (h : i < c.2) : (ptsOf f c).getD i (0, 0) = fromP (it f i c.1) := by
  simp [ptsOf, List.getD_eq_getElem?_getD, h]
theorem Cyc.fsum_sm (h : Cyc (nx bl jn) (fun s => isS bl s = true) c.1 c.2) (k : Nat) (hk : k ≤ c.2) : fsum (ptsOf (nx bl jn) c) k = sm ((List.range k).map fun i => it (nx bl jn) i c.1) (fun s => cross (fromP s) (en s)) := by
  induction k with
  | zero => rfl
  | succ k ih =>
    rw [fsum, ih (by omega), sm_range, ptsOf_len, ptsOf_getD _ _ _ (by omega), ptsOf_getD _ _ _ (Nat.mod_lt _ h.2.1), ← h.mod]
    rfl
theorem Cyc.twice (h : Cyc (nx bl jn) (fun s => isS bl s = true) c.1 c.2) {W H : Nat} (hp : Pic bl W H) : twiceOf (ptsOf (nx bl jn) c) = 2 * bx W H (wn (cyS (nx bl jn) c)) := by
  rw [bx_wn hp h.sides, twiceOf_fsum, ptsOf_len, h.fsum_sm _ (Nat.le_refl _)]
  exact cross_hx h.closed fun s hs => isS_lt (h.sides s hs)
end

theorem sN_le {n : Nat} {g h : Nat → Int} (e : ∀ i, i < n → g i ≤ h i) : sN n g ≤ sN n h := by
  induction n with
  | zero => exact Int.le_refl _
  | succ n ih => have := ih fun i hi => e i (by omega); have := e n (by omega); simp only [sN]; omega
theorem sN_pos {n : Nat} {g : Nat → Int} (e : ∀ i, i < n → 0 ≤ g i) {i : Nat} (hi : i < n) : g i ≤ sN n g := by
  induction n with
  | zero => omega
  | succ n ih =>
    simp only [sN]
    have a := e n (by omega)
    by_cases h : i = n
    · subst h
      have := sN_le (n := i) (g := fun _ => 0) (h := g) fun j hj => e j (by omega)
      rw [sN_zero] at this
      omega
    · have := ih (fun j hj => e j (by omega)) (by omega)
      omega
theorem bx_pos {W H : Nat} {g : Int → Int → Int} (e : ∀ x y, 0 ≤ g x y) {x y : Nat} (hx : x < W) (hy : y < H) : g x y ≤ bx W H g := by
  have a : g x y ≤ sN W (fun x => g x y) := sN_pos (g := fun x : Nat => g x y) (fun i _ => e _ _) hx
  have b : sN W (fun x => g x y) ≤ bx W H g := sN_pos (g := fun y : Nat => sN W fun x => g x y) (fun i _ => by
    have := sN_le (n := W) (g := fun _ => 0) (h := fun x : Nat => g x i) fun j _ => e _ _
    rwa [sN_zero] at this) hy
  exact Int.le_trans a b
theorem bx_neg (W H : Nat) (g : Int → Int → Int) : bx W H (fun x y => -g x y) = -bx W H g := by
  have := bx_add W H g (fun x y => -g x y)
  rw [show bx W H (fun x y => g x y + -g x y) = 0 from by rw [← bx_zero W H]; exact bx_congr fun x y => by omega] at this
  omega
end Go.Proofs.YtljfiefobnncaabDoor.Qm

/- No cycle's Twice is 0; all cycles' together are twice the black pixels; a cycle has four sides or more; the cycles' sides are all sides. Nothing of the program stands here. -/
namespace Go.Proofs.YtljfiefobnncaabDoor.Qm

theorem wn_out {bl : Int → Int → Bool} {W H : Int} (hp : Pic bl W H) {S : List Sd} (hS : Closed S) (hs : ∀ s ∈ S, isS bl s = true) (x y : Int) (h : ¬ (0 ≤ x ∧ x < W ∧ 0 ≤ y ∧ y < H)) : wn S x y = 0 := by
  by_cases h1 : x < 0
  · exact wn_left hS (fun s hm => isS_lt (hs s hm)) x y fun s hm => by have := side_in hp (hs s hm); omega
  · by_cases h2 : W ≤ x
    · exact wn_right x y fun s hm => by have := side_in hp (hs s hm); omega
    · refine sm_zero fun s hm => ?_
      have hi := hs s hm
      unfold hw
      rw [if_neg ?_, if_neg ?_]
      · rintro ⟨a, b, _⟩
        obtain ⟨x', y', d'⟩ := s
        simp only at a b
        subst a b
        simp [isS, outQ] at hi
        have := hp.box _ _ hi.1
        omega
      · rintro ⟨a, b, _⟩
        obtain ⟨x', y', d'⟩ := s
        simp only at a b
        subst a b
        simp [isS, outQ] at hi
        have := hp.box _ _ hi.1
        omega

section
variable {bl jn : Int → Int → Bool} {c : Sd × Nat}

theorem Cyc.twice_ne (h : Cyc (nx bl jn) (fun s => isS bl s = true) c.1 c.2) {W H : Nat} (hp : Pic bl W H) :
    (lw (cyS (nx bl jn) c) c.1 = 1 ∧ 0 < twiceOf (ptsOf (nx bl jn) c)) ∨ (lw (cyS (nx bl jn) c) c.1 = 0 ∧ twiceOf (ptsOf (nx bl jn) c) < 0) := by
  rw [h.twice hp]
  obtain ⟨hk, hv⟩ := h.sign hp
  have hl : wn (cyS (nx bl jn) c) (lpx c.1.1 c.1.2.2) (lpy c.1.2.1 c.1.2.2) = lw (cyS (nx bl jn) c) c.1 := rfl
  have hr := wn_side h.closed h.nodup h.sides (x := c.1.1) (y := c.1.2.1) (d := c.1.2.2) (h.mem 0)
  have out := wn_out hp h.closed h.sides
  obtain ⟨S, eS⟩ : ∃ S, cyS (nx bl jn) c = S := ⟨_, rfl⟩
  rw [eS] at hk hv hl hr out ⊢
  rcases hk with hk | hk
  · refine .inr ⟨hk, ?_⟩
    rw [hk] at hv hl
    obtain ⟨px, py, e, hb⟩ : ∃ px py : Nat, wn S px py = -1 ∧ px < W ∧ py < H := by
      have hr2 : wn S (rpx c.1.1 c.1.2.2) (rpy c.1.2.1 c.1.2.2) = -1 := by omega
      obtain ⟨a, ea⟩ : ∃ a, rpx c.1.1 c.1.2.2 = a := ⟨_, rfl⟩
      obtain ⟨b, eb⟩ : ∃ b, rpy c.1.2.1 c.1.2.2 = b := ⟨_, rfl⟩
      rw [ea, eb] at hr2
      by_cases hb : 0 ≤ a ∧ a < (W : Int) ∧ 0 ≤ b ∧ b < (H : Int)
      · exact ⟨a.toNat, b.toNat, by rw [show ((a.toNat : Nat) : Int) = a from by omega, show ((b.toNat : Nat) : Int) = b from by omega]; exact hr2, by omega, by omega⟩
      · rw [out a b hb] at hr2; omega
    have := bx_pos (g := fun x y => -wn S x y) (fun x y => by have := hv x y; omega) hb.1 hb.2
    rw [bx_neg] at this
    omega
  · refine .inl ⟨hk, ?_⟩
    rw [hk] at hv hl
    obtain ⟨px, py, e, hb⟩ : ∃ px py : Nat, wn S px py = 1 ∧ px < W ∧ py < H := by
      obtain ⟨a, ea⟩ : ∃ a, lpx c.1.1 c.1.2.2 = a := ⟨_, rfl⟩
      obtain ⟨b, eb⟩ : ∃ b, lpy c.1.2.1 c.1.2.2 = b := ⟨_, rfl⟩
      rw [ea, eb] at hl
      by_cases hb : 0 ≤ a ∧ a < (W : Int) ∧ 0 ≤ b ∧ b < (H : Int)
      · exact ⟨a.toNat, b.toNat, by rw [show ((a.toNat : Nat) : Int) = a from by omega, show ((b.toNat : Nat) : Int) = b from by omega]; exact hl, by omega, by omega⟩
      · rw [out a b hb] at hl; omega
    have := bx_pos (g := fun x y => wn S x y) (fun x y => by have := hv x y; omega) hb.1 hb.2
    rw [show (fun x y => wn S x y) = wn S from rfl] at this
    omega

/-- Each side that is not the last goes one on; no side goes back: four or more. -/
theorem par_it (bl jn : Int → Int → Bool) {s : Sd} (h : isS bl s = true) (n : Nat) : ((it (nx bl jn) n s).1 + (it (nx bl jn) n s).2.1 + n) % 2 = (s.1 + s.2.1) % 2 := by
  induction n with
  | zero => simp [it]
  | succ n ih =>
    have hi := it_isS (jn := jn) h n
    have d4 := isS_lt hi
    have e1 : (it (nx bl jn) (n + 1) s).1 = (en (it (nx bl jn) n s)).1 := rfl
    have e2 : (it (nx bl jn) (n + 1) s).2.1 = (en (it (nx bl jn) n s)).2 := rfl
    rw [e1, e2, ← ih]
    obtain ⟨t, et⟩ : ∃ t, it (nx bl jn) n s = t := ⟨_, rfl⟩
    rw [et] at d4 ⊢
    clear et hi e1 e2 ih
    obtain ⟨x, y, d⟩ := t
    simp only at d4
    match d, d4 with
    | 0, _ => simp [en]; omega
    | 1, _ => simp [en]; omega
    | 2, _ => simp [en]; omega
    | 3, _ => simp [en]; omega
theorem Cyc.four (h : Cyc (nx bl jn) (fun s => isS bl s = true) c.1 c.2) : 4 ≤ c.2 := by
  have p := par_it bl jn h.1 c.2
  have hn := h.2.1
  have hb := h.2.2.1
  rw [hb] at p
  by_cases h2 : c.2 = 2
  · exfalso
    rw [h2] at hb
    have i0 : isS bl c.1 = true := h.1
    have d0 := isS_lt i0
    have i1 := nx_isS (jn := jn) i0
    have d1 := isS_lt i1
    have nb : (nx bl jn c.1).2.2 ≠ (c.1.2.2 + 2) % 4 := by
      have := i0
      rw [isS_in] at this
      exact next_no_back _ _ _ _ _ ⟨c.1.2.2, d0⟩ this
    have e1 : (en (nx bl jn c.1)).1 = c.1.1 := congrArg (fun s : Sd => s.1) hb
    have e2 : (en (nx bl jn c.1)).2 = c.1.2.1 := congrArg (fun s : Sd => s.2.1) hb
    have f1 : (nx bl jn c.1).1 = (en c.1).1 := rfl
    have f2 : (nx bl jn c.1).2.1 = (en c.1).2 := rfl
    obtain ⟨t, et⟩ : ∃ t, nx bl jn c.1 = t := ⟨_, rfl⟩
    rw [et] at d1 nb e1 e2 f1 f2
    clear hb i1 p h et
    obtain ⟨⟨x, y, d⟩, n⟩ := c
    obtain ⟨x', y', d'⟩ := t
    simp only at d0 d1 nb e1 e2 f1 f2
    subst f1 f2
    match d, d0, d', d1 with
    | 0, _, 0, _ => simp [en] at e1 e2; omega
    | 0, _, 1, _ => simp [en] at e1 e2; omega
    | 0, _, 2, _ => simp at nb
    | 0, _, 3, _ => simp [en] at e1 e2; omega
    | 1, _, 0, _ => simp [en] at e1 e2; omega
    | 1, _, 1, _ => simp [en] at e1 e2; omega
    | 1, _, 2, _ => simp [en] at e1 e2; omega
    | 1, _, 3, _ => simp at nb
    | 2, _, 0, _ => simp at nb
    | 2, _, 1, _ => simp [en] at e1 e2; omega
    | 2, _, 2, _ => simp [en] at e1 e2; omega
    | 2, _, 3, _ => simp [en] at e1 e2; omega
    | 3, _, 0, _ => simp [en] at e1 e2; omega
    | 3, _, 1, _ => simp at nb
    | 3, _, 2, _ => simp [en] at e1 e2; omega
    | 3, _, 3, _ => simp [en] at e1 e2; omega
  · omega
end
end Go.Proofs.YtljfiefobnncaabDoor.Qm

/- All cycles together: their sides are all sides, each once; their winding numbers are 1 at black pixels, 0 at white ones; how many sides there are. Nothing of the program stands here. -/
namespace Go.Proofs.YtljfiefobnncaabDoor.Qm

/-- The sides of all cycles. -/
def alS (f : Sd → Sd) (R : List (Sd × Nat)) : List Sd := R.flatMap (cyS f)
theorem alS_cons (f : Sd → Sd) (c : Sd × Nat) (R : List (Sd × Nat)) : alS f (c :: R) = cyS f c ++ alS f R := rfl
theorem sm_all (f : Sd → Sd) (g : Sd → Int) (R : List (Sd × Nat)) : (R.map fun c => sm (cyS f c) g).sum = sm (alS f R) g := by
  induction R with
  | nil => rfl
  | cons c R ih => rw [List.map_cons, List.sum_cons, ih, alS_cons, sm_app]

section
variable {bl jn : Int → Int → Bool} {R : List (Sd × Nat)}

theorem Res.closed (h : Res (nx bl jn) (fun s => isS bl s = true) key R) : Closed (alS (nx bl jn) R) := by
  have h1 := h.1
  clear h
  induction R with
  | nil => exact Closed.nil
  | cons c R ih => exact (h1 c (by simp)).1.closed.app (ih fun c' hc => h1 c' (by simp [hc]))
theorem Res.mem (h : Res (nx bl jn) (fun s => isS bl s = true) key R) {s : Sd} : s ∈ alS (nx bl jn) R ↔ isS bl s = true := by
  unfold alS
  rw [List.mem_flatMap]
  constructor
  · rintro ⟨c, hc, hs⟩
    exact (h.1 c hc).1.sides s hs
  · intro hs
    obtain ⟨c, hc, i, hi, e⟩ := h.2.2 s hs
    exact ⟨c, hc, mem_cyS.2 ⟨i, hi, e⟩⟩
theorem Res.nodup (h : Res (nx bl jn) (fun s => isS bl s = true) key R) : (alS (nx bl jn) R).Nodup := by
  unfold alS
  rw [List.Nodup, List.pairwise_flatMap]
  refine ⟨fun c hc => (h.1 c hc).1.nodup, List.Pairwise.imp_of_mem ?_ h.2.1⟩
  intro a b ha hb hk x hx y hy e
  subst e
  obtain ⟨i, hi, e1⟩ := mem_cyS.1 hx
  obtain ⟨j, hj, e2⟩ := mem_cyS.1 hy
  have := (h.1 a ha).share (h.1 b hb) hi (e1.symm.trans e2)
  subst this
  omega

theorem Res.ctA (h : Res (nx bl jn) (fun s => isS bl s = true) key R) (s : Sd) : ct (alS (nx bl jn) R) s = if isS bl s = true then 1 else 0 := by
  by_cases hs : isS bl s = true
  · rw [if_pos hs]; exact ct_yes h.nodup (h.mem.2 hs)
  · rw [if_neg hs]; exact ct_no fun hm => hs (h.mem.1 hm)

/-- All winding numbers together tell black from white. -/
theorem Res.wnA (h : Res (nx bl jn) (fun s => isS bl s = true) key R) {W H : Int} (hp : Pic bl W H) (x y : Int) : wn (alS (nx bl jn) R) x y = if bl x y = true then 1 else 0 := by
  have hs : ∀ s ∈ alS (nx bl jn) R, isS bl s = true := fun s hm => h.mem.1 hm
  have hd : ∀ s ∈ alS (nx bl jn) R, s.2.2 < 4 := fun s hm => isS_lt (hs s hm)
  have hlow : ∀ s ∈ alS (nx bl jn) R, 0 ≤ s.1 := fun s hm => (side_in hp (hs s hm)).1
  have neg : ∀ x y, x < 0 → bl x y = false := fun x y hx => by
    cases e : bl x y with
    | false => rfl
    | true => have := hp.box _ _ e; omega
  by_cases hx : x < 0
  · rw [wn_left h.closed hd x y fun s hm => by have := hlow s hm; omega, neg x y hx]; simp
  · obtain ⟨n, rfl⟩ : ∃ n : Nat, x = n := ⟨x.toNat, by omega⟩
    clear hx
    have key : ∀ n : Nat, wn (alS (nx bl jn) R) ((n : Int) - 1) y = if bl ((n : Int) - 1) y = true then 1 else 0 := by
      intro n
      induction n with
      | zero => rw [wn_left h.closed hd _ y fun s hm => by have := hlow s hm; simp; omega, neg _ y (by simp)]; simp
      | succ n ih =>
        have a := wn_x (alS (nx bl jn) R) n y
        rw [h.ctA, h.ctA, ih] at a
        rw [show ((n + 1 : Nat) : Int) - 1 = n from by omega]
        simp only [isS, outQ] at a
        rw [show y + 1 - 1 = y from by omega] at a
        cases e1 : bl ((n : Int) - 1) y <;> cases e2 : bl (n : Int) y <;> simp [e1, e2] at a ⊢ <;> omega
    have := key (n + 1)
    rwa [show ((n + 1 : Nat) : Int) - 1 = n from by omega] at this

/-- All areas together. -/
theorem Res.area (h : Res (nx bl jn) (fun s => isS bl s = true) key R) {W H : Nat} (hp : Pic bl W H) : (R.map fun c => twiceOf (ptsOf (nx bl jn) c)).sum = 2 * bx W H (fun x y => if bl x y = true then 1 else 0) := by
  rw [← bx_congr (fun x y => h.wnA hp x y), bx_wn hp fun s hm => h.mem.1 hm, ← sm_all]
  have h1 := h.1
  clear h
  induction R with
  | nil => rfl
  | cons c R ih =>
    simp only [List.map_cons, List.sum_cons]
    rw [ih fun c' hc => h1 c' (by simp [hc]), (h1 c (by simp)).1.twice hp, bx_wn hp (h1 c (by simp)).1.sides]
    omega
end

theorem bx_one (W H : Nat) (a b : Int) (ha : 0 ≤ a ∧ a < W) (hb : 0 ≤ b ∧ b < H) : bx W H (fun x y => if a = x ∧ b = y then 1 else 0) = 1 := by
  have e : bx W H (fun x y => if a = x ∧ b = y then 1 else 0) = sN H fun y => if b = (y : Int) then 1 else 0 := by
    refine sN_congr fun y _ => ?_
    by_cases hy : b = (y : Int)
    · rw [if_pos hy]
      have := sN_eq W a 1
      rw [if_pos ha] at this
      exact (sN_congr fun x _ => by simp [hy]).trans this
    · rw [if_neg hy]
      exact (sN_congr (h := fun _ => 0) fun x _ => by simp [hy]).trans (sN_zero W)
  rw [e, sN_eq, if_pos hb]
/-- At (x, y): how many of its western and its northern line are sides? -/
def cS (bl : Int → Int → Bool) (x y : Int) : Int := (if bl x y = bl (x - 1) y then 0 else 1) + (if bl x y = bl x (y - 1) then 0 else 1)
/-- Is s the western or the northern line of (x, y)? -/
def eS (x y : Int) (s : Sd) : Int := (if s = (x, y, 0) then 1 else 0) + (if s = (x, y + 1, 2) then 1 else 0) + ((if s = (x, y, 1) then 1 else 0) + (if s = (x + 1, y, 3) then 1 else 0))
theorem bx_eS {bl : Int → Int → Bool} {W H : Nat} (hp : Pic bl W H) {s : Sd} (h : isS bl s = true) : bx (W + 1) (H + 1) (fun x y => eS x y s) = 1 := by
  have d4 := isS_lt h
  have hi := side_in hp h
  obtain ⟨x, y, d⟩ := s
  simp only at hi d4
  match d, d4 with
  | 0, _ => exact (bx_congr fun a b => by simp [eS]).trans (bx_one (W + 1) (H + 1) x y (by omega) (by omega))
  | 1, _ => exact (bx_congr fun a b => by simp [eS]).trans (bx_one (W + 1) (H + 1) x y (by omega) (by omega))
  | 2, _ =>
    have hb : 0 ≤ y - 1 ∧ y - 1 < H := by simp [isS, outQ] at h; have := hp.box _ _ h.1; omega
    exact (bx_congr fun a b => by simp only [eS, Prod.mk.injEq]; simp; split <;> split <;> omega).trans (bx_one (W + 1) (H + 1) x (y - 1) (by omega) (by omega))
  | 3, _ =>
    have hb : 0 ≤ x - 1 := by simp [isS, outQ] at h; have := hp.box _ _ h.1; omega
    exact (bx_congr fun a b => by simp only [eS, Prod.mk.injEq]; simp; split <;> split <;> omega).trans (bx_one (W + 1) (H + 1) (x - 1) y (by omega) (by omega))
theorem sm_one (S : List Sd) : sm S (fun _ => 1) = S.length := by
  induction S with
  | nil => rfl
  | cons s S ih => rw [sm_cons, ih, List.length_cons]; omega

/-- How many sides there are. -/
theorem Res.count {bl jn : Int → Int → Bool} {R : List (Sd × Nat)} (h : Res (nx bl jn) (fun s => isS bl s = true) key R) {W H : Nat} (hp : Pic bl W H) : ((alS (nx bl jn) R).length : Int) = bx (W + 1) (H + 1) (cS bl) := by
  rw [← sm_one, ← sm_congr (fun s hm => bx_eS hp (h.mem.1 hm)), ← bx_sm]
  refine bx_congr fun x y => ?_
  have e : sm (alS (nx bl jn) R) (eS x y) = (ct (alS (nx bl jn) R) (x, y, 0) + ct (alS (nx bl jn) R) (x, y + 1, 2)) + (ct (alS (nx bl jn) R) (x, y, 1) + ct (alS (nx bl jn) R) (x + 1, y, 3)) := by
    unfold eS ct
    rw [sm_add, sm_add, sm_add]
  rw [e, h.ctA, h.ctA, h.ctA, h.ctA]
  simp only [isS, outQ, cS]
  rw [show y + 1 - 1 = y from by omega, show x + 1 - 1 = x from by omega]
  cases bl x y <;> cases bl (x - 1) y <;> cases bl x (y - 1) <;> simp
end Go.Proofs.YtljfiefobnncaabDoor.Qm

/- What Walked counts: sums by rows, what is ahead of a cycle in the answer. Nothing of the program stands here. -/
namespace Go.Proofs.YtljfiefobnncaabDoor.Qm
open Pm

theorem sN_bound {n : Nat} {g : Nat → Int} {m : Int} (e : ∀ i, i < n → 0 ≤ g i ∧ g i ≤ m) : 0 ≤ sN n g ∧ sN n g ≤ m * n := by
  induction n with
  | zero => simp [sN]
  | succ n ih =>
    have a := ih fun i hi => e i (by omega)
    have b := e n (by omega)
    simp only [sN]
    have : m * ((n + 1 : Nat) : Int) = m * n + m := by rw [show ((n + 1 : Nat) : Int) = (n : Int) + 1 from by omega, Int.mul_add]; omega
    rw [this]; omega
theorem cS_in (bl : Int → Int → Bool) (x y : Int) : 0 ≤ cS bl x y ∧ cS bl x y ≤ 2 := by
  unfold cS; split <;> split <;> omega
theorem row_cS (bl : Int → Int → Bool) (n : Nat) (y : Int) : 0 ≤ sN n (fun x => cS bl x y) ∧ sN n (fun x => cS bl x y) ≤ 2 * n := sN_bound fun _ _ => cS_in bl _ _
theorem bx_cS (bl : Int → Int → Bool) (W H : Nat) (hw : W ≤ 33) (hh : H ≤ 33) : 0 ≤ bx W H (cS bl) ∧ bx W H (cS bl) ≤ 2178 := by
  have a := sN_bound (n := H) (g := fun y => sN W fun x => cS bl x y) (m := 66) fun i _ => by have := row_cS bl W i; omega
  unfold bx
  omega
theorem sN_app (a b : Nat) (g : Nat → Int) : sN (a + b) g = sN a g + sN b fun i => g (a + i) := by
  induction b with
  | zero => simp [sN]
  | succ b ih => rw [← Nat.add_assoc]; simp only [sN, ih]; omega
/-- Black pixels, counted byte by byte. -/
theorem bits_rows (W H : Nat) (l : List UInt8) : sN (H * W) (fun i => if bitAt l i = true then 1 else 0) = bx W H (fun x y => if blackB W H l x y = true then 1 else 0) := by
  have key : ∀ h, h ≤ H → sN (h * W) (fun i => if bitAt l i = true then 1 else 0) = sN h fun y => sN W fun x => if blackB W H l x y = true then 1 else 0 := by
    intro h
    induction h with
    | zero => intro _; simp [sN]
    | succ h ih =>
      intro hh
      rw [Nat.succ_mul, sN_app, ih (by omega)]
      simp only [sN]
      congr 1
      refine sN_congr fun x hx => ?_
      rw [blackB_in W H l x h hx (by omega) (h * W) rfl]
  exact key H (Nat.le_refl _)

section
variable {f : Sd → Sd} {P : Sd → Prop} {R : List (Sd × Nat)} {i : Nat}
theorem Res.at (h : Res f P key R) (hi : i < R.length) : Canon f P key R[i] := h.1 _ (List.getElem_mem hi)
/-- No side of a cycle is on a cycle ahead of it. -/
theorem Res.fresh (h : Res f P key R) (hi : i < R.length) (m : Nat) : ¬ Tk f (R.take i) (it f m R[i].1) := by
  rintro ⟨c, hc, j, hj, e⟩
  obtain ⟨a, ha, rfl⟩ := List.mem_iff_getElem.1 hc
  simp only [List.length_take] at ha
  rw [List.getElem_take] at hj e
  have s := (h.at (i := a) (by omega)).share (h.at hi) hj e.symm
  have p := List.pairwise_iff_getElem.1 h.2.1 a i (by omega) hi (by omega)
  rw [s] at p
  omega
theorem Res.lt (h : Res f P key R) (hi : i + 1 < R.length) : key R[i].1 < key R[i + 1].1 := List.pairwise_iff_getElem.1 h.2.1 i (i + 1) (by omega) hi (by omega)
theorem take_next {α : Type} {R : List α} {i : Nat} (hi : i < R.length) : R.take (i + 1) = R.take i ++ [R[i]] := by
  rw [List.take_add_one, List.getElem?_eq_getElem hi]; rfl
theorem alS_app (f : Sd → Sd) (R S : List (Sd × Nat)) : alS f (R ++ S) = alS f R ++ alS f S := by simp [alS]
theorem cyS_len (f : Sd → Sd) (c : Sd × Nat) : (cyS f c).length = c.2 := by simp [cyS]
/-- How many sides the first i cycles have. -/
def totS (R : List (Sd × Nat)) (i : Nat) : Nat := ((R.take i).map (·.2)).sum
theorem totS_zero (R : List (Sd × Nat)) : totS R 0 = 0 := rfl
theorem totS_succ (hi : i < R.length) : totS R (i + 1) = totS R i + R[i].2 := by
  unfold totS; rw [take_next hi, List.map_append, List.sum_append, List.map_singleton, List.sum_singleton]
theorem len_alS (f : Sd → Sd) (R : List (Sd × Nat)) : (alS f R).length = (R.map (·.2)).sum := by
  induction R with
  | nil => rfl
  | cons c R ih => rw [alS_cons, List.length_append, ih, cyS_len]; simp
theorem totS_all (f : Sd → Sd) (R : List (Sd × Nat)) : totS R R.length = (alS f R).length := by
  unfold totS; rw [List.take_length, len_alS]
theorem totS_mono (R : List (Sd × Nat)) (i : Nat) : totS R i ≤ totS R R.length := by
  unfold totS
  rw [List.take_length]
  conv => rhs; rw [← List.take_append_drop i R]
  rw [List.map_append, List.sum_append]
  omega
/-- Twice the area of the first i cycles. -/
def areaS (f : Sd → Sd) (R : List (Sd × Nat)) (i : Nat) : Int := ((R.take i).map fun c => twiceOf (ptsOf f c)).sum
theorem areaS_zero (f : Sd → Sd) (R : List (Sd × Nat)) : areaS f R 0 = 0 := rfl
theorem areaS_succ (f : Sd → Sd) (hi : i < R.length) : areaS f R (i + 1) = areaS f R i + twiceOf (ptsOf f R[i]) := by
  unfold areaS; rw [take_next hi, List.map_append, List.sum_append, List.map_singleton, List.sum_singleton]
theorem areaS_all (f : Sd → Sd) (R : List (Sd × Nat)) : areaS f R R.length = (R.map fun c => twiceOf (ptsOf f c)).sum := by
  unfold areaS; rw [List.take_length]
theorem areaS_small (f : Sd → Sd) (R : List (Sd × Nat)) (hs : ∀ c ∈ R, Small (ptsOf f c)) : ∀ i, i ≤ R.length → -1024 * (totS R i : Int) ≤ areaS f R i ∧ areaS f R i ≤ 1024 * (totS R i : Int)
  | 0, _ => by simp [totS_zero, areaS_zero]
  | i + 1, hi => by
    have a := areaS_small f R hs i (by omega)
    have b := fsum_small (hs _ (List.getElem_mem (l := R) (n := i) (by omega))) (ptsOf f R[i]).length
    rw [← twiceOf_fsum, ptsOf_len] at b
    rw [areaS_succ f (by omega), totS_succ (by omega)]
    omega
end

section
variable {bl jn : Int → Int → Bool} {R : List (Sd × Nat)} {i : Nat}
theorem Canon.step_end {c : Sd × Nat} (h : Canon (nx bl jn) (fun s => isS bl s = true) key c) (k : Nat) : fromP (it (nx bl jn) ((k + 1) % c.2) c.1) = en (it (nx bl jn) k c.1) := by
  rw [← h.1.mod (k + 1)]; rfl
end
end Go.Proofs.YtljfiefobnncaabDoor.Qm

/- outlinekeep: sides. -/
namespace Go.Proofs.YtljfiefobnncaabDoor
open Go.RowKit

/-- A bitmap lies in the block b. -/
def Bmp (b W H : Nat) (s : ByteArray) (w : World) : Prop := b < w.heap.size ∧ w.cell? ⟨b, 0, none⟩ = some (.int .i64 W) ∧ w.cell? ⟨b, 1, none⟩ = some (.int .i64 H) ∧ w.cell? ⟨b, 2, none⟩ = some (.string s)
theorem Bmp.on {b W H : Nat} {s : ByteArray} {w w' : World} {B : Nat} (h : Bmp b W H s w) (hb : Below B w w') (hg : b < B) : Bmp b W H s w' :=
  ⟨Nat.lt_of_lt_of_le h.1 hb.size, (hb.cell (p := ⟨b, 0, none⟩) hg).trans h.2.1, (hb.cell (p := ⟨b, 1, none⟩) hg).trans h.2.2.1, (hb.cell (p := ⟨b, 2, none⟩) hg).trans h.2.2.2⟩

end Go.Proofs.YtljfiefobnncaabDoor
/- A block of three cells. -/
namespace Go.Proofs.YtljfiefobnncaabDoor
open Go.RowKit

/-- A block of three cells at B, that may be written; below it all is as it was. -/
def Box3 (B : Nat) (a b c : Value) (w wr : World) : Prop :=
  (wr.cell? ⟨B, 0, none⟩ = some a ∧ wr.cell? ⟨B, 1, none⟩ = some b ∧ wr.cell? ⟨B, 2, none⟩ = some c) ∧
  (wr.frozen? ⟨B, 0, none⟩ = false ∧ wr.frozen? ⟨B, 1, none⟩ = false ∧ wr.frozen? ⟨B, 2, none⟩ = false) ∧ Below B w wr ∧ B < wr.heap.size
theorem Box3.on {B : Nat} {a b c : Value} {w wr w2 : World} (h : Box3 B a b c w wr) (hb : Below wr.heap.size wr w2) : Box3 B a b c w w2 := by
  obtain ⟨⟨c0, c1, c2⟩, ⟨f0, f1, f2⟩, hn, hz⟩ := h
  exact ⟨⟨(hb.cell (p := ⟨B, 0, none⟩) hz).trans c0, (hb.cell (p := ⟨B, 1, none⟩) hz).trans c1, (hb.cell (p := ⟨B, 2, none⟩) hz).trans c2⟩,
    ⟨(hb.frozen (p := ⟨B, 0, none⟩) hz).trans f0, (hb.frozen (p := ⟨B, 1, none⟩) hz).trans f1, (hb.frozen (p := ⟨B, 2, none⟩) hz).trans f2⟩, hn.trans (hb.mono (Nat.le_of_lt hz)), Nat.lt_of_lt_of_le hz hb.size⟩
theorem Box3.new (w : World) (a b c : Value) (t : TypeId) : Box3 w.heap.size a b c w (w.alloc (.cells #[a, b, c] t)) :=
  ⟨⟨by simp, by simp, by simp⟩, ⟨by simp, by simp, by simp⟩, (Below.refl _ _).alloc (Nat.le_refl _) _, by simp⟩
theorem Box3.alloc {B : Nat} {a b c : Value} {w wr : World} (h : Box3 B a b c w wr) (o : Obj) : Box3 B a b c w (wr.alloc o) :=
  h.on ((Below.refl _ _).alloc (Nat.le_refl _) _)
end Go.Proofs.YtljfiefobnncaabDoor
