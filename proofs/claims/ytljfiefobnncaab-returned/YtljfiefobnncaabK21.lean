import Derived.Test.YtljfiefobnncaabK06

/- Winding numbers of a list of sides. Nothing of the program stands here. -/
namespace Go.Proofs.Ytljfiefobnncaab.Qm

/-- What is summed over a list of sides. -/
def sm (S : List Sd) (g : Sd → Int) : Int := (S.map g).sum
theorem sm_nil (g : Sd → Int) : sm [] g = 0 := rfl
theorem sm_cons (s : Sd) (S : List Sd) (g : Sd → Int) : sm (s :: S) g = g s + sm S g := by simp [sm]
theorem sm_app (S T : List Sd) (g : Sd → Int) : sm (S ++ T) g = sm S g + sm T g := by simp [sm, List.sum_append]
theorem sm_congr {S : List Sd} {g h : Sd → Int} (e : ∀ s ∈ S, g s = h s) : sm S g = sm S h := by
  unfold sm; rw [List.map_congr_left e]
theorem sm_add (S : List Sd) (g h : Sd → Int) : sm S (fun s => g s + h s) = sm S g + sm S h := by
  induction S with
  | nil => rfl
  | cons s S ih => simp only [sm_cons, ih]; omega
theorem sm_sub (S : List Sd) (g h : Sd → Int) : sm S (fun s => g s - h s) = sm S g - sm S h := by
  induction S with
  | nil => rfl
  | cons s S ih => simp only [sm_cons, ih]; omega
theorem sm_zero {S : List Sd} {g : Sd → Int} (e : ∀ s ∈ S, g s = 0) : sm S g = 0 := by
  induction S with
  | nil => rfl
  | cons s S ih => rw [sm_cons, e s (by simp), ih (fun t ht => e t (by simp [ht]))]; rfl

/-- How often a side stands in a list. -/
def ct (S : List Sd) (t : Sd) : Int := sm S (fun s => if s = t then 1 else 0)
theorem ct_no {S : List Sd} {t : Sd} (h : t ∉ S) : ct S t = 0 := sm_zero fun s hs => by
  rw [if_neg]; rintro rfl; exact h hs
theorem ct_yes {S : List Sd} {t : Sd} (hn : S.Nodup) (h : t ∈ S) : ct S t = 1 := by
  induction S with
  | nil => simp at h
  | cons s S ih =>
    have hn' := List.nodup_cons.1 hn
    show sm (s :: S) _ = 1
    rw [sm_cons]
    by_cases e : s = t
    · subst e
      have := ct_no hn'.1
      unfold ct at this
      rw [if_pos rfl, this]; rfl
    · rw [if_neg e]
      have := ih hn'.2 (by rcases List.mem_cons.1 h with h | h; exact absurd h.symm e; exact h)
      unfold ct at this
      rw [this]; rfl

/-- What one side adds to the winding number at the middle of pixel (x, y). -/
def hw (x y : Int) (s : Sd) : Int :=
  if s.2.2 = 2 ∧ s.2.1 = y + 1 ∧ x < s.1 then 1 else if s.2.2 = 0 ∧ s.2.1 = y ∧ x < s.1 then -1 else 0
def wn (S : List Sd) (x y : Int) : Int := sm S (hw x y)

theorem wn_x (S : List Sd) (x y : Int) : wn S (x - 1) y - wn S x y = ct S (x, y + 1, 2) - ct S (x, y, 0) := by
  unfold wn ct
  rw [← sm_sub, ← sm_sub]
  refine sm_congr fun s _ => ?_
  obtain ⟨a, b, d⟩ := s
  simp only [hw, Prod.mk.injEq]
  by_cases h2 : d = 2
  · subst h2; simp; split <;> split <;> (try split) <;> omega
  · by_cases h0 : d = 0
    · subst h0; simp; split <;> split <;> (try split) <;> omega
    · simp [h2, h0]

/-- It comes back to where it began. -/
def Closed (S : List Sd) : Prop := ∀ φ : Int × Int → Int, sm S (fun s => φ (en s) - φ (fromP s)) = 0
theorem Closed.nil : Closed [] := fun _ => rfl
theorem Closed.app {S T : List Sd} (h : Closed S) (k : Closed T) : Closed (S ++ T) := fun φ => by rw [sm_app, h φ, k φ]; rfl

theorem wn_y {S : List Sd} (hS : Closed S) (hd : ∀ s ∈ S, s.2.2 < 4) (x y : Int) : wn S x (y - 1) - wn S x y = ct S (x, y, 1) - ct S (x + 1, y, 3) := by
  have h := hS (fun p => if p.2 = y ∧ x < p.1 then 1 else 0)
  have e : sm S (fun s => (hw x (y - 1) s - hw x y s) - ((if s = (x, y, 1) then (1 : Int) else 0) - (if s = (x + 1, y, 3) then 1 else 0))) = sm S (fun s => 0 - ((fun p : Int × Int => if p.2 = y ∧ x < p.1 then (1 : Int) else 0) (en s) - (fun p : Int × Int => if p.2 = y ∧ x < p.1 then (1 : Int) else 0) (fromP s))) := by
    refine sm_congr fun s hs => ?_
    have h4 := hd s hs
    obtain ⟨a, b, d⟩ := s
    match d, h4 with
    | 0, _ => simp [hw, en, fromP]; repeat' split <;> try omega
    | 1, _ => simp [hw, en, fromP]; repeat' split <;> try omega
    | 2, _ => simp [hw, en, fromP]; repeat' split <;> try omega
    | 3, _ => simp [hw, en, fromP]; repeat' split <;> try omega
  rw [sm_sub, sm_sub, sm_sub, sm_sub (g := fun _ => (0 : Int)), h, sm_zero (fun _ _ => rfl)] at e
  unfold wn ct
  omega

theorem wn_left {S : List Sd} (hS : Closed S) (hd : ∀ s ∈ S, s.2.2 < 4) (x y : Int) (hx : ∀ s ∈ S, x < s.1) : wn S x y = 0 := by
  have h := hS (fun p => if p.2 ≤ y then 1 else 0)
  rw [← h]
  refine sm_congr fun s hs => ?_
  have h4 := hd s hs
  have hx := hx s hs
  obtain ⟨a, b, d⟩ := s
  simp only at hx
  match d, h4 with
  | 0, _ => simp [hw, en, fromP, hx]; repeat' split <;> try omega
  | 1, _ => simp [hw, en, fromP]; omega
  | 2, _ => simp [hw, en, fromP, hx]; repeat' split <;> try omega
  | 3, _ => simp [hw, en, fromP]; omega
theorem wn_right {S : List Sd} (x y : Int) (hx : ∀ s ∈ S, s.1 ≤ x) : wn S x y = 0 := sm_zero fun s hs => by
  have := hx s hs
  unfold hw
  rw [if_neg (by omega), if_neg (by omega)]
end Go.Proofs.Ytljfiefobnncaab.Qm

/- The winding numbers of one cycle: on its left one number, on its right one less; they never change their sign. Nothing of the program stands here. -/
namespace Go.Proofs.Ytljfiefobnncaab.Qm

/-- The sides of a cycle. -/
def cyS (f : Sd → Sd) (c : Sd × Nat) : List Sd := (List.range c.2).map fun i => it f i c.1
theorem mem_cyS {f : Sd → Sd} {c : Sd × Nat} {t : Sd} : t ∈ cyS f c ↔ ∃ i, i < c.2 ∧ t = it f i c.1 := by
  simp only [cyS, List.mem_map, List.mem_range]
  exact ⟨fun ⟨i, h, e⟩ => ⟨i, h, e.symm⟩, fun ⟨i, h, e⟩ => ⟨i, h, e.symm⟩⟩

theorem sm_range (f : Sd → Sd) (s : Sd) (g : Sd → Int) (n : Nat) : sm ((List.range (n + 1)).map fun i => it f i s) g = sm ((List.range n).map fun i => it f i s) g + g (it f n s) := by
  rw [List.range_succ, List.map_append, sm_app]; simp [sm]
theorem sm_tele {bl jn : Int → Int → Bool} (s : Sd) (φ : Int × Int → Int) (n : Nat) : sm ((List.range n).map fun i => it (nx bl jn) i s) (fun s => φ (en s) - φ (fromP s)) = φ (fromP (it (nx bl jn) n s)) - φ (fromP s) := by
  induction n with
  | zero => simp [sm, it]
  | succ n ih =>
    rw [sm_range, ih]
    have : fromP (it (nx bl jn) (n + 1) s) = en (it (nx bl jn) n s) := rfl
    rw [this]; omega

section
variable {bl jn : Int → Int → Bool} {c : Sd × Nat}

theorem Cyc.closed (h : Cyc (nx bl jn) (fun s => isS bl s = true) c.1 c.2) : Closed (cyS (nx bl jn) c) := fun φ => by
  unfold cyS
  rw [sm_tele, h.2.2.1]; omega
theorem Cyc.nodup (h : Cyc (nx bl jn) (fun s => isS bl s = true) c.1 c.2) : (cyS (nx bl jn) c).Nodup := by
  unfold cyS
  rw [List.Nodup, List.pairwise_map]
  refine List.Pairwise.imp_of_mem ?_ List.pairwise_lt_range
  intro i j _ hj hij
  exact h.2.2.2 i j hij (List.mem_range.1 hj)
theorem it_isS {s : Sd} (h : isS bl s = true) (n : Nat) : isS bl (it (nx bl jn) n s) = true := by
  induction n with
  | zero => exact h
  | succ n ih => exact nx_isS ih
theorem Cyc.sides (h : Cyc (nx bl jn) (fun s => isS bl s = true) c.1 c.2) : ∀ s ∈ cyS (nx bl jn) c, isS bl s = true := fun s hs => by
  obtain ⟨i, _, rfl⟩ := mem_cyS.1 hs
  exact it_isS h.1 i
theorem Cyc.mem (h : Cyc (nx bl jn) (fun s => isS bl s = true) c.1 c.2) (i : Nat) : it (nx bl jn) i c.1 ∈ cyS (nx bl jn) c :=
  mem_cyS.2 ⟨i % c.2, Nat.mod_lt _ h.2.1, h.mod i⟩

/-- On the left of a side of the list, one more than on its right. -/
theorem wn_side {S : List Sd} (hS : Closed S) (hn : S.Nodup) (hs : ∀ s ∈ S, isS bl s = true) {x y : Int} {d : Nat} (h : (x, y, d) ∈ S) : wn S (lpx x d) (lpy y d) = wn S (rpx x d) (rpy y d) + 1 := by
  have h0 := hs _ h
  have h4 := isS_lt h0
  have c1 := ct_yes hn h
  have no : ∀ t : Sd, isS bl t = false → ct S t = 0 := fun t ht => ct_no fun hm => by rw [hs t hm] at ht; simp at ht
  have hd : ∀ s ∈ S, s.2.2 < 4 := fun s hm => isS_lt (hs s hm)
  simp only at h4
  match d, h4 with
  | 0, _ =>
    have a := wn_x S x y
    have b := no (x, y + 1, 2) (by simp [isS, outQ] at h0 ⊢; simp [h0])
    simp only [lpx, lpy, rpx, rpy]; simp
    omega
  | 1, _ =>
    have a := wn_y hS hd x y
    have b := no (x + 1, y, 3) (by simp [isS, outQ] at h0 ⊢; simp [h0])
    simp only [lpx, lpy, rpx, rpy]; simp
    omega
  | 2, _ =>
    have a := wn_x S x (y - 1)
    rw [show y - 1 + 1 = y from by omega] at a
    have b := no (x, y - 1, 0) (by simp [isS, outQ] at h0 ⊢; simp [h0])
    simp only [lpx, lpy, rpx, rpy]; simp
    omega
  | 3, _ =>
    have a := wn_y hS hd (x - 1) y
    rw [show x - 1 + 1 = x from by omega] at a
    have b := no (x - 1, y, 1) (by simp [isS, outQ] at h0 ⊢; simp [h0])
    simp only [lpx, lpy, rpx, rpy]; simp
    omega

/-- Where two pixels side by side are of one colour, no side parts them. -/
theorem wn_same_x {S : List Sd} (hs : ∀ s ∈ S, isS bl s = true) {x y : Int} (h : bl (x - 1) y = bl x y) : wn S (x - 1) y = wn S x y := by
  have no : ∀ t : Sd, isS bl t = false → ct S t = 0 := fun t ht => ct_no fun hm => by rw [hs t hm] at ht; simp at ht
  have a := wn_x S x y
  have b := no (x, y + 1, 2) (by simp [isS, outQ, h])
  have d := no (x, y, 0) (by simp [isS, outQ, h])
  omega
theorem wn_same_y {S : List Sd} (hS : Closed S) (hs : ∀ s ∈ S, isS bl s = true) {x y : Int} (h : bl x (y - 1) = bl x y) : wn S x (y - 1) = wn S x y := by
  have no : ∀ t : Sd, isS bl t = false → ct S t = 0 := fun t ht => ct_no fun hm => by rw [hs t hm] at ht; simp at ht
  have a := wn_y hS (fun s hm => isS_lt (hs s hm)) x y
  have b := no (x, y, 1) (by simp [isS, outQ, h])
  have d := no (x + 1, y, 3) (by simp [isS, outQ, h])
  omega
end
end Go.Proofs.Ytljfiefobnncaab.Qm

/- One cycle's winding numbers have one sign; its Twice is twice their sum. Nothing of the program stands here. -/
namespace Go.Proofs.Ytljfiefobnncaab.Qm

theorem next_turn : ∀ (j nw ne se sw : Bool) (d : Fin 4), inQ nw ne se sw d = true → nextD j nw ne se sw d = d.val ∨ nextD j nw ne se sw d = (d.val + 1) % 4 ∨ nextD j nw ne se sw d = (d.val + 3) % 4 := by decide

/-- The number on the left of a side. -/
def lw (S : List Sd) (s : Sd) : Int := wn S (lpx s.1 s.2.2) (lpy s.2.1 s.2.2)
def rw' (S : List Sd) (s : Sd) : Int := wn S (rpx s.1 s.2.2) (rpy s.2.1 s.2.2)

section
variable {bl jn : Int → Int → Bool} {c : Sd × Nat}

theorem lw_next {S : List Sd} (hS : Closed S) (hn : S.Nodup) (hs : ∀ s ∈ S, isS bl s = true) {s : Sd} (h : s ∈ S) (h' : nx bl jn s ∈ S) : lw S (nx bl jn s) = lw S s := by
  have i0 := hs _ h
  have i1 := hs _ h'
  have d4 := isS_lt i0
  have w0 := wn_side hS hn hs (x := s.1) (y := s.2.1) (d := s.2.2) h
  have w1 := wn_side hS hn hs (x := (nx bl jn s).1) (y := (nx bl jn s).2.1) (d := (nx bl jn s).2.2) h'
  have tn : (nx bl jn s).2.2 = s.2.2 ∨ (nx bl jn s).2.2 = (s.2.2 + 1) % 4 ∨ (nx bl jn s).2.2 = (s.2.2 + 3) % 4 := by
    have := i0
    rw [isS_in] at this
    exact next_turn _ _ _ _ _ ⟨s.2.2, d4⟩ this
  have e1 : (nx bl jn s).1 = (en s).1 := rfl
  have e2 : (nx bl jn s).2.1 = (en s).2 := rfl
  unfold lw
  obtain ⟨t, et⟩ : ∃ t, nx bl jn s = t := ⟨_, rfl⟩
  rw [et] at i1 w1 tn e1 e2 ⊢
  clear h' et
  obtain ⟨x', y', d'⟩ := t
  obtain ⟨x, y, d⟩ := s
  simp only at e1 e2 tn w0 w1 d4 ⊢
  subst e1 e2
  match d, d4 with
  | 0, _ =>
    rcases tn with rfl | rfl | rfl
    · simp [isS, outQ, en] at i0 i1
      have := wn_same_y hS hs (x := x) (y := y + 1) (by rw [i1.1]; simpa using i0.1)
      simp [lpx, lpy, en] at this ⊢; exact this.symm
    · simp [lpx, lpy, en]
    · simp [lpx, lpy, rpx, rpy, en] at w0 w1 ⊢; omega
  | 1, _ =>
    rcases tn with rfl | rfl | rfl
    · simp [isS, outQ, en] at i0 i1
      have := wn_same_x (S := S) hs (x := x + 1) (y := y - 1) (by rw [i1.1]; simpa using i0.1)
      simp [lpx, lpy, en] at this ⊢; exact this.symm
    · simp [lpx, lpy, en]
    · simp [lpx, lpy, rpx, rpy, en] at w0 w1 ⊢; omega
  | 2, _ =>
    rcases tn with rfl | rfl | rfl
    · simp [isS, outQ, en] at i0 i1
      have := wn_same_y hS hs (x := x - 1) (y := y - 1) (by rw [i0.1]; simpa using i1.1)
      simp [lpx, lpy, en] at this ⊢; exact this
    · simp [lpx, lpy, en]
    · simp [lpx, lpy, rpx, rpy, en] at w0 w1 ⊢; omega
  | 3, _ =>
    rcases tn with rfl | rfl | rfl
    · simp [isS, outQ, en] at i0 i1
      have := wn_same_x (S := S) hs (x := x - 1) (y := y) (by rw [i0.1]; simpa using i1.1)
      simp [lpx, lpy, en] at this ⊢; exact this
    · simp [lpx, lpy, en]
    · simp [lpx, lpy, rpx, rpy, en] at w0 w1 ⊢; omega

theorem Cyc.lw_all (h : Cyc (nx bl jn) (fun s => isS bl s = true) c.1 c.2) {s : Sd} (hs : s ∈ cyS (nx bl jn) c) : lw (cyS (nx bl jn) c) s = lw (cyS (nx bl jn) c) c.1 := by
  have key : ∀ i, lw (cyS (nx bl jn) c) (it (nx bl jn) i c.1) = lw (cyS (nx bl jn) c) c.1 := by
    intro i
    induction i with
    | zero => rfl
    | succ i ih => exact (lw_next h.closed h.nodup h.sides (h.mem i) (h.mem (i + 1))).trans ih
  obtain ⟨i, _, rfl⟩ := mem_cyS.1 hs
  exact key i

/-- All winding numbers of a cycle are 0 or one and the same sign. -/
theorem Cyc.sign (h : Cyc (nx bl jn) (fun s => isS bl s = true) c.1 c.2) {W H : Int} (hp : Pic bl W H) :
    (lw (cyS (nx bl jn) c) c.1 = 0 ∨ lw (cyS (nx bl jn) c) c.1 = 1) ∧ ∀ x y, wn (cyS (nx bl jn) c) x y = 0 ∨ wn (cyS (nx bl jn) c) x y = 2 * lw (cyS (nx bl jn) c) c.1 - 1 := by
  have hS := h.closed
  have hn := h.nodup
  have hs := h.sides
  have hl : ∀ {x y : Int} {d : Nat}, (x, y, d) ∈ cyS (nx bl jn) c → wn (cyS (nx bl jn) c) (lpx x d) (lpy y d) = lw (cyS (nx bl jn) c) c.1 ∧ wn (cyS (nx bl jn) c) (rpx x d) (rpy y d) = lw (cyS (nx bl jn) c) c.1 - 1 := fun {x y d} hm => by
    have a := h.lw_all hm
    have b := wn_side hS hn hs hm
    unfold lw at a
    simp only at a
    unfold lw
    omega
  have h0 := h.mem 0
  have hd : ∀ s ∈ cyS (nx bl jn) c, s.2.2 < 4 := fun s hm => isS_lt (hs s hm)
  have hlow : ∀ s ∈ cyS (nx bl jn) c, 0 ≤ s.1 := fun s hm => (side_in hp (hs s hm)).1
  obtain ⟨S, eS⟩ : ∃ S, cyS (nx bl jn) c = S := ⟨_, rfl⟩
  rw [eS] at hS hn hs h0 hd hlow hl ⊢
  obtain ⟨k, ek⟩ : ∃ k, lw S c.1 = k := ⟨_, rfl⟩
  rw [ek] at hl ⊢
  have vals : ∀ (y : Int) (n : Nat), wn S ((n : Int) - 1) y = 0 ∨ ((k = 0 ∨ k = 1) ∧ (wn S ((n : Int) - 1) y = k ∨ wn S ((n : Int) - 1) y = k - 1)) := by
    intro y n
    induction n with
    | zero => exact .inl (wn_left hS hd _ y fun s hm => by have := hlow s hm; simp; omega)
    | succ n ih =>
      have e : ((n + 1 : Nat) : Int) - 1 = n := by omega
      rw [e]
      by_cases u : ((n : Int), y + 1, 2) ∈ S
      · have := hl u
        simp [lpx, lpy, rpx, rpy] at this
        omega
      · by_cases v : ((n : Int), y, 0) ∈ S
        · have := hl v
          simp [lpx, lpy, rpx, rpy] at this
          omega
        · have := wn_x S n y
          rw [ct_no u, ct_no v] at this
          omega
  have all : ∀ x y : Int, wn S x y = 0 ∨ ((k = 0 ∨ k = 1) ∧ (wn S x y = k ∨ wn S x y = k - 1)) := by
    intro x y
    by_cases hx : x < 0
    · exact .inl (wn_left hS hd x y fun s hm => by have := hlow s hm; omega)
    · have := vals y (x + 1).toNat
      rwa [show (((x + 1).toNat : Nat) : Int) - 1 = x from by omega] at this
  have hk : k = 0 ∨ k = 1 := by
    have a := hl (x := c.1.1) (y := c.1.2.1) (d := c.1.2.2) h0
    have b1 := all (lpx c.1.1 c.1.2.2) (lpy c.1.2.1 c.1.2.2)
    have b2 := all (rpx c.1.1 c.1.2.2) (rpy c.1.2.1 c.1.2.2)
    omega
  refine ⟨hk, fun x y => ?_⟩
  have := all x y
  omega
end

/-- A sum over the first n numbers. -/
def sN (n : Nat) (g : Nat → Int) : Int := match n with
  | 0 => 0
  | n + 1 => sN n g + g n
theorem sN_congr {n : Nat} {g h : Nat → Int} (e : ∀ i, i < n → g i = h i) : sN n g = sN n h := by
  induction n with
  | zero => rfl
  | succ n ih => simp only [sN]; rw [ih fun i hi => e i (by omega), e n (by omega)]
theorem sN_add (n : Nat) (g h : Nat → Int) : sN n (fun i => g i + h i) = sN n g + sN n h := by
  induction n with
  | zero => rfl
  | succ n ih => simp only [sN, ih]; omega
theorem sN_zero (n : Nat) : sN n (fun _ => 0) = 0 := by
  induction n with
  | zero => rfl
  | succ n ih => simp only [sN, ih]; rfl
/-- A sum over a box of pixels. -/
def bx (W H : Nat) (g : Int → Int → Int) : Int := sN H fun y => sN W fun x => g x y
theorem bx_add (W H : Nat) (g h : Int → Int → Int) : bx W H (fun x y => g x y + h x y) = bx W H g + bx W H h := by
  unfold bx; rw [← sN_add]; exact sN_congr fun y _ => sN_add W _ _
theorem bx_zero (W H : Nat) : bx W H (fun _ _ => 0) = 0 := by
  unfold bx; exact (sN_congr fun y _ => sN_zero W).trans (sN_zero H)
theorem bx_congr {W H : Nat} {g h : Int → Int → Int} (e : ∀ x y : Int, g x y = h x y) : bx W H g = bx W H h := by
  unfold bx; exact sN_congr fun y _ => sN_congr fun x _ => e _ _
theorem bx_sm (W H : Nat) (S : List Sd) (g : Int → Int → Sd → Int) : bx W H (fun x y => sm S (g x y)) = sm S (fun s => bx W H (fun x y => g x y s)) := by
  induction S with
  | nil => exact bx_zero W H
  | cons s S ih => rw [sm_cons, ← ih, ← bx_add]; exact bx_congr fun x y => sm_cons _ _ _
theorem sN_lt (n : Nat) (a v : Int) : sN n (fun x => if (x : Int) < a then v else 0) = v * (if a < 0 then 0 else if a ≤ n then a else n) := by
  induction n with
  | zero =>
    simp only [sN]
    by_cases h1 : a < 0
    · rw [if_pos h1]; simp
    · by_cases h2 : a ≤ ((0 : Nat) : Int)
      · rw [if_neg h1, if_pos h2, show a = 0 from by omega]; simp
      · rw [if_neg h1, if_neg h2]; simp
  | succ n ih =>
    simp only [sN, ih]
    by_cases h1 : a < 0
    · rw [if_pos h1, if_neg (by omega), if_pos h1]; omega
    · by_cases h2 : a ≤ n
      · rw [if_neg h1, if_pos h2, if_neg (by omega), if_neg h1, if_pos (by omega)]; omega
      · rw [if_neg h1, if_neg h2, if_pos (by omega), if_neg h1]
        by_cases h3 : a ≤ ((n + 1 : Nat) : Int)
        · rw [if_pos h3, show a = (n : Int) + 1 from by omega, Int.mul_add]; omega
        · rw [if_neg h3, show ((n + 1 : Nat) : Int) = (n : Int) + 1 from by omega, Int.mul_add]; omega
theorem sN_eq (n : Nat) (a : Int) (v : Int) : sN n (fun y => if a = (y : Int) then v else 0) = if 0 ≤ a ∧ a < n then v else 0 := by
  induction n with
  | zero => simp only [sN]; rw [if_neg (by omega)]
  | succ n ih =>
    simp only [sN, ih]
    repeat' split <;> try omega
end Go.Proofs.Ytljfiefobnncaab.Qm
