/- Sides of black and white, and the one that comes behind each. Nothing of the program stands here. -/
import Derived.Test.YtljfiefobnncaaaDoorK01
namespace Go.Proofs.YtljfiefobnncaaaDoor.Qm

/-- A side: where it begins, and which way it goes (0 down, 1 to the right, 2 up, 3 to the left). -/
abbrev Sd : Type := Int × Int × Nat

/-- With the four pixels around a point: does a side begin there, that way? -/
def outQ (nw ne se sw : Bool) : Nat → Bool
  | 0 => se && !sw
  | 1 => ne && !se
  | 2 => nw && !ne
  | 3 => sw && !nw
  | _ => false
/-- Does one end there? -/
def inQ (nw ne se sw : Bool) : Nat → Bool
  | 0 => ne && !nw
  | 1 => nw && !sw
  | 2 => sw && !se
  | 3 => se && !ne
  | _ => false
/-- Which way one goes on. -/
def nextD (j nw ne se sw : Bool) (d : Nat) : Nat :=
  if outQ nw ne se sw (if j then (d + 3) % 4 else (d + 1) % 4) then (if j then (d + 3) % 4 else (d + 1) % 4)
  else if outQ nw ne se sw d then d else (if j then (d + 1) % 4 else (d + 3) % 4)

theorem next_out : ∀ (j nw ne se sw : Bool) (d : Fin 4), inQ nw ne se sw d = true → outQ nw ne se sw (nextD j nw ne se sw d) = true := by decide
theorem next_inj : ∀ (j nw ne se sw : Bool) (d e : Fin 4), inQ nw ne se sw d = true → inQ nw ne se sw e = true → nextD j nw ne se sw d = nextD j nw ne se sw e → d = e := by decide
theorem next_lt : ∀ (j nw ne se sw : Bool) (d : Fin 4), nextD j nw ne se sw d < 4 := by decide
theorem next_no_back : ∀ (j nw ne se sw : Bool) (d : Fin 4), inQ nw ne se sw d = true → nextD j nw ne se sw d ≠ (d.val + 2) % 4 := by decide
theorem outQ_lt {nw ne se sw : Bool} {d : Nat} (h : outQ nw ne se sw d = true) : d < 4 := by
  match d, h with
  | 0, _ => omega
  | 1, _ => omega
  | 2, _ => omega
  | 3, _ => omega
  | d + 4, h => simp [outQ] at h

/-- Is it a side? -/
def isS (bl : Int → Int → Bool) (s : Sd) : Bool := outQ (bl (s.1 - 1) (s.2.1 - 1)) (bl s.1 (s.2.1 - 1)) (bl s.1 s.2.1) (bl (s.1 - 1) s.2.1) s.2.2
/-- Where it ends. -/
def en (s : Sd) : Int × Int :=
  match s.2.2 with
  | 0 => (s.1, s.2.1 + 1)
  | 1 => (s.1 + 1, s.2.1)
  | 2 => (s.1, s.2.1 - 1)
  | 3 => (s.1 - 1, s.2.1)
  | _ => (s.1, s.2.1)
def nxD (bl jn : Int → Int → Bool) (p : Int × Int) (d : Nat) : Nat := nextD (jn p.1 p.2) (bl (p.1 - 1) (p.2 - 1)) (bl p.1 (p.2 - 1)) (bl p.1 p.2) (bl (p.1 - 1) p.2) d
/-- The side behind it. -/
def nx (bl jn : Int → Int → Bool) (s : Sd) : Sd := ((en s).1, (en s).2, nxD bl jn (en s) s.2.2)
/-- Where it begins, as a number. -/
def key (s : Sd) : Int := 33 * s.2.1 + s.1

theorem isS_lt {bl : Int → Int → Bool} {s : Sd} (h : isS bl s = true) : s.2.2 < 4 := outQ_lt h
theorem isS_in (bl : Int → Int → Bool) (s : Sd) : isS bl s = inQ (bl ((en s).1 - 1) ((en s).2 - 1)) (bl (en s).1 ((en s).2 - 1)) (bl (en s).1 (en s).2) (bl ((en s).1 - 1) (en s).2) s.2.2 := by
  obtain ⟨x, y, d⟩ := s
  match d with
  | 0 => simp [isS, en, outQ, inQ]
  | 1 => simp [isS, en, outQ, inQ]
  | 2 => simp [isS, en, outQ, inQ]
  | 3 => simp [isS, en, outQ, inQ]
  | d + 4 => simp [isS, outQ, inQ]

theorem nx_isS {bl jn : Int → Int → Bool} {s : Sd} (h : isS bl s = true) : isS bl (nx bl jn s) = true := by
  have hd := isS_lt h
  rw [isS_in] at h
  exact next_out _ _ _ _ _ ⟨s.2.2, hd⟩ h

theorem nx_inj {bl jn : Int → Int → Bool} {s t : Sd} (hs : isS bl s = true) (ht : isS bl t = true) (e : nx bl jn s = nx bl jn t) : s = t := by
  have h1 := isS_lt hs
  have h2 := isS_lt ht
  have e1 : en s = en t := Prod.ext (congrArg (fun s : Sd => s.1) e) (congrArg (fun s : Sd => s.2.1) e)
  have e2 : nxD bl jn (en s) s.2.2 = nxD bl jn (en t) t.2.2 := congrArg (fun s : Sd => s.2.2) e
  rw [isS_in] at hs ht
  rw [← e1] at ht e2
  have e3 : s.2.2 = t.2.2 := by
    have := next_inj _ _ _ _ _ ⟨s.2.2, h1⟩ ⟨t.2.2, h2⟩ hs ht e2
    exact congrArg Fin.val this
  obtain ⟨x, y, d⟩ := s
  obtain ⟨x', y', d'⟩ := t
  simp only at e3
  subst e3
  have a := congrArg Prod.fst e1
  have b := congrArg Prod.snd e1
  match d, h1 with
  | 0, _ => simp [en] at a b; simp; omega
  | 1, _ => simp [en] at a b; simp; omega
  | 2, _ => simp [en] at a b; simp; omega
  | 3, _ => simp [en] at a b; simp; omega

/-- A picture: black within its bounds alone. -/
structure Pic (bl : Int → Int → Bool) (W H : Int) : Prop where
  box : ∀ x y, bl x y = true → 0 ≤ x ∧ x < W ∧ 0 ≤ y ∧ y < H
  w : W ≤ 32
  h : H ≤ 32

theorem side_in {bl : Int → Int → Bool} {W H : Int} (hp : Pic bl W H) {s : Sd} (h : isS bl s = true) : 0 ≤ s.1 ∧ s.1 ≤ W ∧ 0 ≤ s.2.1 ∧ s.2.1 ≤ H := by
  have hd := isS_lt h
  obtain ⟨x, y, d⟩ := s
  match d, hd with
  | 0, _ => simp [isS, outQ] at h; have := hp.box _ _ h.1; simp only; omega
  | 1, _ => simp [isS, outQ] at h; have := hp.box _ _ h.1; simp only; omega
  | 2, _ => simp [isS, outQ] at h; have := hp.box _ _ h.1; simp only; omega
  | 3, _ => simp [isS, outQ] at h; have := hp.box _ _ h.1; simp only; omega

theorem key_nx (bl jn : Int → Int → Bool) (s : Sd) (h : s.2.2 < 4) : key (nx bl jn s) = key s + (if s.2.2 = 0 then 33 else if s.2.2 = 1 then 1 else if s.2.2 = 2 then -33 else -1) := by
  obtain ⟨x, y, d⟩ := s
  match d, h with
  | 0, _ => simp [key, nx, en]; omega
  | 1, _ => simp [key, nx, en]; omega
  | 2, _ => simp [key, nx, en]; omega
  | 3, _ => simp [key, nx, en]; omega

theorem step {bl : Int → Int → Bool} {W H : Int} (hp : Pic bl W H) (jn : Int → Int → Bool) : Step (nx bl jn) (fun s => isS bl s = true) key where
  on _ h := nx_isS h
  inj _ _ hs ht e := nx_inj hs ht e
  ne s h := by have := isS_lt h; rw [key_nx _ _ _ this]; split <;> (try split) <;> (try split) <;> omega
  low s h := by have := side_in hp h; unfold key; omega
  one s t hs ht e us ut := by
    have a := side_in hp hs
    have b := side_in hp ht
    have w := hp.w
    have hs' := isS_lt hs
    have ht' := isS_lt ht
    rw [key_nx _ _ _ hs'] at us
    rw [key_nx _ _ _ ht'] at ut
    obtain ⟨x, y, d⟩ := s
    obtain ⟨x', y', d'⟩ := t
    simp only [key] at e a b us ut hs' ht'
    have e1 : x = x' := by omega
    have e2 : y = y' := by omega
    subst e1 e2
    have d1 : d = 0 ∨ d = 1 := by
      match d, hs' with
      | 0, _ => simp
      | 1, _ => simp
      | 2, _ => simp at us; omega
      | 3, _ => simp at us; omega
    have d2 : d' = 0 ∨ d' = 1 := by
      match d', ht' with
      | 0, _ => simp
      | 1, _ => simp
      | 2, _ => simp at ut; omega
      | 3, _ => simp at ut; omega
    rcases d1 with rfl | rfl <;> rcases d2 with rfl | rfl <;> simp [isS, outQ] at hs ht ⊢
    · rw [hs.1] at ht; exact absurd ht.2 (by simp)
    · rw [ht.1] at hs; exact absurd hs.2 (by simp)

/-- A number for a side, another for each. -/
def codeS (s : Sd) : Int := key s * 4 + s.2.2
theorem code_inj {bl : Int → Int → Bool} {W H : Int} (hp : Pic bl W H) {s t : Sd} (hs : isS bl s = true) (ht : isS bl t = true) (e : codeS s = codeS t) : s = t := by
  have a := side_in hp hs
  have b := side_in hp ht
  have w := hp.w
  have h1 := isS_lt hs
  have h2 := isS_lt ht
  obtain ⟨x, y, d⟩ := s
  obtain ⟨x', y', d'⟩ := t
  simp only [codeS, key] at e a b h1 h2
  have e1 : d = d' := by omega
  have e2 : x = x' := by omega
  have e3 : y = y' := by omega
  subst e1 e2 e3
  rfl
theorem code_in {bl : Int → Int → Bool} {W H : Int} (hp : Pic bl W H) {s : Sd} (hs : isS bl s = true) : 0 ≤ codeS s ∧ codeS s < 4356 := by
  have a := side_in hp hs
  have w := hp.w
  have h := hp.h
  have h1 := isS_lt hs
  simp only [codeS, key]; omega

/-- Where a side begins. -/
def fromP (s : Sd) : Int × Int := (s.1, s.2.1)
/-- The points of a cycle. -/
def ptsOf (f : Sd → Sd) (c : Sd × Nat) : List (Int × Int) := (List.range c.2).map fun i => fromP (it f i c.1)
def cross (p q : Int × Int) : Int := p.2 * q.1 - p.1 * q.2
/-- Twice the area, line by line. -/
def twiceOf (l : List (Int × Int)) : Int := ((List.range l.length).map fun i => cross (l.getD i (0, 0)) (l.getD ((i + 1) % l.length) (0, 0))).sum
/-- The shapes of the answer. -/
def shapesOf (f : Sd → Sd) (R : List (Sd × Nat)) : List (List (Int × Int) × Int) := R.map fun c => (ptsOf f c, twiceOf (ptsOf f c))

/-- The pixel on the left of a side, and the one on its right. -/
def lpx (x : Int) (d : Nat) : Int := if d = 3 ∨ (d + 1) % 4 = 3 then x - 1 else x
def lpy (y : Int) (d : Nat) : Int := if d = 2 ∨ (d + 1) % 4 = 2 then y - 1 else y
def rpx (x : Int) (d : Nat) : Int := if d = 3 ∨ (d + 3) % 4 = 3 then x - 1 else x
def rpy (y : Int) (d : Nat) : Int := if d = 2 ∨ (d + 3) % 4 = 2 then y - 1 else y
theorem isS_lr (bl : Int → Int → Bool) (x y : Int) (d : Nat) (hd : d < 4) : isS bl (x, y, d) = (bl (lpx x d) (lpy y d) && !bl (rpx x d) (rpy y d)) := by
  match d, hd with
  | 0, _ => rfl
  | 1, _ => rfl
  | 2, _ => rfl
  | 3, _ => rfl

end Go.Proofs.YtljfiefobnncaaaDoor.Qm
