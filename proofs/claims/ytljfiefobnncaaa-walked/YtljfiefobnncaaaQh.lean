/- Winding numbers of a list of sides. Nothing of the program stands here. -/
import Derived.Test.YtljfiefobnncaaaQe
namespace Go.Proofs.Ytljfiefobnncaaa.Qm

/-- What is summed over a list of sides. -/
def sm (S : List Sd) (g : Sd → Int) : Int := (S.map g).sum
theorem sm_nil (g : Sd → Int) : sm [] g = 0 := rfl
theorem sm_cons (s : Sd) (S : List Sd) (g : Sd → Int) : sm (s :: S) g = g s + sm S g := by simp [sm]
theorem sm_app (S T : List Sd) (g : Sd → Int) : sm (S ++ T) g = sm S g + sm T g := by simp [sm, List.sum_append]
theorem sm_congr {S : List Sd} {g h : Sd → Int} (e : ∀ s ∈ S, g s = h s) : sm S g = sm S h := by
  unfold sm; rw [List.map_congr_left e]
theorem sm_add (S : List Sd) (g h : Sd → Int) : sm S (fun s => g s + h s) = sm S g + sm S h := by
  induction S with
  | nil => rfl
  | cons s S ih => simp only [sm_cons, ih]; omega
theorem sm_sub (S : List Sd) (g h : Sd → Int) : sm S (fun s => g s - h s) = sm S g - sm S h := by
  induction S with
  | nil => rfl
  | cons s S ih => simp only [sm_cons, ih]; omega
theorem sm_zero {S : List Sd} {g : Sd → Int} (e : ∀ s ∈ S, g s = 0) : sm S g = 0 := by
  induction S with
  | nil => rfl
  | cons s S ih => rw [sm_cons, e s (by simp), ih (fun t ht => e t (by simp [ht]))]; rfl

/-- How often a side stands in a list. -/
def ct (S : List Sd) (t : Sd) : Int := sm S (fun s => if s = t then 1 else 0)
theorem ct_no {S : List Sd} {t : Sd} (h : t ∉ S) : ct S t = 0 := sm_zero fun s hs => by
  rw [if_neg]; rintro rfl; exact h hs
theorem ct_yes {S : List Sd} {t : Sd} (hn : S.Nodup) (h : t ∈ S) : ct S t = 1 := by
  induction S with
  | nil => simp at h
  | cons s S ih =>
    have hn' := List.nodup_cons.1 hn
    show sm (s :: S) _ = 1
    rw [sm_cons]
    by_cases e : s = t
    · subst e
      have := ct_no hn'.1
      unfold ct at this
      rw [if_pos rfl, this]; rfl
    · rw [if_neg e]
      have := ih hn'.2 (by rcases List.mem_cons.1 h with h | h; exact absurd h.symm e; exact h)
      unfold ct at this
      rw [this]; rfl

/-- What one side adds to the winding number at the middle of pixel (x, y). -/
def hw (x y : Int) (s : Sd) : Int :=
  if s.2.2 = 2 ∧ s.2.1 = y + 1 ∧ x < s.1 then 1 else if s.2.2 = 0 ∧ s.2.1 = y ∧ x < s.1 then -1 else 0
def wn (S : List Sd) (x y : Int) : Int := sm S (hw x y)

theorem wn_x (S : List Sd) (x y : Int) : wn S (x - 1) y - wn S x y = ct S (x, y + 1, 2) - ct S (x, y, 0) := by
  unfold wn ct
  rw [← sm_sub, ← sm_sub]
  refine sm_congr fun s _ => ?_
  obtain ⟨a, b, d⟩ := s
  simp only [hw, Prod.mk.injEq]
  by_cases h2 : d = 2
  · subst h2; simp; split <;> split <;> (try split) <;> omega
  · by_cases h0 : d = 0
    · subst h0; simp; split <;> split <;> (try split) <;> omega
    · simp [h2, h0]

/-- It comes back to where it began. -/
def Closed (S : List Sd) : Prop := ∀ φ : Int × Int → Int, sm S (fun s => φ (en s) - φ (fromP s)) = 0
theorem Closed.nil : Closed [] := fun _ => rfl
theorem Closed.app {S T : List Sd} (h : Closed S) (k : Closed T) : Closed (S ++ T) := fun φ => by rw [sm_app, h φ, k φ]; rfl

theorem wn_y {S : List Sd} (hS : Closed S) (hd : ∀ s ∈ S, s.2.2 < 4) (x y : Int) : wn S x (y - 1) - wn S x y = ct S (x, y, 1) - ct S (x + 1, y, 3) := by
  have h := hS (fun p => if p.2 = y ∧ x < p.1 then 1 else 0)
  have e : sm S (fun s => (hw x (y - 1) s - hw x y s) - ((if s = (x, y, 1) then (1 : Int) else 0) - (if s = (x + 1, y, 3) then 1 else 0))) = sm S (fun s => 0 - ((fun p : Int × Int => if p.2 = y ∧ x < p.1 then (1 : Int) else 0) (en s) - (fun p : Int × Int => if p.2 = y ∧ x < p.1 then (1 : Int) else 0) (fromP s))) := by
    refine sm_congr fun s hs => ?_
    have h4 := hd s hs
    obtain ⟨a, b, d⟩ := s
    match d, h4 with
    | 0, _ => simp [hw, en, fromP]; repeat' split <;> try omega
    | 1, _ => simp [hw, en, fromP]; repeat' split <;> try omega
    | 2, _ => simp [hw, en, fromP]; repeat' split <;> try omega
    | 3, _ => simp [hw, en, fromP]; repeat' split <;> try omega
  rw [sm_sub, sm_sub, sm_sub, sm_sub (g := fun _ => (0 : Int)), h, sm_zero (fun _ _ => rfl)] at e
  unfold wn ct
  omega

theorem wn_left {S : List Sd} (hS : Closed S) (hd : ∀ s ∈ S, s.2.2 < 4) (x y : Int) (hx : ∀ s ∈ S, x < s.1) : wn S x y = 0 := by
  have h := hS (fun p => if p.2 ≤ y then 1 else 0)
  rw [← h]
  refine sm_congr fun s hs => ?_
  have h4 := hd s hs
  have hx := hx s hs
  obtain ⟨a, b, d⟩ := s
  simp only at hx
  match d, h4 with
  | 0, _ => simp [hw, en, fromP, hx]; repeat' split <;> try omega
  | 1, _ => simp [hw, en, fromP]; omega
  | 2, _ => simp [hw, en, fromP, hx]; repeat' split <;> try omega
  | 3, _ => simp [hw, en, fromP]; omega
theorem wn_right {S : List Sd} (x y : Int) (hx : ∀ s ∈ S, s.1 ≤ x) : wn S x y = 0 := sm_zero fun s hs => by
  have := hx s hs
  unfold hw
  rw [if_neg (by omega), if_neg (by omega)]
end Go.Proofs.Ytljfiefobnncaaa.Qm
