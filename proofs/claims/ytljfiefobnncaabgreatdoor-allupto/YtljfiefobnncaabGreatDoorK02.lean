import Derived.WalkKit
import Derived.Test.YtljfiefobnncaabGreatDoorK01
import Derived.Handy
import Derived.Deep.QuietTactic
import Derived.BigQuiet
import Derived.Deep.RegionHeld3
import Derived.Deep.DrawnRows

/- Going round and round: a step that loses nothing, and what comes of walking on. Nothing of the program stands here. -/
namespace Go.Proofs.YtljfiefobnncaabGreatDoor.Qm

/-- n steps from s. -/
def it {α : Type} (f : α → α) : Nat → α → α
  | 0, s => s
  | n + 1, s => f (it f n s)

theorem it_add {α : Type} (f : α → α) (m n : Nat) (s : α) : it f (m + n) s = it f m (it f n s) := by
  induction m with
  | zero => simp [it]
  | succ m ih => rw [Nat.add_right_comm]; simp only [it, ih]

/-- What is asked of a step: it stays among the sides, no two sides lead to one; k numbers where a side begins. -/
structure Step {α : Type} (f : α → α) (P : α → Prop) (k : α → Int) : Prop where
  on : ∀ s, P s → P (f s)
  inj : ∀ s t, P s → P t → f s = f t → s = t
  one : ∀ s t, P s → P t → k s = k t → k s < k (f s) → k t < k (f t) → s = t
  ne : ∀ s, P s → k (f s) ≠ k s
  low : ∀ s, P s → 0 ≤ k s

section
variable {α : Type} {f : α → α} {P : α → Prop} {k : α → Int}

theorem Step.its (H : Step f P k) {s : α} (h : P s) (n : Nat) : P (it f n s) := by
  induction n with
  | zero => exact h
  | succ n ih => exact H.on _ ih

theorem Step.its_inj (H : Step f P k) {s t : α} (hs : P s) (ht : P t) (n : Nat) (h : it f n s = it f n t) : s = t := by
  induction n with
  | zero => exact h
  | succ n ih => exact ih (H.inj _ _ (H.its hs n) (H.its ht n) h)

/-- n steps from s lead back to s, and not sooner. -/
def Cyc (f : α → α) (P : α → Prop) (s : α) (n : Nat) : Prop :=
  P s ∧ 0 < n ∧ it f n s = s ∧ ∀ i j, i < j → j < n → it f i s ≠ it f j s

/-- .. and s begins ahead of all the others. -/
def Canon (f : α → α) (P : α → Prop) (k : α → Int) (c : α × Nat) : Prop :=
  Cyc f P c.1 c.2 ∧ ∀ i, 0 < i → i < c.2 → k c.1 < k (it f i c.1)

/-- t is on one of the cycles. -/
def Tk (f : α → α) (R : List (α × Nat)) (t : α) : Prop := ∃ c ∈ R, ∃ i, i < c.2 ∧ t = it f i c.1

theorem Cyc.mod {s : α} {n : Nat} (h : Cyc f P s n) (m : Nat) : it f m s = it f (m % n) s := by
  have key : ∀ q r, it f (q * n + r) s = it f r s := by
    intro q r
    induction q with
    | zero => simp
    | succ q ih =>
      rw [show (q + 1) * n + r = (q * n + r) + n from by rw [Nat.add_mul]; omega, it_add, h.2.2.1, ih]
  have := key (m / n) (m % n)
  rwa [show m / n * n + m % n = m from by rw [Nat.mul_comm]; exact Nat.div_add_mod m n] at this

/-- The period is one number. -/
theorem Cyc.per {s : α} {n m : Nat} (h : Cyc f P s n) (h' : Cyc f P s m) : n = m := by
  have a : ¬ n < m := fun hlt => h'.2.2.2 0 n h.2.1 hlt (by show s = _; exact h.2.2.1.symm)
  have b : ¬ m < n := fun hlt => h.2.2.2 0 m h'.2.1 hlt (by show s = _; exact h'.2.2.1.symm)
  omega

theorem Canon.least {c : α × Nat} (h : Canon f P k c) (m : Nat) : k c.1 ≤ k (it f m c.1) := by
  rw [h.1.mod m]
  rcases Nat.eq_zero_or_pos (m % c.2) with h0 | h0
  · rw [h0]; exact Int.le_refl _
  · exact Int.le_of_lt (h.2 _ h0 (Nat.mod_lt _ h.1.2.1))

/-- Two cycles that begin with their first points and share a side are one. -/
theorem Canon.same {c c' : α × Nat} (h : Canon f P k c) (h' : Canon f P k c') {i : Nat} (hi : i < c'.2) (e : c.1 = it f i c'.1) : c = c' := by
  rcases Nat.eq_zero_or_pos i with h0 | h0
  · subst h0
    have e1 : c.1 = c'.1 := e
    have := h.1
    rw [e1] at this
    exact Prod.ext e1 (this.per h'.1)
  · have lt := h'.2 i h0 hi
    rw [← e] at lt
    have back : it f (c'.2 - i) c.1 = c'.1 := by rw [e, ← it_add, show c'.2 - i + i = c'.2 from by omega]; exact h'.1.2.2.1
    have := h.least (c'.2 - i)
    rw [back] at this
    omega

/-- .. wherever they share it. -/
theorem Canon.share {c c' : α × Nat} (h : Canon f P k c) (h' : Canon f P k c') {i j : Nat} (hi : i < c.2) (e : it f i c.1 = it f j c'.1) : c = c' := by
  have e2 : c.1 = it f ((c.2 - i + j) % c'.2) c'.1 := by
    rw [← h'.1.mod, it_add, ← e, ← it_add, show c.2 - i + i = c.2 from by omega]; exact h.1.2.2.1.symm
  exact h.same h' (Nat.mod_lt _ h'.1.2.1) e2

/-- The whole answer: all cycles, each from its first point, by their first points. -/
def Res (f : α → α) (P : α → Prop) (k : α → Int) (R : List (α × Nat)) : Prop :=
  (∀ c ∈ R, Canon f P k c) ∧ R.Pairwise (fun a b => k a.1 < k b.1) ∧ ∀ t, P t → Tk f R t

theorem sorted_eq {β : Type} (g : β → Int) : ∀ (a b : List β), a.Pairwise (fun x y => g x < g y) → b.Pairwise (fun x y => g x < g y) → (∀ x, x ∈ a ↔ x ∈ b) → a = b
  | [], [], _, _, _ => rfl
  | [], y :: b, _, _, h => by have := (h y).2 (by simp); simp at this
  | x :: a, [], _, _, h => by have := (h x).1 (by simp); simp at this
  | x :: a, y :: b, ha, hb, h => by
    have ha' := List.pairwise_cons.1 ha
    have hb' := List.pairwise_cons.1 hb
    have hx : x ∈ y :: b := (h x).1 (by simp)
    have hy : y ∈ x :: a := (h y).2 (by simp)
    have e : x = y := by
      rcases List.mem_cons.1 hx with e | hx
      · exact e
      · rcases List.mem_cons.1 hy with e | hy
        · exact e.symm
        · have := ha'.1 _ hy; have := hb'.1 _ hx; omega
    subst e
    rw [sorted_eq g a b ha'.2 hb'.2 fun z => ?_]
    constructor
    · intro hz
      rcases List.mem_cons.1 ((h z).1 (List.mem_cons_of_mem _ hz)) with e | hz'
      · subst e; have := ha'.1 _ hz; omega
      · exact hz'
    · intro hz
      rcases List.mem_cons.1 ((h z).2 (List.mem_cons_of_mem _ hz)) with e | hz'
      · subst e; have := hb'.1 _ hz; omega
      · exact hz'

theorem Res.sub {R R' : List (α × Nat)} (h : Res f P k R) (h' : Res f P k R') {c : α × Nat} (hc : c ∈ R) : c ∈ R' := by
  obtain ⟨c', hc', i, hi, e⟩ := h'.2.2 c.1 (h.1 c hc).1.1
  rw [(h.1 c hc).same (h'.1 c' hc') hi e]
  exact hc'

/-- There is one answer. -/
theorem Res.unique {R R' : List (α × Nat)} (h : Res f P k R) (h' : Res f P k R') : R = R' :=
  sorted_eq (fun c => k c.1) R R' h.2.1 h'.2.1 fun _ => ⟨fun hc => h.sub h' hc, fun hc => h'.sub h hc⟩

/-! What was walked so far. -/

theorem Tk.fore {R : List (α × Nat)} {t : α} (hR : ∀ c ∈ R, Cyc f P c.1 c.2) (h : Tk f R t) : Tk f R (f t) := by
  obtain ⟨c, hc, i, hi, rfl⟩ := h
  refine ⟨c, hc, (i + 1) % c.2, Nat.mod_lt _ (hR c hc).2.1, ?_⟩
  rw [← (hR c hc).mod]; rfl

theorem Tk.back (H : Step f P k) {R : List (α × Nat)} {t : α} (hR : ∀ c ∈ R, Cyc f P c.1 c.2) (ht : P t) (h : Tk f R (f t)) : Tk f R t := by
  obtain ⟨c, hc, i, hi, e⟩ := h
  have hp := (hR c hc).1
  cases i with
  | zero =>
    obtain ⟨m, hm⟩ : ∃ m, c.2 = m + 1 := ⟨c.2 - 1, by omega⟩
    have e2 : c.1 = f (it f m c.1) := by have := (hR c hc).2.2.1; rw [hm] at this; exact this.symm
    exact ⟨c, hc, m, by omega, H.inj _ _ ht (H.its hp m) (e.trans e2)⟩
  | succ i => exact ⟨c, hc, i, by omega, H.inj _ _ ht (H.its hp i) e⟩

theorem Tk.backs (H : Step f P k) {R : List (α × Nat)} {t : α} (hR : ∀ c ∈ R, Cyc f P c.1 c.2) (ht : P t) (n : Nat) (h : Tk f R (it f n t)) : Tk f R t := by
  induction n with
  | zero => exact h
  | succ n ih => exact ih (h.back H hR (H.its ht n))

/-- A walk from s that has gone m steps over what was not taken: m sides, no two the same. -/
def Run (f : α → α) (s : α) (m : Nat) : Prop := ∀ i j, i < j → j < m → it f i s ≠ it f j s

theorem Run.zero (s : α) : Run f s 0 := fun _ _ _ h => absurd h (Nat.not_lt_zero _)
theorem Run.succ {s : α} {m : Nat} (h : Run f s m) (hn : ∀ i, i < m → it f i s ≠ it f m s) : Run f s (m + 1) := by
  intro i j hij hj
  rcases Nat.lt_or_ge j m with h1 | h1
  · exact h i j hij h1
  · obtain rfl : j = m := by omega
    exact hn i hij

/-- Where a walk comes upon what is taken, it is back on its first side. -/
theorem Run.done (H : Step f P k) {R : List (α × Nat)} {s : α} {m : Nat} (hR : ∀ c ∈ R, Cyc f P c.1 c.2) (hs : P s) (hn : ¬ Tk f R s) (hm : 0 < m) (h : Run f s m) (he : Tk f R (it f m s) ∨ ∃ i, i < m ∧ it f m s = it f i s) : Cyc f P s m := by
  rcases he with he | ⟨i, hi, e⟩
  · exact absurd (he.backs H hR hs m) hn
  · cases i with
    | zero => exact ⟨hs, hm, e, h⟩
    | succ i =>
      obtain ⟨q, rfl⟩ : ∃ q, m = q + 1 := ⟨m - 1, by omega⟩
      have := H.inj _ _ (H.its hs q) (H.its hs i) e
      exact absurd this.symm (h i q (by omega) (by omega))

theorem least_of (g : Nat → Int) : ∀ n, 0 < n → ∃ i, i < n ∧ ∀ j, j < n → g i ≤ g j
  | 0, h => absurd h (Nat.lt_irrefl _)
  | 1, _ => ⟨0, by omega, fun j hj => by obtain rfl : j = 0 := by omega
                                         exact Int.le_refl _⟩
  | n + 2, _ => by
    obtain ⟨i, hi, hl⟩ := least_of g (n + 1) (by omega)
    by_cases h : g i ≤ g (n + 1)
    · refine ⟨i, by omega, fun j hj => ?_⟩
      rcases Nat.lt_or_ge j (n + 1) with h1 | h1
      · exact hl j h1
      · obtain rfl : j = n + 1 := by omega
        exact h
    · refine ⟨n + 1, by omega, fun j hj => ?_⟩
      rcases Nat.lt_or_ge j (n + 1) with h1 | h1
      · have := hl j h1; omega
      · obtain rfl : j = n + 1 := by omega
        exact Int.le_refl _

/-- On a cycle there is one side that begins ahead of all the others. -/
theorem Cyc.first (H : Step f P k) {s : α} {n : Nat} (h : Cyc f P s n) {i : Nat} (_hi : i < n) (hl : ∀ j, j < n → k (it f i s) ≤ k (it f j s)) : k (it f i s) < k (f (it f i s)) ∧ ∀ j, j < n → j ≠ i → k (it f i s) < k (it f j s) := by
  have hl' : ∀ m, k (it f i s) ≤ k (it f m s) := fun m => by rw [h.mod m]; exact hl _ (Nat.mod_lt _ h.2.1)
  have up : ∀ m, k (it f i s) = k (it f m s) → k (it f m s) < k (f (it f m s)) := fun m e => by
    have a := hl' (m + 1)
    have b := H.ne _ (H.its h.1 m)
    simp only [it] at a
    omega
  refine ⟨up i rfl, fun j hj hne => ?_⟩
  have a := hl j hj
  by_cases e : k (it f i s) = k (it f j s)
  · have := H.one _ _ (H.its h.1 i) (H.its h.1 j) e (up i rfl) (up j e)
    rcases Nat.lt_or_ge i j with h1 | h1
    · exact absurd this (h.2.2.2 i j h1 hj)
    · exact absurd this.symm (h.2.2.2 j i (by omega) _hi)
  · omega

/-- A walk from a side that leads onward, when all such sides ahead of it are taken: from the cycle's first point. -/
theorem Cyc.canon (H : Step f P k) {R : List (α × Nat)} {s : α} {n : Nat} (hR : ∀ c ∈ R, Cyc f P c.1 c.2) (h : Cyc f P s n) (hn : ¬ Tk f R s) (hb : ∀ t, P t → k t < k s → k t < k (f t) → Tk f R t) : Canon f P k (s, n) := by
  obtain ⟨i, hi, hl⟩ := least_of (fun i => k (it f i s)) n h.2.1
  have hf := h.first H hi hl
  have i0 : i = 0 := by
    rcases Nat.eq_zero_or_pos i with e | e
    · exact e
    · have lt := hf.2 0 h.2.1 (by omega)
      exact absurd ((hb _ (H.its h.1 i) lt hf.1).backs H hR h.1 i) hn
  subst i0
  exact ⟨h, fun j h0 hj => hf.2 j hj (by omega)⟩

/-- When all sides that lead onward are taken, all are. -/
theorem all_taken (H : Step f P k) {R : List (α × Nat)} (hR : ∀ c ∈ R, Cyc f P c.1 c.2) (hb : ∀ t, P t → k t < k (f t) → Tk f R t) (t : α) (ht : P t) : Tk f R t := by
  have key : ∀ (m : Nat) (t : α), P t → k t < m → Tk f R t := by
    intro m
    induction m with
    | zero => intro t ht hlt; have := H.low t ht; omega
    | succ m ih =>
      intro t ht hlt
      by_cases h : k t < k (f t)
      · exact hb t ht h
      · have := H.ne t ht
        exact (ih (f t) (H.on t ht) (by omega)).back H hR ht
  exact key (k t).toNat.succ t ht (by have := H.low t ht; omega)

/-- A cycle, begun with another of its sides. -/
theorem Cyc.turn (H : Step f P k) {s : α} {n : Nat} (h : Cyc f P s n) (i : Nat) : Cyc f P (it f i s) n := by
  refine ⟨H.its h.1 i, h.2.1, ?_, fun a b hab hb e => ?_⟩
  · rw [← it_add, Nat.add_comm, it_add, h.2.2.1]
  · rw [← it_add, ← it_add, Nat.add_comm a, Nat.add_comm b, it_add, it_add] at e
    exact h.2.2.2 a b hab hb (H.its_inj (H.its h.1 a) (H.its h.1 b) i e)

theorem Cyc.canon_turn (H : Step f P k) {s : α} {n : Nat} (h : Cyc f P s n) {i : Nat} (hi : i < n) (hl : ∀ j, j < n → k (it f i s) ≤ k (it f j s)) : Canon f P k (it f i s, n) := by
  refine ⟨h.turn H i, fun j h0 hj => ?_⟩
  show k (it f i s) < k (it f j (it f i s))
  rw [← it_add, h.mod (j + i)]
  refine (h.first H hi hl).2 _ (Nat.mod_lt _ h.2.1) fun e => ?_
  have e2 : it f (j + i) s = it f i s := by rw [h.mod (j + i), e]
  rw [it_add] at e2
  exact (h.turn H i).2.2.2 0 j h0 hj e2.symm

end
end Go.Proofs.YtljfiefobnncaabGreatDoor.Qm

/- Sides of black and white, and the one that comes behind each. Nothing of the program stands here. -/
namespace Go.Proofs.YtljfiefobnncaabGreatDoor.Qm

/-- A side: where it begins, and which way it goes (0 down, 1 to the right, 2 up, 3 to the left). -/
abbrev Sd : Type := Int × Int × Nat

/-- With the four pixels around a point: does a side begin there, that way? -/
def outQ (nw ne se sw : Bool) : Nat → Bool
  | 0 => se && !sw
  | 1 => ne && !se
  | 2 => nw && !ne
  | 3 => sw && !nw
  | _ => false
/-- Does one end there? -/
def inQ (nw ne se sw : Bool) : Nat → Bool
  | 0 => ne && !nw
  | 1 => nw && !sw
  | 2 => sw && !se
  | 3 => se && !ne
  | _ => false
/-- Which way one goes on. -/
def nextD (j nw ne se sw : Bool) (d : Nat) : Nat :=
  if outQ nw ne se sw (if j then (d + 3) % 4 else (d + 1) % 4) then (if j then (d + 3) % 4 else (d + 1) % 4)
  else if outQ nw ne se sw d then d else (if j then (d + 1) % 4 else (d + 3) % 4)

theorem next_out : ∀ (j nw ne se sw : Bool) (d : Fin 4), inQ nw ne se sw d = true → outQ nw ne se sw (nextD j nw ne se sw d) = true := by decide
theorem next_inj : ∀ (j nw ne se sw : Bool) (d e : Fin 4), inQ nw ne se sw d = true → inQ nw ne se sw e = true → nextD j nw ne se sw d = nextD j nw ne se sw e → d = e := by decide
theorem next_lt : ∀ (j nw ne se sw : Bool) (d : Fin 4), nextD j nw ne se sw d < 4 := by decide
theorem next_no_back : ∀ (j nw ne se sw : Bool) (d : Fin 4), inQ nw ne se sw d = true → nextD j nw ne se sw d ≠ (d.val + 2) % 4 := by decide
theorem outQ_lt {nw ne se sw : Bool} {d : Nat} (h : outQ nw ne se sw d = true) : d < 4 := by
  match d, h with
  | 0, _ => omega
  | 1, _ => omega
  | 2, _ => omega
  | 3, _ => omega
  | d + 4, h => simp [outQ] at h

/-- Is it a side? -/
def isS (bl : Int → Int → Bool) (s : Sd) : Bool := outQ (bl (s.1 - 1) (s.2.1 - 1)) (bl s.1 (s.2.1 - 1)) (bl s.1 s.2.1) (bl (s.1 - 1) s.2.1) s.2.2
/-- Where it ends. -/
def en (s : Sd) : Int × Int :=
  match s.2.2 with
  | 0 => (s.1, s.2.1 + 1)
  | 1 => (s.1 + 1, s.2.1)
  | 2 => (s.1, s.2.1 - 1)
  | 3 => (s.1 - 1, s.2.1)
  | _ => (s.1, s.2.1)
def nxD (bl jn : Int → Int → Bool) (p : Int × Int) (d : Nat) : Nat := nextD (jn p.1 p.2) (bl (p.1 - 1) (p.2 - 1)) (bl p.1 (p.2 - 1)) (bl p.1 p.2) (bl (p.1 - 1) p.2) d
/-- The side behind it. -/
def nx (bl jn : Int → Int → Bool) (s : Sd) : Sd := ((en s).1, (en s).2, nxD bl jn (en s) s.2.2)
/-- Where it begins, as a number. -/
def key (s : Sd) : Int := 33 * s.2.1 + s.1

theorem isS_lt {bl : Int → Int → Bool} {s : Sd} (h : isS bl s = true) : s.2.2 < 4 := outQ_lt h
theorem isS_in (bl : Int → Int → Bool) (s : Sd) : isS bl s = inQ (bl ((en s).1 - 1) ((en s).2 - 1)) (bl (en s).1 ((en s).2 - 1)) (bl (en s).1 (en s).2) (bl ((en s).1 - 1) (en s).2) s.2.2 := by
  obtain ⟨x, y, d⟩ := s
  match d with
  | 0 => simp [isS, en, outQ, inQ]
  | 1 => simp [isS, en, outQ, inQ]
  | 2 => simp [isS, en, outQ, inQ]
  | 3 => simp [isS, en, outQ, inQ]
  | d + 4 => simp [isS, outQ, inQ]

theorem nx_isS {bl jn : Int → Int → Bool} {s : Sd} (h : isS bl s = true) : isS bl (nx bl jn s) = true := by
  have hd := isS_lt h
  rw [isS_in] at h
  exact next_out _ _ _ _ _ ⟨s.2.2, hd⟩ h

theorem nx_inj {bl jn : Int → Int → Bool} {s t : Sd} (hs : isS bl s = true) (ht : isS bl t = true) (e : nx bl jn s = nx bl jn t) : s = t := by
  have h1 := isS_lt hs
  have h2 := isS_lt ht
  have e1 : en s = en t := Prod.ext (congrArg (fun s : Sd => s.1) e) (congrArg (fun s : Sd => s.2.1) e)
  have e2 : nxD bl jn (en s) s.2.2 = nxD bl jn (en t) t.2.2 := congrArg (fun s : Sd => s.2.2) e
  rw [isS_in] at hs ht
  rw [← e1] at ht e2
  have e3 : s.2.2 = t.2.2 := by
    have := next_inj _ _ _ _ _ ⟨s.2.2, h1⟩ ⟨t.2.2, h2⟩ hs ht e2
    exact congrArg Fin.val this
  obtain ⟨x, y, d⟩ := s
  obtain ⟨x', y', d'⟩ := t
  simp only at e3
  subst e3
  have a := congrArg Prod.fst e1
  have b := congrArg Prod.snd e1
  match d, h1 with
  | 0, _ => simp [en] at a b; simp; omega
  | 1, _ => simp [en] at a b; simp; omega
  | 2, _ => simp [en] at a b; simp; omega
  | 3, _ => simp [en] at a b; simp; omega

/-- A picture: black within its bounds alone. -/
structure Pic (bl : Int → Int → Bool) (W H : Int) : Prop where
  box : ∀ x y, bl x y = true → 0 ≤ x ∧ x < W ∧ 0 ≤ y ∧ y < H
  w : W ≤ 32
  h : H ≤ 32

theorem side_in {bl : Int → Int → Bool} {W H : Int} (hp : Pic bl W H) {s : Sd} (h : isS bl s = true) : 0 ≤ s.1 ∧ s.1 ≤ W ∧ 0 ≤ s.2.1 ∧ s.2.1 ≤ H := by
  have hd := isS_lt h
  obtain ⟨x, y, d⟩ := s
  match d, hd with
  | 0, _ => simp [isS, outQ] at h; have := hp.box _ _ h.1; simp only; omega
  | 1, _ => simp [isS, outQ] at h; have := hp.box _ _ h.1; simp only; omega
  | 2, _ => simp [isS, outQ] at h; have := hp.box _ _ h.1; simp only; omega
  | 3, _ => simp [isS, outQ] at h; have := hp.box _ _ h.1; simp only; omega

theorem key_nx (bl jn : Int → Int → Bool) (s : Sd) (h : s.2.2 < 4) : key (nx bl jn s) = key s + (if s.2.2 = 0 then 33 else if s.2.2 = 1 then 1 else if s.2.2 = 2 then -33 else -1) := by
  obtain ⟨x, y, d⟩ := s
  match d, h with
  | 0, _ => simp [key, nx, en]; omega
  | 1, _ => simp [key, nx, en]; omega
  | 2, _ => simp [key, nx, en]; omega
  | 3, _ => simp [key, nx, en]; omega

theorem step {bl : Int → Int → Bool} {W H : Int} (hp : Pic bl W H) (jn : Int → Int → Bool) : Step (nx bl jn) (fun s => isS bl s = true) key where
  on _ h := nx_isS h
  inj _ _ hs ht e := nx_inj hs ht e
  ne s h := by have := isS_lt h; rw [key_nx _ _ _ this]; split <;> (try split) <;> (try split) <;> omega
  low s h := by have := side_in hp h; unfold key; omega
  one s t hs ht e us ut := by
    have a := side_in hp hs
    have b := side_in hp ht
    have w := hp.w
    have hs' := isS_lt hs
    have ht' := isS_lt ht
    rw [key_nx _ _ _ hs'] at us
    rw [key_nx _ _ _ ht'] at ut
    obtain ⟨x, y, d⟩ := s
    obtain ⟨x', y', d'⟩ := t
    simp only [key] at e a b us ut hs' ht'
    have e1 : x = x' := by omega
    have e2 : y = y' := by omega
    subst e1 e2
    have d1 : d = 0 ∨ d = 1 := by
      match d, hs' with
      | 0, _ => simp
      | 1, _ => simp
      | 2, _ => simp at us; omega
      | 3, _ => simp at us; omega
    have d2 : d' = 0 ∨ d' = 1 := by
      match d', ht' with
      | 0, _ => simp
      | 1, _ => simp
      | 2, _ => simp at ut; omega
      | 3, _ => simp at ut; omega
    rcases d1 with rfl | rfl <;> rcases d2 with rfl | rfl <;> simp [isS, outQ] at hs ht ⊢
    · rw [hs.1] at ht; exact absurd ht.2 (by simp)
    · rw [ht.1] at hs; exact absurd hs.2 (by simp)

/-- A number for a side, another for each. -/
def codeS (s : Sd) : Int := key s * 4 + s.2.2
theorem code_inj {bl : Int → Int → Bool} {W H : Int} (hp : Pic bl W H) {s t : Sd} (hs : isS bl s = true) (ht : isS bl t = true) (e : codeS s = codeS t) : s = t := by
  have a := side_in hp hs
  have b := side_in hp ht
  have w := hp.w
  have h1 := isS_lt hs
  have h2 := isS_lt ht
  obtain ⟨x, y, d⟩ := s
  obtain ⟨x', y', d'⟩ := t
  simp only [codeS, key] at e a b h1 h2
  have e1 : d = d' := by omega
  have e2 : x = x' := by omega
  have e3 : y = y' := by omega
  subst e1 e2 e3
  rfl
theorem code_in {bl : Int → Int → Bool} {W H : Int} (hp : Pic bl W H) {s : Sd} (hs : isS bl s = true) : 0 ≤ codeS s ∧ codeS s < 4356 := by
  have a := side_in hp hs
  have w := hp.w
  have h := hp.h
  have h1 := isS_lt hs
  simp only [codeS, key]; omega

/-- Where a side begins. -/
def fromP (s : Sd) : Int × Int := (s.1, s.2.1)
/-- The points of a cycle. -/
def ptsOf (f : Sd → Sd) (c : Sd × Nat) : List (Int × Int) := (List.range c.2).map fun i => fromP (it f i c.1)
def cross (p q : Int × Int) : Int := p.2 * q.1 - p.1 * q.2
/-- Twice the area, line by line. -/
def twiceOf (l : List (Int × Int)) : Int := ((List.range l.length).map fun i => cross (l.getD i (0, 0)) (l.getD ((i + 1) % l.length) (0, 0))).sum
/-- The shapes of the answer. -/
def shapesOf (f : Sd → Sd) (R : List (Sd × Nat)) : List (List (Int × Int) × Int) := R.map fun c => (ptsOf f c, twiceOf (ptsOf f c))

/-- The pixel on the left of a side, and the one on its right. -/
def lpx (x : Int) (d : Nat) : Int := if d = 3 ∨ (d + 1) % 4 = 3 then x - 1 else x
def lpy (y : Int) (d : Nat) : Int := if d = 2 ∨ (d + 1) % 4 = 2 then y - 1 else y
def rpx (x : Int) (d : Nat) : Int := if d = 3 ∨ (d + 3) % 4 = 3 then x - 1 else x
def rpy (y : Int) (d : Nat) : Int := if d = 2 ∨ (d + 3) % 4 = 2 then y - 1 else y
theorem isS_lr (bl : Int → Int → Bool) (x y : Int) (d : Nat) (hd : d < 4) : isS bl (x, y, d) = (bl (lpx x d) (lpy y d) && !bl (rpx x d) (rpy y d)) := by
  match d, hd with
  | 0, _ => rfl
  | 1, _ => rfl
  | 2, _ => rfl
  | 3, _ => rfl

end Go.Proofs.YtljfiefobnncaabGreatDoor.Qm

/- bitmap.IsBlack, and the small functions of package cycles. -/
namespace Go.Proofs.YtljfiefobnncaabGreatDoor
open Go.RowKit

set_option maxRecDepth 4000 in
set_option maxHeartbeats 1000000 in
theorem isBlack_any (W H : Nat) (s : ByteArray) (x y : Int) (w : World) (hw2 : W ≤ 32) (hh2 : H ≤ 32) (hl : s.size = W * H) :
    Calls Tryz.prog 147 #[.agg #[.int .i64 W, .int .i64 H, .string s], .int .i64 x, .int .i64 y] w fun e w' => e = .returned (.bool (Pm.blackB W H s.data.toList x y)) ∧ w' = w.alloc (.cells #[.int .i64 W, .int .i64 H, .string s] 30) := by
  have HL := Hid.out (p := Hid (s.size = W * H)) hl
  clear hl
  by_cases x0 : 0 ≤ x
  · by_cases x1 : x < W
    · by_cases y0 : 0 ≤ y
      · by_cases y1 : y < H
        · obtain ⟨x, rfl⟩ := Int.eq_ofNat_of_zero_le x0
          obtain ⟨y, rfl⟩ := Int.eq_ofNat_of_zero_le y0
          have hx : x < W := by omega
          have hy : y < H := by omega
          have sp := Pm.span W H y hy
          have ar := Pm.area_nat W H hw2 hh2
          obtain ⟨a, ha⟩ : ∃ a, a = y * W := ⟨_, rfl⟩
          have ea : (y : Int) * (W : Int) = (a : Nat) := by rw [ha]; simp
          have hab : a + x < s.size := by have := HL.out; omega
          have hb4 : a + x ≤ 1024 := by omega
          have E := Pm.blackB_in W H s.data.toList x y hx hy a ha
          have HE : Hid _ := E
          have HA : Hid _ := ha
          clear E ha sp ar
          by_cases q : (s[a + x].toNat : Int) = 49
          · go_enter Tryz.func147, Tryz.ntmps147
            go_wp2
            go_ret
            exact ⟨ret_bool (by rw [HE.out, Pm.bitAt_yes s _ hab q]), rfl⟩
          · have b0 : ((s[a + x].toNat : Int) == 49) = false := by simpa using q
            go_enter Tryz.func147, Tryz.ntmps147
            go_wp2
            go_ret
            exact ⟨ret_bool (by rw [HE.out, Pm.bitAt_no s _ hab q]), rfl⟩
        · have E := Pm.blackB_out W H s.data.toList x y (by omega)
          have HE : Hid _ := E
          clear E
          go_enter Tryz.func147, Tryz.ntmps147
          go_wp2
          go_ret
          exact ⟨ret_bool HE.out.symm, rfl⟩
      · have E := Pm.blackB_out W H s.data.toList x y (by omega)
        have HE : Hid _ := E
        clear E
        go_enter Tryz.func147, Tryz.ntmps147
        go_wp2
        go_ret
        exact ⟨ret_bool HE.out.symm, rfl⟩
    · have E := Pm.blackB_out W H s.data.toList x y (by omega)
      have HE : Hid _ := E
      clear E
      go_enter Tryz.func147, Tryz.ntmps147
      go_wp2
      go_ret
      exact ⟨ret_bool HE.out.symm, rfl⟩
  · have E := Pm.blackB_out W H s.data.toList x y (by omega)
    have HE : Hid _ := E
    clear E
    go_enter Tryz.func147, Tryz.ntmps147
    go_wp2
    go_ret
    exact ⟨ret_bool HE.out.symm, rfl⟩

set_option maxRecDepth 4000 in
set_option maxHeartbeats 400000 in
theorem leftOf_any (d : Nat) (hd : d < 4) (w : World) :
    Calls Tryz.prog 134 #[.int .i64 d] w fun e w' => e = .returned (.int .i64 ((d + 1) % 4 : Nat)) ∧ w' = w := by
  go_enter Tryz.func134, Tryz.ntmps134
  go_wp2
  go_ret
  exact ⟨ret_int (by omega), rfl⟩

set_option maxRecDepth 4000 in
set_option maxHeartbeats 400000 in
theorem rightOf_any (d : Nat) (hd : d < 4) (w : World) :
    Calls Tryz.prog 135 #[.int .i64 d] w fun e w' => e = .returned (.int .i64 ((d + 3) % 4 : Nat)) ∧ w' = w := by
  go_enter Tryz.func135, Tryz.ntmps135
  go_wp2
  go_ret
  exact ⟨ret_int (by omega), rfl⟩

set_option maxRecDepth 4000 in
set_option maxHeartbeats 400000 in
theorem end_any (x y : Int) (d : Nat) (hd : d < 4) (hx : -1000 ≤ x ∧ x ≤ 1000) (hy : -1000 ≤ y ∧ y ≤ 1000) (w : World) :
    Calls Tryz.prog 133 #[.agg #[.int .i64 x, .int .i64 y, .int .i64 d]] w fun e w' => e = .returned (.agg #[.int .i64 (Qm.en (x, y, d)).1, .int .i64 (Qm.en (x, y, d)).2]) ∧ ∃ o1 o2 o3, w' = ((w.alloc (.cells o1 133)).alloc (.cells o2 65)).alloc (.cells o3 65) := by
  match d, hd with
  | 0, _ =>
    go_enter Tryz.func133, Tryz.ntmps133
    go_wp2
    refine bodyPost_ret (v := .agg #[.int .i64 x, .int .i64 (y + 1)]) (by simp [results, Tryz.results133, go_sem]) rfl ?_
    exact ⟨rfl, _, _, _, rfl⟩
  | 1, _ =>
    go_enter Tryz.func133, Tryz.ntmps133
    go_wp2
    refine bodyPost_ret (v := .agg #[.int .i64 (x + 1), .int .i64 y]) (by simp [results, Tryz.results133, go_sem]) rfl ?_
    exact ⟨rfl, _, _, _, rfl⟩
  | 2, _ =>
    go_enter Tryz.func133, Tryz.ntmps133
    go_wp2
    refine bodyPost_ret (v := .agg #[.int .i64 x, .int .i64 (y - 1)]) (by simp [results, Tryz.results133, go_sem]) rfl ?_
    exact ⟨rfl, _, _, _, rfl⟩
  | 3, _ =>
    go_enter Tryz.func133, Tryz.ntmps133
    go_wp2
    refine bodyPost_ret (v := .agg #[.int .i64 (x - 1), .int .i64 y]) (by simp [results, Tryz.results133, go_sem]) rfl ?_
    exact ⟨rfl, _, _, _, rfl⟩
end Go.Proofs.YtljfiefobnncaabGreatDoor

/- pixelBetween, isSide of package cycles. -/
namespace Go.Proofs.YtljfiefobnncaabGreatDoor
open Go.RowKit

set_option maxRecDepth 4000 in
set_option maxHeartbeats 2000000 in
theorem pixelBetween_any (x y : Int) (a b : Nat) (hx : -1000 ≤ x ∧ x ≤ 1000) (hy : -1000 ≤ y ∧ y ≤ 1000) (w : World) :
    Calls Tryz.prog 146 #[.agg #[.int .i64 x, .int .i64 y], .int .i64 a, .int .i64 b] w fun e w' => e = .returned (.agg #[.int .i64 (if a = 3 ∨ b = 3 then x - 1 else x), .int .i64 (if a = 2 ∨ b = 2 then y - 1 else y)]) ∧ ∃ o1 o2, w' = (w.alloc (.cells o1 65)).alloc (.cells o2 65) := by
  have key : ∀ (p q r t : Bool), ((a : Int) == 2) = p → ((b : Int) == 2) = q → ((a : Int) == 3) = r → ((b : Int) == 3) = t →
    Calls Tryz.prog 146 #[.agg #[.int .i64 x, .int .i64 y], .int .i64 a, .int .i64 b] w fun e w' => e = .returned (.agg #[.int .i64 (if (r || t) = true then x - 1 else x), .int .i64 (if (p || q) = true then y - 1 else y)]) ∧ ∃ o1 o2, w' = (w.alloc (.cells o1 65)).alloc (.cells o2 65) := by
    intro p q r t h1 h2 h3 h4
    cases p <;> cases q <;> cases r <;> cases t <;>
    · go_enter Tryz.func146, Tryz.ntmps146
      go_wp2
      refine bodyPost_ret (by simp [results, Tryz.results146, go_sem]; rfl) rfl ?_
      exact ⟨rfl, _, _, rfl⟩
  refine (key _ _ _ _ rfl rfl rfl rfl).mono ?_
  rintro e w' ⟨rfl, hb⟩
  refine ⟨?_, hb⟩
  simp only [Bool.or_eq_true, beq_iff_eq]
  norm_cast

theorem pixLeft_any (x y : Int) (d : Nat) (hx : -1000 ≤ x ∧ x ≤ 1000) (hy : -1000 ≤ y ∧ y ≤ 1000) (w : World) :
    Calls Tryz.prog 146 #[.agg #[.int .i64 x, .int .i64 y], .int .i64 d, .int .i64 ((d + 1) % 4 : Nat)] w fun e w' => e = .returned (.agg #[.int .i64 (Qm.lpx x d), .int .i64 (Qm.lpy y d)]) ∧ ∃ o1 o2, w' = (w.alloc (.cells o1 65)).alloc (.cells o2 65) := pixelBetween_any x y d _ hx hy w
theorem pixRight_any (x y : Int) (d : Nat) (hx : -1000 ≤ x ∧ x ≤ 1000) (hy : -1000 ≤ y ∧ y ≤ 1000) (w : World) :
    Calls Tryz.prog 146 #[.agg #[.int .i64 x, .int .i64 y], .int .i64 d, .int .i64 ((d + 3) % 4 : Nat)] w fun e w' => e = .returned (.agg #[.int .i64 (Qm.rpx x d), .int .i64 (Qm.rpy y d)]) ∧ ∃ o1 o2, w' = (w.alloc (.cells o1 65)).alloc (.cells o2 65) := pixelBetween_any x y d _ hx hy w

end Go.Proofs.YtljfiefobnncaabGreatDoor

/- isSide of package cycles. -/
namespace Go.Proofs.YtljfiefobnncaabGreatDoor
open Go.RowKit
attribute [local go_sem ↓] Go.wp_at_zero Go.wp_at_succ

/-- A block's cells stand, and may be written. -/
def At (w : World) (b : Nat) (cs : List Value) : Prop := b < w.heap.size ∧ (∀ j v, cs[j]? = some v → w.cell? ⟨b, j, none⟩ = some v) ∧ (∀ j, j < cs.length → w.frozen? ⟨b, j, none⟩ = false)
theorem At.on {w w' : World} {b B : Nat} {cs : List Value} (h : At w b cs) (hb : Below B w w') (hB : b < B) : At w' b cs :=
  ⟨Nat.lt_of_lt_of_le h.1 hb.size, fun j v hj => (hb.cell (p := ⟨b, j, none⟩) hB).trans (h.2.1 j v hj), fun j hj => (hb.frozen (p := ⟨b, j, none⟩) hB).trans (h.2.2 j hj)⟩
theorem At.call {w w' : World} {b : Nat} {cs : List Value} (h : At w b cs) (hb : Below w.heap.size w w') : At w' b cs := h.on hb h.1
theorem At.new (w : World) (cs : List Value) (t : TypeId) : At (w.alloc (.cells cs.toArray t)) w.heap.size cs := by
  refine ⟨by simp, fun j v hj => ?_, fun j hj => by simp⟩
  simp [hj]
theorem At.alloc {w : World} {b : Nat} {cs : List Value} (h : At w b cs) (o : Obj) : At (w.alloc o) b cs := h.call ((Below.refl _ _).alloc (Nat.le_refl _) _)

set_option maxRecDepth 4000 in
set_option maxHeartbeats 2000000 in
theorem cIsSide_any (W H : Nat) (s : ByteArray) (x y : Int) (d : Nat) (hd : d < 4) (hx : -1000 ≤ x ∧ x ≤ 1000) (hy : -1000 ≤ y ∧ y ≤ 1000) (w : World) (hw2 : W ≤ 32) (hh2 : H ≤ 32) (hl : s.size = W * H) :
    Calls Tryz.prog 132 #[.agg #[.int .i64 W, .int .i64 H, .string s], .agg #[.int .i64 x, .int .i64 y, .int .i64 d]] w fun e w' => e = .returned (.bool (Qm.isS (Pm.blackB W H s.data.toList) (x, y, d))) ∧ Below w.heap.size w w' := by
  have HL := hid hl
  clear hl
  rw [Qm.isS_lr _ _ _ _ hd]
  obtain ⟨a, ha⟩ : ∃ a, Pm.blackB W H s.data.toList (Qm.rpx x d) (Qm.rpy y d) = a := ⟨_, rfl⟩
  rw [ha]
  have HA := hid ha
  clear ha
  go_enter Tryz.func132, Tryz.ntmps132
  go_wp2_with fail
  go_region_held3 (fun w' => w'.cell? ⟨w.heap.size + 1, 0, none⟩ = some (.int .i64 x) ∧ w'.cell? ⟨w.heap.size + 1, 1, none⟩ = some (.int .i64 y) ∧ w'.cell? ⟨w.heap.size + 1, 2, none⟩ = some (.int .i64 d))
    (first | (simp [go_sem]; done) | (go_keep))
    (first | (go_at_call 134; refine (leftOf_any d hd _).mono ?_; rintro e w1 ⟨rfl, rfl⟩) | (go_at_call 146; refine (pixLeft_any x y d hx hy _).mono ?_; rintro e w1 ⟨rfl, o1, o2, rfl⟩))
  all_goals go_wp2_with fail
  all_goals
    go_region_held3 (fun w' => w'.cell? ⟨w.heap.size + 1, 0, none⟩ = some (.int .i64 x) ∧ w'.cell? ⟨w.heap.size + 1, 1, none⟩ = some (.int .i64 y) ∧ w'.cell? ⟨w.heap.size + 1, 2, none⟩ = some (.int .i64 d))
      (first | (simp [go_sem]; done) | (go_keep))
      (first | (go_at_call 135; refine (rightOf_any d hd _).mono ?_; rintro e w1 ⟨rfl, rfl⟩) | (go_at_call 146; refine (pixRight_any x y d hx hy _).mono ?_; rintro e w1 ⟨rfl, o3, o4, rfl⟩))
  all_goals go_wp2_with fail
  all_goals
    refine (isBlack_any W H s _ _ _ hw2 hh2 HL.out).mono ?_
    rintro e w1 ⟨rfl, rfl⟩
    rw [HA.out]
  all_goals cases a
  all_goals go_wp2_with (go_at_call 147; refine (isBlack_any W H s _ _ _ hw2 hh2 HL.out).mono ?_; rintro e w1 ⟨rfl, rfl⟩)
  all_goals go_ret
  all_goals exact ⟨ret_bool (by simp), by go_grown⟩
end Go.Proofs.YtljfiefobnncaabGreatDoor

/- The policies. Nothing of the program stands here. -/
namespace Go.Proofs.YtljfiefobnncaabGreatDoor.Qm
open Pm

/-- Of the first m of the 16 pixels around a point: how many are black? -/
def cntTo (bl : Int → Int → Bool) (X Y : Int) : Nat → Nat
  | 0 => 0
  | m + 1 => cntTo bl X Y m + if bl (X - 2 + (m % 4 : Nat)) (Y - 2 + (m / 4 : Nat)) then 1 else 0
theorem cntTo_le (bl : Int → Int → Bool) (X Y : Int) (m : Nat) : cntTo bl X Y m ≤ m := by
  induction m with
  | zero => exact Nat.le_refl _
  | succ m ih => unfold cntTo; split <;> omega
theorem cntTo_yes (bl : Int → Int → Bool) (X Y : Int) (i j : Nat) (hj : j < 4) (h : bl (X - 2 + (j : Nat)) (Y - 2 + (i : Nat)) = true) : cntTo bl X Y (4 * i + (j + 1)) = cntTo bl X Y (4 * i + j) + 1 := by
  rw [← Nat.add_assoc]; show cntTo bl X Y (4 * i + j) + _ = _
  rw [show (4 * i + j) % 4 = j from by omega, show (4 * i + j) / 4 = i from by omega, h]; simp
theorem cntTo_no (bl : Int → Int → Bool) (X Y : Int) (i j : Nat) (hj : j < 4) (h : bl (X - 2 + (j : Nat)) (Y - 2 + (i : Nat)) = false) : cntTo bl X Y (4 * i + (j + 1)) = cntTo bl X Y (4 * i + j) := by
  rw [← Nat.add_assoc]; show cntTo bl X Y (4 * i + j) + _ = _
  rw [show (4 * i + j) % 4 = j from by omega, show (4 * i + j) / 4 = i from by omega, h]; simp

/-- Does one who comes to a crossing join? -/
def jnB (W H : Nat) (l : List UInt8) (pol : Int) (draws : List UInt8) (x y : Int) : Bool :=
  if pol = 0 then true
  else if pol = 2 then decide (cntTo (blackB W H l) x y 16 < 8)
  else if pol = 3 then bitAt draws (y * (W + 1) + x).toNat
  else false
theorem jnB_0 (W H : Nat) (l : List UInt8) (draws : List UInt8) (x y : Int) : jnB W H l 0 draws x y = true := rfl
theorem jnB_1 (W H : Nat) (l : List UInt8) (draws : List UInt8) (x y : Int) : jnB W H l 1 draws x y = false := rfl
theorem jnB_2 (W H : Nat) (l : List UInt8) (draws : List UInt8) (x y : Int) : jnB W H l 2 draws x y = decide (cntTo (blackB W H l) x y 16 < 8) := rfl
theorem jnB_3 (W H : Nat) (l : List UInt8) (draws : List UInt8) (x y : Int) : jnB W H l 3 draws x y = bitAt draws (y * (W + 1) + x).toNat := rfl

theorem pic_of (W H : Nat) (l : List UInt8) (hw : W ≤ 32) (hh : H ≤ 32) : Pic (blackB W H l) W H where
  box x y h := by
    by_cases hb : 0 ≤ x ∧ 0 ≤ y ∧ x < W ∧ y < H
    · omega
    · rw [blackB_out W H l x y hb] at h; exact absurd h (by simp)
  w := by omega
  h := by omega

end Go.Proofs.YtljfiefobnncaabGreatDoor.Qm

/- blackAround, isDrawn, joins of package cycles. -/
namespace Go.Proofs.YtljfiefobnncaabGreatDoor
open Go.RowKit
attribute [local go_sem ↓] Go.wp_at_zero Go.wp_at_succ

/-- A box of three cells and one of two behind it stand; below them all is as it was. -/
def Bp (B : Nat) (a b c x y : Value) (w wr : World) : Prop :=
  wr.cell? ⟨B, 0, none⟩ = some a ∧ wr.cell? ⟨B, 1, none⟩ = some b ∧ wr.cell? ⟨B, 2, none⟩ = some c ∧ wr.cell? ⟨B + 1, 0, none⟩ = some x ∧ wr.cell? ⟨B + 1, 1, none⟩ = some y ∧ Below B w wr ∧ B + 1 < wr.heap.size
theorem Bp.on {B : Nat} {a b c x y : Value} {w wr w2 : World} (h : Bp B a b c x y w wr) (hb : Below wr.heap.size wr w2) : Bp B a b c x y w w2 := by
  obtain ⟨c0, c1, c2, c3, c4, hn, hz⟩ := h
  have hz' : B < wr.heap.size := by omega
  exact ⟨(hb.cell (p := ⟨B, 0, none⟩) hz').trans c0, (hb.cell (p := ⟨B, 1, none⟩) hz').trans c1, (hb.cell (p := ⟨B, 2, none⟩) hz').trans c2, (hb.cell (p := ⟨B + 1, 0, none⟩) hz).trans c3, (hb.cell (p := ⟨B + 1, 1, none⟩) hz).trans c4, hn.trans (hb.mono (Nat.le_of_lt hz')), Nat.lt_of_lt_of_le hz hb.size⟩
theorem Bp.new (w : World) (a b c x y : Value) (t u : TypeId) : Bp w.heap.size a b c x y w ((w.alloc (.cells #[a, b, c] t)).alloc (.cells #[x, y] u)) :=
  ⟨by simp, by simp, by simp, by simp [go_sem], by simp [go_sem], ((Below.refl _ _).alloc (Nat.le_refl _) _).alloc (by simp) _, by simp⟩
theorem Bp.alloc {B : Nat} {a b c x y : Value} {w wr : World} (h : Bp B a b c x y w wr) (o : Obj) : Bp B a b c x y w (wr.alloc o) := h.on ((Below.refl _ _).alloc (Nat.le_refl _) _)

set_option maxRecDepth 4000 in
set_option maxHeartbeats 2000000 in
theorem blackAround_any (W H : Nat) (s : ByteArray) (X Y : Int) (hx : 0 ≤ X ∧ X ≤ 100) (hy : 0 ≤ Y ∧ Y ≤ 100) (w : World) (hw2 : W ≤ 32) (hh2 : H ≤ 32) (hl : s.size = W * H) :
    Calls Tryz.prog 148 #[.agg #[.int .i64 W, .int .i64 H, .string s], .agg #[.int .i64 X, .int .i64 Y]] w fun e w' => e = .returned (.int .i64 (Qm.cntTo (Pm.blackB W H s.data.toList) X Y 16 : Nat)) ∧ Below w.heap.size w w' := by
  have HL := hid hl
  clear hl
  go_enter Tryz.func148, Tryz.ntmps148
  go_wp2
  go_loopw [5, 6] (fun n y wr => ∃ i : Nat, i ≤ 4 ∧ y = .int .i64 (Y - 2 + (i : Nat)) ∧ n = .int .i64 (Qm.cntTo (Pm.blackB W H s.data.toList) X Y (4 * i) : Nat) ∧ Bp w.heap.size (.int .i64 W) (.int .i64 H) (.string s) (.int .i64 X) (.int .i64 Y) w wr) (fun _ y _ => (Y + 5 - intOf y).toNat)
  case atStart => exact ⟨0, by omega, by simp, rfl, Bp.new ..⟩
  case round =>
    obtain ⟨i, hi, rfl, rfl, hB⟩ := hrel
    have HB := hid hB
    obtain ⟨c0, c1, c2, c3, c4, -, hz⟩ := hB
    by_cases hlt : i < 4
    · have hlt' : Y - 2 + (i : Int) ≤ Y + 1 := by omega
      go_wp2
      go_loopw [5, 7] (fun n x wr => ∃ j : Nat, j ≤ 4 ∧ x = .int .i64 (X - 2 + (j : Nat)) ∧ n = .int .i64 (Qm.cntTo (Pm.blackB W H s.data.toList) X Y (4 * i + j) : Nat) ∧ Bp w.heap.size (.int .i64 W) (.int .i64 H) (.string s) (.int .i64 X) (.int .i64 Y) w wr) (fun _ x _ => (X + 5 - intOf x).toNat)
      case atStart => exact ⟨0, by omega, by simp, rfl, HB.out⟩
      case round =>
        clear c0 c1 c2 c3 c4 hz HB
        obtain ⟨j, hj, rfl, rfl, hB⟩ := hrel
        have HB := hid hB
        obtain ⟨c0, c1, c2, c3, c4, -, hz⟩ := hB
        by_cases hj4 : j < 4
        · have hjt : X - 2 + (j : Int) ≤ X + 1 := by omega
          have hc := Qm.cntTo_le (Pm.blackB W H s.data.toList) X Y (4 * i + j)
          cases hq : Pm.blackB W H s.data.toList (X - 2 + (j : Nat)) (Y - 2 + (i : Nat))
          · have E := hid (Qm.cntTo_no (Pm.blackB W H s.data.toList) X Y i j hj4 hq)
            go_wp2_with (go_at_call 147; refine (isBlack_any W H s _ _ _ hw2 hh2 HL.out).mono ?_; rintro e w1 ⟨rfl, rfl⟩; rw [hq])
            go_roundw
            case rel => exact ⟨j + 1, by omega, by go_num, by rw [E.out], HB.out.alloc _⟩
            case measure => simp [intOf]; omega
          · have E := hid (Qm.cntTo_yes (Pm.blackB W H s.data.toList) X Y i j hj4 hq)
            go_wp2_with (go_at_call 147; refine (isBlack_any W H s _ _ _ hw2 hh2 HL.out).mono ?_; rintro e w1 ⟨rfl, rfl⟩; rw [hq])
            go_roundw
            case rel => exact ⟨j + 1, by omega, by go_num, by rw [E.out]; go_num, HB.out.alloc _⟩
            case measure => simp [intOf]; omega
        · have e4 : j = 4 := by omega
          subst e4
          go_wp2
          go_roundw
          case rel => exact ⟨i + 1, by omega, by go_num, rfl, HB.out⟩
          case measure => simp [intOf]; omega
    · have e4 : i = 4 := by omega
      subst e4
      go_wp2
      go_ret
      exact ⟨rfl, HB.out.2.2.2.2.2.1⟩
end Go.Proofs.YtljfiefobnncaabGreatDoor
