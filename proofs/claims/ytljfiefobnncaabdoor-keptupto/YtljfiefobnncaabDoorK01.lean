import Derived.Test.YtljfiefobnncaabDoorCards
import Derived.Test.YtljfiefobnncaabDoorTie
import Derived.WalkKit
import Derived.WalkSpells
import Derived.WalkLawsBesides
import Derived.ProofKit
import Derived.OpenShut
import Derived.SizedLaws
import Derived.Deep.DeepHandedRow
import Derived.Lib.LaidTab
import Derived.Lib.SmallJoins

/- What every law's closing wants: how a bitmap comes in, and the cells of the listed tables. -/
namespace Go.Proofs.YtljfiefobnncaabDoor
open Go.ChangeShapes Go.WideShapes Go.ChangeAt Go.RowKit Go.Joins
open Go.ChangeMaps (open_string)

theorem own : ownKnob Tryd.prog.godebug = none := by kernel_rfl
theorem laidOut : laidOutB Tryd.prog = true := by kernel_rfl
theorem cellsBitmap : Tryd.prog.cellsOf 25 = 3 := by kernel_rfl

set_option maxRecDepth 100000 in
/-- A bitmap that comes in: two numbers and a text. -/
theorem open_bitmap {H : Type} {enc : TypeId × Value → H} {W : World} {base : Nat} {v : Value} {d : DataW H} {p : List MemPlace}
    (hv : Value.okWide Tryd.prog W .any base 25 v) (h : DataW.Trod enc Tryd.prog W 0 (fun _ => true) true 25 v d p) :
    ∃ (a b : Int) (s : ByteArray), v = .agg #[.int .i64 a, .int .i64 b, .string s] := by
  obtain ⟨c0, c1, c2, y0, y1, y2, m, rfl, -, -, hy0, hy1, hy2⟩ := open_agg3 Tryd.underlying25 (by kernel_rfl) cellsBitmap hv h
  obtain ⟨a, e0, -, -⟩ := DataW.trod_int Tryd.underlying3 hy0
  obtain ⟨b, e1, -, -⟩ := DataW.trod_int Tryd.underlying3 hy1
  obtain ⟨s, e2, -⟩ := DataW.trod_string Tryd.underlying9 hy2
  simp at e0 e1 e2
  subst e0 e1 e2
  exact ⟨a, b, s, rfl⟩

/-- The cells that a listed table's datum stands for. -/
def laidCells : DataW Unit → Array Value
  | .agg ds => (ds.map fun d => match d with | .lit (.int k n) => Value.int k n | _ => Value.bool false).toArray
  | _ => #[]
/-- A block with other cells. -/
def withCells (cs : Array Value) : Obj → Obj
  | .cells _ t frozen => .cells cs t frozen
  | o => o
end Go.Proofs.YtljfiefobnncaabDoor

/- Going round and round: a step that loses nothing, and what comes of walking on. Nothing of the program stands here. -/
namespace Go.Proofs.YtljfiefobnncaabDoor.Qm

/-- n steps from s. -/
def it {α : Type} (f : α → α) : Nat → α → α
  | 0, s => s
  | n + 1, s => f (it f n s)

theorem it_add {α : Type} (f : α → α) (m n : Nat) (s : α) : it f (m + n) s = it f m (it f n s) := by
  induction m with
  | zero => simp [it]
  | succ m ih => rw [Nat.add_right_comm]; simp only [it, ih]

/-- What is asked of a step: it stays among the sides, no two sides lead to one; k numbers where a side begins. -/
structure Step {α : Type} (f : α → α) (P : α → Prop) (k : α → Int) : Prop where
  on : ∀ s, P s → P (f s)
  inj : ∀ s t, P s → P t → f s = f t → s = t
  one : ∀ s t, P s → P t → k s = k t → k s < k (f s) → k t < k (f t) → s = t
  ne : ∀ s, P s → k (f s) ≠ k s
  low : ∀ s, P s → 0 ≤ k s

section
variable {α : Type} {f : α → α} {P : α → Prop} {k : α → Int}

theorem Step.its (H : Step f P k) {s : α} (h : P s) (n : Nat) : P (it f n s) := by
  induction n with
  | zero => exact h
  | succ n ih => exact H.on _ ih

theorem Step.its_inj (H : Step f P k) {s t : α} (hs : P s) (ht : P t) (n : Nat) (h : it f n s = it f n t) : s = t := by
  induction n with
  | zero => exact h
  | succ n ih => exact ih (H.inj _ _ (H.its hs n) (H.its ht n) h)

/-- n steps from s lead back to s, and not sooner. -/
def Cyc (f : α → α) (P : α → Prop) (s : α) (n : Nat) : Prop :=
  P s ∧ 0 < n ∧ it f n s = s ∧ ∀ i j, i < j → j < n → it f i s ≠ it f j s

/-- .. and s begins ahead of all the others. -/
def Canon (f : α → α) (P : α → Prop) (k : α → Int) (c : α × Nat) : Prop :=
  Cyc f P c.1 c.2 ∧ ∀ i, 0 < i → i < c.2 → k c.1 < k (it f i c.1)

/-- t is on one of the cycles. -/
def Tk (f : α → α) (R : List (α × Nat)) (t : α) : Prop := ∃ c ∈ R, ∃ i, i < c.2 ∧ t = it f i c.1

theorem Cyc.mod {s : α} {n : Nat} (h : Cyc f P s n) (m : Nat) : it f m s = it f (m % n) s := by
  have key : ∀ q r, it f (q * n + r) s = it f r s := by
    intro q r
    induction q with
    | zero => simp
    | succ q ih =>
      rw [show (q + 1) * n + r = (q * n + r) + n from by rw [Nat.add_mul]; omega, it_add, h.2.2.1, ih]
  have := key (m / n) (m % n)
  rwa [show m / n * n + m % n = m from by rw [Nat.mul_comm]; exact Nat.div_add_mod m n] at this

/-- The period is one number. -/
theorem Cyc.per {s : α} {n m : Nat} (h : Cyc f P s n) (h' : Cyc f P s m) : n = m := by
  have a : ¬ n < m := fun hlt => h'.2.2.2 0 n h.2.1 hlt (by show s = _; exact h.2.2.1.symm)
  have b : ¬ m < n := fun hlt => h.2.2.2 0 m h'.2.1 hlt (by show s = _; exact h'.2.2.1.symm)
  omega

theorem Canon.least {c : α × Nat} (h : Canon f P k c) (m : Nat) : k c.1 ≤ k (it f m c.1) := by
  rw [h.1.mod m]
  rcases Nat.eq_zero_or_pos (m % c.2) with h0 | h0
  · rw [h0]; exact Int.le_refl _
  · exact Int.le_of_lt (h.2 _ h0 (Nat.mod_lt _ h.1.2.1))

/-- Two cycles that begin with their first points and share a side are one. -/
theorem Canon.same {c c' : α × Nat} (h : Canon f P k c) (h' : Canon f P k c') {i : Nat} (hi : i < c'.2) (e : c.1 = it f i c'.1) : c = c' := by
  rcases Nat.eq_zero_or_pos i with h0 | h0
  · subst h0
    have e1 : c.1 = c'.1 := e
    have := h.1
    rw [e1] at this
    exact Prod.ext e1 (this.per h'.1)
  · have lt := h'.2 i h0 hi
    rw [← e] at lt
    have back : it f (c'.2 - i) c.1 = c'.1 := by rw [e, ← it_add, show c'.2 - i + i = c'.2 from by omega]; exact h'.1.2.2.1
    have := h.least (c'.2 - i)
    rw [back] at this
    omega

/-- .. wherever they share it. -/
theorem Canon.share {c c' : α × Nat} (h : Canon f P k c) (h' : Canon f P k c') {i j : Nat} (hi : i < c.2) (e : it f i c.1 = it f j c'.1) : c = c' := by
  have e2 : c.1 = it f ((c.2 - i + j) % c'.2) c'.1 := by
    rw [← h'.1.mod, it_add, ← e, ← it_add, show c.2 - i + i = c.2 from by omega]; exact h.1.2.2.1.symm
  exact h.same h' (Nat.mod_lt _ h'.1.2.1) e2

/-- The whole answer: all cycles, each from its first point, by their first points. -/
def Res (f : α → α) (P : α → Prop) (k : α → Int) (R : List (α × Nat)) : Prop :=
  (∀ c ∈ R, Canon f P k c) ∧ R.Pairwise (fun a b => k a.1 < k b.1) ∧ ∀ t, P t → Tk f R t

theorem sorted_eq {β : Type} (g : β → Int) : ∀ (a b : List β), a.Pairwise (fun x y => g x < g y) → b.Pairwise (fun x y => g x < g y) → (∀ x, x ∈ a ↔ x ∈ b) → a = b
  | [], [], _, _, _ => rfl
  | [], y :: b, _, _, h => by have := (h y).2 (by simp); simp at this
  | x :: a, [], _, _, h => by have := (h x).1 (by simp); simp at this
  | x :: a, y :: b, ha, hb, h => by
    have ha' := List.pairwise_cons.1 ha
    have hb' := List.pairwise_cons.1 hb
    have hx : x ∈ y :: b := (h x).1 (by simp)
    have hy : y ∈ x :: a := (h y).2 (by simp)
    have e : x = y := by
      rcases List.mem_cons.1 hx with e | hx
      · exact e
      · rcases List.mem_cons.1 hy with e | hy
        · exact e.symm
        · have := ha'.1 _ hy; have := hb'.1 _ hx; omega
    subst e
    rw [sorted_eq g a b ha'.2 hb'.2 fun z => ?_]
    constructor
    · intro hz
      rcases List.mem_cons.1 ((h z).1 (List.mem_cons_of_mem _ hz)) with e | hz'
      · subst e; have := ha'.1 _ hz; omega
      · exact hz'
    · intro hz
      rcases List.mem_cons.1 ((h z).2 (List.mem_cons_of_mem _ hz)) with e | hz'
      · subst e; have := hb'.1 _ hz; omega
      · exact hz'

theorem Res.sub {R R' : List (α × Nat)} (h : Res f P k R) (h' : Res f P k R') {c : α × Nat} (hc : c ∈ R) : c ∈ R' := by
  obtain ⟨c', hc', i, hi, e⟩ := h'.2.2 c.1 (h.1 c hc).1.1
  rw [(h.1 c hc).same (h'.1 c' hc') hi e]
  exact hc'

/-- There is one answer. -/
theorem Res.unique {R R' : List (α × Nat)} (h : Res f P k R) (h' : Res f P k R') : R = R' :=
  sorted_eq (fun c => k c.1) R R' h.2.1 h'.2.1 fun _ => ⟨fun hc => h.sub h' hc, fun hc => h'.sub h hc⟩

/-! What was walked so far. -/

theorem Tk.fore {R : List (α × Nat)} {t : α} (hR : ∀ c ∈ R, Cyc f P c.1 c.2) (h : Tk f R t) : Tk f R (f t) := by
  obtain ⟨c, hc, i, hi, rfl⟩ := h
  refine ⟨c, hc, (i + 1) % c.2, Nat.mod_lt _ (hR c hc).2.1, ?_⟩
  rw [← (hR c hc).mod]; rfl

theorem Tk.back (H : Step f P k) {R : List (α × Nat)} {t : α} (hR : ∀ c ∈ R, Cyc f P c.1 c.2) (ht : P t) (h : Tk f R (f t)) : Tk f R t := by
  obtain ⟨c, hc, i, hi, e⟩ := h
  have hp := (hR c hc).1
  cases i with
  | zero =>
    obtain ⟨m, hm⟩ : ∃ m, c.2 = m + 1 := ⟨c.2 - 1, by omega⟩
    have e2 : c.1 = f (it f m c.1) := by have := (hR c hc).2.2.1; rw [hm] at this; exact this.symm
    exact ⟨c, hc, m, by omega, H.inj _ _ ht (H.its hp m) (e.trans e2)⟩
  | succ i => exact ⟨c, hc, i, by omega, H.inj _ _ ht (H.its hp i) e⟩

theorem Tk.backs (H : Step f P k) {R : List (α × Nat)} {t : α} (hR : ∀ c ∈ R, Cyc f P c.1 c.2) (ht : P t) (n : Nat) (h : Tk f R (it f n t)) : Tk f R t := by
  induction n with
  | zero => exact h
  | succ n ih => exact ih (h.back H hR (H.its ht n))

/-- A walk from s that has gone m steps over what was not taken: m sides, no two the same. -/
def Run (f : α → α) (s : α) (m : Nat) : Prop := ∀ i j, i < j → j < m → it f i s ≠ it f j s

theorem Run.zero (s : α) : Run f s 0 := fun _ _ _ h => absurd h (Nat.not_lt_zero _)
theorem Run.succ {s : α} {m : Nat} (h : Run f s m) (hn : ∀ i, i < m → it f i s ≠ it f m s) : Run f s (m + 1) := by
  intro i j hij hj
  rcases Nat.lt_or_ge j m with h1 | h1
  · exact h i j hij h1
  · obtain rfl : j = m := by omega
    exact hn i hij

/-- Where a walk comes upon what is taken, it is back on its first side. -/
theorem Run.done (H : Step f P k) {R : List (α × Nat)} {s : α} {m : Nat} (hR : ∀ c ∈ R, Cyc f P c.1 c.2) (hs : P s) (hn : ¬ Tk f R s) (hm : 0 < m) (h : Run f s m) (he : Tk f R (it f m s) ∨ ∃ i, i < m ∧ it f m s = it f i s) : Cyc f P s m := by
  rcases he with he | ⟨i, hi, e⟩
  · exact absurd (he.backs H hR hs m) hn
  · cases i with
    | zero => exact ⟨hs, hm, e, h⟩
    | succ i =>
      obtain ⟨q, rfl⟩ : ∃ q, m = q + 1 := ⟨m - 1, by omega⟩
      have := H.inj _ _ (H.its hs q) (H.its hs i) e
      exact absurd this.symm (h i q (by omega) (by omega))

theorem least_of (g : Nat → Int) : ∀ n, 0 < n → ∃ i, i < n ∧ ∀ j, j < n → g i ≤ g j
  | 0, h => absurd h (Nat.lt_irrefl _)
  | 1, _ => ⟨0, by omega, fun j hj => by obtain rfl : j = 0 := by omega
                                         exact Int.le_refl _⟩
  | n + 2, _ => by
    obtain ⟨i, hi, hl⟩ := least_of g (n + 1) (by omega)
    by_cases h : g i ≤ g (n + 1)
    · refine ⟨i, by omega, fun j hj => ?_⟩
      rcases Nat.lt_or_ge j (n + 1) with h1 | h1
      · exact hl j h1
      · obtain rfl : j = n + 1 := by omega
        exact h
    · refine ⟨n + 1, by omega, fun j hj => ?_⟩
      rcases Nat.lt_or_ge j (n + 1) with h1 | h1
      · have := hl j h1; omega
      · obtain rfl : j = n + 1 := by omega
        exact Int.le_refl _

/-- On a cycle there is one side that begins ahead of all the others. -/
theorem Cyc.first (H : Step f P k) {s : α} {n : Nat} (h : Cyc f P s n) {i : Nat} (_hi : i < n) (hl : ∀ j, j < n → k (it f i s) ≤ k (it f j s)) : k (it f i s) < k (f (it f i s)) ∧ ∀ j, j < n → j ≠ i → k (it f i s) < k (it f j s) := by
  have hl' : ∀ m, k (it f i s) ≤ k (it f m s) := fun m => by rw [h.mod m]; exact hl _ (Nat.mod_lt _ h.2.1)
  have up : ∀ m, k (it f i s) = k (it f m s) → k (it f m s) < k (f (it f m s)) := fun m e => by
    have a := hl' (m + 1)
    have b := H.ne _ (H.its h.1 m)
    simp only [it] at a
    omega
  refine ⟨up i rfl, fun j hj hne => ?_⟩
  have a := hl j hj
  by_cases e : k (it f i s) = k (it f j s)
  · have := H.one _ _ (H.its h.1 i) (H.its h.1 j) e (up i rfl) (up j e)
    rcases Nat.lt_or_ge i j with h1 | h1
    · exact absurd this (h.2.2.2 i j h1 hj)
    · exact absurd this.symm (h.2.2.2 j i (by omega) _hi)
  · omega

/-- A walk from a side that leads onward, when all such sides ahead of it are taken: from the cycle's first point. -/
theorem Cyc.canon (H : Step f P k) {R : List (α × Nat)} {s : α} {n : Nat} (hR : ∀ c ∈ R, Cyc f P c.1 c.2) (h : Cyc f P s n) (hn : ¬ Tk f R s) (hb : ∀ t, P t → k t < k s → k t < k (f t) → Tk f R t) : Canon f P k (s, n) := by
  obtain ⟨i, hi, hl⟩ := least_of (fun i => k (it f i s)) n h.2.1
  have hf := h.first H hi hl
  have i0 : i = 0 := by
    rcases Nat.eq_zero_or_pos i with e | e
    · exact e
    · have lt := hf.2 0 h.2.1 (by omega)
      exact absurd ((hb _ (H.its h.1 i) lt hf.1).backs H hR h.1 i) hn
  subst i0
  exact ⟨h, fun j h0 hj => hf.2 j hj (by omega)⟩

/-- When all sides that lead onward are taken, all are. -/
theorem all_taken (H : Step f P k) {R : List (α × Nat)} (hR : ∀ c ∈ R, Cyc f P c.1 c.2) (hb : ∀ t, P t → k t < k (f t) → Tk f R t) (t : α) (ht : P t) : Tk f R t := by
  have key : ∀ (m : Nat) (t : α), P t → k t < m → Tk f R t := by
    intro m
    induction m with
    | zero => intro t ht hlt; have := H.low t ht; omega
    | succ m ih =>
      intro t ht hlt
      by_cases h : k t < k (f t)
      · exact hb t ht h
      · have := H.ne t ht
        exact (ih (f t) (H.on t ht) (by omega)).back H hR ht
  exact key (k t).toNat.succ t ht (by have := H.low t ht; omega)

/-- A cycle, begun with another of its sides. -/
theorem Cyc.turn (H : Step f P k) {s : α} {n : Nat} (h : Cyc f P s n) (i : Nat) : Cyc f P (it f i s) n := by
  refine ⟨H.its h.1 i, h.2.1, ?_, fun a b hab hb e => ?_⟩
  · rw [← it_add, Nat.add_comm, it_add, h.2.2.1]
  · rw [← it_add, ← it_add, Nat.add_comm a, Nat.add_comm b, it_add, it_add] at e
    exact h.2.2.2 a b hab hb (H.its_inj (H.its h.1 a) (H.its h.1 b) i e)

theorem Cyc.canon_turn (H : Step f P k) {s : α} {n : Nat} (h : Cyc f P s n) {i : Nat} (hi : i < n) (hl : ∀ j, j < n → k (it f i s) ≤ k (it f j s)) : Canon f P k (it f i s, n) := by
  refine ⟨h.turn H i, fun j h0 hj => ?_⟩
  show k (it f i s) < k (it f j (it f i s))
  rw [← it_add, h.mod (j + i)]
  refine (h.first H hi hl).2 _ (Nat.mod_lt _ h.2.1) fun e => ?_
  have e2 : it f (j + i) s = it f i s := by rw [h.mod (j + i), e]
  rw [it_add] at e2
  exact (h.turn H i).2.2.2 0 j h0 hj e2.symm

end
end Go.Proofs.YtljfiefobnncaabDoor.Qm

/- Sides of black and white, and the one that comes behind each. Nothing of the program stands here. -/
namespace Go.Proofs.YtljfiefobnncaabDoor.Qm

/-- A side: where it begins, and which way it goes (0 down, 1 to the right, 2 up, 3 to the left). -/
abbrev Sd : Type := Int × Int × Nat

/-- With the four pixels around a point: does a side begin there, that way? -/
def outQ (nw ne se sw : Bool) : Nat → Bool
  | 0 => se && !sw
  | 1 => ne && !se
  | 2 => nw && !ne
  | 3 => sw && !nw
  | _ => false
/-- Does one end there? -/
def inQ (nw ne se sw : Bool) : Nat → Bool
  | 0 => ne && !nw
  | 1 => nw && !sw
  | 2 => sw && !se
  | 3 => se && !ne
  | _ => false
/-- Which way one goes on. -/
def nextD (j nw ne se sw : Bool) (d : Nat) : Nat :=
  if outQ nw ne se sw (if j then (d + 3) % 4 else (d + 1) % 4) then (if j then (d + 3) % 4 else (d + 1) % 4)
  else if outQ nw ne se sw d then d else (if j then (d + 1) % 4 else (d + 3) % 4)

theorem next_out : ∀ (j nw ne se sw : Bool) (d : Fin 4), inQ nw ne se sw d = true → outQ nw ne se sw (nextD j nw ne se sw d) = true := by decide
theorem next_inj : ∀ (j nw ne se sw : Bool) (d e : Fin 4), inQ nw ne se sw d = true → inQ nw ne se sw e = true → nextD j nw ne se sw d = nextD j nw ne se sw e → d = e := by decide
theorem next_lt : ∀ (j nw ne se sw : Bool) (d : Fin 4), nextD j nw ne se sw d < 4 := by decide
theorem next_no_back : ∀ (j nw ne se sw : Bool) (d : Fin 4), inQ nw ne se sw d = true → nextD j nw ne se sw d ≠ (d.val + 2) % 4 := by decide
theorem outQ_lt {nw ne se sw : Bool} {d : Nat} (h : outQ nw ne se sw d = true) : d < 4 := by
  match d, h with
  | 0, _ => omega
  | 1, _ => omega
  | 2, _ => omega
  | 3, _ => omega
  | d + 4, h => simp [outQ] at h

/-- Is it a side? -/
def isS (bl : Int → Int → Bool) (s : Sd) : Bool := outQ (bl (s.1 - 1) (s.2.1 - 1)) (bl s.1 (s.2.1 - 1)) (bl s.1 s.2.1) (bl (s.1 - 1) s.2.1) s.2.2
/-- Where it ends. -/
def en (s : Sd) : Int × Int :=
  match s.2.2 with
  | 0 => (s.1, s.2.1 + 1)
  | 1 => (s.1 + 1, s.2.1)
  | 2 => (s.1, s.2.1 - 1)
  | 3 => (s.1 - 1, s.2.1)
  | _ => (s.1, s.2.1)
def nxD (bl jn : Int → Int → Bool) (p : Int × Int) (d : Nat) : Nat := nextD (jn p.1 p.2) (bl (p.1 - 1) (p.2 - 1)) (bl p.1 (p.2 - 1)) (bl p.1 p.2) (bl (p.1 - 1) p.2) d
/-- The side behind it. -/
def nx (bl jn : Int → Int → Bool) (s : Sd) : Sd := ((en s).1, (en s).2, nxD bl jn (en s) s.2.2)
/-- Where it begins, as a number. -/
def key (s : Sd) : Int := 33 * s.2.1 + s.1

theorem isS_lt {bl : Int → Int → Bool} {s : Sd} (h : isS bl s = true) : s.2.2 < 4 := outQ_lt h
theorem isS_in (bl : Int → Int → Bool) (s : Sd) : isS bl s = inQ (bl ((en s).1 - 1) ((en s).2 - 1)) (bl (en s).1 ((en s).2 - 1)) (bl (en s).1 (en s).2) (bl ((en s).1 - 1) (en s).2) s.2.2 := by
  obtain ⟨x, y, d⟩ := s
  match d with
  | 0 => simp [isS, en, outQ, inQ]
  | 1 => simp [isS, en, outQ, inQ]
  | 2 => simp [isS, en, outQ, inQ]
  | 3 => simp [isS, en, outQ, inQ]
  | d + 4 => simp [isS, outQ, inQ]

theorem nx_isS {bl jn : Int → Int → Bool} {s : Sd} (h : isS bl s = true) : isS bl (nx bl jn s) = true := by
  have hd := isS_lt h
  rw [isS_in] at h
  exact next_out _ _ _ _ _ ⟨s.2.2, hd⟩ h

theorem nx_inj {bl jn : Int → Int → Bool} {s t : Sd} (hs : isS bl s = true) (ht : isS bl t = true) (e : nx bl jn s = nx bl jn t) : s = t := by
  have h1 := isS_lt hs
  have h2 := isS_lt ht
  have e1 : en s = en t := Prod.ext (congrArg (fun s : Sd => s.1) e) (congrArg (fun s : Sd => s.2.1) e)
  have e2 : nxD bl jn (en s) s.2.2 = nxD bl jn (en t) t.2.2 := congrArg (fun s : Sd => s.2.2) e
  rw [isS_in] at hs ht
  rw [← e1] at ht e2
  have e3 : s.2.2 = t.2.2 := by
    have := next_inj _ _ _ _ _ ⟨s.2.2, h1⟩ ⟨t.2.2, h2⟩ hs ht e2
    exact congrArg Fin.val this
  obtain ⟨x, y, d⟩ := s
  obtain ⟨x', y', d'⟩ := t
  simp only at e3
  subst e3
  have a := congrArg Prod.fst e1
  have b := congrArg Prod.snd e1
  match d, h1 with
  | 0, _ => simp [en] at a b; simp; omega
  | 1, _ => simp [en] at a b; simp; omega
  | 2, _ => simp [en] at a b; simp; omega
  | 3, _ => simp [en] at a b; simp; omega

/-- A picture: black within its bounds alone. -/
structure Pic (bl : Int → Int → Bool) (W H : Int) : Prop where
  box : ∀ x y, bl x y = true → 0 ≤ x ∧ x < W ∧ 0 ≤ y ∧ y < H
  w : W ≤ 32
  h : H ≤ 32

theorem side_in {bl : Int → Int → Bool} {W H : Int} (hp : Pic bl W H) {s : Sd} (h : isS bl s = true) : 0 ≤ s.1 ∧ s.1 ≤ W ∧ 0 ≤ s.2.1 ∧ s.2.1 ≤ H := by
  have hd := isS_lt h
  obtain ⟨x, y, d⟩ := s
  match d, hd with
  | 0, _ => simp [isS, outQ] at h; have := hp.box _ _ h.1; simp only; omega
  | 1, _ => simp [isS, outQ] at h; have := hp.box _ _ h.1; simp only; omega
  | 2, _ => simp [isS, outQ] at h; have := hp.box _ _ h.1; simp only; omega
  | 3, _ => simp [isS, outQ] at h; have := hp.box _ _ h.1; simp only; omega

theorem key_nx (bl jn : Int → Int → Bool) (s : Sd) (h : s.2.2 < 4) : key (nx bl jn s) = key s + (if s.2.2 = 0 then 33 else if s.2.2 = 1 then 1 else if s.2.2 = 2 then -33 else -1) := by
  obtain ⟨x, y, d⟩ := s
  match d, h with
  | 0, _ => simp [key, nx, en]; omega
  | 1, _ => simp [key, nx, en]; omega
  | 2, _ => simp [key, nx, en]; omega
  | 3, _ => simp [key, nx, en]; omega

theorem step {bl : Int → Int → Bool} {W H : Int} (hp : Pic bl W H) (jn : Int → Int → Bool) : Step (nx bl jn) (fun s => isS bl s = true) key where
  on _ h := nx_isS h
  inj _ _ hs ht e := nx_inj hs ht e
  ne s h := by have := isS_lt h; rw [key_nx _ _ _ this]; split <;> (try split) <;> (try split) <;> omega
  low s h := by have := side_in hp h; unfold key; omega
  one s t hs ht e us ut := by
    have a := side_in hp hs
    have b := side_in hp ht
    have w := hp.w
    have hs' := isS_lt hs
    have ht' := isS_lt ht
    rw [key_nx _ _ _ hs'] at us
    rw [key_nx _ _ _ ht'] at ut
    obtain ⟨x, y, d⟩ := s
    obtain ⟨x', y', d'⟩ := t
    simp only [key] at e a b us ut hs' ht'
    have e1 : x = x' := by omega
    have e2 : y = y' := by omega
    subst e1 e2
    have d1 : d = 0 ∨ d = 1 := by
      match d, hs' with
      | 0, _ => simp
      | 1, _ => simp
      | 2, _ => simp at us; omega
      | 3, _ => simp at us; omega
    have d2 : d' = 0 ∨ d' = 1 := by
      match d', ht' with
      | 0, _ => simp
      | 1, _ => simp
      | 2, _ => simp at ut; omega
      | 3, _ => simp at ut; omega
    rcases d1 with rfl | rfl <;> rcases d2 with rfl | rfl <;> simp [isS, outQ] at hs ht ⊢
    · rw [hs.1] at ht; exact absurd ht.2 (by simp)
    · rw [ht.1] at hs; exact absurd hs.2 (by simp)

/-- A number for a side, another for each. -/
def codeS (s : Sd) : Int := key s * 4 + s.2.2
theorem code_inj {bl : Int → Int → Bool} {W H : Int} (hp : Pic bl W H) {s t : Sd} (hs : isS bl s = true) (ht : isS bl t = true) (e : codeS s = codeS t) : s = t := by
  have a := side_in hp hs
  have b := side_in hp ht
  have w := hp.w
  have h1 := isS_lt hs
  have h2 := isS_lt ht
  obtain ⟨x, y, d⟩ := s
  obtain ⟨x', y', d'⟩ := t
  simp only [codeS, key] at e a b h1 h2
  have e1 : d = d' := by omega
  have e2 : x = x' := by omega
  have e3 : y = y' := by omega
  subst e1 e2 e3
  rfl
theorem code_in {bl : Int → Int → Bool} {W H : Int} (hp : Pic bl W H) {s : Sd} (hs : isS bl s = true) : 0 ≤ codeS s ∧ codeS s < 4356 := by
  have a := side_in hp hs
  have w := hp.w
  have h := hp.h
  have h1 := isS_lt hs
  simp only [codeS, key]; omega

/-- Where a side begins. -/
def fromP (s : Sd) : Int × Int := (s.1, s.2.1)
/-- The points of a cycle. -/
def ptsOf (f : Sd → Sd) (c : Sd × Nat) : List (Int × Int) := (List.range c.2).map fun i => fromP (it f i c.1)
def cross (p q : Int × Int) : Int := p.2 * q.1 - p.1 * q.2
/-- Twice the area, line by line. -/
def twiceOf (l : List (Int × Int)) : Int := ((List.range l.length).map fun i => cross (l.getD i (0, 0)) (l.getD ((i + 1) % l.length) (0, 0))).sum
/-- The shapes of the answer. -/
def shapesOf (f : Sd → Sd) (R : List (Sd × Nat)) : List (List (Int × Int) × Int) := R.map fun c => (ptsOf f c, twiceOf (ptsOf f c))

/-- The pixel on the left of a side, and the one on its right. -/
def lpx (x : Int) (d : Nat) : Int := if d = 3 ∨ (d + 1) % 4 = 3 then x - 1 else x
def lpy (y : Int) (d : Nat) : Int := if d = 2 ∨ (d + 1) % 4 = 2 then y - 1 else y
def rpx (x : Int) (d : Nat) : Int := if d = 3 ∨ (d + 3) % 4 = 3 then x - 1 else x
def rpy (y : Int) (d : Nat) : Int := if d = 2 ∨ (d + 3) % 4 = 2 then y - 1 else y
theorem isS_lr (bl : Int → Int → Bool) (x y : Int) (d : Nat) (hd : d < 4) : isS bl (x, y, d) = (bl (lpx x d) (lpy y d) && !bl (rpx x d) (rpy y d)) := by
  match d, hd with
  | 0, _ => rfl
  | 1, _ => rfl
  | 2, _ => rfl
  | 3, _ => rfl

end Go.Proofs.YtljfiefobnncaabDoor.Qm

/- Plain facts on bytes and lists for the bitmap files: nothing of the program stands here. -/
namespace Go.Proofs.YtljfiefobnncaabDoor.Pm

/-- May the byte stand for a pixel? -/
def okPix (c : UInt8) : Bool := c == 48 || c == 49
/-- May the number be a side? -/
def sideB (n : Int) : Bool := decide (1 ≤ n ∧ n ≤ 32)
theorem sideB_yes {n : Int} (h1 : 1 ≤ n) (h2 : n ≤ 32) : sideB n = true := decide_eq_true ⟨h1, h2⟩
theorem sideB_low {n : Int} (h1 : ¬ 1 ≤ n) : sideB n = false := decide_eq_false (by omega)
theorem sideB_high {n : Int} (h1 : ¬ n ≤ 32) : sideB n = false := decide_eq_false (by omega)
theorem sideB_bounds {n : Int} (h : sideB n = true) : 1 ≤ n ∧ n ≤ 32 := of_decide_eq_true h
theorem area_le {w h : Int} (h1 : 1 ≤ w) (h2 : w ≤ 32) (h3 : 1 ≤ h) (h4 : h ≤ 32) : 1 ≤ w * h ∧ w * h ≤ 1024 := by
  have a : 1 * 1 ≤ w * h := Int.mul_le_mul h1 h3 (by omega) (by omega)
  have b : w * h ≤ 32 * 32 := Int.mul_le_mul h2 h4 (by omega) (by omega)
  omega
/-- Are W, H, s a bitmap? -/
def goodB (w h : Int) (s : List UInt8) : Bool := sideB w && sideB h && decide ((s.length : Int) = w * h) && s.all okPix
theorem goodB_w {w h : Int} {s : List UInt8} (h1 : sideB w = false) : goodB w h s = false := by simp [goodB, h1]
theorem goodB_h {w h : Int} {s : List UInt8} (h1 : sideB h = false) : goodB w h s = false := by simp [goodB, h1]
theorem goodB_len {w h : Int} {s : List UInt8} (h1 : ¬ (s.length : Int) = w * h) : goodB w h s = false := by simp [goodB, h1]
theorem goodB_pix {w h : Int} {s : List UInt8} (k : Nat) (hk : k < s.length) (h1 : okPix s[k] = false) : goodB w h s = false := by
  have : s.all okPix = false := by
    rw [List.all_eq_false]; exact ⟨s[k], List.getElem_mem hk, by simp [h1]⟩
  simp [goodB, this]
theorem goodB_yes {w h : Int} {s : List UInt8} (h1 : sideB w = true) (h2 : sideB h = true) (h3 : (s.length : Int) = w * h) (h4 : s.all okPix = true) : goodB w h s = true := by simp [goodB, h1, h2, h3, h4]
theorem all_take_succ (s : List UInt8) (k : Nat) (hk : k < s.length) (h : (s.take k).all okPix = true) (h1 : okPix s[k] = true) : (s.take (k + 1)).all okPix = true := by
  rw [List.take_succ_eq_append_getElem hk]; simp only [List.all_append, h, List.all_cons, h1, List.all_nil, Bool.and_self]
theorem okPix_of (c : UInt8) (h : (c.toNat : Int) = 48 ∨ (c.toNat : Int) = 49) : okPix c = true := by
  have e : ∀ c : UInt8, c.toNat = 48 ∨ c.toNat = 49 → okPix c = true := by
    intro c h
    rcases h with h | h
    · have : c = 48 := UInt8.toNat_inj.1 h
      subst this; rfl
    · have : c = 49 := UInt8.toNat_inj.1 h
      subst this; rfl
  exact e c (by omega)
theorem okPix_not (c : UInt8) (h1 : ¬ (c.toNat : Int) = 48) (h2 : ¬ (c.toNat : Int) = 49) : okPix c = false := by
  have a : c ≠ 48 := fun e => h1 (by subst e; rfl)
  have b : c ≠ 49 := fun e => h2 (by subst e; rfl)
  simp [okPix, a, b]
theorem all_step (s : ByteArray) (k : Nat) (hk : k < s.size) (h : (s.data.toList.take k).all okPix = true) (h1 : (s[k].toNat : Int) = 48 ∨ (s[k].toNat : Int) = 49) : (s.data.toList.take (k + 1)).all okPix = true :=
  all_take_succ s.data.toList k (by simpa using hk) h (okPix_of _ h1)
theorem goodB_bad {w h : Int} (s : ByteArray) (k : Nat) (hk : k < s.size) (h1 : ¬ (s[k].toNat : Int) = 48) (h2 : ¬ (s[k].toNat : Int) = 49) : goodB w h s.data.toList = false :=
  goodB_pix k (by simpa using hk) (okPix_not _ h1 h2)
/-- Is there a '1' at place i? -/
def bitAt (l : List UInt8) (i : Nat) : Bool := l[i]? == some 49
/-- The first n bits of f, as a number, the first of them the highest. -/
def packV (f : Nat → Bool) : Nat → Nat
  | 0 => 0
  | n + 1 => 2 * packV f n + if f n then 1 else 0
theorem packV_lt (f : Nat → Bool) : ∀ n, packV f n < 2 ^ n
  | 0 => by simp [packV]
  | n + 1 => by have := packV_lt f n; simp only [packV, Nat.pow_succ]; split <;> omega
theorem packV_le (f : Nat → Bool) (n : Nat) (h : n ≤ 8) : packV f n ≤ 255 := by
  have h1 := packV_lt f n
  have h2 : 2 ^ n ≤ 2 ^ 8 := Nat.pow_le_pow_right (by omega) h
  omega
theorem packV_le' (f : Nat → Bool) (n : Nat) (h : n < 8) : packV f n ≤ 127 := by
  have h1 := packV_lt f n
  have h2 : 2 ^ n ≤ 2 ^ 7 := Nat.pow_le_pow_right (by omega) (by omega)
  omega
theorem packV_yes (f : Nat → Bool) (n : Nat) (h : f n = true) : packV f (n + 1) = 2 * packV f n + 1 := by simp [packV, h]
theorem packV_no (f : Nat → Bool) (n : Nat) (h : f n = false) : packV f (n + 1) = 2 * packV f n := by simp [packV, h]
theorem packV_congr (f g : Nat → Bool) : ∀ n, (∀ i, i < n → f i = g i) → packV f n = packV g n
  | 0, _ => rfl
  | n + 1, h => by simp only [packV]; rw [packV_congr f g n (fun i hi => h i (by omega)), h n (by omega)]
theorem bitAt_yes (s : ByteArray) (i : Nat) (h : i < s.size) (h1 : (s[i].toNat : Int) = 49) : bitAt s.data.toList i = true := by
  have : s[i] = 49 := UInt8.toNat_inj.1 (by rw [show UInt8.toNat 49 = 49 from rfl]; omega)
  have e : s.data.toList[i]? = some s[i] := by rw [List.getElem?_eq_getElem (by simpa using h)]; rfl
  simp [bitAt, e, this]
theorem bitAt_no (s : ByteArray) (i : Nat) (h : i < s.size) (h1 : ¬ (s[i].toNat : Int) = 49) : bitAt s.data.toList i = false := by
  have : s[i] ≠ 49 := fun e => h1 (by rw [e]; rfl)
  have e : s.data.toList[i]? = some s[i] := by rw [List.getElem?_eq_getElem (by simpa using h)]; rfl
  simp [bitAt, e, this]
theorem bitAt_out (s : ByteArray) (i : Nat) (h : ¬ i < s.size) : bitAt s.data.toList i = false := by
  have e : s.data.toList[i]? = none := by rw [List.getElem?_eq_none]; simpa using h
  simp [bitAt, e]
/-- The byte of the eight pixels from place i on. -/
def byteAt (l : List UInt8) (i : Nat) : UInt8 := UInt8.ofNat (packV (fun k => bitAt l (i + k)) 8)
theorem byteAt_toNat (l : List UInt8) (i : Nat) : (byteAt l i).toNat = packV (fun k => bitAt l (i + k)) 8 := by
  have := packV_le (fun k => bitAt l (i + k)) 8 (Nat.le_refl _)
  simp only [byteAt, UInt8.toNat_ofNat']; omega
/-- The first m packed bytes of a row. -/
def packTo (l : List UInt8) (m : Nat) : List UInt8 := (List.range m).map fun j => byteAt l (8 * j)
theorem packTo_succ (l : List UInt8) (m : Nat) : packTo l (m + 1) = packTo l m ++ [byteAt l (8 * m)] := by simp [packTo, List.range_succ]
theorem packTo_length (l : List UInt8) (m : Nat) : (packTo l m).length = m := by simp [packTo]
/-- A packed row. -/
def packRow (l : List UInt8) : List UInt8 := packTo l ((l.length + 7) / 8)
/-- The decimal digits of a number below 100. -/
def itoaL (n : Nat) : List UInt8 := if n < 10 then [48 + n.toUInt8] else [48 + (n / 10).toUInt8, 48 + (n % 10).toUInt8]
/-- The two constants out of which small numbers are cut. -/
def tenDigits : ByteArray := ⟨#[48, 49, 50, 51, 52, 53, 54, 55, 56, 57, 97, 98, 99, 100, 101, 102, 103, 104, 105, 106, 107, 108, 109, 110, 111, 112, 113, 114, 115, 116, 117, 118, 119, 120, 121, 122]⟩
def smalls : ByteArray := ⟨(([48, 48, 48, 49, 48, 50, 48, 51, 48, 52, 48, 53, 48, 54, 48, 55, 48, 56, 48, 57, 49, 48, 49, 49, 49, 50, 49, 51, 49, 52, 49, 53, 49, 54, 49, 55, 49, 56, 49, 57, 50, 48, 50, 49, 50, 50, 50, 51, 50, 52].append [50, 53, 50, 54, 50, 55, 50, 56, 50, 57, 51, 48, 51, 49, 51, 50, 51, 51, 51, 52, 51, 53, 51, 54, 51, 55, 51, 56, 51, 57, 52, 48, 52, 49, 52, 50, 52, 51, 52, 52, 52, 53, 52, 54, 52, 55, 52, 56, 52, 57]).append ([53, 48, 53, 49, 53, 50, 53, 51, 53, 52, 53, 53, 53, 54, 53, 55, 53, 56, 53, 57, 54, 48, 54, 49, 54, 50, 54, 51, 54, 52, 54, 53, 54, 54, 54, 55, 54, 56, 54, 57, 55, 48, 55, 49, 55, 50, 55, 51, 55, 52].append [55, 53, 55, 54, 55, 55, 55, 56, 55, 57, 56, 48, 56, 49, 56, 50, 56, 51, 56, 52, 56, 53, 56, 54, 56, 55, 56, 56, 56, 57, 57, 48, 57, 49, 57, 50, 57, 51, 57, 52, 57, 53, 57, 54, 57, 55, 57, 56, 57, 57])).toArray⟩
theorem cut_one : ∀ n, n < 10 → tenDigits.extract n (n + 1) = ⟨(itoaL n).toArray⟩ := by decide +kernel
theorem cut_two : ∀ n, n < 33 → 10 ≤ n → smalls.extract (n * 2) (n * 2 + 2) = ⟨(itoaL n).toArray⟩ := by decide +kernel
theorem cut_two' (n : Nat) (h : n < 33) (h1 : 10 ≤ n) (a b : Nat) (ha : a = n * 2) (hb : b = n * 2 + 2) : smalls.extract a b = ⟨(itoaL n).toArray⟩ := by subst ha hb; exact cut_two n h h1
end Go.Proofs.YtljfiefobnncaabDoor.Pm

/- Plain facts on whole files. -/
namespace Go.Proofs.YtljfiefobnncaabDoor.Pm
theorem itoaL_len (n : Nat) : 1 ≤ (itoaL n).length ∧ (itoaL n).length ≤ 2 := by unfold itoaL; split <;> simp
/-- What stands ahead of the pixels. -/
def headL (w h : Nat) : List UInt8 := [80, 52, 10] ++ itoaL w ++ [32] ++ itoaL h ++ [10]
/-- Row y of the pixels. -/
def rowOf (l : List UInt8) (w y : Nat) : List UInt8 := (l.drop (y * w)).take w
/-- The file as far as its first y rows. -/
def writeTo (w h : Nat) (l : List UInt8) (y : Nat) : List UInt8 := headL w h ++ (List.range y).flatMap fun y => packRow (rowOf l w y)
theorem writeTo_succ (w h : Nat) (l : List UInt8) (y : Nat) : writeTo w h l (y + 1) = writeTo w h l y ++ packRow (rowOf l w y) := by
  simp [writeTo, List.range_succ]
theorem rowOf_len (l : List UInt8) (w h y : Nat) (hl : l.length = w * h) (hy : y < h) : (rowOf l w y).length = w := by
  have : (y + 1) * w ≤ w * h := by rw [Nat.mul_comm w h]; exact Nat.mul_le_mul_right _ hy
  rw [Nat.add_mul] at this
  simp only [rowOf, List.length_take, List.length_drop]; omega
theorem packRow_len (l : List UInt8) : (packRow l).length = (l.length + 7) / 8 := by simp [packRow, packTo_length]
theorem extract_row (s : ByteArray) (w y a b : Nat) (ha : a = y * w) (hb : b = (y + 1) * w) : (s.extract a b).data.toList = rowOf s.data.toList w y := by
  subst ha hb
  simp only [ByteArray.data_extract, Array.toList_extract, List.extract_eq_take_drop, rowOf]
  congr 1
  rw [Nat.add_mul]; omega
theorem span (w h y : Nat) (hy : y < h) : (y + 1) * w ≤ w * h ∧ y * w + w = (y + 1) * w := by
  refine ⟨?_, by rw [Nat.add_mul]; omega⟩
  rw [Nat.mul_comm w h]; exact Nat.mul_le_mul_right _ hy
theorem area_nat (w h : Nat) (h1 : w ≤ 32) (h2 : h ≤ 32) : w * h ≤ 1024 := Nat.mul_le_mul h1 h2
theorem head_data (w h : Nat) {l : List UInt8} : ((⟨#[80, 52, 10]⟩ : ByteArray) ++ ⟨(itoaL w).toArray⟩ ++ ⟨#[32]⟩ ++ ⟨(itoaL h).toArray⟩ ++ ⟨#[10]⟩).data.toList = writeTo w h l 0 := by
  simp [writeTo, headL]
theorem head_size (w h : Nat) : ((⟨#[80, 52, 10]⟩ : ByteArray) ++ ⟨(itoaL w).toArray⟩ ++ ⟨#[32]⟩ ++ ⟨(itoaL h).toArray⟩ ++ ⟨#[10]⟩).size ≤ 20 + 4 * 0 := by
  have := itoaL_len w
  have := itoaL_len h
  simp only [ByteArray.size_append]
  show 3 + (itoaL w).length + 1 + (itoaL h).length + 1 ≤ _
  omega
theorem step_data (F : ByteArray) (w h y : Nat) (l : List UInt8) (hF : F.data.toList = writeTo w h l y) : (F ++ ⟨(packRow (rowOf l w y)).toArray⟩).data.toList = writeTo w h l (y + 1) := by
  rw [writeTo_succ, ← hF]; simp
theorem step_size (F : ByteArray) (p : List UInt8) (n : Nat) (h : F.size ≤ 20 + 4 * n) (hp : p.length ≤ 4) : (F ++ ⟨p.toArray⟩).size ≤ 20 + 4 * (n + 1) := by
  simp only [ByteArray.size_append]
  show F.size + p.length ≤ _
  omega
theorem of_data (F : ByteArray) (l : List UInt8) (h : F.data.toList = l) : F = ⟨l.toArray⟩ := by subst h; simp
/-- Is the pixel black? -/
def blackB (w h : Nat) (l : List UInt8) (x y : Int) : Bool := decide (0 ≤ x ∧ 0 ≤ y ∧ x < w ∧ y < h) && bitAt l (y * w + x).toNat
theorem blackB_out (w h : Nat) (l : List UInt8) (x y : Int) (hx : ¬ (0 ≤ x ∧ 0 ≤ y ∧ x < w ∧ y < h)) : blackB w h l x y = false := by simp only [blackB, decide_eq_false hx, Bool.false_and]
theorem blackB_in (w h : Nat) (l : List UInt8) (x y : Nat) (hx : x < w) (hy : y < h) (a : Nat) (ha : a = y * w) : blackB w h l x y = bitAt l (a + x) := by
  have : decide ((0 : Int) ≤ x ∧ (0 : Int) ≤ y ∧ (x : Int) < w ∧ (y : Int) < h) = true := decide_eq_true (by omega)
  simp only [blackB, this, Bool.true_and]
  congr 1
  subst ha
  have e : (y : Int) * (w : Int) + (x : Int) = ((y * w + x : Nat) : Int) := by simp
  rw [e, Int.toNat_natCast]
theorem black_row (w h : Nat) (l : List UInt8) (x y : Nat) (hy : y < h) : bitAt (rowOf l w y) x = blackB w h l x y := by
  by_cases hx : x < w
  · rw [blackB_in w h l x y hx hy _ rfl]
    simp only [bitAt, rowOf, List.getElem?_take, if_pos hx, List.getElem?_drop]
  · rw [blackB_out w h l x y (by omega)]
    simp only [bitAt, rowOf, List.getElem?_take, if_neg hx]; rfl
/-- The first k pixels of byte m of row y, as a number. -/
def colV (w h : Nat) (l : List UInt8) (m y k : Nat) : Nat := packV (fun i => blackB w h l (8 * (m : Int) + (i : Nat)) y) k
theorem colV_lt (w h : Nat) (l : List UInt8) (m y k : Nat) (hk : k < 8) : colV w h l m y k ≤ 127 := packV_le' _ k hk
theorem colV_le (w h : Nat) (l : List UInt8) (m y k : Nat) (hk : k ≤ 8) : colV w h l m y k ≤ 255 := packV_le _ k hk
theorem colV_yes (w h : Nat) (l : List UInt8) (m y k : Nat) (hb : blackB w h l (8 * (m : Int) + (k : Nat)) y = true) : colV w h l m y (k + 1) = 2 * colV w h l m y k + 1 := packV_yes _ k hb
theorem colV_no (w h : Nat) (l : List UInt8) (m y k : Nat) (hb : blackB w h l (8 * (m : Int) + (k : Nat)) y = false) : colV w h l m y (k + 1) = 2 * colV w h l m y k := packV_no _ k hb
theorem byte_row (w h : Nat) (l : List UInt8) (m y : Nat) (hy : y < h) : colV w h l m y 8 = (byteAt (rowOf l w y) (8 * m)).toNat := by
  rw [byteAt_toNat, colV]
  apply packV_congr
  intro i _
  rw [black_row w h l (8 * m + i) y hy]
  simp
theorem mid_data (G : ByteArray) (p r : List UInt8) (m : Nat) (h : G.data.toList = p ++ packTo r m) : (G ++ ⟨#[byteAt r (8 * m)]⟩).data.toList = p ++ packTo r (m + 1) := by
  simp [packTo_succ, h]
theorem mid_end (w h : Nat) (l : List UInt8) (y m : Nat) (hl : l.length = w * h) (hy : y < h) (h1 : 8 * m ≤ w + 7) (h2 : w ≤ 8 * m) : writeTo w h l y ++ packTo (rowOf l w y) m = writeTo w h l (y + 1) := by
  rw [writeTo_succ, packRow, rowOf_len l w h y hl hy, show m = (w + 7) / 8 from by omega]
theorem one_size (G : ByteArray) (b : UInt8) (n : Nat) (h : G.size ≤ n) : (G ++ ⟨#[b]⟩).size ≤ n + 1 := by
  simp only [ByteArray.size_append]
  show G.size + 1 ≤ _
  omega
theorem goodB_parts {w h : Int} {l : List UInt8} (hg : goodB w h l = true) : ∃ a b : Nat, w = (a : Int) ∧ h = (b : Int) ∧ 1 ≤ a ∧ a ≤ 32 ∧ 1 ≤ b ∧ b ≤ 32 ∧ l.length = a * b := by
  simp only [goodB, Bool.and_eq_true, decide_eq_true_eq] at hg
  obtain ⟨⟨⟨h1, h2⟩, h3⟩, -⟩ := hg
  have b1 := sideB_bounds h1
  have b2 := sideB_bounds h2
  obtain ⟨a, rfl⟩ := Int.eq_ofNat_of_zero_le (show 0 ≤ w by omega)
  obtain ⟨b, rfl⟩ := Int.eq_ofNat_of_zero_le (show 0 ≤ h by omega)
  refine ⟨a, b, rfl, rfl, by omega, by omega, by omega, by omega, ?_⟩
  rw [← Int.natCast_mul] at h3
  exact Int.ofNat.inj h3
end Go.Proofs.YtljfiefobnncaabDoor.Pm

/- The policies. Nothing of the program stands here. -/
namespace Go.Proofs.YtljfiefobnncaabDoor.Qm
open Pm

/-- Of the first m of the 16 pixels around a point: how many are black? -/
def cntTo (bl : Int → Int → Bool) (X Y : Int) : Nat → Nat
  | 0 => 0
  | m + 1 => cntTo bl X Y m + if bl (X - 2 + (m % 4 : Nat)) (Y - 2 + (m / 4 : Nat)) then 1 else 0
theorem cntTo_le (bl : Int → Int → Bool) (X Y : Int) (m : Nat) : cntTo bl X Y m ≤ m := by
  induction m with
  | zero => exact Nat.le_refl _
  | succ m ih => unfold cntTo; split <;> omega
theorem cntTo_yes (bl : Int → Int → Bool) (X Y : Int) (i j : Nat) (hj : j < 4) (h : bl (X - 2 + (j : Nat)) (Y - 2 + (i : Nat)) = true) : cntTo bl X Y (4 * i + (j + 1)) = cntTo bl X Y (4 * i + j) + 1 := by
  rw [← Nat.add_assoc]; show cntTo bl X Y (4 * i + j) + _ = _
  rw [show (4 * i + j) % 4 = j from by omega, show (4 * i + j) / 4 = i from by omega, h]; simp
theorem cntTo_no (bl : Int → Int → Bool) (X Y : Int) (i j : Nat) (hj : j < 4) (h : bl (X - 2 + (j : Nat)) (Y - 2 + (i : Nat)) = false) : cntTo bl X Y (4 * i + (j + 1)) = cntTo bl X Y (4 * i + j) := by
  rw [← Nat.add_assoc]; show cntTo bl X Y (4 * i + j) + _ = _
  rw [show (4 * i + j) % 4 = j from by omega, show (4 * i + j) / 4 = i from by omega, h]; simp

/-- Does one who comes to a crossing join? -/
def jnB (W H : Nat) (l : List UInt8) (pol : Int) (draws : List UInt8) (x y : Int) : Bool :=
  if pol = 0 then true
  else if pol = 2 then decide (cntTo (blackB W H l) x y 16 < 8)
  else if pol = 3 then bitAt draws (y * (W + 1) + x).toNat
  else false
theorem jnB_0 (W H : Nat) (l : List UInt8) (draws : List UInt8) (x y : Int) : jnB W H l 0 draws x y = true := rfl
theorem jnB_1 (W H : Nat) (l : List UInt8) (draws : List UInt8) (x y : Int) : jnB W H l 1 draws x y = false := rfl
theorem jnB_2 (W H : Nat) (l : List UInt8) (draws : List UInt8) (x y : Int) : jnB W H l 2 draws x y = decide (cntTo (blackB W H l) x y 16 < 8) := rfl
theorem jnB_3 (W H : Nat) (l : List UInt8) (draws : List UInt8) (x y : Int) : jnB W H l 3 draws x y = bitAt draws (y * (W + 1) + x).toNat := rfl

theorem pic_of (W H : Nat) (l : List UInt8) (hw : W ≤ 32) (hh : H ≤ 32) : Pic (blackB W H l) W H where
  box x y h := by
    by_cases hb : 0 ≤ x ∧ 0 ≤ y ∧ x < W ∧ y < H
    · omega
    · rw [blackB_out W H l x y hb] at h; exact absurd h (by simp)
  w := by omega
  h := by omega

end Go.Proofs.YtljfiefobnncaabDoor.Qm
