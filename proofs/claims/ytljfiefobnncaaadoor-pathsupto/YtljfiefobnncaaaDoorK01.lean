import Derived.Test.YtljfiefobnncaaaDoorCards
import Derived.Test.YtljfiefobnncaaaDoorTie
import Derived.WalkKit
import Derived.WalkSpells
import Derived.WalkLawsBesides
import Derived.ProofKit
import Derived.OpenShut
import Derived.SizedLaws
import Derived.Deep.DeepHandedRow
import Derived.Lib.LaidTab
import Derived.Lib.SmallJoins

/- What every law's closing wants: how a bitmap comes in, and the cells of the listed tables. -/
namespace Go.Proofs.YtljfiefobnncaaaDoor
open Go.ChangeShapes Go.WideShapes Go.ChangeAt Go.RowKit Go.Joins
open Go.ChangeMaps (open_string)

theorem own : ownKnob Tryd.prog.godebug = none := by kernel_rfl
theorem laidOut : laidOutB Tryd.prog = true := by kernel_rfl
theorem cellsBitmap : Tryd.prog.cellsOf 23 = 3 := by kernel_rfl

set_option maxRecDepth 100000 in
/-- A bitmap that comes in: two numbers and a text. -/
theorem open_bitmap {H : Type} {enc : TypeId × Value → H} {W : World} {base : Nat} {v : Value} {d : DataW H} {p : List MemPlace}
    (hv : Value.okWide Tryd.prog W .any base 23 v) (h : DataW.Trod enc Tryd.prog W 0 (fun _ => true) true 23 v d p) :
    ∃ (a b : Int) (s : ByteArray), v = .agg #[.int .i64 a, .int .i64 b, .string s] := by
  obtain ⟨c0, c1, c2, y0, y1, y2, m, rfl, -, -, hy0, hy1, hy2⟩ := open_agg3 Tryd.underlying23 (by kernel_rfl) cellsBitmap hv h
  obtain ⟨a, e0, -, -⟩ := DataW.trod_int Tryd.underlying3 hy0
  obtain ⟨b, e1, -, -⟩ := DataW.trod_int Tryd.underlying3 hy1
  obtain ⟨s, e2, -⟩ := DataW.trod_string Tryd.underlying9 hy2
  simp at e0 e1 e2
  subst e0 e1 e2
  exact ⟨a, b, s, rfl⟩

/-- The cells that a listed table's datum stands for. -/
def laidCells : DataW Unit → Array Value
  | .agg ds => (ds.map fun d => match d with | .lit (.int k n) => Value.int k n | _ => Value.bool false).toArray
  | _ => #[]
/-- A block with other cells. -/
def withCells (cs : Array Value) : Obj → Obj
  | .cells _ t frozen => .cells cs t frozen
  | o => o
end Go.Proofs.YtljfiefobnncaaaDoor

/- Going round and round: a step that loses nothing, and what comes of walking on. Nothing of the program stands here. -/
namespace Go.Proofs.YtljfiefobnncaaaDoor.Qm

/-- n steps from s. -/
def it {α : Type} (f : α → α) : Nat → α → α
  | 0, s => s
  | n + 1, s => f (it f n s)

theorem it_add {α : Type} (f : α → α) (m n : Nat) (s : α) : it f (m + n) s = it f m (it f n s) := by
  induction m with
  | zero => simp [it]
  | succ m ih => rw [Nat.add_right_comm]; simp only [it, ih]

/-- What is asked of a step: it stays among the sides, no two sides lead to one; k numbers where a side begins. -/
structure Step {α : Type} (f : α → α) (P : α → Prop) (k : α → Int) : Prop where
  on : ∀ s, P s → P (f s)
  inj : ∀ s t, P s → P t → f s = f t → s = t
  one : ∀ s t, P s → P t → k s = k t → k s < k (f s) → k t < k (f t) → s = t
  ne : ∀ s, P s → k (f s) ≠ k s
  low : ∀ s, P s → 0 ≤ k s

section
variable {α : Type} {f : α → α} {P : α → Prop} {k : α → Int}

theorem Step.its (H : Step f P k) {s : α} (h : P s) (n : Nat) : P (it f n s) := by
  induction n with
  | zero => exact h
  | succ n ih => exact H.on _ ih

theorem Step.its_inj (H : Step f P k) {s t : α} (hs : P s) (ht : P t) (n : Nat) (h : it f n s = it f n t) : s = t := by
  induction n with
  | zero => exact h
  | succ n ih => exact ih (H.inj _ _ (H.its hs n) (H.its ht n) h)

/-- n steps from s lead back to s, and not sooner. -/
def Cyc (f : α → α) (P : α → Prop) (s : α) (n : Nat) : Prop :=
  P s ∧ 0 < n ∧ it f n s = s ∧ ∀ i j, i < j → j < n → it f i s ≠ it f j s

/-- .. and s begins ahead of all the others. -/
def Canon (f : α → α) (P : α → Prop) (k : α → Int) (c : α × Nat) : Prop :=
  Cyc f P c.1 c.2 ∧ ∀ i, 0 < i → i < c.2 → k c.1 < k (it f i c.1)

/-- t is on one of the cycles. -/
def Tk (f : α → α) (R : List (α × Nat)) (t : α) : Prop := ∃ c ∈ R, ∃ i, i < c.2 ∧ t = it f i c.1

theorem Cyc.mod {s : α} {n : Nat} (h : Cyc f P s n) (m : Nat) : it f m s = it f (m % n) s := by
  have key : ∀ q r, it f (q * n + r) s = it f r s := by
    intro q r
    induction q with
    | zero => simp
    | succ q ih =>
      rw [show (q + 1) * n + r = (q * n + r) + n from by rw [Nat.add_mul]; omega, it_add, h.2.2.1, ih]
  have := key (m / n) (m % n)
  rwa [show m / n * n + m % n = m from by rw [Nat.mul_comm]; exact Nat.div_add_mod m n] at this

/-- The period is one number. -/
theorem Cyc.per {s : α} {n m : Nat} (h : Cyc f P s n) (h' : Cyc f P s m) : n = m := by
  have a : ¬ n < m := fun hlt => h'.2.2.2 0 n h.2.1 hlt (by show s = _; exact h.2.2.1.symm)
  have b : ¬ m < n := fun hlt => h.2.2.2 0 m h'.2.1 hlt (by show s = _; exact h'.2.2.1.symm)
  omega

theorem Canon.least {c : α × Nat} (h : Canon f P k c) (m : Nat) : k c.1 ≤ k (it f m c.1) := by
  rw [h.1.mod m]
  rcases Nat.eq_zero_or_pos (m % c.2) with h0 | h0
  · rw [h0]; exact Int.le_refl _
  · exact Int.le_of_lt (h.2 _ h0 (Nat.mod_lt _ h.1.2.1))

/-- Two cycles that begin with their first points and share a side are one. -/
theorem Canon.same {c c' : α × Nat} (h : Canon f P k c) (h' : Canon f P k c') {i : Nat} (hi : i < c'.2) (e : c.1 = it f i c'.1) : c = c' := by
  rcases Nat.eq_zero_or_pos i with h0 | h0
  · subst h0
    have e1 : c.1 = c'.1 := e
    have := h.1
    rw [e1] at this
    exact Prod.ext e1 (this.per h'.1)
  · have lt := h'.2 i h0 hi
    rw [← e] at lt
    have back : it f (c'.2 - i) c.1 = c'.1 := by rw [e, ← it_add, show c'.2 - i + i = c'.2 from by omega]; exact h'.1.2.2.1
    have := h.least (c'.2 - i)
    rw [back] at this
    omega

/-- .. wherever they share it. -/
theorem Canon.share {c c' : α × Nat} (h : Canon f P k c) (h' : Canon f P k c') {i j : Nat} (hi : i < c.2) (e : it f i c.1 = it f j c'.1) : c = c' := by
  have e2 : c.1 = it f ((c.2 - i + j) % c'.2) c'.1 := by
    rw [← h'.1.mod, it_add, ← e, ← it_add, show c.2 - i + i = c.2 from by omega]; exact h.1.2.2.1.symm
  exact h.same h' (Nat.mod_lt _ h'.1.2.1) e2

/-- The whole answer: all cycles, each from its first point, by their first points. -/
def Res (f : α → α) (P : α → Prop) (k : α → Int) (R : List (α × Nat)) : Prop :=
  (∀ c ∈ R, Canon f P k c) ∧ R.Pairwise (fun a b => k a.1 < k b.1) ∧ ∀ t, P t → Tk f R t

theorem sorted_eq {β : Type} (g : β → Int) : ∀ (a b : List β), a.Pairwise (fun x y => g x < g y) → b.Pairwise (fun x y => g x < g y) → (∀ x, x ∈ a ↔ x ∈ b) → a = b
  | [], [], _, _, _ => rfl
  | [], y :: b, _, _, h => by have := (h y).2 (by simp); simp at this
  | x :: a, [], _, _, h => by have := (h x).1 (by simp); simp at this
  | x :: a, y :: b, ha, hb, h => by
    have ha' := List.pairwise_cons.1 ha
    have hb' := List.pairwise_cons.1 hb
    have hx : x ∈ y :: b := (h x).1 (by simp)
    have hy : y ∈ x :: a := (h y).2 (by simp)
    have e : x = y := by
      rcases List.mem_cons.1 hx with e | hx
      · exact e
      · rcases List.mem_cons.1 hy with e | hy
        · exact e.symm
        · have := ha'.1 _ hy; have := hb'.1 _ hx; omega
    subst e
    rw [sorted_eq g a b ha'.2 hb'.2 fun z => ?_]
    constructor
    · intro hz
      rcases List.mem_cons.1 ((h z).1 (List.mem_cons_of_mem _ hz)) with e | hz'
      · subst e; have := ha'.1 _ hz; omega
      · exact hz'
    · intro hz
      rcases List.mem_cons.1 ((h z).2 (List.mem_cons_of_mem _ hz)) with e | hz'
      · subst e; have := hb'.1 _ hz; omega
      · exact hz'

theorem Res.sub {R R' : List (α × Nat)} (h : Res f P k R) (h' : Res f P k R') {c : α × Nat} (hc : c ∈ R) : c ∈ R' := by
  obtain ⟨c', hc', i, hi, e⟩ := h'.2.2 c.1 (h.1 c hc).1.1
  rw [(h.1 c hc).same (h'.1 c' hc') hi e]
  exact hc'

/-- There is one answer. -/
theorem Res.unique {R R' : List (α × Nat)} (h : Res f P k R) (h' : Res f P k R') : R = R' :=
  sorted_eq (fun c => k c.1) R R' h.2.1 h'.2.1 fun _ => ⟨fun hc => h.sub h' hc, fun hc => h'.sub h hc⟩

/-! What was walked so far. -/

theorem Tk.fore {R : List (α × Nat)} {t : α} (hR : ∀ c ∈ R, Cyc f P c.1 c.2) (h : Tk f R t) : Tk f R (f t) := by
  obtain ⟨c, hc, i, hi, rfl⟩ := h
  refine ⟨c, hc, (i + 1) % c.2, Nat.mod_lt _ (hR c hc).2.1, ?_⟩
  rw [← (hR c hc).mod]; rfl

theorem Tk.back (H : Step f P k) {R : List (α × Nat)} {t : α} (hR : ∀ c ∈ R, Cyc f P c.1 c.2) (ht : P t) (h : Tk f R (f t)) : Tk f R t := by
  obtain ⟨c, hc, i, hi, e⟩ := h
  have hp := (hR c hc).1
  cases i with
  | zero =>
    obtain ⟨m, hm⟩ : ∃ m, c.2 = m + 1 := ⟨c.2 - 1, by omega⟩
    have e2 : c.1 = f (it f m c.1) := by have := (hR c hc).2.2.1; rw [hm] at this; exact this.symm
    exact ⟨c, hc, m, by omega, H.inj _ _ ht (H.its hp m) (e.trans e2)⟩
  | succ i => exact ⟨c, hc, i, by omega, H.inj _ _ ht (H.its hp i) e⟩

theorem Tk.backs (H : Step f P k) {R : List (α × Nat)} {t : α} (hR : ∀ c ∈ R, Cyc f P c.1 c.2) (ht : P t) (n : Nat) (h : Tk f R (it f n t)) : Tk f R t := by
  induction n with
  | zero => exact h
  | succ n ih => exact ih (h.back H hR (H.its ht n))

/-- A walk from s that has gone m steps over what was not taken: m sides, no two the same. -/
def Run (f : α → α) (s : α) (m : Nat) : Prop := ∀ i j, i < j → j < m → it f i s ≠ it f j s

theorem Run.zero (s : α) : Run f s 0 := fun _ _ _ h => absurd h (Nat.not_lt_zero _)
theorem Run.succ {s : α} {m : Nat} (h : Run f s m) (hn : ∀ i, i < m → it f i s ≠ it f m s) : Run f s (m + 1) := by
  intro i j hij hj
  rcases Nat.lt_or_ge j m with h1 | h1
  · exact h i j hij h1
  · obtain rfl : j = m := by omega
    exact hn i hij

/-- Where a walk comes upon what is taken, it is back on its first side. -/
theorem Run.done (H : Step f P k) {R : List (α × Nat)} {s : α} {m : Nat} (hR : ∀ c ∈ R, Cyc f P c.1 c.2) (hs : P s) (hn : ¬ Tk f R s) (hm : 0 < m) (h : Run f s m) (he : Tk f R (it f m s) ∨ ∃ i, i < m ∧ it f m s = it f i s) : Cyc f P s m := by
  rcases he with he | ⟨i, hi, e⟩
  · exact absurd (he.backs H hR hs m) hn
  · cases i with
    | zero => exact ⟨hs, hm, e, h⟩
    | succ i =>
      obtain ⟨q, rfl⟩ : ∃ q, m = q + 1 := ⟨m - 1, by omega⟩
      have := H.inj _ _ (H.its hs q) (H.its hs i) e
      exact absurd this.symm (h i q (by omega) (by omega))

theorem least_of (g : Nat → Int) : ∀ n, 0 < n → ∃ i, i < n ∧ ∀ j, j < n → g i ≤ g j
  | 0, h => absurd h (Nat.lt_irrefl _)
  | 1, _ => ⟨0, by omega, fun j hj => by obtain rfl : j = 0 := by omega
                                         exact Int.le_refl _⟩
  | n + 2, _ => by
    obtain ⟨i, hi, hl⟩ := least_of g (n + 1) (by omega)
    by_cases h : g i ≤ g (n + 1)
    · refine ⟨i, by omega, fun j hj => ?_⟩
      rcases Nat.lt_or_ge j (n + 1) with h1 | h1
      · exact hl j h1
      · obtain rfl : j = n + 1 := by omega
        exact h
    · refine ⟨n + 1, by omega, fun j hj => ?_⟩
      rcases Nat.lt_or_ge j (n + 1) with h1 | h1
      · have := hl j h1; omega
      · obtain rfl : j = n + 1 := by omega
        exact Int.le_refl _

/-- On a cycle there is one side that begins ahead of all the others. -/
theorem Cyc.first (H : Step f P k) {s : α} {n : Nat} (h : Cyc f P s n) {i : Nat} (_hi : i < n) (hl : ∀ j, j < n → k (it f i s) ≤ k (it f j s)) : k (it f i s) < k (f (it f i s)) ∧ ∀ j, j < n → j ≠ i → k (it f i s) < k (it f j s) := by
  have hl' : ∀ m, k (it f i s) ≤ k (it f m s) := fun m => by rw [h.mod m]; exact hl _ (Nat.mod_lt _ h.2.1)
  have up : ∀ m, k (it f i s) = k (it f m s) → k (it f m s) < k (f (it f m s)) := fun m e => by
    have a := hl' (m + 1)
    have b := H.ne _ (H.its h.1 m)
    simp only [it] at a
    omega
  refine ⟨up i rfl, fun j hj hne => ?_⟩
  have a := hl j hj
  by_cases e : k (it f i s) = k (it f j s)
  · have := H.one _ _ (H.its h.1 i) (H.its h.1 j) e (up i rfl) (up j e)
    rcases Nat.lt_or_ge i j with h1 | h1
    · exact absurd this (h.2.2.2 i j h1 hj)
    · exact absurd this.symm (h.2.2.2 j i (by omega) _hi)
  · omega

/-- A walk from a side that leads onward, when all such sides ahead of it are taken: from the cycle's first point. -/
theorem Cyc.canon (H : Step f P k) {R : List (α × Nat)} {s : α} {n : Nat} (hR : ∀ c ∈ R, Cyc f P c.1 c.2) (h : Cyc f P s n) (hn : ¬ Tk f R s) (hb : ∀ t, P t → k t < k s → k t < k (f t) → Tk f R t) : Canon f P k (s, n) := by
  obtain ⟨i, hi, hl⟩ := least_of (fun i => k (it f i s)) n h.2.1
  have hf := h.first H hi hl
  have i0 : i = 0 := by
    rcases Nat.eq_zero_or_pos i with e | e
    · exact e
    · have lt := hf.2 0 h.2.1 (by omega)
      exact absurd ((hb _ (H.its h.1 i) lt hf.1).backs H hR h.1 i) hn
  subst i0
  exact ⟨h, fun j h0 hj => hf.2 j hj (by omega)⟩

/-- When all sides that lead onward are taken, all are. -/
theorem all_taken (H : Step f P k) {R : List (α × Nat)} (hR : ∀ c ∈ R, Cyc f P c.1 c.2) (hb : ∀ t, P t → k t < k (f t) → Tk f R t) (t : α) (ht : P t) : Tk f R t := by
  have key : ∀ (m : Nat) (t : α), P t → k t < m → Tk f R t := by
    intro m
    induction m with
    | zero => intro t ht hlt; have := H.low t ht; omega
    | succ m ih =>
      intro t ht hlt
      by_cases h : k t < k (f t)
      · exact hb t ht h
      · have := H.ne t ht
        exact (ih (f t) (H.on t ht) (by omega)).back H hR ht
  exact key (k t).toNat.succ t ht (by have := H.low t ht; omega)

/-- A cycle, begun with another of its sides. -/
theorem Cyc.turn (H : Step f P k) {s : α} {n : Nat} (h : Cyc f P s n) (i : Nat) : Cyc f P (it f i s) n := by
  refine ⟨H.its h.1 i, h.2.1, ?_, fun a b hab hb e => ?_⟩
  · rw [← it_add, Nat.add_comm, it_add, h.2.2.1]
  · rw [← it_add, ← it_add, Nat.add_comm a, Nat.add_comm b, it_add, it_add] at e
    exact h.2.2.2 a b hab hb (H.its_inj (H.its h.1 a) (H.its h.1 b) i e)

theorem Cyc.canon_turn (H : Step f P k) {s : α} {n : Nat} (h : Cyc f P s n) {i : Nat} (hi : i < n) (hl : ∀ j, j < n → k (it f i s) ≤ k (it f j s)) : Canon f P k (it f i s, n) := by
  refine ⟨h.turn H i, fun j h0 hj => ?_⟩
  show k (it f i s) < k (it f j (it f i s))
  rw [← it_add, h.mod (j + i)]
  refine (h.first H hi hl).2 _ (Nat.mod_lt _ h.2.1) fun e => ?_
  have e2 : it f (j + i) s = it f i s := by rw [h.mod (j + i), e]
  rw [it_add] at e2
  exact (h.turn H i).2.2.2 0 j h0 hj e2.symm

end
end Go.Proofs.YtljfiefobnncaaaDoor.Qm
