/- Rows of numbers that go from i to j by allowed steps: the best of them (fewest, then cheapest, then least where they first differ) is one. Nothing of the program stands here. -/
import Derived.WalkKit
namespace Go.Proofs.Ytljfiefobnncaab.Qm

/-- Least where they first differ. -/
def lexle : List Nat → List Nat → Prop
  | [], _ => True
  | _ :: _, [] => False
  | a :: l, b :: m => a < b ∨ (a = b ∧ lexle l m)
theorem lexle_refl : ∀ l, lexle l l
  | [] => True.intro
  | _ :: l => .inr ⟨rfl, lexle_refl l⟩
theorem lexle_trans : ∀ {a b c : List Nat}, lexle a b → lexle b c → lexle a c
  | [], _, _, _, _ => True.intro
  | _ :: _, [], _, h, _ => h.elim
  | _ :: _, _ :: _, [], _, h => h.elim
  | a :: l, b :: m, c :: n, h, k => by
    rcases h with h | ⟨rfl, h⟩
    · rcases k with k | ⟨rfl, _⟩
      · exact .inl (by omega)
      · exact .inl h
    · rcases k with k | ⟨rfl, k⟩
      · exact .inl k
      · exact .inr ⟨rfl, lexle_trans h k⟩
theorem lexle_anti : ∀ {a b : List Nat}, a.length = b.length → lexle a b → lexle b a → a = b
  | [], [], _, _, _ => rfl
  | [], _ :: _, e, _, _ => by simp at e
  | _ :: _, [], e, _, _ => by simp at e
  | a :: l, b :: m, e, h, k => by
    rcases h with h | ⟨rfl, h⟩
    · rcases k with k | ⟨rfl, _⟩
      · omega
      · omega
    · rcases k with k | ⟨_, k⟩
      · omega
      · rw [lexle_anti (by simpa using e) h k]
theorem lexle_snoc : ∀ {a b : List Nat} (j : Nat), a.length = b.length → lexle a b → lexle (a ++ [j]) (b ++ [j])
  | [], [], _, _, _ => lexle_refl _
  | [], _ :: _, _, e, _ => by simp at e
  | _ :: _, [], _, e, _ => by simp at e
  | a :: l, b :: m, j, e, h => by
    rcases h with h | ⟨rfl, h⟩
    · exact .inl h
    · exact .inr ⟨rfl, lexle_snoc j (by simpa using e) h⟩
theorem lexle_total : ∀ {a b : List Nat}, a.length = b.length → ¬ lexle a b → lexle b a
  | [], _, _, h => absurd True.intro h
  | _ :: _, [], _, _ => True.intro
  | a :: l, b :: m, e, h => by
    rcases Nat.lt_trichotomy a b with h1 | h1 | h1
    · exact absurd (.inl h1) h
    · subst h1
      exact .inr ⟨rfl, lexle_total (by simpa using e) fun h2 => h (.inr ⟨rfl, h2⟩)⟩
    · exact .inl h1

section
variable (ok : Nat → Nat → Prop) (cst : Nat → Nat → Int)
/-- What a row costs. -/
def cs : List Nat → Int
  | a :: b :: l => cst a b + cs (b :: l)
  | _ => 0
/-- A row from i to j. -/
inductive Pth : Nat → Nat → List Nat → Prop
  | one (i : Nat) : Pth i i [i]
  | cons (i k j : Nat) (l : List Nat) : ok i k → Pth k j l → Pth i j (i :: l)
/-- Not worse. -/
def Le (a b : List Nat) : Prop := a.length < b.length ∨ (a.length = b.length ∧ (cs cst a < cs cst b ∨ (cs cst a = cs cst b ∧ lexle a b)))
/-- The best one. -/
def Opt (i j : Nat) (l : List Nat) : Prop := Pth ok i j l ∧ ∀ m, Pth ok i j m → Le cst l m
end

section
variable {ok : Nat → Nat → Prop} {cst : Nat → Nat → Int} {i j k : Nat} {a b c l : List Nat}
theorem Le.refl (a : List Nat) : Le cst a a := .inr ⟨rfl, .inr ⟨rfl, lexle_refl a⟩⟩
theorem Le.trans (h : Le cst a b) (h' : Le cst b c) : Le cst a c := by
  rcases h with h | ⟨h1, h⟩ <;> rcases h' with h' | ⟨h1', h'⟩
  · exact .inl (by omega)
  · exact .inl (by omega)
  · exact .inl (by omega)
  · refine .inr ⟨by omega, ?_⟩
    rcases h with h | ⟨h2, h⟩ <;> rcases h' with h' | ⟨h2', h'⟩
    · exact .inl (by omega)
    · exact .inl (by omega)
    · exact .inl (by omega)
    · exact .inr ⟨by omega, lexle_trans h h'⟩
theorem Le.anti (h : Le cst a b) (h' : Le cst b a) : a = b := by
  rcases h with h | ⟨h1, h⟩ <;> rcases h' with h' | ⟨h1', h'⟩
  · omega
  · omega
  · omega
  · rcases h with h | ⟨h2, h⟩ <;> rcases h' with h' | ⟨h2', h'⟩
    · omega
    · omega
    · omega
    · exact lexle_anti h1 h h'
/-- There is one best row. -/
theorem Opt.unique (h : Opt ok cst i j a) (h' : Opt ok cst i j b) : a = b := (h.2 b h'.1).anti (h'.2 a h.1)

theorem Pth.head (h : Pth ok i j l) : ∃ m, l = i :: m := by cases h <;> exact ⟨_, rfl⟩
theorem Pth.pos (h : Pth ok i j l) : 0 < l.length := by obtain ⟨m, rfl⟩ := h.head; simp
theorem Pth.snoc (h : Pth ok i k l) (hk : ok k j) : Pth ok i j (l ++ [j]) := by
  induction h with
  | one i => exact .cons i j j _ hk (.one j)
  | cons i k j' l ho _ ih => exact .cons i k _ _ ho (ih hk)
theorem cs_cons (h : Pth ok k j l) (i : Nat) : cs cst (i :: l) = cst i k + cs cst l := by obtain ⟨m, rfl⟩ := h.head; rfl
theorem Pth.cs_snoc (h : Pth ok i k l) (j : Nat) : cs cst (l ++ [j]) = cs cst l + cst k j := by
  induction h with
  | one i => simp [cs]
  | cons i k j' l _ hp ih =>
    obtain ⟨m, rfl⟩ := hp.head
    have : cs cst (i :: k :: m ++ [j]) = cst i k + cs cst (k :: m ++ [j]) := rfl
    rw [this, ih, cs_cons hp]; omega
/-- From the front. -/
theorem Le.cons (ha : Pth ok k j a) (hb : Pth ok k j b) (h : Le cst a b) (i : Nat) : Le cst (i :: a) (i :: b) := by
  unfold Le
  rw [cs_cons ha, cs_cons hb]
  simp only [List.length_cons]
  rcases h with h | ⟨h1, h⟩
  · exact .inl (by omega)
  · refine .inr ⟨by omega, ?_⟩
    rcases h with h | ⟨h2, h⟩
    · exact .inl (by omega)
    · exact .inr ⟨by omega, .inr ⟨rfl, h⟩⟩
/-- From behind. -/
theorem Le.snoc (ha : Pth ok i k a) (hb : Pth ok i k b) (h : Le cst a b) (j : Nat) : Le cst (a ++ [j]) (b ++ [j]) := by
  unfold Le
  rw [ha.cs_snoc, hb.cs_snoc]
  simp only [List.length_append, List.length_singleton]
  rcases h with h | ⟨h1, h⟩
  · exact .inl (by omega)
  · refine .inr ⟨by omega, ?_⟩
    rcases h with h | ⟨h2, h⟩
    · exact .inl (by omega)
    · exact .inr ⟨by omega, lexle_snoc j h1 h⟩
theorem Pth.unsnoc (h : Pth ok i j l) : (i = j ∧ l = [i]) ∨ ∃ k m, l = m ++ [j] ∧ Pth ok i k m ∧ ok k j := by
  induction h with
  | one i => exact .inl ⟨rfl, rfl⟩
  | cons i k j l ho hp ih =>
    right
    rcases ih with ⟨rfl, rfl⟩ | ⟨q, m, rfl, hm, hq⟩
    · exact ⟨i, [i], rfl, .one i, ho⟩
    · exact ⟨q, i :: m, rfl, .cons i k q m ho hm, hq⟩

/-- The best row from i goes by the best row from the point behind it. -/
theorem Opt.front (hij : i ≠ j) (h : ∀ k, ok i k → ∃ m, Opt ok cst k j m) {k : Nat} {l : List Nat} (hk : ok i k) (hl : Opt ok cst k j l) (hb : ∀ q m, ok i q → Opt ok cst q j m → Le cst (i :: l) (i :: m)) : Opt ok cst i j (i :: l) := by
  refine ⟨.cons i k j l hk hl.1, fun m hm => ?_⟩
  cases hm with
  | one => exact absurd rfl hij
  | cons _ q _ m' hq hp =>
    obtain ⟨o, ho⟩ := h q hq
    exact (hb q o hq ho).trans ((ho.2 m' hp).cons ho.1 hp i)
/-- .. and from the other end. -/
theorem Opt.back (hij : i ≠ j) (h : ∀ k, ok k j → (∃ l, Pth ok i k l) → ∃ m, Opt ok cst i k m) {k : Nat} {l : List Nat} (hk : ok k j) (hl : Opt ok cst i k l) (hb : ∀ q m, ok q j → Opt ok cst i q m → Le cst (l ++ [j]) (m ++ [j])) : Opt ok cst i j (l ++ [j]) := by
  refine ⟨hl.1.snoc hk, fun m hm => ?_⟩
  rcases hm.unsnoc with ⟨e, _⟩ | ⟨q, m', rfl, hp, hq⟩
  · exact absurd e hij
  · obtain ⟨o, ho⟩ := h q hq ⟨m', hp⟩
    exact (hb q o hq ho).trans ((ho.2 m' hp).snoc ho.1 hp j)
end
end Go.Proofs.Ytljfiefobnncaab.Qm
