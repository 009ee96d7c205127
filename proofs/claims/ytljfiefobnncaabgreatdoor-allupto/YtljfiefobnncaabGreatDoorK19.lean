import Derived.WalkKit
import Derived.Test.YtljfiefobnncaabGreatDoorK18
import Derived.Test.YtljfiefobnncaabGreatDoorK04

/- Rows of numbers that go from i to j by allowed steps: the best of them (fewest, then cheapest, then least where they first differ) is one. Nothing of the program stands here. -/
namespace Go.Proofs.YtljfiefobnncaabGreatDoor.Qm

/-- Least where they first differ. -/
def lexle : List Nat → List Nat → Prop
  | [], _ => True
  | _ :: _, [] => False
  | a :: l, b :: m => a < b ∨ (a = b ∧ lexle l m)
theorem lexle_refl : ∀ l, lexle l l
  | [] => True.intro
  | _ :: l => .inr ⟨rfl, lexle_refl l⟩
theorem lexle_trans : ∀ {a b c : List Nat}, lexle a b → lexle b c → lexle a c
  | [], _, _, _, _ => True.intro
  | _ :: _, [], _, h, _ => h.elim
  | _ :: _, _ :: _, [], _, h => h.elim
  | a :: l, b :: m, c :: n, h, k => by
    rcases h with h | ⟨rfl, h⟩
    · rcases k with k | ⟨rfl, _⟩
      · exact .inl (by omega)
      · exact .inl h
    · rcases k with k | ⟨rfl, k⟩
      · exact .inl k
      · exact .inr ⟨rfl, lexle_trans h k⟩
theorem lexle_anti : ∀ {a b : List Nat}, a.length = b.length → lexle a b → lexle b a → a = b
  | [], [], _, _, _ => rfl
  | [], _ :: _, e, _, _ => by simp at e
  | _ :: _, [], e, _, _ => by simp at e
  | a :: l, b :: m, e, h, k => by
    rcases h with h | ⟨rfl, h⟩
    · rcases k with k | ⟨rfl, _⟩
      · omega
      · omega
    · rcases k with k | ⟨_, k⟩
      · omega
      · rw [lexle_anti (by simpa using e) h k]
theorem lexle_snoc : ∀ {a b : List Nat} (j : Nat), a.length = b.length → lexle a b → lexle (a ++ [j]) (b ++ [j])
  | [], [], _, _, _ => lexle_refl _
  | [], _ :: _, _, e, _ => by simp at e
  | _ :: _, [], _, e, _ => by simp at e
  | a :: l, b :: m, j, e, h => by
    rcases h with h | ⟨rfl, h⟩
    · exact .inl h
    · exact .inr ⟨rfl, lexle_snoc j (by simpa using e) h⟩
theorem lexle_total : ∀ {a b : List Nat}, a.length = b.length → ¬ lexle a b → lexle b a
  | [], _, _, h => absurd True.intro h
  | _ :: _, [], _, _ => True.intro
  | a :: l, b :: m, e, h => by
    rcases Nat.lt_trichotomy a b with h1 | h1 | h1
    · exact absurd (.inl h1) h
    · subst h1
      exact .inr ⟨rfl, lexle_total (by simpa using e) fun h2 => h (.inr ⟨rfl, h2⟩)⟩
    · exact .inl h1

section
variable (ok : Nat → Nat → Prop) (cst : Nat → Nat → Int)
/-- What a row costs. -/
def cs : List Nat → Int
  | a :: b :: l => cst a b + cs (b :: l)
  | _ => 0
/-- A row from i to j. -/
inductive Pth : Nat → Nat → List Nat → Prop
  | one (i : Nat) : Pth i i [i]
  | cons (i k j : Nat) (l : List Nat) : ok i k → Pth k j l → Pth i j (i :: l)
/-- Not worse. -/
def Le (a b : List Nat) : Prop := a.length < b.length ∨ (a.length = b.length ∧ (cs cst a < cs cst b ∨ (cs cst a = cs cst b ∧ lexle a b)))
/-- The best one. -/
def Opt (i j : Nat) (l : List Nat) : Prop := Pth ok i j l ∧ ∀ m, Pth ok i j m → Le cst l m
end

section
variable {ok : Nat → Nat → Prop} {cst : Nat → Nat → Int} {i j k : Nat} {a b c l : List Nat}
theorem Le.refl (a : List Nat) : Le cst a a := .inr ⟨rfl, .inr ⟨rfl, lexle_refl a⟩⟩
theorem Le.trans (h : Le cst a b) (h' : Le cst b c) : Le cst a c := by
  rcases h with h | ⟨h1, h⟩ <;> rcases h' with h' | ⟨h1', h'⟩
  · exact .inl (by omega)
  · exact .inl (by omega)
  · exact .inl (by omega)
  · refine .inr ⟨by omega, ?_⟩
    rcases h with h | ⟨h2, h⟩ <;> rcases h' with h' | ⟨h2', h'⟩
    · exact .inl (by omega)
    · exact .inl (by omega)
    · exact .inl (by omega)
    · exact .inr ⟨by omega, lexle_trans h h'⟩
theorem Le.anti (h : Le cst a b) (h' : Le cst b a) : a = b := by
  rcases h with h | ⟨h1, h⟩ <;> rcases h' with h' | ⟨h1', h'⟩
  · omega
  · omega
  · omega
  · rcases h with h | ⟨h2, h⟩ <;> rcases h' with h' | ⟨h2', h'⟩
    · omega
    · omega
    · omega
    · exact lexle_anti h1 h h'
/-- There is one best row. -/
theorem Opt.unique (h : Opt ok cst i j a) (h' : Opt ok cst i j b) : a = b := (h.2 b h'.1).anti (h'.2 a h.1)

theorem Pth.head (h : Pth ok i j l) : ∃ m, l = i :: m := by cases h <;> exact ⟨_, rfl⟩
theorem Pth.pos (h : Pth ok i j l) : 0 < l.length := by obtain ⟨m, rfl⟩ := h.head; simp
theorem Pth.snoc (h : Pth ok i k l) (hk : ok k j) : Pth ok i j (l ++ [j]) := by
  induction h with
  | one i => exact .cons i j j _ hk (.one j)
  | cons i k j' l ho _ ih => exact .cons i k _ _ ho (ih hk)
theorem cs_cons (h : Pth ok k j l) (i : Nat) : cs cst (i :: l) = cst i k + cs cst l := by obtain ⟨m, rfl⟩ := h.head; rfl
theorem Pth.cs_snoc (h : Pth ok i k l) (j : Nat) : cs cst (l ++ [j]) = cs cst l + cst k j := by
  induction h with
  | one i => simp [cs]
  | cons i k j' l _ hp ih =>
    obtain ⟨m, rfl⟩ := hp.head
    have : cs cst (i :: k :: m ++ [j]) = cst i k + cs cst (k :: m ++ [j]) := rfl
    rw [this, ih, cs_cons hp]; omega
/-- From the front. -/
theorem Le.cons (ha : Pth ok k j a) (hb : Pth ok k j b) (h : Le cst a b) (i : Nat) : Le cst (i :: a) (i :: b) := by
  unfold Le
  rw [cs_cons ha, cs_cons hb]
  simp only [List.length_cons]
  rcases h with h | ⟨h1, h⟩
  · exact .inl (by omega)
  · refine .inr ⟨by omega, ?_⟩
    rcases h with h | ⟨h2, h⟩
    · exact .inl (by omega)
    · exact .inr ⟨by omega, .inr ⟨rfl, h⟩⟩
/-- From behind. -/
theorem Le.snoc (ha : Pth ok i k a) (hb : Pth ok i k b) (h : Le cst a b) (j : Nat) : Le cst (a ++ [j]) (b ++ [j]) := by
  unfold Le
  rw [ha.cs_snoc, hb.cs_snoc]
  simp only [List.length_append, List.length_singleton]
  rcases h with h | ⟨h1, h⟩
  · exact .inl (by omega)
  · refine .inr ⟨by omega, ?_⟩
    rcases h with h | ⟨h2, h⟩
    · exact .inl (by omega)
    · exact .inr ⟨by omega, lexle_snoc j h1 h⟩
theorem Pth.unsnoc (h : Pth ok i j l) : (i = j ∧ l = [i]) ∨ ∃ k m, l = m ++ [j] ∧ Pth ok i k m ∧ ok k j := by
  induction h with
  | one i => exact .inl ⟨rfl, rfl⟩
  | cons i k j l ho hp ih =>
    right
    rcases ih with ⟨rfl, rfl⟩ | ⟨q, m, rfl, hm, hq⟩
    · exact ⟨i, [i], rfl, .one i, ho⟩
    · exact ⟨q, i :: m, rfl, .cons i k q m ho hm, hq⟩

/-- The best row from i goes by the best row from the point behind it. -/
theorem Opt.front (hij : i ≠ j) (h : ∀ k, ok i k → ∃ m, Opt ok cst k j m) {k : Nat} {l : List Nat} (hk : ok i k) (hl : Opt ok cst k j l) (hb : ∀ q m, ok i q → Opt ok cst q j m → Le cst (i :: l) (i :: m)) : Opt ok cst i j (i :: l) := by
  refine ⟨.cons i k j l hk hl.1, fun m hm => ?_⟩
  cases hm with
  | one => exact absurd rfl hij
  | cons _ q _ m' hq hp =>
    obtain ⟨o, ho⟩ := h q hq
    exact (hb q o hq ho).trans ((ho.2 m' hp).cons ho.1 hp i)
/-- .. and from the other end. -/
theorem Opt.back (hij : i ≠ j) (h : ∀ k, ok k j → (∃ l, Pth ok i k l) → ∃ m, Opt ok cst i k m) {k : Nat} {l : List Nat} (hk : ok k j) (hl : Opt ok cst i k l) (hb : ∀ q m, ok q j → Opt ok cst i q m → Le cst (l ++ [j]) (m ++ [j])) : Opt ok cst i j (l ++ [j]) := by
  refine ⟨hl.1.snoc hk, fun m hm => ?_⟩
  rcases hm.unsnoc with ⟨e, _⟩ | ⟨q, m', rfl, hp, hq⟩
  · exact absurd e hij
  · obtain ⟨o, ho⟩ := h q hq ⟨m', hp⟩
    exact (hb q o hq ho).trans ((ho.2 m' hp).snoc ho.1 hp j)
end
end Go.Proofs.YtljfiefobnncaabGreatDoor.Qm

/- The best row of a cycle: found from behind, and found from the front. Nothing of the program stands here. -/
namespace Go.Proofs.YtljfiefobnncaabGreatDoor.Qm

theorem getD_app_l {α : Type} (l m : List α) (d : α) (n : Nat) (h : n < l.length) : (l ++ m).getD n d = l.getD n d := by
  simp only [List.getD_eq_getElem?_getD]; rw [List.getElem?_append_left h]
theorem getD_app_r {α : Type} (l m : List α) (d : α) (n : Nat) (h : l.length ≤ n) : (l ++ m).getD n d = m.getD (n - l.length) d := by
  simp only [List.getD_eq_getElem?_getD]; rw [List.getElem?_append_right h]
/-- The points from number i to number j. -/
def sl (v : List Pt) (i j : Nat) : List Pt := (v.drop i).take (j - i + 1)
/-- May a line go from number i to number j? -/
def okV (v : List Pt) (i j : Nat) : Prop := i < j ∧ j < v.length ∧ j - i ≤ 12 ∧ fitB (sl v i j) = true
def cV (v : List Pt) (i j : Nat) : Int := costOf (sl v i j)
theorem sl_len {v : List Pt} {i j : Nat} (h : i ≤ j) (hj : j < v.length) : (sl v i j).length = j - i + 1 := by unfold sl; rw [List.length_take, List.length_drop]; omega
theorem sl_getD {v : List Pt} {i j k : Nat} (hk : k < j - i + 1) : (sl v i j).getD k (0, 0) = v.getD (i + k) (0, 0) := by
  unfold sl
  simp only [List.getD_eq_getElem?_getD]
  rw [List.getElem?_take_of_lt hk, List.getElem?_drop]
theorem Unit.sl {v : List Pt} (h : Unit v) {i j : Nat} (hij : i ≤ j) (hj : j < v.length) : Unit (sl v i j) := fun k hk => by
  rw [sl_len hij hj] at hk
  rw [sl_getD (by omega), sl_getD (by omega)]
  exact h (i + k) (by omega)
theorem Unit.ok_next {v : List Pt} (h : Unit v) {i : Nat} (hi : i + 1 < v.length) : okV v i (i + 1) :=
  ⟨by omega, hi, by omega, fit_two (h.sl (by omega) hi) (by rw [sl_len (by omega) hi]; omega)⟩

section
variable {v : List Pt} {i j k n : Nat} {l a b : List Nat}
theorem opt_here (v : List Pt) (n : Nat) : Opt (okV v) (cV v) n n [n] := by
  refine ⟨.one n, fun m hm => ?_⟩
  cases hm with
  | one => exact Le.refl _
  | cons _ k _ l ho hp => exact .inl (by have := hp.pos; simp; omega)

/-- What one row stands for. -/
def RowIs (v : List Pt) (i : Nat) (r : Rw) (l : List Nat) : Prop := Opt (okV v) (cV v) i (v.length - 1) l ∧ r.1 = (l.length : Int) - 1 ∧ r.2.1 = cs (cV v) l ∧ (i < v.length - 1 → ∃ k l', l = i :: l' ∧ Opt (okV v) (cV v) k (v.length - 1) l' ∧ okV v i k ∧ r.2.2 = (k : Int) - i)

/-- The best of the first k spans. -/
def AccIs (v : List Pt) (i k : Nat) (r : Rw) : Prop := ∃ s l', 1 ≤ s ∧ s ≤ k ∧ okV v i (i + s) ∧ Opt (okV v) (cV v) (i + s) (v.length - 1) l' ∧ r = ((l'.length : Int), cV v i (i + s) + cs (cV v) l', (s : Int)) ∧ ∀ s' l'', 1 ≤ s' → s' ≤ k → okV v i (i + s') → Opt (okV v) (cV v) (i + s') (v.length - 1) l'' → Le (cV v) (i :: l') (i :: l'')

theorem acc_is (hu : Unit v) {B : List Rw} (hB : ∀ s, 1 ≤ s → s ≤ B.length → ∃ l, RowIs v (i + s) (B.getD (B.length - s) (0, 0, 0)) l) (hi : i + B.length = v.length - 1) (h0 : 0 < v.length) : ∀ k, k + 1 ≤ 12 → k + 1 ≤ B.length → AccIs v i (k + 1) (accR (v.drop i) B (k + 1)) := by
  intro k
  induction k with
  | zero =>
    intro _ h1
    obtain ⟨l, o, e1, e2, _⟩ := hB 1 (by omega) h1
    have ok : okV v i (i + 1) := hu.ok_next (by omega)
    have f : fitB ((v.drop i).take (0 + 2)) = true := by have := ok.2.2.2; unfold sl at this; rwa [show i + 1 - i + 1 = 0 + 2 from by omega] at this
    refine ⟨1, l, by omega, by omega, ok, o, ?_, fun s' l'' h1' h2' ok' o' => ?_⟩
    · rw [accR]
      simp only [f, decide_true, Bool.true_or, Bool.and_self, if_true]
      rw [e1, e2]
      unfold cV sl
      rw [show i + 1 - i + 1 = 0 + 2 from by omega]
      refine Prod.ext (by simp) (Prod.ext ?_ (by simp))
      simp only
      omega
    · obtain rfl : s' = 1 := by omega
      rw [o.unique o']; exact Le.refl _
  | succ k ih =>
    intro h12 hb
    obtain ⟨s, l', s1, s2, oks, os, es, hs⟩ := ih (by omega) (by omega)
    obtain ⟨l, o, e1, e2, _⟩ := hB (k + 2) (by omega) hb
    have TK : (v.drop i).take (k + 1 + 2) = sl v i (i + (k + 2)) := by unfold sl; rw [show i + (k + 2) - i + 1 = k + 1 + 2 from by omega]
    rw [accR]
    simp only [TK, show k + 1 + 1 = k + 2 from rfl]
    rw [e1, e2]
    have dk : decide (k + 1 = 0) = false := by simp
    rw [dk, Bool.false_or]
    cases hf : fitB (sl v i (i + (k + 2))) with
    | false =>
      simp only [Bool.false_and, Bool.false_eq_true, if_false]
      refine ⟨s, l', s1, by omega, oks, os, es, fun s' l'' h1' h2' ok' o' => ?_⟩
      rcases Nat.lt_or_ge s' (k + 2) with h | h
      · exact hs s' l'' h1' (by omega) ok' o'
      · obtain rfl : s' = k + 2 := by omega
        exact absurd ok'.2.2.2 (by rw [hf]; simp)
    | true =>
      have ok2 : okV v i (i + (k + 2)) := ⟨by omega, by omega, by omega, hf⟩
      have ca : cs (cV v) (i :: l') = cV v i (i + s) + cs (cV v) l' := cs_cons os.1 i
      have cb : cs (cV v) (i :: l) = cV v i (i + (k + 2)) + cs (cV v) l := cs_cons o.1 i
      obtain ⟨ma, hma⟩ := os.1.head
      obtain ⟨mb, hmb⟩ := o.1.head
      simp only [Bool.true_and]
      cases hbt : betB ((l.length : Int) - 1 + 1, cs (cV v) l + costOf (sl v i (i + (k + 2))), ((k + 1 : Nat) : Int) + 1) (accR (v.drop i) B (k + 1)) with
      | true =>
        rw [es] at hbt
        unfold betB at hbt
        simp only [decide_eq_true_eq] at hbt
        have le1 : Le (cV v) (i :: l) (i :: l') := by
          unfold Le
          rw [ca, cb]
          simp only [List.length_cons]
          have : cV v i (i + (k + 2)) = costOf (sl v i (i + (k + 2))) := rfl
          omega
        simp only [if_true]
        refine ⟨k + 2, l, by omega, by omega, ok2, o, ?_, fun s' l'' h1' h2' ok' o' => ?_⟩
        · refine Prod.ext (by simp only; omega) (Prod.ext ?_ (by simp only; omega))
          simp only
          have : cV v i (i + (k + 2)) = costOf (sl v i (i + (k + 2))) := rfl
          omega
        · rcases Nat.lt_or_ge s' (k + 2) with h | h
          · exact le1.trans (hs s' l'' h1' (by omega) ok' o')
          · obtain rfl : s' = k + 2 := by omega
            rw [o.unique o']; exact Le.refl _
      | false =>
        rw [es] at hbt
        unfold betB at hbt
        simp only [decide_eq_false_iff_not] at hbt
        have le1 : Le (cV v) (i :: l') (i :: l) := by
          unfold Le
          rw [ca, cb]
          simp only [List.length_cons]
          have : cV v i (i + (k + 2)) = costOf (sl v i (i + (k + 2))) := rfl
          have lx : lexle (i :: l') (i :: l) := .inr ⟨rfl, by rw [hma, hmb]; exact .inl (by omega)⟩
          by_cases hl : l'.length < l.length
          · exact .inl (by omega)
          · refine .inr ⟨by omega, ?_⟩
            by_cases hc : cV v i (i + s) + cs (cV v) l' < cV v i (i + (k + 2)) + cs (cV v) l
            · exact .inl hc
            · exact .inr ⟨by omega, lx⟩
        simp only [Bool.false_eq_true, if_false]
        refine ⟨s, l', s1, by omega, oks, os, es, fun s' l'' h1' h2' ok' o' => ?_⟩
        rcases Nat.lt_or_ge s' (k + 2) with h | h
        · exact hs s' l'' h1' (by omega) ok' o'
        · obtain rfl : s' = k + 2 := by omega
          rw [← o.unique o']; exact le1

/-- The rows from behind are the best ones. -/
theorem rows_is (hu : Unit v) (h0 : 0 < v.length) : ∀ m, m ≤ v.length → ∀ q, q < m → ∃ l, RowIs v (v.length - 1 - q) ((rowsTo v m).getD q (0, 0, 0)) l := by
  intro m
  induction m with
  | zero => intro _ q hq; omega
  | succ m ih =>
    intro hm q hq
    have hl := rowsTo_len v m
    rcases Nat.lt_or_ge q m with h | h
    · obtain ⟨l, hl'⟩ := ih (by omega) q h
      refine ⟨l, ?_⟩
      rw [rowsTo, getD_app_l _ _ _ _ (by omega)]; exact hl'
    · obtain rfl : q = m := by omega
      rw [rowsTo, getD_app_r _ _ _ _ (by omega), hl, Nat.sub_self, List.getD_cons_zero]
      cases q with
      | zero =>
        refine ⟨[v.length - 1], ?_, ?_, ?_, fun h => by omega⟩
        · simp only [Nat.sub_zero]; exact opt_here v _
        · simp [spn, accR]
        · simp [spn, accR, cs]
      | succ q =>
        obtain ⟨i, hi⟩ : ∃ i, i = v.length - 1 - (q + 1) := ⟨_, rfl⟩
        rw [← hi]
        obtain ⟨k, hk⟩ : ∃ k, spn (q + 1 + 1) (q + 1) = k + 1 := ⟨min 12 (q + 1) - 1, by unfold spn; omega⟩
        have hk2 : k + 1 = min 12 (q + 1) := by rw [← hk]; unfold spn; omega
        have HB : ∀ s, 1 ≤ s → s ≤ (rowsTo v (q + 1)).length → ∃ l, RowIs v (i + s) ((rowsTo v (q + 1)).getD ((rowsTo v (q + 1)).length - s) (0, 0, 0)) l := by
          intro s s1 s2
          rw [hl] at s2 ⊢
          have := ih (by omega) (q + 1 - s) (by omega)
          rwa [show v.length - 1 - (q + 1 - s) = i + s from by omega] at this
        have ac := acc_is hu HB (by rw [hl]; omega) h0 k (by omega) (by rw [hl]; omega)
        rw [hk]
        obtain ⟨s, l', s1, s2, oks, os, es, hs⟩ := ac
        refine ⟨i :: l', ?_, ?_, ?_, fun _ => ⟨i + s, l', rfl, os, oks, ?_⟩⟩
        · refine Opt.front (by omega) (fun p hp => ?_) oks os fun p m hp hm' => ?_
          · obtain ⟨l2, o2⟩ := HB (p - i) (by have := hp.1; omega) (by rw [hl]; have := hp.2.1; have := hp.1; omega)
            rw [show i + (p - i) = p from by have := hp.1; omega] at o2
            exact ⟨l2, o2.1⟩
          · have h1 := hp.1
            have h2 := hp.2.1
            have h3 := hp.2.2.1
            have e : i + (p - i) = p := by omega
            refine hs (p - i) m (by omega) (by omega) ?_ ?_
            · rw [e]; exact hp
            · rw [e]; exact hm'
        · rw [es]; simp
        · rw [es]; simp only; rw [cs_cons os.1 i]
        · rw [es]; simp only; omega

/-- The corners, one after the other. -/
theorem corn_is (hu : Unit v) (h0 : 0 < v.length) {l0 : List Nat} (hl0 : Opt (okV v) (cV v) 0 (v.length - 1) l0) : ∀ k, k ≤ v.length - 1 → ∃ (q : Nat) (l : List Nat), (cornTo (rowsTo v v.length) k).2 = q ∧ k ≤ q ∧ q ≤ v.length - 1 ∧ Opt (okV v) (cV v) q (v.length - 1) l ∧ l0 = (cornTo (rowsTo v v.length) k).1 ++ l := by
  intro k
  induction k with
  | zero => intro _; exact ⟨0, l0, rfl, by omega, by omega, hl0, by simp [cornTo]⟩
  | succ k ih =>
    intro hk
    obtain ⟨q, l, e, kq, qn, o, el⟩ := ih (by omega)
    rw [cornTo]
    by_cases hkq : (k : Int) = (cornTo (rowsTo v v.length) k).2
    · rw [if_pos hkq]
      obtain rfl : k = q := by omega
      have hl := rowsTo_len v v.length
      obtain ⟨l2, o2, _, _, h2⟩ := rows_is hu h0 v.length (Nat.le_refl _) (v.length - 1 - k) (by omega)
      rw [show v.length - 1 - (v.length - 1 - k) = k from by omega] at o2 h2
      obtain ⟨p, l', e2, o3, ok3, e3⟩ := h2 (by omega)
      obtain rfl := o.unique o2
      refine ⟨p, l', ?_, by have := ok3.1; omega, by have := ok3.2.1; omega, o3, ?_⟩
      · simp only; rw [hl, e3]; omega
      · simp only; rw [el, e2]; simp
    · rw [if_neg hkq]
      exact ⟨q, l, e, by omega, qn, o, el⟩

theorem cornN_is {c : List Pt} (h0 : 0 < c.length) (hu : Unit (c ++ [fstP c])) : Opt (okV (c ++ [fstP c])) (cV (c ++ [fstP c])) 0 c.length (cornN c ++ [c.length]) := by
  have hl : (c ++ [fstP c]).length = c.length + 1 := by simp
  obtain ⟨l0, o0, _⟩ := rows_is hu (by omega) (c ++ [fstP c]).length (Nat.le_refl _) c.length (by omega)
  rw [hl] at o0
  simp only [Nat.add_sub_cancel, Nat.sub_self] at o0
  obtain ⟨q, l, e, kq, qn, o, el⟩ := corn_is hu (by omega) (by rw [hl]; exact o0) c.length (by rw [hl]; omega)
  rw [hl] at qn o el
  simp only [Nat.add_sub_cancel] at qn o
  obtain rfl : c.length = q := by omega
  rw [o.unique (opt_here _ _)] at el
  unfold cornN
  rw [← el]
  exact o0
end

/-- The first that differ decide. -/
def lexltB : List Nat → List Nat → Bool
  | a :: l, b :: m => if a = b then lexltB l m else decide (a < b)
  | _, _ => false
theorem lexltB_le : ∀ {a b : List Nat}, a.length = b.length → lexltB a b = true → lexle a b
  | [], _, _, _ => True.intro
  | _ :: _, [], e, _ => by simp at e
  | a :: l, b :: m, e, h => by
    rw [lexltB] at h
    split at h
    · next h1 => exact .inr ⟨h1, lexltB_le (by simpa using e) h⟩
    · exact .inl (of_decide_eq_true h)
theorem lexltB_no : ∀ {a b : List Nat}, a.length = b.length → lexltB a b = false → lexle b a
  | [], [], _, _ => True.intro
  | [], _ :: _, e, _ => by simp at e
  | _ :: _, [], e, _ => by simp at e
  | a :: l, b :: m, e, h => by
    rw [lexltB] at h
    split at h
    · next h1 => exact .inr ⟨h1.symm, lexltB_no (by simpa using e) h⟩
    · next h1 => have := of_decide_eq_false h; exact .inl (by omega)
/-- Is the row a, at the cost ca, better than b? -/
def bettB (a : List Nat) (ca : Int) (b : List Nat) (cb : Int) : Bool :=
  if b.length = 0 then true else if a.length = b.length then (if ca = cb then lexltB a b else decide (ca < cb)) else decide (a.length < b.length)
theorem bett_yes {cst : Nat → Nat → Int} {a b : List Nat} (hb : 0 < b.length) (h : bettB a (cs cst a) b (cs cst b) = true) : Le cst a b := by
  unfold bettB at h
  rw [if_neg (by omega)] at h
  split at h
  · next h1 =>
    refine .inr ⟨h1, ?_⟩
    split at h
    · next h2 => exact .inr ⟨h2, lexltB_le h1 h⟩
    · exact .inl (of_decide_eq_true h)
  · exact .inl (of_decide_eq_true h)
theorem bett_no {cst : Nat → Nat → Int} {a b : List Nat} (h : bettB a (cs cst a) b (cs cst b) = false) : Le cst b a := by
  unfold bettB at h
  split at h
  · simp at h
  · split at h
    · next h1 =>
      refine .inr ⟨h1.symm, ?_⟩
      split at h
      · next h2 => exact .inr ⟨h2.symm, lexltB_no h1 h⟩
      · have := of_decide_eq_false h; exact .inl (by omega)
    · have := of_decide_eq_false h; exact .inl (by omega)
theorem bett_none (a : List Nat) (ca cb : Int) : bettB a ca [] cb = true := by simp [bettB]

/-- The best row to j by one of the numbers below i; [] if there is none. -/
def BestTo (v : List Pt) (j i : Nat) (L : List Nat) : Prop :=
  (L = [] ∧ ∀ k, k < i → ¬ okV v k j) ∨ ((∃ k m, k < i ∧ okV v k j ∧ Opt (okV v) (cV v) 0 k m ∧ L = m ++ [j]) ∧ ∀ k m, k < i → okV v k j → Opt (okV v) (cV v) 0 k m → Le (cV v) L (m ++ [j]))
section
variable {v : List Pt} {i j : Nat} {L m : List Nat}
theorem BestTo.zero (v : List Pt) (j : Nat) : BestTo v j 0 [] := .inl ⟨rfl, fun k hk => by omega⟩
theorem BestTo.skip (h : BestTo v j i L) (hn : ¬ okV v i j) : BestTo v j (i + 1) L := by
  rcases h with ⟨h1, h2⟩ | ⟨⟨k, m, h1, h2, h3, h4⟩, h5⟩
  · refine .inl ⟨h1, fun k hk => ?_⟩
    rcases Nat.lt_or_ge k i with h | h
    · exact h2 k h
    · obtain rfl : k = i := by omega
      exact hn
  · refine .inr ⟨⟨k, m, by omega, h2, h3, h4⟩, fun k' m' hk' ok' o' => ?_⟩
    rcases Nat.lt_or_ge k' i with h | h
    · exact h5 k' m' h ok' o'
    · obtain rfl : k' = i := by omega
      exact absurd ok' hn
theorem BestTo.worse (h : BestTo v j i L) (hL : 0 < L.length) (hm : Opt (okV v) (cV v) 0 i m) (hle : Le (cV v) L (m ++ [j])) : BestTo v j (i + 1) L := by
  rcases h with ⟨h1, _⟩ | ⟨⟨k, m', h1, h2, h3, h4⟩, h5⟩
  · subst h1; simp at hL
  · refine .inr ⟨⟨k, m', by omega, h2, h3, h4⟩, fun k' m'' hk' ok' o' => ?_⟩
    rcases Nat.lt_or_ge k' i with h | h
    · exact h5 k' m'' h ok' o'
    · obtain rfl : k' = i := by omega
      rw [← hm.unique o']; exact hle
theorem BestTo.longer (h : BestTo v j i L) (hL : 0 < L.length) (hm : Opt (okV v) (cV v) 0 i m) (hle : L.length ≤ m.length) : BestTo v j (i + 1) L :=
  h.worse hL hm (.inl (by simp; omega))
theorem BestTo.not (h : BestTo v j i L) (hm : Opt (okV v) (cV v) 0 i m) {c : Int} (hc : L = [] ∨ c = cs (cV v) L) (hb : bettB (m ++ [j]) (cs (cV v) (m ++ [j])) L c = false) : BestTo v j (i + 1) L := by
  have hL : L ≠ [] := fun e => by subst e; rw [bett_none] at hb; simp at hb
  obtain rfl := hc.resolve_left hL
  exact h.worse (by cases L with | nil => exact absurd rfl hL | cons _ _ => simp) hm (bett_no hb)
theorem BestTo.new (h : BestTo v j i L) (hm : Opt (okV v) (cV v) 0 i m) (hok : okV v i j) {c : Int} (hc : L = [] ∨ c = cs (cV v) L) (hb : bettB (m ++ [j]) (cs (cV v) (m ++ [j])) L c = true) : BestTo v j (i + 1) (m ++ [j]) := by
  refine .inr ⟨⟨i, m, by omega, hok, hm, rfl⟩, fun k' m'' hk' ok' o' => ?_⟩
  rcases Nat.lt_or_ge k' i with hlt | hlt
  · rcases h with ⟨h1, h2⟩ | ⟨⟨k, m', h1, h2, h3, h4⟩, h5⟩
    · exact absurd ok' (h2 k' hlt)
    · have hL : L ≠ [] := by rw [h4]; simp
      obtain rfl := hc.resolve_left hL
      exact (bett_yes (by cases L with | nil => exact absurd rfl hL | cons _ _ => simp) hb).trans (h5 k' m'' hlt ok' o')
  · obtain rfl : k' = i := by omega
    rw [hm.unique o']; exact Le.refl _
theorem BestTo.done (hu : Unit v) (hj : 0 < j) (hjv : j < v.length) (h : BestTo v j j L) (hall : ∀ k, k < j → ∃ m, Opt (okV v) (cV v) 0 k m) : Opt (okV v) (cV v) 0 j L := by
  rcases h with ⟨_, h2⟩ | ⟨⟨k, m', h1, h2, h3, rfl⟩, h5⟩
  · have := hu.ok_next (i := j - 1) (by omega)
    rw [show j - 1 + 1 = j from by omega] at this
    exact absurd this (h2 (j - 1) (by omega))
  · exact Opt.back (by omega) (fun q hq _ => hall q hq.1) h2 h3 fun q m hq hm => h5 q m hq.1 hq hm
end
end Go.Proofs.YtljfiefobnncaabGreatDoor.Qm

/- Winding numbers of a list of sides. Nothing of the program stands here. -/
namespace Go.Proofs.YtljfiefobnncaabGreatDoor.Qm

/-- What is summed over a list of sides. -/
def sm (S : List Sd) (g : Sd → Int) : Int := (S.map g).sum
theorem sm_nil (g : Sd → Int) : sm [] g = 0 := rfl
theorem sm_cons (s : Sd) (S : List Sd) (g : Sd → Int) : sm (s :: S) g = g s + sm S g := by simp [sm]
theorem sm_app (S T : List Sd) (g : Sd → Int) : sm (S ++ T) g = sm S g + sm T g := by simp [sm, List.sum_append]
theorem sm_congr {S : List Sd} {g h : Sd → Int} (e : ∀ s ∈ S, g s = h s) : sm S g = sm S h := by
  unfold sm; rw [List.map_congr_left e]
theorem sm_add (S : List Sd) (g h : Sd → Int) : sm S (fun s => g s + h s) = sm S g + sm S h := by
  induction S with
  | nil => rfl
  | cons s S ih => simp only [sm_cons, ih]; omega
theorem sm_sub (S : List Sd) (g h : Sd → Int) : sm S (fun s => g s - h s) = sm S g - sm S h := by
  induction S with
  | nil => rfl
  | cons s S ih => simp only [sm_cons, ih]; omega
theorem sm_zero {S : List Sd} {g : Sd → Int} (e : ∀ s ∈ S, g s = 0) : sm S g = 0 := by
  induction S with
  | nil => rfl
  | cons s S ih => rw [sm_cons, e s (by simp), ih (fun t ht => e t (by simp [ht]))]; rfl

/-- How often a side stands in a list. -/
def ct (S : List Sd) (t : Sd) : Int := sm S (fun s => if s = t then 1 else 0)
theorem ct_no {S : List Sd} {t : Sd} (h : t ∉ S) : ct S t = 0 := sm_zero fun s hs => by
  rw [if_neg]; rintro rfl; exact h hs
theorem ct_yes {S : List Sd} {t : Sd} (hn : S.Nodup) (h : t ∈ S) : ct S t = 1 := by
  induction S with
  | nil => simp at h
  | cons s S ih =>
    have hn' := List.nodup_cons.1 hn
    show sm (s :: S) _ = 1
    rw [sm_cons]
    by_cases e : s = t
    · subst e
      have := ct_no hn'.1
      unfold ct at this
      rw [if_pos rfl, this]; rfl
    · rw [if_neg e]
      have := ih hn'.2 (by rcases List.mem_cons.1 h with h | h; exact absurd h.symm e; exact h)
      unfold ct at this
      rw [this]; rfl

/-- What one side adds to the winding number at the middle of pixel (x, y). -/
def hw (x y : Int) (s : Sd) : Int :=
  if s.2.2 = 2 ∧ s.2.1 = y + 1 ∧ x < s.1 then 1 else if s.2.2 = 0 ∧ s.2.1 = y ∧ x < s.1 then -1 else 0
def wn (S : List Sd) (x y : Int) : Int := sm S (hw x y)

theorem wn_x (S : List Sd) (x y : Int) : wn S (x - 1) y - wn S x y = ct S (x, y + 1, 2) - ct S (x, y, 0) := by
  unfold wn ct
  rw [← sm_sub, ← sm_sub]
  refine sm_congr fun s _ => ?_
  obtain ⟨a, b, d⟩ := s
  simp only [hw, Prod.mk.injEq]
  by_cases h2 : d = 2
  · subst h2; simp; split <;> split <;> (try split) <;> omega
  · by_cases h0 : d = 0
    · subst h0; simp; split <;> split <;> (try split) <;> omega
    · simp [h2, h0]

/-- It comes back to where it began. -/
def Closed (S : List Sd) : Prop := ∀ φ : Int × Int → Int, sm S (fun s => φ (en s) - φ (fromP s)) = 0
theorem Closed.nil : Closed [] := fun _ => rfl
theorem Closed.app {S T : List Sd} (h : Closed S) (k : Closed T) : Closed (S ++ T) := fun φ => by rw [sm_app, h φ, k φ]; rfl

theorem wn_y {S : List Sd} (hS : Closed S) (hd : ∀ s ∈ S, s.2.2 < 4) (x y : Int) : wn S x (y - 1) - wn S x y = ct S (x, y, 1) - ct S (x + 1, y, 3) := by
  have h := hS (fun p => if p.2 = y ∧ x < p.1 then 1 else 0)
  have e : sm S (fun s => (hw x (y - 1) s - hw x y s) - ((if s = (x, y, 1) then (1 : Int) else 0) - (if s = (x + 1, y, 3) then 1 else 0))) = sm S (fun s => 0 - ((fun p : Int × Int => if p.2 = y ∧ x < p.1 then (1 : Int) else 0) (en s) - (fun p : Int × Int => if p.2 = y ∧ x < p.1 then (1 : Int) else 0) (fromP s))) := by
    refine sm_congr fun s hs => ?_
    have h4 := hd s hs
    obtain ⟨a, b, d⟩ := s
    match d, h4 with
    | 0, _ => simp [hw, en, fromP]; repeat' split <;> try omega
    | 1, _ => simp [hw, en, fromP]; repeat' split <;> try omega
    | 2, _ => simp [hw, en, fromP]; repeat' split <;> try omega
    | 3, _ => simp [hw, en, fromP]; repeat' split <;> try omega
  rw [sm_sub, sm_sub, sm_sub, sm_sub (g := fun _ => (0 : Int)), h, sm_zero (fun _ _ => rfl)] at e
  unfold wn ct
  omega

theorem wn_left {S : List Sd} (hS : Closed S) (hd : ∀ s ∈ S, s.2.2 < 4) (x y : Int) (hx : ∀ s ∈ S, x < s.1) : wn S x y = 0 := by
  have h := hS (fun p => if p.2 ≤ y then 1 else 0)
  rw [← h]
  refine sm_congr fun s hs => ?_
  have h4 := hd s hs
  have hx := hx s hs
  obtain ⟨a, b, d⟩ := s
  simp only at hx
  match d, h4 with
  | 0, _ => simp [hw, en, fromP, hx]; repeat' split <;> try omega
  | 1, _ => simp [hw, en, fromP]; omega
  | 2, _ => simp [hw, en, fromP, hx]; repeat' split <;> try omega
  | 3, _ => simp [hw, en, fromP]; omega
theorem wn_right {S : List Sd} (x y : Int) (hx : ∀ s ∈ S, s.1 ≤ x) : wn S x y = 0 := sm_zero fun s hs => by
  have := hx s hs
  unfold hw
  rw [if_neg (by omega), if_neg (by omega)]
end Go.Proofs.YtljfiefobnncaabGreatDoor.Qm

/- The winding numbers of one cycle: on its left one number, on its right one less; they never change their sign. Nothing of the program stands here. -/
namespace Go.Proofs.YtljfiefobnncaabGreatDoor.Qm

/-- The sides of a cycle. -/
def cyS (f : Sd → Sd) (c : Sd × Nat) : List Sd := (List.range c.2).map fun i => it f i c.1
theorem mem_cyS {f : Sd → Sd} {c : Sd × Nat} {t : Sd} : t ∈ cyS f c ↔ ∃ i, i < c.2 ∧ t = it f i c.1 := by
  simp only [cyS, List.mem_map, List.mem_range]
  exact ⟨fun ⟨i, h, e⟩ => ⟨i, h, e.symm⟩, fun ⟨i, h, e⟩ => ⟨i, h, e.symm⟩⟩

theorem sm_range (f : Sd → Sd) (s : Sd) (g : Sd → Int) (n : Nat) : sm ((List.range (n + 1)).map fun i => it f i s) g = sm ((List.range n).map fun i => it f i s) g + g (it f n s) := by
  rw [List.range_succ, List.map_append, sm_app]; simp [sm]
theorem sm_tele {bl jn : Int → Int → Bool} (s : Sd) (φ : Int × Int → Int) (n : Nat) : sm ((List.range n).map fun i => it (nx bl jn) i s) (fun s => φ (en s) - φ (fromP s)) = φ (fromP (it (nx bl jn) n s)) - φ (fromP s) := by
  induction n with
  | zero => simp [sm, it]
  | succ n ih =>
    rw [sm_range, ih]
    have : fromP (it (nx bl jn) (n + 1) s) = en (it (nx bl jn) n s) := rfl
    rw [this]; omega

section
variable {bl jn : Int → Int → Bool} {c : Sd × Nat}

theorem Cyc.closed (h : Cyc (nx bl jn) (fun s => isS bl s = true) c.1 c.2) : Closed (cyS (nx bl jn) c) := fun φ => by
  unfold cyS
  rw [sm_tele, h.2.2.1]; omega
theorem Cyc.nodup (h : Cyc (nx bl jn) (fun s => isS bl s = true) c.1 c.2) : (cyS (nx bl jn) c).Nodup := by
  unfold cyS
  rw [List.Nodup, List.pairwise_map]
  refine List.Pairwise.imp_of_mem ?_ List.pairwise_lt_range
  intro i j _ hj hij
  exact h.2.2.2 i j hij (List.mem_range.1 hj)
theorem it_isS {s : Sd} (h : isS bl s = true) (n : Nat) : isS bl (it (nx bl jn) n s) = true := by
  induction n with
  | zero => exact h
  | succ n ih => exact nx_isS ih
theorem Cyc.sides (h : Cyc (nx bl jn) (fun s => isS bl s = true) c.1 c.2) : ∀ s ∈ cyS (nx bl jn) c, isS bl s = true := fun s hs => by
  obtain ⟨i, _, rfl⟩ := mem_cyS.1 hs
  exact it_isS h.1 i
theorem Cyc.mem (h : Cyc (nx bl jn) (fun s => isS bl s = true) c.1 c.2) (i : Nat) : it (nx bl jn) i c.1 ∈ cyS (nx bl jn) c :=
  mem_cyS.2 ⟨i % c.2, Nat.mod_lt _ h.2.1, h.mod i⟩

/-- On the left of a side of the list, one more than on its right. -/
theorem wn_side {S : List Sd} (hS : Closed S) (hn : S.Nodup) (hs : ∀ s ∈ S, isS bl s = true) {x y : Int} {d : Nat} (h : (x, y, d) ∈ S) : wn S (lpx x d) (lpy y d) = wn S (rpx x d) (rpy y d) + 1 := by
  have h0 := hs _ h
  have h4 := isS_lt h0
  have c1 := ct_yes hn h
  have no : ∀ t : Sd, isS bl t = false → ct S t = 0 := fun t ht => ct_no fun hm => by rw [hs t hm] at ht; simp at ht
  have hd : ∀ s ∈ S, s.2.2 < 4 := fun s hm => isS_lt (hs s hm)
  simp only at h4
  match d, h4 with
  | 0, _ =>
    have a := wn_x S x y
    have b := no (x, y + 1, 2) (by simp [isS, outQ] at h0 ⊢; simp [h0])
    simp only [lpx, lpy, rpx, rpy]; simp
    omega
  | 1, _ =>
    have a := wn_y hS hd x y
    have b := no (x + 1, y, 3) (by simp [isS, outQ] at h0 ⊢; simp [h0])
    simp only [lpx, lpy, rpx, rpy]; simp
    omega
  | 2, _ =>
    have a := wn_x S x (y - 1)
    rw [show y - 1 + 1 = y from by omega] at a
    have b := no (x, y - 1, 0) (by simp [isS, outQ] at h0 ⊢; simp [h0])
    simp only [lpx, lpy, rpx, rpy]; simp
    omega
  | 3, _ =>
    have a := wn_y hS hd (x - 1) y
    rw [show x - 1 + 1 = x from by omega] at a
    have b := no (x - 1, y, 1) (by simp [isS, outQ] at h0 ⊢; simp [h0])
    simp only [lpx, lpy, rpx, rpy]; simp
    omega

/-- Where two pixels side by side are of one colour, no side parts them. -/
theorem wn_same_x {S : List Sd} (hs : ∀ s ∈ S, isS bl s = true) {x y : Int} (h : bl (x - 1) y = bl x y) : wn S (x - 1) y = wn S x y := by
  have no : ∀ t : Sd, isS bl t = false → ct S t = 0 := fun t ht => ct_no fun hm => by rw [hs t hm] at ht; simp at ht
  have a := wn_x S x y
  have b := no (x, y + 1, 2) (by simp [isS, outQ, h])
  have d := no (x, y, 0) (by simp [isS, outQ, h])
  omega
theorem wn_same_y {S : List Sd} (hS : Closed S) (hs : ∀ s ∈ S, isS bl s = true) {x y : Int} (h : bl x (y - 1) = bl x y) : wn S x (y - 1) = wn S x y := by
  have no : ∀ t : Sd, isS bl t = false → ct S t = 0 := fun t ht => ct_no fun hm => by rw [hs t hm] at ht; simp at ht
  have a := wn_y hS (fun s hm => isS_lt (hs s hm)) x y
  have b := no (x, y, 1) (by simp [isS, outQ, h])
  have d := no (x + 1, y, 3) (by simp [isS, outQ, h])
  omega
end
end Go.Proofs.YtljfiefobnncaabGreatDoor.Qm
