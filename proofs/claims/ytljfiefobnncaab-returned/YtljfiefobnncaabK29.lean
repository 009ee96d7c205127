/- The best row of a cycle: found from behind, and found from the front. Nothing of the program stands here. -/
import Derived.Test.YtljfiefobnncaabK26
import Derived.Test.YtljfiefobnncaabK28
namespace Go.Proofs.Ytljfiefobnncaab.Qm

theorem getD_app_l {α : Type} (l m : List α) (d : α) (n : Nat) (h : n < l.length) : (l ++ m).getD n d = l.getD n d := by
  simp only [List.getD_eq_getElem?_getD]; rw [List.getElem?_append_left h]
theorem getD_app_r {α : Type} (l m : List α) (d : α) (n : Nat) (h : l.length ≤ n) : (l ++ m).getD n d = m.getD (n - l.length) d := by
  simp only [List.getD_eq_getElem?_getD]; rw [List.getElem?_append_right h]
/-- The points from number i to number j. -/
def sl (v : List Pt) (i j : Nat) : List Pt := (v.drop i).take (j - i + 1)
/-- May a line go from number i to number j? -/
def okV (v : List Pt) (i j : Nat) : Prop := i < j ∧ j < v.length ∧ j - i ≤ 12 ∧ fitB (sl v i j) = true
def cV (v : List Pt) (i j : Nat) : Int := costOf (sl v i j)
theorem sl_len {v : List Pt} {i j : Nat} (h : i ≤ j) (hj : j < v.length) : (sl v i j).length = j - i + 1 := by unfold sl; rw [List.length_take, List.length_drop]; omega
theorem sl_getD {v : List Pt} {i j k : Nat} (hk : k < j - i + 1) : (sl v i j).getD k (0, 0) = v.getD (i + k) (0, 0) := by
  unfold sl
  simp only [List.getD_eq_getElem?_getD]
  rw [List.getElem?_take_of_lt hk, List.getElem?_drop]
theorem Unit.sl {v : List Pt} (h : Unit v) {i j : Nat} (hij : i ≤ j) (hj : j < v.length) : Unit (sl v i j) := fun k hk => by
  rw [sl_len hij hj] at hk
  rw [sl_getD (by omega), sl_getD (by omega)]
  exact h (i + k) (by omega)
theorem Unit.ok_next {v : List Pt} (h : Unit v) {i : Nat} (hi : i + 1 < v.length) : okV v i (i + 1) :=
  ⟨by omega, hi, by omega, fit_two (h.sl (by omega) hi) (by rw [sl_len (by omega) hi]; omega)⟩

section
variable {v : List Pt} {i j k n : Nat} {l a b : List Nat}
theorem opt_here (v : List Pt) (n : Nat) : Opt (okV v) (cV v) n n [n] := by
  refine ⟨.one n, fun m hm => ?_⟩
  cases hm with
  | one => exact Le.refl _
  | cons _ k _ l ho hp => exact .inl (by have := hp.pos; simp; omega)

/-- What one row stands for. -/
def RowIs (v : List Pt) (i : Nat) (r : Rw) (l : List Nat) : Prop := Opt (okV v) (cV v) i (v.length - 1) l ∧ r.1 = (l.length : Int) - 1 ∧ r.2.1 = cs (cV v) l ∧ (i < v.length - 1 → ∃ k l', l = i :: l' ∧ Opt (okV v) (cV v) k (v.length - 1) l' ∧ okV v i k ∧ r.2.2 = (k : Int) - i)

/-- The best of the first k spans. -/
def AccIs (v : List Pt) (i k : Nat) (r : Rw) : Prop := ∃ s l', 1 ≤ s ∧ s ≤ k ∧ okV v i (i + s) ∧ Opt (okV v) (cV v) (i + s) (v.length - 1) l' ∧ r = ((l'.length : Int), cV v i (i + s) + cs (cV v) l', (s : Int)) ∧ ∀ s' l'', 1 ≤ s' → s' ≤ k → okV v i (i + s') → Opt (okV v) (cV v) (i + s') (v.length - 1) l'' → Le (cV v) (i :: l') (i :: l'')

theorem acc_is (hu : Unit v) {B : List Rw} (hB : ∀ s, 1 ≤ s → s ≤ B.length → ∃ l, RowIs v (i + s) (B.getD (B.length - s) (0, 0, 0)) l) (hi : i + B.length = v.length - 1) (h0 : 0 < v.length) : ∀ k, k + 1 ≤ 12 → k + 1 ≤ B.length → AccIs v i (k + 1) (accR (v.drop i) B (k + 1)) := by
  intro k
  induction k with
  | zero =>
    intro _ h1
    obtain ⟨l, o, e1, e2, _⟩ := hB 1 (by omega) h1
    have ok : okV v i (i + 1) := hu.ok_next (by omega)
    have f : fitB ((v.drop i).take (0 + 2)) = true := by have := ok.2.2.2; unfold sl at this; rwa [show i + 1 - i + 1 = 0 + 2 from by omega] at this
    refine ⟨1, l, by omega, by omega, ok, o, ?_, fun s' l'' h1' h2' ok' o' => ?_⟩
    · rw [accR]
      simp only [f, decide_true, Bool.true_or, Bool.and_self, if_true]
      rw [e1, e2]
      unfold cV sl
      rw [show i + 1 - i + 1 = 0 + 2 from by omega]
      refine Prod.ext (by simp) (Prod.ext ?_ (by simp))
      simp only
      omega
    · obtain rfl : s' = 1 := by omega
      rw [o.unique o']; exact Le.refl _
  | succ k ih =>
    intro h12 hb
    obtain ⟨s, l', s1, s2, oks, os, es, hs⟩ := ih (by omega) (by omega)
    obtain ⟨l, o, e1, e2, _⟩ := hB (k + 2) (by omega) hb
    have TK : (v.drop i).take (k + 1 + 2) = sl v i (i + (k + 2)) := by unfold sl; rw [show i + (k + 2) - i + 1 = k + 1 + 2 from by omega]
    rw [accR]
    simp only [TK, show k + 1 + 1 = k + 2 from rfl]
    rw [e1, e2]
    have dk : decide (k + 1 = 0) = false := by simp
    rw [dk, Bool.false_or]
    cases hf : fitB (sl v i (i + (k + 2))) with
    | false =>
      simp only [Bool.false_and, Bool.false_eq_true, if_false]
      refine ⟨s, l', s1, by omega, oks, os, es, fun s' l'' h1' h2' ok' o' => ?_⟩
      rcases Nat.lt_or_ge s' (k + 2) with h | h
      · exact hs s' l'' h1' (by omega) ok' o'
      · obtain rfl : s' = k + 2 := by omega
        exact absurd ok'.2.2.2 (by rw [hf]; simp)
    | true =>
      have ok2 : okV v i (i + (k + 2)) := ⟨by omega, by omega, by omega, hf⟩
      have ca : cs (cV v) (i :: l') = cV v i (i + s) + cs (cV v) l' := cs_cons os.1 i
      have cb : cs (cV v) (i :: l) = cV v i (i + (k + 2)) + cs (cV v) l := cs_cons o.1 i
      obtain ⟨ma, hma⟩ := os.1.head
      obtain ⟨mb, hmb⟩ := o.1.head
      simp only [Bool.true_and]
      cases hbt : betB ((l.length : Int) - 1 + 1, cs (cV v) l + costOf (sl v i (i + (k + 2))), ((k + 1 : Nat) : Int) + 1) (accR (v.drop i) B (k + 1)) with
      | true =>
        rw [es] at hbt
        unfold betB at hbt
        simp only [decide_eq_true_eq] at hbt
        have le1 : Le (cV v) (i :: l) (i :: l') := by
          unfold Le
          rw [ca, cb]
          simp only [List.length_cons]
          have : cV v i (i + (k + 2)) = costOf (sl v i (i + (k + 2))) := rfl
          omega
        simp only [if_true]
        refine ⟨k + 2, l, by omega, by omega, ok2, o, ?_, fun s' l'' h1' h2' ok' o' => ?_⟩
        · refine Prod.ext (by simp only; omega) (Prod.ext ?_ (by simp only; omega))
          simp only
          have : cV v i (i + (k + 2)) = costOf (sl v i (i + (k + 2))) := rfl
          omega
        · rcases Nat.lt_or_ge s' (k + 2) with h | h
          · exact le1.trans (hs s' l'' h1' (by omega) ok' o')
          · obtain rfl : s' = k + 2 := by omega
            rw [o.unique o']; exact Le.refl _
      | false =>
        rw [es] at hbt
        unfold betB at hbt
        simp only [decide_eq_false_iff_not] at hbt
        have le1 : Le (cV v) (i :: l') (i :: l) := by
          unfold Le
          rw [ca, cb]
          simp only [List.length_cons]
          have : cV v i (i + (k + 2)) = costOf (sl v i (i + (k + 2))) := rfl
          have lx : lexle (i :: l') (i :: l) := .inr ⟨rfl, by rw [hma, hmb]; exact .inl (by omega)⟩
          by_cases hl : l'.length < l.length
          · exact .inl (by omega)
          · refine .inr ⟨by omega, ?_⟩
            by_cases hc : cV v i (i + s) + cs (cV v) l' < cV v i (i + (k + 2)) + cs (cV v) l
            · exact .inl hc
            · exact .inr ⟨by omega, lx⟩
        simp only [Bool.false_eq_true, if_false]
        refine ⟨s, l', s1, by omega, oks, os, es, fun s' l'' h1' h2' ok' o' => ?_⟩
        rcases Nat.lt_or_ge s' (k + 2) with h | h
        · exact hs s' l'' h1' (by omega) ok' o'
        · obtain rfl : s' = k + 2 := by omega
          rw [← o.unique o']; exact le1

/-- The rows from behind are the best ones. -/
theorem rows_is (hu : Unit v) (h0 : 0 < v.length) : ∀ m, m ≤ v.length → ∀ q, q < m → ∃ l, RowIs v (v.length - 1 - q) ((rowsTo v m).getD q (0, 0, 0)) l := by
  intro m
  induction m with
  | zero => intro _ q hq; omega
  | succ m ih =>
    intro hm q hq
    have hl := rowsTo_len v m
    rcases Nat.lt_or_ge q m with h | h
    · obtain ⟨l, hl'⟩ := ih (by omega) q h
      refine ⟨l, ?_⟩
      rw [rowsTo, getD_app_l _ _ _ _ (by omega)]; exact hl'
    · obtain rfl : q = m := by omega
      rw [rowsTo, getD_app_r _ _ _ _ (by omega), hl, Nat.sub_self, List.getD_cons_zero]
      cases q with
      | zero =>
        refine ⟨[v.length - 1], ?_, ?_, ?_, fun h => by omega⟩
        · simp only [Nat.sub_zero]; exact opt_here v _
        · simp [spn, accR]
        · simp [spn, accR, cs]
      | succ q =>
        obtain ⟨i, hi⟩ : ∃ i, i = v.length - 1 - (q + 1) := ⟨_, rfl⟩
        rw [← hi]
        obtain ⟨k, hk⟩ : ∃ k, spn (q + 1 + 1) (q + 1) = k + 1 := ⟨min 12 (q + 1) - 1, by unfold spn; omega⟩
        have hk2 : k + 1 = min 12 (q + 1) := by rw [← hk]; unfold spn; omega
        have HB : ∀ s, 1 ≤ s → s ≤ (rowsTo v (q + 1)).length → ∃ l, RowIs v (i + s) ((rowsTo v (q + 1)).getD ((rowsTo v (q + 1)).length - s) (0, 0, 0)) l := by
          intro s s1 s2
          rw [hl] at s2 ⊢
          have := ih (by omega) (q + 1 - s) (by omega)
          rwa [show v.length - 1 - (q + 1 - s) = i + s from by omega] at this
        have ac := acc_is hu HB (by rw [hl]; omega) h0 k (by omega) (by rw [hl]; omega)
        rw [hk]
        obtain ⟨s, l', s1, s2, oks, os, es, hs⟩ := ac
        refine ⟨i :: l', ?_, ?_, ?_, fun _ => ⟨i + s, l', rfl, os, oks, ?_⟩⟩
        · refine Opt.front (by omega) (fun p hp => ?_) oks os fun p m hp hm' => ?_
          · obtain ⟨l2, o2⟩ := HB (p - i) (by have := hp.1; omega) (by rw [hl]; have := hp.2.1; have := hp.1; omega)
            rw [show i + (p - i) = p from by have := hp.1; omega] at o2
            exact ⟨l2, o2.1⟩
          · have h1 := hp.1
            have h2 := hp.2.1
            have h3 := hp.2.2.1
            have e : i + (p - i) = p := by omega
            refine hs (p - i) m (by omega) (by omega) ?_ ?_
            · rw [e]; exact hp
            · rw [e]; exact hm'
        · rw [es]; simp
        · rw [es]; simp only; rw [cs_cons os.1 i]
        · rw [es]; simp only; omega

/-- The corners, one after the other. -/
theorem corn_is (hu : Unit v) (h0 : 0 < v.length) {l0 : List Nat} (hl0 : Opt (okV v) (cV v) 0 (v.length - 1) l0) : ∀ k, k ≤ v.length - 1 → ∃ (q : Nat) (l : List Nat), (cornTo (rowsTo v v.length) k).2 = q ∧ k ≤ q ∧ q ≤ v.length - 1 ∧ Opt (okV v) (cV v) q (v.length - 1) l ∧ l0 = (cornTo (rowsTo v v.length) k).1 ++ l := by
  intro k
  induction k with
  | zero => intro _; exact ⟨0, l0, rfl, by omega, by omega, hl0, by simp [cornTo]⟩
  | succ k ih =>
    intro hk
    obtain ⟨q, l, e, kq, qn, o, el⟩ := ih (by omega)
    rw [cornTo]
    by_cases hkq : (k : Int) = (cornTo (rowsTo v v.length) k).2
    · rw [if_pos hkq]
      obtain rfl : k = q := by omega
      have hl := rowsTo_len v v.length
      obtain ⟨l2, o2, _, _, h2⟩ := rows_is hu h0 v.length (Nat.le_refl _) (v.length - 1 - k) (by omega)
      rw [show v.length - 1 - (v.length - 1 - k) = k from by omega] at o2 h2
      obtain ⟨p, l', e2, o3, ok3, e3⟩ := h2 (by omega)
      obtain rfl := o.unique o2
      refine ⟨p, l', ?_, by have := ok3.1; omega, by have := ok3.2.1; omega, o3, ?_⟩
      · simp only; rw [hl, e3]; omega
      · simp only; rw [el, e2]; simp
    · rw [if_neg hkq]
      exact ⟨q, l, e, by omega, qn, o, el⟩

theorem cornN_is {c : List Pt} (h0 : 0 < c.length) (hu : Unit (c ++ [fstP c])) : Opt (okV (c ++ [fstP c])) (cV (c ++ [fstP c])) 0 c.length (cornN c ++ [c.length]) := by
  have hl : (c ++ [fstP c]).length = c.length + 1 := by simp
  obtain ⟨l0, o0, _⟩ := rows_is hu (by omega) (c ++ [fstP c]).length (Nat.le_refl _) c.length (by omega)
  rw [hl] at o0
  simp only [Nat.add_sub_cancel, Nat.sub_self] at o0
  obtain ⟨q, l, e, kq, qn, o, el⟩ := corn_is hu (by omega) (by rw [hl]; exact o0) c.length (by rw [hl]; omega)
  rw [hl] at qn o el
  simp only [Nat.add_sub_cancel] at qn o
  obtain rfl : c.length = q := by omega
  rw [o.unique (opt_here _ _)] at el
  unfold cornN
  rw [← el]
  exact o0
end

/-- The first that differ decide. -/
def lexltB : List Nat → List Nat → Bool
  | a :: l, b :: m => if a = b then lexltB l m else decide (a < b)
  | _, _ => false
theorem lexltB_le : ∀ {a b : List Nat}, a.length = b.length → lexltB a b = true → lexle a b
  | [], _, _, _ => True.intro
  | _ :: _, [], e, _ => by simp at e
  | a :: l, b :: m, e, h => by
    rw [lexltB] at h
    split at h
    · next h1 => exact .inr ⟨h1, lexltB_le (by simpa using e) h⟩
    · exact .inl (of_decide_eq_true h)
theorem lexltB_no : ∀ {a b : List Nat}, a.length = b.length → lexltB a b = false → lexle b a
  | [], [], _, _ => True.intro
  | [], _ :: _, e, _ => by simp at e
  | _ :: _, [], e, _ => by simp at e
  | a :: l, b :: m, e, h => by
    rw [lexltB] at h
    split at h
    · next h1 => exact .inr ⟨h1.symm, lexltB_no (by simpa using e) h⟩
    · next h1 => have := of_decide_eq_false h; exact .inl (by omega)
/-- Is the row a, at the cost ca, better than b? -/
def bettB (a : List Nat) (ca : Int) (b : List Nat) (cb : Int) : Bool :=
  if b.length = 0 then true else if a.length = b.length then (if ca = cb then lexltB a b else decide (ca < cb)) else decide (a.length < b.length)
theorem bett_yes {cst : Nat → Nat → Int} {a b : List Nat} (hb : 0 < b.length) (h : bettB a (cs cst a) b (cs cst b) = true) : Le cst a b := by
  unfold bettB at h
  rw [if_neg (by omega)] at h
  split at h
  · next h1 =>
    refine .inr ⟨h1, ?_⟩
    split at h
    · next h2 => exact .inr ⟨h2, lexltB_le h1 h⟩
    · exact .inl (of_decide_eq_true h)
  · exact .inl (of_decide_eq_true h)
theorem bett_no {cst : Nat → Nat → Int} {a b : List Nat} (h : bettB a (cs cst a) b (cs cst b) = false) : Le cst b a := by
  unfold bettB at h
  split at h
  · simp at h
  · split at h
    · next h1 =>
      refine .inr ⟨h1.symm, ?_⟩
      split at h
      · next h2 => exact .inr ⟨h2.symm, lexltB_no h1 h⟩
      · have := of_decide_eq_false h; exact .inl (by omega)
    · have := of_decide_eq_false h; exact .inl (by omega)
theorem bett_none (a : List Nat) (ca cb : Int) : bettB a ca [] cb = true := by simp [bettB]

/-- The best row to j by one of the numbers below i; [] if there is none. -/
def BestTo (v : List Pt) (j i : Nat) (L : List Nat) : Prop :=
  (L = [] ∧ ∀ k, k < i → ¬ okV v k j) ∨ ((∃ k m, k < i ∧ okV v k j ∧ Opt (okV v) (cV v) 0 k m ∧ L = m ++ [j]) ∧ ∀ k m, k < i → okV v k j → Opt (okV v) (cV v) 0 k m → Le (cV v) L (m ++ [j]))
section
variable {v : List Pt} {i j : Nat} {L m : List Nat}
theorem BestTo.zero (v : List Pt) (j : Nat) : BestTo v j 0 [] := .inl ⟨rfl, fun k hk => by omega⟩
theorem BestTo.skip (h : BestTo v j i L) (hn : ¬ okV v i j) : BestTo v j (i + 1) L := by
  rcases h with ⟨h1, h2⟩ | ⟨⟨k, m, h1, h2, h3, h4⟩, h5⟩
  · refine .inl ⟨h1, fun k hk => ?_⟩
    rcases Nat.lt_or_ge k i with h | h
    · exact h2 k h
    · obtain rfl : k = i := by omega
      exact hn
  · refine .inr ⟨⟨k, m, by omega, h2, h3, h4⟩, fun k' m' hk' ok' o' => ?_⟩
    rcases Nat.lt_or_ge k' i with h | h
    · exact h5 k' m' h ok' o'
    · obtain rfl : k' = i := by omega
      exact absurd ok' hn
theorem BestTo.worse (h : BestTo v j i L) (hL : 0 < L.length) (hm : Opt (okV v) (cV v) 0 i m) (hle : Le (cV v) L (m ++ [j])) : BestTo v j (i + 1) L := by
  rcases h with ⟨h1, _⟩ | ⟨⟨k, m', h1, h2, h3, h4⟩, h5⟩
  · subst h1; simp at hL
  · refine .inr ⟨⟨k, m', by omega, h2, h3, h4⟩, fun k' m'' hk' ok' o' => ?_⟩
    rcases Nat.lt_or_ge k' i with h | h
    · exact h5 k' m'' h ok' o'
    · obtain rfl : k' = i := by omega
      rw [← hm.unique o']; exact hle
theorem BestTo.longer (h : BestTo v j i L) (hL : 0 < L.length) (hm : Opt (okV v) (cV v) 0 i m) (hle : L.length ≤ m.length) : BestTo v j (i + 1) L :=
  h.worse hL hm (.inl (by simp; omega))
theorem BestTo.not (h : BestTo v j i L) (hm : Opt (okV v) (cV v) 0 i m) {c : Int} (hc : L = [] ∨ c = cs (cV v) L) (hb : bettB (m ++ [j]) (cs (cV v) (m ++ [j])) L c = false) : BestTo v j (i + 1) L := by
  have hL : L ≠ [] := fun e => by subst e; rw [bett_none] at hb; simp at hb
  obtain rfl := hc.resolve_left hL
  exact h.worse (by cases L with | nil => exact absurd rfl hL | cons _ _ => simp) hm (bett_no hb)
theorem BestTo.new (h : BestTo v j i L) (hm : Opt (okV v) (cV v) 0 i m) (hok : okV v i j) {c : Int} (hc : L = [] ∨ c = cs (cV v) L) (hb : bettB (m ++ [j]) (cs (cV v) (m ++ [j])) L c = true) : BestTo v j (i + 1) (m ++ [j]) := by
  refine .inr ⟨⟨i, m, by omega, hok, hm, rfl⟩, fun k' m'' hk' ok' o' => ?_⟩
  rcases Nat.lt_or_ge k' i with hlt | hlt
  · rcases h with ⟨h1, h2⟩ | ⟨⟨k, m', h1, h2, h3, h4⟩, h5⟩
    · exact absurd ok' (h2 k' hlt)
    · have hL : L ≠ [] := by rw [h4]; simp
      obtain rfl := hc.resolve_left hL
      exact (bett_yes (by cases L with | nil => exact absurd rfl hL | cons _ _ => simp) hb).trans (h5 k' m'' hlt ok' o')
  · obtain rfl : k' = i := by omega
    rw [hm.unique o']; exact Le.refl _
theorem BestTo.done (hu : Unit v) (hj : 0 < j) (hjv : j < v.length) (h : BestTo v j j L) (hall : ∀ k, k < j → ∃ m, Opt (okV v) (cV v) 0 k m) : Opt (okV v) (cV v) 0 j L := by
  rcases h with ⟨_, h2⟩ | ⟨⟨k, m', h1, h2, h3, rfl⟩, h5⟩
  · have := hu.ok_next (i := j - 1) (by omega)
    rw [show j - 1 + 1 = j from by omega] at this
    exact absurd this (h2 (j - 1) (by omega))
  · exact Opt.back (by omega) (fun q hq _ => hall q hq.1) h2 h3 fun q m hq hm => h5 q m hq.1 hq hm
end
end Go.Proofs.Ytljfiefobnncaab.Qm
