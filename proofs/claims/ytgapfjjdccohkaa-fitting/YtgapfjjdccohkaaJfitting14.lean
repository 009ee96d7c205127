import Derived.Test.YtgapfjjdccohkaaJfitting13
import Derived.Test.YtgapfjjdccohkaaJfitting09
import Derived.Deep.QuietTactic
import Derived.BigQuiet
import Derived.Deep.RegionHeld3

/- The best row of a cycle: found from behind, and found from the front. Nothing of the program stands here. -/
namespace Go.Proofs.Ytgapfjjdccohkaa.Qm

theorem getD_app_l {α : Type} (l m : List α) (d : α) (n : Nat) (h : n < l.length) : (l ++ m).getD n d = l.getD n d := by
  simp only [List.getD_eq_getElem?_getD]; rw [List.getElem?_append_left h]
theorem getD_app_r {α : Type} (l m : List α) (d : α) (n : Nat) (h : l.length ≤ n) : (l ++ m).getD n d = m.getD (n - l.length) d := by
  simp only [List.getD_eq_getElem?_getD]; rw [List.getElem?_append_right h]
/-- The points from number i to number j. -/
def sl (v : List Pt) (i j : Nat) : List Pt := (v.drop i).take (j - i + 1)
/-- May a line go from number i to number j? -/
def okV (v : List Pt) (i j : Nat) : Prop := i < j ∧ j < v.length ∧ j - i ≤ 12 ∧ fitB (sl v i j) = true
def cV (v : List Pt) (i j : Nat) : Int := costOf (sl v i j)
theorem sl_len {v : List Pt} {i j : Nat} (h : i ≤ j) (hj : j < v.length) : (sl v i j).length = j - i + 1 := by unfold sl; rw [List.length_take, List.length_drop]; omega
theorem sl_getD {v : List Pt} {i j k : Nat} (hk : k < j - i + 1) : (sl v i j).getD k (0, 0) = v.getD (i + k) (0, 0) := by
  unfold sl
  simp only [List.getD_eq_getElem?_getD]
  rw [List.getElem?_take_of_lt hk, List.getElem?_drop]
theorem Unit.sl {v : List Pt} (h : Unit v) {i j : Nat} (hij : i ≤ j) (hj : j < v.length) : Unit (sl v i j) := fun k hk => by
  rw [sl_len hij hj] at hk
  rw [sl_getD (by omega), sl_getD (by omega)]
  exact h (i + k) (by omega)
theorem Unit.ok_next {v : List Pt} (h : Unit v) {i : Nat} (hi : i + 1 < v.length) : okV v i (i + 1) :=
  ⟨by omega, hi, by omega, fit_two (h.sl (by omega) hi) (by rw [sl_len (by omega) hi]; omega)⟩

section
variable {v : List Pt} {i j k n : Nat} {l a b : List Nat}
theorem opt_here (v : List Pt) (n : Nat) : Opt (okV v) (cV v) n n [n] := by
  refine ⟨.one n, fun m hm => ?_⟩
  cases hm with
  | one => exact Le.refl _
  | cons _ k _ l ho hp => exact .inl (by have := hp.pos; simp; omega)

/-- What one row stands for. -/
def RowIs (v : List Pt) (i : Nat) (r : Rw) (l : List Nat) : Prop := Opt (okV v) (cV v) i (v.length - 1) l ∧ r.1 = (l.length : Int) - 1 ∧ r.2.1 = cs (cV v) l ∧ (i < v.length - 1 → ∃ k l', l = i :: l' ∧ Opt (okV v) (cV v) k (v.length - 1) l' ∧ okV v i k ∧ r.2.2 = (k : Int) - i)

/-- The best of the first k spans. -/
def AccIs (v : List Pt) (i k : Nat) (r : Rw) : Prop := ∃ s l', 1 ≤ s ∧ s ≤ k ∧ okV v i (i + s) ∧ Opt (okV v) (cV v) (i + s) (v.length - 1) l' ∧ r = ((l'.length : Int), cV v i (i + s) + cs (cV v) l', (s : Int)) ∧ ∀ s' l'', 1 ≤ s' → s' ≤ k → okV v i (i + s') → Opt (okV v) (cV v) (i + s') (v.length - 1) l'' → Le (cV v) (i :: l') (i :: l'')

theorem acc_is (hu : Unit v) {B : List Rw} (hB : ∀ s, 1 ≤ s → s ≤ B.length → ∃ l, RowIs v (i + s) (B.getD (B.length - s) (0, 0, 0)) l) (hi : i + B.length = v.length - 1) (h0 : 0 < v.length) : ∀ k, k + 1 ≤ 12 → k + 1 ≤ B.length → AccIs v i (k + 1) (accR (v.drop i) B (k + 1)) := by
  intro k
  induction k with
  | zero =>
    intro _ h1
    obtain ⟨l, o, e1, e2, _⟩ := hB 1 (by omega) h1
    have ok : okV v i (i + 1) := hu.ok_next (by omega)
    have f : fitB ((v.drop i).take (0 + 2)) = true := by have := ok.2.2.2; unfold sl at this; rwa [show i + 1 - i + 1 = 0 + 2 from by omega] at this
    refine ⟨1, l, by omega, by omega, ok, o, ?_, fun s' l'' h1' h2' ok' o' => ?_⟩
    · rw [accR]
      simp only [f, decide_true, Bool.true_or, Bool.and_self, if_true]
      rw [e1, e2]
      unfold cV sl
      rw [show i + 1 - i + 1 = 0 + 2 from by omega]
      refine Prod.ext (by simp) (Prod.ext ?_ (by simp))
      simp only
      omega
    · obtain rfl : s' = 1 := by omega
      rw [o.unique o']; exact Le.refl _
  | succ k ih =>
    intro h12 hb
    obtain ⟨s, l', s1, s2, oks, os, es, hs⟩ := ih (by omega) (by omega)
    obtain ⟨l, o, e1, e2, _⟩ := hB (k + 2) (by omega) hb
    have TK : (v.drop i).take (k + 1 + 2) = sl v i (i + (k + 2)) := by unfold sl; rw [show i + (k + 2) - i + 1 = k + 1 + 2 from by omega]
    rw [accR]
    simp only [TK, show k + 1 + 1 = k + 2 from rfl]
    rw [e1, e2]
    have dk : decide (k + 1 = 0) = false := by simp
    rw [dk, Bool.false_or]
    cases hf : fitB (sl v i (i + (k + 2))) with
    | false =>
      simp only [Bool.false_and, Bool.false_eq_true, if_false]
      refine ⟨s, l', s1, by omega, oks, os, es, fun s' l'' h1' h2' ok' o' => ?_⟩
      rcases Nat.lt_or_ge s' (k + 2) with h | h
      · exact hs s' l'' h1' (by omega) ok' o'
      · obtain rfl : s' = k + 2 := by omega
        exact absurd ok'.2.2.2 (by rw [hf]; simp)
    | true =>
      have ok2 : okV v i (i + (k + 2)) := ⟨by omega, by omega, by omega, hf⟩
      have ca : cs (cV v) (i :: l') = cV v i (i + s) + cs (cV v) l' := cs_cons os.1 i
      have cb : cs (cV v) (i :: l) = cV v i (i + (k + 2)) + cs (cV v) l := cs_cons o.1 i
      obtain ⟨ma, hma⟩ := os.1.head
      obtain ⟨mb, hmb⟩ := o.1.head
      simp only [Bool.true_and]
      cases hbt : betB ((l.length : Int) - 1 + 1, cs (cV v) l + costOf (sl v i (i + (k + 2))), ((k + 1 : Nat) : Int) + 1) (accR (v.drop i) B (k + 1)) with
      | true =>
        rw [es] at hbt
        unfold betB at hbt
        simp only [decide_eq_true_eq] at hbt
        have le1 : Le (cV v) (i :: l) (i :: l') := by
          unfold Le
          rw [ca, cb]
          simp only [List.length_cons]
          have : cV v i (i + (k + 2)) = costOf (sl v i (i + (k + 2))) := rfl
          omega
        simp only [if_true]
        refine ⟨k + 2, l, by omega, by omega, ok2, o, ?_, fun s' l'' h1' h2' ok' o' => ?_⟩
        · refine Prod.ext (by simp only; omega) (Prod.ext ?_ (by simp only; omega))
          simp only
          have : cV v i (i + (k + 2)) = costOf (sl v i (i + (k + 2))) := rfl
          omega
        · rcases Nat.lt_or_ge s' (k + 2) with h | h
          · exact le1.trans (hs s' l'' h1' (by omega) ok' o')
          · obtain rfl : s' = k + 2 := by omega
            rw [o.unique o']; exact Le.refl _
      | false =>
        rw [es] at hbt
        unfold betB at hbt
        simp only [decide_eq_false_iff_not] at hbt
        have le1 : Le (cV v) (i :: l') (i :: l) := by
          unfold Le
          rw [ca, cb]
          simp only [List.length_cons]
          have : cV v i (i + (k + 2)) = costOf (sl v i (i + (k + 2))) := rfl
          have lx : lexle (i :: l') (i :: l) := .inr ⟨rfl, by rw [hma, hmb]; exact .inl (by omega)⟩
          by_cases hl : l'.length < l.length
          · exact .inl (by omega)
          · refine .inr ⟨by omega, ?_⟩
            by_cases hc : cV v i (i + s) + cs (cV v) l' < cV v i (i + (k + 2)) + cs (cV v) l
            · exact .inl hc
            · exact .inr ⟨by omega, lx⟩
        simp only [Bool.false_eq_true, if_false]
        refine ⟨s, l', s1, by omega, oks, os, es, fun s' l'' h1' h2' ok' o' => ?_⟩
        rcases Nat.lt_or_ge s' (k + 2) with h | h
        · exact hs s' l'' h1' (by omega) ok' o'
        · obtain rfl : s' = k + 2 := by omega
          rw [← o.unique o']; exact le1

/-- The rows from behind are the best ones. -/
theorem rows_is (hu : Unit v) (h0 : 0 < v.length) : ∀ m, m ≤ v.length → ∀ q, q < m → ∃ l, RowIs v (v.length - 1 - q) ((rowsTo v m).getD q (0, 0, 0)) l := by
  intro m
  induction m with
  | zero => intro _ q hq; omega
  | succ m ih =>
    intro hm q hq
    have hl := rowsTo_len v m
    rcases Nat.lt_or_ge q m with h | h
    · obtain ⟨l, hl'⟩ := ih (by omega) q h
      refine ⟨l, ?_⟩
      rw [rowsTo, getD_app_l _ _ _ _ (by omega)]; exact hl'
    · obtain rfl : q = m := by omega
      rw [rowsTo, getD_app_r _ _ _ _ (by omega), hl, Nat.sub_self, List.getD_cons_zero]
      cases q with
      | zero =>
        refine ⟨[v.length - 1], ?_, ?_, ?_, fun h => by omega⟩
        · simp only [Nat.sub_zero]; exact opt_here v _
        · simp [spn, accR]
        · simp [spn, accR, cs]
      | succ q =>
        obtain ⟨i, hi⟩ : ∃ i, i = v.length - 1 - (q + 1) := ⟨_, rfl⟩
        rw [← hi]
        obtain ⟨k, hk⟩ : ∃ k, spn (q + 1 + 1) (q + 1) = k + 1 := ⟨min 12 (q + 1) - 1, by unfold spn; omega⟩
        have hk2 : k + 1 = min 12 (q + 1) := by rw [← hk]; unfold spn; omega
        have HB : ∀ s, 1 ≤ s → s ≤ (rowsTo v (q + 1)).length → ∃ l, RowIs v (i + s) ((rowsTo v (q + 1)).getD ((rowsTo v (q + 1)).length - s) (0, 0, 0)) l := by
          intro s s1 s2
          rw [hl] at s2 ⊢
          have := ih (by omega) (q + 1 - s) (by omega)
          rwa [show v.length - 1 - (q + 1 - s) = i + s from by omega] at this
        have ac := acc_is hu HB (by rw [hl]; omega) h0 k (by omega) (by rw [hl]; omega)
        rw [hk]
        obtain ⟨s, l', s1, s2, oks, os, es, hs⟩ := ac
        refine ⟨i :: l', ?_, ?_, ?_, fun _ => ⟨i + s, l', rfl, os, oks, ?_⟩⟩
        · refine Opt.front (by omega) (fun p hp => ?_) oks os fun p m hp hm' => ?_
          · obtain ⟨l2, o2⟩ := HB (p - i) (by have := hp.1; omega) (by rw [hl]; have := hp.2.1; have := hp.1; omega)
            rw [show i + (p - i) = p from by have := hp.1; omega] at o2
            exact ⟨l2, o2.1⟩
          · have h1 := hp.1
            have h2 := hp.2.1
            have h3 := hp.2.2.1
            have e : i + (p - i) = p := by omega
            refine hs (p - i) m (by omega) (by omega) ?_ ?_
            · rw [e]; exact hp
            · rw [e]; exact hm'
        · rw [es]; simp
        · rw [es]; simp only; rw [cs_cons os.1 i]
        · rw [es]; simp only; omega

/-- The corners, one after the other. -/
theorem corn_is (hu : Unit v) (h0 : 0 < v.length) {l0 : List Nat} (hl0 : Opt (okV v) (cV v) 0 (v.length - 1) l0) : ∀ k, k ≤ v.length - 1 → ∃ (q : Nat) (l : List Nat), (cornTo (rowsTo v v.length) k).2 = q ∧ k ≤ q ∧ q ≤ v.length - 1 ∧ Opt (okV v) (cV v) q (v.length - 1) l ∧ l0 = (cornTo (rowsTo v v.length) k).1 ++ l := by
  intro k
  induction k with
  | zero => intro _; exact ⟨0, l0, rfl, by omega, by omega, hl0, by simp [cornTo]⟩
  | succ k ih =>
    intro hk
    obtain ⟨q, l, e, kq, qn, o, el⟩ := ih (by omega)
    rw [cornTo]
    by_cases hkq : (k : Int) = (cornTo (rowsTo v v.length) k).2
    · rw [if_pos hkq]
      obtain rfl : k = q := by omega
      have hl := rowsTo_len v v.length
      obtain ⟨l2, o2, _, _, h2⟩ := rows_is hu h0 v.length (Nat.le_refl _) (v.length - 1 - k) (by omega)
      rw [show v.length - 1 - (v.length - 1 - k) = k from by omega] at o2 h2
      obtain ⟨p, l', e2, o3, ok3, e3⟩ := h2 (by omega)
      obtain rfl := o.unique o2
      refine ⟨p, l', ?_, by have := ok3.1; omega, by have := ok3.2.1; omega, o3, ?_⟩
      · simp only; rw [hl, e3]; omega
      · simp only; rw [el, e2]; simp
    · rw [if_neg hkq]
      exact ⟨q, l, e, by omega, qn, o, el⟩

theorem cornN_is {c : List Pt} (h0 : 0 < c.length) (hu : Unit (c ++ [fstP c])) : Opt (okV (c ++ [fstP c])) (cV (c ++ [fstP c])) 0 c.length (cornN c ++ [c.length]) := by
  have hl : (c ++ [fstP c]).length = c.length + 1 := by simp
  obtain ⟨l0, o0, _⟩ := rows_is hu (by omega) (c ++ [fstP c]).length (Nat.le_refl _) c.length (by omega)
  rw [hl] at o0
  simp only [Nat.add_sub_cancel, Nat.sub_self] at o0
  obtain ⟨q, l, e, kq, qn, o, el⟩ := corn_is hu (by omega) (by rw [hl]; exact o0) c.length (by rw [hl]; omega)
  rw [hl] at qn o el
  simp only [Nat.add_sub_cancel] at qn o
  obtain rfl : c.length = q := by omega
  rw [o.unique (opt_here _ _)] at el
  unfold cornN
  rw [← el]
  exact o0
end

/-- The first that differ decide. -/
def lexltB : List Nat → List Nat → Bool
  | a :: l, b :: m => if a = b then lexltB l m else decide (a < b)
  | _, _ => false
theorem lexltB_le : ∀ {a b : List Nat}, a.length = b.length → lexltB a b = true → lexle a b
  | [], _, _, _ => True.intro
  | _ :: _, [], e, _ => by simp at e
  | a :: l, b :: m, e, h => by
    rw [lexltB] at h
    split at h
    · next h1 => exact .inr ⟨h1, lexltB_le (by simpa using e) h⟩
    · exact .inl (of_decide_eq_true h)
theorem lexltB_no : ∀ {a b : List Nat}, a.length = b.length → lexltB a b = false → lexle b a
  | [], [], _, _ => True.intro
  | [], _ :: _, e, _ => by simp at e
  | _ :: _, [], e, _ => by simp at e
  | a :: l, b :: m, e, h => by
    rw [lexltB] at h
    split at h
    · next h1 => exact .inr ⟨h1.symm, lexltB_no (by simpa using e) h⟩
    · next h1 => have := of_decide_eq_false h; exact .inl (by omega)
/-- Is the row a, at the cost ca, better than b? -/
def bettB (a : List Nat) (ca : Int) (b : List Nat) (cb : Int) : Bool :=
  if b.length = 0 then true else if a.length = b.length then (if ca = cb then lexltB a b else decide (ca < cb)) else decide (a.length < b.length)
theorem bett_yes {cst : Nat → Nat → Int} {a b : List Nat} (hb : 0 < b.length) (h : bettB a (cs cst a) b (cs cst b) = true) : Le cst a b := by
  unfold bettB at h
  rw [if_neg (by omega)] at h
  split at h
  · next h1 =>
    refine .inr ⟨h1, ?_⟩
    split at h
    · next h2 => exact .inr ⟨h2, lexltB_le h1 h⟩
    · exact .inl (of_decide_eq_true h)
  · exact .inl (of_decide_eq_true h)
theorem bett_no {cst : Nat → Nat → Int} {a b : List Nat} (h : bettB a (cs cst a) b (cs cst b) = false) : Le cst b a := by
  unfold bettB at h
  split at h
  · simp at h
  · split at h
    · next h1 =>
      refine .inr ⟨h1.symm, ?_⟩
      split at h
      · next h2 => exact .inr ⟨h2.symm, lexltB_no h1 h⟩
      · have := of_decide_eq_false h; exact .inl (by omega)
    · have := of_decide_eq_false h; exact .inl (by omega)
theorem bett_none (a : List Nat) (ca cb : Int) : bettB a ca [] cb = true := by simp [bettB]

/-- The best row to j by one of the numbers below i; [] if there is none. -/
def BestTo (v : List Pt) (j i : Nat) (L : List Nat) : Prop :=
  (L = [] ∧ ∀ k, k < i → ¬ okV v k j) ∨ ((∃ k m, k < i ∧ okV v k j ∧ Opt (okV v) (cV v) 0 k m ∧ L = m ++ [j]) ∧ ∀ k m, k < i → okV v k j → Opt (okV v) (cV v) 0 k m → Le (cV v) L (m ++ [j]))
section
variable {v : List Pt} {i j : Nat} {L m : List Nat}
theorem BestTo.zero (v : List Pt) (j : Nat) : BestTo v j 0 [] := .inl ⟨rfl, fun k hk => by omega⟩
theorem BestTo.skip (h : BestTo v j i L) (hn : ¬ okV v i j) : BestTo v j (i + 1) L := by
  rcases h with ⟨h1, h2⟩ | ⟨⟨k, m, h1, h2, h3, h4⟩, h5⟩
  · refine .inl ⟨h1, fun k hk => ?_⟩
    rcases Nat.lt_or_ge k i with h | h
    · exact h2 k h
    · obtain rfl : k = i := by omega
      exact hn
  · refine .inr ⟨⟨k, m, by omega, h2, h3, h4⟩, fun k' m' hk' ok' o' => ?_⟩
    rcases Nat.lt_or_ge k' i with h | h
    · exact h5 k' m' h ok' o'
    · obtain rfl : k' = i := by omega
      exact absurd ok' hn
theorem BestTo.worse (h : BestTo v j i L) (hL : 0 < L.length) (hm : Opt (okV v) (cV v) 0 i m) (hle : Le (cV v) L (m ++ [j])) : BestTo v j (i + 1) L := by
  rcases h with ⟨h1, _⟩ | ⟨⟨k, m', h1, h2, h3, h4⟩, h5⟩
  · subst h1; simp at hL
  · refine .inr ⟨⟨k, m', by omega, h2, h3, h4⟩, fun k' m'' hk' ok' o' => ?_⟩
    rcases Nat.lt_or_ge k' i with h | h
    · exact h5 k' m'' h ok' o'
    · obtain rfl : k' = i := by omega
      rw [← hm.unique o']; exact hle
theorem BestTo.longer (h : BestTo v j i L) (hL : 0 < L.length) (hm : Opt (okV v) (cV v) 0 i m) (hle : L.length ≤ m.length) : BestTo v j (i + 1) L :=
  h.worse hL hm (.inl (by simp; omega))
theorem BestTo.not (h : BestTo v j i L) (hm : Opt (okV v) (cV v) 0 i m) {c : Int} (hc : L = [] ∨ c = cs (cV v) L) (hb : bettB (m ++ [j]) (cs (cV v) (m ++ [j])) L c = false) : BestTo v j (i + 1) L := by
  have hL : L ≠ [] := fun e => by subst e; rw [bett_none] at hb; simp at hb
  obtain rfl := hc.resolve_left hL
  exact h.worse (by cases L with | nil => exact absurd rfl hL | cons _ _ => simp) hm (bett_no hb)
theorem BestTo.new (h : BestTo v j i L) (hm : Opt (okV v) (cV v) 0 i m) (hok : okV v i j) {c : Int} (hc : L = [] ∨ c = cs (cV v) L) (hb : bettB (m ++ [j]) (cs (cV v) (m ++ [j])) L c = true) : BestTo v j (i + 1) (m ++ [j]) := by
  refine .inr ⟨⟨i, m, by omega, hok, hm, rfl⟩, fun k' m'' hk' ok' o' => ?_⟩
  rcases Nat.lt_or_ge k' i with hlt | hlt
  · rcases h with ⟨h1, h2⟩ | ⟨⟨k, m', h1, h2, h3, h4⟩, h5⟩
    · exact absurd ok' (h2 k' hlt)
    · have hL : L ≠ [] := by rw [h4]; simp
      obtain rfl := hc.resolve_left hL
      exact (bett_yes (by cases L with | nil => exact absurd rfl hL | cons _ _ => simp) hb).trans (h5 k' m'' hlt ok' o')
  · obtain rfl : k' = i := by omega
    rw [hm.unique o']; exact Le.refl _
theorem BestTo.done (hu : Unit v) (hj : 0 < j) (hjv : j < v.length) (h : BestTo v j j L) (hall : ∀ k, k < j → ∃ m, Opt (okV v) (cV v) 0 k m) : Opt (okV v) (cV v) 0 j L := by
  rcases h with ⟨_, h2⟩ | ⟨⟨k, m', h1, h2, h3, rfl⟩, h5⟩
  · have := hu.ok_next (i := j - 1) (by omega)
    rw [show j - 1 + 1 = j from by omega] at this
    exact absurd this (h2 (j - 1) (by omega))
  · exact Opt.back (by omega) (fun q hq _ => hall q hq.1) h2 h3 fun q m hq hm => h5 q m hq.1 hq hm
end
end Go.Proofs.Ytgapfjjdccohkaa.Qm

/- outlineref: Above. -/
namespace Go.Proofs.Ytgapfjjdccohkaa
open Go.RowKit

namespace Qm
/-- What Above answers. -/
def abV (p q : Pt) (x y : Int) : Int := if thR p q x y = true then 0 else abZ p q x y
theorem abV_in (p q : Pt) (x y : Int) : -1 ≤ abV p q x y ∧ abV p q x y ≤ 1 := by
  unfold abV abZ; repeat' split <;> try omega
theorem mid_in {p q : Pt} {x y : Int} (hp : 0 ≤ p.1 ∧ p.1 ≤ 32 ∧ 0 ≤ p.2 ∧ p.2 ≤ 32) (hq : 0 ≤ q.1 ∧ q.1 ≤ 32 ∧ 0 ≤ q.2 ∧ q.2 ≤ 32) (x0 : -32 ≤ x) (x1 : x ≤ 64) (y0 : -32 ≤ y) (y1 : y ≤ 64) {a b : Int} (ha : a = 2 * (p.1 - x) - 1 ∨ a = 2 * (p.2 - y) - 1) (hb : b = 2 * (q.1 - x) - 1 ∨ b = 2 * (q.2 - y) - 1) : -40000 ≤ a * b ∧ a * b ≤ 40000 := by
  have m : ∀ {a b : Int}, -200 ≤ a → a ≤ 200 → -200 ≤ b → b ≤ 200 → -40000 ≤ a * b ∧ a * b ≤ 40000 := by
    intro a b a0 a1 b0 b1
    have p : ∀ {u v : Int}, 0 ≤ u → u ≤ 200 → 0 ≤ v → v ≤ 200 → 0 ≤ u * v ∧ u * v ≤ 40000 := fun a b c d => ⟨Int.mul_nonneg a c, Int.mul_le_mul b d c (by omega)⟩
    rcases Int.le_total 0 a with ha | ha <;> rcases Int.le_total 0 b with hb | hb
    · have := p ha a1 hb b1; omega
    · have := p ha a1 (show 0 ≤ -b by omega) (by omega); rw [Int.mul_neg] at this; omega
    · have := p (show 0 ≤ -a by omega) (by omega) hb b1; rw [Int.neg_mul] at this; omega
    · have := p (show 0 ≤ -a by omega) (by omega) (show 0 ≤ -b by omega) (by omega); rw [Int.neg_mul_neg] at this; omega
  exact m (by omega) (by omega) (by omega) (by omega)
end Qm

set_option maxHeartbeats 1000000 in
theorem above_any (p q : Int × Int) (x y : Int) (hp : PtIn p) (hq : PtIn q) (x0 : -32 ≤ x) (x1 : x ≤ 64) (y0 : -32 ≤ y) (y1 : y ≤ 64) (w : World) :
    Calls Try.prog 89 #[.agg #[.int .i64 p.1, .int .i64 p.2], .agg #[.int .i64 q.1, .int .i64 q.2], .int .i64 x, .int .i64 y] w fun e w' => e = .returned (.tuple #[.int .i64 (Qm.abV p q x y), .bool (!Qm.thR p q x y)]) ∧ Below w.heap.size w w' := by
  have m1 := Qm.mid_in hp hq x0 x1 y0 y1 (.inl rfl) (.inr rfl)
  have m2 := Qm.mid_in hp hq x0 x1 y0 y1 (.inr rfl) (.inl rfl)
  have m3 := Qm.mid_in hp hq x0 x1 y0 y1 (.inl rfl) (.inl rfl)
  have m4 := Qm.mid_in hp hq x0 x1 y0 y1 (.inr rfl) (.inr rfl)
  have T := hid (Qm.thR_iff p q x y)
  have E := hid (show Qm.abV p q x y = if Qm.thR p q x y = true then 0 else if 2 * (p.1 - x) - 1 < 0 ∧ 0 < 2 * (q.1 - x) - 1 ∧ 0 < Qm.crZ p q x y then -1 else if 0 < 2 * (p.1 - x) - 1 ∧ 2 * (q.1 - x) - 1 < 0 ∧ Qm.crZ p q x y < 0 then 1 else 0 from rfl)
  have C := hid (show Qm.crZ p q x y = (2 * (p.1 - x) - 1) * (2 * (q.2 - y) - 1) - (2 * (p.2 - y) - 1) * (2 * (q.1 - x) - 1) from rfl)
  have D := hid (show Qm.dtZ p q x y = (2 * (p.1 - x) - 1) * (2 * (q.1 - x) - 1) + (2 * (p.2 - y) - 1) * (2 * (q.2 - y) - 1) from rfl)
  unfold PtIn at hp hq
  obtain ⟨px, py⟩ := p
  obtain ⟨qx, qy⟩ := q
  dsimp only at hp hq m1 m2 m3 m4 T E C D ⊢
  obtain ⟨u, hu⟩ : ∃ u, (2 * (px - x) - 1) * (2 * (qy - y) - 1) = u := ⟨_, rfl⟩
  obtain ⟨v, hv⟩ : ∃ v, (2 * (py - y) - 1) * (2 * (qx - x) - 1) = v := ⟨_, rfl⟩
  obtain ⟨s, hs⟩ : ∃ s, (2 * (px - x) - 1) * (2 * (qx - x) - 1) = s := ⟨_, rfl⟩
  obtain ⟨t, ht⟩ : ∃ t, (2 * (py - y) - 1) * (2 * (qy - y) - 1) = t := ⟨_, rfl⟩
  rw [hu] at m1 C
  rw [hv] at m2 C
  rw [hs] at m3 D
  rw [ht] at m4 D
  rw [C.out] at T E
  rw [D.out] at T
  clear C D
  obtain ⟨r, hr⟩ : ∃ r, Qm.thR (px, py) (qx, qy) x y = r := ⟨_, rfl⟩
  rw [hr] at T E ⊢
  obtain ⟨z, hz⟩ : ∃ z, Qm.abV (px, py) (qx, qy) x y = z := ⟨_, rfl⟩
  rw [hz] at E ⊢
  clear hr hz
  by_cases h1 : u - v = 0
  · have b1 : (u - v == 0) = true := by simpa using h1
    by_cases h2 : s + t ≤ 0
    · have h2b : decide (s + t ≤ 0) = true := by simpa using h2
      have R := hid (show r = true from T.out.2 ⟨h1, h2⟩)
      have Z := hid (show z = 0 by rw [E.out, if_pos R.out])
      clear h1
      go_enter Try.func89, Try.ntmps89
      go_wp2
      go_ret2
      exact ⟨by rw [Z.out, R.out]; rfl, by go_grown⟩
    · have h2b : decide (s + t ≤ 0) = false := by simpa using h2
      have R := hid (show r = false by cases hr : r with | false => rfl | true => exact absurd (T.out.1 hr).2 h2)
      have Z := hid (show z = 0 by rw [E.out, if_neg (by rw [R.out]; simp), if_neg (by omega), if_neg (by omega)])
      have c1 : ¬ 0 < u - v := by omega
      have c2 : ¬ u - v < 0 := by omega
      clear h1
      go_enter Try.func89, Try.ntmps89
      go_wp2
      all_goals (
        go_ret2
        exact ⟨by rw [Z.out, R.out]; rfl, by go_grown⟩)
  · have b1 : (u - v == 0) = false := by simpa using h1
    have R := hid (show r = false by cases hr : r with | false => rfl | true => exact absurd (T.out.1 hr).1 h1)
    have Z := hid (show z = if 2 * (px - x) - 1 < 0 ∧ 0 < 2 * (qx - x) - 1 ∧ 0 < u - v then -1 else if 0 < 2 * (px - x) - 1 ∧ 2 * (qx - x) - 1 < 0 ∧ u - v < 0 then 1 else 0 by rw [E.out, if_neg (by rw [R.out]; simp)])
    cases g1 : decide (2 * (px - x) - 1 < 0) <;> cases g2 : decide (0 < 2 * (qx - x) - 1) <;> cases g3 : decide (0 < u - v)
    all_goals (
      have G1 := hid g1
      have G2 := hid g2
      have G3 := hid g3
      simp only [decide_eq_true_eq, decide_eq_false_iff_not] at g1 g2 g3
      have k1 : ¬ (2 * (px - x) - 1 = 0) := by omega
      have k2 : ¬ (2 * (qx - x) - 1 = 0) := by omega
      go_enter Try.func89, Try.ntmps89
      go_wp2
      all_goals (
        go_ret2
        refine ⟨?_, by go_grown⟩
        rw [Z.out, R.out]
        first
          | (rw [if_pos ⟨by omega, by omega, by omega⟩]; rfl)
          | (rw [if_neg (by omega), if_pos ⟨by omega, by omega, by omega⟩]; rfl)
          | (rw [if_neg (by omega), if_neg (by omega)]; rfl)))
end Go.Proofs.Ytgapfjjdccohkaa

/- outlineref: Clean, Fits. -/
namespace Go.Proofs.Ytgapfjjdccohkaa
open Go.RowKit

namespace Qm
/-- What Clean answers. -/
def clnB (l : List Pt) (x y : Int) : Bool := ((List.range l.length).all fun i => !thR (l.getD i (0, 0)) (nxP l i) x y) && decide (fsE (fun p q => abZ p q x y) l l.length = 0)
theorem clnB_iff (l : List Pt) (x y : Int) : clnB l x y = true ↔ cleanP l x y := by
  unfold clnB cleanP
  rw [Bool.and_eq_true, List.all_eq_true, decide_eq_true_eq]
  simp
theorem clnB_no {l : List Pt} {x y : Int} {i : Nat} (hi : i < l.length) (h : thR (l.getD i (0, 0)) (nxP l i) x y = true) : clnB l x y = false := by
  cases e : clnB l x y with
  | false => rfl
  | true => rw [((clnB_iff l x y).1 e).1 i hi] at h; simp at h
theorem clnB_end {l : List Pt} {x y : Int} (h : ∀ i, i < l.length → thR (l.getD i (0, 0)) (nxP l i) x y = false) : clnB l x y = (fsE (fun p q => abZ p q x y) l l.length == 0) := by
  have e : ((List.range l.length).all fun i => !thR (l.getD i (0, 0)) (nxP l i) x y) = true := by rw [List.all_eq_true]; intro i hi; rw [h i (List.mem_range.1 hi)]; rfl
  unfold clnB; rw [e]; rfl
theorem abZ_in (p q : Pt) (x y : Int) : -1 ≤ abZ p q x y ∧ abZ p q x y ≤ 1 := by
  unfold abZ; repeat' split <;> try omega
theorem fsE_ab_in (l : List Pt) (x y : Int) (k : Nat) : -(k : Int) ≤ fsE (fun p q => abZ p q x y) l k ∧ fsE (fun p q => abZ p q x y) l k ≤ k := by
  induction k with
  | zero => simp [fsE]
  | succ k ih => have := abZ_in (l.getD k (0, 0)) (nxP l k) x y; simp only [fsE]; omega
end Qm

set_option maxRecDepth 4000 in
set_option maxHeartbeats 1000000 in
theorem clean_any (g o n cap : Nat) (l : List (Int × Int)) (hn : n = l.length) (h0 : 0 < n) (hs : Qm.Small l) (hn2 : n ≤ 4357) (x y : Int) (x0 : -32 ≤ x) (x1 : x ≤ 64) (y0 : -32 ≤ y) (y1 : y ≤ 64) (w : World) (hP : PtsO g o l w) :
    Calls Try.prog 81 #[.slice (some ⟨g, o, none⟩) n cap, .int .i64 x, .int .i64 y] w fun e w' => e = .returned (.bool (Qm.clnB l x y)) ∧ Below w.heap.size w w' := by
  have HP := hid hP
  have hg := hP.1
  have HN := hid hn
  have e0 : ((n : Int) == 0) = false := by simp; omega
  clear hP hn
  go_enter Try.func81, Try.ntmps81
  go_wp2
  go_loopw [7, 8] (fun sm i wr => ∃ k : Nat, k ≤ n ∧ i = .int .i64 k ∧ sm = .int .i64 (Qm.fsE (fun p q => Qm.abZ p q x y) l k) ∧ (∀ i, i < k → Qm.thR (l.getD i (0, 0)) (Qm.nxP l i) x y = false) ∧ Below w.heap.size w wr) (fun _ i _ => n - (intOf i).toNat)
  case atStart => exact ⟨0, by omega, rfl, rfl, fun _ h => by omega, Below.refl _ _⟩
  case round =>
    obtain ⟨k, hk, rfl, rfl, hth, hb⟩ := hrel
    have HB := hid hb
    have TH := hid hth
    have ts := Qm.fsE_ab_in l x y k
    clear hth
    by_cases hlt : k < n
    · obtain ⟨r, hr⟩ : ∃ r, r = (k + 1) % n := ⟨_, rfl⟩
      have hrn : r < n := by rw [hr]; exact Nat.mod_lt _ h0
      have er : ((k : Int) + 1) % (n : Int) = (r : Nat) := by rw [hr]; simp
      obtain ⟨r0, r1⟩ := (HP.out.on hb hg).2 k (by have := HN.out; omega)
      obtain ⟨q0, q1⟩ := (HP.out.on hb hg).2 r (by have := HN.out; omega)
      have NX := hid (show Qm.nxP l k = l.getD r (0, 0) by rw [hr, HN.out]; rfl)
      have AB := hid (fun W' => above_any (l.getD k (0, 0)) (l.getD r (0, 0)) x y (small_in hs _) (small_in hs _) x0 x1 y0 y1 W')
      have E2 : Hid (Qm.fsE (fun p q => Qm.abZ p q x y) l (k + 1) = Qm.fsE (fun p q => Qm.abZ p q x y) l k + Qm.abZ (l.getD k (0, 0)) (Qm.nxP l k) x y) := rfl
      have ai := Qm.abZ_in (l.getD k (0, 0)) (Qm.nxP l k) x y
      have AV := hid (show Qm.abV (l.getD k (0, 0)) (l.getD r (0, 0)) x y = if Qm.thR (l.getD k (0, 0)) (l.getD r (0, 0)) x y = true then 0 else Qm.abZ (l.getD k (0, 0)) (l.getD r (0, 0)) x y from rfl)
      have NO := hid (fun h => Qm.clnB_no (l := l) (x := x) (y := y) (i := k) (by rw [← HN.out]; exact hlt) h)
      have TN := hid (show Qm.thR (l.getD k (0, 0)) (Qm.nxP l k) x y = false → ∀ i, i < k + 1 → Qm.thR (l.getD i (0, 0)) (Qm.nxP l i) x y = false from fun h i hi => by
        rcases Nat.lt_or_ge i k with h1 | h1
        · exact TH.out i h1
        · obtain rfl : i = k := by omega
          exact h)
      rw [NX.out] at E2 ai NO TN
      obtain ⟨t, ht⟩ : ∃ t, Qm.thR (l.getD k (0, 0)) (l.getD r (0, 0)) x y = t := ⟨_, rfl⟩
      rw [ht] at AB AV NO TN
      obtain ⟨z, hz⟩ : ∃ z, Qm.abZ (l.getD k (0, 0)) (l.getD r (0, 0)) x y = z := ⟨_, rfl⟩
      rw [hz] at E2 AV ai
      obtain ⟨av, hav⟩ : ∃ av, Qm.abV (l.getD k (0, 0)) (l.getD r (0, 0)) x y = av := ⟨_, rfl⟩
      rw [hav] at AB AV
      obtain ⟨⟨pa, pb⟩, hpp⟩ : ∃ p, p = l.getD k (0, 0) := ⟨_, rfl⟩
      obtain ⟨⟨qa, qb⟩, hqq⟩ : ∃ p, p = l.getD r (0, 0) := ⟨_, rfl⟩
      rw [← hpp] at r0 r1 AB
      rw [← hqq] at q0 q1 AB
      dsimp only at r0 r1 q0 q1 AB
      have hz' := HB.out.size
      have b1 : (0 : Int) ≤ (r : Nat) := by omega
      have b2 : ((r : Nat) : Int) < (n : Nat) := by omega
      have b3 : (0 : Int) ≤ (k : Nat) + 1 := by omega
      have b4 : IntKind.i64.wrap ((k : Int) + 1) = (k : Int) + 1 := by rw [IntKind.wrap_i64]; omega
      have b5 : ((k : Int) + 1).tmod (n : Nat) = (r : Nat) := by rw [Int.tmod_eq_emod_of_nonneg b3]; exact er
      have b6 : ¬ (n : Int) = 0 := by omega
      have b8 : ¬ n = 0 := by omega
      have b9 : (n == 0) = false := by simp; omega
      have b7 : IntKind.i64.wrap ((r : Nat) : Int) = (r : Nat) := by rw [IntKind.wrap_i64]; omega
      have S0 := hid (show wr.drew.cell? ⟨g, o + k * 2, none⟩ = some (.int .i64 pa) ∧ wr.drew.cell? ⟨g, o + k * 2 + 1, none⟩ = some (.int .i64 pb) ∧ wr.drew.cell? ⟨g, o + r * 2, none⟩ = some (.int .i64 qa) ∧ wr.drew.cell? ⟨g, o + r * 2 + 1, none⟩ = some (.int .i64 qb) from ⟨r0, r1, q0, q1⟩)
      have HBD := hid (show Below w.heap.size w wr.drew from HB.out.trans ⟨rfl, rfl, rfl, Nat.le_refl _, fun _ _ => rfl⟩)
      have hgd : g < wr.drew.heap.size := by show g < wr.heap.size; omega
      clear hb hpp hqq hr ht hz hav
      go_wp2_with fail
      go_region_held3 (fun w' => w'.cell? ⟨g, o + k * 2, none⟩ = some (.int .i64 pa) ∧ w'.cell? ⟨g, o + k * 2 + 1, none⟩ = some (.int .i64 pb) ∧ w'.cell? ⟨g, o + r * 2, none⟩ = some (.int .i64 qa) ∧ w'.cell? ⟨g, o + r * 2 + 1, none⟩ = some (.int .i64 qb))
        (first | exact S0.out | exact (by assumption : _ ∧ _ ∧ _ ∧ _))
        (first | (go_at_call 89; refine (AB.out _).mono ?_; rintro e w2 ⟨rfl, hb2⟩; have hS2 : w2.cell? ⟨g, o + k * 2, none⟩ = some (.int .i64 pa) ∧ w2.cell? ⟨g, o + k * 2 + 1, none⟩ = some (.int .i64 pb) ∧ w2.cell? ⟨g, o + r * 2, none⟩ = some (.int .i64 qa) ∧ w2.cell? ⟨g, o + r * 2 + 1, none⟩ = some (.int .i64 qb) := ⟨(hb2.cell (p := ⟨g, o + k * 2, none⟩) hgd).trans S0.out.1, (hb2.cell (p := ⟨g, o + k * 2 + 1, none⟩) hgd).trans S0.out.2.1, (hb2.cell (p := ⟨g, o + r * 2, none⟩) hgd).trans S0.out.2.2.1, (hb2.cell (p := ⟨g, o + r * 2 + 1, none⟩) hgd).trans S0.out.2.2.2⟩; have B2 := hid (show Below w.heap.size w w2 from HBD.out.trans (hb2.mono HBD.out.size)); clear hb2))
      clear r0 r1 q0 q1 S0 hS2
      cases t
      · have AV2 := hid (show av = z by rw [AV.out, if_neg (by simp)])
        obtain rfl := AV2.out
        go_wp2
        go_roundw
        case rel => exact ⟨k + 1, by omega, by go_num, by rw [E2.out], TN.out (by trivial), B2.out⟩
        case measure => simp [intOf]; omega
      · go_wp2
        go_ret
        exact ⟨ret_bool (NO.out (by trivial)).symm, B2.out⟩
    · have ek : k = n := by omega
      subst ek
      have CE := hid (show Qm.clnB l x y = (Qm.fsE (fun p q => Qm.abZ p q x y) l k == 0) by rw [HN.out]; exact Qm.clnB_end fun i hi => TH.out i (by rw [HN.out]; exact hi))
      obtain ⟨v, hv⟩ : ∃ v, Qm.fsE (fun p q => Qm.abZ p q x y) l k = v := ⟨_, rfl⟩
      rw [hv] at CE ⊢
      go_wp2
      go_ret
      exact ⟨ret_bool CE.out.symm, HB.out⟩

set_option maxRecDepth 4000 in
set_option maxHeartbeats 1000000 in
theorem refFits_any (g o n cap : Nat) (l : List (Int × Int)) (hn : n = l.length) (h0 : 2 ≤ n) (hs : Qm.Small l) (hn2 : n ≤ 13) (hu : Qm.Unit l) (w : World) (hP : PtsO g o l w) :
    Calls Try.prog 72 #[.slice (some ⟨g, o, none⟩) n cap] w fun e w' => e = .returned (.bool (Qm.fitB l)) ∧ Below w.heap.size w w' := by
  have HP := hid hP
  have hg := hP.1
  have HN := hid hn
  have FR := hid (hu.fit_ref (by omega) (by omega))
  have F2 := hid (fun h => Qm.fit_two hu h)
  have CI := hid (Qm.clnB_iff l)
  have CL := hid (fun x y (a : -32 ≤ x) (b : x ≤ 64) (c : -32 ≤ y) (d : y ≤ 64) W' (h : PtsO g o l W') => clean_any g o n cap l hn (by omega) hs (by omega) x y a b c d W' h)
  obtain ⟨q0, q1⟩ := hP.2 0 (by omega)
  simp only [Nat.zero_mul, Nat.add_zero] at q0 q1
  have s0 := hs.at 0
  clear hP hn hs hu
  rcases Nat.eq_or_lt_of_le h0 with h2 | h2
  · have e2 : ((n : Int) == 2) = true := by simp; omega
    have FT := hid (show Qm.fitB l = true from F2.out (by rw [← HN.out]; omega))
    clear h2
    go_enter Try.func72, Try.ntmps72
    go_wp2
    go_ret
    exact ⟨ret_bool FT.out.symm, Below.refl _ _⟩
  · have e2 : ((n : Int) == 2) = false := by simp; omega
    have FF := hid (show ∀ x y, (l.getD 0 (0, 0)).1 - 13 ≤ x → x ≤ (l.getD 0 (0, 0)).1 + 13 → (l.getD 0 (0, 0)).2 - 13 ≤ y → y ≤ (l.getD 0 (0, 0)).2 + 13 → Qm.clnB l x y = false → Qm.fitB l = false from fun x y a b c d h => by
      cases e : Qm.fitB l with
      | false => rfl
      | true =>
        rcases FR.out.1 e with h3 | h3
        · rw [← HN.out] at h3; omega
        · rw [(CI.out x y).2 (h3 x y a b c d)] at h; simp at h)
    have FT := hid (show (∀ x y, (l.getD 0 (0, 0)).1 - 13 ≤ x → x ≤ (l.getD 0 (0, 0)).1 + 13 → (l.getD 0 (0, 0)).2 - 13 ≤ y → y ≤ (l.getD 0 (0, 0)).2 + 13 → Qm.clnB l x y = true) → Qm.fitB l = true from fun h => FR.out.2 (.inr fun x y a b c d => (CI.out x y).1 (h x y a b c d)))
    obtain ⟨⟨fa, fb⟩, hff⟩ : ∃ p, p = l.getD 0 (0, 0) := ⟨_, rfl⟩
    rw [← hff] at q0 q1 s0 FF FT
    dsimp only at q0 q1 s0 FF FT
    clear hff FR F2 CI
    go_enter Try.func72, Try.ntmps72
    go_wp2_with fail
    go_loopw [3] (fun yv wr => ∃ y : Int, yv = .int .i64 y ∧ fb - 13 ≤ y ∧ y ≤ fb + 14 ∧ (∀ x' y', fa - 13 ≤ x' → x' ≤ fa + 13 → fb - 13 ≤ y' → y' < y → Qm.clnB l x' y' = true) ∧ Below w.heap.size w wr) (fun y _ => (fb + 14 - intOf y).toNat)
    case atStart => exact ⟨fb - 13, rfl, by omega, by omega, fun _ _ _ _ _ _ => by omega, Below.refl _ _⟩
    case round =>
      obtain ⟨y, rfl, hy0, hy1, hok, hb⟩ := hrel
      have OKS := hid hok
      have HB := hid hb
      have r0 := (hb.cell (p := ⟨g, o, none⟩) hg).trans q0
      have r1 := (hb.cell (p := ⟨g, o + 1, none⟩) hg).trans q1
      clear hok hb
      by_cases hlt : y ≤ fb + 13
      · go_wp2_with fail
        clear r0 r1
        go_loopw [4] (fun xv wr => ∃ x : Int, xv = .int .i64 x ∧ fa - 13 ≤ x ∧ x ≤ fa + 14 ∧ (∀ x', fa - 13 ≤ x' → x' < x → Qm.clnB l x' y = true) ∧ Below w.heap.size w wr) (fun x _ => (fa + 14 - intOf x).toNat)
        case atStart => exact ⟨fa - 13, rfl, by omega, by omega, fun _ _ _ => by omega, HB.out⟩
        case round =>
          clear HB
          obtain ⟨x, rfl, hx0, hx1, hok, hb⟩ := hrel
          have OKX := hid hok
          have HB := hid hb
          have r0 := (hb.cell (p := ⟨g, o, none⟩) hg).trans q0
          have r1 := (hb.cell (p := ⟨g, o + 1, none⟩) hg).trans q1
          clear hok hb
          by_cases hlx : x ≤ fa + 13
          · have FX := hid (FF.out x y hx0 hlx hy0 hlt)
            have cl := CL.out x y (by omega) (by omega) (by omega) (by omega)
            obtain ⟨t, ht⟩ : ∃ t, Qm.clnB l x y = t := ⟨_, rfl⟩
            rw [ht] at cl FX
            have CLX := hid cl
            have HT := hid ht
            clear cl ht
            go_wp2_with fail
            refine (CLX.out _ (HP.out.on HB.out hg)).mono ?_
            rintro e w2 ⟨rfl, hb2⟩
            have B2 := hid (show Below w.heap.size w w2 from HB.out.trans (hb2.mono HB.out.size))
            clear hb2 r0 r1
            cases t
            · go_wp2
              go_ret
              exact ⟨ret_bool (FX.out (by trivial)).symm, B2.out⟩
            · go_wp2
              go_roundw
              case rel =>
                refine ⟨x + 1, by go_num, by omega, by omega, fun x' h1 h2 => ?_, B2.out⟩
                rcases Int.lt_or_le x' x with h3 | h3
                · exact OKX.out x' h1 h3
                · rw [show x' = x from by omega]; exact HT.out
              case measure => simp [intOf]; omega
          · go_wp2
            go_roundw
            case rel =>
              refine ⟨y + 1, by go_num, by omega, by omega, fun x' y' h1 h2 h3 h4 => ?_, HB.out⟩
              rcases Int.lt_or_le y' y with h5 | h5
              · exact OKS.out x' y' h1 h2 h3 h5
              · rw [show y' = y from by omega]; exact OKX.out x' h1 (by omega)
            case measure => simp [intOf]; omega
      · have FTT := hid (show Qm.fitB l = true from FT.out fun x y a b c d => OKS.out x y a b c (by omega))
        go_wp2
        go_ret
        exact ⟨ret_bool FTT.out.symm, HB.out⟩
end Go.Proofs.Ytgapfjjdccohkaa
