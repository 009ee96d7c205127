/- Plain facts on paths: what a text of shapes says, step by step; what shapes are written as. Nothing of the program stands here. -/
import Derived.Test.YtljfiefobnncaaaDoorK13
namespace Go.Proofs.YtljfiefobnncaaaDoor.Pm

/-- Blanks and newlines alone. -/
def blB (c : UInt8) : Bool := c == 32 || c == 10
theorem blB_eq (c : UInt8) : blB c = ((c.toNat : Int) == 32 || (c.toNat : Int) == 10) := by
  have e : ∀ k : UInt8, (c == k) = ((c.toNat : Int) == (k.toNat : Int)) := by
    intro k
    rw [Bool.eq_iff_iff]
    simp only [beq_iff_eq]
    constructor
    · intro h; rw [h]
    · intro h; exact UInt8.toNat_inj.1 (by omega)
  rw [blB, e, e]; rfl
def blN : List UInt8 → Nat
  | [] => 0
  | x :: r => if blB x = true then 1 + blN r else 0
theorem blN_step (s : ByteArray) (k : Nat) (hk : k < s.size) : blN (s.data.toList.drop k) = if blB s[k] = true then 1 + blN (s.data.toList.drop (k + 1)) else 0 := by
  rw [drop_at s k hk, blN]
theorem blN_end (s : ByteArray) (k : Nat) (hk : s.size ≤ k) : blN (s.data.toList.drop k) = 0 := by rw [drop_end s k hk, blN]
theorem blN_le : ∀ (l : List UInt8), blN l ≤ l.length
  | [] => Nat.le_refl _
  | x :: r => by
    rw [blN]
    have := blN_le r
    simp only [List.length_cons]
    split <;> omega
theorem blN_idem : ∀ (l : List UInt8), blN (l.drop (blN l)) = 0
  | [] => rfl
  | x :: r => by
    rw [blN]
    split
    · rw [Nat.add_comm, List.drop_succ_cons]; exact blN_idem r
    · rename_i h; rw [List.drop_zero, blN, if_neg h]
/-- Where the blanks from i on end. -/
def skp (l : List UInt8) (i : Nat) : Nat := i + blN (l.drop i)
theorem skp_ge (l : List UInt8) (i : Nat) : i ≤ skp l i := Nat.le_add_right _ _
theorem skp_le {l : List UInt8} {i : Nat} (h : i ≤ l.length) : skp l i ≤ l.length := by
  have := blN_le (l.drop i)
  rw [List.length_drop] at this
  unfold skp; omega
theorem skp_skp (l : List UInt8) (i : Nat) : skp l (skp l i) = skp l i := by
  have : blN (l.drop (skp l i)) = 0 := by
    unfold skp
    rw [← List.drop_drop]; exact blN_idem _
  rw [skp, this]; rfl
theorem skp_no {l : List UInt8} {i : Nat} (h : blN (l.drop i) = 0) : skp l i = i := by rw [skp, h]; rfl

/-- A coordinate, with blanks ahead: it and where it ends, or what is wrong and where. -/
def crd (l : List UInt8) (i : Nat) : Except (Int × Nat) (Nat × Nat) :=
  if numC (l.drop (skp l i)) = 0 then .error (lackE l.length (skp l i), skp l i)
  else if 32 < numV 0 (l.drop (skp l i)) then .error (3, skp l i)
  else .ok (numV 0 (l.drop (skp l i)), skp l i + numC (l.drop (skp l i)))
theorem crd_skp (l : List UInt8) (i : Nat) : crd l (skp l i) = crd l i := by unfold crd; rw [skp_skp]
theorem crd_ok {l : List UInt8} {i n k : Nat} (hi : i ≤ l.length) (h : crd l i = .ok (n, k)) : n ≤ 32 ∧ i < k ∧ k ≤ l.length := by
  unfold crd at h
  split at h
  · cases h
  · split at h
    · cases h
    · rename_i h1 h2
      cases h
      have a := skp_ge l i
      have b := skp_le hi
      have c := numC_le (l.drop (skp l i))
      rw [List.length_drop] at c
      omega
theorem crd_err {l : List UInt8} {i : Nat} {e : Int} {p : Nat} (hi : i ≤ l.length) (h : crd l i = .error (e, p)) : (e = 1 ∨ e = 2 ∨ e = 3) ∧ p ≤ l.length := by
  have b := skp_le hi
  unfold crd at h
  split at h
  · cases h
    refine ⟨?_, b⟩
    unfold lackE; split <;> omega
  · split at h
    · cases h; exact ⟨by omega, b⟩
    · cases h

/-- A point. -/
def pnt (l : List UInt8) (i : Nat) : Except (Int × Nat) ((Int × Int) × Nat) :=
  match crd l i with
  | .error e => .error e
  | .ok (x, k) => if blN (l.drop k) = 0 then .error (lackE l.length k, k) else
    match crd l k with
    | .error e => .error e
    | .ok (y, m) => .ok (((x : Int), (y : Int)), m)
theorem pnt_ok {l : List UInt8} {i k : Nat} {p : Int × Int} (hi : i ≤ l.length) (h : pnt l i = .ok (p, k)) : (0 ≤ p.1 ∧ p.1 ≤ 32 ∧ 0 ≤ p.2 ∧ p.2 ≤ 32) ∧ i < k ∧ k ≤ l.length := by
  unfold pnt at h
  split at h
  · cases h
  · rename_i x k1 e1
    have a := crd_ok hi e1
    split at h
    · cases h
    · split at h
      · cases h
      · rename_i y m e2
        have b := crd_ok a.2.2 e2
        cases h
        simp only
        omega
theorem pnt_err {l : List UInt8} {i : Nat} {e : Int} {p : Nat} (hi : i ≤ l.length) (h : pnt l i = .error (e, p)) : (e = 1 ∨ e = 2 ∨ e = 3) ∧ p ≤ l.length := by
  unfold pnt at h
  split at h
  · rename_i e1; cases h; exact crd_err hi e1
  · rename_i x k1 e1
    have a := crd_ok hi e1
    split at h
    · cases h
      refine ⟨?_, a.2.2⟩
      unfold lackE; split <;> omega
    · split at h
      · rename_i e2; cases h; exact crd_err a.2.2 e2
      · cases h

/-- Where one is in a path: the place, whether a shape is open, its points, the shapes so far. -/
structure St where
  i : Nat
  o : Bool
  cur : List (Int × Int)
  out : List (List (Int × Int))
abbrev Ans := Except (Int × Nat) (List (List (Int × Int)))

def byt (l : List UInt8) (i : Nat) : UInt8 := l.getD i 0
/-- One step. -/
def stp (l : List UInt8) (s : St) : St ⊕ Ans :=
  if l.length ≤ s.i then (if s.o = true then .inr (.error (2, l.length)) else .inr (.ok s.out))
  else if byt l s.i = 122 ∧ s.o = true then .inl ⟨skp l (s.i + 1), false, [], s.out ++ [s.cur]⟩
  else if byt l s.i = (if s.o = true then 76 else 77) then
    match pnt l (s.i + 1) with
    | .error e => .inr (.error e)
    | .ok (p, k) => .inl ⟨skp l k, true, s.cur ++ [p], s.out⟩
  else .inr (.error (1, s.i))

inductive Rch (l : List UInt8) : St → St → Prop
  | refl (s : St) : Rch l s s
  | step {s t u : St} : stp l s = .inl t → Rch l t u → Rch l s u
theorem Rch.trans {l : List UInt8} {s t u : St} (h : Rch l s t) (k : Rch l t u) : Rch l s u := by
  induction h with
  | refl => exact k
  | step e _ ih => exact .step e (ih k)
theorem Rch.snoc {l : List UInt8} {s t u : St} (h : Rch l s t) (e : stp l t = .inl u) : Rch l s u := h.trans (.step e (.refl _))
/-- What a path says. -/
def Says (l : List UInt8) (s : St) (a : Ans) : Prop := ∃ t, Rch l s t ∧ stp l t = .inr a
theorem Says.unique {l : List UInt8} {s : St} {a b : Ans} (h : Says l s a) (k : Says l s b) : a = b := by
  obtain ⟨t, h1, h2⟩ := h
  obtain ⟨u, k1, k2⟩ := k
  induction h1 with
  | refl =>
    cases k1 with
    | refl => rw [h2] at k2; cases k2; rfl
    | step e _ => rw [h2] at e; cases e
  | step e _ ih =>
    cases k1 with
    | refl => rw [e] at k2; cases k2
    | step e' k1' => rw [e] at e'; cases e'; exact ih h2 k1'
/-- The first step is from behind the blanks. -/
def st0 (l : List UInt8) : St := ⟨skp l 0, false, [], []⟩

/-! What the steps are, by what stands there. -/
theorem byt_at (s : ByteArray) (i : Nat) (h : i < s.size) : byt s.data.toList i = s[i] := by
  unfold byt
  rw [List.getD_eq_getElem?_getD, List.getElem?_eq_getElem (by simpa using h)]; rfl
theorem stp_end {l : List UInt8} {i : Nat} {cur : List (Int × Int)} {out : List (List (Int × Int))} (h : l.length ≤ i) : stp l ⟨i, false, cur, out⟩ = .inr (.ok out) := by
  unfold stp; rw [if_pos h]; rfl
theorem stp_short {l : List UInt8} {i : Nat} {cur : List (Int × Int)} {out : List (List (Int × Int))} (h : l.length ≤ i) : stp l ⟨i, true, cur, out⟩ = .inr (.error (2, l.length)) := by
  unfold stp; rw [if_pos h]; rfl
theorem stp_z {l : List UInt8} {i : Nat} {cur : List (Int × Int)} {out : List (List (Int × Int))} (h : i < l.length) (hb : byt l i = 122) : stp l ⟨i, true, cur, out⟩ = .inl ⟨skp l (i + 1), false, [], out ++ [cur]⟩ := by
  unfold stp; rw [if_neg (by simp only; omega), if_pos ⟨hb, rfl⟩]
theorem stp_bad {l : List UInt8} {i : Nat} {o : Bool} {cur : List (Int × Int)} {out : List (List (Int × Int))} (h : i < l.length) (hz : o = true → byt l i ≠ 122) (hb : byt l i ≠ if o = true then 76 else 77) : stp l ⟨i, o, cur, out⟩ = .inr (.error (1, i)) := by
  unfold stp; rw [if_neg (by simp only; omega), if_neg (fun hh => hz hh.2 hh.1), if_neg hb]
theorem stp_err {l : List UInt8} {i : Nat} {o : Bool} {cur : List (Int × Int)} {out : List (List (Int × Int))} (h : i < l.length) (hb : byt l i = if o = true then 76 else 77) {e : Int × Nat} (hp : pnt l (i + 1) = .error e) : stp l ⟨i, o, cur, out⟩ = .inr (.error e) := by
  unfold stp
  rw [if_neg (by simp only; omega), if_neg (fun hh => by have h1 := hh.1; have h2 := hh.2; simp only at h1 h2; rw [h2, h1] at hb; simp at hb), if_pos hb]
  simp only [hp]
theorem stp_pt {l : List UInt8} {i : Nat} {o : Bool} {cur : List (Int × Int)} {out : List (List (Int × Int))} (h : i < l.length) (hb : byt l i = if o = true then 76 else 77) {p : Int × Int} {k : Nat} (hp : pnt l (i + 1) = .ok (p, k)) : stp l ⟨i, o, cur, out⟩ = .inl ⟨skp l k, true, cur ++ [p], out⟩ := by
  unfold stp
  rw [if_neg (by simp only; omega), if_neg (fun hh => by have h1 := hh.1; have h2 := hh.2; simp only at h1 h2; rw [h2, h1] at hb; simp at hb), if_pos hb]
  simp only [hp]

/-- What shapes are written as. -/
def ptL (p : Int × Int) : List UInt8 := itoaL p.1.toNat ++ [32] ++ itoaL p.2.toNat
def ptsL : List (Int × Int) → List UInt8
  | [] => []
  | p :: l => [76] ++ ptL p ++ ptsL l
def shP : List (Int × Int) → List UInt8
  | [] => []
  | p :: l => [77] ++ ptL p ++ ptsL l
def shL (l : List (Int × Int)) : List UInt8 := shP l ++ [122]
theorem ptsL_snoc : ∀ (m : List (Int × Int)) (p : Int × Int), ptsL (m ++ [p]) = ptsL m ++ [76] ++ ptL p
  | [], p => by simp [ptsL]
  | q :: m, p => by rw [List.cons_append, ptsL, ptsL_snoc m p, ptsL]; simp
theorem shP_snoc (m : List (Int × Int)) (p : Int × Int) : shP (m ++ [p]) = shP m ++ [if m.length = 0 then 77 else 76] ++ ptL p := by
  cases m with
  | nil => simp [shP, ptsL]
  | cons q m => rw [List.cons_append, shP, ptsL_snoc, shP, if_neg (by simp)]; simp
theorem ptL_len (p : Int × Int) : 3 ≤ (ptL p).length ∧ (ptL p).length ≤ 5 := by
  unfold ptL
  have a := itoaL_len p.1.toNat
  have b := itoaL_len p.2.toNat
  simp only [List.length_append, List.length_singleton]
  omega
theorem ptsL_len (m : List (Int × Int)) : (ptsL m).length ≤ 6 * m.length := by
  induction m with
  | nil => simp [ptsL]
  | cons p m ih => have := ptL_len p; rw [ptsL]; simp only [List.length_append, List.length_nil, List.length_cons]; omega
theorem shP_len (m : List (Int × Int)) : (shP m).length ≤ 6 * m.length := by
  cases m with
  | nil => simp [shP]
  | cons p m => have := ptL_len p; have := ptsL_len m; rw [shP]; simp only [List.length_append, List.length_nil, List.length_cons]; omega
def pathL (L : List (List (Int × Int))) : List UInt8 := L.flatMap shL
theorem pathL_snoc (L : List (List (Int × Int))) (l : List (Int × Int)) : pathL (L ++ [l]) = pathL L ++ shL l := by simp [pathL]
theorem pathL_take (L : List (List (Int × Int))) (k : Nat) : (pathL (L.take k)).length ≤ (pathL L).length := by
  have e : pathL L = pathL (L.take k) ++ pathL (L.drop k) := by unfold pathL; rw [← List.flatMap_append, List.take_append_drop]
  rw [e, List.length_append]; omega
end Go.Proofs.YtljfiefobnncaaaDoor.Pm
