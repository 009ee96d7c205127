/- Plain facts: what is written is read back; half of it is no file. -/
import Derived.Test.YtljfiefobnncaaaDoorPu
namespace Go.Proofs.YtljfiefobnncaaaDoor.Pm

theorem numV_app : ∀ (d : List UInt8) (m : Nat) (c : UInt8) (r : List UInt8), d.all digitB = true → digitB c = false → numV m (d ++ c :: r) = numV m d
  | [], m, c, r, _, hc => by simp [numV, hc]
  | x :: d, m, c, r, hd, hc => by
    simp only [List.all_cons, Bool.and_eq_true] at hd
    rw [List.cons_append, numV, numV, if_pos hd.1, if_pos hd.1, numV_app d _ c r hd.2 hc]
theorem numC_app : ∀ (d : List UInt8) (c : UInt8) (r : List UInt8), d.all digitB = true → digitB c = false → numC (d ++ c :: r) = d.length
  | [], c, r, _, hc => by simp [numC, hc]
  | x :: d, c, r, hd, hc => by
    simp only [List.all_cons, Bool.and_eq_true] at hd
    rw [List.cons_append, numC, if_pos hd.1, numC_app d c r hd.2 hc, List.length_cons]; omega
theorem itoaL_facts : ∀ n, n < 33 → (itoaL n).all digitB = true ∧ numV 0 (itoaL n) = n ∧ 0 < (itoaL n).length := by decide +kernel
theorem digit_not {c : UInt8} (h : digitB c = true) : ((c.toNat : Int) == 35) = false ∧ blankB c = false := by
  have b := digit_bounds h
  refine ⟨beq_eq_false_iff_ne.2 (by omega), ?_⟩
  rw [blankB_eq]
  simp only [Bool.or_eq_false_iff, beq_eq_false_iff_ne]
  omega
/-- A gap of one byte and a number behind it, wherever they stand. -/
theorem side_read (pre : List UInt8) (c : UInt8) (n : Nat) (e : UInt8) (r : List UInt8) (hc : blankB c = true) (hc2 : ((c.toNat : Int) == 35) = false) (n1 : 1 ≤ n) (n2 : n ≤ 32) (he : digitB e = false) :
    sideOut (pre ++ c :: (itoaL n ++ e :: r)) pre.length n (pre.length + 1 + (itoaL n).length) 0 := by
  obtain ⟨f1, f2, f3⟩ := itoaL_facts n (by omega)
  have hd : (pre ++ c :: (itoaL n ++ e :: r)).drop pre.length = c :: (itoaL n ++ e :: r) := by simp
  have hs : skipG (itoaL n ++ e :: r) false = 0 := by
    cases hi : itoaL n with
    | nil => rw [hi] at f3; simp at f3
    | cons x d =>
      rw [hi] at f1
      simp only [List.all_cons, Bool.and_eq_true] at f1
      have q := digit_not f1.1
      rw [List.cons_append, skipG, if_neg (by simp [q.1, q.2])]
  have hg : gapEnd (pre ++ c :: (itoaL n ++ e :: r)) pre.length = pre.length + 1 := by
    rw [gapEnd, hd, skipG, if_pos (by simp [hc]), hc2]
    simp only [Bool.false_or, Bool.and_false, hs]
  have hd2 : (pre ++ c :: (itoaL n ++ e :: r)).drop (pre.length + 1) = itoaL n ++ e :: r := by
    rw [← List.drop_drop, hd]; rfl
  refine .inr ⟨by omega, ?_⟩
  rw [hg]
  refine .inr (.inr ?_)
  rw [hd2, numC_app _ _ _ f1 he, numV_app _ _ _ _ f1 he, f2]
  exact ⟨f3, n1, n2, rfl, rfl, rfl⟩
theorem flat_get (f : Nat → List UInt8) (r : Nat) (hf : ∀ y, (f y).length = r) : ∀ (H y m : Nat), y < H → m < r → ((List.range H).flatMap f)[y * r + m]? = (f y)[m]?
  | 0, y, m, hy, _ => by omega
  | H + 1, y, m, hy, hm => by
    have hlen : ((List.range H).flatMap f).length = H * r := by
      clear hy
      induction H with
      | zero => simp
      | succ k ih => rw [List.range_succ, List.flatMap_append, List.length_append, ih]; simp [hf, Nat.add_mul]
    rw [List.range_succ, List.flatMap_append]
    by_cases h : y < H
    · have : y * r + m < H * r := by
        have := Nat.mul_le_mul_right r (Nat.succ_le_of_lt h)
        rw [Nat.succ_mul] at this; omega
      rw [List.getElem?_append_left (by rw [hlen]; exact this)]
      exact flat_get f r hf H y m h hm
    · obtain rfl : y = H := by omega
      rw [List.getElem?_append_right (by rw [hlen]; omega), hlen]
      simp [show y * r + m - y * r = m from by omega]
theorem flat_len (f : Nat → List UInt8) (r : Nat) (hf : ∀ y, (f y).length = r) : ∀ H, ((List.range H).flatMap f).length = H * r
  | 0 => by simp
  | H + 1 => by rw [List.range_succ, List.flatMap_append, List.length_append, flat_len f r hf H]; simp [hf, Nat.add_mul]
/-- A byte's bits are the pixels that went into it. -/
theorem packV_bits (f : Nat → Bool) : ∀ (n j : Nat), j < n → packV f n / 2 ^ (n - 1 - j) % 2 = if f j then 1 else 0
  | 0, j, h => by omega
  | n + 1, j, h => by
    by_cases hj : j = n
    · subst hj
      simp only [packV, show j + 1 - 1 - j = 0 from by omega, Nat.pow_zero, Nat.div_one]
      split <;> omega
    · have ih := packV_bits f n j (by omega)
      rw [show n + 1 - 1 - j = (n - 1 - j) + 1 from by omega, Nat.pow_succ, Nat.mul_comm, ← Nat.div_div_eq_div_mul, packV]
      rw [show (2 * packV f n + if f n = true then 1 else 0) / 2 = packV f n from by split <;> omega]
      exact ih
theorem bitOf_byteAt (l : List UInt8) (i j : Nat) (hj : j < 8) : bitOf (byteAt l i) j = if bitAt l (i + j) then 1 else 0 := by
  rw [bitOf, byteAt_toNat]
  exact packV_bits (fun k => bitAt l (i + k)) 8 j hj
theorem pix_back (l : List UInt8) (x : Nat) (hx : x < l.length) (hp : l.all okPix = true) : UInt8.ofNat (48 + if bitAt l x then 1 else 0) = l[x] := by
  have h := List.all_eq_true.1 hp l[x] (List.getElem_mem hx)
  simp only [okPix, Bool.or_eq_true, beq_iff_eq] at h
  have e : l[x]? = some l[x] := List.getElem?_eq_getElem hx
  rcases h with h | h
  · have b : bitAt l x = false := by rw [bitAt, e, h]; rfl
    rw [b, h]; rfl
  · have b : bitAt l x = true := by rw [bitAt, e, h]; rfl
    rw [b, h]; rfl
end Go.Proofs.YtljfiefobnncaaaDoor.Pm
