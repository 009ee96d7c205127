/- Plain facts on the pixels of a P1 file and of a P4 file. -/
import Derived.Test.YtljfiefobnncaaaDoorPr
namespace Go.Proofs.YtljfiefobnncaaaDoor.Pm

/-- n pixels of a P1 file: the pixels, how many bytes, and whether all are there. -/
def plainL : List UInt8 → Nat → List UInt8 × Nat × Bool
  | _, 0 => ([], 0, true)
  | [], _ + 1 => ([], 0, false)
  | c :: r, n + 1 =>
    if blankB c = true then ((plainL r (n + 1)).1, (plainL r (n + 1)).2.1 + 1, (plainL r (n + 1)).2.2)
    else if okPix c = true then (c :: (plainL r n).1, (plainL r n).2.1 + 1, (plainL r n).2.2)
    else ([], 0, false)
def cat (B : List UInt8) (d : Nat) (r : List UInt8 × Nat × Bool) : List UInt8 × Nat × Bool := (B ++ r.1, d + r.2.1, r.2.2)
/-- Behind the pixels B one stands at k. -/
def PlainAt (l : List UInt8) (a n : Nat) (B : List UInt8) (k : Nat) : Prop :=
  B.length ≤ n ∧ a ≤ k ∧ k ≤ l.length ∧ plainL (l.drop a) n = cat B (k - a) (plainL (l.drop k) (n - B.length))
theorem PlainAt.start (l : List UInt8) (a n : Nat) (ha : a ≤ l.length) : PlainAt l a n [] a := by
  refine ⟨Nat.zero_le _, Nat.le_refl _, ha, ?_⟩
  simp [cat]
theorem PlainAt.blank {s : ByteArray} {a n k : Nat} {B : List UInt8} (h : PlainAt s.data.toList a n B k) (hk : k < s.size) (hb : blankB s[k] = true) (hB : B.length < n) : PlainAt s.data.toList a n B (k + 1) := by
  obtain ⟨h1, h2, h3, h4⟩ := h
  refine ⟨h1, by omega, by simpa using Nat.succ_le_of_lt hk, ?_⟩
  rw [h4, drop_at s k hk]
  obtain ⟨m, hm⟩ : ∃ m, n - B.length = m + 1 := ⟨n - B.length - 1, by omega⟩
  rw [hm, plainL, if_pos hb, cat, cat, show k + 1 - a = k - a + 1 from by omega]
  simp only [Prod.mk.injEq, and_true, true_and]
  omega
theorem PlainAt.skip {s : ByteArray} {a n : Nat} {B : List UInt8} (hB : B.length < n) : ∀ (j k : Nat), PlainAt s.data.toList a n B k → j = blanks (s.data.toList.drop k) → PlainAt s.data.toList a n B (k + j)
  | 0, k, h, _ => h
  | j + 1, k, h, hj => by
    by_cases hk : k < s.size
    · rw [blanks_step s k hk] at hj
      by_cases hb : blankB s[k] = true
      · rw [if_pos hb] at hj
        have := PlainAt.skip hB j (k + 1) (h.blank hk hb hB) (by omega)
        rwa [show k + (j + 1) = k + 1 + j from by omega]
      · rw [if_neg hb] at hj; omega
    · rw [blanks_end s k (by omega)] at hj; omega
theorem PlainAt.pix {s : ByteArray} {a n k : Nat} {B : List UInt8} (h : PlainAt s.data.toList a n B k) (hk : k < s.size) (hb : blankB s[k] = false) (hp : okPix s[k] = true) (hB : B.length < n) : PlainAt s.data.toList a n (B ++ [s[k]]) (k + 1) := by
  obtain ⟨h1, h2, h3, h4⟩ := h
  refine ⟨by simp; omega, by omega, by simpa using Nat.succ_le_of_lt hk, ?_⟩
  rw [h4, drop_at s k hk]
  obtain ⟨m, hm⟩ : ∃ m, n - B.length = m + 1 := ⟨n - B.length - 1, by omega⟩
  rw [hm, plainL, if_neg (by simp [hb]), if_pos hp, cat, cat, show k + 1 - a = k - a + 1 from by omega, List.length_append, List.length_cons, List.length_nil, show n - (B.length + (0 + 1)) = m from by omega]
  simp only [Prod.mk.injEq, and_true, List.append_assoc, List.cons_append, List.nil_append, true_and]
  omega
theorem PlainAt.done {l : List UInt8} {a n k : Nat} {B : List UInt8} (h : PlainAt l a n B k) (hB : B.length = n) : plainL (l.drop a) n = (B, k - a, true) := by
  rw [h.2.2.2, hB, Nat.sub_self]
  cases l.drop k <;> simp [plainL, cat]
theorem PlainAt.bad {s : ByteArray} {a n k : Nat} {B : List UInt8} (h : PlainAt s.data.toList a n B k) (hB : B.length < n) (hk : ∀ h : k < s.size, blankB s[k] = false ∧ okPix s[k] = false) : plainL (s.data.toList.drop a) n = (B, k - a, false) := by
  obtain ⟨h1, h2, h3, h4⟩ := h
  obtain ⟨m, hm⟩ : ∃ m, n - B.length = m + 1 := ⟨n - B.length - 1, by omega⟩
  rw [h4, hm]
  by_cases hlt : k < s.size
  · rw [drop_at s k hlt, plainL, if_neg (by simp [(hk hlt).1]), if_neg (by simp [(hk hlt).2])]; simp [cat]
  · rw [drop_end s k (by omega), plainL]; simp [cat]
theorem blanks_stop (s : ByteArray) : ∀ (j k : Nat), j = blanks (s.data.toList.drop k) → ∀ h : k + j < s.size, blankB s[k + j] = false
  | 0, k, hj, h => by
    rw [blanks_step s k h] at hj
    by_cases hb : blankB s[k] = true
    · rw [if_pos hb] at hj; omega
    · simpa using hb
  | j + 1, k, hj, h => by
    by_cases hk : k < s.size
    · rw [blanks_step s k hk] at hj
      by_cases hb : blankB s[k] = true
      · rw [if_pos hb] at hj
        have := blanks_stop s j (k + 1) (by omega) (by omega)
        simpa [show k + (j + 1) = k + 1 + j from by omega] using this
      · rw [if_neg hb] at hj; omega
    · omega
theorem okPix_blank {c : UInt8} (h : okPix c = true) : blankB c = false := by
  have : ∀ c : UInt8, okPix c = true → blankB c = false := by
    intro c h
    simp only [okPix, Bool.or_eq_true, beq_iff_eq] at h
    rcases h with rfl | rfl <;> rfl
  exact this c h
/-- What the pixels of a P1 file give: the pixels, where they end or what is wrong stands, the error. -/
def plainOut (l : List UInt8) (a n : Nat) (bits : List UInt8) (p : Nat) (e : Int) : Prop :=
  ((plainL (l.drop a) n).2.2 = true ∧ bits = (plainL (l.drop a) n).1 ∧ p = a + (plainL (l.drop a) n).2.1 ∧ e = 0) ∨
  ((plainL (l.drop a) n).2.2 = false ∧ bits = [] ∧ p = a + (plainL (l.drop a) n).2.1 ∧ e = lackE l.length (a + (plainL (l.drop a) n).2.1))
theorem PlainAt.out_yes {l : List UInt8} {a n k : Nat} {B : List UInt8} (h : PlainAt l a n B k) (hB : B.length = n) : plainOut l a n B k 0 := by
  have e := h.done hB
  have h2 := h.2.1
  refine .inl ?_
  rw [e]
  exact ⟨rfl, rfl, by simp only; omega, rfl⟩
theorem PlainAt.out_no {s : ByteArray} {a n k : Nat} {B : List UInt8} (h : PlainAt s.data.toList a n B k) (hB : B.length < n) (hk : ∀ h : k < s.size, blankB s[k] = false ∧ okPix s[k] = false) : plainOut s.data.toList a n [] k (lackE s.size k) := by
  have e := h.bad hB hk
  have h2 := h.2.1
  refine .inr ?_
  rw [e]
  refine ⟨rfl, rfl, by simp only; omega, ?_⟩
  simp only [show a + (k - a) = k from by omega]
  simp
theorem one_cut (F s : ByteArray) (B : List UInt8) (k : Nat) (hk : k < s.size) (h : F.data.toList = B) : (F ++ s.extract k (k + 1)).data.toList = B ++ [s[k]] := by
  have e : s.data.toList.take (k + 1) = s.data.toList.take k ++ [s[k]] := by rw [List.take_succ_eq_append_getElem (by simpa using hk)]; rfl
  simp only [ByteArray.data_append, Array.toList_append, h, ByteArray.data_extract, Array.toList_extract, List.extract_eq_take_drop]
  congr 1
  rw [drop_at s k hk, show k + 1 - k = 1 from by omega]; rfl
theorem size_of_data (F : ByteArray) (B : List UInt8) (h : F.data.toList = B) : F.size = B.length := by rw [← h]; simp
/-- Bit j of a byte, the highest being bit 0. -/
def bitOf (c : UInt8) (j : Nat) : Nat := c.toNat / 2 ^ (7 - j) % 2
theorem bitOf_le (c : UInt8) (j : Nat) : bitOf c j ≤ 1 := by unfold bitOf; omega
theorem and_one_u8 : ∀ a : Fin 256, bits BinOp.and IntKind.u8 (a.val : Int) 1 = ((a.val % 2 : Nat) : Int) := by decide +kernel
theorem bit_walk (c : UInt8) (j : Nat) : bits BinOp.and IntKind.u8 ((c.toNat : Int) / 2 ^ (7 - j)) 1 = (bitOf c j : Int) := by
  have h : (c.toNat : Int) / 2 ^ (7 - j) = ((c.toNat / 2 ^ (7 - j) : Nat) : Int) := by simp
  have lt : c.toNat / 2 ^ (7 - j) < 256 := Nat.lt_of_le_of_lt (Nat.div_le_self _ _) c.toNat_lt
  rw [h]
  exact and_one_u8 ⟨c.toNat / 2 ^ (7 - j), lt⟩
/-- The byte of pixel x of a row that begins at place b. -/
def pixAt (l : List UInt8) (b x : Nat) : UInt8 := UInt8.ofNat (48 + bitOf (l.getD (b + x / 8) 0) (x % 8))
theorem pixAt_toNat (l : List UInt8) (b x : Nat) : (pixAt l b x).toNat = 48 + bitOf (l.getD (b + x / 8) 0) (x % 8) := by
  have := bitOf_le (l.getD (b + x / 8) 0) (x % 8)
  simp only [pixAt, UInt8.toNat_ofNat']; omega
/-- The first x pixels of a row that begins at place b. -/
def rowTo (l : List UInt8) (b x : Nat) : List UInt8 := (List.range x).map (pixAt l b)
theorem rowTo_succ (l : List UInt8) (b x : Nat) : rowTo l b (x + 1) = rowTo l b x ++ [pixAt l b x] := by simp [rowTo, List.range_succ]
theorem rowTo_length (l : List UInt8) (b x : Nat) : (rowTo l b x).length = x := by simp [rowTo]
theorem getD_at (s : ByteArray) (k : Nat) (hk : k < s.size) : s.data.toList.getD k 0 = s[k] := by
  rw [List.getD_eq_getElem?_getD, List.getElem?_eq_getElem (by simpa using hk)]; rfl
/-- The first y rows, r bytes each, from place b on. -/
def rowsTo (l : List UInt8) (b r w y : Nat) : List UInt8 := (List.range y).flatMap fun y => rowTo l (b + y * r) w
theorem rowsTo_succ (l : List UInt8) (b r w y : Nat) : rowsTo l b r w (y + 1) = rowsTo l b r w y ++ rowTo l (b + y * r) w := by simp [rowsTo, List.range_succ]
theorem rowsTo_length (l : List UInt8) (b r w : Nat) : ∀ y, (rowsTo l b r w y).length = y * w
  | 0 => by simp [rowsTo]
  | y + 1 => by rw [rowsTo_succ, List.length_append, rowsTo_length l b r w y, rowTo_length, Nat.add_mul]; omega
/-- A row's pixels out of the bytes cut out for it. -/
theorem rowTo_cut (s : ByteArray) (b c w : Nat) (hc : w ≤ 8 * (c - b)) : rowTo (s.extract b c).data.toList 0 w = rowTo s.data.toList b w := by
  simp only [rowTo]
  apply List.map_congr_left
  intro x hx
  have hx := List.mem_range.1 hx
  simp only [pixAt, Nat.zero_add]
  congr 3
  rw [List.getD_eq_getElem?_getD, List.getD_eq_getElem?_getD]
  congr 1
  simp only [ByteArray.data_extract, Array.toList_extract, List.extract_eq_take_drop, List.getElem?_take, List.getElem?_drop]
  rw [if_pos (by omega)]
theorem half_step (c z m : Nat) (hm : m ≤ z) : c / 2 ^ (z - m) / 2 = c / 2 ^ (z + 1 - m) := by
  rw [Nat.div_div_eq_div_mul, ← Nat.pow_succ, show (z - m).succ = z + 1 - m from by omega]
theorem itoaL_bit (b : Nat) (h : b ≤ 1) : itoaL b = [UInt8.ofNat (48 + b)] := by
  rcases (show b = 0 ∨ b = 1 from by omega) with rfl | rfl <;> rfl
theorem pix_data (s G : ByteArray) (p : List UInt8) (b x k v : Nat) (hG : G.data.toList = p ++ rowTo s.data.toList b x) (hk : k < s.size) (hkb : k = b + x / 8) (hv : v = s[k].toNat / 2 ^ (7 - x % 8)) : (G ++ ⟨(itoaL (v % 2)).toArray⟩).data.toList = p ++ rowTo s.data.toList b (x + 1) := by
  have e : v % 2 = bitOf s[k] (x % 8) := by rw [hv, bitOf]
  have e2 : pixAt s.data.toList b x = UInt8.ofNat (48 + bitOf s[k] (x % 8)) := by rw [pixAt, ← hkb, getD_at s k hk]
  rw [rowTo_succ, e2, e, itoaL_bit _ (bitOf_le _ _)]
  simp [hG]
/-- What the pixels of a P4 file give. -/
def packedOut (l : List UInt8) (a w h : Nat) (bits : List UInt8) (p : Nat) (e : Int) : Prop :=
  ((∀ c, l[a]? = some c → blankB c = false) ∧ bits = [] ∧ p = a ∧ e = lackE l.length a) ∨
  ((∃ c, l[a]? = some c ∧ blankB c = true) ∧ l.length < a + 1 + (w + 7) / 8 * h ∧ bits = [] ∧ p = l.length ∧ e = 2) ∨
  ((∃ c, l[a]? = some c ∧ blankB c = true) ∧ a + 1 + (w + 7) / 8 * h ≤ l.length ∧ bits = rowsTo l (a + 1) ((w + 7) / 8) w h ∧ p = a + 1 + (w + 7) / 8 * h ∧ e = 0)
end Go.Proofs.YtljfiefobnncaaaDoor.Pm
