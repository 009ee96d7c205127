import Derived.Test.YtljfiefobnncaabGreatDoorK24
import Derived.Test.YtljfiefobnncaabGreatDoorK01

/- Plain facts on the pixels of a P1 file and of a P4 file. -/
namespace Go.Proofs.YtljfiefobnncaabGreatDoor.Pm

/-- n pixels of a P1 file: the pixels, how many bytes, and whether all are there. -/
def plainL : List UInt8 → Nat → List UInt8 × Nat × Bool
  | _, 0 => ([], 0, true)
  | [], _ + 1 => ([], 0, false)
  | c :: r, n + 1 =>
    if blankB c = true then ((plainL r (n + 1)).1, (plainL r (n + 1)).2.1 + 1, (plainL r (n + 1)).2.2)
    else if okPix c = true then (c :: (plainL r n).1, (plainL r n).2.1 + 1, (plainL r n).2.2)
    else ([], 0, false)
def cat (B : List UInt8) (d : Nat) (r : List UInt8 × Nat × Bool) : List UInt8 × Nat × Bool := (B ++ r.1, d + r.2.1, r.2.2)
/-- Behind the pixels B one stands at k. -/
def PlainAt (l : List UInt8) (a n : Nat) (B : List UInt8) (k : Nat) : Prop :=
  B.length ≤ n ∧ a ≤ k ∧ k ≤ l.length ∧ plainL (l.drop a) n = cat B (k - a) (plainL (l.drop k) (n - B.length))
theorem PlainAt.start (l : List UInt8) (a n : Nat) (ha : a ≤ l.length) : PlainAt l a n [] a := by
  refine ⟨Nat.zero_le _, Nat.le_refl _, ha, ?_⟩
  simp [cat]
theorem PlainAt.blank {s : ByteArray} {a n k : Nat} {B : List UInt8} (h : PlainAt s.data.toList a n B k) (hk : k < s.size) (hb : blankB s[k] = true) (hB : B.length < n) : PlainAt s.data.toList a n B (k + 1) := by
  obtain ⟨h1, h2, h3, h4⟩ := h
  refine ⟨h1, by omega, by simpa using Nat.succ_le_of_lt hk, ?_⟩
  rw [h4, drop_at s k hk]
  obtain ⟨m, hm⟩ : ∃ m, n - B.length = m + 1 := ⟨n - B.length - 1, by omega⟩
  rw [hm, plainL, if_pos hb, cat, cat, show k + 1 - a = k - a + 1 from by omega]
  simp only [Prod.mk.injEq, and_true, true_and]
  omega
theorem PlainAt.skip {s : ByteArray} {a n : Nat} {B : List UInt8} (hB : B.length < n) : ∀ (j k : Nat), PlainAt s.data.toList a n B k → j = blanks (s.data.toList.drop k) → PlainAt s.data.toList a n B (k + j)
  | 0, k, h, _ => h
  | j + 1, k, h, hj => by
    by_cases hk : k < s.size
    · rw [blanks_step s k hk] at hj
      by_cases hb : blankB s[k] = true
      · rw [if_pos hb] at hj
        have := PlainAt.skip hB j (k + 1) (h.blank hk hb hB) (by omega)
        rwa [show k + (j + 1) = k + 1 + j from by omega]
      · rw [if_neg hb] at hj; omega
    · rw [blanks_end s k (by omega)] at hj; omega
theorem PlainAt.pix {s : ByteArray} {a n k : Nat} {B : List UInt8} (h : PlainAt s.data.toList a n B k) (hk : k < s.size) (hb : blankB s[k] = false) (hp : okPix s[k] = true) (hB : B.length < n) : PlainAt s.data.toList a n (B ++ [s[k]]) (k + 1) := by
  obtain ⟨h1, h2, h3, h4⟩ := h
  refine ⟨by simp; omega, by omega, by simpa using Nat.succ_le_of_lt hk, ?_⟩
  rw [h4, drop_at s k hk]
  obtain ⟨m, hm⟩ : ∃ m, n - B.length = m + 1 := ⟨n - B.length - 1, by omega⟩
  rw [hm, plainL, if_neg (by simp [hb]), if_pos hp, cat, cat, show k + 1 - a = k - a + 1 from by omega, List.length_append, List.length_cons, List.length_nil, show n - (B.length + (0 + 1)) = m from by omega]
  simp only [Prod.mk.injEq, and_true, List.append_assoc, List.cons_append, List.nil_append, true_and]
  omega
theorem PlainAt.done {l : List UInt8} {a n k : Nat} {B : List UInt8} (h : PlainAt l a n B k) (hB : B.length = n) : plainL (l.drop a) n = (B, k - a, true) := by
  rw [h.2.2.2, hB, Nat.sub_self]
  cases l.drop k <;> simp [plainL, cat]
theorem PlainAt.bad {s : ByteArray} {a n k : Nat} {B : List UInt8} (h : PlainAt s.data.toList a n B k) (hB : B.length < n) (hk : ∀ h : k < s.size, blankB s[k] = false ∧ okPix s[k] = false) : plainL (s.data.toList.drop a) n = (B, k - a, false) := by
  obtain ⟨h1, h2, h3, h4⟩ := h
  obtain ⟨m, hm⟩ : ∃ m, n - B.length = m + 1 := ⟨n - B.length - 1, by omega⟩
  rw [h4, hm]
  by_cases hlt : k < s.size
  · rw [drop_at s k hlt, plainL, if_neg (by simp [(hk hlt).1]), if_neg (by simp [(hk hlt).2])]; simp [cat]
  · rw [drop_end s k (by omega), plainL]; simp [cat]
theorem blanks_stop (s : ByteArray) : ∀ (j k : Nat), j = blanks (s.data.toList.drop k) → ∀ h : k + j < s.size, blankB s[k + j] = false
  | 0, k, hj, h => by
    rw [blanks_step s k h] at hj
    by_cases hb : blankB s[k] = true
    · rw [if_pos hb] at hj; omega
    · simpa using hb
  | j + 1, k, hj, h => by
    by_cases hk : k < s.size
    · rw [blanks_step s k hk] at hj
      by_cases hb : blankB s[k] = true
      · rw [if_pos hb] at hj
        have := blanks_stop s j (k + 1) (by omega) (by omega)
        simpa [show k + (j + 1) = k + 1 + j from by omega] using this
      · rw [if_neg hb] at hj; omega
    · omega
theorem okPix_blank {c : UInt8} (h : okPix c = true) : blankB c = false := by
  have : ∀ c : UInt8, okPix c = true → blankB c = false := by
    intro c h
    simp only [okPix, Bool.or_eq_true, beq_iff_eq] at h
    rcases h with rfl | rfl <;> rfl
  exact this c h
/-- What the pixels of a P1 file give: the pixels, where they end or what is wrong stands, the error. -/
def plainOut (l : List UInt8) (a n : Nat) (bits : List UInt8) (p : Nat) (e : Int) : Prop :=
  ((plainL (l.drop a) n).2.2 = true ∧ bits = (plainL (l.drop a) n).1 ∧ p = a + (plainL (l.drop a) n).2.1 ∧ e = 0) ∨
  ((plainL (l.drop a) n).2.2 = false ∧ bits = [] ∧ p = a + (plainL (l.drop a) n).2.1 ∧ e = lackE l.length (a + (plainL (l.drop a) n).2.1))
theorem PlainAt.out_yes {l : List UInt8} {a n k : Nat} {B : List UInt8} (h : PlainAt l a n B k) (hB : B.length = n) : plainOut l a n B k 0 := by
  have e := h.done hB
  have h2 := h.2.1
  refine .inl ?_
  rw [e]
  exact ⟨rfl, rfl, by simp only; omega, rfl⟩
theorem PlainAt.out_no {s : ByteArray} {a n k : Nat} {B : List UInt8} (h : PlainAt s.data.toList a n B k) (hB : B.length < n) (hk : ∀ h : k < s.size, blankB s[k] = false ∧ okPix s[k] = false) : plainOut s.data.toList a n [] k (lackE s.size k) := by
  have e := h.bad hB hk
  have h2 := h.2.1
  refine .inr ?_
  rw [e]
  refine ⟨rfl, rfl, by simp only; omega, ?_⟩
  simp only [show a + (k - a) = k from by omega]
  simp
theorem one_cut (F s : ByteArray) (B : List UInt8) (k : Nat) (hk : k < s.size) (h : F.data.toList = B) : (F ++ s.extract k (k + 1)).data.toList = B ++ [s[k]] := by
  have e : s.data.toList.take (k + 1) = s.data.toList.take k ++ [s[k]] := by rw [List.take_succ_eq_append_getElem (by simpa using hk)]; rfl
  simp only [ByteArray.data_append, Array.toList_append, h, ByteArray.data_extract, Array.toList_extract, List.extract_eq_take_drop]
  congr 1
  rw [drop_at s k hk, show k + 1 - k = 1 from by omega]; rfl
theorem size_of_data (F : ByteArray) (B : List UInt8) (h : F.data.toList = B) : F.size = B.length := by rw [← h]; simp
/-- Bit j of a byte, the highest being bit 0. -/
def bitOf (c : UInt8) (j : Nat) : Nat := c.toNat / 2 ^ (7 - j) % 2
theorem bitOf_le (c : UInt8) (j : Nat) : bitOf c j ≤ 1 := by unfold bitOf; omega
theorem and_one_u8 : ∀ a : Fin 256, bits BinOp.and IntKind.u8 (a.val : Int) 1 = ((a.val % 2 : Nat) : Int) := by decide +kernel
theorem bit_walk (c : UInt8) (j : Nat) : bits BinOp.and IntKind.u8 ((c.toNat : Int) / 2 ^ (7 - j)) 1 = (bitOf c j : Int) := by
  have h : (c.toNat : Int) / 2 ^ (7 - j) = ((c.toNat / 2 ^ (7 - j) : Nat) : Int) := by simp
  have lt : c.toNat / 2 ^ (7 - j) < 256 := Nat.lt_of_le_of_lt (Nat.div_le_self _ _) c.toNat_lt
  rw [h]
  exact and_one_u8 ⟨c.toNat / 2 ^ (7 - j), lt⟩
/-- The byte of pixel x of a row that begins at place b. -/
def pixAt (l : List UInt8) (b x : Nat) : UInt8 := UInt8.ofNat (48 + bitOf (l.getD (b + x / 8) 0) (x % 8))
theorem pixAt_toNat (l : List UInt8) (b x : Nat) : (pixAt l b x).toNat = 48 + bitOf (l.getD (b + x / 8) 0) (x % 8) := by
  have := bitOf_le (l.getD (b + x / 8) 0) (x % 8)
  simp only [pixAt, UInt8.toNat_ofNat']; omega
/-- The first x pixels of a row that begins at place b. -/
def rowTo (l : List UInt8) (b x : Nat) : List UInt8 := (List.range x).map (pixAt l b)
theorem rowTo_succ (l : List UInt8) (b x : Nat) : rowTo l b (x + 1) = rowTo l b x ++ [pixAt l b x] := by simp [rowTo, List.range_succ]
theorem rowTo_length (l : List UInt8) (b x : Nat) : (rowTo l b x).length = x := by simp [rowTo]
theorem getD_at (s : ByteArray) (k : Nat) (hk : k < s.size) : s.data.toList.getD k 0 = s[k] := by
  rw [List.getD_eq_getElem?_getD, List.getElem?_eq_getElem (by simpa using hk)]; rfl
/-- The first y rows, r bytes each, from place b on. -/
def rowsTo (l : List UInt8) (b r w y : Nat) : List UInt8 := (List.range y).flatMap fun y => rowTo l (b + y * r) w
theorem rowsTo_succ (l : List UInt8) (b r w y : Nat) : rowsTo l b r w (y + 1) = rowsTo l b r w y ++ rowTo l (b + y * r) w := by simp [rowsTo, List.range_succ]
theorem rowsTo_length (l : List UInt8) (b r w : Nat) : ∀ y, (rowsTo l b r w y).length = y * w
  | 0 => by simp [rowsTo]
  | y + 1 => by rw [rowsTo_succ, List.length_append, rowsTo_length l b r w y, rowTo_length, Nat.add_mul]; omega
/-- A row's pixels out of the bytes cut out for it. -/
theorem rowTo_cut (s : ByteArray) (b c w : Nat) (hc : w ≤ 8 * (c - b)) : rowTo (s.extract b c).data.toList 0 w = rowTo s.data.toList b w := by
  simp only [rowTo]
  apply List.map_congr_left
  intro x hx
  have hx := List.mem_range.1 hx
  simp only [pixAt, Nat.zero_add]
  congr 3
  rw [List.getD_eq_getElem?_getD, List.getD_eq_getElem?_getD]
  congr 1
  simp only [ByteArray.data_extract, Array.toList_extract, List.extract_eq_take_drop, List.getElem?_take, List.getElem?_drop]
  rw [if_pos (by omega)]
theorem half_step (c z m : Nat) (hm : m ≤ z) : c / 2 ^ (z - m) / 2 = c / 2 ^ (z + 1 - m) := by
  rw [Nat.div_div_eq_div_mul, ← Nat.pow_succ, show (z - m).succ = z + 1 - m from by omega]
theorem itoaL_bit (b : Nat) (h : b ≤ 1) : itoaL b = [UInt8.ofNat (48 + b)] := by
  rcases (show b = 0 ∨ b = 1 from by omega) with rfl | rfl <;> rfl
theorem pix_data (s G : ByteArray) (p : List UInt8) (b x k v : Nat) (hG : G.data.toList = p ++ rowTo s.data.toList b x) (hk : k < s.size) (hkb : k = b + x / 8) (hv : v = s[k].toNat / 2 ^ (7 - x % 8)) : (G ++ ⟨(itoaL (v % 2)).toArray⟩).data.toList = p ++ rowTo s.data.toList b (x + 1) := by
  have e : v % 2 = bitOf s[k] (x % 8) := by rw [hv, bitOf]
  have e2 : pixAt s.data.toList b x = UInt8.ofNat (48 + bitOf s[k] (x % 8)) := by rw [pixAt, ← hkb, getD_at s k hk]
  rw [rowTo_succ, e2, e, itoaL_bit _ (bitOf_le _ _)]
  simp [hG]
/-- What the pixels of a P4 file give. -/
def packedOut (l : List UInt8) (a w h : Nat) (bits : List UInt8) (p : Nat) (e : Int) : Prop :=
  ((∀ c, l[a]? = some c → blankB c = false) ∧ bits = [] ∧ p = a ∧ e = lackE l.length a) ∨
  ((∃ c, l[a]? = some c ∧ blankB c = true) ∧ l.length < a + 1 + (w + 7) / 8 * h ∧ bits = [] ∧ p = l.length ∧ e = 2) ∨
  ((∃ c, l[a]? = some c ∧ blankB c = true) ∧ a + 1 + (w + 7) / 8 * h ≤ l.length ∧ bits = rowsTo l (a + 1) ((w + 7) / 8) w h ∧ p = a + 1 + (w + 7) / 8 * h ∧ e = 0)
end Go.Proofs.YtljfiefobnncaabGreatDoor.Pm

/- The document's own plain. -/
namespace Go.Proofs.YtljfiefobnncaabGreatDoor
open Go.RowKit

set_option maxRecDepth 4000 in
set_option maxHeartbeats 400000 in
theorem blank_zero (w : World) :
    Calls Tryz.prog 64 #[.int .u8 0] w fun e w' => e = .returned (.bool false) ∧ w' = w := blank_any 0 w

/-- What the document's own 'plain' and 'packed' answer: as the code does; the place is 0 where all is well. -/
def bitsRef (out : List UInt8 → Nat → Int → Prop) (bits : List UInt8) (e : Int) (q : Nat) : Prop :=
  ∃ p, out bits p e ∧ ((e = 0 ∧ q = 0) ∨ (e ≠ 0 ∧ q = p))

set_option maxRecDepth 4000 in
set_option maxHeartbeats 1000000 in
theorem plain_any (s : ByteArray) (a n : Nat) (ha : a ≤ s.size) (hs : s.size ≤ 140737488355328) (h1 : 1 ≤ n) (hn : n ≤ 1024) (w : World) :
    Calls Tryz.prog 37 #[.string s, .int .i64 a, .int .i64 n] w fun e w' => (∃ (bits : List UInt8) (r : Int) (q : Nat), e = .returned (.tuple #[.string ⟨bits.toArray⟩, .int .i64 r, .int .i64 q]) ∧ bitsRef (Pm.plainOut s.data.toList a n) bits r q) ∧ w' = w := by
  go_enter Tryz.func37, Tryz.ntmps37
  go_wp2
  go_loop [9, 1] (fun v x => ∃ (F : ByteArray) (B : List UInt8) (k : Nat), v = .string F ∧ x = .int .i64 k ∧ k ≤ s.size ∧ F.size ≤ n ∧ Hid (F.data.toList = B) ∧ Hid (Pm.PlainAt s.data.toList a n B k)) (fun _ x => s.size + 1 - (intOf x).toNat)
  case atStart => exact ⟨⟨#[]⟩, [], a, rfl, rfl, ha, Nat.zero_le _, rfl, Pm.PlainAt.start _ _ _ (by simpa using ha)⟩
  case round =>
    obtain ⟨F, B, k, rfl, rfl, hk, hF, hFB, hP⟩ := hrel
    have SZ := hidr (Pm.size_of_data F B hFB.out)
    by_cases hlt : F.size < n
    · by_cases hks : k < s.size
      · cases hb : Pm.blankB s[k]
        · by_cases q0 : (s[k].toNat : Int) = 48
          · have b0 : ((s[k].toNat : Int) == 48) = true := beq_iff_eq.2 q0
            have Q0 := hidr q0
            clear q0
            go_wp2_with (first | (go_at_call 34; refine (at_in s k hks _).mono ?_; rintro e w' ⟨rfl, rfl⟩) | (go_at_call 64; refine (blank_any s[k] _).mono ?_; rintro e w' ⟨rfl, rfl⟩; rw [hb]))
            go_round
            case rel => exact ⟨_, B ++ [s[k]], k + 1, rfl, by go_num, by omega, by simp; omega, Pm.one_cut F s B k hks hFB.out, hP.out.pix hks hb (Pm.okPix_of _ (.inl Q0.out)) (by have := SZ.out; omega)⟩
            case measure => simp [intOf]; omega
          · by_cases q1 : (s[k].toNat : Int) = 49
            · have b0 : ((s[k].toNat : Int) == 48) = false := beq_eq_false_iff_ne.2 q0
              have b1 : ((s[k].toNat : Int) == 49) = true := beq_iff_eq.2 q1
              have Q1 := hidr q1
              clear q1
              go_wp2_with (first | (go_at_call 34; refine (at_in s k hks _).mono ?_; rintro e w' ⟨rfl, rfl⟩) | (go_at_call 64; refine (blank_any s[k] _).mono ?_; rintro e w' ⟨rfl, rfl⟩; rw [hb]))
              go_round
              case rel => exact ⟨_, B ++ [s[k]], k + 1, rfl, by go_num, by omega, by simp; omega, Pm.one_cut F s B k hks hFB.out, hP.out.pix hks hb (Pm.okPix_of _ (.inr Q1.out)) (by have := SZ.out; omega)⟩
              case measure => simp [intOf]; omega
            · have b0 : ((s[k].toNat : Int) == 48) = false := beq_eq_false_iff_ne.2 q0
              have b1 : ((s[k].toNat : Int) == 49) = false := beq_eq_false_iff_ne.2 q1
              go_wp2_with (first | (go_at_call 34; refine (at_in s k hks _).mono ?_; rintro e w' ⟨rfl, rfl⟩) | (go_at_call 64; refine (blank_any s[k] _).mono ?_; rintro e w' ⟨rfl, rfl⟩; rw [hb]) | (go_at_call 35; refine (lacks_any s k hk _).mono ?_; rintro e w' ⟨rfl, rfl⟩))
              go_ret3
              exact ⟨⟨[], _, k, rfl, k, hP.out.out_no (by have := SZ.out; omega) (fun _ => ⟨hb, Pm.okPix_not _ q0 q1⟩), .inr ⟨lackE_ne _ _, rfl⟩⟩, rfl⟩
        · go_wp2_with (first | (go_at_call 34; refine (at_in s k hks _).mono ?_; rintro e w' ⟨rfl, rfl⟩) | (go_at_call 64; refine (blank_any s[k] _).mono ?_; rintro e w' ⟨rfl, rfl⟩; rw [hb]))
          go_round
          case rel => exact ⟨F, B, k + 1, rfl, by go_num, by omega, hF, hFB, hP.out.blank hks hb (by have := SZ.out; omega)⟩
          case measure => simp [intOf]; omega
      · go_wp2_with (first | (go_at_call 34; refine (at_out s k hks _).mono ?_; rintro e w' ⟨rfl, rfl⟩) | (go_at_call 64; refine (blank_zero _).mono ?_; rintro e w' ⟨rfl, rfl⟩) | (go_at_call 35; refine (lacks_any s k hk _).mono ?_; rintro e w' ⟨rfl, rfl⟩))
        go_ret3
        exact ⟨⟨[], _, k, rfl, k, hP.out.out_no (by have := SZ.out; omega) (fun h => absurd h hks), .inr ⟨lackE_ne _ _, rfl⟩⟩, rfl⟩
    · go_wp2
      go_ret3
      exact ⟨⟨B, 0, 0, by rw [← Pm.of_data F B hFB.out]; rfl, k, hP.out.out_yes (by have := SZ.out; omega), .inl ⟨rfl, rfl⟩⟩, rfl⟩
end Go.Proofs.YtljfiefobnncaabGreatDoor

/- unpackRow. -/
namespace Go.Proofs.YtljfiefobnncaabGreatDoor
open Go.RowKit

set_option maxRecDepth 4000 in
set_option maxHeartbeats 1000000 in
theorem unpackRow_any (s : ByteArray) (n : Nat) (h1 : 1 ≤ n) (hn : n ≤ 32) (hs : n ≤ 8 * s.size) (hs2 : s.size ≤ 1024) (w : World) :
    Calls Tryz.prog 115 #[.string s, .int .i64 n] w fun e w' => e = .returned (.string ⟨(Pm.rowTo s.data.toList 0 n).toArray⟩) ∧ Below w.heap.size w w' := by
  obtain ⟨i0, hi, hz0, hz1, hz2⟩ := info_parts infoByte
  go_enter Tryz.func115, Tryz.ntmps115
  go_wp2
  go_loopw [5, 6] (fun v x wr => ∃ (k : Nat), k ≤ n ∧ x = .int .i64 k ∧ wr.ownsRow w.heap.size 5 1 v k (cellsOf (Pm.rowTo s.data.toList 0 k)) ∧ Below w.heap.size w wr) (fun _ x _ => n - (intOf x).toNat)
  case atStart => exact ⟨0, by omega, rfl, World.ownsRow_nil _ _ _ _, Below.refl _ _⟩
  case round =>
    obtain ⟨k, hk, rfl, hown, hnx⟩ := hrel
    have hsz := hnx.size
    by_cases hlt : k < n
    · have hd : k / 8 < s.size := by omega
      have eb := Pm.bit_walk s[k / 8] (k % 8)
      have bl := Pm.bitOf_le s[k / 8] (k % 8)
      have PV : Hid ((Pm.pixAt s.data.toList 0 k).toNat = 48 + Pm.bitOf s[k / 8] (k % 8)) := by
        show _ = _
        rw [Pm.pixAt_toNat, Nat.zero_add, Pm.getD_at s (k / 8) hd]
      have hd2 : (k : Int) / 8 < (s.size : Int) := by omega
      have hd3 : 0 ≤ (k : Int) / 8 := by omega
      go_wp2_with (first
        | (at_builtin; refine wpList_append_own _ rfl _ _ 79 rfl w.heap.size 5 i0 (.int .u8 0) 1 1 Tryz.underlying79 hi hz0 hz1 hz2 rfl (by decide) _ _ _ rfl (hown.alloc _) ⟨_, 0, none⟩ 1 1 [.int .u8 ((48 + (Pm.bitOf s[k / 8] (k % 8) : Int)))] rfl rfl ?c1 ?c2 ?c3 ?c4 ?c5 ?_))
      case c1 =>
        intro j' u hj'
        match j', hj' with
        | 0, hj' => simp at hj'; subst hj'; simp [Addr.add]
      case c2 => intro u hu; simp at hu; subst hu; rfl
      case c3 => unfold maxLen; omega
      case c4 => omega
      case c5 => simp; omega
      · intro v' w1 hown' hgrow _
        have hb : Below w.heap.size w w1 := (hnx.alloc (by omega) _).grown hgrow (by simp; omega) (fun k hk => (hown.lt k hk).1)
        have ho : w1.ownsRow w.heap.size 5 1 v' (k + 1) (cellsOf (Pm.rowTo s.data.toList 0 (k + 1))) := by
          rw [Pm.rowTo_succ, cellsOf_snoc, PV.out]; exact hown'
        clear hown' hgrow hown
        go_wp2
        go_roundw
        case rel => exact ⟨k + 1, by omega, by go_num, ho, hb⟩
        case measure => simp [intOf]; omega
    · have hkn : Hid (k = n) := show k = n by omega
      have hk1 : 0 < k := by omega
      obtain ⟨l, hl⟩ : ∃ l, l = Pm.rowTo s.data.toList 0 k := ⟨_, rfl⟩
      have hll : l.length = k := by rw [hl, Pm.rowTo_length]
      rw [← hl] at hown
      have HL := hid hl
      clear hl
      rcases hown.2 with ⟨-, h0⟩ | ⟨g, cap, cur, rfl, -, -, -, -, -, -⟩
      · omega
      · subst hll
        have hcv := run_convert_bytes_back (P := Tryz.prog) wr 79 9 5 ⟨g, 0, none⟩ cap l Tryz.underlying79 Tryz.underlying5 Tryz.underlying9 (fun j hj => hown.cells (g := g) rfl j _ (by simp [cellsOf, hj]))
        go_wp2
        go_ret
        refine ⟨ret_string ?_, hnx⟩
        rw [← hkn.out, ← HL.out]
end Go.Proofs.YtljfiefobnncaabGreatDoor

/- readPacked. -/
namespace Go.Proofs.YtljfiefobnncaabGreatDoor
open Go.RowKit

theorem at_get (s : ByteArray) (k : Nat) (hk : k < s.size) : s.data.toList[k]? = some s[k] := by
  rw [List.getElem?_eq_getElem (by simpa using hk)]; rfl
theorem at_none (s : ByteArray) (k : Nat) (hk : ¬ k < s.size) : s.data.toList[k]? = none := by
  rw [List.getElem?_eq_none]; simpa using hk

set_option maxRecDepth 4000 in
set_option maxHeartbeats 1000000 in
theorem readPacked_any (s : ByteArray) (a W H : Nat) (ha : a ≤ s.size) (hs : s.size ≤ 140737488355328) (w1 : 1 ≤ W) (w2 : W ≤ 32) (h1 : 1 ≤ H) (h2 : H ≤ 32) (w : World) :
    Calls Tryz.prog 91 #[.string s, .int .i64 a, .int .i64 W, .int .i64 H] w fun e w' => (∃ (bits : List UInt8) (p : Nat) (r : Int), e = .returned (.tuple #[.string ⟨bits.toArray⟩, .int .i64 p, .int .i64 r]) ∧ Pm.packedOut s.data.toList a W H bits p r) ∧ Below w.heap.size w w' := by
  by_cases has : a < s.size
  · cases hb : Pm.blankB s[a]
    · go_enter Tryz.func91, Tryz.ntmps91
      go_wp2_with (first | (go_at_call 114; refine (isBlank_any s[a] _).mono ?_; rintro e w' ⟨rfl, rfl⟩; rw [hb]) | (go_at_call 109; refine (wrongAt_any s a _).mono ?_; rintro e w' ⟨rfl, rfl⟩))
      go_ret3
      exact ⟨⟨[], a, _, rfl, .inl ⟨fun c hc => by rw [at_get s a has] at hc; cases hc; exact hb, rfl, rfl, by simp⟩⟩, Below.refl _ _⟩
    · have BL := hidr (show ∃ c, s.data.toList[a]? = some c ∧ Pm.blankB c = true from ⟨_, at_get s a has, hb⟩)
      obtain ⟨r, hr⟩ : ∃ r, r = (W + 7) / 8 := ⟨_, rfl⟩
      have er : ((W : Int) + 7) / 8 = (r : Nat) := by omega
      have r1 : 1 ≤ r := by omega
      have r2 : r ≤ 4 := by omega
      have r3 : W ≤ 8 * r := by omega
      obtain ⟨t, ht⟩ : ∃ t, t = r * H := ⟨_, rfl⟩
      have et : (r : Int) * (H : Int) = (t : Nat) := by rw [ht]; simp
      have t2 : t ≤ 128 := by rw [ht]; exact Nat.mul_le_mul r2 h2
      have R := hidr hr
      have T := hidr ht
      clear hr ht
      by_cases hl : s.size < a + 1 + t
      · have hl2 : (s.size : Int) - ((a : Int) + 1) < (t : Int) := by omega
        go_enter Tryz.func91, Tryz.ntmps91
        go_wp2_with (first | (go_at_call 114; refine (isBlank_any s[a] _).mono ?_; rintro e w' ⟨rfl, rfl⟩; rw [hb]))
        go_ret3
        exact ⟨⟨[], s.size, _, rfl, .inr (.inl ⟨BL.out, by rw [← R.out, ← T.out]; simpa using hl, rfl, by simp, rfl⟩)⟩, Below.refl _ _⟩
      · have hl2 : decide ((s.size : Int) - ((a : Int) + 1) < (t : Int)) = false := decide_eq_false (by omega)
        have hl3 : decide (s.size ≤ a) = false := decide_eq_false (by omega)
        go_enter Tryz.func91, Tryz.ntmps91
        go_wp2_with (first | (go_at_call 114; refine (isBlank_any s[a] _).mono ?_; rintro e w' ⟨rfl, rfl⟩; rw [hb]))
        simp only [er]
        clear hl2 hl3 er et
        go_loopw [12, 1, 13] (fun f x i wr => ∃ (y p : Nat) (F : ByteArray), y ≤ H ∧ i = .int .i64 y ∧ x = .int .i64 p ∧ f = .string F ∧ Hid (p = a + 1 + y * r) ∧ Hid (F.data.toList = Pm.rowsTo s.data.toList (a + 1) r W y) ∧ F.size ≤ 32 * y ∧ Below w'.heap.size w' wr) (fun _ _ i _ => H - (intOf i).toNat)
        case atStart => exact ⟨0, a + 1, ⟨#[]⟩, by omega, rfl, by go_num, rfl, by show _ = _; omega, by show _ = _; simp [Pm.rowsTo], Nat.le_refl _, Below.refl _ _⟩
        case round =>
          obtain ⟨y, p, F, hy, rfl, rfl, rfl, hp, hF, hFs, hnx⟩ := hrel
          by_cases hlt : y < H
          · have sp : y * r + r ≤ t := by
              have := T.out
              have m := Nat.mul_le_mul_right r (Nat.succ_le_of_lt hlt)
              rw [Nat.succ_mul, Nat.mul_comm H r] at m
              omega
            have hp2 : p + r ≤ s.size := by have := hp.out; omega
            have he : (s.extract p (p + r)).size = r := by simp; omega
            have HE := hidr he
            have C := hidr (unpackRow_any (s.extract p (p + r)) W w1 w2 (by rw [he]; omega) (by rw [he]; omega))
            have RC := hidr (Pm.rowTo_cut s p (p + r) W (by omega))
            have RL := Pm.rowTo_length s.data.toList p W
            have RLL : (Pm.rowTo s.data.toList p W).length ≤ 32 := by omega
            clear he sp RL
            go_wp2_with fail
            refine (C.out _).mono ?_
            rintro e w3 ⟨rfl, hb3⟩
            rw [RC.out]
            have hnx2 := hnx.trans (hb3.mono hnx.size)
            clear hb3
            go_wp2
            go_roundw
            case rel =>
              refine ⟨y + 1, p + r, _, by omega, by go_num, by go_num, rfl, ?_, ?_, ?_, hnx2⟩
              · show _ = _
                have := hp.out
                rw [Nat.succ_mul]; omega
              · show _ = _
                rw [Pm.rowsTo_succ, ← hF.out, ← hp.out]; simp
              · simp only [ByteArray.size_append]
                show F.size + (Pm.rowTo s.data.toList p W).length ≤ _
                omega
            case measure => simp [intOf]; omega
          · go_wp2
            go_ret3
            have hyH : y = H := by omega
            refine ⟨⟨Pm.rowsTo s.data.toList (a + 1) r W H, p, 0, ?_, .inr (.inr ⟨BL.out, ?_, by rw [← R.out], ?_, rfl⟩)⟩, hnx⟩
            · rw [← hyH, ← Pm.of_data F _ hF.out]; rfl
            · rw [← R.out, ← T.out]; simp; omega
            · rw [← R.out, ← T.out, hp.out, hyH, T.out, Nat.mul_comm]
  · go_enter Tryz.func91, Tryz.ntmps91
    go_wp2_with (first | (go_at_call 109; refine (wrongAt_any s a _).mono ?_; rintro e w' ⟨rfl, rfl⟩))
    go_ret3
    exact ⟨⟨[], a, _, rfl, .inl ⟨fun c hc => (by rw [at_none s a has] at hc; cases hc), rfl, rfl, by simp⟩⟩, Below.refl _ _⟩
end Go.Proofs.YtljfiefobnncaabGreatDoor

/- The document's own packed. -/
namespace Go.Proofs.YtljfiefobnncaabGreatDoor
open Go.RowKit

theorem at_in_i (s : ByteArray) (i : Int) (a : Nat) (hi : i = (a : Int)) (ha : a < s.size) (w : World) :
    Calls Tryz.prog 34 #[.string s, .int .i64 i] w fun e w' => e = .returned (.tuple #[.int .u8 s[a].toNat, .bool true]) ∧ w' = w := by
  subst hi; exact at_in s a ha w
theorem at_out_i (s : ByteArray) (i : Int) (a : Nat) (hi : i = (a : Int)) (ha : ¬ a < s.size) (w : World) :
    Calls Tryz.prog 34 #[.string s, .int .i64 i] w fun e w' => e = .returned (.tuple #[.int .u8 0, .bool false]) ∧ w' = w := by
  subst hi; exact at_out s a ha w
theorem itoa_i (i : Int) (n : Nat) (hi : i = (n : Int)) (h : n < 33) (w : World) :
    Calls Tryz.prog 41 #[.int .i64 i] w fun e w' => e = .returned (.string ⟨(Pm.itoaL n).toArray⟩) ∧ w' = w := by
  subst hi; exact itoa_any n h w

theorem wrap64_byte (c : UInt8) : wrap64 (c.toNat : Int) = (c.toNat : Int) := by
  have := c.toNat_lt
  unfold wrap64; omega

set_option maxRecDepth 4000 in
set_option maxHeartbeats 2000000 in
theorem packed_any (s : ByteArray) (a W H : Nat) (ha : a ≤ s.size) (hs : s.size ≤ 140737488355328) (w1 : 1 ≤ W) (w2 : W ≤ 32) (h1 : 1 ≤ H) (h2 : H ≤ 32) (w : World) :
    Calls Tryz.prog 38 #[.string s, .int .i64 a, .int .i64 W, .int .i64 H] w fun e w' => (∃ (bits : List UInt8) (r : Int) (q : Nat), e = .returned (.tuple #[.string ⟨bits.toArray⟩, .int .i64 r, .int .i64 q]) ∧ bitsRef (Pm.packedOut s.data.toList a W H) bits r q) ∧ w' = w := by
  by_cases has : a < s.size
  · cases hb : Pm.blankB s[a]
    · go_enter Tryz.func38, Tryz.ntmps38
      go_wp2_with (first | (go_at_call 34; refine (at_in s a has _).mono ?_; rintro e w' ⟨rfl, rfl⟩) | (go_at_call 64; refine (blank_any s[a] _).mono ?_; rintro e w' ⟨rfl, rfl⟩; rw [hb]) | (go_at_call 35; refine (lacks_any s a ha _).mono ?_; rintro e w' ⟨rfl, rfl⟩))
      go_ret3
      exact ⟨⟨[], _, a, rfl, a, .inl ⟨fun c hc => (by rw [at_get s a has] at hc; cases hc; exact hb), rfl, rfl, by simp⟩, .inr ⟨lackE_ne _ _, rfl⟩⟩, rfl⟩
    · have BL := hidr (show ∃ c, s.data.toList[a]? = some c ∧ Pm.blankB c = true from ⟨_, at_get s a has, hb⟩)
      obtain ⟨r, hr⟩ : ∃ r, r = (W + 7) / 8 := ⟨_, rfl⟩
      have er : ((W : Int) + 7) / 8 = (r : Nat) := by omega
      have r1 : 1 ≤ r := by omega
      have r2 : r ≤ 4 := by omega
      have R := hidr hr
      clear hr
      go_enter Tryz.func38, Tryz.ntmps38
      go_wp2_with (first | (go_at_call 34; refine (at_in s a has _).mono ?_; rintro e w' ⟨rfl, rfl⟩) | (go_at_call 64; refine (blank_any s[a] _).mono ?_; rintro e w' ⟨rfl, rfl⟩; rw [hb]))
      simp only [er]
      clear er
      go_loop [17, 18] (fun f i => ∃ (y : Nat) (F : ByteArray), y ≤ H ∧ i = .int .i64 y ∧ f = .string F ∧ Hid (F.data.toList = Pm.rowsTo s.data.toList (a + 1) r W y) ∧ F.size ≤ 32 * y ∧ Hid (a + 1 + y * r ≤ s.size)) (fun _ i => H - (intOf i).toNat)
      case atStart => exact ⟨0, ⟨#[]⟩, by omega, rfl, rfl, by show _ = _; simp [Pm.rowsTo], Nat.le_refl _, by show _ ≤ _; omega⟩
      case round =>
        obtain ⟨y, F, hy, rfl, rfl, hF, hFs, hZ⟩ := hrel
        by_cases hlt : y < H
        · obtain ⟨q, hq⟩ : ∃ q, q = y * r := ⟨_, rfl⟩
          have eq1 : (y : Int) * (r : Int) = (q : Nat) := by rw [hq]; simp
          have q2 : q ≤ 128 := by rw [hq]; exact Nat.mul_le_mul (show y ≤ 32 by omega) r2
          have Q := hidr hq
          clear hq
          go_wp2
          go_loop [17, 19] (fun f i => ∃ (x : Nat) (G : ByteArray), x ≤ W ∧ i = .int .i64 x ∧ f = .string G ∧ Hid (G.data.toList = Pm.rowsTo s.data.toList (a + 1) r W y ++ Pm.rowTo s.data.toList (a + 1 + q) x) ∧ G.size ≤ 32 * y + 2 * x ∧ Hid (x = 0 ∨ a + 1 + q + (x - 1) / 8 < s.size)) (fun _ i => W - (intOf i).toNat)
          case atStart => exact ⟨0, F, by omega, rfl, rfl, by show _ = _; simpa [Pm.rowTo] using hF.out, by omega, .inl rfl⟩
          case round =>
            obtain ⟨x, G, hx, rfl, rfl, hG, hGs, hZ2⟩ := hrel
            by_cases hxw : x < W
            · obtain ⟨k, hk⟩ : ∃ k, k = a + 1 + q + x / 8 := ⟨_, rfl⟩
              have ek : (a : Int) + 1 + (q : Int) + (x : Int) / 8 = (k : Nat) := by omega
              have K := hidr hk
              have kb : k ≤ 140737488365328 := by omega
              clear hk
              by_cases hks : k < s.size
              · obtain ⟨m, hm⟩ : ∃ m, m = x % 8 := ⟨_, rfl⟩
                have em : (x : Int) % 8 = (m : Nat) := by omega
                have m7 : m ≤ 7 := by omega
                have M := hidr hm
                clear hm
                go_wp2_with (first | (go_at_call 34; refine (at_in_i s _ k (by omega) hks _).mono ?_; rintro e w' ⟨rfl, rfl⟩))
                simp only [em, wrap64_byte]
                clear em
                obtain ⟨c, hc⟩ : ∃ c, c = s[k].toNat := ⟨_, rfl⟩
                have CB := hidr hc
                have cb : c ≤ 255 := by have := s[k].toNat_lt; omega
                clear hc
                go_loop [21, 22] (fun v i => ∃ (z u : Nat), m ≤ z ∧ z ≤ 7 ∧ i = .int .i64 z ∧ v = .int .i64 u ∧ u ≤ 255 ∧ Hid (u = c / 2 ^ (z - m))) (fun _ i => 8 - (intOf i).toNat)
                case atStart => exact ⟨m, c, by omega, by omega, rfl, by rw [CB.out], by omega, by show _ = _; simp⟩
                case round =>
                  obtain ⟨z, u, hz1, hz2, rfl, rfl, hu, hU⟩ := hrel
                  by_cases hz7 : z < 7
                  · have E := hidr (Pm.half_step c z m hz1)
                    go_wp2
                    go_round
                    case rel => exact ⟨z + 1, u / 2, by omega, by omega, by go_num, by go_num, by omega, by show _ = _; rw [hU.out, E.out]⟩
                    case measure => simp [intOf]; omega
                  · have UE := hidr (show u = s[k].toNat / 2 ^ (7 - x % 8) by rw [hU.out, ← M.out, ← CB.out, show z = 7 from by omega])
                    have D := hidr (Pm.pix_data s G _ (a + 1 + q) x k u hG.out hks K.out UE.out)
                    have LN := Pm.itoaL_len (u % 2)
                    go_wp2_with (first | (go_at_call 41; refine (itoa_i _ (u % 2) (by omega) (by omega) _).mono ?_; rintro e w' ⟨rfl, rfl⟩))
                    go_round
                    case rel => exact ⟨x + 1, _, by omega, by go_num, rfl, D, by simp only [ByteArray.size_append]; show G.size + (Pm.itoaL (u % 2)).length ≤ _; omega, .inr (by show _ < _; rw [show x + 1 - 1 = x from by omega, ← K.out]; exact hks)⟩
                    case measure => simp [intOf]; omega
              · go_wp2_with (first | (go_at_call 34; refine (at_out_i s _ k (by omega) hks _).mono ?_; rintro e w' ⟨rfl, rfl⟩))
                go_ret3
                refine ⟨⟨[], 2, s.size, rfl, s.size, .inr (.inl ⟨BL.out, ?_, rfl, by simp, rfl⟩), .inr ⟨by omega, rfl⟩⟩, rfl⟩
                have e1 := K.out
                have e2 := Q.out
                have e3 := R.out
                have m := Nat.mul_le_mul_right r (Nat.succ_le_of_lt hlt)
                rw [Nat.succ_mul, Nat.mul_comm H r] at m
                rw [← R.out]
                simp only [Array.length_toList]
                show s.size < _
                omega
            · have hxW : x = W := by omega
              have LAST := hidr (show a + 1 + (y + 1) * r ≤ s.size by
                have e2 := Q.out
                have e3 := R.out
                rw [Nat.succ_mul]
                rcases hZ2.out with h | h <;> omega)
              have DD := hidr (show G.data.toList = Pm.rowsTo s.data.toList (a + 1) r W (y + 1) by rw [Pm.rowsTo_succ, hG.out, Q.out, hxW])
              clear hxW
              have GL := Pm.rowsTo_length s.data.toList (a + 1) r W (y + 1)
              have GS := Pm.size_of_data G _ DD.out
              have GB : G.size ≤ 32 * (y + 1) := by rw [GS, GL, Nat.mul_comm]; exact Nat.mul_le_mul_right _ w2
              clear GL GS
              go_wp2
              go_round
              case rel => exact ⟨y + 1, G, by omega, by go_num, rfl, DD, GB, LAST⟩
              case measure => simp [intOf]; omega
        · go_wp2
          go_ret3
          have hyH : y = H := by omega
          refine ⟨⟨Pm.rowsTo s.data.toList (a + 1) r W H, 0, 0, ?_, _, .inr (.inr ⟨BL.out, ?_, by rw [← R.out], rfl, rfl⟩), .inl ⟨rfl, rfl⟩⟩, rfl⟩
          · rw [← hyH, ← Pm.of_data F _ hF.out]; rfl
          · have := hZ.out
            rw [← R.out, Nat.mul_comm r H, ← hyH]; simpa using this
  · go_enter Tryz.func38, Tryz.ntmps38
    go_wp2_with (first | (go_at_call 34; refine (at_out s a has _).mono ?_; rintro e w' ⟨rfl, rfl⟩) | (go_at_call 64; refine (blank_zero _).mono ?_; rintro e w' ⟨rfl, rfl⟩) | (go_at_call 35; refine (lacks_any s a ha _).mono ?_; rintro e w' ⟨rfl, rfl⟩))
    go_ret3
    exact ⟨⟨[], _, a, rfl, a, .inl ⟨fun c hc => (by rw [at_none s a has] at hc; cases hc), rfl, rfl, by simp⟩, .inr ⟨lackE_ne _ _, rfl⟩⟩, rfl⟩
end Go.Proofs.YtljfiefobnncaabGreatDoor

/- readPlain, plain. -/
namespace Go.Proofs.YtljfiefobnncaabGreatDoor
open Go.RowKit

set_option maxRecDepth 4000 in
set_option maxHeartbeats 1000000 in
theorem readPlain_any (s : ByteArray) (a n : Nat) (ha : a ≤ s.size) (hs : s.size ≤ 140737488355328) (h1 : 1 ≤ n) (hn : n ≤ 1024) (w : World) :
    Calls Tryz.prog 90 #[.string s, .int .i64 a, .int .i64 n] w fun e w' => (∃ (bits : List UInt8) (p : Nat) (r : Int), e = .returned (.tuple #[.string ⟨bits.toArray⟩, .int .i64 p, .int .i64 r]) ∧ Pm.plainOut s.data.toList a n bits p r) ∧ Below w.heap.size w w' := by
  obtain ⟨i0, hi, hz0, hz1, hz2⟩ := info_parts infoByte
  go_enter Tryz.func90, Tryz.ntmps90
  go_wp2
  go_loopw [9, 10, 1] (fun v i x wr => ∃ (B : List UInt8) (k : Nat), i = .int .i64 B.length ∧ x = .int .i64 k ∧ k ≤ s.size ∧ B.length ≤ n ∧ Hid (Pm.PlainAt s.data.toList a n B k) ∧ wr.ownsRow w.heap.size 5 1 v B.length (cellsOf B) ∧ Below w.heap.size w wr) (fun _ i _ _ => n - (intOf i).toNat)
  case atStart => exact ⟨[], a, rfl, rfl, ha, by simp, Pm.PlainAt.start _ _ _ (by simpa using ha), World.ownsRow_nil _ _ _ _, Below.refl _ _⟩
  case round =>
    obtain ⟨B, k, rfl, rfl, hk, hB, hP, hown, hnx⟩ := hrel
    have hsz := hnx.size
    by_cases hlt : B.length < n
    · obtain ⟨j, hj⟩ : ∃ j, j = k + Pm.blanks (s.data.toList.drop k) := ⟨_, rfl⟩
      have hjs : j ≤ s.size := by
        have := Pm.blanks_le (s.data.toList.drop k)
        rw [List.length_drop] at this
        have e : s.data.toList.length = s.size := by simp
        omega
      have P2 := hidr (hP.out.skip hlt _ k rfl |> (hj ▸ ·))
      have NB : Hid (∀ h : j < s.size, Pm.blankB s[j] = false) := by subst hj; exact Pm.blanks_stop s _ k rfl
      have c := skipBlanks_any s k hk hs
      rw [← hj] at c
      have C := hidr c
      clear c hj hP
      by_cases hj2 : j < s.size
      · by_cases q0 : (s[j].toNat : Int) = 48
        · have b0 : ((s[j].toNat : Int) != 48) = false := by simp [q0]
          have Q0 := hidr q0
          clear q0
          go_wp2_with (first
            | (go_at_call 113; refine (C.out _).mono ?_; rintro e w' ⟨rfl, rfl⟩)
            | (at_builtin; refine wpList_append_own _ rfl _ _ 79 rfl w.heap.size 5 i0 (.int .u8 0) 1 1 Tryz.underlying79 hi hz0 hz1 hz2 rfl (by decide) _ _ _ rfl (hown.alloc _) ⟨_, 0, none⟩ 1 1 [.int .u8 s[j].toNat] rfl rfl ?c1 ?c2 ?c3 ?c4 ?c5 ?_))
          case c1 =>
            intro j' u hj'
            match j', hj' with
            | 0, hj' => simp at hj'; subst hj'; simp [Addr.add]
          case c2 => intro u hu; simp at hu; subst hu; rfl
          case c3 => unfold maxLen; omega
          case c4 => omega
          case c5 => simp; omega
          · intro v' w1 hown' hgrow _
            have hb : Below w.heap.size w w1 := (hnx.alloc (by omega) _).grown hgrow (by simp; omega) (fun k hk => (hown.lt k hk).1)
            have ho : w1.ownsRow w.heap.size 5 1 v' (B ++ [s[j]]).length (cellsOf (B ++ [s[j]])) := by rw [cellsOf_snoc, List.length_append]; exact hown'
            clear hown' hgrow hown
            go_wp2
            go_roundw
            case rel => exact ⟨B ++ [s[j]], j + 1, by simp, by go_num, by omega, by simp; omega, P2.out.pix hj2 (NB.out hj2) (Pm.okPix_of _ (.inl Q0.out)) hlt, ho, hb⟩
            case measure => simp [intOf]; omega
        · by_cases q1 : (s[j].toNat : Int) = 49
          · have b0 : ((s[j].toNat : Int) != 48) = true := bne_iff_ne.2 q0
            have b1 : ((s[j].toNat : Int) != 49) = false := by simp [q1]
            have Q1 := hidr q1
            clear q1
            go_wp2_with (first
              | (go_at_call 113; refine (C.out _).mono ?_; rintro e w' ⟨rfl, rfl⟩)
              | (at_builtin; refine wpList_append_own _ rfl _ _ 79 rfl w.heap.size 5 i0 (.int .u8 0) 1 1 Tryz.underlying79 hi hz0 hz1 hz2 rfl (by decide) _ _ _ rfl (hown.alloc _) ⟨_, 0, none⟩ 1 1 [.int .u8 s[j].toNat] rfl rfl ?c1 ?c2 ?c3 ?c4 ?c5 ?_))
            case c1 =>
              intro j' u hj'
              match j', hj' with
              | 0, hj' => simp at hj'; subst hj'; simp [Addr.add]
            case c2 => intro u hu; simp at hu; subst hu; rfl
            case c3 => unfold maxLen; omega
            case c4 => omega
            case c5 => simp; omega
            · intro v' w1 hown' hgrow _
              have hb : Below w.heap.size w w1 := (hnx.alloc (by omega) _).grown hgrow (by simp; omega) (fun k hk => (hown.lt k hk).1)
              have ho : w1.ownsRow w.heap.size 5 1 v' (B ++ [s[j]]).length (cellsOf (B ++ [s[j]])) := by rw [cellsOf_snoc, List.length_append]; exact hown'
              clear hown' hgrow hown
              go_wp2
              go_roundw
              case rel => exact ⟨B ++ [s[j]], j + 1, by simp, by go_num, by omega, by simp; omega, P2.out.pix hj2 (NB.out hj2) (Pm.okPix_of _ (.inr Q1.out)) hlt, ho, hb⟩
              case measure => simp [intOf]; omega
          · have b0 : ((s[j].toNat : Int) != 48) = true := bne_iff_ne.2 q0
            have b1 : ((s[j].toNat : Int) != 49) = true := bne_iff_ne.2 q1
            go_wp2_with (first | (go_at_call 113; refine (C.out _).mono ?_; rintro e w' ⟨rfl, rfl⟩) | (go_at_call 109; refine (wrongAt_any s j _).mono ?_; rintro e w' ⟨rfl, rfl⟩))
            go_ret3
            exact ⟨⟨[], j, _, rfl, P2.out.out_no hlt (fun h => ⟨NB.out h, Pm.okPix_not _ q0 q1⟩)⟩, hnx⟩
      · go_wp2_with (first | (go_at_call 113; refine (C.out _).mono ?_; rintro e w' ⟨rfl, rfl⟩) | (go_at_call 109; refine (wrongAt_any s j _).mono ?_; rintro e w' ⟨rfl, rfl⟩))
        go_ret3
        exact ⟨⟨[], j, _, rfl, P2.out.out_no hlt (fun h => absurd h hj2)⟩, hnx⟩
    · have hBn : Hid (B.length = n) := show B.length = n by omega
      have hB1 : 0 < B.length := by omega
      rcases hown.2 with ⟨-, h0⟩ | ⟨g, cap, cur, rfl, -, -, -, -, -, -⟩
      · omega
      · have hcv := run_convert_bytes_back (P := Tryz.prog) wr 79 9 5 ⟨g, 0, none⟩ cap B Tryz.underlying79 Tryz.underlying5 Tryz.underlying9 (fun j hj => hown.cells (g := g) rfl j _ (by simp [cellsOf, hj]))
        go_wp2
        go_ret3
        exact ⟨⟨B, k, 0, rfl, hP.out.out_yes hBn.out⟩, hnx⟩
end Go.Proofs.YtljfiefobnncaabGreatDoor
