/- Plain facts on whole files. -/
import Derived.Test.YtljfiefobnncaaaPm
namespace Go.Proofs.Ytljfiefobnncaaa.Pm
theorem itoaL_len (n : Nat) : 1 ≤ (itoaL n).length ∧ (itoaL n).length ≤ 2 := by unfold itoaL; split <;> simp
/-- What stands ahead of the pixels. -/
def headL (w h : Nat) : List UInt8 := [80, 52, 10] ++ itoaL w ++ [32] ++ itoaL h ++ [10]
/-- Row y of the pixels. -/
def rowOf (l : List UInt8) (w y : Nat) : List UInt8 := (l.drop (y * w)).take w
/-- The file as far as its first y rows. -/
def writeTo (w h : Nat) (l : List UInt8) (y : Nat) : List UInt8 := headL w h ++ (List.range y).flatMap fun y => packRow (rowOf l w y)
theorem writeTo_succ (w h : Nat) (l : List UInt8) (y : Nat) : writeTo w h l (y + 1) = writeTo w h l y ++ packRow (rowOf l w y) := by
  simp [writeTo, List.range_succ]
theorem rowOf_len (l : List UInt8) (w h y : Nat) (hl : l.length = w * h) (hy : y < h) : (rowOf l w y).length = w := by
  have : (y + 1) * w ≤ w * h := by rw [Nat.mul_comm w h]; exact Nat.mul_le_mul_right _ hy
  rw [Nat.add_mul] at this
  simp only [rowOf, List.length_take, List.length_drop]; omega
theorem packRow_len (l : List UInt8) : (packRow l).length = (l.length + 7) / 8 := by simp [packRow, packTo_length]
theorem extract_row (s : ByteArray) (w y a b : Nat) (ha : a = y * w) (hb : b = (y + 1) * w) : (s.extract a b).data.toList = rowOf s.data.toList w y := by
  subst ha hb
  simp only [ByteArray.data_extract, Array.toList_extract, List.extract_eq_take_drop, rowOf]
  congr 1
  rw [Nat.add_mul]; omega
theorem span (w h y : Nat) (hy : y < h) : (y + 1) * w ≤ w * h ∧ y * w + w = (y + 1) * w := by
  refine ⟨?_, by rw [Nat.add_mul]; omega⟩
  rw [Nat.mul_comm w h]; exact Nat.mul_le_mul_right _ hy
theorem area_nat (w h : Nat) (h1 : w ≤ 32) (h2 : h ≤ 32) : w * h ≤ 1024 := Nat.mul_le_mul h1 h2
theorem head_data (w h : Nat) {l : List UInt8} : ((⟨#[80, 52, 10]⟩ : ByteArray) ++ ⟨(itoaL w).toArray⟩ ++ ⟨#[32]⟩ ++ ⟨(itoaL h).toArray⟩ ++ ⟨#[10]⟩).data.toList = writeTo w h l 0 := by
  simp [writeTo, headL]
theorem head_size (w h : Nat) : ((⟨#[80, 52, 10]⟩ : ByteArray) ++ ⟨(itoaL w).toArray⟩ ++ ⟨#[32]⟩ ++ ⟨(itoaL h).toArray⟩ ++ ⟨#[10]⟩).size ≤ 20 + 4 * 0 := by
  have := itoaL_len w
  have := itoaL_len h
  simp only [ByteArray.size_append]
  show 3 + (itoaL w).length + 1 + (itoaL h).length + 1 ≤ _
  omega
theorem step_data (F : ByteArray) (w h y : Nat) (l : List UInt8) (hF : F.data.toList = writeTo w h l y) : (F ++ ⟨(packRow (rowOf l w y)).toArray⟩).data.toList = writeTo w h l (y + 1) := by
  rw [writeTo_succ, ← hF]; simp
theorem step_size (F : ByteArray) (p : List UInt8) (n : Nat) (h : F.size ≤ 20 + 4 * n) (hp : p.length ≤ 4) : (F ++ ⟨p.toArray⟩).size ≤ 20 + 4 * (n + 1) := by
  simp only [ByteArray.size_append]
  show F.size + p.length ≤ _
  omega
theorem of_data (F : ByteArray) (l : List UInt8) (h : F.data.toList = l) : F = ⟨l.toArray⟩ := by subst h; simp
/-- Is the pixel black? -/
def blackB (w h : Nat) (l : List UInt8) (x y : Int) : Bool := decide (0 ≤ x ∧ 0 ≤ y ∧ x < w ∧ y < h) && bitAt l (y * w + x).toNat
theorem blackB_out (w h : Nat) (l : List UInt8) (x y : Int) (hx : ¬ (0 ≤ x ∧ 0 ≤ y ∧ x < w ∧ y < h)) : blackB w h l x y = false := by simp only [blackB, decide_eq_false hx, Bool.false_and]
theorem blackB_in (w h : Nat) (l : List UInt8) (x y : Nat) (hx : x < w) (hy : y < h) (a : Nat) (ha : a = y * w) : blackB w h l x y = bitAt l (a + x) := by
  have : decide ((0 : Int) ≤ x ∧ (0 : Int) ≤ y ∧ (x : Int) < w ∧ (y : Int) < h) = true := decide_eq_true (by omega)
  simp only [blackB, this, Bool.true_and]
  congr 1
  subst ha
  have e : (y : Int) * (w : Int) + (x : Int) = ((y * w + x : Nat) : Int) := by simp
  rw [e, Int.toNat_natCast]
theorem black_row (w h : Nat) (l : List UInt8) (x y : Nat) (hy : y < h) : bitAt (rowOf l w y) x = blackB w h l x y := by
  by_cases hx : x < w
  · rw [blackB_in w h l x y hx hy _ rfl]
    simp only [bitAt, rowOf, List.getElem?_take, if_pos hx, List.getElem?_drop]
  · rw [blackB_out w h l x y (by omega)]
    simp only [bitAt, rowOf, List.getElem?_take, if_neg hx]; rfl
/-- The first k pixels of byte m of row y, as a number. -/
def colV (w h : Nat) (l : List UInt8) (m y k : Nat) : Nat := packV (fun i => blackB w h l (8 * (m : Int) + (i : Nat)) y) k
theorem colV_lt (w h : Nat) (l : List UInt8) (m y k : Nat) (hk : k < 8) : colV w h l m y k ≤ 127 := packV_le' _ k hk
theorem colV_le (w h : Nat) (l : List UInt8) (m y k : Nat) (hk : k ≤ 8) : colV w h l m y k ≤ 255 := packV_le _ k hk
theorem colV_yes (w h : Nat) (l : List UInt8) (m y k : Nat) (hb : blackB w h l (8 * (m : Int) + (k : Nat)) y = true) : colV w h l m y (k + 1) = 2 * colV w h l m y k + 1 := packV_yes _ k hb
theorem colV_no (w h : Nat) (l : List UInt8) (m y k : Nat) (hb : blackB w h l (8 * (m : Int) + (k : Nat)) y = false) : colV w h l m y (k + 1) = 2 * colV w h l m y k := packV_no _ k hb
theorem byte_row (w h : Nat) (l : List UInt8) (m y : Nat) (hy : y < h) : colV w h l m y 8 = (byteAt (rowOf l w y) (8 * m)).toNat := by
  rw [byteAt_toNat, colV]
  apply packV_congr
  intro i _
  rw [black_row w h l (8 * m + i) y hy]
  simp
theorem mid_data (G : ByteArray) (p r : List UInt8) (m : Nat) (h : G.data.toList = p ++ packTo r m) : (G ++ ⟨#[byteAt r (8 * m)]⟩).data.toList = p ++ packTo r (m + 1) := by
  simp [packTo_succ, h]
theorem mid_end (w h : Nat) (l : List UInt8) (y m : Nat) (hl : l.length = w * h) (hy : y < h) (h1 : 8 * m ≤ w + 7) (h2 : w ≤ 8 * m) : writeTo w h l y ++ packTo (rowOf l w y) m = writeTo w h l (y + 1) := by
  rw [writeTo_succ, packRow, rowOf_len l w h y hl hy, show m = (w + 7) / 8 from by omega]
theorem one_size (G : ByteArray) (b : UInt8) (n : Nat) (h : G.size ≤ n) : (G ++ ⟨#[b]⟩).size ≤ n + 1 := by
  simp only [ByteArray.size_append]
  show G.size + 1 ≤ _
  omega
theorem goodB_parts {w h : Int} {l : List UInt8} (hg : goodB w h l = true) : ∃ a b : Nat, w = (a : Int) ∧ h = (b : Int) ∧ 1 ≤ a ∧ a ≤ 32 ∧ 1 ≤ b ∧ b ≤ 32 ∧ l.length = a * b := by
  simp only [goodB, Bool.and_eq_true, decide_eq_true_eq] at hg
  obtain ⟨⟨⟨h1, h2⟩, h3⟩, -⟩ := hg
  have b1 := sideB_bounds h1
  have b2 := sideB_bounds h2
  obtain ⟨a, rfl⟩ := Int.eq_ofNat_of_zero_le (show 0 ≤ w by omega)
  obtain ⟨b, rfl⟩ := Int.eq_ofNat_of_zero_le (show 0 ≤ h by omega)
  refine ⟨a, b, rfl, rfl, by omega, by omega, by omega, by omega, ?_⟩
  rw [← Int.natCast_mul] at h3
  exact Int.ofNat.inj h3
end Go.Proofs.Ytljfiefobnncaaa.Pm
