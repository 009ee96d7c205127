import Derived.WalkKit

/- Plain facts on bytes and lists for the bitmap files: nothing of the program stands here. -/
namespace Go.Proofs.YtljfiefobnncaaaDoor.Pm

/-- May the byte stand for a pixel? -/
def okPix (c : UInt8) : Bool := c == 48 || c == 49
/-- May the number be a side? -/
def sideB (n : Int) : Bool := decide (1 ≤ n ∧ n ≤ 32)
theorem sideB_yes {n : Int} (h1 : 1 ≤ n) (h2 : n ≤ 32) : sideB n = true := decide_eq_true ⟨h1, h2⟩
theorem sideB_low {n : Int} (h1 : ¬ 1 ≤ n) : sideB n = false := decide_eq_false (by omega)
theorem sideB_high {n : Int} (h1 : ¬ n ≤ 32) : sideB n = false := decide_eq_false (by omega)
theorem sideB_bounds {n : Int} (h : sideB n = true) : 1 ≤ n ∧ n ≤ 32 := of_decide_eq_true h
theorem area_le {w h : Int} (h1 : 1 ≤ w) (h2 : w ≤ 32) (h3 : 1 ≤ h) (h4 : h ≤ 32) : 1 ≤ w * h ∧ w * h ≤ 1024 := by
  have a : 1 * 1 ≤ w * h := Int.mul_le_mul h1 h3 (by omega) (by omega)
  have b : w * h ≤ 32 * 32 := Int.mul_le_mul h2 h4 (by omega) (by omega)
  omega
/-- Are W, H, s a bitmap? -/
def goodB (w h : Int) (s : List UInt8) : Bool := sideB w && sideB h && decide ((s.length : Int) = w * h) && s.all okPix
theorem goodB_w {w h : Int} {s : List UInt8} (h1 : sideB w = false) : goodB w h s = false := by simp [goodB, h1]
theorem goodB_h {w h : Int} {s : List UInt8} (h1 : sideB h = false) : goodB w h s = false := by simp [goodB, h1]
theorem goodB_len {w h : Int} {s : List UInt8} (h1 : ¬ (s.length : Int) = w * h) : goodB w h s = false := by simp [goodB, h1]
theorem goodB_pix {w h : Int} {s : List UInt8} (k : Nat) (hk : k < s.length) (h1 : okPix s[k] = false) : goodB w h s = false := by
  have : s.all okPix = false := by
    rw [List.all_eq_false]; exact ⟨s[k], List.getElem_mem hk, by simp [h1]⟩
  simp [goodB, this]
theorem goodB_yes {w h : Int} {s : List UInt8} (h1 : sideB w = true) (h2 : sideB h = true) (h3 : (s.length : Int) = w * h) (h4 : s.all okPix = true) : goodB w h s = true := by simp [goodB, h1, h2, h3, h4]
theorem all_take_succ (s : List UInt8) (k : Nat) (hk : k < s.length) (h : (s.take k).all okPix = true) (h1 : okPix s[k] = true) : (s.take (k + 1)).all okPix = true := by
  rw [List.take_succ_eq_append_getElem hk]; simp only [List.all_append, h, List.all_cons, h1, List.all_nil, Bool.and_self]
theorem okPix_of (c : UInt8) (h : (c.toNat : Int) = 48 ∨ (c.toNat : Int) = 49) : okPix c = true := by
  have e : ∀ c : UInt8, c.toNat = 48 ∨ c.toNat = 49 → okPix c = true := by
    intro c h
    rcases h with h | h
    · have : c = 48 := UInt8.toNat_inj.1 h
      subst this; rfl
    · have : c = 49 := UInt8.toNat_inj.1 h
      subst this; rfl
  exact e c (by omega)
theorem okPix_not (c : UInt8) (h1 : ¬ (c.toNat : Int) = 48) (h2 : ¬ (c.toNat : Int) = 49) : okPix c = false := by
  have a : c ≠ 48 := fun e => h1 (by subst e; rfl)
  have b : c ≠ 49 := fun e => h2 (by subst e; rfl)
  simp [okPix, a, b]
theorem all_step (s : ByteArray) (k : Nat) (hk : k < s.size) (h : (s.data.toList.take k).all okPix = true) (h1 : (s[k].toNat : Int) = 48 ∨ (s[k].toNat : Int) = 49) : (s.data.toList.take (k + 1)).all okPix = true :=
  all_take_succ s.data.toList k (by simpa using hk) h (okPix_of _ h1)
theorem goodB_bad {w h : Int} (s : ByteArray) (k : Nat) (hk : k < s.size) (h1 : ¬ (s[k].toNat : Int) = 48) (h2 : ¬ (s[k].toNat : Int) = 49) : goodB w h s.data.toList = false :=
  goodB_pix k (by simpa using hk) (okPix_not _ h1 h2)
/-- Is there a '1' at place i? -/
def bitAt (l : List UInt8) (i : Nat) : Bool := l[i]? == some 49
/-- The first n bits of f, as a number, the first of them the highest. -/
def packV (f : Nat → Bool) : Nat → Nat
  | 0 => 0
  | n + 1 => 2 * packV f n + if f n then 1 else 0
theorem packV_lt (f : Nat → Bool) : ∀ n, packV f n < 2 ^ n
  | 0 => by simp [packV]
  | n + 1 => by have := packV_lt f n; simp only [packV, Nat.pow_succ]; split <;> omega
theorem packV_le (f : Nat → Bool) (n : Nat) (h : n ≤ 8) : packV f n ≤ 255 := by
  have h1 := packV_lt f n
  have h2 : 2 ^ n ≤ 2 ^ 8 := Nat.pow_le_pow_right (by omega) h
  omega
theorem packV_le' (f : Nat → Bool) (n : Nat) (h : n < 8) : packV f n ≤ 127 := by
  have h1 := packV_lt f n
  have h2 : 2 ^ n ≤ 2 ^ 7 := Nat.pow_le_pow_right (by omega) (by omega)
  omega
theorem packV_yes (f : Nat → Bool) (n : Nat) (h : f n = true) : packV f (n + 1) = 2 * packV f n + 1 := by simp [packV, h]
theorem packV_no (f : Nat → Bool) (n : Nat) (h : f n = false) : packV f (n + 1) = 2 * packV f n := by simp [packV, h]
theorem packV_congr (f g : Nat → Bool) : ∀ n, (∀ i, i < n → f i = g i) → packV f n = packV g n
  | 0, _ => rfl
  | n + 1, h => by simp only [packV]; rw [packV_congr f g n (fun i hi => h i (by omega)), h n (by omega)]
theorem bitAt_yes (s : ByteArray) (i : Nat) (h : i < s.size) (h1 : (s[i].toNat : Int) = 49) : bitAt s.data.toList i = true := by
  have : s[i] = 49 := UInt8.toNat_inj.1 (by rw [show UInt8.toNat 49 = 49 from rfl]; omega)
  have e : s.data.toList[i]? = some s[i] := by rw [List.getElem?_eq_getElem (by simpa using h)]; rfl
  simp [bitAt, e, this]
theorem bitAt_no (s : ByteArray) (i : Nat) (h : i < s.size) (h1 : ¬ (s[i].toNat : Int) = 49) : bitAt s.data.toList i = false := by
  have : s[i] ≠ 49 := fun e => h1 (by rw [e]; rfl)
  have e : s.data.toList[i]? = some s[i] := by rw [List.getElem?_eq_getElem (by simpa using h)]; rfl
  simp [bitAt, e, this]
theorem bitAt_out (s : ByteArray) (i : Nat) (h : ¬ i < s.size) : bitAt s.data.toList i = false := by
  have e : s.data.toList[i]? = none := by rw [List.getElem?_eq_none]; simpa using h
  simp [bitAt, e]
/-- The byte of the eight pixels from place i on. -/
def byteAt (l : List UInt8) (i : Nat) : UInt8 := UInt8.ofNat (packV (fun k => bitAt l (i + k)) 8)
theorem byteAt_toNat (l : List UInt8) (i : Nat) : (byteAt l i).toNat = packV (fun k => bitAt l (i + k)) 8 := by
  have := packV_le (fun k => bitAt l (i + k)) 8 (Nat.le_refl _)
  simp only [byteAt, UInt8.toNat_ofNat']; omega
/-- The first m packed bytes of a row. -/
def packTo (l : List UInt8) (m : Nat) : List UInt8 := (List.range m).map fun j => byteAt l (8 * j)
theorem packTo_succ (l : List UInt8) (m : Nat) : packTo l (m + 1) = packTo l m ++ [byteAt l (8 * m)] := by simp [packTo, List.range_succ]
theorem packTo_length (l : List UInt8) (m : Nat) : (packTo l m).length = m := by simp [packTo]
/-- A packed row. -/
def packRow (l : List UInt8) : List UInt8 := packTo l ((l.length + 7) / 8)
/-- The decimal digits of a number below 100. -/
def itoaL (n : Nat) : List UInt8 := if n < 10 then [48 + n.toUInt8] else [48 + (n / 10).toUInt8, 48 + (n % 10).toUInt8]
/-- The two constants out of which small numbers are cut. -/
def tenDigits : ByteArray := ⟨#[48, 49, 50, 51, 52, 53, 54, 55, 56, 57, 97, 98, 99, 100, 101, 102, 103, 104, 105, 106, 107, 108, 109, 110, 111, 112, 113, 114, 115, 116, 117, 118, 119, 120, 121, 122]⟩
def smalls : ByteArray := ⟨(([48, 48, 48, 49, 48, 50, 48, 51, 48, 52, 48, 53, 48, 54, 48, 55, 48, 56, 48, 57, 49, 48, 49, 49, 49, 50, 49, 51, 49, 52, 49, 53, 49, 54, 49, 55, 49, 56, 49, 57, 50, 48, 50, 49, 50, 50, 50, 51, 50, 52].append [50, 53, 50, 54, 50, 55, 50, 56, 50, 57, 51, 48, 51, 49, 51, 50, 51, 51, 51, 52, 51, 53, 51, 54, 51, 55, 51, 56, 51, 57, 52, 48, 52, 49, 52, 50, 52, 51, 52, 52, 52, 53, 52, 54, 52, 55, 52, 56, 52, 57]).append ([53, 48, 53, 49, 53, 50, 53, 51, 53, 52, 53, 53, 53, 54, 53, 55, 53, 56, 53, 57, 54, 48, 54, 49, 54, 50, 54, 51, 54, 52, 54, 53, 54, 54, 54, 55, 54, 56, 54, 57, 55, 48, 55, 49, 55, 50, 55, 51, 55, 52].append [55, 53, 55, 54, 55, 55, 55, 56, 55, 57, 56, 48, 56, 49, 56, 50, 56, 51, 56, 52, 56, 53, 56, 54, 56, 55, 56, 56, 56, 57, 57, 48, 57, 49, 57, 50, 57, 51, 57, 52, 57, 53, 57, 54, 57, 55, 57, 56, 57, 57])).toArray⟩
theorem cut_one : ∀ n, n < 10 → tenDigits.extract n (n + 1) = ⟨(itoaL n).toArray⟩ := by decide +kernel
theorem cut_two : ∀ n, n < 33 → 10 ≤ n → smalls.extract (n * 2) (n * 2 + 2) = ⟨(itoaL n).toArray⟩ := by decide +kernel
theorem cut_two' (n : Nat) (h : n < 33) (h1 : 10 ≤ n) (a b : Nat) (ha : a = n * 2) (hb : b = n * 2 + 2) : smalls.extract a b = ⟨(itoaL n).toArray⟩ := by subst ha hb; exact cut_two n h h1
end Go.Proofs.YtljfiefobnncaaaDoor.Pm

/- Plain facts on whole files. -/
namespace Go.Proofs.YtljfiefobnncaaaDoor.Pm
theorem itoaL_len (n : Nat) : 1 ≤ (itoaL n).length ∧ (itoaL n).length ≤ 2 := by unfold itoaL; split <;> simp
/-- What stands ahead of the pixels. -/
def headL (w h : Nat) : List UInt8 := [80, 52, 10] ++ itoaL w ++ [32] ++ itoaL h ++ [10]
/-- Row y of the pixels. -/
def rowOf (l : List UInt8) (w y : Nat) : List UInt8 := (l.drop (y * w)).take w
/-- The file as far as its first y rows. -/
def writeTo (w h : Nat) (l : List UInt8) (y : Nat) : List UInt8 := headL w h ++ (List.range y).flatMap fun y => packRow (rowOf l w y)
theorem writeTo_succ (w h : Nat) (l : List UInt8) (y : Nat) : writeTo w h l (y + 1) = writeTo w h l y ++ packRow (rowOf l w y) := by
  simp [writeTo, List.range_succ]
theorem rowOf_len (l : List UInt8) (w h y : Nat) (hl : l.length = w * h) (hy : y < h) : (rowOf l w y).length = w := by
  have : (y + 1) * w ≤ w * h := by rw [Nat.mul_comm w h]; exact Nat.mul_le_mul_right _ hy
  rw [Nat.add_mul] at this
  simp only [rowOf, List.length_take, List.length_drop]; omega
theorem packRow_len (l : List UInt8) : (packRow l).length = (l.length + 7) / 8 := by simp [packRow, packTo_length]
theorem extract_row (s : ByteArray) (w y a b : Nat) (ha : a = y * w) (hb : b = (y + 1) * w) : (s.extract a b).data.toList = rowOf s.data.toList w y := by
  subst ha hb
  simp only [ByteArray.data_extract, Array.toList_extract, List.extract_eq_take_drop, rowOf]
  congr 1
  rw [Nat.add_mul]; omega
theorem span (w h y : Nat) (hy : y < h) : (y + 1) * w ≤ w * h ∧ y * w + w = (y + 1) * w := by
  refine ⟨?_, by rw [Nat.add_mul]; omega⟩
  rw [Nat.mul_comm w h]; exact Nat.mul_le_mul_right _ hy
theorem area_nat (w h : Nat) (h1 : w ≤ 32) (h2 : h ≤ 32) : w * h ≤ 1024 := Nat.mul_le_mul h1 h2
theorem head_data (w h : Nat) {l : List UInt8} : ((⟨#[80, 52, 10]⟩ : ByteArray) ++ ⟨(itoaL w).toArray⟩ ++ ⟨#[32]⟩ ++ ⟨(itoaL h).toArray⟩ ++ ⟨#[10]⟩).data.toList = writeTo w h l 0 := by
  simp [writeTo, headL]
theorem head_size (w h : Nat) : ((⟨#[80, 52, 10]⟩ : ByteArray) ++ ⟨(itoaL w).toArray⟩ ++ ⟨#[32]⟩ ++ ⟨(itoaL h).toArray⟩ ++ ⟨#[10]⟩).size ≤ 20 + 4 * 0 := by
  have := itoaL_len w
  have := itoaL_len h
  simp only [ByteArray.size_append]
  show 3 + (itoaL w).length + 1 + (itoaL h).length + 1 ≤ _
  omega
theorem step_data (F : ByteArray) (w h y : Nat) (l : List UInt8) (hF : F.data.toList = writeTo w h l y) : (F ++ ⟨(packRow (rowOf l w y)).toArray⟩).data.toList = writeTo w h l (y + 1) := by
  rw [writeTo_succ, ← hF]; simp
theorem step_size (F : ByteArray) (p : List UInt8) (n : Nat) (h : F.size ≤ 20 + 4 * n) (hp : p.length ≤ 4) : (F ++ ⟨p.toArray⟩).size ≤ 20 + 4 * (n + 1) := by
  simp only [ByteArray.size_append]
  show F.size + p.length ≤ _
  omega
theorem of_data (F : ByteArray) (l : List UInt8) (h : F.data.toList = l) : F = ⟨l.toArray⟩ := by subst h; simp
/-- Is the pixel black? -/
def blackB (w h : Nat) (l : List UInt8) (x y : Int) : Bool := decide (0 ≤ x ∧ 0 ≤ y ∧ x < w ∧ y < h) && bitAt l (y * w + x).toNat
theorem blackB_out (w h : Nat) (l : List UInt8) (x y : Int) (hx : ¬ (0 ≤ x ∧ 0 ≤ y ∧ x < w ∧ y < h)) : blackB w h l x y = false := by simp only [blackB, decide_eq_false hx, Bool.false_and]
theorem blackB_in (w h : Nat) (l : List UInt8) (x y : Nat) (hx : x < w) (hy : y < h) (a : Nat) (ha : a = y * w) : blackB w h l x y = bitAt l (a + x) := by
  have : decide ((0 : Int) ≤ x ∧ (0 : Int) ≤ y ∧ (x : Int) < w ∧ (y : Int) < h) = true := decide_eq_true (by omega)
  simp only [blackB, this, Bool.true_and]
  congr 1
  subst ha
  have e : (y : Int) * (w : Int) + (x : Int) = ((y * w + x : Nat) : Int) := by simp
  rw [e, Int.toNat_natCast]
theorem black_row (w h : Nat) (l : List UInt8) (x y : Nat) (hy : y < h) : bitAt (rowOf l w y) x = blackB w h l x y := by
  by_cases hx : x < w
  · rw [blackB_in w h l x y hx hy _ rfl]
    simp only [bitAt, rowOf, List.getElem?_take, if_pos hx, List.getElem?_drop]
  · rw [blackB_out w h l x y (by omega)]
    simp only [bitAt, rowOf, List.getElem?_take, if_neg hx]; rfl
/-- The first k pixels of byte m of row y, as a number. -/
def colV (w h : Nat) (l : List UInt8) (m y k : Nat) : Nat := packV (fun i => blackB w h l (8 * (m : Int) + (i : Nat)) y) k
theorem colV_lt (w h : Nat) (l : List UInt8) (m y k : Nat) (hk : k < 8) : colV w h l m y k ≤ 127 := packV_le' _ k hk
theorem colV_le (w h : Nat) (l : List UInt8) (m y k : Nat) (hk : k ≤ 8) : colV w h l m y k ≤ 255 := packV_le _ k hk
theorem colV_yes (w h : Nat) (l : List UInt8) (m y k : Nat) (hb : blackB w h l (8 * (m : Int) + (k : Nat)) y = true) : colV w h l m y (k + 1) = 2 * colV w h l m y k + 1 := packV_yes _ k hb
theorem colV_no (w h : Nat) (l : List UInt8) (m y k : Nat) (hb : blackB w h l (8 * (m : Int) + (k : Nat)) y = false) : colV w h l m y (k + 1) = 2 * colV w h l m y k := packV_no _ k hb
theorem byte_row (w h : Nat) (l : List UInt8) (m y : Nat) (hy : y < h) : colV w h l m y 8 = (byteAt (rowOf l w y) (8 * m)).toNat := by
  rw [byteAt_toNat, colV]
  apply packV_congr
  intro i _
  rw [black_row w h l (8 * m + i) y hy]
  simp
theorem mid_data (G : ByteArray) (p r : List UInt8) (m : Nat) (h : G.data.toList = p ++ packTo r m) : (G ++ ⟨#[byteAt r (8 * m)]⟩).data.toList = p ++ packTo r (m + 1) := by
  simp [packTo_succ, h]
theorem mid_end (w h : Nat) (l : List UInt8) (y m : Nat) (hl : l.length = w * h) (hy : y < h) (h1 : 8 * m ≤ w + 7) (h2 : w ≤ 8 * m) : writeTo w h l y ++ packTo (rowOf l w y) m = writeTo w h l (y + 1) := by
  rw [writeTo_succ, packRow, rowOf_len l w h y hl hy, show m = (w + 7) / 8 from by omega]
theorem one_size (G : ByteArray) (b : UInt8) (n : Nat) (h : G.size ≤ n) : (G ++ ⟨#[b]⟩).size ≤ n + 1 := by
  simp only [ByteArray.size_append]
  show G.size + 1 ≤ _
  omega
theorem goodB_parts {w h : Int} {l : List UInt8} (hg : goodB w h l = true) : ∃ a b : Nat, w = (a : Int) ∧ h = (b : Int) ∧ 1 ≤ a ∧ a ≤ 32 ∧ 1 ≤ b ∧ b ≤ 32 ∧ l.length = a * b := by
  simp only [goodB, Bool.and_eq_true, decide_eq_true_eq] at hg
  obtain ⟨⟨⟨h1, h2⟩, h3⟩, -⟩ := hg
  have b1 := sideB_bounds h1
  have b2 := sideB_bounds h2
  obtain ⟨a, rfl⟩ := Int.eq_ofNat_of_zero_le (show 0 ≤ w by omega)
  obtain ⟨b, rfl⟩ := Int.eq_ofNat_of_zero_le (show 0 ≤ h by omega)
  refine ⟨a, b, rfl, rfl, by omega, by omega, by omega, by omega, ?_⟩
  rw [← Int.natCast_mul] at h3
  exact Int.ofNat.inj h3
end Go.Proofs.YtljfiefobnncaaaDoor.Pm
