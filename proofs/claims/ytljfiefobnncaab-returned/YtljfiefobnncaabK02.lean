import Derived.Test.YtljfiefobnncaabK01
import Derived.Deep.RegionWith
import Derived.Deep.QuietTactic
import Derived.BigQuiet
import Derived.WalkKit

/- Plain facts on whole files. -/
namespace Go.Proofs.Ytljfiefobnncaab.Pm
theorem itoaL_len (n : Nat) : 1 ≤ (itoaL n).length ∧ (itoaL n).length ≤ 2 := by unfold itoaL; split <;> simp
/-- What stands ahead of the pixels. -/
def headL (w h : Nat) : List UInt8 := [80, 52, 10] ++ itoaL w ++ [32] ++ itoaL h ++ [10]
/-- Row y of the pixels. -/
def rowOf (l : List UInt8) (w y : Nat) : List UInt8 := (l.drop (y * w)).take w
/-- The file as far as its first y rows. -/
def writeTo (w h : Nat) (l : List UInt8) (y : Nat) : List UInt8 := headL w h ++ (List.range y).flatMap fun y => packRow (rowOf l w y)
theorem writeTo_succ (w h : Nat) (l : List UInt8) (y : Nat) : writeTo w h l (y + 1) = writeTo w h l y ++ packRow (rowOf l w y) := by
  simp [writeTo, List.range_succ]
theorem rowOf_len (l : List UInt8) (w h y : Nat) (hl : l.length = w * h) (hy : y < h) : (rowOf l w y).length = w := by
  have : (y + 1) * w ≤ w * h := by rw [Nat.mul_comm w h]; exact Nat.mul_le_mul_right _ hy
  rw [Nat.add_mul] at this
  simp only [rowOf, List.length_take, List.length_drop]; omega
theorem packRow_len (l : List UInt8) : (packRow l).length = (l.length + 7) / 8 := by simp [packRow, packTo_length]
theorem extract_row (s : ByteArray) (w y a b : Nat) (ha : a = y * w) (hb : b = (y + 1) * w) : (s.extract a b).data.toList = rowOf s.data.toList w y := by
  subst ha hb
  simp only [ByteArray.data_extract, Array.toList_extract, List.extract_eq_take_drop, rowOf]
  congr 1
  rw [Nat.add_mul]; omega
theorem span (w h y : Nat) (hy : y < h) : (y + 1) * w ≤ w * h ∧ y * w + w = (y + 1) * w := by
  refine ⟨?_, by rw [Nat.add_mul]; omega⟩
  rw [Nat.mul_comm w h]; exact Nat.mul_le_mul_right _ hy
theorem area_nat (w h : Nat) (h1 : w ≤ 32) (h2 : h ≤ 32) : w * h ≤ 1024 := Nat.mul_le_mul h1 h2
theorem head_data (w h : Nat) {l : List UInt8} : ((⟨#[80, 52, 10]⟩ : ByteArray) ++ ⟨(itoaL w).toArray⟩ ++ ⟨#[32]⟩ ++ ⟨(itoaL h).toArray⟩ ++ ⟨#[10]⟩).data.toList = writeTo w h l 0 := by
  simp [writeTo, headL]
theorem head_size (w h : Nat) : ((⟨#[80, 52, 10]⟩ : ByteArray) ++ ⟨(itoaL w).toArray⟩ ++ ⟨#[32]⟩ ++ ⟨(itoaL h).toArray⟩ ++ ⟨#[10]⟩).size ≤ 20 + 4 * 0 := by
  have := itoaL_len w
  have := itoaL_len h
  simp only [ByteArray.size_append]
  show 3 + (itoaL w).length + 1 + (itoaL h).length + 1 ≤ _
  omega
theorem step_data (F : ByteArray) (w h y : Nat) (l : List UInt8) (hF : F.data.toList = writeTo w h l y) : (F ++ ⟨(packRow (rowOf l w y)).toArray⟩).data.toList = writeTo w h l (y + 1) := by
  rw [writeTo_succ, ← hF]; simp
theorem step_size (F : ByteArray) (p : List UInt8) (n : Nat) (h : F.size ≤ 20 + 4 * n) (hp : p.length ≤ 4) : (F ++ ⟨p.toArray⟩).size ≤ 20 + 4 * (n + 1) := by
  simp only [ByteArray.size_append]
  show F.size + p.length ≤ _
  omega
theorem of_data (F : ByteArray) (l : List UInt8) (h : F.data.toList = l) : F = ⟨l.toArray⟩ := by subst h; simp
/-- Is the pixel black? -/
def blackB (w h : Nat) (l : List UInt8) (x y : Int) : Bool := decide (0 ≤ x ∧ 0 ≤ y ∧ x < w ∧ y < h) && bitAt l (y * w + x).toNat
theorem blackB_out (w h : Nat) (l : List UInt8) (x y : Int) (hx : ¬ (0 ≤ x ∧ 0 ≤ y ∧ x < w ∧ y < h)) : blackB w h l x y = false := by simp only [blackB, decide_eq_false hx, Bool.false_and]
theorem blackB_in (w h : Nat) (l : List UInt8) (x y : Nat) (hx : x < w) (hy : y < h) (a : Nat) (ha : a = y * w) : blackB w h l x y = bitAt l (a + x) := by
  have : decide ((0 : Int) ≤ x ∧ (0 : Int) ≤ y ∧ (x : Int) < w ∧ (y : Int) < h) = true := decide_eq_true (by omega)
  simp only [blackB, this, Bool.true_and]
  congr 1
  subst ha
  have e : (y : Int) * (w : Int) + (x : Int) = ((y * w + x : Nat) : Int) := by simp
  rw [e, Int.toNat_natCast]
theorem black_row (w h : Nat) (l : List UInt8) (x y : Nat) (hy : y < h) : bitAt (rowOf l w y) x = blackB w h l x y := by
  by_cases hx : x < w
  · rw [blackB_in w h l x y hx hy _ rfl]
    simp only [bitAt, rowOf, List.getElem?_take, if_pos hx, List.getElem?_drop]
  · rw [blackB_out w h l x y (by omega)]
    simp only [bitAt, rowOf, List.getElem?_take, if_neg hx]; rfl
/-- The first k pixels of byte m of row y, as a number. -/
def colV (w h : Nat) (l : List UInt8) (m y k : Nat) : Nat := packV (fun i => blackB w h l (8 * (m : Int) + (i : Nat)) y) k
theorem colV_lt (w h : Nat) (l : List UInt8) (m y k : Nat) (hk : k < 8) : colV w h l m y k ≤ 127 := packV_le' _ k hk
theorem colV_le (w h : Nat) (l : List UInt8) (m y k : Nat) (hk : k ≤ 8) : colV w h l m y k ≤ 255 := packV_le _ k hk
theorem colV_yes (w h : Nat) (l : List UInt8) (m y k : Nat) (hb : blackB w h l (8 * (m : Int) + (k : Nat)) y = true) : colV w h l m y (k + 1) = 2 * colV w h l m y k + 1 := packV_yes _ k hb
theorem colV_no (w h : Nat) (l : List UInt8) (m y k : Nat) (hb : blackB w h l (8 * (m : Int) + (k : Nat)) y = false) : colV w h l m y (k + 1) = 2 * colV w h l m y k := packV_no _ k hb
theorem byte_row (w h : Nat) (l : List UInt8) (m y : Nat) (hy : y < h) : colV w h l m y 8 = (byteAt (rowOf l w y) (8 * m)).toNat := by
  rw [byteAt_toNat, colV]
  apply packV_congr
  intro i _
  rw [black_row w h l (8 * m + i) y hy]
  simp
theorem mid_data (G : ByteArray) (p r : List UInt8) (m : Nat) (h : G.data.toList = p ++ packTo r m) : (G ++ ⟨#[byteAt r (8 * m)]⟩).data.toList = p ++ packTo r (m + 1) := by
  simp [packTo_succ, h]
theorem mid_end (w h : Nat) (l : List UInt8) (y m : Nat) (hl : l.length = w * h) (hy : y < h) (h1 : 8 * m ≤ w + 7) (h2 : w ≤ 8 * m) : writeTo w h l y ++ packTo (rowOf l w y) m = writeTo w h l (y + 1) := by
  rw [writeTo_succ, packRow, rowOf_len l w h y hl hy, show m = (w + 7) / 8 from by omega]
theorem one_size (G : ByteArray) (b : UInt8) (n : Nat) (h : G.size ≤ n) : (G ++ ⟨#[b]⟩).size ≤ n + 1 := by
  simp only [ByteArray.size_append]
  show G.size + 1 ≤ _
  omega
theorem goodB_parts {w h : Int} {l : List UInt8} (hg : goodB w h l = true) : ∃ a b : Nat, w = (a : Int) ∧ h = (b : Int) ∧ 1 ≤ a ∧ a ≤ 32 ∧ 1 ≤ b ∧ b ≤ 32 ∧ l.length = a * b := by
  simp only [goodB, Bool.and_eq_true, decide_eq_true_eq] at hg
  obtain ⟨⟨⟨h1, h2⟩, h3⟩, -⟩ := hg
  have b1 := sideB_bounds h1
  have b2 := sideB_bounds h2
  obtain ⟨a, rfl⟩ := Int.eq_ofNat_of_zero_le (show 0 ≤ w by omega)
  obtain ⟨b, rfl⟩ := Int.eq_ofNat_of_zero_le (show 0 ≤ h by omega)
  refine ⟨a, b, rfl, rfl, by omega, by omega, by omega, by omega, ?_⟩
  rw [← Int.natCast_mul] at h3
  exact Int.ofNat.inj h3
end Go.Proofs.Ytljfiefobnncaab.Pm

/- outlineref.Black. -/
namespace Go.Proofs.Ytljfiefobnncaab
open Go.RowKit

end Go.Proofs.Ytljfiefobnncaab
/- outlineref.Write. -/
namespace Go.Proofs.Ytljfiefobnncaab
open Go.RowKit



/-- The box of a bitmap at block B stands; below it all is as it was. -/
def Inb (B : Nat) (W H : Nat) (s : ByteArray) (w wr : World) : Prop :=
  wr.cell? ⟨B, 0, none⟩ = some (.int .i64 W) ∧ wr.cell? ⟨B, 1, none⟩ = some (.int .i64 H) ∧ wr.cell? ⟨B, 2, none⟩ = some (.string s) ∧ Below B w wr ∧ B < wr.heap.size
theorem Inb.on {B W H : Nat} {s : ByteArray} {w wr w2 : World} (h : Inb B W H s w wr) (hb : Below wr.heap.size wr w2) : Inb B W H s w w2 := by
  obtain ⟨c0, c1, c2, hn, hz⟩ := h
  exact ⟨(hb.cell (p := ⟨B, 0, none⟩) hz).trans c0, (hb.cell (p := ⟨B, 1, none⟩) hz).trans c1, (hb.cell (p := ⟨B, 2, none⟩) hz).trans c2, hn.trans (hb.mono (Nat.le_of_lt hz)), Nat.lt_of_lt_of_le hz hb.size⟩
theorem Inb.alloc {B W H : Nat} {s : ByteArray} {w wr : World} (h : Inb B W H s w wr) (o : Obj) : Inb B W H s w (wr.alloc o) :=
  h.on ((Below.refl _ _).alloc (Nat.le_refl _) _)

/-- 'string([]byte{b})'. -/
theorem one_byte (b : UInt8) (v : Int) (hv : v = (b.toNat : Int)) (wx : World) :
    Sem.run Try.prog (convert 41 9 (.slice (some ⟨wx.heap.size, 0, none⟩) 1 1)) (wx.alloc (.cells #[.int .u8 v] 5)) = .ok (.string ⟨#[b]⟩) (wx.alloc (.cells #[.int .u8 v] 5)) := by
  subst hv
  refine run_convert_bytes_back (P := Try.prog) (wx.alloc (.cells #[.int .u8 (b.toNat : Int)] 5)) 41 9 5 ⟨wx.heap.size, 0, none⟩ 1 [b] Try.underlying41 Try.underlying5 Try.underlying9 (fun j hj => ?_)
  match j, hj with
  | 0, _ => simp [Addr.add]

end Go.Proofs.Ytljfiefobnncaab
/- pick, number. -/
namespace Go.Proofs.Ytljfiefobnncaab
open Go.RowKit

theorem dig_toNat : ∀ n, n < 10 → (48 + n.toUInt8).toNat = 48 + n := by decide
theorem itoaL_low (n : Nat) (h : n < 10) : Pm.itoaL n = [48 + n.toUInt8] := by rw [Pm.itoaL, if_pos h]
theorem itoaL_high (n : Nat) (h : ¬ n < 10) : Pm.itoaL n = [48 + (n / 10).toUInt8, 48 + (n % 10).toUInt8] := by rw [Pm.itoaL, if_neg h]

set_option maxRecDepth 4000 in
set_option maxHeartbeats 400000 in
theorem pick_any (c : Int) (n : Nat) (c1 : -9223372036854775808 ≤ c) (c2 : c ≤ 9223372036854775807) (n1 : 1 ≤ n) (n2 : n ≤ 32) (w : World) :
    Calls Try.prog 11 #[.int .i64 c, .int .i64 n] w fun e w' => (∃ r : Nat, e = .returned (.int .i64 r) ∧ r < n) ∧ w' = w := by
  by_cases h : c < 0
  · have e1 : -(c + 1).tmod (n : Int) = ((((-(c + 1)) % (n : Int)).toNat : Nat) : Int) := by
      rw [← Int.neg_tmod, Int.tmod_eq_emod_of_nonneg (by omega)]
      have := Int.emod_nonneg (-(c + 1)) (show (n : Int) ≠ 0 by omega)
      omega
    have e2 : ((-(c + 1)) % (n : Int)).toNat < n := by
      have := Int.emod_nonneg (-(c + 1)) (show (n : Int) ≠ 0 by omega)
      have := Int.emod_lt_of_pos (-(c + 1)) (show (0 : Int) < n by omega)
      omega
    have E1 : Hid _ := e1
    have E2 : Hid _ := e2
    clear e1 e2
    go_enter Try.func11, Try.ntmps11
    go_wp2
    go_ret
    exact ⟨⟨_, ret_int E1.out, E2.out⟩, rfl⟩
  · have e1 : c % (n : Int) = (((c % (n : Int)).toNat : Nat) : Int) := by
      have := Int.emod_nonneg c (show (n : Int) ≠ 0 by omega)
      omega
    have e2 : (c % (n : Int)).toNat < n := by
      have := Int.emod_nonneg c (show (n : Int) ≠ 0 by omega)
      have := Int.emod_lt_of_pos c (show (0 : Int) < n by omega)
      omega
    have E1 : Hid _ := e1
    have E2 : Hid _ := e2
    clear e1 e2
    go_enter Try.func11, Try.ntmps11
    go_wp2
    go_ret
    exact ⟨⟨_, ret_int E1.out, E2.out⟩, rfl⟩

end Go.Proofs.Ytljfiefobnncaab
/- A block of three cells. -/
namespace Go.Proofs.Ytljfiefobnncaab
open Go.RowKit

/-- A block of three cells at B, that may be written; below it all is as it was. -/
def Box3 (B : Nat) (a b c : Value) (w wr : World) : Prop :=
  (wr.cell? ⟨B, 0, none⟩ = some a ∧ wr.cell? ⟨B, 1, none⟩ = some b ∧ wr.cell? ⟨B, 2, none⟩ = some c) ∧
  (wr.frozen? ⟨B, 0, none⟩ = false ∧ wr.frozen? ⟨B, 1, none⟩ = false ∧ wr.frozen? ⟨B, 2, none⟩ = false) ∧ Below B w wr ∧ B < wr.heap.size
theorem Box3.on {B : Nat} {a b c : Value} {w wr w2 : World} (h : Box3 B a b c w wr) (hb : Below wr.heap.size wr w2) : Box3 B a b c w w2 := by
  obtain ⟨⟨c0, c1, c2⟩, ⟨f0, f1, f2⟩, hn, hz⟩ := h
  exact ⟨⟨(hb.cell (p := ⟨B, 0, none⟩) hz).trans c0, (hb.cell (p := ⟨B, 1, none⟩) hz).trans c1, (hb.cell (p := ⟨B, 2, none⟩) hz).trans c2⟩,
    ⟨(hb.frozen (p := ⟨B, 0, none⟩) hz).trans f0, (hb.frozen (p := ⟨B, 1, none⟩) hz).trans f1, (hb.frozen (p := ⟨B, 2, none⟩) hz).trans f2⟩, hn.trans (hb.mono (Nat.le_of_lt hz)), Nat.lt_of_lt_of_le hz hb.size⟩
theorem Box3.new (w : World) (a b c : Value) (t : TypeId) : Box3 w.heap.size a b c w (w.alloc (.cells #[a, b, c] t)) :=
  ⟨⟨by simp, by simp, by simp⟩, ⟨by simp, by simp, by simp⟩, (Below.refl _ _).alloc (Nat.le_refl _) _, by simp⟩
theorem Box3.alloc {B : Nat} {a b c : Value} {w wr : World} (h : Box3 B a b c w wr) (o : Obj) : Box3 B a b c w (wr.alloc o) :=
  h.on ((Below.refl _ _).alloc (Nat.le_refl _) _)
end Go.Proofs.Ytljfiefobnncaab
