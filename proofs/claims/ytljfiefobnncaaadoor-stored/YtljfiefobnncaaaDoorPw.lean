/- Plain facts: whole files read back. -/
import Derived.Test.YtljfiefobnncaaaDoorPv
namespace Go.Proofs.YtljfiefobnncaaaDoor.Pm

/-- The packed rows of a bitmap. -/
def rowsL (l : List UInt8) (w h : Nat) : List UInt8 := (List.range h).flatMap fun y => packRow (rowOf l w y)
theorem writeTo_eq (w h : Nat) (l : List UInt8) : writeTo w h l h = headL w h ++ rowsL l w h := rfl
theorem rowOf_len_le (l : List UInt8) (w y : Nat) : (rowOf l w y).length ≤ w := by simp only [rowOf, List.length_take]; omega
theorem rows_concat (l : List UInt8) (w : Nat) : ∀ h, l.length = w * h → (List.range h).flatMap (rowOf l w) = l
  | 0, hl => by
    have : l = [] := List.eq_nil_of_length_eq_zero (by simpa using hl)
    simp [this]
  | h + 1, hl => by
    have e : ∀ y, y < h → rowOf l w y = rowOf (l.take (w * h)) w y := by
      intro y hy
      have sp := span w h y hy
      simp only [rowOf]
      rw [List.drop_take, List.take_take]
      congr 1
      omega
    have ih := rows_concat (l.take (w * h)) w h (by rw [List.length_take, hl, Nat.mul_succ]; omega)
    rw [List.range_succ, List.flatMap_append]
    have e2 : (List.range h).flatMap (rowOf l w) = (List.range h).flatMap (rowOf (l.take (w * h)) w) := by
      rw [List.flatMap_def, List.flatMap_def]
      congr 1
      exact List.map_congr_left fun y hy => e y (List.mem_range.1 hy)
    rw [e2, ih]
    simp only [List.flatMap_cons, List.flatMap_nil, List.append_nil]
    have e3 : rowOf l w h = l.drop (w * h) := by
      simp only [rowOf]
      rw [Nat.mul_comm h w]
      exact List.take_of_length_le (by rw [List.length_drop, hl, Nat.mul_succ]; omega)
    rw [e3, List.take_append_drop]
/-- A packed row that stands at place b is read back. -/
theorem row_back (L l : List UInt8) (w h y b : Nat) (hl : l.length = w * h) (hp : l.all okPix = true) (hy : y < h) (hb : ∀ m, m < (w + 7) / 8 → L[b + m]? = (packRow (rowOf l w y))[m]?) : rowTo L b w = rowOf l w y := by
  have rl := rowOf_len l w h y hl hy
  have rp : (rowOf l w y).all okPix = true := by
    rw [List.all_eq_true] at hp ⊢
    intro x hx
    exact hp x (List.mem_of_mem_drop (List.mem_of_mem_take hx))
  apply List.ext_getElem
  · rw [rowTo_length, rl]
  · intro x h1 h2
    rw [rowTo_length] at h1
    simp only [rowTo, List.getElem_map, List.getElem_range]
    have hm : x / 8 < (w + 7) / 8 := by omega
    have hget : L.getD (b + x / 8) 0 = byteAt (rowOf l w y) (8 * (x / 8)) := by
      rw [List.getD_eq_getElem?_getD, hb _ hm]
      simp [packRow, packTo, rl, hm]
    rw [pixAt, hget, bitOf_byteAt _ _ _ (by omega), show 8 * (x / 8) + x % 8 = x from by omega]
    exact pix_back _ x h2 rp
/-- All packed rows that stand from place b on are read back. -/
theorem rows_back (L l : List UInt8) (w h b : Nat) (hl : l.length = w * h) (hp : l.all okPix = true) (hb : ∀ i, i < (rowsL l w h).length → L[b + i]? = (rowsL l w h)[i]?) : rowsTo L b ((w + 7) / 8) w h = l := by
  have hlen : ∀ y, y < h → (packRow (rowOf l w y)).length = (w + 7) / 8 := fun y hy => by rw [packRow_len, rowOf_len l w h y hl hy]
  have hf : ∀ y, ((fun y => if y < h then packRow (rowOf l w y) else List.replicate ((w + 7) / 8) 0) y).length = (w + 7) / 8 := by
    intro y
    by_cases hy : y < h
    · simp only [if_pos hy]; exact hlen y hy
    · simp only [if_neg hy]; simp
  have hR : rowsL l w h = (List.range h).flatMap (fun y => if y < h then packRow (rowOf l w y) else List.replicate ((w + 7) / 8) 0) := by
    rw [rowsL, List.flatMap_def, List.flatMap_def]
    congr 1
    exact List.map_congr_left fun y hy => by simp only [if_pos (List.mem_range.1 hy)]
  have hRl : (rowsL l w h).length = h * ((w + 7) / 8) := by rw [hR]; exact flat_len _ _ hf h
  have e : rowsTo L b ((w + 7) / 8) w h = (List.range h).flatMap (rowOf l w) := by
    rw [rowsTo, List.flatMap_def, List.flatMap_def]
    congr 1
    refine List.map_congr_left fun y hy => ?_
    have hy := List.mem_range.1 hy
    refine row_back L l w h y _ hl hp hy fun m hm => ?_
    have hi : y * ((w + 7) / 8) + m < (rowsL l w h).length := by
      rw [hRl]
      have := Nat.mul_le_mul_right ((w + 7) / 8) (Nat.succ_le_of_lt hy)
      rw [Nat.succ_mul] at this; omega
    rw [Nat.add_assoc, hb _ hi, hR, flat_get _ _ hf h y m hy hm]
    simp only [if_pos hy]
  rw [e, rows_concat l w h hl]
theorem rowsL_length (l : List UInt8) (w h : Nat) (hl : l.length = w * h) : (rowsL l w h).length = (w + 7) / 8 * h := by
  have : ∀ k, k ≤ h → ((List.range k).flatMap fun y => packRow (rowOf l w y)).length = k * ((w + 7) / 8) := by
    intro k
    induction k with
    | zero => intro _; simp
    | succ k ih =>
      intro hk
      rw [List.range_succ, List.flatMap_append, List.length_append, ih (by omega)]
      simp only [List.flatMap_cons, List.flatMap_nil, List.append_nil]
      rw [packRow_len, rowOf_len l w h k hl (by omega), Nat.succ_mul]
  rw [rowsL, this h (Nat.le_refl _), Nat.mul_comm]

/-- The two letters and the two sides of a file that is laid as ours are. -/
theorem head_read (k c1 c2 : UInt8) (w h : Nat) (rest : List UInt8) (hk : (k.toNat : Int) = 49 ∨ (k.toNat : Int) = 52) (w1 : 1 ≤ w) (w2 : w ≤ 32) (h1 : 1 ≤ h) (h2 : h ≤ 32)
    (b1 : blankB c1 = true) (q1 : ((c1.toNat : Int) == 35) = false) (b2 : blankB c2 = true) (q2 : ((c2.toNat : Int) == 35) = false) :
    headOut ([80, k, c1] ++ itoaL w ++ [c2] ++ itoaL h ++ [10] ++ rest) k w h (4 + (itoaL w).length + (itoaL h).length) 0 := by
  have d2 : digitB c2 = false := by
    cases hd : digitB c2
    · rfl
    · rw [(digit_not hd).2] at b2; cases b2
  have s1 := side_read [80, k] c1 w c2 (itoaL h ++ 10 :: rest) b1 q1 w1 w2 d2
  have s2 := side_read ([80, k, c1] ++ itoaL w) c2 h 10 rest b2 q2 h1 h2 (by decide)
  have e1 : [80, k] ++ c1 :: (itoaL w ++ c2 :: (itoaL h ++ 10 :: rest)) = [80, k, c1] ++ itoaL w ++ [c2] ++ itoaL h ++ [10] ++ rest := by simp
  have e2 : [80, k, c1] ++ itoaL w ++ c2 :: (itoaL h ++ 10 :: rest) = [80, k, c1] ++ itoaL w ++ [c2] ++ itoaL h ++ [10] ++ rest := by simp
  rw [e1] at s1
  rw [e2] at s2
  have l1 : ([80, k] : List UInt8).length = 2 := rfl
  have l2 : ([80, k, c1] ++ itoaL w).length = 2 + 1 + (itoaL w).length := by simp; omega
  rw [l1] at s1
  rw [l2] at s2
  refine ⟨k, 2, 0, .inr (.inr ⟨⟨80, by simp, rfl⟩, by simp, hk, rfl, rfl⟩), .inr ⟨rfl, w, _, 0, s1, .inr ⟨rfl, h, _, 0, s2, .inr ⟨rfl, rfl, rfl, rfl, by omega, rfl⟩⟩⟩⟩

/-- WHAT IS WRITTEN IS READ BACK, whatever stands behind it. -/
theorem read_written (l x : List UInt8) (w h : Nat) (w1 : 1 ≤ w) (w2 : w ≤ 32) (h1 : 1 ≤ h) (h2 : h ≤ 32) (hl : l.length = w * h) (hp : l.all okPix = true) : readOut (writeTo w h l h ++ x) w h l 0 0 := by
  have hh := head_read 52 10 32 w h (rowsL l w h ++ x) (.inr rfl) w1 w2 h1 h2 rfl rfl rfl rfl
  have e : [80, 52, 10] ++ itoaL w ++ [32] ++ itoaL h ++ [10] ++ (rowsL l w h ++ x) = writeTo w h l h ++ x := by rw [writeTo_eq]; simp [headL]
  rw [e] at hh
  obtain ⟨p, hpp⟩ : ∃ p, p = 4 + (itoaL w).length + (itoaL h).length := ⟨_, rfl⟩
  have hL : ∃ pre, writeTo w h l h ++ x = pre ++ 10 :: (rowsL l w h ++ x) ∧ pre.length = p := ⟨[80, 52, 10] ++ itoaL w ++ [32] ++ itoaL h, by rw [← e]; simp, by rw [hpp]; simp; omega⟩
  obtain ⟨pre, eL, lp⟩ := hL
  rw [← hpp] at hh
  rw [eL] at hh ⊢
  refine ⟨52, w, h, p, 0, hh, .inr ⟨rfl, l, _, 0, .inr ⟨by decide, .inr (.inr ⟨⟨10, by rw [← lp]; simp, rfl⟩, ?_, ?_, rfl, rfl⟩)⟩, .inr ⟨rfl, rfl, rfl, rfl, rfl, rfl⟩⟩⟩
  · rw [List.length_append, List.length_cons, List.length_append, rowsL_length l w h hl, lp]; omega
  · refine (rows_back _ l w h (p + 1) hl hp fun i hi => ?_).symm
    rw [List.getElem?_append_right (by omega), lp, show p + 1 + i - p = i + 1 from by omega, List.getElem?_cons_succ, List.getElem?_append_left hi]
end Go.Proofs.YtljfiefobnncaaaDoor.Pm
