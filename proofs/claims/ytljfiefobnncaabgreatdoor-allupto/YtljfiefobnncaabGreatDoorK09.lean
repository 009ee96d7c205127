/- The sides of a picture, pixel by pixel. Nothing of the program stands here. -/
import Derived.Test.YtljfiefobnncaabGreatDoorK04
namespace Go.Proofs.YtljfiefobnncaabGreatDoor.Qm

/-- The sides round a black pixel. -/
def arL (bl : Int → Int → Bool) (x y : Int) : List Sd :=
  (if bl (x - 1) y then [] else [(x, y, 0)]) ++ (if bl x (y + 1) then [] else [(x, y + 1, 1)]) ++ (if bl (x + 1) y then [] else [(x + 1, y + 1, 2)]) ++ (if bl x (y - 1) then [] else [(x + 1, y, 3)])
/-- What is on the left of a side. -/
def lp (s : Sd) : Int × Int := (lpx s.1 s.2.2, lpy s.2.1 s.2.2)

theorem mem_arL {bl : Int → Int → Bool} {x y : Int} (hb : bl x y = true) (s : Sd) : s ∈ arL bl x y ↔ isS bl s = true ∧ lp s = (x, y) := by
  obtain ⟨a, b, d⟩ := s
  constructor
  · intro h
    simp only [arL, List.mem_append] at h
    rcases h with ((h | h) | h) | h
    · split at h
      · simp at h
      · rename_i hn
        simp only [List.mem_singleton, Prod.mk.injEq] at h
        obtain ⟨rfl, rfl, rfl⟩ := h
        exact ⟨by simp [isS, outQ, hb, hn], by simp [lp, lpx, lpy]⟩
    · split at h
      · simp at h
      · rename_i hn
        simp only [List.mem_singleton, Prod.mk.injEq] at h
        obtain ⟨rfl, rfl, rfl⟩ := h
        exact ⟨by simp [isS, outQ, hb, hn], by simp [lp, lpx, lpy]⟩
    · split at h
      · simp at h
      · rename_i hn
        simp only [List.mem_singleton, Prod.mk.injEq] at h
        obtain ⟨rfl, rfl, rfl⟩ := h
        exact ⟨by simp [isS, outQ, hb, hn], by simp [lp, lpx, lpy]⟩
    · split at h
      · simp at h
      · rename_i hn
        simp only [List.mem_singleton, Prod.mk.injEq] at h
        obtain ⟨rfl, rfl, rfl⟩ := h
        exact ⟨by simp [isS, outQ, hb, hn], by simp [lp, lpx, lpy]⟩
  · rintro ⟨hs, hl⟩
    have hd := isS_lt hs
    simp only [arL, List.mem_append]
    match d, hd with
    | 0, _ =>
      simp [lp, lpx, lpy] at hl
      obtain ⟨rfl, rfl⟩ := hl
      simp [isS, outQ] at hs
      refine .inl (.inl (.inl ?_))
      simp [hs.2]
    | 1, _ =>
      simp [lp, lpx, lpy] at hl
      obtain ⟨rfl, rfl⟩ := hl
      simp [isS, outQ] at hs
      refine .inl (.inl (.inr ?_))
      simp [hs.2]
    | 2, _ =>
      simp [lp, lpx, lpy] at hl
      obtain ⟨rfl, rfl⟩ := hl
      simp [isS, outQ] at hs
      refine .inl (.inr ?_)
      simp [hs.2]
    | 3, _ =>
      simp [lp, lpx, lpy] at hl
      obtain ⟨rfl, rfl⟩ := hl
      simp [isS, outQ] at hs
      refine .inr ?_
      simp [hs.2]

theorem nodup_arL (bl : Int → Int → Bool) (x y : Int) : (arL bl x y).Nodup := by
  unfold arL
  split <;> split <;> split <;> split <;> simp
theorem len_arL (bl : Int → Int → Bool) (x y : Int) : (arL bl x y).length ≤ 4 := by
  unfold arL
  split <;> split <;> split <;> split <;> simp

/-- The sides of pixel number i. -/
def pixL (bl : Int → Int → Bool) (W i : Nat) : List Sd := if bl (i % W : Nat) (i / W : Nat) then arL bl (i % W : Nat) (i / W : Nat) else []
/-- The sides of the first m pixels, row by row. -/
def sidesTo (bl : Int → Int → Bool) (W : Nat) : Nat → List Sd
  | 0 => []
  | m + 1 => sidesTo bl W m ++ pixL bl W m
theorem mem_pixL {bl : Int → Int → Bool} {W i : Nat} {s : Sd} : s ∈ pixL bl W i ↔ isS bl s = true ∧ lp s = (((i % W : Nat) : Int), ((i / W : Nat) : Int)) := by
  unfold pixL
  split
  · rename_i h; exact mem_arL h s
  · rename_i h
    simp only [List.not_mem_nil, false_iff, not_and]
    intro hs hl
    have hd := isS_lt hs
    obtain ⟨x, y, d⟩ := s
    rw [isS_lr _ _ _ _ hd] at hs
    have h1 : lpx x d = ((i % W : Nat) : Int) := congrArg Prod.fst hl
    have h2 : lpy y d = ((i / W : Nat) : Int) := congrArg Prod.snd hl
    rw [h1, h2] at hs
    simp at hs
    exact h hs.1
theorem len_sidesTo (bl : Int → Int → Bool) (W m : Nat) : (sidesTo bl W m).length ≤ 4 * m := by
  induction m with
  | zero => simp [sidesTo]
  | succ m ih =>
    have : (pixL bl W m).length ≤ 4 := by unfold pixL; split; exact len_arL _ _ _; simp
    simp only [sidesTo, List.length_append]; omega
theorem mem_sidesTo {bl : Int → Int → Bool} {W m : Nat} {s : Sd} : s ∈ sidesTo bl W m ↔ isS bl s = true ∧ ∃ i, i < m ∧ lp s = (((i % W : Nat) : Int), ((i / W : Nat) : Int)) := by
  induction m with
  | zero => simp [sidesTo]
  | succ m ih =>
    simp only [sidesTo, List.mem_append, ih, mem_pixL]
    constructor
    · rintro (⟨h, i, hi, e⟩ | ⟨h, e⟩)
      · exact ⟨h, i, by omega, e⟩
      · exact ⟨h, m, by omega, e⟩
    · rintro ⟨h, i, hi, e⟩
      rcases Nat.lt_or_ge i m with h1 | h1
      · exact .inl ⟨h, i, h1, e⟩
      · obtain rfl : i = m := by omega
        exact .inr ⟨h, e⟩
theorem nodup_sidesTo (bl : Int → Int → Bool) (W m : Nat) : (sidesTo bl W m).Nodup := by
  induction m with
  | zero => simp [sidesTo]
  | succ m ih =>
    refine List.nodup_append.2 ⟨ih, by unfold pixL; split; exact nodup_arL _ _ _; simp, fun a ha b hb e => ?_⟩
    subst e
    obtain ⟨_, i, hi, e1⟩ := mem_sidesTo.1 ha
    obtain ⟨_, e2⟩ := mem_pixL.1 hb
    rw [e1] at e2
    have a1 := congrArg Prod.fst e2
    have a2 := congrArg Prod.snd e2
    simp only at a1 a2
    have b1 : i % W = m % W := by omega
    have b2 : i / W = m / W := by omega
    have := Nat.div_add_mod i W
    have := Nat.div_add_mod m W
    rw [b1, b2] at *
    omega
/-- All sides of the picture. -/
theorem all_sidesTo {bl : Int → Int → Bool} {W H : Nat} (hp : Pic bl W H) (s : Sd) : s ∈ sidesTo bl W (W * H) ↔ isS bl s = true := by
  rw [mem_sidesTo]
  refine ⟨fun h => h.1, fun hs => ⟨hs, ?_⟩⟩
  have hd := isS_lt hs
  obtain ⟨x, y, d⟩ := s
  rw [isS_lr _ _ _ _ hd] at hs
  simp at hs
  have hb := hp.box _ _ hs.1
  obtain ⟨a, ha⟩ := Int.eq_ofNat_of_zero_le hb.1
  obtain ⟨b, hbb⟩ := Int.eq_ofNat_of_zero_le hb.2.2.1
  rw [ha, hbb] at hb
  have ha2 : a < W := by omega
  have hb2 : b < H := by omega
  refine ⟨b * W + a, ?_, ?_⟩
  · have : (b + 1) * W ≤ H * W := Nat.mul_le_mul_right _ hb2
    rw [Nat.add_mul] at this
    rw [Nat.mul_comm W H]; omega
  · have e1 : (b * W + a) % W = a := by rw [Nat.add_comm, Nat.add_mul_mod_self_right, Nat.mod_eq_of_lt ha2]
    have e2 : (b * W + a) / W = b := by rw [Nat.add_comm, Nat.add_mul_div_right _ _ (by omega), Nat.div_eq_of_lt ha2]; omega
    rw [e1, e2]
    exact Prod.ext ha hbb
end Go.Proofs.YtljfiefobnncaabGreatDoor.Qm
