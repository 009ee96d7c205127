import Derived.Test.YtgapfjjdccohkaaJcounted04
import Derived.Test.YtgapfjjdccohkaaJcounted01
import Derived.Test.YtgapfjjdccohkaaJcounted02
import Derived.Handy
import Derived.Deep.QuietTactic
import Derived.BigQuiet
import Derived.Deep.RegionHeld3
import Derived.Deep.DrawnRows

/- As many cycles as pieces. Nothing of the program stands here. -/
namespace Go.Proofs.Ytgapfjjdccohkaa.Qm
open Classical

noncomputable def dP (P : Nat → Prop) (i : Nat) : Bool := decide (P i)
theorem dP_iff (P : Nat → Prop) (i : Nat) : dP P i = true ↔ P i := by unfold dP; rw [decide_eq_true_eq]
/-- How many of the first n numbers are so? -/
noncomputable def cntP (P : Nat → Prop) (n : Nat) : Nat := ((List.range n).filter (dP P)).length
theorem cntP_zero (P : Nat → Prop) : cntP P 0 = 0 := rfl
theorem cntP_yes {P : Nat → Prop} {n : Nat} (h : P n) : cntP P (n + 1) = cntP P n + 1 := by
  unfold cntP; rw [List.range_succ, List.filter_append, List.length_append]; simp [dP, h]
theorem cntP_no {P : Nat → Prop} {n : Nat} (h : ¬ P n) : cntP P (n + 1) = cntP P n := by
  unfold cntP; rw [List.range_succ, List.filter_append, List.length_append]; simp [dP, h]
theorem cntP_le (P : Nat → Prop) (n : Nat) : cntP P n ≤ n := by
  have := List.length_filter_le (dP P) (List.range n)
  rw [List.length_range] at this
  exact this
/-- All but the first. -/
theorem cntP_but (P : Nat → Prop) (h : P 0) : ∀ n, cntP P (n + 1) = cntP (fun i => P i ∧ i ≠ 0) (n + 1) + 1
  | 0 => by rw [cntP_yes h, cntP_no (by simp)]; rfl
  | n + 1 => by
    have := cntP_but P h n
    by_cases hp : P (n + 1)
    · rw [cntP_yes hp, cntP_yes (P := fun i => P i ∧ i ≠ 0) ⟨hp, by omega⟩, this]
    · rw [cntP_no hp, cntP_no (P := fun i => P i ∧ i ≠ 0) (fun h => hp h.1), this]

/-- The pixel number i of the grid. -/
def cellP (W i : Nat) : Int × Int := (((i % (W + 2) : Nat) : Int) - 1, ((i / (W + 2) : Nat) : Int) - 1)
theorem cellP_in {W H i : Nat} (h : i < (W + 2) * (H + 2)) : InG W H (cellP W i) := by
  have a := Nat.mod_lt i (show 0 < W + 2 by omega)
  have b : i / (W + 2) < H + 2 := Nat.div_lt_of_lt_mul h
  unfold cellP
  generalize i % (W + 2) = u at *
  generalize i / (W + 2) = v at *
  simp only [InG]; omega
theorem cellP_of {W H : Nat} {p : Int × Int} (h : InG W H p) : ∃ i, i < (W + 2) * (H + 2) ∧ cellP W i = p := by
  obtain ⟨x, y⟩ := p
  simp only [InG] at h
  obtain ⟨a, ha⟩ : ∃ a : Nat, x + 1 = a := ⟨(x + 1).toNat, by omega⟩
  obtain ⟨b, hb⟩ : ∃ b : Nat, y + 1 = b := ⟨(y + 1).toNat, by omega⟩
  refine ⟨(W + 2) * b + a, ?_, ?_⟩
  · have : (W + 2) * (b + 1) ≤ (W + 2) * (H + 2) := Nat.mul_le_mul_left _ (by omega)
    rw [Nat.mul_add, Nat.mul_one] at this
    omega
  · unfold cellP
    rw [Nat.mul_add_mod, Nat.mod_eq_of_lt (by omega), Nat.mul_add_div (by omega), Nat.div_eq_of_lt (by omega)]
    simp only [Prod.mk.injEq]; omega
theorem cellP_lt {W i k : Nat} (h : Bef (cellP W i) (cellP W k)) : i < k := by
  have a := Nat.mod_lt i (show 0 < W + 2 by omega)
  have b := Nat.mod_lt k (show 0 < W + 2 by omega)
  have c := Nat.div_add_mod i (W + 2)
  have d := Nat.div_add_mod k (W + 2)
  simp only [Bef, cellP] at h
  rcases h with h | ⟨h, h2⟩
  · have : (W + 2) * (i / (W + 2) + 1) ≤ (W + 2) * (k / (W + 2)) := Nat.mul_le_mul_left _ (by omega)
    rw [Nat.mul_add, Nat.mul_one] at this
    omega
  · rw [show i / (W + 2) = k / (W + 2) from by omega] at c
    omega
theorem cellP_bef {W i k : Nat} (h : i < k) : Bef (cellP W i) (cellP W k) := by
  have a := Nat.mod_lt i (show 0 < W + 2 by omega)
  have b := Nat.mod_lt k (show 0 < W + 2 by omega)
  have c := Nat.div_add_mod i (W + 2)
  have d := Nat.div_add_mod k (W + 2)
  have e : i / (W + 2) ≤ k / (W + 2) := Nat.div_le_div_right (by omega)
  simp only [Bef, cellP]
  rcases Nat.lt_or_ge (i / (W + 2)) (k / (W + 2)) with h1 | h1
  · exact .inl (by omega)
  · rw [show i / (W + 2) = k / (W + 2) from by omega] at c
    exact .inr ⟨by omega, by omega⟩
def kp (p : Int × Int) : Int := 100 * p.2 + p.1

section
variable {bl : Int → Int → Bool} {j : Bool} {W H : Nat} {R : List (Sd × Nat)}
/-- The first pixel of its piece. -/
def Fst (bl : Int → Int → Bool) (j : Bool) (W H i : Nat) : Prop := ∀ k, k < i → ¬ Cn bl j W H (cellP W i) (cellP W k)

theorem sorted_cells (P : Nat → Bool) (hw : W ≤ 32) (n : Nat) : (((List.range n).filter P).map fun i => kp (cellP W i)).Pairwise (fun a b => a < b) := by
  rw [List.pairwise_map]
  refine List.Pairwise.filter _ (List.Pairwise.imp ?_ List.pairwise_lt_range)
  intro a b hab
  have h := cellP_bef (W := W) hab
  have p := Nat.mod_lt a (show 0 < W + 2 by omega)
  have q := Nat.mod_lt b (show 0 < W + 2 by omega)
  simp only [Bef, cellP, kp] at h ⊢
  omega
theorem sorted_res (hp : Pic bl W H) (hw : W ≤ 32) (hR : Res (nx bl fun _ _ => j) (fun s => isS bl s = true) key R) (P : Sd × Nat → Bool) : ((R.filter P).map fun c => kp (c.1.1, c.1.2.1)).Pairwise (fun a b => a < b) := by
  rw [List.pairwise_map]
  have h1 : R.Pairwise fun a b => kp (a.1.1, a.1.2.1) < kp (b.1.1, b.1.2.1) := by
    refine List.Pairwise.imp_of_mem ?_ hR.2.1
    intro a b ha hb hab
    have i1 := side_in hp (hR.1 a ha).1.1
    have i2 := side_in hp (hR.1 b hb).1.1
    simp only [key] at hab
    simp only [kp]
    omega
  exact List.Pairwise.filter _ h1

/-- The first point of a cycle is the first pixel of a piece. -/
theorem Canon.fst (hp : Pic bl W H) {c : Sd × Nat} (h : Canon (nx bl fun _ _ => j) (fun s => isS bl s = true) key c) : ∃ i, i < (W + 2) * (H + 2) ∧ cellP W i = (c.1.1, c.1.2.1) ∧ Fst bl j W H i := by
  have si := side_in hp h.1.1
  obtain ⟨i, hi, e⟩ := cellP_of (W := W) (H := H) (p := (c.1.1, c.1.2.1)) (by simp only [InG]; omega)
  refine ⟨i, hi, e, fun k hk hc => ?_⟩
  have b := cellP_bef (W := W) hk
  rw [e] at b hc
  have z := h.wn_first hp (u := (cellP W k).1) (v := (cellP W k).2) b
  have w := h.1.cn hc
  rw [z] at w
  simp only at w
  rcases h.dir with hd | hd
  · rw [((h.first hp).1 hd).2.1] at w; omega
  · rw [((h.first hp).2 hd).2.1] at w; omega
theorem lf_bl {s : Sd} (h : isS bl s = true) : bl (lf s).1 (lf s).2 = true ∧ bl (rt s).1 (rt s).2 = false := by
  have is := isS_lr bl s.1 s.2.1 s.2.2 (isS_lt h)
  rw [show (s.1, s.2.1, s.2.2) = s from rfl, h] at is
  simpa [lf, rt] using is.symm

theorem blacks (hp : Pic bl W H) (hw : W ≤ 32) (hR : Res (nx bl fun _ _ => j) (fun s => isS bl s = true) key R) : (R.filter fun c => decide (c.1.2.2 = 0)).length = cntP (fun i => bl (cellP W i).1 (cellP W i).2 = true ∧ Fst bl j W H i) ((W + 2) * (H + 2)) := by
  have e : ((R.filter fun c => decide (c.1.2.2 = 0)).map fun c => kp (c.1.1, c.1.2.1)) = (((List.range ((W + 2) * (H + 2))).filter (dP fun i => bl (cellP W i).1 (cellP W i).2 = true ∧ Fst bl j W H i)).map fun i => kp (cellP W i)) := by
    refine sorted_eq id _ _ (sorted_res hp hw hR _) (sorted_cells _ hw _) fun x => ?_
    simp only [List.mem_map, List.mem_filter, decide_eq_true_eq, dP_iff, List.mem_range]
    constructor
    · rintro ⟨c, ⟨hc, hd⟩, rfl⟩
      have cn := hR.1 c hc
      obtain ⟨i, hi, e, hf⟩ := cn.fst hp
      exact ⟨i, ⟨hi, by rw [e]; exact ((cn.first hp).1 hd).1, hf⟩, by rw [e]⟩
    · rintro ⟨i, ⟨hi, hb, hf⟩, rfl⟩
      have hin := cellP_in hi
      obtain ⟨q, hq⟩ : ∃ q, q = cellP W i := ⟨_, rfl⟩
      obtain ⟨x, y⟩ := q
      have hbx := hp.box _ _ hb
      rw [← hq] at hb hbx hin
      simp only at hb hbx
      have hl : bl (x - 1) y = false := by
        cases hl : bl (x - 1) y with
        | false => rfl
        | true =>
          exfalso
          have g : InG W H (x - 1, y) := by simp only [InG]; omega
          obtain ⟨k, hk, ek⟩ := cellP_of g
          have ad : Adj bl j (x, y) (x - 1, y) := ⟨by simp only; rw [hb, hl], .inr (.inl ⟨rfl, .inr rfl⟩)⟩
          refine hf k (cellP_lt (W := W) (by rw [ek, ← hq]; exact .inr ⟨rfl, by simp only; omega⟩)) ?_
          rw [ek, ← hq]; exact .one ad g
      have is : isS bl (x, y, 0) = true := by simp only [isS, outQ]; rw [hb, hl]; rfl
      obtain ⟨c, hc, m, hm, em⟩ := hR.2.2 _ is
      have cn := hR.1 c hc
      have key' : c.1 = (x, y, 0) := by
        cases m with
        | zero => exact em.symm
        | succ m =>
          exfalso
          have kl := cn.2 (m + 1) (by omega) hm
          rw [← em] at kl
          have cc := (it_cn (j := j) hp cn.1.1 (m + 1)).1
          rw [← em] at cc
          have lb := (lf_bl cn.1.1).1
          have lx := hp.box _ _ lb
          have gi : InG W H (lf c.1) := by simp only [InG]; omega
          have s2 := cc.symm gi
          have el : lf (x, y, 0) = (x, y) := by simp [lf, lpx, lpy]
          rw [el] at s2
          obtain ⟨k, hk, ek⟩ := cellP_of gi
          refine hf k (cellP_lt (W := W) ?_) (by rw [ek, ← hq]; exact s2)
          rw [ek, ← hq]
          have si := side_in hp cn.1.1
          have w32 := hp.w
          rcases cn.dir with hd | hd
          · have e2 : lf c.1 = (c.1.1, c.1.2.1) := by unfold lf; rw [hd]; simp [lpx, lpy]
            rw [e2]
            simp only [key] at kl
            simp only [Bef]; omega
          · have e2 : lf c.1 = (c.1.1, c.1.2.1 - 1) := by unfold lf; rw [hd]; simp [lpx, lpy]
            rw [e2]
            simp only [key] at kl
            simp only [Bef]; omega
      exact ⟨c, ⟨hc, by rw [key']⟩, by rw [key', ← hq]⟩
  have := congrArg List.length e
  simpa [cntP] using this

theorem whites (hp : Pic bl W H) (hw : W ≤ 32) (hR : Res (nx bl fun _ _ => j) (fun s => isS bl s = true) key R) : (R.filter fun c => decide (c.1.2.2 = 1)).length + 1 = cntP (fun i => bl (cellP W i).1 (cellP W i).2 = false ∧ Fst bl j W H i) ((W + 2) * (H + 2)) := by
  have out : ∀ x y, ¬ (0 ≤ x ∧ x < (W : Int) ∧ 0 ≤ y ∧ y < (H : Int)) → bl x y = false := fun x y hn => by
    cases hl : bl x y with
    | false => rfl
    | true => exact absurd (hp.box _ _ hl) hn
  have T : (W + 2) * (H + 2) = ((W + 2) * (H + 2) - 1) + 1 := by have : 1 ≤ (W + 2) * (H + 2) := Nat.mul_le_mul (show 1 ≤ W + 2 by omega) (show 1 ≤ H + 2 by omega); omega
  rw [T, cntP_but _ ⟨out _ _ (by simp only [cellP, Nat.zero_mod, Nat.zero_div]; omega), fun k hk => by omega⟩, ← T]
  congr 1
  have e : ((R.filter fun c => decide (c.1.2.2 = 1)).map fun c => kp (c.1.1, c.1.2.1)) = (((List.range ((W + 2) * (H + 2))).filter (dP fun i => (bl (cellP W i).1 (cellP W i).2 = false ∧ Fst bl j W H i) ∧ i ≠ 0)).map fun i => kp (cellP W i)) := by
    refine sorted_eq id _ _ (sorted_res hp hw hR _) (sorted_cells _ hw _) fun x => ?_
    simp only [List.mem_map, List.mem_filter, decide_eq_true_eq, dP_iff, List.mem_range]
    constructor
    · rintro ⟨c, ⟨hc, hd⟩, rfl⟩
      have cn := hR.1 c hc
      obtain ⟨i, hi, e, hf⟩ := cn.fst hp
      have si := side_in hp cn.1.1
      refine ⟨i, ⟨hi, ⟨by rw [e]; exact ((cn.first hp).2 hd).1, hf⟩, fun h0 => ?_⟩, by rw [e]⟩
      subst h0
      have := congrArg Prod.fst e
      simp only [cellP, Nat.zero_mod] at this
      omega
    · rintro ⟨i, ⟨hi, ⟨hb, hf⟩, h0⟩, rfl⟩
      have hin := cellP_in hi
      obtain ⟨q, hq⟩ : ∃ q, q = cellP W i := ⟨_, rfl⟩
      obtain ⟨x, y⟩ := q
      rw [← hq] at hb hin
      simp only at hb
      simp only [InG] at hin
      -- no pixel that holds together with it comes ahead of it
      have no : ∀ p, InG W H p → Bef p (x, y) → ¬ Adj bl j (x, y) p := fun p g b ad => by
        obtain ⟨k, hk, ek⟩ := cellP_of g
        refine hf k (cellP_lt (W := W) (by rw [ek, ← hq]; exact b)) ?_
        rw [ek, ← hq]; exact .one ad g
      have hy : 0 ≤ y := by
        by_cases hy : 0 ≤ y
        · exact hy
        · exfalso
          by_cases hx : x = -1
          · obtain ⟨k0, _, _⟩ : ∃ k : Nat, k = 0 ∧ True := ⟨0, rfl, trivial⟩
            have : Bef (cellP W 0) (cellP W i) := cellP_bef (by omega)
            rw [← hq] at this
            simp only [Bef, cellP, Nat.zero_mod, Nat.zero_div] at this
            omega
          · refine no (x - 1, y) (by simp only [InG]; omega) (.inr ⟨rfl, by simp only; omega⟩) ⟨?_, .inr (.inl ⟨rfl, .inr rfl⟩)⟩
            simp only
            rw [out x y (by omega), out (x - 1) y (by omega)]
      have hl : bl x (y - 1) = true := by
        cases hl : bl x (y - 1) with
        | true => rfl
        | false => exact absurd ⟨by simp only; rw [hb, hl], .inl ⟨rfl, .inr rfl⟩⟩ (no (x, y - 1) (by simp only [InG]; omega) (.inl (by simp only; omega)))
      have is : isS bl (x, y, 1) = true := by simp only [isS, outQ]; rw [hb, hl]; rfl
      obtain ⟨c, hc, m, hm, em⟩ := hR.2.2 _ is
      have cn := hR.1 c hc
      have key' : c.1 = (x, y, 1) := by
        cases m with
        | zero => exact em.symm
        | succ m =>
          exfalso
          have kl := cn.2 (m + 1) (by omega) hm
          rw [← em] at kl
          have cc := (it_cn (j := j) hp cn.1.1 (m + 1)).2
          rw [← em] at cc
          have si := side_in hp cn.1.1
          have si2 := side_in hp is
          simp only at si2
          have w32 := hp.w
          have el : rt (x, y, 1) = (x, y) := by simp [rt, rpx, rpy]
          rw [el] at cc
          simp only [key] at kl
          rcases cn.dir with hd | hd
          · have e2 : rt c.1 = (c.1.1 - 1, c.1.2.1) := by unfold rt; rw [hd]; simp [rpx, rpy]
            rw [e2] at cc
            have gi : InG W H (c.1.1 - 1, c.1.2.1) := by simp only [InG]; omega
            obtain ⟨k, hk, ek⟩ := cellP_of gi
            refine hf k (cellP_lt (W := W) ?_) (by rw [ek, ← hq]; exact cc.symm gi)
            rw [ek, ← hq]
            simp only [Bef]; omega
          · have e2 : rt c.1 = (c.1.1, c.1.2.1) := by unfold rt; rw [hd]; simp [rpx, rpy]
            rw [e2] at cc
            have gi : InG W H (c.1.1, c.1.2.1) := by simp only [InG]; omega
            obtain ⟨k, hk, ek⟩ := cellP_of gi
            refine hf k (cellP_lt (W := W) ?_) (by rw [ek, ← hq]; exact cc.symm gi)
            rw [ek, ← hq]
            simp only [Bef]; omega
      exact ⟨c, ⟨hc, by rw [key']⟩, by rw [key', ← hq]⟩
  have := congrArg List.length e
  simpa [cntP] using this
end
end Go.Proofs.Ytgapfjjdccohkaa.Qm

/- bitmap.IsBlack, and the small functions of package cycles. -/
namespace Go.Proofs.Ytgapfjjdccohkaa
open Go.RowKit

set_option maxHeartbeats 1000000 in
theorem isBlack_any (W H : Nat) (s : ByteArray) (x y : Int) (w : World) (hw2 : W ≤ 32) (hh2 : H ≤ 32) (hl : s.size = W * H) :
    Calls Try.prog 86 #[.agg #[.int .i64 W, .int .i64 H, .string s], .int .i64 x, .int .i64 y] w fun e w' => e = .returned (.bool (Pm.blackB W H s.data.toList x y)) ∧ w' = w.alloc (.cells #[.int .i64 W, .int .i64 H, .string s] 23) := by
  have HL := Hid.out (p := Hid (s.size = W * H)) hl
  clear hl
  by_cases x0 : 0 ≤ x
  · by_cases x1 : x < W
    · by_cases y0 : 0 ≤ y
      · by_cases y1 : y < H
        · obtain ⟨x, rfl⟩ := Int.eq_ofNat_of_zero_le x0
          obtain ⟨y, rfl⟩ := Int.eq_ofNat_of_zero_le y0
          have hx : x < W := by omega
          have hy : y < H := by omega
          have sp := Pm.span W H y hy
          have ar := Pm.area_nat W H hw2 hh2
          obtain ⟨a, ha⟩ : ∃ a, a = y * W := ⟨_, rfl⟩
          have ea : (y : Int) * (W : Int) = (a : Nat) := by rw [ha]; simp
          have hab : a + x < s.size := by have := HL.out; omega
          have hb4 : a + x ≤ 1024 := by omega
          have E := Pm.blackB_in W H s.data.toList x y hx hy a ha
          have HE : Hid _ := E
          have HA : Hid _ := ha
          clear E ha sp ar
          by_cases q : (s[a + x].toNat : Int) = 49
          · go_enter Try.func86, Try.ntmps86
            go_wp2
            go_ret
            exact ⟨ret_bool (by rw [HE.out, Pm.bitAt_yes s _ hab q]), rfl⟩
          · have b0 : ((s[a + x].toNat : Int) == 49) = false := by simpa using q
            go_enter Try.func86, Try.ntmps86
            go_wp2
            go_ret
            exact ⟨ret_bool (by rw [HE.out, Pm.bitAt_no s _ hab q]), rfl⟩
        · have E := Pm.blackB_out W H s.data.toList x y (by omega)
          have HE : Hid _ := E
          clear E
          go_enter Try.func86, Try.ntmps86
          go_wp2
          go_ret
          exact ⟨ret_bool HE.out.symm, rfl⟩
      · have E := Pm.blackB_out W H s.data.toList x y (by omega)
        have HE : Hid _ := E
        clear E
        go_enter Try.func86, Try.ntmps86
        go_wp2
        go_ret
        exact ⟨ret_bool HE.out.symm, rfl⟩
    · have E := Pm.blackB_out W H s.data.toList x y (by omega)
      have HE : Hid _ := E
      clear E
      go_enter Try.func86, Try.ntmps86
      go_wp2
      go_ret
      exact ⟨ret_bool HE.out.symm, rfl⟩
  · have E := Pm.blackB_out W H s.data.toList x y (by omega)
    have HE : Hid _ := E
    clear E
    go_enter Try.func86, Try.ntmps86
    go_wp2
    go_ret
    exact ⟨ret_bool HE.out.symm, rfl⟩

set_option maxHeartbeats 400000 in
theorem leftOf_any (d : Nat) (hd : d < 4) (w : World) :
    Calls Try.prog 78 #[.int .i64 d] w fun e w' => e = .returned (.int .i64 ((d + 1) % 4 : Nat)) ∧ w' = w := by
  go_enter Try.func78, Try.ntmps78
  go_wp2
  go_ret
  exact ⟨ret_int (by omega), rfl⟩

set_option maxHeartbeats 400000 in
theorem rightOf_any (d : Nat) (hd : d < 4) (w : World) :
    Calls Try.prog 79 #[.int .i64 d] w fun e w' => e = .returned (.int .i64 ((d + 3) % 4 : Nat)) ∧ w' = w := by
  go_enter Try.func79, Try.ntmps79
  go_wp2
  go_ret
  exact ⟨ret_int (by omega), rfl⟩

set_option maxHeartbeats 400000 in
theorem end_any (x y : Int) (d : Nat) (hd : d < 4) (hx : -1000 ≤ x ∧ x ≤ 1000) (hy : -1000 ≤ y ∧ y ≤ 1000) (w : World) :
    Calls Try.prog 77 #[.agg #[.int .i64 x, .int .i64 y, .int .i64 d]] w fun e w' => e = .returned (.agg #[.int .i64 (Qm.en (x, y, d)).1, .int .i64 (Qm.en (x, y, d)).2]) ∧ ∃ o1 o2 o3, w' = ((w.alloc (.cells o1 100)).alloc (.cells o2 47)).alloc (.cells o3 47) := by
  match d, hd with
  | 0, _ =>
    go_enter Try.func77, Try.ntmps77
    go_wp2
    refine bodyPost_ret (v := .agg #[.int .i64 x, .int .i64 (y + 1)]) (by simp [results, Try.results77, go_sem]) rfl ?_
    exact ⟨rfl, _, _, _, rfl⟩
  | 1, _ =>
    go_enter Try.func77, Try.ntmps77
    go_wp2
    refine bodyPost_ret (v := .agg #[.int .i64 (x + 1), .int .i64 y]) (by simp [results, Try.results77, go_sem]) rfl ?_
    exact ⟨rfl, _, _, _, rfl⟩
  | 2, _ =>
    go_enter Try.func77, Try.ntmps77
    go_wp2
    refine bodyPost_ret (v := .agg #[.int .i64 x, .int .i64 (y - 1)]) (by simp [results, Try.results77, go_sem]) rfl ?_
    exact ⟨rfl, _, _, _, rfl⟩
  | 3, _ =>
    go_enter Try.func77, Try.ntmps77
    go_wp2
    refine bodyPost_ret (v := .agg #[.int .i64 (x - 1), .int .i64 y]) (by simp [results, Try.results77, go_sem]) rfl ?_
    exact ⟨rfl, _, _, _, rfl⟩
end Go.Proofs.Ytgapfjjdccohkaa

/- The small functions of outlinekeep: black, before, code, options. -/
namespace Go.Proofs.Ytgapfjjdccohkaa
open Go.RowKit

set_option maxHeartbeats 1000000 in
theorem keepBlack_any (W H : Nat) (s : ByteArray) (x y : Int) (w : World) (hw2 : W ≤ 32) (hh2 : H ≤ 32) (hl : s.size = W * H) :
    Calls Try.prog 37 #[.agg #[.int .i64 W, .int .i64 H, .string s], .int .i64 x, .int .i64 y] w fun e w' => e = .returned (.bool (Pm.blackB W H s.data.toList x y)) ∧ w' = w.alloc (.cells #[.int .i64 W, .int .i64 H, .string s] 23) := by
  have HL := Hid.out (p := Hid (s.size = W * H)) hl
  clear hl
  by_cases x0 : 0 ≤ x
  · by_cases y0 : 0 ≤ y
    · by_cases x1 : x < W
      · by_cases y1 : y < H
        · obtain ⟨x, rfl⟩ := Int.eq_ofNat_of_zero_le x0
          obtain ⟨y, rfl⟩ := Int.eq_ofNat_of_zero_le y0
          have hx : x < W := by omega
          have hy : y < H := by omega
          have sp := Pm.span W H y hy
          have ar := Pm.area_nat W H hw2 hh2
          obtain ⟨a, ha⟩ : ∃ a, a = y * W := ⟨_, rfl⟩
          have ea : (y : Int) * (W : Int) = (a : Nat) := by rw [ha]; simp
          have hab : a + x < s.size := by have := HL.out; omega
          have hb4 : a + x ≤ 1024 := by omega
          have E := Pm.blackB_in W H s.data.toList x y hx hy a ha
          have HE : Hid _ := E
          have HA : Hid _ := ha
          clear E ha sp ar
          by_cases q : (s[a + x].toNat : Int) = 49
          · go_enter Try.func37, Try.ntmps37
            go_wp2
            go_ret
            exact ⟨ret_bool (by rw [HE.out, Pm.bitAt_yes s _ hab q]), rfl⟩
          · have b0 : ((s[a + x].toNat : Int) == 49) = false := by simpa using q
            go_enter Try.func37, Try.ntmps37
            go_wp2
            go_ret
            exact ⟨ret_bool (by rw [HE.out, Pm.bitAt_no s _ hab q]), rfl⟩
        · have E := Pm.blackB_out W H s.data.toList x y (by omega)
          have HE : Hid _ := E
          clear E
          go_enter Try.func37, Try.ntmps37
          go_wp2
          go_ret
          exact ⟨ret_bool HE.out.symm, rfl⟩
      · have E := Pm.blackB_out W H s.data.toList x y (by omega)
        have HE : Hid _ := E
        clear E
        go_enter Try.func37, Try.ntmps37
        go_wp2
        go_ret
        exact ⟨ret_bool HE.out.symm, rfl⟩
    · have E := Pm.blackB_out W H s.data.toList x y (by omega)
      have HE : Hid _ := E
      clear E
      go_enter Try.func37, Try.ntmps37
      go_wp2
      go_ret
      exact ⟨ret_bool HE.out.symm, rfl⟩
  · have E := Pm.blackB_out W H s.data.toList x y (by omega)
    have HE : Hid _ := E
    clear E
    go_enter Try.func37, Try.ntmps37
    go_wp2
    go_ret
    exact ⟨ret_bool HE.out.symm, rfl⟩

set_option maxHeartbeats 400000 in
theorem before_any (a b x y : Int) (w : World) :
    Calls Try.prog 17 #[.agg #[.int .i64 a, .int .i64 b], .agg #[.int .i64 x, .int .i64 y]] w fun e w' => e = .returned (.bool (decide (b < y ∨ (b = y ∧ a < x)))) ∧ w' = (w.alloc (.cells #[.int .i64 a, .int .i64 b] 47)).alloc (.cells #[.int .i64 x, .int .i64 y] 47) := by
  by_cases h1 : b < y
  · go_enter Try.func17, Try.ntmps17
    go_wp2
    go_ret
    exact ⟨ret_bool (by simp [h1]), rfl⟩
  · by_cases h2 : b = y
    · by_cases h3 : a < x
      · go_enter Try.func17, Try.ntmps17
        go_wp2
        go_ret
        exact ⟨ret_bool (by simp), rfl⟩
      · go_enter Try.func17, Try.ntmps17
        go_wp2
        go_ret
        exact ⟨ret_bool (by simp [h3]), rfl⟩
    · go_enter Try.func17, Try.ntmps17
      go_wp2
      go_ret
      exact ⟨ret_bool (by simp [h1]), rfl⟩
end Go.Proofs.Ytgapfjjdccohkaa

/- outlinekeep: code, isSide. -/
namespace Go.Proofs.Ytgapfjjdccohkaa
open Go.RowKit

set_option maxHeartbeats 1000000 in
theorem code_any (t : Qm.Sd) (d4 : t.2.2 < 4) (x0 : 0 ≤ t.1) (x1 : t.1 ≤ 32) (y0 : 0 ≤ t.2.1) (y1 : t.2.1 ≤ 32) (w : World) :
    Calls Try.prog 20 #[.agg #[.int .i64 (Qm.fromP t).1, .int .i64 (Qm.fromP t).2], .agg #[.int .i64 (Qm.en t).1, .int .i64 (Qm.en t).2]] w fun e w' => e = .returned (.int .i64 (Qm.codeS t)) ∧ Below w.heap.size w w' := by
  obtain ⟨x, y, d⟩ := t
  simp only at d4 x0 x1 y0 y1
  match d, d4 with
  | 0, _ =>
    simp only [Qm.fromP, Qm.en, Qm.codeS, Qm.key]
    go_enter Try.func20, Try.ntmps20
    go_wp2
    go_ret
    exact ⟨ret_int (by omega), by go_grown⟩
  | 1, _ =>
    simp only [Qm.fromP, Qm.en, Qm.codeS, Qm.key]
    go_enter Try.func20, Try.ntmps20
    go_wp2
    go_ret
    exact ⟨ret_int (by omega), by go_grown⟩
  | 2, _ =>
    simp only [Qm.fromP, Qm.en, Qm.codeS, Qm.key]
    go_enter Try.func20, Try.ntmps20
    go_wp2
    go_ret
    exact ⟨ret_int (by omega), by go_grown⟩
  | 3, _ =>
    simp only [Qm.fromP, Qm.en, Qm.codeS, Qm.key]
    go_enter Try.func20, Try.ntmps20
    go_wp2
    go_ret
    exact ⟨ret_int (by omega), by go_grown⟩
end Go.Proofs.Ytgapfjjdccohkaa

/- pixelBetween, isSide of package cycles. -/
namespace Go.Proofs.Ytgapfjjdccohkaa
open Go.RowKit

set_option maxHeartbeats 2000000 in
theorem pixelBetween_any (x y : Int) (a b : Nat) (hx : -1000 ≤ x ∧ x ≤ 1000) (hy : -1000 ≤ y ∧ y ≤ 1000) (w : World) :
    Calls Try.prog 85 #[.agg #[.int .i64 x, .int .i64 y], .int .i64 a, .int .i64 b] w fun e w' => e = .returned (.agg #[.int .i64 (if a = 3 ∨ b = 3 then x - 1 else x), .int .i64 (if a = 2 ∨ b = 2 then y - 1 else y)]) ∧ ∃ o1 o2, w' = (w.alloc (.cells o1 47)).alloc (.cells o2 47) := by
  have key : ∀ (p q r t : Bool), ((a : Int) == 2) = p → ((b : Int) == 2) = q → ((a : Int) == 3) = r → ((b : Int) == 3) = t →
    Calls Try.prog 85 #[.agg #[.int .i64 x, .int .i64 y], .int .i64 a, .int .i64 b] w fun e w' => e = .returned (.agg #[.int .i64 (if (r || t) = true then x - 1 else x), .int .i64 (if (p || q) = true then y - 1 else y)]) ∧ ∃ o1 o2, w' = (w.alloc (.cells o1 47)).alloc (.cells o2 47) := by
    intro p q r t h1 h2 h3 h4
    cases p <;> cases q <;> cases r <;> cases t <;>
    · go_enter Try.func85, Try.ntmps85
      go_wp2
      refine bodyPost_ret (by simp [results, Try.results85, go_sem]; rfl) rfl ?_
      exact ⟨rfl, _, _, rfl⟩
  refine (key _ _ _ _ rfl rfl rfl rfl).mono ?_
  rintro e w' ⟨rfl, hb⟩
  refine ⟨?_, hb⟩
  simp only [Bool.or_eq_true, beq_iff_eq]
  norm_cast

theorem pixLeft_any (x y : Int) (d : Nat) (hx : -1000 ≤ x ∧ x ≤ 1000) (hy : -1000 ≤ y ∧ y ≤ 1000) (w : World) :
    Calls Try.prog 85 #[.agg #[.int .i64 x, .int .i64 y], .int .i64 d, .int .i64 ((d + 1) % 4 : Nat)] w fun e w' => e = .returned (.agg #[.int .i64 (Qm.lpx x d), .int .i64 (Qm.lpy y d)]) ∧ ∃ o1 o2, w' = (w.alloc (.cells o1 47)).alloc (.cells o2 47) := pixelBetween_any x y d _ hx hy w
theorem pixRight_any (x y : Int) (d : Nat) (hx : -1000 ≤ x ∧ x ≤ 1000) (hy : -1000 ≤ y ∧ y ≤ 1000) (w : World) :
    Calls Try.prog 85 #[.agg #[.int .i64 x, .int .i64 y], .int .i64 d, .int .i64 ((d + 3) % 4 : Nat)] w fun e w' => e = .returned (.agg #[.int .i64 (Qm.rpx x d), .int .i64 (Qm.rpy y d)]) ∧ ∃ o1 o2, w' = (w.alloc (.cells o1 47)).alloc (.cells o2 47) := pixelBetween_any x y d _ hx hy w

end Go.Proofs.Ytgapfjjdccohkaa

/- isSide of package cycles. -/
namespace Go.Proofs.Ytgapfjjdccohkaa
open Go.RowKit
attribute [local go_sem ↓] Go.wp_at_zero Go.wp_at_succ

/-- A block's cells stand, and may be written. -/
def At (w : World) (b : Nat) (cs : List Value) : Prop := b < w.heap.size ∧ (∀ j v, cs[j]? = some v → w.cell? ⟨b, j, none⟩ = some v) ∧ (∀ j, j < cs.length → w.frozen? ⟨b, j, none⟩ = false)
theorem At.on {w w' : World} {b B : Nat} {cs : List Value} (h : At w b cs) (hb : Below B w w') (hB : b < B) : At w' b cs :=
  ⟨Nat.lt_of_lt_of_le h.1 hb.size, fun j v hj => (hb.cell (p := ⟨b, j, none⟩) hB).trans (h.2.1 j v hj), fun j hj => (hb.frozen (p := ⟨b, j, none⟩) hB).trans (h.2.2 j hj)⟩
theorem At.call {w w' : World} {b : Nat} {cs : List Value} (h : At w b cs) (hb : Below w.heap.size w w') : At w' b cs := h.on hb h.1
theorem At.new (w : World) (cs : List Value) (t : TypeId) : At (w.alloc (.cells cs.toArray t)) w.heap.size cs := by
  refine ⟨by simp, fun j v hj => ?_, fun j hj => by simp⟩
  simp [hj]
theorem At.alloc {w : World} {b : Nat} {cs : List Value} (h : At w b cs) (o : Obj) : At (w.alloc o) b cs := h.call ((Below.refl _ _).alloc (Nat.le_refl _) _)

set_option maxHeartbeats 2000000 in
theorem cIsSide_any (W H : Nat) (s : ByteArray) (x y : Int) (d : Nat) (hd : d < 4) (hx : -1000 ≤ x ∧ x ≤ 1000) (hy : -1000 ≤ y ∧ y ≤ 1000) (w : World) (hw2 : W ≤ 32) (hh2 : H ≤ 32) (hl : s.size = W * H) :
    Calls Try.prog 76 #[.agg #[.int .i64 W, .int .i64 H, .string s], .agg #[.int .i64 x, .int .i64 y, .int .i64 d]] w fun e w' => e = .returned (.bool (Qm.isS (Pm.blackB W H s.data.toList) (x, y, d))) ∧ Below w.heap.size w w' := by
  have HL := hid hl
  clear hl
  rw [Qm.isS_lr _ _ _ _ hd]
  obtain ⟨a, ha⟩ : ∃ a, Pm.blackB W H s.data.toList (Qm.rpx x d) (Qm.rpy y d) = a := ⟨_, rfl⟩
  rw [ha]
  have HA := hid ha
  clear ha
  go_enter Try.func76, Try.ntmps76
  go_wp2_with fail
  go_region_held3 (fun w' => w'.cell? ⟨w.heap.size + 1, 0, none⟩ = some (.int .i64 x) ∧ w'.cell? ⟨w.heap.size + 1, 1, none⟩ = some (.int .i64 y) ∧ w'.cell? ⟨w.heap.size + 1, 2, none⟩ = some (.int .i64 d))
    (first | (simp [go_sem]; done) | (go_keep))
    (first | (go_at_call 78; refine (leftOf_any d hd _).mono ?_; rintro e w1 ⟨rfl, rfl⟩) | (go_at_call 85; refine (pixLeft_any x y d hx hy _).mono ?_; rintro e w1 ⟨rfl, o1, o2, rfl⟩))
  all_goals go_wp2_with fail
  all_goals
    go_region_held3 (fun w' => w'.cell? ⟨w.heap.size + 1, 0, none⟩ = some (.int .i64 x) ∧ w'.cell? ⟨w.heap.size + 1, 1, none⟩ = some (.int .i64 y) ∧ w'.cell? ⟨w.heap.size + 1, 2, none⟩ = some (.int .i64 d))
      (first | (simp [go_sem]; done) | (go_keep))
      (first | (go_at_call 79; refine (rightOf_any d hd _).mono ?_; rintro e w1 ⟨rfl, rfl⟩) | (go_at_call 85; refine (pixRight_any x y d hx hy _).mono ?_; rintro e w1 ⟨rfl, o3, o4, rfl⟩))
  all_goals go_wp2_with fail
  all_goals
    refine (isBlack_any W H s _ _ _ hw2 hh2 HL.out).mono ?_
    rintro e w1 ⟨rfl, rfl⟩
    rw [HA.out]
  all_goals cases a
  all_goals go_wp2_with (go_at_call 86; refine (isBlack_any W H s _ _ _ hw2 hh2 HL.out).mono ?_; rintro e w1 ⟨rfl, rfl⟩)
  all_goals go_ret
  all_goals exact ⟨ret_bool (by simp), by go_grown⟩
end Go.Proofs.Ytgapfjjdccohkaa

/- blackAround, isDrawn, joins of package cycles. -/
namespace Go.Proofs.Ytgapfjjdccohkaa
open Go.RowKit
attribute [local go_sem ↓] Go.wp_at_zero Go.wp_at_succ

/-- A box of three cells and one of two behind it stand; below them all is as it was. -/
def Bp (B : Nat) (a b c x y : Value) (w wr : World) : Prop :=
  wr.cell? ⟨B, 0, none⟩ = some a ∧ wr.cell? ⟨B, 1, none⟩ = some b ∧ wr.cell? ⟨B, 2, none⟩ = some c ∧ wr.cell? ⟨B + 1, 0, none⟩ = some x ∧ wr.cell? ⟨B + 1, 1, none⟩ = some y ∧ Below B w wr ∧ B + 1 < wr.heap.size
theorem Bp.on {B : Nat} {a b c x y : Value} {w wr w2 : World} (h : Bp B a b c x y w wr) (hb : Below wr.heap.size wr w2) : Bp B a b c x y w w2 := by
  obtain ⟨c0, c1, c2, c3, c4, hn, hz⟩ := h
  have hz' : B < wr.heap.size := by omega
  exact ⟨(hb.cell (p := ⟨B, 0, none⟩) hz').trans c0, (hb.cell (p := ⟨B, 1, none⟩) hz').trans c1, (hb.cell (p := ⟨B, 2, none⟩) hz').trans c2, (hb.cell (p := ⟨B + 1, 0, none⟩) hz).trans c3, (hb.cell (p := ⟨B + 1, 1, none⟩) hz).trans c4, hn.trans (hb.mono (Nat.le_of_lt hz')), Nat.lt_of_lt_of_le hz hb.size⟩
theorem Bp.new (w : World) (a b c x y : Value) (t u : TypeId) : Bp w.heap.size a b c x y w ((w.alloc (.cells #[a, b, c] t)).alloc (.cells #[x, y] u)) :=
  ⟨by simp, by simp, by simp, by simp [go_sem], by simp [go_sem], ((Below.refl _ _).alloc (Nat.le_refl _) _).alloc (by simp) _, by simp⟩
theorem Bp.alloc {B : Nat} {a b c x y : Value} {w wr : World} (h : Bp B a b c x y w wr) (o : Obj) : Bp B a b c x y w (wr.alloc o) := h.on ((Below.refl _ _).alloc (Nat.le_refl _) _)

set_option maxHeartbeats 2000000 in
theorem blackAround_any (W H : Nat) (s : ByteArray) (X Y : Int) (hx : 0 ≤ X ∧ X ≤ 100) (hy : 0 ≤ Y ∧ Y ≤ 100) (w : World) (hw2 : W ≤ 32) (hh2 : H ≤ 32) (hl : s.size = W * H) :
    Calls Try.prog 87 #[.agg #[.int .i64 W, .int .i64 H, .string s], .agg #[.int .i64 X, .int .i64 Y]] w fun e w' => e = .returned (.int .i64 (Qm.cntTo (Pm.blackB W H s.data.toList) X Y 16 : Nat)) ∧ Below w.heap.size w w' := by
  have HL := hid hl
  clear hl
  go_enter Try.func87, Try.ntmps87
  go_wp2
  go_loopw [5, 6] (fun n y wr => ∃ i : Nat, i ≤ 4 ∧ y = .int .i64 (Y - 2 + (i : Nat)) ∧ n = .int .i64 (Qm.cntTo (Pm.blackB W H s.data.toList) X Y (4 * i) : Nat) ∧ Bp w.heap.size (.int .i64 W) (.int .i64 H) (.string s) (.int .i64 X) (.int .i64 Y) w wr) (fun _ y _ => (Y + 5 - intOf y).toNat)
  case atStart => exact ⟨0, by omega, by simp, rfl, Bp.new ..⟩
  case round =>
    obtain ⟨i, hi, rfl, rfl, hB⟩ := hrel
    have HB := hid hB
    obtain ⟨c0, c1, c2, c3, c4, -, hz⟩ := hB
    by_cases hlt : i < 4
    · have hlt' : Y - 2 + (i : Int) ≤ Y + 1 := by omega
      go_wp2
      go_loopw [5, 7] (fun n x wr => ∃ j : Nat, j ≤ 4 ∧ x = .int .i64 (X - 2 + (j : Nat)) ∧ n = .int .i64 (Qm.cntTo (Pm.blackB W H s.data.toList) X Y (4 * i + j) : Nat) ∧ Bp w.heap.size (.int .i64 W) (.int .i64 H) (.string s) (.int .i64 X) (.int .i64 Y) w wr) (fun _ x _ => (X + 5 - intOf x).toNat)
      case atStart => exact ⟨0, by omega, by simp, rfl, HB.out⟩
      case round =>
        clear c0 c1 c2 c3 c4 hz HB
        obtain ⟨j, hj, rfl, rfl, hB⟩ := hrel
        have HB := hid hB
        obtain ⟨c0, c1, c2, c3, c4, -, hz⟩ := hB
        by_cases hj4 : j < 4
        · have hjt : X - 2 + (j : Int) ≤ X + 1 := by omega
          have hc := Qm.cntTo_le (Pm.blackB W H s.data.toList) X Y (4 * i + j)
          cases hq : Pm.blackB W H s.data.toList (X - 2 + (j : Nat)) (Y - 2 + (i : Nat))
          · have E := hid (Qm.cntTo_no (Pm.blackB W H s.data.toList) X Y i j hj4 hq)
            go_wp2_with (go_at_call 86; refine (isBlack_any W H s _ _ _ hw2 hh2 HL.out).mono ?_; rintro e w1 ⟨rfl, rfl⟩; rw [hq])
            go_roundw
            case rel => exact ⟨j + 1, by omega, by go_num, by rw [E.out], HB.out.alloc _⟩
            case measure => simp [intOf]; omega
          · have E := hid (Qm.cntTo_yes (Pm.blackB W H s.data.toList) X Y i j hj4 hq)
            go_wp2_with (go_at_call 86; refine (isBlack_any W H s _ _ _ hw2 hh2 HL.out).mono ?_; rintro e w1 ⟨rfl, rfl⟩; rw [hq])
            go_roundw
            case rel => exact ⟨j + 1, by omega, by go_num, by rw [E.out]; go_num, HB.out.alloc _⟩
            case measure => simp [intOf]; omega
        · have e4 : j = 4 := by omega
          subst e4
          go_wp2
          go_roundw
          case rel => exact ⟨i + 1, by omega, by go_num, rfl, HB.out⟩
          case measure => simp [intOf]; omega
    · have e4 : i = 4 := by omega
      subst e4
      go_wp2
      go_ret
      exact ⟨rfl, HB.out.2.2.2.2.2.1⟩
end Go.Proofs.Ytgapfjjdccohkaa

/- isDrawn, joins of package cycles. -/
namespace Go.Proofs.Ytgapfjjdccohkaa
open Go.RowKit
attribute [local go_sem ↓] Go.wp_at_zero Go.wp_at_succ

set_option maxHeartbeats 2000000 in
theorem isDrawn_any (W H : Nat) (s : ByteArray) (pol : Int) (draws : ByteArray) (spk : Int) (x y : Nat) (hx : x ≤ 100) (hy : y ≤ 100) (w : World) (hw2 : W ≤ 32) :
    Calls Try.prog 88 #[.agg #[.int .i64 W, .int .i64 H, .string s], .agg #[.int .i64 pol, .string draws, .int .i64 spk], .agg #[.int .i64 x, .int .i64 y]] w fun e w' => e = .returned (.bool (Pm.bitAt draws.data.toList ((y : Int) * (W + 1) + x).toNat)) ∧ Below w.heap.size w w' := by
  obtain ⟨k, hk⟩ : ∃ k : Nat, k = y * (W + 1) := ⟨_, rfl⟩
  have ek : (y : Int) * ((W : Int) + 1) = (k : Nat) := by rw [hk]; simp
  have hk2 : k ≤ 100 * 33 := by rw [hk]; exact Nat.mul_le_mul hy (by omega)
  rw [ek, show ((k : Int) + (x : Int)).toNat = k + x from by omega]
  clear hk
  by_cases hlt : k + x < draws.size
  · by_cases q : (draws[k + x].toNat : Int) = 49
    · have E := hid (Pm.bitAt_yes draws _ hlt q)
      go_enter Try.func88, Try.ntmps88
      go_wp2
      go_ret
      exact ⟨ret_bool E.out.symm, by go_grown⟩
    · have E := hid (Pm.bitAt_no draws _ hlt q)
      have b0 : ((draws[k + x].toNat : Int) == 49) = false := by simpa using q
      go_enter Try.func88, Try.ntmps88
      go_wp2
      go_ret
      exact ⟨ret_bool E.out.symm, by go_grown⟩
  · have E := hid (Pm.bitAt_out draws _ hlt)
    go_enter Try.func88, Try.ntmps88
    go_wp2
    go_ret
    exact ⟨ret_bool E.out.symm, by go_grown⟩

set_option maxHeartbeats 2000000 in
theorem joins_any (W H : Nat) (s : ByteArray) (pol : Nat) (draws : ByteArray) (spk : Int) (x y : Nat) (hp : pol ≤ 3) (hx : x ≤ 100) (hy : y ≤ 100) (w : World) (hw2 : W ≤ 32) (hh2 : H ≤ 32) (hl : s.size = W * H) :
    Calls Try.prog 80 #[.agg #[.int .i64 W, .int .i64 H, .string s], .agg #[.int .i64 pol, .string draws, .int .i64 spk], .agg #[.int .i64 x, .int .i64 y]] w fun e w' => e = .returned (.bool (Qm.jnB W H s.data.toList pol draws.data.toList x y)) ∧ Below w.heap.size w w' := by
  have HL := hid hl
  clear hl
  match pol, hp with
  | 0, _ =>
    go_enter Try.func80, Try.ntmps80
    go_wp2
    go_ret
    exact ⟨ret_bool (Qm.jnB_0 ..).symm, by go_grown⟩
  | 1, _ =>
    go_enter Try.func80, Try.ntmps80
    go_wp2
    go_ret
    exact ⟨ret_bool (Qm.jnB_1 ..).symm, by go_grown⟩
  | 2, _ =>
    go_enter Try.func80, Try.ntmps80
    go_wp2_with fail
    refine (blackAround_any W H s x y (by omega) (by omega) _ hw2 hh2 HL.out).mono ?_
    rintro e w1 ⟨rfl, hb⟩
    have hc := Qm.cntTo_le (Pm.blackB W H s.data.toList) x y 16
    go_wp2
    go_ret
    exact ⟨ret_bool (by show _ = Qm.jnB W H s.data.toList 2 draws.data.toList x y; rw [Qm.jnB_2]; simp; omega), Below.trans (b := _) (by go_grown) (hb.mono (by simp; omega))⟩
  | 3, _ =>
    go_enter Try.func80, Try.ntmps80
    go_wp2_with fail
    refine (isDrawn_any W H s 3 draws spk x y hx hy _ hw2).mono ?_
    rintro e w1 ⟨rfl, hb⟩
    go_wp2
    go_ret
    exact ⟨ret_bool (Qm.jnB_3 ..).symm, Below.trans (b := _) (by go_grown) (hb.mono (by simp; omega))⟩
end Go.Proofs.Ytgapfjjdccohkaa
