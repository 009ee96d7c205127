/- No cycle's Twice is 0; all cycles' together are twice the black pixels; a cycle has four sides or more; the cycles' sides are all sides. Nothing of the program stands here. -/
import Derived.Test.YtljfiefobnncaaaQk
namespace Go.Proofs.Ytljfiefobnncaaa.Qm

theorem wn_out {bl : Int → Int → Bool} {W H : Int} (hp : Pic bl W H) {S : List Sd} (hS : Closed S) (hs : ∀ s ∈ S, isS bl s = true) (x y : Int) (h : ¬ (0 ≤ x ∧ x < W ∧ 0 ≤ y ∧ y < H)) : wn S x y = 0 := by
  by_cases h1 : x < 0
  · exact wn_left hS (fun s hm => isS_lt (hs s hm)) x y fun s hm => by have := side_in hp (hs s hm); omega
  · by_cases h2 : W ≤ x
    · exact wn_right x y fun s hm => by have := side_in hp (hs s hm); omega
    · refine sm_zero fun s hm => ?_
      have hi := hs s hm
      unfold hw
      rw [if_neg ?_, if_neg ?_]
      · rintro ⟨a, b, _⟩
        obtain ⟨x', y', d'⟩ := s
        simp only at a b
        subst a b
        simp [isS, outQ] at hi
        have := hp.box _ _ hi.1
        omega
      · rintro ⟨a, b, _⟩
        obtain ⟨x', y', d'⟩ := s
        simp only at a b
        subst a b
        simp [isS, outQ] at hi
        have := hp.box _ _ hi.1
        omega

section
variable {bl jn : Int → Int → Bool} {c : Sd × Nat}

theorem Cyc.twice_ne (h : Cyc (nx bl jn) (fun s => isS bl s = true) c.1 c.2) {W H : Nat} (hp : Pic bl W H) :
    (lw (cyS (nx bl jn) c) c.1 = 1 ∧ 0 < twiceOf (ptsOf (nx bl jn) c)) ∨ (lw (cyS (nx bl jn) c) c.1 = 0 ∧ twiceOf (ptsOf (nx bl jn) c) < 0) := by
  rw [h.twice hp]
  obtain ⟨hk, hv⟩ := h.sign hp
  have hl : wn (cyS (nx bl jn) c) (lpx c.1.1 c.1.2.2) (lpy c.1.2.1 c.1.2.2) = lw (cyS (nx bl jn) c) c.1 := rfl
  have hr := wn_side h.closed h.nodup h.sides (x := c.1.1) (y := c.1.2.1) (d := c.1.2.2) (h.mem 0)
  have out := wn_out hp h.closed h.sides
  obtain ⟨S, eS⟩ : ∃ S, cyS (nx bl jn) c = S := ⟨_, rfl⟩
  rw [eS] at hk hv hl hr out ⊢
  rcases hk with hk | hk
  · refine .inr ⟨hk, ?_⟩
    rw [hk] at hv hl
    obtain ⟨px, py, e, hb⟩ : ∃ px py : Nat, wn S px py = -1 ∧ px < W ∧ py < H := by
      have hr2 : wn S (rpx c.1.1 c.1.2.2) (rpy c.1.2.1 c.1.2.2) = -1 := by omega
      obtain ⟨a, ea⟩ : ∃ a, rpx c.1.1 c.1.2.2 = a := ⟨_, rfl⟩
      obtain ⟨b, eb⟩ : ∃ b, rpy c.1.2.1 c.1.2.2 = b := ⟨_, rfl⟩
      rw [ea, eb] at hr2
      by_cases hb : 0 ≤ a ∧ a < (W : Int) ∧ 0 ≤ b ∧ b < (H : Int)
      · exact ⟨a.toNat, b.toNat, by rw [show ((a.toNat : Nat) : Int) = a from by omega, show ((b.toNat : Nat) : Int) = b from by omega]; exact hr2, by omega, by omega⟩
      · rw [out a b hb] at hr2; omega
    have := bx_pos (g := fun x y => -wn S x y) (fun x y => by have := hv x y; omega) hb.1 hb.2
    rw [bx_neg] at this
    omega
  · refine .inl ⟨hk, ?_⟩
    rw [hk] at hv hl
    obtain ⟨px, py, e, hb⟩ : ∃ px py : Nat, wn S px py = 1 ∧ px < W ∧ py < H := by
      obtain ⟨a, ea⟩ : ∃ a, lpx c.1.1 c.1.2.2 = a := ⟨_, rfl⟩
      obtain ⟨b, eb⟩ : ∃ b, lpy c.1.2.1 c.1.2.2 = b := ⟨_, rfl⟩
      rw [ea, eb] at hl
      by_cases hb : 0 ≤ a ∧ a < (W : Int) ∧ 0 ≤ b ∧ b < (H : Int)
      · exact ⟨a.toNat, b.toNat, by rw [show ((a.toNat : Nat) : Int) = a from by omega, show ((b.toNat : Nat) : Int) = b from by omega]; exact hl, by omega, by omega⟩
      · rw [out a b hb] at hl; omega
    have := bx_pos (g := fun x y => wn S x y) (fun x y => by have := hv x y; omega) hb.1 hb.2
    rw [show (fun x y => wn S x y) = wn S from rfl] at this
    omega

/-- Each side that is not the last goes one on; no side goes back: four or more. -/
theorem par_it (bl jn : Int → Int → Bool) {s : Sd} (h : isS bl s = true) (n : Nat) : ((it (nx bl jn) n s).1 + (it (nx bl jn) n s).2.1 + n) % 2 = (s.1 + s.2.1) % 2 := by
  induction n with
  | zero => simp [it]
  | succ n ih =>
    have hi := it_isS (jn := jn) h n
    have d4 := isS_lt hi
    have e1 : (it (nx bl jn) (n + 1) s).1 = (en (it (nx bl jn) n s)).1 := rfl
    have e2 : (it (nx bl jn) (n + 1) s).2.1 = (en (it (nx bl jn) n s)).2 := rfl
    rw [e1, e2, ← ih]
    obtain ⟨t, et⟩ : ∃ t, it (nx bl jn) n s = t := ⟨_, rfl⟩
    rw [et] at d4 ⊢
    clear et hi e1 e2 ih
    obtain ⟨x, y, d⟩ := t
    simp only at d4
    match d, d4 with
    | 0, _ => simp [en]; omega
    | 1, _ => simp [en]; omega
    | 2, _ => simp [en]; omega
    | 3, _ => simp [en]; omega
theorem Cyc.four (h : Cyc (nx bl jn) (fun s => isS bl s = true) c.1 c.2) : 4 ≤ c.2 := by
  have p := par_it bl jn h.1 c.2
  have hn := h.2.1
  have hb := h.2.2.1
  rw [hb] at p
  by_cases h2 : c.2 = 2
  · exfalso
    rw [h2] at hb
    have i0 : isS bl c.1 = true := h.1
    have d0 := isS_lt i0
    have i1 := nx_isS (jn := jn) i0
    have d1 := isS_lt i1
    have nb : (nx bl jn c.1).2.2 ≠ (c.1.2.2 + 2) % 4 := by
      have := i0
      rw [isS_in] at this
      exact next_no_back _ _ _ _ _ ⟨c.1.2.2, d0⟩ this
    have e1 : (en (nx bl jn c.1)).1 = c.1.1 := congrArg (fun s : Sd => s.1) hb
    have e2 : (en (nx bl jn c.1)).2 = c.1.2.1 := congrArg (fun s : Sd => s.2.1) hb
    have f1 : (nx bl jn c.1).1 = (en c.1).1 := rfl
    have f2 : (nx bl jn c.1).2.1 = (en c.1).2 := rfl
    obtain ⟨t, et⟩ : ∃ t, nx bl jn c.1 = t := ⟨_, rfl⟩
    rw [et] at d1 nb e1 e2 f1 f2
    clear hb i1 p h et
    obtain ⟨⟨x, y, d⟩, n⟩ := c
    obtain ⟨x', y', d'⟩ := t
    simp only at d0 d1 nb e1 e2 f1 f2
    subst f1 f2
    match d, d0, d', d1 with
    | 0, _, 0, _ => simp [en] at e1 e2; omega
    | 0, _, 1, _ => simp [en] at e1 e2; omega
    | 0, _, 2, _ => simp at nb
    | 0, _, 3, _ => simp [en] at e1 e2; omega
    | 1, _, 0, _ => simp [en] at e1 e2; omega
    | 1, _, 1, _ => simp [en] at e1 e2; omega
    | 1, _, 2, _ => simp [en] at e1 e2; omega
    | 1, _, 3, _ => simp at nb
    | 2, _, 0, _ => simp at nb
    | 2, _, 1, _ => simp [en] at e1 e2; omega
    | 2, _, 2, _ => simp [en] at e1 e2; omega
    | 2, _, 3, _ => simp [en] at e1 e2; omega
    | 3, _, 0, _ => simp [en] at e1 e2; omega
    | 3, _, 1, _ => simp at nb
    | 3, _, 2, _ => simp [en] at e1 e2; omega
    | 3, _, 3, _ => simp [en] at e1 e2; omega
  · omega
end
end Go.Proofs.Ytljfiefobnncaaa.Qm
