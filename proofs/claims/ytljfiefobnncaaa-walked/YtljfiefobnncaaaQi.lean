/- The winding numbers of one cycle: on its left one number, on its right one less; they never change their sign. Nothing of the program stands here. -/
import Derived.Test.YtljfiefobnncaaaQh
namespace Go.Proofs.Ytljfiefobnncaaa.Qm

/-- The sides of a cycle. -/
def cyS (f : Sd → Sd) (c : Sd × Nat) : List Sd := (List.range c.2).map fun i => it f i c.1
theorem mem_cyS {f : Sd → Sd} {c : Sd × Nat} {t : Sd} : t ∈ cyS f c ↔ ∃ i, i < c.2 ∧ t = it f i c.1 := by
  simp only [cyS, List.mem_map, List.mem_range]
  exact ⟨fun ⟨i, h, e⟩ => ⟨i, h, e.symm⟩, fun ⟨i, h, e⟩ => ⟨i, h, e.symm⟩⟩

theorem sm_range (f : Sd → Sd) (s : Sd) (g : Sd → Int) (n : Nat) : sm ((List.range (n + 1)).map fun i => it f i s) g = sm ((List.range n).map fun i => it f i s) g + g (it f n s) := by
  rw [List.range_succ, List.map_append, sm_app]; simp [sm]
theorem sm_tele {bl jn : Int → Int → Bool} (s : Sd) (φ : Int × Int → Int) (n : Nat) : sm ((List.range n).map fun i => it (nx bl jn) i s) (fun s => φ (en s) - φ (fromP s)) = φ (fromP (it (nx bl jn) n s)) - φ (fromP s) := by
  induction n with
  | zero => simp [sm, it]
  | succ n ih =>
    rw [sm_range, ih]
    have : fromP (it (nx bl jn) (n + 1) s) = en (it (nx bl jn) n s) := rfl
    rw [this]; omega

section
variable {bl jn : Int → Int → Bool} {c : Sd × Nat}

theorem Cyc.closed (h : Cyc (nx bl jn) (fun s => isS bl s = true) c.1 c.2) : Closed (cyS (nx bl jn) c) := fun φ => by
  unfold cyS
  rw [sm_tele, h.2.2.1]; omega
theorem Cyc.nodup (h : Cyc (nx bl jn) (fun s => isS bl s = true) c.1 c.2) : (cyS (nx bl jn) c).Nodup := by
  unfold cyS
  rw [List.Nodup, List.pairwise_map]
  refine List.Pairwise.imp_of_mem ?_ List.pairwise_lt_range
  intro i j _ hj hij
  exact h.2.2.2 i j hij (List.mem_range.1 hj)
theorem it_isS {s : Sd} (h : isS bl s = true) (n : Nat) : isS bl (it (nx bl jn) n s) = true := by
  induction n with
  | zero => exact h
  | succ n ih => exact nx_isS ih
theorem Cyc.sides (h : Cyc (nx bl jn) (fun s => isS bl s = true) c.1 c.2) : ∀ s ∈ cyS (nx bl jn) c, isS bl s = true := fun s hs => by
  obtain ⟨i, _, rfl⟩ := mem_cyS.1 hs
  exact it_isS h.1 i
theorem Cyc.mem (h : Cyc (nx bl jn) (fun s => isS bl s = true) c.1 c.2) (i : Nat) : it (nx bl jn) i c.1 ∈ cyS (nx bl jn) c :=
  mem_cyS.2 ⟨i % c.2, Nat.mod_lt _ h.2.1, h.mod i⟩

/-- On the left of a side of the list, one more than on its right. -/
theorem wn_side {S : List Sd} (hS : Closed S) (hn : S.Nodup) (hs : ∀ s ∈ S, isS bl s = true) {x y : Int} {d : Nat} (h : (x, y, d) ∈ S) : wn S (lpx x d) (lpy y d) = wn S (rpx x d) (rpy y d) + 1 := by
  have h0 := hs _ h
  have h4 := isS_lt h0
  have c1 := ct_yes hn h
  have no : ∀ t : Sd, isS bl t = false → ct S t = 0 := fun t ht => ct_no fun hm => by rw [hs t hm] at ht; simp at ht
  have hd : ∀ s ∈ S, s.2.2 < 4 := fun s hm => isS_lt (hs s hm)
  simp only at h4
  match d, h4 with
  | 0, _ =>
    have a := wn_x S x y
    have b := no (x, y + 1, 2) (by simp [isS, outQ] at h0 ⊢; simp [h0])
    simp only [lpx, lpy, rpx, rpy]; simp
    omega
  | 1, _ =>
    have a := wn_y hS hd x y
    have b := no (x + 1, y, 3) (by simp [isS, outQ] at h0 ⊢; simp [h0])
    simp only [lpx, lpy, rpx, rpy]; simp
    omega
  | 2, _ =>
    have a := wn_x S x (y - 1)
    rw [show y - 1 + 1 = y from by omega] at a
    have b := no (x, y - 1, 0) (by simp [isS, outQ] at h0 ⊢; simp [h0])
    simp only [lpx, lpy, rpx, rpy]; simp
    omega
  | 3, _ =>
    have a := wn_y hS hd (x - 1) y
    rw [show x - 1 + 1 = x from by omega] at a
    have b := no (x - 1, y, 1) (by simp [isS, outQ] at h0 ⊢; simp [h0])
    simp only [lpx, lpy, rpx, rpy]; simp
    omega

/-- Where two pixels side by side are of one colour, no side parts them. -/
theorem wn_same_x {S : List Sd} (hs : ∀ s ∈ S, isS bl s = true) {x y : Int} (h : bl (x - 1) y = bl x y) : wn S (x - 1) y = wn S x y := by
  have no : ∀ t : Sd, isS bl t = false → ct S t = 0 := fun t ht => ct_no fun hm => by rw [hs t hm] at ht; simp at ht
  have a := wn_x S x y
  have b := no (x, y + 1, 2) (by simp [isS, outQ, h])
  have d := no (x, y, 0) (by simp [isS, outQ, h])
  omega
theorem wn_same_y {S : List Sd} (hS : Closed S) (hs : ∀ s ∈ S, isS bl s = true) {x y : Int} (h : bl x (y - 1) = bl x y) : wn S x (y - 1) = wn S x y := by
  have no : ∀ t : Sd, isS bl t = false → ct S t = 0 := fun t ht => ct_no fun hm => by rw [hs t hm] at ht; simp at ht
  have a := wn_y hS (fun s hm => isS_lt (hs s hm)) x y
  have b := no (x, y, 1) (by simp [isS, outQ, h])
  have d := no (x + 1, y, 3) (by simp [isS, outQ, h])
  omega
end
end Go.Proofs.Ytljfiefobnncaaa.Qm
