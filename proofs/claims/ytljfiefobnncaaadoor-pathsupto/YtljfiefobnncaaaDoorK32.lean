/- The book: what is written into a list and behind it. -/
import Derived.Test.YtljfiefobnncaaaDoorK31
import Derived.Deep.AppendLies
namespace Go.Proofs.YtljfiefobnncaaaDoor
open Go.RowKit

/-- A store into a row that is owned. -/
theorem own_set {w : World} {b : Nat} {e : TypeId} {z : Nat} {g n cap : Nat} {xs : List Value} (h : w.ownsRow b e z (.slice (some ⟨g, 0, none⟩) n cap) n xs) (j : Nat) (u : Value) : (w.setCell ⟨g, j, none⟩ u).ownsRow b e z (.slice (some ⟨g, 0, none⟩) n cap) n (xs.set j u) := by
  refine ⟨by rw [List.length_set]; exact h.1, ?_⟩
  rcases h.2 with ⟨h1, _⟩ | ⟨g', cap', cur, h1, hb, hg, hn, hm, hs, ht⟩
  · cases h1
  · injection h1 with h1 h2 h3
    injection h1 with h1
    injection h1 with h1 _ _
    subst h1 h3
    refine .inr ⟨g, cap, cur.setIfInBounds j u, rfl, hb, ?_, hn, hm, by simpa using hs, ?_⟩
    · simp only [World.setCell, Array.getElem?_modify, hg]
      simp
    · rw [← ht, Array.toList_setIfInBounds]
      exact List.take_set
theorem ptsV_set (l : List (Int × Int)) (p : Int × Int) : ∀ i, i < l.length → ((Qm.ptsV l).set (i * 2) (.int .i64 p.1)).set (i * 2 + 1) (.int .i64 p.2) = Qm.ptsV (l.set i p) := by
  induction l with
  | nil => intro i hi; simp at hi
  | cons q l ih =>
    intro i hi
    have e : ∀ (q : Int × Int) (l : List (Int × Int)), Qm.ptsV (q :: l) = .int .i64 q.1 :: .int .i64 q.2 :: Qm.ptsV l := fun q l => by simp [Qm.ptsV, Qm.ptV]
    cases i with
    | zero => show _ = Qm.ptsV (p :: l); rw [e, e]; rfl
    | succ i =>
      rw [e, List.set_cons_succ, e, ← ih i (by simpa using hi), show (i + 1) * 2 = i * 2 + 1 + 1 from by omega]
      rfl
/-- The first i points are the mark's, the others as they were. -/
def fillTo (l : List (Int × Int)) (p : Int × Int) (i : Nat) : List (Int × Int) := List.replicate i p ++ l.drop i
theorem fillTo_succ (l : List (Int × Int)) (p : Int × Int) (i : Nat) (hi : i < l.length) : (fillTo l p i).set i p = fillTo l p (i + 1) := by
  unfold fillTo
  apply List.ext_getElem?
  intro j
  rw [List.getElem?_set]
  simp only [List.length_append, List.length_replicate, List.length_drop]
  by_cases e : i = j
  · subst e
    rw [if_pos rfl, if_pos (by omega), List.getElem?_append_left (by simp), List.getElem?_replicate, if_pos (by omega)]
  · rw [if_neg e]
    by_cases h1 : j < i
    · rw [List.getElem?_append_left (by simpa using h1), List.getElem?_append_left (by simp; omega)]
      simp [List.getElem?_replicate, h1]; omega
    · rw [List.getElem?_append_right (by simp; omega), List.getElem?_append_right (by simp; omega)]
      simp only [List.length_replicate, List.getElem?_drop]
      congr 1; omega
theorem fillTo_len (l : List (Int × Int)) (p : Int × Int) (i : Nat) (hi : i ≤ l.length) : (fillTo l p i).length = l.length := by simp [fillTo]; omega

/-- Only the blocks of C, and new ones, have turned. -/
structure Fr (C : Nat → Prop) (w w' : World) : Prop where
  os : w'.os = w.os
  tape : w'.tape = w.tape
  output : w'.output = w.output
  size : w.heap.size ≤ w'.heap.size
  block : ∀ k, k < w.heap.size → ¬ C k → w'.heap[k]? = w.heap[k]?
theorem Fr.refl (C : Nat → Prop) (w : World) : Fr C w w := ⟨rfl, rfl, rfl, Nat.le_refl _, fun _ _ _ => rfl⟩
theorem Fr.trans {C : Nat → Prop} {a b c : World} (h : Fr C a b) (k : Fr C b c) : Fr C a c := ⟨k.os.trans h.os, k.tape.trans h.tape, k.output.trans h.output, Nat.le_trans h.size k.size, fun i hi hn => (k.block i (Nat.lt_of_lt_of_le hi h.size) hn).trans (h.block i hi hn)⟩
theorem Fr.below {C : Nat → Prop} {a b : World} (h : Below a.heap.size a b) : Fr C a b := ⟨h.os, h.tape, h.output, h.size, fun k hk _ => h.block k hk⟩
theorem Fr.grown {C : Nat → Prop} {a b : World} {r : Option Nat} (h : a.grownBy b r) (hr : ∀ k, r = some k → k < a.heap.size → C k) : Fr C a b := ⟨h.os, h.tape, h.output, h.size, fun k hk hn => h.block k hk (fun e => hn (hr k e.symm hk))⟩
theorem Fr.set {C : Nat → Prop} {a : World} {p : Addr} {u : Value} (h : C p.block) : Fr C a (a.setCell p u) := ⟨rfl, rfl, rfl, by rw [World.size_setCell]; exact Nat.le_refl _, fun k _ hn => Below.heap_setCell _ _ _ _ (fun e => hn (e ▸ h))⟩
theorem Fr.imp {C D : Nat → Prop} {a b : World} (h : Fr C a b) (hi : ∀ k, k < a.heap.size → C k → D k) : Fr D a b := ⟨h.os, h.tape, h.output, h.size, fun k hk hn => h.block k hk (fun c => hn (hi k hk c))⟩
theorem own_fr {C : Nat → Prop} {w w' : World} {b : Nat} {t : TypeId} {z : Nat} {v : Value} {n : Nat} {xs : List Value} (h : w.ownsRow b t z v n xs) (hf : Fr C w w') (hc : ∀ k, v.ownBlock = some k → ¬ C k) : w'.ownsRow b t z v n xs := by
  refine ⟨h.1, ?_⟩
  rcases h.2 with hn | ⟨g, cap, cur, rfl, hb, hg, rest⟩
  · exact .inl hn
  · exact .inr ⟨g, cap, cur, rfl, hb, (hf.block g (Array.getElem?_eq_some_iff.1 hg).1 (hc g rfl)).trans hg, rest⟩
theorem Mk.fr {C : Nat → Prop} {off : Nat} {v : Value} {mark : Int} {w w' : World} (h : Mk off v mark w) (hf : Fr C w w') (hc : ∀ k, v.ownBlock = some k → ¬ C k) : Mk off v mark w' := by
  obtain ⟨ao, n, cap, e, hn, h1⟩ := h
  refine ⟨ao, n, cap, e, hn, h1.imp id ?_⟩
  rintro ⟨g, e2, h2, h3⟩
  exact ⟨g, e2, Nat.lt_of_lt_of_le h2 hf.size, fun k hk => (World.cell?_of_block (a := ⟨g, k * 2 + off, none⟩) (hf.block g h2 (hc g (by rw [e, e2]; rfl)))).trans (h3 k hk)⟩
/-- A list of points that is owned and holds marks alone. -/
theorem own_mk {w : World} {b : Nat} {t : TypeId} {v : Value} {n : Nat} {mark : Int} (h : w.ownsRow b t 2 v n (Qm.ptsV (List.replicate n (mark, 0)))) : Mk 0 v mark w := by
  have hm := own_max h
  rcases h.2 with ⟨rfl, rfl⟩ | ⟨g, cap, cur, rfl, hb, hg, _⟩
  · exact ⟨none, 0, 0, rfl, by omega, .inl rfl⟩
  · refine ⟨some ⟨g, 0, none⟩, n, cap, rfl, hm, .inr ⟨g, rfl, (Array.getElem?_eq_some_iff.1 hg).1, fun k hk => ?_⟩⟩
    have p := ptsV_at (List.replicate n (mark, 0)) k (by simpa using hk)
    have := h.cells (g := g) rfl _ _ p.1
    rw [add_zero_at] at this
    rw [Nat.add_zero, this]
    simp [List.getD_eq_getElem?_getD, hk]
/-- .. behind an append to the list that it may share its block with: the same marks are written. -/
theorem Mk.app {w w' : World} {v u : Value} {n m : Nat} {mark : Int} (h : Mk 0 u mark w) (hg : w.grownBy w' v.ownBlock)
    (hk : ∀ g j x, v.ownBlock = some g → w.cell? ⟨g, j, none⟩ = some x → w'.cell? ⟨g, j, none⟩ = some x ∨ ∃ q, j = n * 2 + q ∧ w'.cell? ⟨g, j, none⟩ = (Qm.ptsV (List.replicate m (mark, 0)))[q]? ∧ q < (Qm.ptsV (List.replicate m (mark, 0))).length) : Mk 0 u mark w' := by
  obtain ⟨ao, k, cap, e, hn, h1⟩ := h
  refine ⟨ao, k, cap, e, hn, h1.imp id ?_⟩
  rintro ⟨g, e2, h2, h3⟩
  refine ⟨g, e2, Nat.lt_of_lt_of_le h2 hg.size, fun j hj => ?_⟩
  by_cases ev : v.ownBlock = some g
  · rcases hk g (j * 2 + 0) _ ev (h3 j hj) with h4 | ⟨q, h4, h5, h6⟩
    · exact h4
    · rw [h5]
      rw [Qm.ptsV_len, List.length_replicate] at h6
      have p := ptsV_at (List.replicate m (mark, 0)) (q / 2) (by simp; omega)
      rw [show q = q / 2 * 2 from by omega, p.1]
      simp [List.getD_eq_getElem?_getD, show q / 2 < m from by omega]
  · exact (World.cell?_of_block (a := ⟨g, j * 2 + 0, none⟩) (hg.block g h2 (fun e => ev e.symm))).trans (h3 j hj)
end Go.Proofs.YtljfiefobnncaaaDoor
