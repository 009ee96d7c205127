/- outlineref.sorted. -/
import Derived.Test.YtljfiefobnncaaaDg
namespace Go.Proofs.Ytljfiefobnncaaa
open Go.RowKit
attribute [local go_sem ↓] Go.wp_at_zero Go.wp_at_succ

/-- A shape: where its points are, twice its area; and its first point. -/
abbrev Ent : Type := Value × Int × (Int × Int)
def entV (L : List Ent) : List Value := L.flatMap fun e => [e.1, .int .i64 e.2.1]
theorem entV_app (a b : List Ent) : entV (a ++ b) = entV a ++ entV b := by simp [entV]
theorem entV_len (L : List Ent) : (entV L).length = L.length * 2 := by
  induction L with
  | nil => rfl
  | cons p l ih => simp only [entV, List.flatMap_cons, List.length_append] at *; rw [ih]; simp; omega
theorem entV_at (L : List Ent) (e0 : Ent) : ∀ j, j < L.length → (entV L)[j * 2]? = some (L.getD j e0).1 ∧ (entV L)[j * 2 + 1]? = some (.int .i64 (L.getD j e0).2.1) := by
  induction L with
  | nil => intro j hj; simp at hj
  | cons p l ih =>
    intro j hj
    cases j with
    | zero => simp [entV]
    | succ j =>
      have := ih j (by simpa using hj)
      have e : entV (p :: l) = p.1 :: .int .i64 p.2.1 :: entV l := by simp [entV]
      rw [e, show (j + 1) * 2 = j * 2 + 1 + 1 from by omega, show j * 2 + 1 + 1 + 1 = (j * 2 + 1) + 1 + 1 from by omega]
      simpa using this

/-- The points of v begin with p. -/
def HeadAt (v : Value) (p : Int × Int) (w : World) : Prop := ∃ g n cap, v = .slice (some ⟨g, 0, none⟩) n cap ∧ 0 < n ∧ g < w.heap.size ∧ w.cell? ⟨g, 0, none⟩ = some (.int .i64 p.1) ∧ w.cell? ⟨g, 1, none⟩ = some (.int .i64 p.2)
/-- The row of shapes stands, with the first point of each. -/
structure EntsAt (gl : Nat) (L : List Ent) (w : World) : Prop where
  lt : gl < w.heap.size
  cells : ∀ j e0, j < L.length → w.cell? ⟨gl, j * 2, none⟩ = some (L.getD j e0).1 ∧ w.cell? ⟨gl, j * 2 + 1, none⟩ = some (.int .i64 (L.getD j e0).2.1)
  heads : ∀ e ∈ L, HeadAt e.1 e.2.2 w ∧ 0 ≤ e.2.2.1 ∧ e.2.2.1 ≤ 32
theorem HeadAt.on {v : Value} {p : Int × Int} {w w' : World} (h : HeadAt v p w) (hb : Below w.heap.size w w') : HeadAt v p w' := by
  obtain ⟨g, n, cap, e, h0, hg, c0, c1⟩ := h
  exact ⟨g, n, cap, e, h0, Nat.lt_of_lt_of_le hg hb.size, (hb.cell (p := ⟨g, 0, none⟩) hg).trans c0, (hb.cell (p := ⟨g, 1, none⟩) hg).trans c1⟩
theorem EntsAt.on {gl : Nat} {L : List Ent} {w w' : World} (h : EntsAt gl L w) (hb : Below w.heap.size w w') : EntsAt gl L w' :=
  ⟨Nat.lt_of_lt_of_le h.lt hb.size, fun j e0 hj => ⟨(hb.cell (p := ⟨gl, j * 2, none⟩) h.lt).trans (h.cells j e0 hj).1, (hb.cell (p := ⟨gl, j * 2 + 1, none⟩) h.lt).trans (h.cells j e0 hj).2⟩, fun e he => ⟨(h.heads e he).1.on hb, (h.heads e he).2⟩⟩

/-- What has been laid behind i of them: before the new one has its place, and behind. -/
def InsAt (L : List Ent) (e0 : Ent) (i : Nat) (b : Bool) (out : List Ent) : Prop :=
  (b = false ∧ out = L.take i ∧ ∀ j, j < i → ¬ keyP e0.2.2 < keyP (L.getD j e0).2.2) ∨
  (b = true ∧ ∃ j, j < i ∧ j < L.length ∧ out = L.take j ++ e0 :: (L.drop j).take (i - j) ∧ (∀ m, m < j → ¬ keyP e0.2.2 < keyP (L.getD m e0).2.2) ∧ keyP e0.2.2 < keyP (L.getD j e0).2.2)
theorem take_getD (L : List Ent) (e0 : Ent) (i : Nat) (h : i < L.length) : L.take (i + 1) = L.take i ++ [L.getD i e0] := by
  rw [List.take_succ_eq_append_getElem h, List.getD_eq_getElem?_getD, List.getElem?_eq_getElem h]; rfl
theorem drop_take_getD (L : List Ent) (e0 : Ent) (j i : Nat) (hj : j ≤ i) (h : i < L.length) : (L.drop j).take (i + 1 - j) = (L.drop j).take (i - j) ++ [L.getD i e0] := by
  rw [show i + 1 - j = (i - j) + 1 from by omega, List.take_succ_eq_append_getElem (by simp; omega)]
  congr 1
  rw [List.getD_eq_getElem?_getD, List.getElem?_eq_getElem h, List.getElem_drop]
  simp only [Option.getD_some, List.cons.injEq, and_true]
  congr 1; omega
/-- The new one comes first. -/
theorem InsAt.put {L : List Ent} {e0 : Ent} {i : Nat} {out : List Ent} (h : InsAt L e0 i false out) (hi : i < L.length) (ha : keyP e0.2.2 < keyP (L.getD i e0).2.2) : InsAt L e0 (i + 1) true (out ++ [e0] ++ [L.getD i e0]) := by
  rcases h with ⟨_, rfl, h3⟩ | ⟨h1, _⟩
  · refine .inr ⟨rfl, i, by omega, hi, ?_, h3, ha⟩
    rw [drop_take_getD L e0 i i (Nat.le_refl _) hi]
    simp
  · cases h1
theorem InsAt.go {L : List Ent} {e0 : Ent} {i : Nat} {b : Bool} {out : List Ent} (h : InsAt L e0 i b out) (hi : i < L.length) (ha : b = true ∨ ¬ keyP e0.2.2 < keyP (L.getD i e0).2.2) : InsAt L e0 (i + 1) b (out ++ [L.getD i e0]) := by
  rcases h with ⟨rfl, rfl, h3⟩ | ⟨rfl, j, h1, h2, rfl, h3, h4⟩
  · refine .inl ⟨rfl, (take_getD L e0 i hi).symm, fun j hj => ?_⟩
    rcases Nat.lt_or_ge j i with h5 | h5
    · exact h3 j h5
    · obtain rfl : j = i := by omega
      exact ha.resolve_left (by simp)
  · refine .inr ⟨rfl, j, by omega, h2, ?_, h3, h4⟩
    rw [drop_take_getD L e0 j i (by omega) hi]
    simp
/-- The whole, with the new one in its place. -/
def InsOut (L : List Ent) (e0 : Ent) (out : List Ent) : Prop := ∃ j, j ≤ L.length ∧ out = L.take j ++ e0 :: L.drop j ∧ (∀ m, m < j → ¬ keyP e0.2.2 < keyP (L.getD m e0).2.2) ∧ (j < L.length → keyP e0.2.2 < keyP (L.getD j e0).2.2)
theorem InsAt.done {L : List Ent} {e0 : Ent} {out : List Ent} (h : InsAt L e0 L.length true out) : InsOut L e0 out := by
  rcases h with ⟨h1, _⟩ | ⟨_, j, h1, h2, rfl, h3, h4⟩
  · cases h1
  · exact ⟨j, by omega, by rw [List.take_of_length_le (l := L.drop j) (by simp)], h3, fun _ => h4⟩
theorem InsAt.last {L : List Ent} {e0 : Ent} {out : List Ent} (h : InsAt L e0 L.length false out) : InsOut L e0 (out ++ [e0]) := by
  rcases h with ⟨_, rfl, h3⟩ | ⟨h1, _⟩
  · exact ⟨L.length, Nat.le_refl _, by simp, h3, fun h => by omega⟩
  · cases h1
end Go.Proofs.Ytljfiefobnncaaa
