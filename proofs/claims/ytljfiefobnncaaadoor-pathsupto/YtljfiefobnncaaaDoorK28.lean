/- outlinelaw: roomy: shapes with spare room behind each list. -/
import Derived.Test.YtljfiefobnncaaaDoorK11
import Derived.Test.YtljfiefobnncaaaDoorK15
import Derived.Laws.CopyOwn
namespace Go.Proofs.YtljfiefobnncaaaDoor
open Go.RowKit

/-- copy, of elements of k cells, into the head of a row that is known whole. -/
theorem run_copyK {P : Program} (w : World) (dT sT ty elem : TypeId) (g dLen dCap : Nat) (sp : Option Addr) (sLen sCap : Nat) (cur : Array Value) (t : TypeId) (cs : List Value) (k n : Nat)
    (hu : P.underlying dT = some (.slice elem)) (hs : (P.info? elem).map (·.size) = some k) (hg : w.heap[g]? = some (.cells cur t (0, 0))) (hmin : Nat.min sLen dLen = n) (hn : cs.length = n * k)
    (hsrc : (sp = none ∧ cs = []) ∨ ∃ ad, sp = some ad ∧ ∀ j v, cs[j]? = some v → w.cell? (ad.add j) = some v) (hfit : cs.length ≤ cur.size) (h1 : ∀ v ∈ cs, v.oneCell' = true) :
    (Builtin.copy_ #[dT, sT] ty #[.slice (some ⟨g, 0, none⟩) dLen dCap, .slice sp sLen sCap]).run P w = .ok (goInt n) (w.setRow g (cs ++ cur.toList.drop cs.length).toArray) := by
  have hst := run_storeCells_at P g 0 t cs 0 cur w hg (by simpa using hfit) h1
  simp only [Nat.add_zero, List.take_zero, List.nil_append, Nat.zero_add] at hst
  cases hq : P.info? elem with
  | none => simp [hq] at hs
  | some i =>
    have hi : i.size = k := by simpa [hq] using hs
    rcases hsrc with ⟨rfl, rfl⟩ | ⟨ad, rfl, hsrc⟩
    · simp [Builtin.copy_, run_underlying hu, Builtin.lenOf, Builtin.firstCells, sizeOf, typeInfo, hq, hmin] at hst ⊢
      simp [hst]
    · have hl := run_loadCells_list (P := P) w ad cs hsrc
      rw [hn] at hl
      simp [Builtin.copy_, run_underlying hu, Builtin.lenOf, Builtin.firstCells, sizeOf, typeInfo, hq, hi, hmin, hl, hst]
theorem wpList_copyK {P : Program} {w : World} {ops : Array Oper} {rest : List Oper} {o : Oper} {a : Act} {Q : Exit → Act → World → Prop} (hgd : o.guard = none) (d s : Operand) (dT sT : TypeId)
    (ho : o.op = .call { callee := .builtin .copy, args := #[d, s], argTypes := #[dT, sT] }) (elem : TypeId) (k : Nat) (hu : P.underlying dT = some (.slice elem)) (hsz : (P.info? elem).map (·.size) = some k)
    (g dLen dCap : Nat) (sp : Option Addr) (sLen sCap : Nat) (hd : a.eval d = .slice (some ⟨g, 0, none⟩) dLen dCap) (hs : a.eval s = .slice sp sLen sCap)
    (cur : Array Value) (t : TypeId) (hg : w.heap[g]? = some (.cells cur t (0, 0))) (cs : List Value) (n : Nat) (hmin : Nat.min sLen dLen = n) (hn : cs.length = n * k)
    (hsrc : (sp = none ∧ cs = []) ∨ ∃ ad, sp = some ad ∧ ∀ j v, cs[j]? = some v → w.cell? (ad.add j) = some v) (hfit : cs.length ≤ cur.size) (h1 : ∀ v ∈ cs, v.oneCell' = true)
    (h : ∀ w', Hid (w'.heap[g]? = some (.cells (cs ++ cur.toList.drop cs.length).toArray t (0, 0))) → Hid (Below g w w') → wpList P ops Q rest (a.put o.dst (goInt n)) w') : wpList P ops Q (o :: rest) a w := by
  refine wpList_plain hgd fun K hK => ?_
  have hrun := run_copyK (P := P) w dT sT o.type elem g dLen dCap sp sLen sCap cur t cs k n hu hsz hg hmin hn hsrc hfit h1
  unfold Oper.wp
  simp [execOp, ho, resolve, invoke, builtin, hd, hs, hrun, Result.andThen]
  exact hK _ _ (h _ (setRow_heap w g cur _ t _ hg) (below_setRow (Below.refl _ _) (Nat.le_refl _) _))

theorem madeSh_at (n j : Nat) (hj : j < n) : (madeCells #[Value.slice none 0 0, .int .i64 0] (n * 2)).toList[j * 2]? = some (.slice none 0 0) ∧ (madeCells #[Value.slice none 0 0, .int .i64 0] (n * 2)).toList[j * 2 + 1]? = some (.int .i64 0) := by
  unfold madeCells
  constructor
  · rw [Array.getElem?_toList, Array.getElem?_map, Array.getElem?_range, if_pos (by omega)]
    simp
  · rw [Array.getElem?_toList, Array.getElem?_map, Array.getElem?_range, if_pos (by omega)]
    simp [show (j * 2 + 1) % 2 = 1 from by omega]
theorem madePt_at (n j : Nat) (hj : j < n * 2) : (madeCells #[Value.int .i64 0, .int .i64 0] (n * 2)).toList[j]? = some (.int .i64 0) := by
  unfold madeCells
  rw [Array.getElem?_toList, Array.getElem?_map, Array.getElem?_range, if_pos hj]
  rcases (show j % 2 = 0 ∨ j % 2 = 1 by omega) with h | h <;> simp [h]
theorem made_block {w : World} {b : Nat} {t : TypeId} {z g n : Nat} {xs : List Value} (h : w.ownsRow b t z (.slice (some ⟨g, 0, none⟩) n n) n xs) : w.heap[g]? = some (.cells xs.toArray t (0, 0)) := by
  rcases h.2 with ⟨h1, _⟩ | ⟨g', cap', cur, h1, _, h2, _, _, h3, h4⟩
  · cases h1
  · injection h1 with h1 _ h5
    injection h1 with h1
    injection h1 with h1 _ _
    subst h1
    subst h5
    rw [h2, ← h4, List.take_of_length_le (by rw [Array.length_toList, h3]; exact Nat.le_refl _)]
theorem block_cell {w : World} {g : Nat} {cs : List Value} {t : TypeId} (h : w.heap[g]? = some (.cells cs.toArray t (0, 0))) {j : Nat} {v : Value} (hj : cs[j]? = some v) : w.cell? ⟨g, j, none⟩ = some v := by
  simp [World.cell?, h, hj]
theorem block_fz {w : World} {g : Nat} {cs : List Value} {t : TypeId} (h : w.heap[g]? = some (.cells cs.toArray t (0, 0))) (j : Nat) : w.frozen? ⟨g, j, none⟩ = false := by
  simp [World.frozen?, h]

/-- A shape with spare room: its points, and the mark behind them. -/
def Roomy (gl i : Nat) (s : ShT) (w : World) : Prop :=
  ∃ g, gl < g ∧ w.cell? ⟨gl, i * 2, none⟩ = some (.slice (some ⟨g, 0, none⟩) s.1.length (s.1.length + 1)) ∧ w.cell? ⟨gl, i * 2 + 1, none⟩ = some (.int .i64 s.2) ∧ PtsAt g s.1 w ∧ w.cell? ⟨g, s.1.length * 2, none⟩ = some (.int .i64 (-77))
/-- What holds when i shapes have been laid. -/
structure RoI (gl n : Nat) (L : List ShT) (w : World) (i : Nat) (wr : World) : Prop where
  bl : Below w.heap.size w wr
  ge : w.heap.size ≤ gl
  lt : gl < wr.heap.size
  fz : ∀ j, wr.frozen? ⟨gl, j, none⟩ = false
  old : ∀ j, j < i → Roomy gl j (L.getD j sh0) wr
  new : ∀ j, i ≤ j → j ≤ n → wr.cell? ⟨gl, j * 2, none⟩ = some (.slice none 0 0) ∧ wr.cell? ⟨gl, j * 2 + 1, none⟩ = some (.int .i64 0)
theorem Roomy.on {gl i : Nat} {s : ShT} {w w' : World} (h : Roomy gl i s w) (hl : gl < w.heap.size) (hb : Below w.heap.size w w') : Roomy gl i s w' := by
  obtain ⟨g, h1, h2, h3, h4, h5⟩ := h
  exact ⟨g, h1, (hb.cell (p := ⟨gl, i * 2, none⟩) hl).trans h2, (hb.cell (p := ⟨gl, i * 2 + 1, none⟩) hl).trans h3, h4.on hb h4.1, (hb.cell (p := ⟨g, s.1.length * 2, none⟩) h4.1).trans h5⟩
theorem RoI.on {gl n : Nat} {L : List ShT} {w wr w' : World} {i : Nat} (h : RoI gl n L w i wr) (hb : Below wr.heap.size wr w') : RoI gl n L w i w' where
  bl := h.bl.trans (hb.mono h.bl.size)
  ge := h.ge
  lt := Nat.lt_of_lt_of_le h.lt hb.size
  fz := fun j => (hb.frozen (p := ⟨gl, j, none⟩) h.lt).trans (h.fz j)
  old := fun j hj => (h.old j hj).on h.lt hb
  new := fun j h1 h2 => ⟨(hb.cell (p := ⟨gl, j * 2, none⟩) h.lt).trans (h.new j h1 h2).1, (hb.cell (p := ⟨gl, j * 2 + 1, none⟩) h.lt).trans (h.new j h1 h2).2⟩
theorem Roomy.set {gl i : Nat} {s : ShT} {w : World} (h : Roomy gl i s w) {j : Nat} (h1 : j ≠ i * 2) (h2 : j ≠ i * 2 + 1) (v : Value) : Roomy gl i s (w.setCell ⟨gl, j, none⟩ v) := by
  obtain ⟨g, g1, a, b, c, d⟩ := h
  have o : ∀ k m, k ≠ gl ∨ m ≠ j → (w.setCell ⟨gl, j, none⟩ v).cell? ⟨k, m, none⟩ = w.cell? ⟨k, m, none⟩ := fun k m hk => World.cell?_setCell_other _ _ _ _ (by rcases hk with hk | hk <;> simp <;> omega)
  exact ⟨g, g1, (o _ _ (.inr (by omega))).trans a, (o _ _ (.inr (by omega))).trans b, ⟨by rw [World.size_setCell]; exact c.1, fun q hq => ⟨(o _ _ (.inl (by omega))).trans (c.2 q hq).1, (o _ _ (.inl (by omega))).trans (c.2 q hq).2⟩⟩, (o _ _ (.inl (by omega))).trans d⟩
theorem RoI.step {gl n : Nat} {L : List ShT} {w wr : World} {i : Nat} (h : RoI gl n L w i wr) (hi : i < n) {g : Nat} (hg : gl < g) (hp : PtsAt g (L.getD i sh0).1 wr) (hm : wr.cell? ⟨g, (L.getD i sh0).1.length * 2, none⟩ = some (.int .i64 (-77))) {a b : Value} (ha : a = .slice (some ⟨g, 0, none⟩) (L.getD i sh0).1.length ((L.getD i sh0).1.length + 1)) (hb : b = .int .i64 (L.getD i sh0).2) :
    RoI gl n L w (i + 1) ((wr.setCell ⟨gl, i * 2, none⟩ a).setCell ⟨gl, i * 2 + 1, none⟩ b) := by
  have c0 := (h.new i (Nat.le_refl _) (by omega)).1
  have c1 := (h.new i (Nat.le_refl _) (by omega)).2
  refine ⟨(h.bl.setCell (p := ⟨gl, i * 2, none⟩) h.ge a).setCell (p := ⟨gl, i * 2 + 1, none⟩) h.ge b, h.ge, by rw [World.size_setCell, World.size_setCell]; exact h.lt, fun j => by rw [World.frozen?_setCell, World.frozen?_setCell]; exact h.fz j, fun j hj => ?_, fun j h1 h2 => ?_⟩
  · rcases Nat.lt_or_ge j i with hlt | hge
    · exact ((h.old j hlt).set (by omega) (by omega) a).set (by omega) (by omega) b
    · obtain rfl : j = i := by omega
      have o : ∀ k m, k ≠ gl → ((wr.setCell ⟨gl, j * 2, none⟩ a).setCell ⟨gl, j * 2 + 1, none⟩ b).cell? ⟨k, m, none⟩ = wr.cell? ⟨k, m, none⟩ := fun k m hk => (World.cell?_setCell_other _ _ _ _ (by simp <;> omega)).trans (World.cell?_setCell_other _ _ _ _ (by simp <;> omega))
      refine ⟨g, hg, ?_, ?_, ⟨by rw [World.size_setCell, World.size_setCell]; exact hp.1, fun q hq => ⟨(o _ _ (by omega)).trans (hp.2 q hq).1, (o _ _ (by omega)).trans (hp.2 q hq).2⟩⟩, (o _ _ (by omega)).trans hm⟩
      · rw [World.cell?_setCell_other _ _ _ _ (by simp), World.cell?_setCell_same _ _ _ c0, ha]
      · rw [World.cell?_setCell_same _ _ _ ((World.cell?_setCell_other _ _ _ _ (by simp)).trans c1), hb]
  · have o : ∀ m, m ≠ i * 2 → m ≠ i * 2 + 1 → ((wr.setCell ⟨gl, i * 2, none⟩ a).setCell ⟨gl, i * 2 + 1, none⟩ b).cell? ⟨gl, m, none⟩ = wr.cell? ⟨gl, m, none⟩ := fun m x1 x2 => (World.cell?_setCell_other _ _ _ _ (by simp <;> omega)).trans (World.cell?_setCell_other _ _ _ _ (by simp <;> omega))
    exact ⟨(o _ (by omega) (by omega)).trans (h.new j (by omega) h2).1, (o _ (by omega) (by omega)).trans (h.new j (by omega) h2).2⟩
end Go.Proofs.YtljfiefobnncaaaDoor
