/- outlineref: Best: what holds in its loops. -/
import Derived.Test.YtgapfjjdccohkaaJcounted16
import Derived.Test.YtgapfjjdccohkaaJcounted20
import Derived.Deep.AppendLies
import Derived.Deep.RegionLaw
namespace Go.Proofs.Ytgapfjjdccohkaa
open Go.RowKit

namespace Qm
section
variable {v : List Pt} {i j : Nat} {l L : List Nat}
theorem Pth.len (h : Pth (okV v) i j l) : i ≤ j ∧ l.length ≤ j - i + 1 := by
  induction h with
  | one i => simp
  | cons i k j l ho _ ih => have := ho.1; simp only [List.length_cons]; omega
theorem cV_in (hs : Small v) (h : okV v i j) : 0 ≤ cV v i j ∧ cV v i j ≤ 26624 := by
  have hl := sl_len (Nat.le_of_lt h.1) h.2.1
  have := costOf_in (l := sl v i j) (fun p hp => hs p (List.mem_of_mem_drop (List.mem_of_mem_take hp)))
  unfold cV
  have := h.2.2.1
  omega
theorem Pth.cs_in (hs : Small v) (h : Pth (okV v) i j l) : 0 ≤ cs (cV v) l ∧ cs (cV v) l ≤ 26624 * (l.length : Int) := by
  induction h with
  | one i => simp [cs]
  | cons i k j l ho hp ih =>
    rw [cs_cons hp]
    have := cV_in hs ho
    simp only [List.length_cons]
    omega
theorem BestTo.pth (h : BestTo v j i L) (hL : L ≠ []) : Pth (okV v) 0 j L := by
  rcases h with ⟨h1, _⟩ | ⟨⟨k, m, _, ok, o, rfl⟩, _⟩
  · exact absurd h1 hL
  · exact o.1.snoc ok
end
/-- In the outer loop. -/
def OutI (v : List Pt) (j : Nat) (T : Nat → List Nat) : Prop := (∀ q, q < j → Opt (okV v) (cV v) 0 q (T q)) ∧ ∀ q, j ≤ q → T q = []
/-- In the inner one. -/
def InI (v : List Pt) (j i : Nat) (T : Nat → List Nat) : Prop := (∀ q, q < j → Opt (okV v) (cV v) 0 q (T q)) ∧ BestTo v j i (T j) ∧ ∀ q, j < q → T q = []
def setT (T : Nat → List Nat) (j : Nat) (L : List Nat) : Nat → List Nat := fun q => if q = j then L else T q
theorem OutI.inner {v : List Pt} {j : Nat} {T : Nat → List Nat} (h : OutI v j T) : InI v j 0 T := ⟨h.1, by rw [h.2 j (Nat.le_refl _)]; exact BestTo.zero v j, fun q hq => h.2 q (by omega)⟩
theorem InI.outer {v : List Pt} {j : Nat} {T : Nat → List Nat} (h : InI v j j T) (hu : Unit v) (hj : 0 < j) (hjv : j < v.length) : OutI v (j + 1) T := by
  refine ⟨fun q hq => ?_, fun q hq => h.2.2 q (by omega)⟩
  rcases Nat.lt_or_ge q j with h1 | h1
  · exact h.1 q h1
  · obtain rfl : q = j := by omega
    exact h.2.1.done hu hj hjv fun k hk => ⟨_, h.1 k hk⟩
theorem InI.new {v : List Pt} {j i : Nat} {T : Nat → List Nat} (h : InI v j i T) {L : List Nat} (hb : BestTo v j (i + 1) L) : InI v j (i + 1) (setT T j L) := by
  refine ⟨fun q hq => ?_, ?_, fun q hq => ?_⟩
  · unfold setT; rw [if_neg (by omega)]; exact h.1 q hq
  · unfold setT; rw [if_pos rfl]; exact hb
  · unfold setT; rw [if_neg (by omega)]; exact h.2.2 q hq
theorem InI.same {v : List Pt} {j i : Nat} {T : Nat → List Nat} (h : InI v j i T) (hb : BestTo v j (i + 1) (T j)) : InI v j (i + 1) T := ⟨h.1, hb, h.2.2⟩
end Qm

/-- One row of the table. -/
def RwAt (v : List (Int × Int)) (gr q : Nat) (L : List Nat) (w : World) : Prop :=
  (L = [] ∧ w.cell? ⟨gr, q * 2, none⟩ = some (.slice none 0 0) ∧ w.cell? ⟨gr, q * 2 + 1, none⟩ = some (.int .i64 0)) ∨
  (0 < L.length ∧ ∃ g cap, w.cell? ⟨gr, q * 2, none⟩ = some (.slice (some ⟨g, 0, none⟩) L.length cap) ∧ w.cell? ⟨gr, q * 2 + 1, none⟩ = some (.int .i64 (Qm.cs (Qm.cV v) L)) ∧ NumsAt g L w ∧ gr < g)
/-- The table. -/
structure Tab (v : List (Int × Int)) (gr n : Nat) (T : Nat → List Nat) (w : World) : Prop where
  lt : gr < w.heap.size
  fz : ∀ j, w.frozen? ⟨gr, j, none⟩ = false
  row : ∀ q, q ≤ n → RwAt v gr q (T q) w
theorem Tab.on {v : List (Int × Int)} {gr n : Nat} {T : Nat → List Nat} {w w' : World} (h : Tab v gr n T w) (hb : Below w.heap.size w w') : Tab v gr n T w' := by
  refine ⟨Nat.lt_of_lt_of_le h.lt hb.size, fun j => (hb.frozen (p := ⟨gr, j, none⟩) h.lt).trans (h.fz j), fun q hq => ?_⟩
  have C : ∀ j, w'.cell? ⟨gr, j, none⟩ = w.cell? ⟨gr, j, none⟩ := fun j => hb.cell (p := ⟨gr, j, none⟩) h.lt
  rcases h.row q hq with ⟨h1, h2, h3⟩ | ⟨h0, g, cap, h2, h3, h4, h5⟩
  · exact .inl ⟨h1, (C _).trans h2, (C _).trans h3⟩
  · exact .inr ⟨h0, g, cap, (C _).trans h2, (C _).trans h3, h4.on hb h4.1, h5⟩
theorem Tab.set {v : List (Int × Int)} {gr n : Nat} {T : Nat → List Nat} {w : World} (h : Tab v gr n T w) {j : Nat} (hj : j ≤ n) {L : List Nat} {g cap : Nat} (hL : 0 < L.length) (hg : NumsAt g L w) (hgg : gr < g) {c : Int} (hc : c = Qm.cs (Qm.cV v) L) :
    Tab v gr n (Qm.setT T j L) ((w.setCell ⟨gr, j * 2, none⟩ (.slice (some ⟨g, 0, none⟩) L.length cap)).setCell ⟨gr, j * 2 + 1, none⟩ (.int .i64 c)) := by
  have O : ∀ {k : Nat} {m : List Nat}, gr < k → NumsAt k m w → NumsAt k m ((w.setCell ⟨gr, j * 2, none⟩ (.slice (some ⟨g, 0, none⟩) L.length cap)).setCell ⟨gr, j * 2 + 1, none⟩ (.int .i64 c)) := fun hk hm =>
    ⟨by simp only [World.size_setCell]; exact hm.1, fun i hi => by
      rw [World.cell?_setCell_other _ _ _ _ (by intro e; injection e with e _ _; omega), World.cell?_setCell_other _ _ _ _ (by intro e; injection e with e _ _; omega)]; exact hm.2 i hi⟩
  have o : ∀ a, a ≠ j * 2 → a ≠ j * 2 + 1 → ((w.setCell ⟨gr, j * 2, none⟩ (.slice (some ⟨g, 0, none⟩) L.length cap)).setCell ⟨gr, j * 2 + 1, none⟩ (.int .i64 c)).cell? ⟨gr, a, none⟩ = w.cell? ⟨gr, a, none⟩ := fun a h1 h2 => by
    rw [World.cell?_setCell_other _ _ _ _ (by intro e; injection e with _ e _; omega), World.cell?_setCell_other _ _ _ _ (by intro e; injection e with _ e _; omega)]
  have st : ∃ x y, w.cell? ⟨gr, j * 2, none⟩ = some x ∧ w.cell? ⟨gr, j * 2 + 1, none⟩ = some y := by
    rcases h.row j hj with ⟨_, h2, h3⟩ | ⟨_, _, _, h2, h3, _⟩
    · exact ⟨_, _, h2, h3⟩
    · exact ⟨_, _, h2, h3⟩
  obtain ⟨x, y, hx, hy⟩ := st
  have c0 : ((w.setCell ⟨gr, j * 2, none⟩ (.slice (some ⟨g, 0, none⟩) L.length cap)).setCell ⟨gr, j * 2 + 1, none⟩ (.int .i64 c)).cell? ⟨gr, j * 2, none⟩ = some (.slice (some ⟨g, 0, none⟩) L.length cap) := by
    rw [World.cell?_setCell_other _ _ _ _ (by intro e; injection e with _ e _; omega)]; exact World.cell?_setCell_same _ _ _ hx
  have c1 : ((w.setCell ⟨gr, j * 2, none⟩ (.slice (some ⟨g, 0, none⟩) L.length cap)).setCell ⟨gr, j * 2 + 1, none⟩ (.int .i64 c)).cell? ⟨gr, j * 2 + 1, none⟩ = some (.int .i64 c) :=
    World.cell?_setCell_same _ _ _ ((World.cell?_setCell_other _ _ _ _ (by intro e; injection e with _ e _; omega)).trans hy)
  refine ⟨by simp only [World.size_setCell]; exact h.lt, fun a => by simpa using h.fz a, fun q hq => ?_⟩
  unfold Qm.setT
  by_cases e : q = j
  · subst e
    rw [if_pos rfl]
    exact .inr ⟨hL, g, cap, c0, by rw [c1, hc], O hgg hg, hgg⟩
  · rw [if_neg e]
    rcases h.row q hq with ⟨h1, h2, h3⟩ | ⟨h0, g', cap', h2, h3, h4, h5⟩
    · exact .inl ⟨h1, (o _ (by omega) (by omega)).trans h2, (o _ (by omega) (by omega)).trans h3⟩
    · exact .inr ⟨h0, g', cap', (o _ (by omega) (by omega)).trans h2, (o _ (by omega) (by omega)).trans h3, O h5 h4, h5⟩

/-- What stands in a row of the table, whichever way. -/
theorem Tab.at {v : List (Int × Int)} {gr n : Nat} {T : Nat → List Nat} {w : World} (h : Tab v gr n T w) {q : Nat} (hq : q ≤ n) :
    ∃ ao cap c, w.cell? ⟨gr, q * 2, none⟩ = some (.slice ao (T q).length cap) ∧ w.cell? ⟨gr, q * 2 + 1, none⟩ = some (.int .i64 c) ∧ (T q = [] ∨ c = Qm.cs (Qm.cV v) (T q)) ∧ ((T q).length = 0 ∨ ∃ g, ao = some ⟨g, 0, none⟩ ∧ NumsAt g (T q) w ∧ gr < g) := by
  rcases h.row q hq with ⟨h1, h2, h3⟩ | ⟨_, g, cap, h2, h3, h4, h5⟩
  · exact ⟨none, 0, 0, by rw [h1]; exact h2, h3, .inl h1, .inl (by rw [h1]; rfl)⟩
  · exact ⟨_, cap, _, h2, h3, .inr rfl, .inr ⟨g, rfl, h4, h5⟩⟩
theorem madeRow_at (n j : Nat) (hj : j < n) : (madeCells #[Value.slice none 0 0, .int .i64 0] (n * 2)).toList[j * 2]? = some (.slice none 0 0) ∧ (madeCells #[Value.slice none 0 0, .int .i64 0] (n * 2)).toList[j * 2 + 1]? = some (.int .i64 0) := by
  unfold madeCells
  constructor
  · rw [Array.getElem?_toList, Array.getElem?_map, Array.getElem?_range, if_pos (by omega)]
    simp
  · rw [Array.getElem?_toList, Array.getElem?_map, Array.getElem?_range, if_pos (by omega)]
    simp [show (j * 2 + 1) % 2 = 1 from by omega]

def numV (l : List Nat) : List Value := l.map fun (k : Nat) => .int .i64 (k : Int)
theorem numV_len (l : List Nat) : (numV l).length = l.length := by simp [numV]
theorem numV_one (l : List Nat) : ∀ u ∈ numV l, u.oneCell' = true := by
  intro u hu
  obtain ⟨k, _, rfl⟩ := List.mem_map.1 hu
  rfl
theorem numV_at {l : List Nat} {j : Nat} {u : Value} (h : (numV l)[j]? = some u) : j < l.length ∧ u = .int .i64 ((l.getD j 0 : Nat) : Int) := by
  unfold numV at h
  rw [List.getElem?_map] at h
  cases e : l[j]? with
  | none => rw [e] at h; simp at h
  | some k =>
    rw [e] at h
    simp at h
    have := (List.getElem?_eq_some_iff.1 e).1
    exact ⟨this, by rw [← h, List.getD_eq_getElem?_getD, e]; rfl⟩
theorem NumsAt.news {g : Nat} {l : List Nat} {w : World} (h : NumsAt g l w) : ∀ j u, (numV l)[j]? = some u → w.cell? ((⟨g, 0, none⟩ : Addr).add j) = some u := fun j u hu => by
  obtain ⟨hj, rfl⟩ := numV_at hu
  rw [add_zero_at]; exact h.2 j hj
theorem own_nums {w : World} {b : Nat} {t : TypeId} {g cap : Nat} {l : List Nat} {n : Nat} (h : w.ownsRow b t 1 (.slice (some ⟨g, 0, none⟩) n cap) n (numV l)) : NumsAt g l w ∧ b ≤ g ∧ n = l.length := by
  have hl := h.1
  rw [numV_len, Nat.mul_one] at hl
  have lt := h.lt g rfl
  refine ⟨⟨lt.2, fun j hj => ?_⟩, lt.1, hl.symm⟩
  have := h.cells (g := g) rfl j (.int .i64 ((l.getD j 0 : Nat) : Int)) (by simp [numV, hj])
  rwa [add_zero_at] at this
theorem own_fz {w : World} {b : Nat} {t : TypeId} {z g n cap : Nat} {xs : List Value} (h : w.ownsRow b t z (.slice (some ⟨g, 0, none⟩) n cap) n xs) (j : Nat) : w.frozen? ⟨g, j, none⟩ = false := by
  rcases h.2 with ⟨h1, _⟩ | ⟨g', cap', cur, h1, _, h2, _⟩
  · cases h1
  · injection h1 with h1 _ _; injection h1 with h1; injection h1 with h1 _ _
    subst h1
    simp [World.frozen?, h2]
theorem PtsAt.gb {g r : Nat} {l : List (Int × Int)} {w w' : World} (h : PtsAt g l w) (hb : w.grownBy w' (some r)) (hne : g ≠ r) : PtsAt g l w' := by
  have C : ∀ j, w'.cell? ⟨g, j, none⟩ = w.cell? ⟨g, j, none⟩ := fun j => World.cell?_of_block (a := ⟨g, j, none⟩) (hb.block g h.1 (by simp; omega))
  exact ⟨Nat.lt_of_lt_of_le h.1 hb.size, fun j hj => ⟨(C _).trans (h.2 j hj).1, (C _).trans (h.2 j hj).2⟩⟩
theorem PtsAt.sl {g : Nat} {v : List (Int × Int)} {w : World} (h : PtsAt g v w) (i j : Nat) : PtsO g (i * 2) (Qm.sl v i j) w := by
  have := (h.o.drop i).take (j - i + 1)
  rw [Nat.zero_add] at this
  exact this
theorem numV_snoc (l : List Nat) (j : Nat) : numV (l ++ [j]) = numV l ++ [.int .i64 (j : Int)] := by simp [numV]
/-- A row's box. -/
def BoxW (b : Nat) (x y : Value) (w : World) : Prop := b < w.heap.size ∧ w.cell? ⟨b, 0, none⟩ = some x ∧ w.cell? ⟨b, 1, none⟩ = some y ∧ w.frozen? ⟨b, 0, none⟩ = false
theorem BoxW.new (w : World) (x y : Value) (t : TypeId) : BoxW w.heap.size x y (w.alloc (.cells #[x, y] t)) := ⟨by simp, by simp, by simp, by simp⟩
theorem BoxW.on {b : Nat} {x y : Value} {w w' : World} (h : BoxW b x y w) (hb : Below w.heap.size w w') : BoxW b x y w' :=
  ⟨Nat.lt_of_lt_of_le h.1 hb.size, (hb.cell (p := ⟨b, 0, none⟩) h.1).trans h.2.1, (hb.cell (p := ⟨b, 1, none⟩) h.1).trans h.2.2.1, (hb.frozen (p := ⟨b, 0, none⟩) h.1).trans h.2.2.2⟩
theorem BoxW.gb {b : Nat} {x y : Value} {w w' : World} {r : Option Nat} (h : BoxW b x y w) (hb : w.grownBy w' r) (hne : r ≠ some b) : BoxW b x y w' := by
  have e := hb.block b h.1 (Ne.symm hne)
  have C : ∀ j, w'.cell? ⟨b, j, none⟩ = w.cell? ⟨b, j, none⟩ := fun j => World.cell?_of_block (a := ⟨b, j, none⟩) e
  exact ⟨Nat.lt_of_lt_of_le h.1 hb.size, (C _).trans h.2.1, (C _).trans h.2.2.1, by have := h.2.2.2; unfold World.frozen? at this ⊢; rw [e]; exact this⟩
theorem BoxW.set {b : Nat} {x y : Value} {w : World} (h : BoxW b x y w) (u : Value) : BoxW b u y (w.setCell ⟨b, 0, none⟩ u) :=
  ⟨by rw [World.size_setCell]; exact h.1, World.cell?_setCell_same _ _ _ h.2.1, (World.cell?_setCell_other _ _ _ _ (by simp)).trans h.2.2.1, by simpa using h.2.2.2⟩
theorem infoRefRow : (Try.prog.info? 113).map (fun i => (i.zero, i.size, i.bytes)) = some (some (.agg #[.slice none 0 0, .int .i64 0]), 2, 32) := by kernel_rfl
theorem infoInt : (Try.prog.info? 3).map (fun i => (i.zero, i.size, i.bytes)) = some (some (.int .i64 0), 1, 8) := by kernel_rfl
end Go.Proofs.Ytgapfjjdccohkaa
