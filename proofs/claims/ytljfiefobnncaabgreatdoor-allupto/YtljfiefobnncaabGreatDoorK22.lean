import Derived.Test.YtljfiefobnncaabGreatDoorK21
import Derived.Test.YtljfiefobnncaabGreatDoorK12
import Derived.Deep.AppendLies
import Derived.Deep.RegionLaw

/- outlineref: Best: what holds in its loops. -/
namespace Go.Proofs.YtljfiefobnncaabGreatDoor
open Go.RowKit

namespace Qm
section
variable {v : List Pt} {i j : Nat} {l L : List Nat}
theorem cV_in (hs : Small v) (h : okV v i j) : 0 ≤ cV v i j ∧ cV v i j ≤ 26624 := by
  have hl := sl_len (Nat.le_of_lt h.1) h.2.1
  have := costOf_in (l := sl v i j) (fun p hp => hs p (List.mem_of_mem_drop (List.mem_of_mem_take hp)))
  unfold cV
  have := h.2.2.1
  omega
theorem Pth.cs_in (hs : Small v) (h : Pth (okV v) i j l) : 0 ≤ cs (cV v) l ∧ cs (cV v) l ≤ 26624 * (l.length : Int) := by
  induction h with
  | one i => simp [cs]
  | cons i k j l ho hp ih =>
    rw [cs_cons hp]
    have := cV_in hs ho
    simp only [List.length_cons]
    omega
theorem BestTo.pth (h : BestTo v j i L) (hL : L ≠ []) : Pth (okV v) 0 j L := by
  rcases h with ⟨h1, _⟩ | ⟨⟨k, m, _, ok, o, rfl⟩, _⟩
  · exact absurd h1 hL
  · exact o.1.snoc ok
end
/-- In the outer loop. -/
def OutI (v : List Pt) (j : Nat) (T : Nat → List Nat) : Prop := (∀ q, q < j → Opt (okV v) (cV v) 0 q (T q)) ∧ ∀ q, j ≤ q → T q = []
/-- In the inner one. -/
def InI (v : List Pt) (j i : Nat) (T : Nat → List Nat) : Prop := (∀ q, q < j → Opt (okV v) (cV v) 0 q (T q)) ∧ BestTo v j i (T j) ∧ ∀ q, j < q → T q = []
def setT (T : Nat → List Nat) (j : Nat) (L : List Nat) : Nat → List Nat := fun q => if q = j then L else T q
theorem OutI.inner {v : List Pt} {j : Nat} {T : Nat → List Nat} (h : OutI v j T) : InI v j 0 T := ⟨h.1, by rw [h.2 j (Nat.le_refl _)]; exact BestTo.zero v j, fun q hq => h.2 q (by omega)⟩
theorem InI.outer {v : List Pt} {j : Nat} {T : Nat → List Nat} (h : InI v j j T) (hu : Unit v) (hj : 0 < j) (hjv : j < v.length) : OutI v (j + 1) T := by
  refine ⟨fun q hq => ?_, fun q hq => h.2.2 q (by omega)⟩
  rcases Nat.lt_or_ge q j with h1 | h1
  · exact h.1 q h1
  · obtain rfl : q = j := by omega
    exact h.2.1.done hu hj hjv fun k hk => ⟨_, h.1 k hk⟩
theorem InI.new {v : List Pt} {j i : Nat} {T : Nat → List Nat} (h : InI v j i T) {L : List Nat} (hb : BestTo v j (i + 1) L) : InI v j (i + 1) (setT T j L) := by
  refine ⟨fun q hq => ?_, ?_, fun q hq => ?_⟩
  · unfold setT; rw [if_neg (by omega)]; exact h.1 q hq
  · unfold setT; rw [if_pos rfl]; exact hb
  · unfold setT; rw [if_neg (by omega)]; exact h.2.2 q hq
theorem InI.same {v : List Pt} {j i : Nat} {T : Nat → List Nat} (h : InI v j i T) (hb : BestTo v j (i + 1) (T j)) : InI v j (i + 1) T := ⟨h.1, hb, h.2.2⟩
end Qm

/-- One row of the table. -/
def RwAt (v : List (Int × Int)) (gr q : Nat) (L : List Nat) (w : World) : Prop :=
  (L = [] ∧ w.cell? ⟨gr, q * 2, none⟩ = some (.slice none 0 0) ∧ w.cell? ⟨gr, q * 2 + 1, none⟩ = some (.int .i64 0)) ∨
  (0 < L.length ∧ ∃ g cap, w.cell? ⟨gr, q * 2, none⟩ = some (.slice (some ⟨g, 0, none⟩) L.length cap) ∧ w.cell? ⟨gr, q * 2 + 1, none⟩ = some (.int .i64 (Qm.cs (Qm.cV v) L)) ∧ NumsAt g L w ∧ gr < g)
/-- The table. -/
structure Tab (v : List (Int × Int)) (gr n : Nat) (T : Nat → List Nat) (w : World) : Prop where
  lt : gr < w.heap.size
  fz : ∀ j, w.frozen? ⟨gr, j, none⟩ = false
  row : ∀ q, q ≤ n → RwAt v gr q (T q) w
theorem Tab.on {v : List (Int × Int)} {gr n : Nat} {T : Nat → List Nat} {w w' : World} (h : Tab v gr n T w) (hb : Below w.heap.size w w') : Tab v gr n T w' := by
  refine ⟨Nat.lt_of_lt_of_le h.lt hb.size, fun j => (hb.frozen (p := ⟨gr, j, none⟩) h.lt).trans (h.fz j), fun q hq => ?_⟩
  have C : ∀ j, w'.cell? ⟨gr, j, none⟩ = w.cell? ⟨gr, j, none⟩ := fun j => hb.cell (p := ⟨gr, j, none⟩) h.lt
  rcases h.row q hq with ⟨h1, h2, h3⟩ | ⟨h0, g, cap, h2, h3, h4, h5⟩
  · exact .inl ⟨h1, (C _).trans h2, (C _).trans h3⟩
  · exact .inr ⟨h0, g, cap, (C _).trans h2, (C _).trans h3, h4.on hb h4.1, h5⟩
theorem Tab.set {v : List (Int × Int)} {gr n : Nat} {T : Nat → List Nat} {w : World} (h : Tab v gr n T w) {j : Nat} (hj : j ≤ n) {L : List Nat} {g cap : Nat} (hL : 0 < L.length) (hg : NumsAt g L w) (hgg : gr < g) {c : Int} (hc : c = Qm.cs (Qm.cV v) L) :
    Tab v gr n (Qm.setT T j L) ((w.setCell ⟨gr, j * 2, none⟩ (.slice (some ⟨g, 0, none⟩) L.length cap)).setCell ⟨gr, j * 2 + 1, none⟩ (.int .i64 c)) := by
  have O : ∀ {k : Nat} {m : List Nat}, gr < k → NumsAt k m w → NumsAt k m ((w.setCell ⟨gr, j * 2, none⟩ (.slice (some ⟨g, 0, none⟩) L.length cap)).setCell ⟨gr, j * 2 + 1, none⟩ (.int .i64 c)) := fun hk hm =>
    ⟨by simp only [World.size_setCell]; exact hm.1, fun i hi => by
      rw [World.cell?_setCell_other _ _ _ _ (by intro e; injection e with e _ _; omega), World.cell?_setCell_other _ _ _ _ (by intro e; injection e with e _ _; omega)]; exact hm.2 i hi⟩
  have o : ∀ a, a ≠ j * 2 → a ≠ j * 2 + 1 → ((w.setCell ⟨gr, j * 2, none⟩ (.slice (some ⟨g, 0, none⟩) L.length cap)).setCell ⟨gr, j * 2 + 1, none⟩ (.int .i64 c)).cell? ⟨gr, a, none⟩ = w.cell? ⟨gr, a, none⟩ := fun a h1 h2 => by
    rw [World.cell?_setCell_other _ _ _ _ (by intro e; injection e with _ e _; omega), World.cell?_setCell_other _ _ _ _ (by intro e; injection e with _ e _; omega)]
  have st : ∃ x y, w.cell? ⟨gr, j * 2, none⟩ = some x ∧ w.cell? ⟨gr, j * 2 + 1, none⟩ = some y := by
    rcases h.row j hj with ⟨_, h2, h3⟩ | ⟨_, _, _, h2, h3, _⟩
    · exact ⟨_, _, h2, h3⟩
    · exact ⟨_, _, h2, h3⟩
  obtain ⟨x, y, hx, hy⟩ := st
  have c0 : ((w.setCell ⟨gr, j * 2, none⟩ (.slice (some ⟨g, 0, none⟩) L.length cap)).setCell ⟨gr, j * 2 + 1, none⟩ (.int .i64 c)).cell? ⟨gr, j * 2, none⟩ = some (.slice (some ⟨g, 0, none⟩) L.length cap) := by
    rw [World.cell?_setCell_other _ _ _ _ (by intro e; injection e with _ e _; omega)]; exact World.cell?_setCell_same _ _ _ hx
  have c1 : ((w.setCell ⟨gr, j * 2, none⟩ (.slice (some ⟨g, 0, none⟩) L.length cap)).setCell ⟨gr, j * 2 + 1, none⟩ (.int .i64 c)).cell? ⟨gr, j * 2 + 1, none⟩ = some (.int .i64 c) :=
    World.cell?_setCell_same _ _ _ ((World.cell?_setCell_other _ _ _ _ (by intro e; injection e with _ e _; omega)).trans hy)
  refine ⟨by simp only [World.size_setCell]; exact h.lt, fun a => by simpa using h.fz a, fun q hq => ?_⟩
  unfold Qm.setT
  by_cases e : q = j
  · subst e
    rw [if_pos rfl]
    exact .inr ⟨hL, g, cap, c0, by rw [c1, hc], O hgg hg, hgg⟩
  · rw [if_neg e]
    rcases h.row q hq with ⟨h1, h2, h3⟩ | ⟨h0, g', cap', h2, h3, h4, h5⟩
    · exact .inl ⟨h1, (o _ (by omega) (by omega)).trans h2, (o _ (by omega) (by omega)).trans h3⟩
    · exact .inr ⟨h0, g', cap', (o _ (by omega) (by omega)).trans h2, (o _ (by omega) (by omega)).trans h3, O h5 h4, h5⟩

/-- What stands in a row of the table, whichever way. -/
theorem Tab.at {v : List (Int × Int)} {gr n : Nat} {T : Nat → List Nat} {w : World} (h : Tab v gr n T w) {q : Nat} (hq : q ≤ n) :
    ∃ ao cap c, w.cell? ⟨gr, q * 2, none⟩ = some (.slice ao (T q).length cap) ∧ w.cell? ⟨gr, q * 2 + 1, none⟩ = some (.int .i64 c) ∧ (T q = [] ∨ c = Qm.cs (Qm.cV v) (T q)) ∧ ((T q).length = 0 ∨ ∃ g, ao = some ⟨g, 0, none⟩ ∧ NumsAt g (T q) w ∧ gr < g) := by
  rcases h.row q hq with ⟨h1, h2, h3⟩ | ⟨_, g, cap, h2, h3, h4, h5⟩
  · exact ⟨none, 0, 0, by rw [h1]; exact h2, h3, .inl h1, .inl (by rw [h1]; rfl)⟩
  · exact ⟨_, cap, _, h2, h3, .inr rfl, .inr ⟨g, rfl, h4, h5⟩⟩
theorem madeRow_at (n j : Nat) (hj : j < n) : (madeCells #[Value.slice none 0 0, .int .i64 0] (n * 2)).toList[j * 2]? = some (.slice none 0 0) ∧ (madeCells #[Value.slice none 0 0, .int .i64 0] (n * 2)).toList[j * 2 + 1]? = some (.int .i64 0) := by
  unfold madeCells
  constructor
  · rw [Array.getElem?_toList, Array.getElem?_map, Array.getElem?_range, if_pos (by omega)]
    simp
  · rw [Array.getElem?_toList, Array.getElem?_map, Array.getElem?_range, if_pos (by omega)]
    simp [show (j * 2 + 1) % 2 = 1 from by omega]

def numV (l : List Nat) : List Value := l.map fun (k : Nat) => .int .i64 (k : Int)
theorem numV_len (l : List Nat) : (numV l).length = l.length := by simp [numV]
theorem numV_one (l : List Nat) : ∀ u ∈ numV l, u.oneCell' = true := by
  intro u hu
  obtain ⟨k, _, rfl⟩ := List.mem_map.1 hu
  rfl
theorem numV_at {l : List Nat} {j : Nat} {u : Value} (h : (numV l)[j]? = some u) : j < l.length ∧ u = .int .i64 ((l.getD j 0 : Nat) : Int) := by
  unfold numV at h
  rw [List.getElem?_map] at h
  cases e : l[j]? with
  | none => rw [e] at h; simp at h
  | some k =>
    rw [e] at h
    simp at h
    have := (List.getElem?_eq_some_iff.1 e).1
    exact ⟨this, by rw [← h, List.getD_eq_getElem?_getD, e]; rfl⟩
theorem NumsAt.news {g : Nat} {l : List Nat} {w : World} (h : NumsAt g l w) : ∀ j u, (numV l)[j]? = some u → w.cell? ((⟨g, 0, none⟩ : Addr).add j) = some u := fun j u hu => by
  obtain ⟨hj, rfl⟩ := numV_at hu
  rw [add_zero_at]; exact h.2 j hj
theorem own_nums {w : World} {b : Nat} {t : TypeId} {g cap : Nat} {l : List Nat} {n : Nat} (h : w.ownsRow b t 1 (.slice (some ⟨g, 0, none⟩) n cap) n (numV l)) : NumsAt g l w ∧ b ≤ g ∧ n = l.length := by
  have hl := h.1
  rw [numV_len, Nat.mul_one] at hl
  have lt := h.lt g rfl
  refine ⟨⟨lt.2, fun j hj => ?_⟩, lt.1, hl.symm⟩
  have := h.cells (g := g) rfl j (.int .i64 ((l.getD j 0 : Nat) : Int)) (by simp [numV, hj])
  rwa [add_zero_at] at this
theorem own_fz {w : World} {b : Nat} {t : TypeId} {z g n cap : Nat} {xs : List Value} (h : w.ownsRow b t z (.slice (some ⟨g, 0, none⟩) n cap) n xs) (j : Nat) : w.frozen? ⟨g, j, none⟩ = false := by
  rcases h.2 with ⟨h1, _⟩ | ⟨g', cap', cur, h1, _, h2, _⟩
  · cases h1
  · injection h1 with h1 _ _; injection h1 with h1; injection h1 with h1 _ _
    subst h1
    simp [World.frozen?, h2]
theorem PtsAt.gb {g r : Nat} {l : List (Int × Int)} {w w' : World} (h : PtsAt g l w) (hb : w.grownBy w' (some r)) (hne : g ≠ r) : PtsAt g l w' := by
  have C : ∀ j, w'.cell? ⟨g, j, none⟩ = w.cell? ⟨g, j, none⟩ := fun j => World.cell?_of_block (a := ⟨g, j, none⟩) (hb.block g h.1 (by simp; omega))
  exact ⟨Nat.lt_of_lt_of_le h.1 hb.size, fun j hj => ⟨(C _).trans (h.2 j hj).1, (C _).trans (h.2 j hj).2⟩⟩
theorem PtsAt.sl {g : Nat} {v : List (Int × Int)} {w : World} (h : PtsAt g v w) (i j : Nat) : PtsO g (i * 2) (Qm.sl v i j) w := by
  have := (h.o.drop i).take (j - i + 1)
  rw [Nat.zero_add] at this
  exact this
theorem numV_snoc (l : List Nat) (j : Nat) : numV (l ++ [j]) = numV l ++ [.int .i64 (j : Int)] := by simp [numV]
/-- A row's box. -/
def BoxW (b : Nat) (x y : Value) (w : World) : Prop := b < w.heap.size ∧ w.cell? ⟨b, 0, none⟩ = some x ∧ w.cell? ⟨b, 1, none⟩ = some y ∧ w.frozen? ⟨b, 0, none⟩ = false
theorem BoxW.new (w : World) (x y : Value) (t : TypeId) : BoxW w.heap.size x y (w.alloc (.cells #[x, y] t)) := ⟨by simp, by simp, by simp, by simp⟩
theorem BoxW.on {b : Nat} {x y : Value} {w w' : World} (h : BoxW b x y w) (hb : Below w.heap.size w w') : BoxW b x y w' :=
  ⟨Nat.lt_of_lt_of_le h.1 hb.size, (hb.cell (p := ⟨b, 0, none⟩) h.1).trans h.2.1, (hb.cell (p := ⟨b, 1, none⟩) h.1).trans h.2.2.1, (hb.frozen (p := ⟨b, 0, none⟩) h.1).trans h.2.2.2⟩
theorem BoxW.gb {b : Nat} {x y : Value} {w w' : World} {r : Option Nat} (h : BoxW b x y w) (hb : w.grownBy w' r) (hne : r ≠ some b) : BoxW b x y w' := by
  have e := hb.block b h.1 (Ne.symm hne)
  have C : ∀ j, w'.cell? ⟨b, j, none⟩ = w.cell? ⟨b, j, none⟩ := fun j => World.cell?_of_block (a := ⟨b, j, none⟩) e
  exact ⟨Nat.lt_of_lt_of_le h.1 hb.size, (C _).trans h.2.1, (C _).trans h.2.2.1, by have := h.2.2.2; unfold World.frozen? at this ⊢; rw [e]; exact this⟩
theorem BoxW.set {b : Nat} {x y : Value} {w : World} (h : BoxW b x y w) (u : Value) : BoxW b u y (w.setCell ⟨b, 0, none⟩ u) :=
  ⟨by rw [World.size_setCell]; exact h.1, World.cell?_setCell_same _ _ _ h.2.1, (World.cell?_setCell_other _ _ _ _ (by simp)).trans h.2.2.1, by simpa using h.2.2.2⟩
theorem infoRefRow : (Tryz.prog.info? 142).map (fun i => (i.zero, i.size, i.bytes)) = some (some (.agg #[.slice none 0 0, .int .i64 0]), 2, 32) := by kernel_rfl
theorem infoInt : (Tryz.prog.info? 3).map (fun i => (i.zero, i.size, i.bytes)) = some (some (.int .i64 0), 1, 8) := by kernel_rfl
end Go.Proofs.YtljfiefobnncaabGreatDoor

/- outlineref: Best. -/
namespace Go.Proofs.YtljfiefobnncaabGreatDoor
open Go.RowKit
attribute [local go_sem ↓] Go.wp_at_zero Go.wp_at_succ

set_option maxRecDepth 4000 in
set_option maxHeartbeats 4000000 in
theorem best_any (g n cap : Nat) (c : List (Int × Int)) (hn : n = c.length) (h0 : 0 < n) (hs : Qm.Small c) (hn2 : n ≤ 4356) (hu : Qm.Unit (c ++ [Qm.fstP c])) (w : World) (hP : PtsAt g c w) :
    Calls Tryz.prog 77 #[.slice (some ⟨g, 0, none⟩) n cap] w fun e w' => ∃ gl capl L, e = .returned (.slice (some ⟨gl, 0, none⟩) L.length capl) ∧ Qm.Opt (Qm.okV (c ++ [Qm.fstP c])) (Qm.cV (c ++ [Qm.fstP c])) 0 n L ∧ NumsAt gl L w' ∧ Below w.heap.size w w' := by
  obtain ⟨ip, hip, hp0, hp1, hp2⟩ := info_parts infoPoint
  obtain ⟨ir, hir, hr0, hr1, hr2⟩ := info_parts infoRefRow
  obtain ⟨ii, hii, hi0, hi1, hi2⟩ := info_parts infoInt
  have HP := hid hP
  have hg := hP.1
  have HN := hid hn
  have NW := hid (show ∀ j u, (Qm.ptsV c)[j]? = some u → w.cell? ((⟨g, 0, none⟩ : Addr).add j) = some u by
    have := hP.news 0 n (by omega)
    rw [List.drop_zero, hn, List.take_length] at this
    simpa using this)
  have LP := hid (show (Qm.ptsV c).length = n * 2 by rw [Qm.ptsV_len, hn])
  obtain ⟨q0, q1⟩ := hP.2 0 (by omega)
  simp only [Nat.zero_mul, Nat.zero_add] at q0 q1
  have FS := hid (show Qm.fstP c = c.getD 0 (0, 0) from rfl)
  have SV := hid (show Qm.Small (c ++ [Qm.fstP c]) from fun p hp => by
    rcases List.mem_append.1 hp with h | h
    · exact hs p h
    · rw [List.mem_singleton.1 h]; exact hs.at 0)
  obtain ⟨v, hv⟩ : ∃ v, v = c ++ [Qm.fstP c] := ⟨_, rfl⟩
  have VL := hid (show v.length = n + 1 by rw [hv, hn]; simp)
  rw [← hv] at SV hu ⊢
  have HU := hid hu
  have HV := hid hv
  obtain ⟨⟨fa, fb⟩, hff⟩ : ∃ p, p = c.getD 0 (0, 0) := ⟨_, rfl⟩
  rw [← hff] at q0 q1 FS
  dsimp only at q0 q1
  clear hP hn hv hff hu hs
  go_enter Tryz.func77, Tryz.ntmps77
  go_wp2_with (first
    | (at_builtin; refine wpList_append_own_at _ rfl _ _ 43 rfl w.heap.size 65 ip (.agg #[.int .i64 0, .int .i64 0]) 2 16 Tryz.underlying43 hip hp0 hp1 hp2 rfl (by decide) _ _ _ rfl (World.ownsRow_nil _ _ _ _) ⟨g, 0, none⟩ n cap (Qm.ptsV c) rfl LP.out NW.out (pts_one _) (by unfold maxLen; omega) (by omega) (Nat.le_refl _) ?_))
  intro v1 w1 o1 g1 _ e1
  have B1 := hid (show Below w.heap.size w w1 from (Below.refl _ _).grown g1 (Nat.le_refl _) (fun q hq => by simp [Value.ownBlock] at hq))
  have O1 := hid o1
  have hz1 := B1.out.size
  have r0 := (B1.out.cell (p := ⟨g, 0, none⟩) hg).trans q0
  have r1 := (B1.out.cell (p := ⟨g, 1, none⟩) hg).trans q1
  have n1 : n + 1 ≤ maxLen := by unfold maxLen; omega
  have n2 : (n + 1) * 16 ≤ 140737488355328 := by omega
  have n3 : w.heap.size ≤ (w1.alloc (.cells #[.int .i64 fa, .int .i64 fb] 65)).heap.size := by simp; omega
  clear o1 g1 q0 q1 e1
  go_wp2_with (first
    | (at_builtin; refine wpList_append_own_at _ rfl _ _ 43 rfl w.heap.size 65 ip (.agg #[.int .i64 0, .int .i64 0]) 2 16 Tryz.underlying43 hip hp0 hp1 hp2 rfl (by decide) _ _ _ rfl (O1.out.alloc _) ⟨_, 0, none⟩ 1 1 [.int .i64 fa, .int .i64 fb] rfl rfl (two_cells _ _ _ _) (two_one _ _) n1 n2 n3 ?_))
  intro v2 w2 o2 g2 _ e2
  have B2 := hid (show Below w.heap.size w w2 from (B1.out.alloc hz1 _).grown g2 n3 (fun q hq => (O1.out.lt q hq).1))
  have o2' : w2.ownsRow w.heap.size 65 2 v2 (n + 1) (Qm.ptsV v) := by rw [HV.out, Qm.ptsV_snoc, FS.out]; exact o2
  obtain ⟨gv, capv, rfl, hgv0, hpv, -⟩ := own_at o2' (by omega)
  obtain ⟨_, capv', ecv, hcv⟩ := own_cap o2'
  have hcv : n + 1 ≤ capv := by injection ecv with _ _ e; omega
  have HPV := hid hpv
  have hgv := hpv.1
  have hz2 := B2.out.size
  clear o2 g2 e2 o2' hpv ecv r0 r1 O1 NW LP
  go_wp2_with (first
    | (at_make; refine wpList_make_full _ rfl _ _ 140 rfl w2.heap.size 142 ir (.agg #[.slice none 0 0, .int .i64 0]) 2 Tryz.underlying140 hir hr0 hr1 .i64 .i64 _ _ (n + 1) rfl rfl (by simp) (by simp) (by rw [hr2]; omega) n1 (Nat.le_refl _) ?_))
  intro w3 o3 g3
  have b3 : Below w2.heap.size w2 w3 := ⟨g3.os, g3.tape, g3.output, g3.size, fun k hk => g3.block k hk (by simp)⟩
  have z3 : w2.heap.size < w3.heap.size := (o3.lt w2.heap.size rfl).2
  have TB := hid (show Tab v w2.heap.size n (fun _ => []) w3 from ⟨z3, fun j => own_fz o3 j, fun q hq => .inl ⟨rfl, by
      have := o3.cells (g := w2.heap.size) rfl (q * 2) _ (madeRow_at (n + 1) q (by omega)).1
      rwa [add_zero_at] at this, by
      have := o3.cells (g := w2.heap.size) rfl (q * 2 + 1) _ (madeRow_at (n + 1) q (by omega)).2
      rwa [add_zero_at] at this⟩⟩)
  have B3 := hid b3
  obtain ⟨gr, hgr⟩ : ∃ gr, gr = w2.heap.size := ⟨_, rfl⟩
  rw [← hgr] at TB z3 ⊢
  have HG := hid hgr
  have hvr : gv < gr := by omega
  clear hgr o3 g3 b3
  have T0 := TB.out.row 0 (by omega)
  have t0 : w3.cell? ⟨gr, 0, none⟩ = some (.slice none 0 0) := by rcases T0 with ⟨_, h, _⟩ | ⟨h, _⟩; · simpa using h
                                                                  · simp at h
  have t1 : w3.cell? ⟨gr, 1, none⟩ = some (.int .i64 0) := by rcases T0 with ⟨_, _, h⟩ | ⟨h, _⟩; · simpa using h
                                                              · simp at h
  have f0 := TB.out.fz 0
  have f1 := TB.out.fz 1
  have HPV3 := hid (HPV.out.on B3.out HPV.out.1)
  have B30 := hid (show Below w.heap.size w w3 from B2.out.trans (B3.out.mono hz2))
  have TB1 := hid (show Tab v gr n (Qm.setT (fun _ => []) 0 [0]) (((w3.alloc (.cells #[.int .i64 0] 3)).setCell ⟨gr, 0, none⟩ (.slice (some ⟨w3.heap.size, 0, none⟩) 1 1)).setCell ⟨gr, 1, none⟩ (.int .i64 0)) by
    have := (TB.out.on ((Below.refl _ _).alloc (Nat.le_refl _) (.cells #[.int .i64 0] 3))).set (j := 0) (by omega) (L := [0]) (g := w3.heap.size) (cap := 1) (by simp) ⟨by simp, fun j hj => by
      simp at hj; subst hj; simp⟩ (by omega) (c := 0) rfl
    simpa using this)
  have GB1 := hid (show w3.grownBy (((w3.alloc (.cells #[.int .i64 0] 3)).setCell ⟨gr, 0, none⟩ (.slice (some ⟨w3.heap.size, 0, none⟩) 1 1)).setCell ⟨gr, 1, none⟩ (.int .i64 0)) (some gr) from
    gb_trans (set_grown (w2 := w3.alloc (.cells #[.int .i64 0] 3)) ((Below.refl _ _).alloc (Nat.le_refl _) _) ⟨gr, 0, none⟩) (set_grown (Below.refl _ _) ⟨gr, 1, none⟩))
  have OI := hid (show Qm.OutI v 1 (Qm.setT (fun _ => []) 0 [0]) from ⟨fun q hq => by
    obtain rfl : q = 0 := by omega
    exact Qm.opt_here v 0, fun q hq => by unfold Qm.setT; rw [if_neg (by omega)]⟩)
  have EW : ((w3.alloc (.cells #[.int .i64 0] 3)).setCell ⟨gr, 0, none⟩ (.slice (some ⟨w3.heap.size, 0, none⟩) 1 1)).setCell ⟨gr, 1, none⟩ (.int .i64 0) = ((w3.setCell ⟨gr, 0, none⟩ (.slice (some ⟨w3.heap.size, 0, none⟩) 1 1)).setCell ⟨gr, 1, none⟩ (.int .i64 0)).alloc (.cells #[.int .i64 0] 3) := by
    rw [World.setCell_alloc_past _ _ _ _ z3, World.setCell_alloc_past _ _ _ _ (by rw [World.size_setCell]; exact z3)]
  rw [EW] at TB1 GB1
  clear T0 EW
  go_wp2_with fail
  clear t0 t1 f0 f1
  go_loopw [6] (fun jv wr => ∃ (j : Nat) (T : Nat → List Nat), 1 ≤ j ∧ j ≤ n + 1 ∧ jv = .int .i64 j ∧ Hid (Qm.OutI v j T) ∧ Hid (Tab v gr n T wr) ∧ Hid (w3.grownBy wr (some gr))) (fun j _ => n + 1 - (intOf j).toNat)
  case atStart => exact ⟨1, _, by omega, by omega, rfl, OI, TB1, GB1⟩
  case round =>
    clear TB1 GB1 OI TB
    obtain ⟨j, T, hj1, hj2, rfl, hOI, hTB, hGB⟩ := hrel
    by_cases hjn : j ≤ n
    · go_wp2_with fail
      go_loopw [7] (fun iv wr => ∃ (i : Nat) (T : Nat → List Nat), i ≤ j ∧ iv = .int .i64 i ∧ Hid (Qm.InI v j i T) ∧ Hid (Tab v gr n T wr) ∧ Hid (w3.grownBy wr (some gr))) (fun i _ => j - (intOf i).toNat)
      case atStart => exact ⟨0, T, by omega, rfl, hOI.out.inner, hTB, hGB⟩
      case round =>
        clear hOI hTB hGB
        clear T
        obtain ⟨i, T, hij, rfl, hII, hTB, hGB⟩ := hrel
        by_cases hlt : i < j
        · have OPT := hid (hII.out.1 i hlt)
          have hti := OPT.out.1.pos
          have hle := OPT.out.1.len
          obtain ⟨ai, capi, ci, c0, c1, hci, hgi⟩ := hTB.out.at (q := i) (by omega)
          obtain ⟨aj, capj, cj, d0, d1, hcj, hgj⟩ := hTB.out.at (q := j) hjn
          obtain ⟨gi, rfl, hni, hgri⟩ := hgi.resolve_left (by omega)
          have ljb : (T j).length ≤ j + 1 := by
            rcases List.eq_nil_or_concat (T j) with h | ⟨_, _, h⟩
            · rw [h]; simp
            · have := (hII.out.2.1.pth (by rw [h]; simp)).len; omega
          have hci := hci.resolve_left (fun e => by rw [e] at hti; simp at hti)
          have HCI := hid hci
          have HCJ := hid hcj
          have HNI := hid hni
          have HGJ := hid hgj
          have zr := hTB.out.lt
          obtain ⟨li, hli⟩ : ∃ li, li = (T i).length := ⟨_, rfl⟩
          obtain ⟨lj, hlj⟩ : ∃ lj, lj = (T j).length := ⟨_, rfl⟩
          rw [← hli] at c0 hti hle
          rw [← hlj] at d0 ljb HGJ
          have HLI := hid hli
          have HLJ := hid hlj
          clear hci hcj hni hgj hgi hli hlj
          by_cases h12 : 12 < (j : Int) - i
          · have NO := hid (show ¬ Qm.okV v i j from fun h => by have := h.2.2.1; omega)
            have b12 : decide (12 < (j : Int) - i) = true := by simpa using h12
            go_wp2_with fail
            go_quiet (fail)
            go_wp2
            go_roundw
            case rel => exact ⟨i + 1, T, by omega, by go_num, hII.out.same (hII.out.2.1.skip NO.out), hTB.out.on ⟨rfl, rfl, rfl, Nat.le_refl _, fun _ _ => rfl⟩, gb_below hGB.out (B := wr.heap.size) ⟨rfl, rfl, rfl, Nat.le_refl _, fun _ _ => rfl⟩ hGB.out.size⟩
            case measure => simp [intOf]; omega
          · have b12 : decide (12 < (j : Int) - i) = false := by simpa using h12
            by_cases hsk : 0 < lj ∧ lj ≤ li
            · obtain ⟨k1, k2⟩ := hsk
              have kb1 : decide (0 < (lj : Int)) = true := by simp; omega
              have kb2 : decide ((lj : Int) ≤ (li : Int)) = true := by simp; omega
              have jn1 : (0 : Int) ≤ (j : Nat) := by omega
              have jn2 : ((j : Nat) : Int) < (n : Int) + 1 := by omega
              have in1 : (0 : Int) ≤ (i : Nat) := by omega
              have in2 : ((i : Nat) : Int) < (n : Int) + 1 := by omega
              go_wp2_with fail
              go_quiet (fail)
              go_wp2
              go_roundw
              case rel => exact ⟨i + 1, T, by omega, by go_num, hII.out.same (hII.out.2.1.longer (by rw [← HLJ.out]; exact k1) OPT.out (by rw [← HLJ.out, ← HLI.out]; exact k2)), hTB.out.on ⟨rfl, rfl, rfl, Nat.le_refl _, fun _ _ => rfl⟩, gb_below hGB.out (B := wr.heap.size) ⟨rfl, rfl, rfl, Nat.le_refl _, fun _ _ => rfl⟩ hGB.out.size⟩
              case measure => simp [intOf]; omega
            · have jn1 : (0 : Int) ≤ (j : Nat) := by omega
              have jn2 : ((j : Nat) : Int) < (n : Int) + 1 := by omega
              have in1 : (0 : Int) ≤ (i : Nat) := by omega
              have in2 : ((i : Nat) : Int) < (n : Int) + 1 := by omega
              have in3 : ((i : Nat) : Int) ≤ (j : Int) + 1 := by omega
              have jn3 : (j : Int) + 1 ≤ (capv : Nat) := by omega
              have jn4 : (j : Int) + 1 = ((j + 1 : Nat) : Int) := by omega
              have SL := hid (Qm.sl_len (v := v) (i := i) (j := j) (by omega) (by rw [VL.out]; omega))
              have SMS := hid (show Qm.Small (Qm.sl v i j) from fun p hp => SV.out p (List.mem_of_mem_drop (List.mem_of_mem_take hp)))
              have US := hid (HU.out.sl (i := i) (j := j) (by omega) (by rw [VL.out]; omega))
              have PS := hid (show ∀ W', Below wr.heap.size wr W' → PtsO gv (i * 2) (Qm.sl v i j) W' from fun W' hW => (HPV3.out.gb (gb_below hGB.out hW hGB.out.size) (by omega)).sl i j)
              have FI := hid (fun W' (hW : Below wr.heap.size wr W') => refFits_any gv (i * 2) (j + 1 - i) (capv - i) (Qm.sl v i j) (by rw [SL.out]; omega) (by omega) SMS.out (by omega) US.out W' (PS.out W' hW))
              have CO := hid (fun W' (hW : Below wr.heap.size wr W') => refCost_any gv (i * 2) (j + 1 - i) (capv - i) (Qm.sl v i j) (by rw [SL.out]; omega) (by omega) SMS.out (by omega) W' (PS.out W' hW))
              have cb := Qm.costOf_in SMS.out
              rw [SL.out] at cb
              have cib := OPT.out.1.cs_in SV.out
              rw [← HCI.out, ← HLI.out] at cib
              have OKV := hid (show Qm.fitB (Qm.sl v i j) = true → Qm.okV v i j from fun h => ⟨hlt, by rw [VL.out]; omega, by omega, h⟩)
              have NOV := hid (show Qm.fitB (Qm.sl v i j) = false → ¬ Qm.okV v i j from fun h hh => by rw [hh.2.2.2] at h; simp at h)
              have CSN := hid (show Qm.cs (Qm.cV v) (T i ++ [j]) = ci + Qm.costOf (Qm.sl v i j) by rw [OPT.out.1.cs_snoc, ← HCI.out]; rfl)
              obtain ⟨ft, hft⟩ : ∃ ft, Qm.fitB (Qm.sl v i j) = ft := ⟨_, rfl⟩
              rw [hft] at FI OKV NOV
              obtain ⟨k, hk⟩ : ∃ k, Qm.costOf (Qm.sl v i j) = k := ⟨_, rfl⟩
              rw [hk] at CO cb CSN
              obtain ⟨gj, hgj⟩ : ∃ gj, lj = 0 ∨ (aj = some ⟨gj, 0, none⟩ ∧ NumsAt gj (T j) wr ∧ gr < gj) := by
                rcases HGJ.out with h | ⟨g, h⟩
                · exact ⟨0, .inl h⟩
                · exact ⟨g, .inr h⟩
              have HGJ2 := hid hgj
              clear hgj hft hk SL SMS US PS
              rcases Nat.eq_zero_or_pos lj with hl0 | hl0
              all_goals first
                | (
                  have _hh : lj = 0 := hl0
                  clear _hh
                  have kb1 : decide (0 < (lj : Int)) = false := by simp; omega
                  go_wp2_with fail
                  go_quiet (fail))
                | (
                  have kb1 : decide (0 < (lj : Int)) = true := by simp; omega
                  have kb2 : decide ((lj : Int) ≤ (li : Int)) = false := by simp; omega
                  go_wp2_with fail
                  go_quiet (fail))
              all_goals (
                clear jn4
                have D1 := hid (show Below wr.heap.size wr (wr.drewN nq) from ⟨rfl, rfl, rfl, Nat.le_refl _, fun _ _ => rfl⟩)
                have CW := hid (show wr.cell? ⟨gr, i * 2, none⟩ = some (.slice (some ⟨gi, 0, none⟩) li capi) ∧ wr.cell? ⟨gr, i * 2 + 1, none⟩ = some (.int .i64 ci) ∧ wr.cell? ⟨gr, j * 2, none⟩ = some (.slice aj lj capj) ∧ wr.cell? ⟨gr, j * 2 + 1, none⟩ = some (.int .i64 cj) from ⟨c0, c1, d0, d1⟩)
                clear c0 c1 d0 d1
                go_wp2_with fail
                refine (FI.out _ D1.out).mono ?_
                rintro e w4 ⟨rfl, hb4⟩
                have B4 := hid (show Below wr.heap.size wr w4 from D1.out.trans hb4)
                clear hb4 hl0 kb1
                cases ft
                · go_wp2
                  go_roundw
                  case rel => exact ⟨i + 1, T, by omega, by go_num, hII.out.same (hII.out.2.1.skip (NOV.out (by trivial))), hTB.out.on B4.out, gb_below hGB.out B4.out hGB.out.size⟩
                  case measure => simp [intOf]; omega
                · go_wp2_with fail
                  refine (CO.out _ B4.out).mono ?_
                  rintro e w5 ⟨rfl, hb5⟩
                  have B5 := hid (show Below wr.heap.size wr w5 from B4.out.trans (hb5.mono B4.out.size))
                  clear hb5
                  have TB5 := hid (hTB.out.on B5.out)
                  have C0 := hid (show w5.cell? ⟨gr, i * 2, none⟩ = some (.slice (some ⟨gi, 0, none⟩) li capi) ∧ w5.cell? ⟨gr, i * 2 + 1, none⟩ = some (.int .i64 ci) ∧ w5.cell? ⟨gr, j * 2, none⟩ = some (.slice aj lj capj) ∧ w5.cell? ⟨gr, j * 2 + 1, none⟩ = some (.int .i64 cj) from
                    ⟨(B5.out.cell (p := ⟨gr, i * 2, none⟩) zr).trans CW.out.1, (B5.out.cell (p := ⟨gr, i * 2 + 1, none⟩) zr).trans CW.out.2.1, (B5.out.cell (p := ⟨gr, j * 2, none⟩) zr).trans CW.out.2.2.1, (B5.out.cell (p := ⟨gr, j * 2 + 1, none⟩) zr).trans CW.out.2.2.2⟩)
                  obtain ⟨c0, c1, d0, d1⟩ := C0.out
                  have z5 : gr < w5.heap.size := TB5.out.lt
                  have wx : IntKind.i64.wrap (ci + k) = ci + k := by rw [IntKind.wrap_i64]; omega
                  have NI5 := hid (HNI.out.on B5.out HNI.out.1)
                  have NV := hid (show (numV (T i)).length = li * 1 by rw [numV_len, Nat.mul_one, HLI.out])
                  have m1 : 0 + li ≤ maxLen := by unfold maxLen; omega
                  have m2 : (0 + li) * 8 ≤ 140737488355328 := by omega
                  have X6 := hid (BoxW.new w5 (.slice none 0 0) (.int .i64 (ci + k)) 142)
                  have A6 : Below w5.heap.size w5 (w5.alloc (.cells #[.slice none 0 0, .int .i64 (ci + k)] 142)) := (Below.refl _ _).alloc (Nat.le_refl _) _
                  have AD6 := hid (show Below w5.heap.size w5 (w5.alloc (.cells #[.slice none 0 0, .int .i64 (ci + k)] 142)).drew from A6.trans ⟨rfl, rfl, rfl, Nat.le_refl _, fun _ _ => rfl⟩)
                  clear A6
                  go_wp2_with fail
                  go_region_law
                    ((refine step_append_lies _ (by rfl) _ _ _ (by rfl) (w5.heap.size + 1) 3 ii (.int .i64 0) 1 8 Tryz.underlying114 hii hi0 hi1 hi2 rfl (by omega) (.slice none 0 0) 0 [] (by rfl) (World.ownsRow_nil _ _ _ _) ⟨gi, 0, none⟩ li capi (numV (T i)) (by rfl) NV.out (NI5.out.on AD6.out NI5.out.1).news (numV_one _) hti m1 m2 (by simp) (w5.heap.size + 1) (by simp) ?_; intro gg capg w7 O7 G7 A7 hlt7; have X7 := hid (show BoxW w5.heap.size (.slice none 0 0) (.int .i64 (ci + k)) w7 from (X6.out.on (w' := (w5.alloc (.cells #[.slice none 0 0, .int .i64 (ci + k)] 142)).drew) ⟨rfl, rfl, rfl, Nat.le_refl _, fun _ _ => rfl⟩).gb G7 (by simp [Value.ownBlock])); obtain ⟨x70, x71, x72, x73⟩ := X7.out))
                  all_goals (
                    have o7 : w7.ownsRow (w5.heap.size + 1) 3 1 (.slice (some ⟨gg, 0, none⟩) li capg) li (numV (T i)) := by simpa using O7
                    have gg1 : w5.heap.size + 1 ≤ gg := (o7.lt gg rfl).1
                    have B7 : Below w5.heap.size w5 w7 := AD6.out.grown G7 (by simp) (fun q hq => by simp [Value.ownBlock] at hq)
                    have O8 := hid (own_keep o7 (g := w5.heap.size) (by omega) (set_grown (Below.refl _ _) ⟨w5.heap.size, 0, none⟩ (v := .slice (some ⟨gg, 0, none⟩) li capg)))
                    have X8 := hid (X7.out.set (.slice (some ⟨gg, 0, none⟩) li capg))
                    have B8 := hid (B7.setCell (p := ⟨w5.heap.size, 0, none⟩) (show w5.heap.size ≤ w5.heap.size from Nat.le_refl _) (.slice (some ⟨gg, 0, none⟩) li capg))
                    obtain ⟨w8, hw8⟩ : ∃ w8, w8 = w7.setCell ⟨w5.heap.size, 0, none⟩ (.slice (some ⟨gg, 0, none⟩) li capg) := ⟨_, rfl⟩
                    rw [← hw8] at O8 X8 B8 ⊢
                    clear hw8 O7 G7 A7 hlt7 X7 x70 x71 x72 x73 o7 B7 c0 c1 d0 d1
                    obtain ⟨x80, x81, x82, x83⟩ := X8.out
                    have m3 : li + 1 ≤ maxLen := by unfold maxLen; omega
                    have m4 : (li + 1) * 8 ≤ 140737488355328 := by omega
                    have m5 : w5.heap.size + 1 ≤ (w8.alloc (.cells #[.int .i64 (j : Nat)] 3)).heap.size := by simp; omega
                    go_wp2_with (first
                      | (at_builtin; refine wpList_append_own_at _ rfl _ _ 114 rfl (w5.heap.size + 1) 3 ii (.int .i64 0) 1 8 Tryz.underlying114 hii hi0 hi1 hi2 rfl (by decide) _ _ _ rfl (O8.out.alloc _) ⟨_, 0, none⟩ 1 1 [.int .i64 (j : Nat)] rfl rfl (cell_one_new _ _ _) (by intro u hu; simp at hu; subst hu; rfl) m3 m4 m5 ?_))
                    intro v9 w9 o9 g9 _ _
                    have o9' : w9.ownsRow (w5.heap.size + 1) 3 1 v9 (li + 1) (numV (T i ++ [j])) := by rw [numV_snoc]; exact o9
                    obtain ⟨h9, cap9, rfl, -⟩ := own_src o9' (by omega)
                    have N9 := hid (own_nums o9').1
                    have h91 : w5.heap.size + 1 ≤ h9 := (own_nums o9').2.1
                    have X9 := hid (show BoxW w5.heap.size (.slice (some ⟨gg, 0, none⟩) li capg) (.int .i64 (ci + k)) w9 from (X8.out.on ((Below.refl _ _).alloc (Nat.le_refl _) (.cells #[.int .i64 (j : Nat)] 3))).gb g9 (by simp [Value.ownBlock]; omega))
                    have B9 := hid (show Below w5.heap.size w5 w9 from (B8.out.alloc B8.out.size _).grown g9 (by simp; omega) (fun q hq => by simp [Value.ownBlock] at hq; omega))
                    have X10 := hid (X9.out.set (.slice (some ⟨h9, 0, none⟩) (li + 1) cap9))
                    have B10 := hid (B9.out.setCell (p := ⟨w5.heap.size, 0, none⟩) (show w5.heap.size ≤ w5.heap.size from Nat.le_refl _) (.slice (some ⟨h9, 0, none⟩) (li + 1) cap9))
                    have N10 := hid (show NumsAt h9 (T i ++ [j]) (w9.setCell ⟨w5.heap.size, 0, none⟩ (.slice (some ⟨h9, 0, none⟩) (li + 1) cap9)) from ⟨by rw [World.size_setCell]; exact N9.out.1, fun q hq => (World.cell?_setCell_other _ _ _ _ (by intro e; injection e with e _ _; omega)).trans (N9.out.2 q hq)⟩)
                    obtain ⟨x90, x91, x92, x93⟩ := X9.out
                    clear o9 g9 o9' x80 x81 x82 x83 O8 X8 B8
                    obtain ⟨y0, y1, y2, y3⟩ := X10.out
                    have D10 := hid (show Below w5.heap.size w5 (w9.setCell ⟨w5.heap.size, 0, none⟩ (.slice (some ⟨h9, 0, none⟩) (li + 1) cap9)).drew from B10.out.trans ⟨rfl, rfl, rfl, Nat.le_refl _, fun _ _ => rfl⟩)
                    have S0 := hid (show (w9.setCell ⟨w5.heap.size, 0, none⟩ (.slice (some ⟨h9, 0, none⟩) (li + 1) cap9)).drew.cell? ⟨w5.heap.size, 0, none⟩ = some (.slice (some ⟨h9, 0, none⟩) (li + 1) cap9) ∧ (w9.setCell ⟨w5.heap.size, 0, none⟩ (.slice (some ⟨h9, 0, none⟩) (li + 1) cap9)).drew.cell? ⟨w5.heap.size, 1, none⟩ = some (.int .i64 (ci + k)) ∧ (w9.setCell ⟨w5.heap.size, 0, none⟩ (.slice (some ⟨h9, 0, none⟩) (li + 1) cap9)).drew.cell? ⟨gr, j * 2, none⟩ = some (.slice aj lj capj) ∧ (w9.setCell ⟨w5.heap.size, 0, none⟩ (.slice (some ⟨h9, 0, none⟩) (li + 1) cap9)).drew.cell? ⟨gr, j * 2 + 1, none⟩ = some (.int .i64 cj) from
                      ⟨y1, y2, (D10.out.cell (p := ⟨gr, j * 2, none⟩) z5).trans C0.out.2.2.1, (D10.out.cell (p := ⟨gr, j * 2 + 1, none⟩) z5).trans C0.out.2.2.2⟩)
                    have ND := hid (show NumsAt h9 (T i ++ [j]) (w9.setCell ⟨w5.heap.size, 0, none⟩ (.slice (some ⟨h9, 0, none⟩) (li + 1) cap9)).drew from N10.out)
                    have XD := hid (show BoxW w5.heap.size (.slice (some ⟨h9, 0, none⟩) (li + 1) cap9) (.int .i64 (ci + k)) (w9.setCell ⟨w5.heap.size, 0, none⟩ (.slice (some ⟨h9, 0, none⟩) (li + 1) cap9)).drew from X10.out)
                    have BE := hid (show Calls Tryz.prog 103 #[.agg #[.slice (some ⟨h9, 0, none⟩) (li + 1) cap9, .int .i64 (ci + k)], .agg #[.slice aj lj capj, .int .i64 cj]] (w9.setCell ⟨w5.heap.size, 0, none⟩ (.slice (some ⟨h9, 0, none⟩) (li + 1) cap9)).drew fun e w' => e = .returned (.bool (Qm.bettB (T i ++ [j]) (ci + k) (T j) cj)) ∧ Below (w9.setCell ⟨w5.heap.size, 0, none⟩ (.slice (some ⟨h9, 0, none⟩) (li + 1) cap9)).drew.heap.size (w9.setCell ⟨w5.heap.size, 0, none⟩ (.slice (some ⟨h9, 0, none⟩) (li + 1) cap9)).drew w' from
                      better_any h9 (li + 1) cap9 gj lj capj (T i ++ [j]) (T j) (ci + k) cj (by rw [List.length_append, HLI.out]; rfl) HLJ.out (by omega) (by omega) aj _ ND.out (HGJ2.out.imp id fun ⟨e1, e2, _⟩ => ⟨e1, (e2.on B5.out e2.1).on D10.out (Nat.lt_of_lt_of_le e2.1 B5.out.size)⟩))
                    have sz10 : w5.heap.size < (w9.setCell ⟨w5.heap.size, 0, none⟩ (.slice (some ⟨h9, 0, none⟩) (li + 1) cap9)).drew.heap.size := XD.out.1
                    obtain ⟨bt, hbt⟩ : ∃ bt, Qm.bettB (T i ++ [j]) (ci + k) (T j) cj = bt := ⟨_, rfl⟩
                    rw [hbt] at BE
                    have HBT := hid hbt
                    clear hbt y0 y1 y2 y3
                    go_wp2_with fail
                    go_region_held3 (fun w' => w'.cell? ⟨w5.heap.size, 0, none⟩ = some (.slice (some ⟨h9, 0, none⟩) (li + 1) cap9) ∧ w'.cell? ⟨w5.heap.size, 1, none⟩ = some (.int .i64 (ci + k)) ∧ w'.cell? ⟨gr, j * 2, none⟩ = some (.slice aj lj capj) ∧ w'.cell? ⟨gr, j * 2 + 1, none⟩ = some (.int .i64 cj))
                      (first | exact S0.out | exact (by assumption : _ ∧ _ ∧ _ ∧ _))
                      (first | (go_at_call 103; refine (BE.out).mono ?_; rintro e w11 ⟨rfl, hb11⟩; have hS2 : w11.cell? ⟨w5.heap.size, 0, none⟩ = some (.slice (some ⟨h9, 0, none⟩) (li + 1) cap9) ∧ w11.cell? ⟨w5.heap.size, 1, none⟩ = some (.int .i64 (ci + k)) ∧ w11.cell? ⟨gr, j * 2, none⟩ = some (.slice aj lj capj) ∧ w11.cell? ⟨gr, j * 2 + 1, none⟩ = some (.int .i64 cj) := ⟨(hb11.cell (p := ⟨w5.heap.size, 0, none⟩) sz10).trans S0.out.1, (hb11.cell (p := ⟨w5.heap.size, 1, none⟩) sz10).trans S0.out.2.1, (hb11.cell (p := ⟨gr, j * 2, none⟩) (Nat.lt_trans z5 sz10)).trans S0.out.2.2.1, (hb11.cell (p := ⟨gr, j * 2 + 1, none⟩) (Nat.lt_trans z5 sz10)).trans S0.out.2.2.2⟩; have B11 := hid (show Below w5.heap.size w5 w11 from D10.out.trans (hb11.mono D10.out.size)); have N11 := hid (ND.out.on hb11 ND.out.1); clear hb11))
                    have BW := hid (show Below wr.heap.size wr w11 from B5.out.trans (B11.out.mono B5.out.size))
                    have TB11 := hid (hTB.out.on BW.out)
                    clear x90 x91 x92 x93 S0 XD ND BE X10 X9 N9 N10
                    obtain ⟨s0, s1, s2, s3⟩ := hS2
                    cases bt
                    · have NB := hid (show Qm.BestTo v j (i + 1) (T j) from hII.out.2.1.not OPT.out HCJ.out (by rw [CSN.out]; exact HBT.out))
                      go_wp2
                      go_roundw
                      case rel => exact ⟨i + 1, T, by omega, by go_num, hII.out.same NB.out, TB11.out, gb_below hGB.out BW.out hGB.out.size⟩
                      case measure => simp [intOf]; omega
                    · have NB := hid (show Qm.BestTo v j (i + 1) (T i ++ [j]) from hII.out.2.1.new OPT.out (OKV.out (by trivial)) HCJ.out (by rw [CSN.out]; exact HBT.out))
                      have fz0 := TB11.out.fz (j * 2)
                      have fz1 := TB11.out.fz (j * 2 + 1)
                      have z11 := TB11.out.lt
                      have TBN := hid (show Tab v gr n (Qm.setT T j (T i ++ [j])) ((w11.setCell ⟨gr, j * 2, none⟩ (.slice (some ⟨h9, 0, none⟩) (li + 1) cap9)).setCell ⟨gr, j * 2 + 1, none⟩ (.int .i64 (ci + k))) by
                        have := TB11.out.set (j := j) hjn (L := T i ++ [j]) (g := h9) (cap := cap9) (by simp) N11.out (by omega) (c := ci + k) CSN.out.symm
                        rw [List.length_append, ← HLI.out] at this
                        exact this)
                      have GBN := hid (show w3.grownBy ((w11.setCell ⟨gr, j * 2, none⟩ (.slice (some ⟨h9, 0, none⟩) (li + 1) cap9)).setCell ⟨gr, j * 2 + 1, none⟩ (.int .i64 (ci + k))) (some gr) from gb_trans (gb_trans (gb_below hGB.out BW.out hGB.out.size) (set_grown (Below.refl _ _) ⟨gr, j * 2, none⟩)) (set_grown (Below.refl _ _) ⟨gr, j * 2 + 1, none⟩))
                      go_wp2
                      go_roundw
                      case rel => exact ⟨i + 1, _, by omega, by go_num, hII.out.new NB.out, TBN.out, GBN.out⟩
                      case measure => simp [intOf]; omega))
        · have eij : i = j := by omega
          subst eij
          have OO := hid (hII.out.outer HU.out (by omega) (by rw [VL.out]; omega))
          go_wp2
          go_roundw
          case rel => exact ⟨i + 1, T, by omega, by omega, by go_num, OO, hTB, hGB⟩
          case measure => simp [intOf]; omega
    · have OP := hid (hOI.out.1 n (by omega))
      obtain ⟨an, capn, cn, c0, -, -, hgn⟩ := hTB.out.at (q := n) (Nat.le_refl _)
      obtain ⟨gn, rfl, hnn, -⟩ := hgn.resolve_left (by have := OP.out.1.pos; omega)
      have NN := hid hnn
      have zr := hTB.out.lt
      have BE := hid (show Below w.heap.size w wr from B30.out.trans (gb_below_of hGB.out (by omega) B30.out.size))
      have nn1 : (0 : Int) ≤ (n : Nat) := by omega
      have nn2 : ((n : Nat) : Int) < (n : Int) + 1 := by omega
      obtain ⟨ln, hln⟩ : ∃ ln, ln = (T n).length := ⟨_, rfl⟩
      rw [← hln] at c0
      have HLN := hid hln
      clear hnn hgn hln
      go_wp2
      go_ret
      exact ⟨gn, capn, T n, by rw [← HLN.out]; rfl, OP.out, NN.out, BE.out⟩
end Go.Proofs.YtljfiefobnncaabGreatDoor
