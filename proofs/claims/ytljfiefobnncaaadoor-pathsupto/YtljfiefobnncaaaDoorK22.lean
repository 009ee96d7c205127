import Derived.Test.YtljfiefobnncaaaDoorK21
import Derived.Deep.RegionWith
import Derived.Test.YtljfiefobnncaaaDoorK08
import Derived.Test.YtljfiefobnncaaaDoorK15
import Derived.Great.Walk
import Derived.OwnWalk

/- Package polygons: bestRow. -/
namespace Go.Proofs.YtljfiefobnncaaaDoor
open Go.RowKit
attribute [local go_sem ↓] Go.wp_at_zero Go.wp_at_succ

/-- A row of lines in a box. -/
def BoxR (b : Nat) (r : Qm.Rw) (w : World) : Prop := w.cell? ⟨b, 0, none⟩ = some (.int .i64 r.1) ∧ w.cell? ⟨b, 1, none⟩ = some (.int .i64 r.2.1) ∧ w.cell? ⟨b, 2, none⟩ = some (.int .i64 r.2.2) ∧ w.frozen? ⟨b, 0, none⟩ = false ∧ w.frozen? ⟨b, 1, none⟩ = false ∧ w.frozen? ⟨b, 2, none⟩ = false ∧ b < w.heap.size
theorem BoxR.on {B B' : Nat} {p : Qm.Rw} {w w' : World} (h : BoxR B p w) (hb : Below B' w w') (hB : B < B') : BoxR B p w' :=
  ⟨(hb.cell (p := ⟨B, 0, none⟩) hB).trans h.1, (hb.cell (p := ⟨B, 1, none⟩) hB).trans h.2.1, (hb.cell (p := ⟨B, 2, none⟩) hB).trans h.2.2.1, (hb.frozen (p := ⟨B, 0, none⟩) hB).trans h.2.2.2.1, (hb.frozen (p := ⟨B, 1, none⟩) hB).trans h.2.2.2.2.1, (hb.frozen (p := ⟨B, 2, none⟩) hB).trans h.2.2.2.2.2.1, Nat.lt_of_lt_of_le h.2.2.2.2.2.2 hb.size⟩
theorem BoxR.new {B : Nat} {a b c : Int} {w : World} (t : TypeId) (hB : B = w.heap.size) : BoxR B (a, b, c) (w.alloc (.cells #[.int .i64 a, .int .i64 b, .int .i64 c] t)) := by
  subst hB; exact ⟨by simp, by simp, by simp, by simp, by simp, by simp, by simp⟩
theorem BoxR.other {B C j : Nat} {p : Qm.Rw} {v : Value} {w : World} (h : BoxR B p w) (hne : B ≠ C) : BoxR B p (w.setCell ⟨C, j, none⟩ v) := by
  have o : ∀ i, (w.setCell ⟨C, j, none⟩ v).cell? ⟨B, i, none⟩ = w.cell? ⟨B, i, none⟩ := fun i => World.cell?_setCell_other _ _ _ _ (by intro e; injection e with e _ _; exact hne e.symm)
  exact ⟨(o 0).trans h.1, (o 1).trans h.2.1, (o 2).trans h.2.2.1, by simpa using h.2.2.2.1, by simpa using h.2.2.2.2.1, by simpa using h.2.2.2.2.2.1, by rw [World.size_setCell]; exact h.2.2.2.2.2.2⟩
theorem BoxR.set0 {B : Nat} {a b c x : Int} {w : World} (h : BoxR B (a, b, c) w) : BoxR B (x, b, c) (w.setCell ⟨B, 0, none⟩ (.int .i64 x)) :=
  ⟨World.cell?_setCell_same _ _ _ h.1, (World.cell?_setCell_other _ _ _ _ (by simp)).trans h.2.1, (World.cell?_setCell_other _ _ _ _ (by simp)).trans h.2.2.1, by simpa using h.2.2.2.1, by simpa using h.2.2.2.2.1, by simpa using h.2.2.2.2.2.1, by rw [World.size_setCell]; exact h.2.2.2.2.2.2⟩
theorem BoxR.set1 {B : Nat} {a b c x : Int} {w : World} (h : BoxR B (a, b, c) w) : BoxR B (a, x, c) (w.setCell ⟨B, 1, none⟩ (.int .i64 x)) :=
  ⟨(World.cell?_setCell_other _ _ _ _ (by simp)).trans h.1, World.cell?_setCell_same _ _ _ h.2.1, (World.cell?_setCell_other _ _ _ _ (by simp)).trans h.2.2.1, by simpa using h.2.2.2.1, by simpa using h.2.2.2.2.1, by simpa using h.2.2.2.2.2.1, by rw [World.size_setCell]; exact h.2.2.2.2.2.2⟩
theorem BoxR.set2 {B : Nat} {a b c x : Int} {w : World} (h : BoxR B (a, b, c) w) : BoxR B (a, b, x) (w.setCell ⟨B, 2, none⟩ (.int .i64 x)) :=
  ⟨(World.cell?_setCell_other _ _ _ _ (by simp)).trans h.1, (World.cell?_setCell_other _ _ _ _ (by simp)).trans h.2.1, World.cell?_setCell_same _ _ _ h.2.2.1, by simpa using h.2.2.2.1, by simpa using h.2.2.2.2.1, by simpa using h.2.2.2.2.2.1, by rw [World.size_setCell]; exact h.2.2.2.2.2.2⟩
theorem BoxR.alloc {B : Nat} {p : Qm.Rw} {w : World} (h : BoxR B p w) (o : Obj) : BoxR B p (w.alloc o) := h.on ((Below.refl _ _).alloc (Nat.le_refl _) _) h.2.2.2.2.2.2
/-- Rows of lines, in a list. -/
def RowsAt (g : Nat) (B : List Qm.Rw) (w : World) : Prop := g < w.heap.size ∧ ∀ j, j < B.length → w.cell? ⟨g, j * 3, none⟩ = some (.int .i64 (B.getD j (0, 0, 0)).1) ∧ w.cell? ⟨g, j * 3 + 1, none⟩ = some (.int .i64 (B.getD j (0, 0, 0)).2.1) ∧ w.cell? ⟨g, j * 3 + 2, none⟩ = some (.int .i64 (B.getD j (0, 0, 0)).2.2)
theorem RowsAt.on {g : Nat} {l : List Qm.Rw} {w w' : World} {B : Nat} (h : RowsAt g l w) (hb : Below B w w') (hg : g < B) : RowsAt g l w' :=
  ⟨Nat.lt_of_lt_of_le h.1 hb.size, fun j hj => ⟨(hb.cell (p := ⟨g, j * 3, none⟩) hg).trans (h.2 j hj).1, (hb.cell (p := ⟨g, j * 3 + 1, none⟩) hg).trans (h.2 j hj).2.1, (hb.cell (p := ⟨g, j * 3 + 2, none⟩) hg).trans (h.2 j hj).2.2⟩⟩
def RwsIn (B : List Qm.Rw) : Prop := ∀ j, 0 ≤ (B.getD j (0, 0, 0)).1 ∧ (B.getD j (0, 0, 0)).1 ≤ 10000 ∧ 0 ≤ (B.getD j (0, 0, 0)).2.1 ∧ (B.getD j (0, 0, 0)).2.1 ≤ 1000000000

/-- A post that only a way to the end meets. -/
def OnlyN (R : Act → World → Prop) : Exit → Act → World → Prop
  | .normal, a, w => R a w
  | _, _, _ => False
/-- All ways through a piece of code end in one frame, in worlds of which G holds. -/
theorem wp_some {P : Program} {c : Code} {Q : Exit → Act → World → Prop} {a : Act} {w : World} {G : World → Prop} (A : Act) (h : c.wp P (OnlyN fun a' w' => a' = A ∧ G w') a w) (k : ∀ w', G w' → Q .normal A w') : c.wp P Q a w :=
  Code.wp_mono (fun e a' w' h => by
    cases e with
    | normal => obtain ⟨rfl, h3⟩ := h; exact k _ h3
    | _ => exact h.elim) h

end Go.Proofs.YtljfiefobnncaaaDoor
/- Package polygons: closed. -/
namespace Go.Proofs.YtljfiefobnncaaaDoor
open Go.RowKit

theorem take_snoc (l : List (Int × Int)) (k : Nat) (h : k < l.length) : l.take (k + 1) = l.take k ++ [l.getD k (0, 0)] := by
  rw [List.take_add_one, List.getD_eq_getElem?_getD, List.getElem?_eq_getElem h]; rfl

theorem two_cells (w : World) (a b : Int) (t : TypeId) : ∀ (j : Nat) (u : Value), [Value.int .i64 a, .int .i64 b][j]? = some u → (w.alloc (.cells #[.int .i64 a, .int .i64 b] t)).cell? ((⟨w.heap.size, 0, none⟩ : Addr).add j) = some u := by
  intro j u hj
  match j, hj with
  | 0, hj => simp at hj; subst hj; simp [Addr.add]
  | 1, hj => simp at hj; subst hj; simp [Addr.add]
theorem two_one (a b : Int) : ∀ u ∈ [Value.int .i64 a, .int .i64 b], u.oneCell' = true := by
  intro u hu; simp at hu; rcases hu with rfl | rfl <;> rfl

end Go.Proofs.YtljfiefobnncaaaDoor
/- Find of package cycles, walked. -/
namespace Go.Proofs.YtljfiefobnncaaaDoor
open Go.RowKit



theorem small_pts {W H : Nat} {s : ByteArray} {pol : Nat} {draws : ByteArray} (hw : W ≤ 32) (hh : H ≤ 32) {c : Qm.Sd × Nat} (hc : Qm.Cyc (fB W H s pol draws) (bB W H s) c.1 c.2) : Qm.Small (Qm.ptsOf (fB W H s pol draws) c) := by
  intro p hp
  obtain ⟨i, _, rfl⟩ := List.mem_map.1 hp
  have st := Qm.step (Qm.pic_of W H s.data.toList hw hh) (Qm.jnB W H s.data.toList pol draws.data.toList)
  have := Qm.side_in (Qm.pic_of W H s.data.toList hw hh) (st.its hc.1 i)
  exact ⟨this.1, by have := this.2.1; exact Int.le_trans this (by omega), this.2.2.1, Int.le_trans this.2.2.2 (by omega)⟩



def FindOut (W H : Nat) (s : ByteArray) (pol : Nat) (draws : ByteArray) (w : World) (vl : Value) (w' : World) : Prop :=
  ∃ L : List (Value × (Qm.Sd × Nat)), Qm.Res (fB W H s pol draws) (bB W H s) Qm.key (L.map (·.2)) ∧ Rowed (fB W H s pol draws) w.heap.size vl L w' ∧ Below w.heap.size w w' ∧ L.length ≤ 1200

end Go.Proofs.YtljfiefobnncaaaDoor
/- outline.Cycles; what one sees of an answer; marks in a row. -/
namespace Go.Proofs.YtljfiefobnncaaaDoor
open Go.RowKit

theorem infoBool : (Tryd.prog.info? 4).map (fun i => (i.zero, i.size, i.bytes)) = some (some (.bool false), 1, 1) := by kernel_rfl

/-- The marks stand in the world. -/
def GoneAt (gg n : Nat) (G : Nat → Bool) (w : World) : Prop := gg < w.heap.size ∧ ∀ j, j < n → w.cell? ⟨gg, j, none⟩ = some (.bool (G j)) ∧ w.frozen? ⟨gg, j, none⟩ = false
theorem GoneAt.on {gg n : Nat} {G : Nat → Bool} {w w' : World} {B : Nat} (h : GoneAt gg n G w) (hb : Below B w w') (hg : gg < B) : GoneAt gg n G w' :=
  ⟨Nat.lt_of_lt_of_le h.1 hb.size, fun j hj => ⟨(hb.cell (p := ⟨gg, j, none⟩) hg).trans (h.2 j hj).1, (hb.frozen (p := ⟨gg, j, none⟩) hg).trans (h.2 j hj).2⟩⟩
theorem GoneAt.set {gg n : Nat} {G : Nat → Bool} {w : World} (h : GoneAt gg n G w) (k : Nat) : GoneAt gg n (Qm.mark G k) (w.setCell ⟨gg, k, none⟩ (.bool true)) := by
  refine ⟨by rw [World.size_setCell]; exact h.1, fun j hj => ⟨?_, by simpa using (h.2 j hj).2⟩⟩
  by_cases e : j = k
  · subst e
    rw [World.cell?_setCell_same _ _ _ (h.2 j hj).1]
    simp [Qm.mark]
  · rw [World.cell?_setCell_other _ _ _ _ (by intro e2; injection e2 with _ e3 _; omega), (h.2 j hj).1]
    simp [Qm.mark, e]

/-- An answer, to be read. -/
structure Shown (f : Qm.Sd → Qm.Sd) (vl : Value) (L : List (Value × (Qm.Sd × Nat))) (w : World) : Prop where
  row : ∃ ao cap, vl = .slice ao L.length cap ∧ (L.length = 0 ∨ ∃ gl, ao = some ⟨gl, 0, none⟩ ∧ gl < w.heap.size ∧ ∀ j u, (shpV f L)[j]? = some u → w.cell? ⟨gl, j, none⟩ = some u)
  pts : ∀ p ∈ L, ∃ g cap, p.1 = .slice (some ⟨g, 0, none⟩) p.2.2 cap ∧ 0 < p.2.2 ∧ PtsAt g (Qm.ptsOf f p.2) w
theorem Rowed.shown {f : Qm.Sd → Qm.Sd} {b : Nat} {vl : Value} {L : List (Value × (Qm.Sd × Nat))} {w : World} (h : Rowed f b vl L w) (hn : ∀ p ∈ L, 0 < p.2.2) : Shown f vl L w := by
  refine ⟨?_, fun p hp => ?_⟩
  · obtain ⟨ao, cap, e⟩ := own_len h.row
    refine ⟨ao, cap, e, ?_⟩
    rcases h.row.2 with ⟨_, h0⟩ | ⟨g, cap', cur, e', _, hg, _⟩
    · exact .inl h0
    · right
      have e2 : ao = some ⟨g, 0, none⟩ := by rw [e] at e'; injection e'
      refine ⟨g, e2, (Array.getElem?_eq_some_iff.1 hg).1, fun j u hu => ?_⟩
      have := h.row.cells (g := g) (by rw [e']; rfl) j u hu
      rwa [add_zero_at] at this
  · obtain ⟨g, cap, e, _, h2, _⟩ := own_at (h.pts p hp) (hn p hp)
    exact ⟨g, cap, e, hn p hp, h2⟩
theorem own_max {w : World} {b : Nat} {t : TypeId} {z : Nat} {v : Value} {n : Nat} {xs : List Value} (h : w.ownsRow b t z v n xs) : n ≤ 9223372036854775807 := by
  rcases h.2 with ⟨_, rfl⟩ | ⟨g, cap, cur, _, _, _, h1, h2, _⟩
  · omega
  · unfold maxLen at h2; omega
theorem Shown.on {f : Qm.Sd → Qm.Sd} {vl : Value} {L : List (Value × (Qm.Sd × Nat))} {w w' : World} (h : Shown f vl L w) (hb : Below w.heap.size w w') : Shown f vl L w' := by
  refine ⟨?_, fun p hp => ?_⟩
  · obtain ⟨ao, cap, e, h1⟩ := h.row
    refine ⟨ao, cap, e, h1.imp id ?_⟩
    rintro ⟨gl, e2, h3, h4⟩
    exact ⟨gl, e2, Nat.lt_of_lt_of_le h3 hb.size, fun j u hu => (hb.cell (p := ⟨gl, j, none⟩) h3).trans (h4 j u hu)⟩
  · obtain ⟨g, cap, e, h2, h4⟩ := h.pts p hp
    exact ⟨g, cap, e, h2, h4.on hb h4.1⟩

theorem shpV_at (f : Qm.Sd → Qm.Sd) (L : List (Value × (Qm.Sd × Nat))) : ∀ (j : Nat) (h : j < L.length), (shpV f L)[j * 2]? = some L[j].1 ∧ (shpV f L)[j * 2 + 1]? = some (.int .i64 (Qm.twiceOf (Qm.ptsOf f L[j].2))) := by
  induction L with
  | nil => intro j h; simp at h
  | cons p L ih =>
    intro j h
    have e : shpV f (p :: L) = p.1 :: .int .i64 (Qm.twiceOf (Qm.ptsOf f p.2)) :: shpV f L := by simp [shpV]
    cases j with
    | zero => rw [e]; simp
    | succ j =>
      have := ih j (by simpa using h)
      rw [e, show (j + 1) * 2 = j * 2 + 1 + 1 from by omega, show j * 2 + 1 + 1 + 1 = (j * 2 + 1) + 1 + 1 from by omega]
      simpa using this

theorem run_le {W H : Nat} {s : ByteArray} {pol : Nat} {draws : ByteArray} (hw : W ≤ 32) (hh : H ≤ 32) {t : Qm.Sd} (ht : bB W H s t) : ∀ m, Qm.Run (fB W H s pol draws) t m → ∃ T, Qm.RepM (Pm.blackB W H s.data.toList) (fB W H s pol draws) T [] t m ∧ m + Qm.cntF T 4356 ≤ 4356
  | 0, _ => ⟨fun _ => false, fun u _ => by simp [Qm.Tk], by have := Qm.cntF_le (fun _ => false) 4356; omega⟩
  | m + 1, h => by
    obtain ⟨T, h1, h2⟩ := run_le hw hh ht m (fun i j hij hj => h i j hij (by omega))
    have hp := Qm.pic_of W H s.data.toList hw hh
    have st := Qm.step hp (Qm.jnB W H s.data.toList pol draws.data.toList)
    have hs := st.its ht m
    have hT : T (Qm.codeS (Qm.it (fB W H s pol draws) m t)).toNat = false := by
      cases hc : T (Qm.codeS (Qm.it (fB W H s pol draws) m t)).toNat with
      | false => rfl
      | true =>
        rcases (h1 _ hs).1 hc with ⟨c, hc, _⟩ | ⟨i, hi, e⟩
        · simp at hc
        · exact absurd e.symm (h i m hi (by omega))
    have c4 := Qm.code_in hp hs
    have hlt : (Qm.codeS (Qm.it (fB W H s pol draws) m t)).toNat < 4356 := by
      show (Qm.codeS (Qm.it (Qm.nx (Pm.blackB W H s.data.toList) (Qm.jnB W H s.data.toList pol draws.data.toList)) m t)).toNat < 4356
      omega
    have := Qm.cntF_mark T _ hT 4356 hlt
    exact ⟨_, h1.succ hp hs, by omega⟩
theorem cyc_le {W H : Nat} {s : ByteArray} {pol : Nat} {draws : ByteArray} (hw : W ≤ 32) (hh : H ≤ 32) {t : Qm.Sd} {n : Nat} (h : Qm.Cyc (fB W H s pol draws) (bB W H s) t n) : n ≤ 4356 := by
  obtain ⟨T, _, h2⟩ := run_le hw hh h.1 n h.2.2.2
  omega





theorem may_parts {W H : Int} {l : List UInt8} {pol spk : Int} (h : mayB W H l pol spk = true) : Pm.goodB W H l = true ∧ 0 ≤ pol ∧ pol ≤ 3 := by
  unfold mayB at h
  simp only [Bool.and_eq_true, decide_eq_true_eq] at h
  exact ⟨h.1.1, h.1.2.1, h.1.2.2⟩

end Go.Proofs.YtljfiefobnncaaaDoor

/- Package polygons: bestRows. -/
namespace Go.Proofs.YtljfiefobnncaaaDoor
open Go.RowKit

namespace Qm
theorem accR_in {l : List Pt} {B : List Rw} (hs : Small l) {M C : Int} (hM : 0 ≤ M) (hC : 0 ≤ C) (h : ∀ j, 0 ≤ (B.getD j (0, 0, 0)).1 ∧ (B.getD j (0, 0, 0)).1 ≤ M ∧ 0 ≤ (B.getD j (0, 0, 0)).2.1 ∧ (B.getD j (0, 0, 0)).2.1 ≤ C) : ∀ k, k ≤ 12 → 0 ≤ (accR l B k).1 ∧ (accR l B k).1 ≤ M + 1 ∧ 0 ≤ (accR l B k).2.1 ∧ (accR l B k).2.1 ≤ C + 28672
  | 0, _ => by simp only [accR]; omega
  | k + 1, hk => by
    have ih := accR_in hs hM hC h k (by omega)
    have hB := h (B.length - (k + 1))
    have c := costOf_in (hs.take (k + 2))
    have ln : ((l.take (k + 2)).length : Int) ≤ 14 := by rw [List.length_take]; omega
    simp only [accR]
    split
    · dsimp only; omega
    · exact ih
theorem rowsTo_in {v : List Pt} (hs : Small v) (m : Nat) : ∀ j, 0 ≤ ((rowsTo v m).getD j (0, 0, 0)).1 ∧ ((rowsTo v m).getD j (0, 0, 0)).1 ≤ m ∧ 0 ≤ ((rowsTo v m).getD j (0, 0, 0)).2.1 ∧ ((rowsTo v m).getD j (0, 0, 0)).2.1 ≤ 28672 * m := by
  induction m with
  | zero => intro j; simp [rowsTo]
  | succ m ih =>
    intro j
    have a := accR_in (hs.drop (v.length - 1 - m)) (by omega) (by omega) ih (spn (m + 1) m) (by unfold spn; omega)
    have ij := ih j
    simp only [rowsTo, List.getD_eq_getElem?_getD, List.getElem?_append, rowsTo_len] at ij ⊢
    split
    · omega
    · cases hjm : j - m with
      | zero => simp only [List.getElem?_cons_zero, Option.getD_some]; omega
      | succ q => simp; omega
end Qm



end Go.Proofs.YtljfiefobnncaaaDoor