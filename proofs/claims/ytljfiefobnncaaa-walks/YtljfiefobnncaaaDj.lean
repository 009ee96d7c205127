/- outlineref.Cycles: what holds in its loops. -/
import Derived.Test.YtljfiefobnncaaaDi
import Derived.Test.YtljfiefobnncaaaCp
namespace Go.Proofs.Ytljfiefobnncaaa
open Go.RowKit

/-! The marks of the sides by their places. -/
section
variable {f : Qm.Sd → Qm.Sd} {P : Qm.Sd → Prop}

theorem ptsOf_turn (f : Qm.Sd → Qm.Sd) (s : Qm.Sd) (n k : Nat) (hk : k < n) (he : Qm.it f n s = s) : (Qm.ptsOf f (s, n)).drop k ++ (Qm.ptsOf f (s, n)).take k = Qm.ptsOf f (Qm.it f k s, n) := by
  apply List.ext_getElem?
  intro j
  simp only [Qm.ptsOf, List.getElem?_append, List.length_drop, List.length_map, List.length_range, List.getElem?_drop, List.getElem?_take, List.getElem?_map]
  by_cases h1 : j < n - k
  · rw [if_pos h1, List.getElem?_range (show k + j < n by omega), List.getElem?_range (show j < n by omega)]
    simp only [Option.map_some]
    rw [← Qm.it_add, Nat.add_comm]
  · rw [if_neg h1]
    by_cases h2 : j < n
    · rw [if_pos (by omega), List.getElem?_range (show j - (n - k) < n by omega), List.getElem?_range h2]
      simp only [Option.map_some]
      rw [← Qm.it_add, show j + k = (j - (n - k)) + n from by omega, Qm.it_add, he]
    · rw [if_neg (by omega), List.getElem?_eq_none (by simp; omega)]; simp

def RepI (f : Qm.Sd → Qm.Sd) (SL : List Qm.Sd) (G : Nat → Bool) (R : List (Qm.Sd × Nat)) (s : Qm.Sd) (m : Nat) : Prop := ∀ j, j < SL.length → (G j = true ↔ Qm.Tk f R (SL.getD j (0, 0, 0)) ∨ ∃ i, i < m ∧ SL.getD j (0, 0, 0) = Qm.it f i s)

theorem RepI.succ {SL : List Qm.Sd} {G : Nat → Bool} {R : List (Qm.Sd × Nat)} {s : Qm.Sd} {m k : Nat} (h : RepI f SL G R s m) (hk : k < SL.length) (e : SL.getD k (0, 0, 0) = Qm.it f m s) (hnd : ∀ i j, i < SL.length → j < SL.length → SL.getD i (0, 0, 0) = SL.getD j (0, 0, 0) → i = j) : RepI f SL (Qm.mark G k) R s (m + 1) := fun j hj => by
  unfold Qm.mark
  rw [Bool.or_eq_true, h j hj, beq_iff_eq]
  constructor
  · rintro ((h | ⟨i, hi, e2⟩) | rfl)
    · exact .inl h
    · exact .inr ⟨i, by omega, e2⟩
    · exact .inr ⟨m, by omega, e⟩
  · rintro (h | ⟨i, hi, e2⟩)
    · exact .inl (.inl h)
    · rcases Nat.lt_or_ge i m with h1 | h1
      · exact .inl (.inr ⟨i, h1, e2⟩)
      · obtain rfl : i = m := by omega
        exact .inr (hnd j k hj hk (e2.trans e.symm))
theorem RepI.free {SL : List Qm.Sd} {G : Nat → Bool} {R : List (Qm.Sd × Nat)} {s : Qm.Sd} {m k : Nat} (h : RepI f SL G R s m) (hk : k < SL.length) (e : SL.getD k (0, 0, 0) = Qm.it f m s) (hG : G k = false) : ¬ Qm.Tk f R (Qm.it f m s) ∧ ∀ i, i < m → Qm.it f i s ≠ Qm.it f m s := by
  have : ¬ (Qm.Tk f R (SL.getD k (0, 0, 0)) ∨ ∃ i, i < m ∧ SL.getD k (0, 0, 0) = Qm.it f i s) := fun hh => absurd ((h k hk).2 hh) (by rw [hG]; simp)
  rw [e] at this
  exact ⟨fun hh => this (.inl hh), fun i hi e2 => this (.inr ⟨i, hi, e2.symm⟩)⟩
end

def untG (gg n : Nat) (w : World) : Nat := Qm.cntF (fun j => match w.cell? ⟨gg, j, none⟩ with | some (.bool b) => b | _ => true) n
theorem untG_of {gg n : Nat} {G : Nat → Bool} {w : World} (h : GoneAt gg n G w) : untG gg n w = Qm.cntF G n := cntF_congr _ _ _ fun i hi => by rw [(h.2 i hi).1]

/-- The answer so far, to be read: the row of shapes, and each shape's points; all of it in blocks behind gg. -/
structure Seen (f : Qm.Sd → Qm.Sd) (gg : Nat) (vl : Value) (L : List (Value × (Qm.Sd × Nat))) (w : World) : Prop where
  row : ∃ ao cap, vl = .slice ao L.length cap ∧ (L.length = 0 ∨ ∃ gl, ao = some ⟨gl, 0, none⟩ ∧ gg < gl ∧ gl < w.heap.size ∧ ∀ j u, (shpV f L)[j]? = some u → w.cell? ⟨gl, j, none⟩ = some u)
  pts : ∀ p ∈ L, ∃ g cap, p.1 = .slice (some ⟨g, 0, none⟩) p.2.2 cap ∧ p.2.2 ≤ cap ∧ 0 < p.2.2 ∧ gg < g ∧ PtsAt g (Qm.ptsOf f p.2) w
theorem Seen.nil (f : Qm.Sd → Qm.Sd) (gg : Nat) (w : World) : Seen f gg (.slice none 0 0) [] w := ⟨⟨none, 0, rfl, .inl rfl⟩, fun p hp => by simp at hp⟩
theorem Seen.on {f : Qm.Sd → Qm.Sd} {gg : Nat} {vl : Value} {L : List (Value × (Qm.Sd × Nat))} {w w' : World} (h : Seen f gg vl L w) (hb : w.grownBy w' (some gg)) : Seen f gg vl L w' := by
  have C : ∀ g j, gg < g → g < w.heap.size → w'.cell? ⟨g, j, none⟩ = w.cell? ⟨g, j, none⟩ := fun g j h1 h2 => World.cell?_of_block (a := ⟨g, j, none⟩) (hb.block g h2 (by simp; omega))
  refine ⟨?_, fun p hp => ?_⟩
  · obtain ⟨ao, cap, e, h1⟩ := h.row
    refine ⟨ao, cap, e, h1.imp id ?_⟩
    rintro ⟨gl, e2, h2, h3, h4⟩
    exact ⟨gl, e2, h2, Nat.lt_of_lt_of_le h3 hb.size, fun j u hu => (C _ _ h2 h3).trans (h4 j u hu)⟩
  · obtain ⟨g, cap, e, h1, h2, h3, h4⟩ := h.pts p hp
    exact ⟨g, cap, e, h1, h2, h3, Nat.lt_of_lt_of_le h4.1 hb.size, fun j hj => ⟨(C _ _ h3 h4.1).trans (h4.2 j hj).1, (C _ _ h3 h4.1).trans (h4.2 j hj).2⟩⟩

def entOf (f : Qm.Sd → Qm.Sd) (p : Value × (Qm.Sd × Nat)) : Ent := (p.1, Qm.twiceOf (Qm.ptsOf f p.2), Qm.fromP p.2.1)
theorem entV_map (f : Qm.Sd → Qm.Sd) (L : List (Value × (Qm.Sd × Nat))) : entV (L.map (entOf f)) = shpV f L := by
  induction L with
  | nil => rfl
  | cons p l ih =>
    have a : entV ((p :: l).map (entOf f)) = (entOf f p).1 :: .int .i64 (entOf f p).2.1 :: entV (l.map (entOf f)) := by simp [entV]
    have b : shpV f (p :: l) = p.1 :: .int .i64 (Qm.twiceOf (Qm.ptsOf f p.2)) :: shpV f l := by simp [shpV]
    rw [a, b, ih]; rfl
theorem keyP_from (s : Qm.Sd) : keyP (Qm.fromP s) = Qm.key s := rfl
theorem ptsOf_getD (f : Qm.Sd → Qm.Sd) (c : Qm.Sd × Nat) (j : Nat) (h : j < c.2) : (Qm.ptsOf f c).getD j (0, 0) = Qm.fromP (Qm.it f j c.1) := by
  simp [Qm.ptsOf, List.getD_eq_getElem?_getD, h]

/-- What holds behind i sides. -/
structure RC (W H : Nat) (s : ByteArray) (pol : Nat) (draws : ByteArray) (spk : Int) (gg gl : Nat) (SL : List Qm.Sd) (w : World) (i : Nat) (L : List (Value × (Qm.Sd × Nat))) (G : Nat → Bool) (vo : Value) (wr : World) : Prop where
  canon : ∀ p ∈ L, Qm.Canon (fB W H s pol draws) (bB W H s) Qm.key p.2
  sorted : (L.map (·.2)).Pairwise fun a b => Qm.key a.1 < Qm.key b.1
  rep : RepI (fB W H s pol draws) SL G (L.map (·.2)) (0, 0, 0) 0
  past : ∀ j, j < i → G j = true
  gone : GoneAt gg SL.length G wr
  sds : 0 < SL.length → SdsAt gl SL wr
  box : Bb w.heap.size W H s pol draws spk w wr
  lt : w.heap.size + 1 < gg ∧ gl < gg
  seen : Seen (fB W H s pol draws) gg vo L wr
  few : L.length ≤ i

section
variable {W H : Nat} {s : ByteArray} {pol : Nat} {draws : ByteArray} {spk : Int} {gg gl : Nat} {SL : List Qm.Sd} {w : World} {i : Nat} {L : List (Value × (Qm.Sd × Nat))} {G : Nat → Bool} {vo : Value} {wr : World}

theorem RC.cyc (h : RC W H s pol draws spk gg gl SL w i L G vo wr) : ∀ c ∈ L.map (·.2), Qm.Cyc (fB W H s pol draws) (bB W H s) c.1 c.2 := by
  intro c hc
  obtain ⟨p, hp, rfl⟩ := List.mem_map.1 hc
  exact (h.canon p hp).1

theorem Bb.gb {B : Nat} {w2 : World} (h : Bb B W H s pol draws spk w wr) (hb : wr.grownBy w2 (some gg)) (hg : B + 1 < gg) : Bb B W H s pol draws spk w w2 := by
  have hz := h.2.2.2.2.2.2.2
  have C : ∀ k j, k < B + 2 → w2.cell? ⟨k, j, none⟩ = wr.cell? ⟨k, j, none⟩ := fun k j h1 => World.cell?_of_block (a := ⟨k, j, none⟩) (hb.block k (by omega) (by simp; omega))
  exact ⟨(C B 0 (by omega)).trans h.1, (C B 1 (by omega)).trans h.2.1, (C B 2 (by omega)).trans h.2.2.1, (C (B + 1) 0 (by omega)).trans h.2.2.2.1, (C (B + 1) 1 (by omega)).trans h.2.2.2.2.1, (C (B + 1) 2 (by omega)).trans h.2.2.2.2.2.1, h.2.2.2.2.2.2.1.trans (gb_below_of hb (by omega) (by omega)), Nat.lt_of_lt_of_le hz hb.size⟩
theorem SdsAt.gb {l : List Qm.Sd} {g : Nat} {w2 : World} (h : SdsAt g l wr) (hb : wr.grownBy w2 (some gg)) (hg : g < gg) : SdsAt g l w2 := by
  have C : ∀ j, w2.cell? ⟨g, j, none⟩ = wr.cell? ⟨g, j, none⟩ := fun j => World.cell?_of_block (a := ⟨g, j, none⟩) (hb.block g h.1 (by simp; omega))
  exact ⟨Nat.lt_of_lt_of_le h.1 hb.size, fun j hj => by rw [C, C, C, C]; exact h.2 j hj⟩

/-- Nothing was walked from side i: it was gone. -/
theorem RC.none (h : RC W H s pol draws spk gg gl SL w i L G vo wr) (hG : G i = true) : RC W H s pol draws spk gg gl SL w (i + 1) L G vo wr :=
  { h with past := fun j hj => by
             rcases Nat.lt_or_ge j i with h1 | h1
             · exact h.past j h1
             · obtain rfl : j = i := by omega
               exact hG
           few := by have := h.few; omega }

theorem RC.res (h : RC W H s pol draws spk gg gl SL w SL.length L G vo wr) (hall : ∀ t, Qm.isS (Pm.blackB W H s.data.toList) t = true → ∃ j, j < SL.length ∧ SL.getD j (0, 0, 0) = t) : Qm.Res (fB W H s pol draws) (bB W H s) Qm.key (L.map (·.2)) := by
  refine ⟨fun c hc => ?_, h.sorted, fun t ht => ?_⟩
  · obtain ⟨p, hp, rfl⟩ := List.mem_map.1 hc
    exact h.canon p hp
  · obtain ⟨j, hj, rfl⟩ := hall t ht
    rcases (h.rep j hj).1 (h.past j hj) with h1 | ⟨_, h1, _⟩
    · exact h1
    · omega
end
end Go.Proofs.Ytljfiefobnncaaa
