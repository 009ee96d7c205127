/- outline.Cycles; what one sees of an answer; marks in a row. -/
import Derived.Test.YtljfiefobnncaaaCn
import Derived.OwnWalk
namespace Go.Proofs.Ytljfiefobnncaaa
open Go.RowKit

theorem infoBool : (Try.prog.info? 4).map (fun i => (i.zero, i.size, i.bytes)) = some (some (.bool false), 1, 1) := by kernel_rfl

/-- The marks stand in the world. -/
def GoneAt (gg n : Nat) (G : Nat → Bool) (w : World) : Prop := gg < w.heap.size ∧ ∀ j, j < n → w.cell? ⟨gg, j, none⟩ = some (.bool (G j)) ∧ w.frozen? ⟨gg, j, none⟩ = false
theorem GoneAt.on {gg n : Nat} {G : Nat → Bool} {w w' : World} {B : Nat} (h : GoneAt gg n G w) (hb : Below B w w') (hg : gg < B) : GoneAt gg n G w' :=
  ⟨Nat.lt_of_lt_of_le h.1 hb.size, fun j hj => ⟨(hb.cell (p := ⟨gg, j, none⟩) hg).trans (h.2 j hj).1, (hb.frozen (p := ⟨gg, j, none⟩) hg).trans (h.2 j hj).2⟩⟩
theorem GoneAt.set {gg n : Nat} {G : Nat → Bool} {w : World} (h : GoneAt gg n G w) (k : Nat) : GoneAt gg n (Qm.mark G k) (w.setCell ⟨gg, k, none⟩ (.bool true)) := by
  refine ⟨by rw [World.size_setCell]; exact h.1, fun j hj => ⟨?_, by simpa using (h.2 j hj).2⟩⟩
  by_cases e : j = k
  · subst e
    rw [World.cell?_setCell_same _ _ _ (h.2 j hj).1]
    simp [Qm.mark]
  · rw [World.cell?_setCell_other _ _ _ _ (by intro e2; injection e2 with _ e3 _; omega), (h.2 j hj).1]
    simp [Qm.mark, e]

/-- An answer, to be read. -/
structure Shown (f : Qm.Sd → Qm.Sd) (vl : Value) (L : List (Value × (Qm.Sd × Nat))) (w : World) : Prop where
  row : ∃ ao cap, vl = .slice ao L.length cap ∧ (L.length = 0 ∨ ∃ gl, ao = some ⟨gl, 0, none⟩ ∧ gl < w.heap.size ∧ ∀ j u, (shpV f L)[j]? = some u → w.cell? ⟨gl, j, none⟩ = some u)
  pts : ∀ p ∈ L, ∃ g cap, p.1 = .slice (some ⟨g, 0, none⟩) p.2.2 cap ∧ 0 < p.2.2 ∧ PtsAt g (Qm.ptsOf f p.2) w
theorem Rowed.shown {f : Qm.Sd → Qm.Sd} {b : Nat} {vl : Value} {L : List (Value × (Qm.Sd × Nat))} {w : World} (h : Rowed f b vl L w) (hn : ∀ p ∈ L, 0 < p.2.2) : Shown f vl L w := by
  refine ⟨?_, fun p hp => ?_⟩
  · obtain ⟨ao, cap, e⟩ := own_len h.row
    refine ⟨ao, cap, e, ?_⟩
    rcases h.row.2 with ⟨_, h0⟩ | ⟨g, cap', cur, e', _, hg, _⟩
    · exact .inl h0
    · right
      have e2 : ao = some ⟨g, 0, none⟩ := by rw [e] at e'; injection e'
      refine ⟨g, e2, (Array.getElem?_eq_some_iff.1 hg).1, fun j u hu => ?_⟩
      have := h.row.cells (g := g) (by rw [e']; rfl) j u hu
      rwa [add_zero_at] at this
  · obtain ⟨g, cap, e, _, h2, _⟩ := own_at (h.pts p hp) (hn p hp)
    exact ⟨g, cap, e, hn p hp, h2⟩
theorem own_max {w : World} {b : Nat} {t : TypeId} {z : Nat} {v : Value} {n : Nat} {xs : List Value} (h : w.ownsRow b t z v n xs) : n ≤ 9223372036854775807 := by
  rcases h.2 with ⟨_, rfl⟩ | ⟨g, cap, cur, _, _, _, h1, h2, _⟩
  · omega
  · unfold maxLen at h2; omega
theorem Shown.on {f : Qm.Sd → Qm.Sd} {vl : Value} {L : List (Value × (Qm.Sd × Nat))} {w w' : World} (h : Shown f vl L w) (hb : Below w.heap.size w w') : Shown f vl L w' := by
  refine ⟨?_, fun p hp => ?_⟩
  · obtain ⟨ao, cap, e, h1⟩ := h.row
    refine ⟨ao, cap, e, h1.imp id ?_⟩
    rintro ⟨gl, e2, h3, h4⟩
    exact ⟨gl, e2, Nat.lt_of_lt_of_le h3 hb.size, fun j u hu => (hb.cell (p := ⟨gl, j, none⟩) h3).trans (h4 j u hu)⟩
  · obtain ⟨g, cap, e, h2, h4⟩ := h.pts p hp
    exact ⟨g, cap, e, h2, h4.on hb h4.1⟩

theorem shpV_at (f : Qm.Sd → Qm.Sd) (L : List (Value × (Qm.Sd × Nat))) : ∀ (j : Nat) (h : j < L.length), (shpV f L)[j * 2]? = some L[j].1 ∧ (shpV f L)[j * 2 + 1]? = some (.int .i64 (Qm.twiceOf (Qm.ptsOf f L[j].2))) := by
  induction L with
  | nil => intro j h; simp at h
  | cons p L ih =>
    intro j h
    have e : shpV f (p :: L) = p.1 :: .int .i64 (Qm.twiceOf (Qm.ptsOf f p.2)) :: shpV f L := by simp [shpV]
    cases j with
    | zero => rw [e]; simp
    | succ j =>
      have := ih j (by simpa using h)
      rw [e, show (j + 1) * 2 = j * 2 + 1 + 1 from by omega, show j * 2 + 1 + 1 + 1 = (j * 2 + 1) + 1 + 1 from by omega]
      simpa using this

theorem run_le {W H : Nat} {s : ByteArray} {pol : Nat} {draws : ByteArray} (hw : W ≤ 32) (hh : H ≤ 32) {t : Qm.Sd} (ht : bB W H s t) : ∀ m, Qm.Run (fB W H s pol draws) t m → ∃ T, Qm.RepM (Pm.blackB W H s.data.toList) (fB W H s pol draws) T [] t m ∧ m + Qm.cntF T 4356 ≤ 4356
  | 0, _ => ⟨fun _ => false, fun u _ => by simp [Qm.Tk], by have := Qm.cntF_le (fun _ => false) 4356; omega⟩
  | m + 1, h => by
    obtain ⟨T, h1, h2⟩ := run_le hw hh ht m (fun i j hij hj => h i j hij (by omega))
    have hp := Qm.pic_of W H s.data.toList hw hh
    have st := Qm.step hp (Qm.jnB W H s.data.toList pol draws.data.toList)
    have hs := st.its ht m
    have hT : T (Qm.codeS (Qm.it (fB W H s pol draws) m t)).toNat = false := by
      cases hc : T (Qm.codeS (Qm.it (fB W H s pol draws) m t)).toNat with
      | false => rfl
      | true =>
        rcases (h1 _ hs).1 hc with ⟨c, hc, _⟩ | ⟨i, hi, e⟩
        · simp at hc
        · exact absurd e.symm (h i m hi (by omega))
    have c4 := Qm.code_in hp hs
    have hlt : (Qm.codeS (Qm.it (fB W H s pol draws) m t)).toNat < 4356 := by
      show (Qm.codeS (Qm.it (Qm.nx (Pm.blackB W H s.data.toList) (Qm.jnB W H s.data.toList pol draws.data.toList)) m t)).toNat < 4356
      omega
    have := Qm.cntF_mark T _ hT 4356 hlt
    exact ⟨_, h1.succ hp hs, by omega⟩
theorem cyc_le {W H : Nat} {s : ByteArray} {pol : Nat} {draws : ByteArray} (hw : W ≤ 32) (hh : H ≤ 32) {t : Qm.Sd} {n : Nat} (h : Qm.Cyc (fB W H s pol draws) (bB W H s) t n) : n ≤ 4356 := by
  obtain ⟨T, _, h2⟩ := run_le hw hh h.1 n h.2.2.2
  omega

set_option maxHeartbeats 400000 in
theorem cycles_no (W H : Int) (s : ByteArray) (pol : Int) (draws : ByteArray) (spk : Int) (w : World) (hm : mayB W H s.data.toList pol spk = false) :
    Calls Try.prog 15 #[.agg #[.int .i64 W, .int .i64 H, .string s], .agg #[.int .i64 pol, .string draws, .int .i64 spk]] w fun e w' => e = .returned (.tuple #[.slice none 0 0, .int .i64 4]) ∧ Below w.heap.size w w' := by
  go_enter Try.func15, Try.ntmps15
  go_wp2_with fail
  refine (find_no W H s pol draws spk _ hm).mono ?_
  rintro e w1 ⟨rfl, hb⟩
  have HB := hid hb
  clear hb
  go_wp2
  go_ret2
  exact ⟨rfl, Below.trans (b := _) (by go_grown) (HB.out.mono (by simp; omega))⟩

set_option maxHeartbeats 400000 in
theorem cycles_yes (W H : Nat) (s : ByteArray) (pol : Nat) (draws : ByteArray) (spk : Int) (w : World) (hm : mayB W H s.data.toList pol spk = true) (hw2 : W ≤ 32) (hh2 : H ≤ 32) (hl : s.size = W * H) (hp : pol ≤ 3) :
    Calls Try.prog 15 #[.agg #[.int .i64 W, .int .i64 H, .string s], .agg #[.int .i64 pol, .string draws, .int .i64 spk]] w fun e w' => ∃ vl, e = .returned (.tuple #[vl, .int .i64 0]) ∧ FindOut W H s pol draws w vl w' := by
  have HL := hid hl
  clear hl
  go_enter Try.func15, Try.ntmps15
  go_wp2_with fail
  refine (find_yes W H s pol draws spk _ hm hw2 hh2 HL.out hp).mono ?_
  rintro e w1 ⟨vl, rfl, L, h1, h2, h3, h4⟩
  have H1 := hid h1
  have H2 := hid h2
  have H3 := hid h3
  clear h1 h2 h3
  go_wp2
  go_ret2
  exact ⟨vl, rfl, L, H1.out, ⟨H2.out.row.mono (by simp; omega), fun p hp => (H2.out.pts p hp).mono (by simp; omega), H2.out.apart⟩, Below.trans (b := _) (by go_grown) (H3.out.mono (by simp; omega)), h4⟩

theorem may_parts {W H : Int} {l : List UInt8} {pol spk : Int} (h : mayB W H l pol spk = true) : Pm.goodB W H l = true ∧ 0 ≤ pol ∧ pol ≤ 3 := by
  unfold mayB at h
  simp only [Bool.and_eq_true, decide_eq_true_eq] at h
  exact ⟨h.1.1, h.1.2.1, h.1.2.2⟩

end Go.Proofs.Ytljfiefobnncaaa
