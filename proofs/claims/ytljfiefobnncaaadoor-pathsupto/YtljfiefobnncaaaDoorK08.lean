import Derived.Test.YtljfiefobnncaaaDoorK07
import Derived.Deep.Onto

/- walk of package cycles. -/
namespace Go.Proofs.YtljfiefobnncaaaDoor
open Go.RowKit

theorem gb_trans {a b c : World} {r : Option Nat} (h : a.grownBy b r) (k : b.grownBy c r) : a.grownBy c r :=
  ⟨k.os.trans h.os, k.tape.trans h.tape, k.output.trans h.output, Nat.le_trans h.size k.size, fun i hi hn => (k.block i (Nat.lt_of_lt_of_le hi h.size) hn).trans (h.block i hi hn)⟩
/-- Behind a step that turns nothing below B. -/
theorem gb_below {a b c : World} {r : Option Nat} {B : Nat} (h : a.grownBy b r) (k : Below B b c) (hB : a.heap.size ≤ B) : a.grownBy c r :=
  ⟨k.os.trans h.os, k.tape.trans h.tape, k.output.trans h.output, Nat.le_trans h.size k.size, fun i hi hn => (k.block i (Nat.lt_of_lt_of_le hi hB)).trans (h.block i hi hn)⟩
theorem gb_below_of {a b : World} {g B : Nat} (h : a.grownBy b (some g)) (hB : B ≤ g) (hz : B ≤ a.heap.size) : Below B a b :=
  ⟨h.os, h.tape, h.output, h.size, fun k hk => h.block k (by omega) (by simp; omega)⟩
theorem Wk.onB {g W H : Nat} {s : ByteArray} {pol : Nat} {draws : ByteArray} {spk : Int} {w w' : World} {B : Nat} (h : Wk g W H s pol draws spk w) (hb : Below B w w') (hg : g < B) : Wk g W H s pol draws spk w' := by
  obtain ⟨c0, c1, c2, c3, c4, c5, hz⟩ := h
  exact ⟨(hb.cell (p := ⟨g, 0, none⟩) hg).trans c0, (hb.cell (p := ⟨g, 1, none⟩) hg).trans c1, (hb.cell (p := ⟨g, 2, none⟩) hg).trans c2, (hb.cell (p := ⟨g, 3, none⟩) hg).trans c3, (hb.cell (p := ⟨g, 4, none⟩) hg).trans c4, (hb.cell (p := ⟨g, 5, none⟩) hg).trans c5, Nat.lt_of_lt_of_le hz hb.size⟩

/-- How many marks are not set, in the world. -/
def unt (g : Nat) (w : World) : Nat := Qm.cntF (fun n => match w.cell? ⟨g, 6 + n, none⟩ with | some (.bool b) => b | _ => true) 4356
theorem cntF_congr (T T' : Nat → Bool) : ∀ n, (∀ i, i < n → T i = T' i) → Qm.cntF T n = Qm.cntF T' n
  | 0, _ => rfl
  | n + 1, h => by unfold Qm.cntF; rw [cntF_congr T T' n (fun i hi => h i (by omega)), h n (by omega)]
theorem unt_of {g : Nat} {T : Nat → Bool} {w : World} (h : Tkn g T w) : unt g w = Qm.cntF T 4356 := cntF_congr _ _ _ fun i hi => by rw [(h i hi).1]

theorem infoPoint : (Tryd.prog.info? 83).map (fun i => (i.zero, i.size, i.bytes)) = some (some (.agg #[.int .i64 0, .int .i64 0]), 2, 16) := by kernel_rfl

/-- A side's box at block B. -/
def BoxS (B : Nat) (t : Qm.Sd) (w : World) : Prop :=
  w.cell? ⟨B, 0, none⟩ = some (.int .i64 t.1) ∧ w.cell? ⟨B, 1, none⟩ = some (.int .i64 t.2.1) ∧ w.cell? ⟨B, 2, none⟩ = some (.int .i64 (t.2.2 : Nat)) ∧ w.frozen? ⟨B, 0, none⟩ = false ∧ w.frozen? ⟨B, 1, none⟩ = false ∧ w.frozen? ⟨B, 2, none⟩ = false ∧ B < w.heap.size
theorem BoxS.of {B : Nat} {t : Qm.Sd} {w w' : World} (h : BoxS B t w) (hb : w'.heap[B]? = w.heap[B]?) (hz : w.heap.size ≤ w'.heap.size) : BoxS B t w' := by
  obtain ⟨a, b, c, d, e, f, z⟩ := h
  exact ⟨(World.cell?_of_block (a := ⟨B, 0, none⟩) hb).trans a, (World.cell?_of_block (a := ⟨B, 1, none⟩) hb).trans b, (World.cell?_of_block (a := ⟨B, 2, none⟩) hb).trans c, (World.frozen?_of_block (a := ⟨B, 0, none⟩) hb).trans d, (World.frozen?_of_block (a := ⟨B, 1, none⟩) hb).trans e, (World.frozen?_of_block (a := ⟨B, 2, none⟩) hb).trans f, Nat.lt_of_lt_of_le z hz⟩
theorem BoxS.set {B : Nat} {t : Qm.Sd} {w : World} (h : BoxS B t w) (u : Qm.Sd) : BoxS B u (((w.setCell ⟨B, 0, none⟩ (.int .i64 u.1)).setCell ⟨B, 1, none⟩ (.int .i64 u.2.1)).setCell ⟨B, 2, none⟩ (.int .i64 (u.2.2 : Nat))) := by
  obtain ⟨a, b, c, d, e, f, z⟩ := h
  refine ⟨?_, ?_, ?_, by simpa using d, by simpa using e, by simpa using f, by simpa using z⟩
  · rw [World.cell?_setCell_other _ _ _ _ (by simp), World.cell?_setCell_other _ _ _ _ (by simp), World.cell?_setCell_same _ _ _ a]
  · rw [World.cell?_setCell_other _ _ _ _ (by simp)]
    exact World.cell?_setCell_same _ _ _ ((World.cell?_setCell_other _ _ _ _ (by simp)).trans b)
  · exact World.cell?_setCell_same _ _ _ ((World.cell?_setCell_other _ _ _ _ (by simp)).trans ((World.cell?_setCell_other _ _ _ _ (by simp)).trans c))

/-- The step of a bitmap with its policy. -/
abbrev fB (W H : Nat) (s : ByteArray) (pol : Nat) (draws : ByteArray) : Qm.Sd → Qm.Sd := Qm.nx (Pm.blackB W H s.data.toList) (Qm.jnB W H s.data.toList pol draws.data.toList)
abbrev bB (W H : Nat) (s : ByteArray) : Qm.Sd → Prop := fun t => Qm.isS (Pm.blackB W H s.data.toList) t = true

/-- What holds in a walk behind m steps. -/
structure Wlk (g W H : Nat) (s : ByteArray) (pol : Nat) (draws : ByteArray) (spk : Int) (R : List (Qm.Sd × Nat)) (s0 : Qm.Sd) (w : World) (m : Nat) (T : Nat → Bool) (v : Value) (wr : World) : Prop where
  box : BoxS w.heap.size (Qm.it (fB W H s pol draws) m s0) wr
  own : wr.ownsRow (w.heap.size + 1) 83 2 v m (Qm.ptsV (Qm.ptsOf (fB W H s pol draws) (s0, m)))
  grown : w.grownBy wr (some g)
  wk : Wk g W H s pol draws spk wr
  tkn : Tkn g T wr
  rep : Qm.RepM (Pm.blackB W H s.data.toList) (fB W H s pol draws) T R s0 m
  run : Qm.Run (fB W H s pol draws) s0 m
  side : 0 < m → Qm.isS (Pm.blackB W H s.data.toList) s0 = true ∧ ¬ Qm.Tk (fB W H s pol draws) R s0
  few : m + Qm.cntF T 4356 ≤ 4356
end Go.Proofs.YtljfiefobnncaaaDoor

/- walk of package cycles, walked. -/
namespace Go.Proofs.YtljfiefobnncaaaDoor
open Go.RowKit

section
variable {g W H : Nat} {s : ByteArray} {pol : Nat} {draws : ByteArray} {spk : Int} {R : List (Qm.Sd × Nat)} {s0 : Qm.Sd} {w : World} {m : Nat} {T : Nat → Bool} {v : Value} {wr : World}

/-- What comes out of a walk. -/
def WalkOut (g W H : Nat) (s : ByteArray) (pol : Nat) (draws : ByteArray) (spk : Int) (R : List (Qm.Sd × Nat)) (s0 : Qm.Sd) (w : World) (v : Value) (w' : World) : Prop :=
  ∃ (n : Nat) (T : Nat → Bool), w'.ownsRow w.heap.size 83 2 v n (Qm.ptsV (Qm.ptsOf (fB W H s pol draws) (s0, n))) ∧ w.grownBy w' (some g) ∧ Wk g W H s pol draws spk w' ∧ Tkn g T w' ∧ n ≤ 4356 ∧
  ((n = 0 ∧ (Qm.isS (Pm.blackB W H s.data.toList) s0 = false ∨ Qm.Tk (fB W H s pol draws) R s0) ∧ Qm.Rep (Pm.blackB W H s.data.toList) (fB W H s pol draws) T R) ∨
   (0 < n ∧ ¬ Qm.Tk (fB W H s pol draws) R s0 ∧ Qm.Cyc (fB W H s pol draws) (bB W H s) s0 n ∧ Qm.Rep (Pm.blackB W H s.data.toList) (fB W H s pol draws) T (R ++ [(s0, n)])))

theorem Wlk.out (h : Wlk g W H s pol draws spk R s0 w m T v wr) {w' : World} (hb : Below wr.heap.size wr w') (hw : W ≤ 32) (hh : H ≤ 32) (hR : ∀ c ∈ R, Qm.Cyc (fB W H s pol draws) (bB W H s) c.1 c.2)
    (he : Qm.isS (Pm.blackB W H s.data.toList) (Qm.it (fB W H s pol draws) m s0) = true → T (Qm.codeS (Qm.it (fB W H s pol draws) m s0)).toNat = true) : WalkOut g W H s pol draws spk R s0 w v w' := by
  have st := Qm.step (Qm.pic_of W H s.data.toList hw hh) (Qm.jnB W H s.data.toList pol draws.data.toList)
  refine ⟨m, T, (h.own.kept (grown_of_below hb none) (by cases v.ownBlock <;> simp)).mono (by omega), gb_trans h.grown (grown_of_below hb _), h.wk.on hb, h.tkn.on hb h.wk.2.2.2.2.2.2, by have := h.few; omega, ?_⟩
  rcases Nat.eq_zero_or_pos m with h0 | h0
  · subst h0
    refine .inl ⟨rfl, ?_, fun t ht => ?_⟩
    · cases hs : Qm.isS (Pm.blackB W H s.data.toList) s0 with
      | false => exact .inl rfl
      | true =>
        rcases (h.rep s0 hs).1 (he hs) with h1 | ⟨i, hi, _⟩
        · exact .inr h1
        · omega
    · rw [h.rep t ht]
      exact ⟨fun h => h.elim id (fun ⟨i, hi, _⟩ => by omega), .inl⟩
  · obtain ⟨s1, n1⟩ := h.side h0
    have hi := st.its s1 m
    refine .inr ⟨h0, n1, h.run.done st hR s1 n1 h0 ?_, h.rep.whole⟩
    rcases (h.rep _ hi).1 (he hi) with h1 | ⟨i, h1, h2⟩
    · exact .inl h1
    · exact .inr ⟨i, h1, h2⟩

theorem Wlk.start (g : Nat) (x y d : Nat) (t : TypeId) (hW : Wk g W H s pol draws spk w) (hK : Tkn g T w) (hr : Qm.Rep (Pm.blackB W H s.data.toList) (fB W H s pol draws) T R) :
    Wlk g W H s pol draws spk R ((x : Int), (y : Int), d) w 0 T (.slice none 0 0) (w.alloc (.cells #[.int .i64 x, .int .i64 y, .int .i64 d] t)) where
  box := ⟨by simp [Qm.it], by simp [Qm.it], by simp [Qm.it], by simp, by simp, by simp, by simp⟩
  own := World.ownsRow_nil _ _ _ _
  grown := World.grownBy_alloc _ _ _
  wk := hW.on ((Below.refl _ _).alloc (Nat.le_refl _) _)
  tkn := hK.on ((Below.refl _ _).alloc (Nat.le_refl _) _) hW.2.2.2.2.2.2
  rep := hr.zero _
  run := Qm.Run.zero _
  side h := absurd h (by omega)
  few := by have := Qm.cntF_le T 4356; omega

/-- A step more: the mark is set (w1), the point written behind the others (w3), the next side reckoned (w4) and laid into the box. -/
theorem Wlk.succ (h : Wlk g W H s pol draws spk R s0 w m T v wr) {w1 w3 w4 : World} {v' : Value} {o : Obj} (hw : W ≤ 32) (hh : H ≤ 32) (hg : g < w.heap.size)
    (hs : Qm.isS (Pm.blackB W H s.data.toList) (Qm.it (fB W H s pol draws) m s0) = true) (hT : T (Qm.codeS (Qm.it (fB W H s pol draws) m s0)).toNat = false)
    (g1 : wr.grownBy w1 (some g)) (k1 : Wk g W H s pol draws spk w1) (t1 : Tkn g (Qm.mark T (Qm.codeS (Qm.it (fB W H s pol draws) m s0)).toNat) w1)
    (o3 : w3.ownsRow (w.heap.size + 1) 83 2 v' (m + 1) (Qm.ptsV (Qm.ptsOf (fB W H s pol draws) (s0, m)) ++ Qm.ptV (Qm.fromP (Qm.it (fB W H s pol draws) m s0)))) (g3 : (w1.alloc o).grownBy w3 v.ownBlock) (b4 : Below w3.heap.size w3 w4) :
    Wlk g W H s pol draws spk R s0 w (m + 1) (Qm.mark T (Qm.codeS (Qm.it (fB W H s pol draws) m s0)).toNat) v'
      (((w4.setCell ⟨w.heap.size, 0, none⟩ (.int .i64 (Qm.it (fB W H s pol draws) (m + 1) s0).1)).setCell ⟨w.heap.size, 1, none⟩ (.int .i64 (Qm.it (fB W H s pol draws) (m + 1) s0).2.1)).setCell ⟨w.heap.size, 2, none⟩ (.int .i64 ((Qm.it (fB W H s pol draws) (m + 1) s0).2.2 : Nat))) := by
  have hp := Qm.pic_of W H s.data.toList hw hh
  have hfree := h.rep.free hs hT
  have z := h.box.2.2.2.2.2.2
  have z1 := g1.size
  have b13 : Below (w.heap.size + 1) w1 w3 := ((Below.refl _ _).alloc (by omega) _).grown g3 (by simp; omega) (fun k hk => (h.own.lt k hk).1)
  have z3 := b13.size
  have b14 : Below (w.heap.size + 1) w1 w4 := b13.trans (b4.mono (by omega))
  have b15 : ∀ a b c, Below w.heap.size w1 (((w4.setCell ⟨w.heap.size, 0, none⟩ a).setCell ⟨w.heap.size, 1, none⟩ b).setCell ⟨w.heap.size, 2, none⟩ c) := fun a b c =>
    (((b14.mono (by omega)).setCell (by simp) _).setCell (by simp) _).setCell (by simp) _
  have bx : BoxS w.heap.size (Qm.it (fB W H s pol draws) m s0) w4 := (h.box.of (g1.block _ z (by simp; omega)) g1.size).of (b14.block _ (by omega)) b14.size
  refine ⟨bx.set _, ?_, gb_below (gb_trans h.grown g1) (b15 _ _ _) (Nat.le_refl _), k1.onB (b15 _ _ _) hg, t1.on (b15 _ _ _) hg, h.rep.succ hp hs, h.run.succ hfree.2, fun _ => ?_, ?_⟩
  · rw [Qm.ptsOf_succ, Qm.ptsV_snoc]
    have o4 := o3.kept (grown_of_below b4 none) (by cases v'.ownBlock <;> simp)
    exact ownsRow_setCell_below (ownsRow_setCell_below (ownsRow_setCell_below o4 (by simp) _) (by simp) _) (by simp) _
  · rcases Nat.eq_zero_or_pos m with h0 | h0
    · subst h0; exact ⟨hs, hfree.1⟩
    · exact h.side h0
  · have c4 := Qm.code_in hp hs
    have := Qm.cntF_mark T (Qm.codeS (Qm.it (fB W H s pol draws) m s0)).toNat hT 4356 (by omega)
    have := h.few
    omega
end
end Go.Proofs.YtljfiefobnncaaaDoor

/- walk, walkFrom of package cycles. -/
namespace Go.Proofs.YtljfiefobnncaaaDoor
open Go.RowKit

theorem side_nat {W H : Nat} {s : ByteArray} (hw : W ≤ 32) (hh : H ≤ 32) {t : Qm.Sd} (hs : Qm.isS (Pm.blackB W H s.data.toList) t = true) : ∃ x y d : Nat, t = ((x : Int), (y : Int), d) ∧ x ≤ 32 ∧ y ≤ 32 ∧ d < 4 := by
  have hb := Qm.side_in (Qm.pic_of W H s.data.toList hw hh) hs
  have hd := Qm.isS_lt hs
  obtain ⟨x, y, d⟩ := t
  dsimp only at hb hd
  refine ⟨x.toNat, y.toNat, d, ?_, by omega, by omega, hd⟩
  rw [show ((x.toNat : Nat) : Int) = x from by omega, show ((y.toNat : Nat) : Int) = y from by omega]

theorem it_nat {W H : Nat} {s : ByteArray} {pol : Nat} {draws : ByteArray} (hw : W ≤ 32) (hh : H ≤ 32) (x y d : Nat) (hx : x ≤ 32) (hy : y ≤ 32) (hd : d < 4) (m : Nat)
    (hs : 0 < m → Qm.isS (Pm.blackB W H s.data.toList) ((x : Int), (y : Int), d) = true) :
    ∃ x' y' d' : Nat, Qm.it (fB W H s pol draws) m ((x : Int), (y : Int), d) = ((x' : Int), (y' : Int), d') ∧ x' ≤ 32 ∧ y' ≤ 32 ∧ d' < 4 := by
  rcases Nat.eq_zero_or_pos m with h0 | h0
  · subst h0; exact ⟨x, y, d, rfl, hx, hy, hd⟩
  · exact side_nat hw hh ((Qm.step (Qm.pic_of W H s.data.toList hw hh) (Qm.jnB W H s.data.toList pol draws.data.toList)).its (hs h0) m)

theorem en_nat {W H : Nat} {s : ByteArray} {pol : Nat} {draws : ByteArray} (hw : W ≤ 32) (hh : H ≤ 32) {t : Qm.Sd} (hs : Qm.isS (Pm.blackB W H s.data.toList) t = true) :
    ∃ px py : Nat, Qm.en t = ((px : Int), (py : Int)) ∧ px ≤ 32 ∧ py ≤ 32 ∧ fB W H s pol draws t = ((px : Int), (py : Int), Qm.nxD (Pm.blackB W H s.data.toList) (Qm.jnB W H s.data.toList pol draws.data.toList) ((px : Int), (py : Int)) t.2.2) := by
  obtain ⟨px, py, d, e, h1, h2, _⟩ := side_nat hw hh (Qm.nx_isS (jn := Qm.jnB W H s.data.toList pol draws.data.toList) hs)
  have e1 : Qm.en t = ((px : Int), (py : Int)) := Prod.ext (congrArg (fun s : Qm.Sd => s.1) e) (congrArg (fun s : Qm.Sd => s.2.1) e)
  exact ⟨px, py, e1, h1, h2, by rw [← e1]; show (_, _, _) = (_, _, _); rw [e1]⟩

theorem code_nat (x y d : Nat) : (Qm.codeS ((x : Int), (y : Int), d)).toNat = (y * 33 + x) * 4 + d := by simp only [Qm.codeS, Qm.key]; omega

theorem Wlk.kept {g W H : Nat} {s : ByteArray} {pol : Nat} {draws : ByteArray} {spk : Int} {R : List (Qm.Sd × Nat)} {s0 : Qm.Sd} {w : World} {m : Nat} {T : Nat → Bool} {v : Value} {wr w1 : World} (h : Wlk g W H s pol draws spk R s0 w m T v wr) (hg : g < w.heap.size) (g1 : wr.grownBy w1 (some g)) : w1.ownsRow (w.heap.size + 1) 83 2 v m (Qm.ptsV (Qm.ptsOf (fB W H s pol draws) (s0, m))) := by
  refine h.own.kept g1 ?_
  cases hv : v.ownBlock with
  | none => exact .inl rfl
  | some k => right; intro e; injection e with e; have := h.own.lt k hv; omega

end Go.Proofs.YtljfiefobnncaaaDoor