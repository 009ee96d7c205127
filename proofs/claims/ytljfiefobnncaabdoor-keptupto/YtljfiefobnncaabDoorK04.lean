import Derived.Test.YtljfiefobnncaabDoorK03
import Derived.Test.YtljfiefobnncaabDoorK02
import Derived.Deep.Onto

/- take of package cycles. -/
namespace Go.Proofs.YtljfiefobnncaabDoor
open Go.RowKit
attribute [local go_sem ↓] Go.wp_at_zero Go.wp_at_succ

/-- The walker's marks. -/
def Tkn (g : Nat) (T : Nat → Bool) (w : World) : Prop := ∀ n, n < 4356 → w.cell? ⟨g, 6 + n, none⟩ = some (.bool (T n)) ∧ w.frozen? ⟨g, 6 + n, none⟩ = false
theorem Tkn.on {g : Nat} {T : Nat → Bool} {w w' : World} {B : Nat} (h : Tkn g T w) (hb : Below B w w') (hg : g < B) : Tkn g T w' := fun n hn =>
  ⟨(hb.cell (p := ⟨g, 6 + n, none⟩) hg).trans (h n hn).1, (hb.frozen (p := ⟨g, 6 + n, none⟩) hg).trans (h n hn).2⟩

theorem grown_of_below {w w' : World} (h : Below w.heap.size w w') (r : Option Nat) : w.grownBy w' r := ⟨h.os, h.tape, h.output, h.size, fun k hk _ => h.block k hk⟩

theorem set_grown {w w2 : World} (h : Below w.heap.size w w2) (a : Addr) {v : Value} : w.grownBy (w2.setCell a v) (some a.block) :=
  ⟨h.os, h.tape, h.output, by rw [World.size_setCell]; exact h.size, fun k hk hne => (Below.heap_setCell _ _ _ _ (fun e => hne (by rw [e]))).trans (h.block k hk)⟩
theorem set_wk {g W H : Nat} {s : ByteArray} {pol : Nat} {draws : ByteArray} {spk : Int} {w : World} {c : Nat} {v : Value} (h : Wk g W H s pol draws spk w) : Wk g W H s pol draws spk (w.setCell ⟨g, 6 + c, none⟩ v) := by
  obtain ⟨c0, c1, c2, c3, c4, c5, hz⟩ := h
  have C : ∀ j, j < 6 → (w.setCell ⟨g, 6 + c, none⟩ v).cell? ⟨g, j, none⟩ = w.cell? ⟨g, j, none⟩ := fun j hj => World.cell?_setCell_other _ _ _ _ (by intro e; injection e with _ e2 _; omega)
  exact ⟨(C 0 (by omega)).trans c0, (C 1 (by omega)).trans c1, (C 2 (by omega)).trans c2, (C 3 (by omega)).trans c3, (C 4 (by omega)).trans c4, (C 5 (by omega)).trans c5, by rw [World.size_setCell]; exact hz⟩
theorem set_tkn {g : Nat} {T : Nat → Bool} {w : World} (h : Tkn g T w) (c : Nat) : Tkn g (Qm.mark T c) (w.setCell ⟨g, 6 + c, none⟩ (.bool true)) := by
  intro n hn
  refine ⟨?_, by simpa using (h n hn).2⟩
  by_cases e : n = c
  · subst e
    rw [World.cell?_setCell_same _ _ _ (h n hn).1]
    simp [Qm.mark]
  · rw [World.cell?_setCell_other _ _ _ _ (by intro e2; injection e2 with _ e3 _; omega), (h n hn).1]
    simp [Qm.mark, e]

set_option maxRecDepth 4000 in
set_option maxHeartbeats 2000000 in
theorem take_no (g W H : Nat) (s : ByteArray) (pol : Nat) (draws : ByteArray) (spk : Int) (T : Nat → Bool) (x y d c : Nat) (hd : d < 4) (hx : x ≤ 32) (hy : y ≤ 32) (hc : c = (y * 33 + x) * 4 + d) (hT : T c = true) (w : World) (hW : Wk g W H s pol draws spk w) (hK : Tkn g T w) :
    Calls Tryd.prog 44 #[.pointer (some ⟨g, 0, none⟩), .agg #[.int .i64 x, .int .i64 y, .int .i64 d]] w fun e w' => e = .returned (.bool false) ∧ Below w.heap.size w w' := by
  have c4 : c < 4356 := by omega
  have ec : ((y : Int) * 33 + (x : Int)) * 4 + (d : Int) = (c : Nat) := by omega
  have hcell := (hK c c4).1
  rw [hT] at hcell
  have HK := hid hK
  clear hK hc
  have hz := hW.2.2.2.2.2.2
  have c0' : (0 : Int) ≤ (c : Nat) := by omega
  have c1' : ((c : Nat) : Int) < 4356 := by omega
  go_enter Tryd.func44, Tryd.ntmps44
  go_wp2_with fail
  have d0 : decide (((c : Nat) : Int) < 0) = false := by simp
  have d1 : decide ((4356 : Int) ≤ ((c : Nat) : Int)) = false := by simp; omega
  go_quiet (fail)
  go_wp2
  go_ret
  exact ⟨rfl, ((Below.refl _ _).alloc (Nat.le_refl _) _).trans ⟨rfl, rfl, rfl, Nat.le_refl _, fun _ _ => rfl⟩⟩

set_option maxRecDepth 4000 in
set_option maxHeartbeats 2000000 in
theorem take_none (g W H : Nat) (s : ByteArray) (pol : Nat) (draws : ByteArray) (spk : Int) (T : Nat → Bool) (x y d c : Nat) (hd : d < 4) (hx : x ≤ 32) (hy : y ≤ 32) (hc : c = (y * 33 + x) * 4 + d) (hT : T c = false) (w : World) (hW : Wk g W H s pol draws spk w) (hK : Tkn g T w) (hw2 : W ≤ 32) (hh2 : H ≤ 32) (hl : s.size = W * H) (hS : Qm.isS (Pm.blackB W H s.data.toList) (x, y, d) = false) :
    Calls Tryd.prog 44 #[.pointer (some ⟨g, 0, none⟩), .agg #[.int .i64 x, .int .i64 y, .int .i64 d]] w fun e w' => e = .returned (.bool false) ∧ Below w.heap.size w w' := by
  have HL := hid hl
  have c4 : c < 4356 := by omega
  have ec : ((y : Int) * 33 + (x : Int)) * 4 + (d : Int) = (c : Nat) := by omega
  have hcell := (hK c c4).1
  rw [hT] at hcell
  have HK := hid hK
  clear hK hc hl
  have HW := hid hW
  obtain ⟨k0, k1, k2, k3, k4, k5, hz⟩ := hW
  have c0' : (0 : Int) ≤ (c : Nat) := by omega
  have c1' : ((c : Nat) : Int) < 4356 := by omega
  go_enter Tryd.func44, Tryd.ntmps44
  go_wp2_with fail
  have d0 : decide (((c : Nat) : Int) < 0) = false := by simp
  have d1 : decide ((4356 : Int) ≤ ((c : Nat) : Int)) = false := by simp; omega
  go_region_held3 (fun w' => w'.cell? ⟨g, 6 + c, none⟩ = some (.bool false) ∧ w'.cell? ⟨g, 0, none⟩ = some (.int .i64 W) ∧ w'.cell? ⟨g, 1, none⟩ = some (.int .i64 H) ∧ w'.cell? ⟨g, 2, none⟩ = some (.string s) ∧ w'.cell? ⟨w.heap.size, 0, none⟩ = some (.int .i64 x) ∧ w'.cell? ⟨w.heap.size, 1, none⟩ = some (.int .i64 y) ∧ w'.cell? ⟨w.heap.size, 2, none⟩ = some (.int .i64 d))
    (first | (simp [go_sem, *]; done) | (go_keep))
    ((go_at_call 51; refine (cIsSide_any W H s x y d hd (by omega) (by omega) _ hw2 hh2 HL.out).mono ?_; rintro e w2 ⟨rfl, hb⟩; have HB := hid hb; obtain ⟨hcc, hff⟩ := bcell hb; clear hb hff; rw [hS]))
  go_wp2
  go_ret
  exact ⟨rfl, Below.trans (b := _) (by go_grown) (HB.out.mono (by simp))⟩

set_option maxRecDepth 4000 in
set_option maxHeartbeats 2000000 in
theorem take_yes (g W H : Nat) (s : ByteArray) (pol : Nat) (draws : ByteArray) (spk : Int) (T : Nat → Bool) (x y d c : Nat) (hd : d < 4) (hx : x ≤ 32) (hy : y ≤ 32) (hc : c = (y * 33 + x) * 4 + d) (hT : T c = false) (w : World) (hW : Wk g W H s pol draws spk w) (hK : Tkn g T w) (hw2 : W ≤ 32) (hh2 : H ≤ 32) (hl : s.size = W * H) (hS : Qm.isS (Pm.blackB W H s.data.toList) (x, y, d) = true) :
    Calls Tryd.prog 44 #[.pointer (some ⟨g, 0, none⟩), .agg #[.int .i64 x, .int .i64 y, .int .i64 d]] w fun e w' => e = .returned (.bool true) ∧ w.grownBy w' (some g) ∧ Wk g W H s pol draws spk w' ∧ Tkn g (Qm.mark T c) w' := by
  have HL := hid hl
  have c4 : c < 4356 := by omega
  have ec : ((y : Int) * 33 + (x : Int)) * 4 + (d : Int) = (c : Nat) := by omega
  have hcell := (hK c c4).1
  have hfro := (hK c c4).2
  rw [hT] at hcell
  have HK := hid hK
  clear hK hc hl
  have HW := hid hW
  obtain ⟨k0, k1, k2, k3, k4, k5, hz⟩ := hW
  have c0' : (0 : Int) ≤ (c : Nat) := by omega
  have c1' : ((c : Nat) : Int) < 4356 := by omega
  go_enter Tryd.func44, Tryd.ntmps44
  go_wp2_with fail
  have d0 : decide (((c : Nat) : Int) < 0) = false := by simp
  have d1 : decide ((4356 : Int) ≤ ((c : Nat) : Int)) = false := by simp; omega
  go_region_held3 (fun w' => w'.cell? ⟨g, 6 + c, none⟩ = some (.bool false) ∧ w'.cell? ⟨g, 0, none⟩ = some (.int .i64 W) ∧ w'.cell? ⟨g, 1, none⟩ = some (.int .i64 H) ∧ w'.cell? ⟨g, 2, none⟩ = some (.string s) ∧ w'.cell? ⟨w.heap.size, 0, none⟩ = some (.int .i64 x) ∧ w'.cell? ⟨w.heap.size, 1, none⟩ = some (.int .i64 y) ∧ w'.cell? ⟨w.heap.size, 2, none⟩ = some (.int .i64 d))
    (first | (simp [go_sem, *]; done) | (go_keep))
    ((go_at_call 51; refine (cIsSide_any W H s x y d hd (by omega) (by omega) _ hw2 hh2 HL.out).mono ?_; rintro e w2 ⟨rfl, hb⟩; have HB := hid hb; obtain ⟨hcc, hff⟩ := bcell hb; clear hb; rw [hS]))
  have HB1 := hid (Below.trans (b := _) (show Below w.heap.size w _ by go_grown) (HB.out.mono (by simp)))
  clear HB
  have hcell2 := (HB1.out.cell (p := ⟨g, 6 + c, none⟩) hz).trans hcell
  have hfro2 := (HB1.out.frozen (p := ⟨g, 6 + c, none⟩) hz).trans hfro
  clear hcc hff
  go_wp2
  go_ret
  exact ⟨rfl, set_grown HB1.out _, set_wk (HW.out.on HB1.out), set_tkn (HK.out.on HB1.out hz) c⟩
end Go.Proofs.YtljfiefobnncaabDoor

/- walk of package cycles. -/
namespace Go.Proofs.YtljfiefobnncaabDoor
open Go.RowKit

theorem gb_trans {a b c : World} {r : Option Nat} (h : a.grownBy b r) (k : b.grownBy c r) : a.grownBy c r :=
  ⟨k.os.trans h.os, k.tape.trans h.tape, k.output.trans h.output, Nat.le_trans h.size k.size, fun i hi hn => (k.block i (Nat.lt_of_lt_of_le hi h.size) hn).trans (h.block i hi hn)⟩
/-- Behind a step that turns nothing below B. -/
theorem gb_below {a b c : World} {r : Option Nat} {B : Nat} (h : a.grownBy b r) (k : Below B b c) (hB : a.heap.size ≤ B) : a.grownBy c r :=
  ⟨k.os.trans h.os, k.tape.trans h.tape, k.output.trans h.output, Nat.le_trans h.size k.size, fun i hi hn => (k.block i (Nat.lt_of_lt_of_le hi hB)).trans (h.block i hi hn)⟩
theorem gb_below_of {a b : World} {g B : Nat} (h : a.grownBy b (some g)) (hB : B ≤ g) (hz : B ≤ a.heap.size) : Below B a b :=
  ⟨h.os, h.tape, h.output, h.size, fun k hk => h.block k (by omega) (by simp; omega)⟩
theorem Wk.onB {g W H : Nat} {s : ByteArray} {pol : Nat} {draws : ByteArray} {spk : Int} {w w' : World} {B : Nat} (h : Wk g W H s pol draws spk w) (hb : Below B w w') (hg : g < B) : Wk g W H s pol draws spk w' := by
  obtain ⟨c0, c1, c2, c3, c4, c5, hz⟩ := h
  exact ⟨(hb.cell (p := ⟨g, 0, none⟩) hg).trans c0, (hb.cell (p := ⟨g, 1, none⟩) hg).trans c1, (hb.cell (p := ⟨g, 2, none⟩) hg).trans c2, (hb.cell (p := ⟨g, 3, none⟩) hg).trans c3, (hb.cell (p := ⟨g, 4, none⟩) hg).trans c4, (hb.cell (p := ⟨g, 5, none⟩) hg).trans c5, Nat.lt_of_lt_of_le hz hb.size⟩

/-- How many marks are not set, in the world. -/
def unt (g : Nat) (w : World) : Nat := Qm.cntF (fun n => match w.cell? ⟨g, 6 + n, none⟩ with | some (.bool b) => b | _ => true) 4356
theorem cntF_congr (T T' : Nat → Bool) : ∀ n, (∀ i, i < n → T i = T' i) → Qm.cntF T n = Qm.cntF T' n
  | 0, _ => rfl
  | n + 1, h => by unfold Qm.cntF; rw [cntF_congr T T' n (fun i hi => h i (by omega)), h n (by omega)]
theorem unt_of {g : Nat} {T : Nat → Bool} {w : World} (h : Tkn g T w) : unt g w = Qm.cntF T 4356 := cntF_congr _ _ _ fun i hi => by rw [(h i hi).1]

theorem infoPoint : (Tryd.prog.info? 46).map (fun i => (i.zero, i.size, i.bytes)) = some (some (.agg #[.int .i64 0, .int .i64 0]), 2, 16) := by kernel_rfl

/-- A side's box at block B. -/
def BoxS (B : Nat) (t : Qm.Sd) (w : World) : Prop :=
  w.cell? ⟨B, 0, none⟩ = some (.int .i64 t.1) ∧ w.cell? ⟨B, 1, none⟩ = some (.int .i64 t.2.1) ∧ w.cell? ⟨B, 2, none⟩ = some (.int .i64 (t.2.2 : Nat)) ∧ w.frozen? ⟨B, 0, none⟩ = false ∧ w.frozen? ⟨B, 1, none⟩ = false ∧ w.frozen? ⟨B, 2, none⟩ = false ∧ B < w.heap.size
theorem BoxS.of {B : Nat} {t : Qm.Sd} {w w' : World} (h : BoxS B t w) (hb : w'.heap[B]? = w.heap[B]?) (hz : w.heap.size ≤ w'.heap.size) : BoxS B t w' := by
  obtain ⟨a, b, c, d, e, f, z⟩ := h
  exact ⟨(World.cell?_of_block (a := ⟨B, 0, none⟩) hb).trans a, (World.cell?_of_block (a := ⟨B, 1, none⟩) hb).trans b, (World.cell?_of_block (a := ⟨B, 2, none⟩) hb).trans c, (World.frozen?_of_block (a := ⟨B, 0, none⟩) hb).trans d, (World.frozen?_of_block (a := ⟨B, 1, none⟩) hb).trans e, (World.frozen?_of_block (a := ⟨B, 2, none⟩) hb).trans f, Nat.lt_of_lt_of_le z hz⟩
theorem BoxS.set {B : Nat} {t : Qm.Sd} {w : World} (h : BoxS B t w) (u : Qm.Sd) : BoxS B u (((w.setCell ⟨B, 0, none⟩ (.int .i64 u.1)).setCell ⟨B, 1, none⟩ (.int .i64 u.2.1)).setCell ⟨B, 2, none⟩ (.int .i64 (u.2.2 : Nat))) := by
  obtain ⟨a, b, c, d, e, f, z⟩ := h
  refine ⟨?_, ?_, ?_, by simpa using d, by simpa using e, by simpa using f, by simpa using z⟩
  · rw [World.cell?_setCell_other _ _ _ _ (by simp), World.cell?_setCell_other _ _ _ _ (by simp), World.cell?_setCell_same _ _ _ a]
  · rw [World.cell?_setCell_other _ _ _ _ (by simp)]
    exact World.cell?_setCell_same _ _ _ ((World.cell?_setCell_other _ _ _ _ (by simp)).trans b)
  · exact World.cell?_setCell_same _ _ _ ((World.cell?_setCell_other _ _ _ _ (by simp)).trans ((World.cell?_setCell_other _ _ _ _ (by simp)).trans c))

/-- The step of a bitmap with its policy. -/
abbrev fB (W H : Nat) (s : ByteArray) (pol : Nat) (draws : ByteArray) : Qm.Sd → Qm.Sd := Qm.nx (Pm.blackB W H s.data.toList) (Qm.jnB W H s.data.toList pol draws.data.toList)
abbrev bB (W H : Nat) (s : ByteArray) : Qm.Sd → Prop := fun t => Qm.isS (Pm.blackB W H s.data.toList) t = true

/-- What holds in a walk behind m steps. -/
structure Wlk (g W H : Nat) (s : ByteArray) (pol : Nat) (draws : ByteArray) (spk : Int) (R : List (Qm.Sd × Nat)) (s0 : Qm.Sd) (w : World) (m : Nat) (T : Nat → Bool) (v : Value) (wr : World) : Prop where
  box : BoxS w.heap.size (Qm.it (fB W H s pol draws) m s0) wr
  own : wr.ownsRow (w.heap.size + 1) 46 2 v m (Qm.ptsV (Qm.ptsOf (fB W H s pol draws) (s0, m)))
  grown : w.grownBy wr (some g)
  wk : Wk g W H s pol draws spk wr
  tkn : Tkn g T wr
  rep : Qm.RepM (Pm.blackB W H s.data.toList) (fB W H s pol draws) T R s0 m
  run : Qm.Run (fB W H s pol draws) s0 m
  side : 0 < m → Qm.isS (Pm.blackB W H s.data.toList) s0 = true ∧ ¬ Qm.Tk (fB W H s pol draws) R s0
  few : m + Qm.cntF T 4356 ≤ 4356
end Go.Proofs.YtljfiefobnncaabDoor

/- walk of package cycles, walked. -/
namespace Go.Proofs.YtljfiefobnncaabDoor
open Go.RowKit

section
variable {g W H : Nat} {s : ByteArray} {pol : Nat} {draws : ByteArray} {spk : Int} {R : List (Qm.Sd × Nat)} {s0 : Qm.Sd} {w : World} {m : Nat} {T : Nat → Bool} {v : Value} {wr : World}

/-- What comes out of a walk. -/
def WalkOut (g W H : Nat) (s : ByteArray) (pol : Nat) (draws : ByteArray) (spk : Int) (R : List (Qm.Sd × Nat)) (s0 : Qm.Sd) (w : World) (v : Value) (w' : World) : Prop :=
  ∃ (n : Nat) (T : Nat → Bool), w'.ownsRow w.heap.size 46 2 v n (Qm.ptsV (Qm.ptsOf (fB W H s pol draws) (s0, n))) ∧ w.grownBy w' (some g) ∧ Wk g W H s pol draws spk w' ∧ Tkn g T w' ∧ n ≤ 4356 ∧
  ((n = 0 ∧ (Qm.isS (Pm.blackB W H s.data.toList) s0 = false ∨ Qm.Tk (fB W H s pol draws) R s0) ∧ Qm.Rep (Pm.blackB W H s.data.toList) (fB W H s pol draws) T R) ∨
   (0 < n ∧ ¬ Qm.Tk (fB W H s pol draws) R s0 ∧ Qm.Cyc (fB W H s pol draws) (bB W H s) s0 n ∧ Qm.Rep (Pm.blackB W H s.data.toList) (fB W H s pol draws) T (R ++ [(s0, n)])))

theorem Wlk.out (h : Wlk g W H s pol draws spk R s0 w m T v wr) {w' : World} (hb : Below wr.heap.size wr w') (hw : W ≤ 32) (hh : H ≤ 32) (hR : ∀ c ∈ R, Qm.Cyc (fB W H s pol draws) (bB W H s) c.1 c.2)
    (he : Qm.isS (Pm.blackB W H s.data.toList) (Qm.it (fB W H s pol draws) m s0) = true → T (Qm.codeS (Qm.it (fB W H s pol draws) m s0)).toNat = true) : WalkOut g W H s pol draws spk R s0 w v w' := by
  have st := Qm.step (Qm.pic_of W H s.data.toList hw hh) (Qm.jnB W H s.data.toList pol draws.data.toList)
  refine ⟨m, T, (h.own.kept (grown_of_below hb none) (by cases v.ownBlock <;> simp)).mono (by omega), gb_trans h.grown (grown_of_below hb _), h.wk.on hb, h.tkn.on hb h.wk.2.2.2.2.2.2, by have := h.few; omega, ?_⟩
  rcases Nat.eq_zero_or_pos m with h0 | h0
  · subst h0
    refine .inl ⟨rfl, ?_, fun t ht => ?_⟩
    · cases hs : Qm.isS (Pm.blackB W H s.data.toList) s0 with
      | false => exact .inl rfl
      | true =>
        rcases (h.rep s0 hs).1 (he hs) with h1 | ⟨i, hi, _⟩
        · exact .inr h1
        · omega
    · rw [h.rep t ht]
      exact ⟨fun h => h.elim id (fun ⟨i, hi, _⟩ => by omega), .inl⟩
  · obtain ⟨s1, n1⟩ := h.side h0
    have hi := st.its s1 m
    refine .inr ⟨h0, n1, h.run.done st hR s1 n1 h0 ?_, h.rep.whole⟩
    rcases (h.rep _ hi).1 (he hi) with h1 | ⟨i, h1, h2⟩
    · exact .inl h1
    · exact .inr ⟨i, h1, h2⟩

theorem Wlk.start (g : Nat) (x y d : Nat) (t : TypeId) (hW : Wk g W H s pol draws spk w) (hK : Tkn g T w) (hr : Qm.Rep (Pm.blackB W H s.data.toList) (fB W H s pol draws) T R) :
    Wlk g W H s pol draws spk R ((x : Int), (y : Int), d) w 0 T (.slice none 0 0) (w.alloc (.cells #[.int .i64 x, .int .i64 y, .int .i64 d] t)) where
  box := ⟨by simp [Qm.it], by simp [Qm.it], by simp [Qm.it], by simp, by simp, by simp, by simp⟩
  own := World.ownsRow_nil _ _ _ _
  grown := World.grownBy_alloc _ _ _
  wk := hW.on ((Below.refl _ _).alloc (Nat.le_refl _) _)
  tkn := hK.on ((Below.refl _ _).alloc (Nat.le_refl _) _) hW.2.2.2.2.2.2
  rep := hr.zero _
  run := Qm.Run.zero _
  side h := absurd h (by omega)
  few := by have := Qm.cntF_le T 4356; omega

/-- A step more: the mark is set (w1), the point written behind the others (w3), the next side reckoned (w4) and laid into the box. -/
theorem Wlk.succ (h : Wlk g W H s pol draws spk R s0 w m T v wr) {w1 w3 w4 : World} {v' : Value} {o : Obj} (hw : W ≤ 32) (hh : H ≤ 32) (hg : g < w.heap.size)
    (hs : Qm.isS (Pm.blackB W H s.data.toList) (Qm.it (fB W H s pol draws) m s0) = true) (hT : T (Qm.codeS (Qm.it (fB W H s pol draws) m s0)).toNat = false)
    (g1 : wr.grownBy w1 (some g)) (k1 : Wk g W H s pol draws spk w1) (t1 : Tkn g (Qm.mark T (Qm.codeS (Qm.it (fB W H s pol draws) m s0)).toNat) w1)
    (o3 : w3.ownsRow (w.heap.size + 1) 46 2 v' (m + 1) (Qm.ptsV (Qm.ptsOf (fB W H s pol draws) (s0, m)) ++ Qm.ptV (Qm.fromP (Qm.it (fB W H s pol draws) m s0)))) (g3 : (w1.alloc o).grownBy w3 v.ownBlock) (b4 : Below w3.heap.size w3 w4) :
    Wlk g W H s pol draws spk R s0 w (m + 1) (Qm.mark T (Qm.codeS (Qm.it (fB W H s pol draws) m s0)).toNat) v'
      (((w4.setCell ⟨w.heap.size, 0, none⟩ (.int .i64 (Qm.it (fB W H s pol draws) (m + 1) s0).1)).setCell ⟨w.heap.size, 1, none⟩ (.int .i64 (Qm.it (fB W H s pol draws) (m + 1) s0).2.1)).setCell ⟨w.heap.size, 2, none⟩ (.int .i64 ((Qm.it (fB W H s pol draws) (m + 1) s0).2.2 : Nat))) := by
  have hp := Qm.pic_of W H s.data.toList hw hh
  have hfree := h.rep.free hs hT
  have z := h.box.2.2.2.2.2.2
  have z1 := g1.size
  have b13 : Below (w.heap.size + 1) w1 w3 := ((Below.refl _ _).alloc (by omega) _).grown g3 (by simp; omega) (fun k hk => (h.own.lt k hk).1)
  have z3 := b13.size
  have b14 : Below (w.heap.size + 1) w1 w4 := b13.trans (b4.mono (by omega))
  have b15 : ∀ a b c, Below w.heap.size w1 (((w4.setCell ⟨w.heap.size, 0, none⟩ a).setCell ⟨w.heap.size, 1, none⟩ b).setCell ⟨w.heap.size, 2, none⟩ c) := fun a b c =>
    (((b14.mono (by omega)).setCell (by simp) _).setCell (by simp) _).setCell (by simp) _
  have bx : BoxS w.heap.size (Qm.it (fB W H s pol draws) m s0) w4 := (h.box.of (g1.block _ z (by simp; omega)) g1.size).of (b14.block _ (by omega)) b14.size
  refine ⟨bx.set _, ?_, gb_below (gb_trans h.grown g1) (b15 _ _ _) (Nat.le_refl _), k1.onB (b15 _ _ _) hg, t1.on (b15 _ _ _) hg, h.rep.succ hp hs, h.run.succ hfree.2, fun _ => ?_, ?_⟩
  · rw [Qm.ptsOf_succ, Qm.ptsV_snoc]
    have o4 := o3.kept (grown_of_below b4 none) (by cases v'.ownBlock <;> simp)
    exact ownsRow_setCell_below (ownsRow_setCell_below (ownsRow_setCell_below o4 (by simp) _) (by simp) _) (by simp) _
  · rcases Nat.eq_zero_or_pos m with h0 | h0
    · subst h0; exact ⟨hs, hfree.1⟩
    · exact h.side h0
  · have c4 := Qm.code_in hp hs
    have := Qm.cntF_mark T (Qm.codeS (Qm.it (fB W H s pol draws) m s0)).toNat hT 4356 (by omega)
    have := h.few
    omega
end
end Go.Proofs.YtljfiefobnncaabDoor

/- walk, walkFrom of package cycles. -/
namespace Go.Proofs.YtljfiefobnncaabDoor
open Go.RowKit

theorem side_nat {W H : Nat} {s : ByteArray} (hw : W ≤ 32) (hh : H ≤ 32) {t : Qm.Sd} (hs : Qm.isS (Pm.blackB W H s.data.toList) t = true) : ∃ x y d : Nat, t = ((x : Int), (y : Int), d) ∧ x ≤ 32 ∧ y ≤ 32 ∧ d < 4 := by
  have hb := Qm.side_in (Qm.pic_of W H s.data.toList hw hh) hs
  have hd := Qm.isS_lt hs
  obtain ⟨x, y, d⟩ := t
  dsimp only at hb hd
  refine ⟨x.toNat, y.toNat, d, ?_, by omega, by omega, hd⟩
  rw [show ((x.toNat : Nat) : Int) = x from by omega, show ((y.toNat : Nat) : Int) = y from by omega]

theorem it_nat {W H : Nat} {s : ByteArray} {pol : Nat} {draws : ByteArray} (hw : W ≤ 32) (hh : H ≤ 32) (x y d : Nat) (hx : x ≤ 32) (hy : y ≤ 32) (hd : d < 4) (m : Nat)
    (hs : 0 < m → Qm.isS (Pm.blackB W H s.data.toList) ((x : Int), (y : Int), d) = true) :
    ∃ x' y' d' : Nat, Qm.it (fB W H s pol draws) m ((x : Int), (y : Int), d) = ((x' : Int), (y' : Int), d') ∧ x' ≤ 32 ∧ y' ≤ 32 ∧ d' < 4 := by
  rcases Nat.eq_zero_or_pos m with h0 | h0
  · subst h0; exact ⟨x, y, d, rfl, hx, hy, hd⟩
  · exact side_nat hw hh ((Qm.step (Qm.pic_of W H s.data.toList hw hh) (Qm.jnB W H s.data.toList pol draws.data.toList)).its (hs h0) m)

theorem en_nat {W H : Nat} {s : ByteArray} {pol : Nat} {draws : ByteArray} (hw : W ≤ 32) (hh : H ≤ 32) {t : Qm.Sd} (hs : Qm.isS (Pm.blackB W H s.data.toList) t = true) :
    ∃ px py : Nat, Qm.en t = ((px : Int), (py : Int)) ∧ px ≤ 32 ∧ py ≤ 32 ∧ fB W H s pol draws t = ((px : Int), (py : Int), Qm.nxD (Pm.blackB W H s.data.toList) (Qm.jnB W H s.data.toList pol draws.data.toList) ((px : Int), (py : Int)) t.2.2) := by
  obtain ⟨px, py, d, e, h1, h2, _⟩ := side_nat hw hh (Qm.nx_isS (jn := Qm.jnB W H s.data.toList pol draws.data.toList) hs)
  have e1 : Qm.en t = ((px : Int), (py : Int)) := Prod.ext (congrArg (fun s : Qm.Sd => s.1) e) (congrArg (fun s : Qm.Sd => s.2.1) e)
  exact ⟨px, py, e1, h1, h2, by rw [← e1]; show (_, _, _) = (_, _, _); rw [e1]⟩

theorem code_nat (x y d : Nat) : (Qm.codeS ((x : Int), (y : Int), d)).toNat = (y * 33 + x) * 4 + d := by simp only [Qm.codeS, Qm.key]; omega

theorem Wlk.kept {g W H : Nat} {s : ByteArray} {pol : Nat} {draws : ByteArray} {spk : Int} {R : List (Qm.Sd × Nat)} {s0 : Qm.Sd} {w : World} {m : Nat} {T : Nat → Bool} {v : Value} {wr w1 : World} (h : Wlk g W H s pol draws spk R s0 w m T v wr) (hg : g < w.heap.size) (g1 : wr.grownBy w1 (some g)) : w1.ownsRow (w.heap.size + 1) 46 2 v m (Qm.ptsV (Qm.ptsOf (fB W H s pol draws) (s0, m))) := by
  refine h.own.kept g1 ?_
  cases hv : v.ownBlock with
  | none => exact .inl rfl
  | some k => right; intro e; injection e with e; have := h.own.lt k hv; omega

set_option maxRecDepth 4000 in
set_option maxHeartbeats 2000000 in
theorem walk_any (g W H : Nat) (s : ByteArray) (pol : Nat) (draws : ByteArray) (spk : Int) (R : List (Qm.Sd × Nat)) (T : Nat → Bool) (x y d : Nat) (hd : d < 4) (hx : x ≤ 32) (hy : y ≤ 32) (hp : pol ≤ 3) (w : World) (hW : Wk g W H s pol draws spk w) (hK : Tkn g T w) (hw2 : W ≤ 32) (hh2 : H ≤ 32) (hl : s.size = W * H)
    (hR : ∀ c ∈ R, Qm.Cyc (fB W H s pol draws) (bB W H s) c.1 c.2) (hr : Qm.Rep (Pm.blackB W H s.data.toList) (fB W H s pol draws) T R) :
    Calls Tryd.prog 39 #[.pointer (some ⟨g, 0, none⟩), .agg #[.int .i64 x, .int .i64 y, .int .i64 d]] w fun e w' => ∃ v, e = .returned v ∧ WalkOut g W H s pol draws spk R ((x : Int), (y : Int), d) w v w' := by
  obtain ⟨i0, hi, hz0, hz1, hz2⟩ := info_parts infoPoint
  have HL := hid hl
  have HR := hid hR
  have hg := hW.2.2.2.2.2.2
  have HS := hid (Wlk.start g x y d 79 hW hK hr)
  clear hl hR hr hW hK
  go_enter Tryd.func39, Tryd.ntmps39
  go_wp2
  go_loopw [5] (fun v wr => ∃ (m : Nat) (T' : Nat → Bool), Hid (Wlk g W H s pol draws spk R ((x : Int), (y : Int), d) w m T' v wr)) (fun _ wr => unt g wr)
  case atStart => exact ⟨0, T, HS⟩
  case round =>
    clear HS
    obtain ⟨m, T', h⟩ := hrel
    obtain ⟨x', y', d', ht, hx', hy', hd'⟩ := it_nat (s := s) (pol := pol) (draws := draws) hw2 hh2 x y d hx hy hd m (fun h0 => (h.out.side h0).1)
    have HT := hid ht
    have hbox := h.out.box
    rw [ht] at hbox
    obtain ⟨b0, b1, b2, f0, f1, f2, hz⟩ := hbox
    dsimp only at b0 b1 b2
    have hcode := hid (code_nat x' y' d')
    clear ht
    obtain ⟨c, hc⟩ : ∃ c, c = (y' * 33 + x') * 4 + d' := ⟨_, rfl⟩
    cases hT : T' c
    · cases hs : Qm.isS (Pm.blackB W H s.data.toList) ((x' : Int), (y' : Int), d')
      · go_wp2_with fail
        refine (take_none g W H s pol draws spk T' x' y' d' c hd' hx' hy' hc hT _ h.out.wk h.out.tkn hw2 hh2 HL.out hs).mono ?_
        rintro e w1 ⟨rfl, hb⟩
        have HB := hid hb
        clear hb hc
        go_wp2
        go_ret
        exact ⟨_, rfl, h.out.out HB.out hw2 hh2 HR.out (fun hq => absurd hq (by rw [HT.out, hs]; simp))⟩
      · have HC := hid hc
        obtain ⟨px, py, he, hpx, hpy, hf⟩ := en_nat (pol := pol) (draws := draws) hw2 hh2 hs
        have HE := hid he
        have HF := hid hf
        have hm := h.out.few
        clear he hf
        go_wp2_with fail
        refine (take_yes g W H s pol draws spk T' x' y' d' c hd' hx' hy' hc hT _ h.out.wk h.out.tkn hw2 hh2 HL.out hs).mono ?_
        rintro e w1 ⟨rfl, g1, k1, t1⟩
        clear hc
        have G1 := hid g1
        have K1 := hid k1
        have T1 := hid t1
        have z1 := g1.size
        obtain ⟨b0', b1', b2', f0', f1', f2', hz'⟩ := (show BoxS w.heap.size ((x' : Int), (y' : Int), d') wr from ⟨b0, b1, b2, f0, f1, f2, hz⟩).of (w' := w1) (g1.block _ hz (by simp; omega)) g1.size
        clear b0 b1 b2 f0 f1 f2 g1 k1 t1
        dsimp only at b0' b1' b2'
        have O1 := hid (h.out.kept hg G1.out)
        have n1 : m + 1 ≤ maxLen := by unfold maxLen; omega
        have n2 : (m + 1) * 16 ≤ 140737488355328 := by omega
        have n3 : w.heap.size + 1 ≤ (w1.alloc (.cells #[.int .i64 x', .int .i64 y'] 46)).heap.size := by simp; omega
        go_wp2_with (first
          | (at_builtin; refine wpList_append_own _ rfl _ _ 40 rfl (w.heap.size + 1) 46 i0 (.agg #[.int .i64 0, .int .i64 0]) 2 16 Tryd.underlying40 hi hz0 hz1 hz2 rfl (by decide) _ _ _ rfl (O1.out.alloc _) ⟨_, 0, none⟩ 1 1 [.int .i64 x', .int .i64 y'] rfl rfl ?c1 ?c2 n1 n2 n3 ?_))
        case c1 =>
          intro j u hj
          match j, hj with
          | 0, hj => simp at hj; subst hj; simp [Addr.add]
          | 1, hj => simp at hj; subst hj; simp [Addr.add]
        case c2 => intro u hu; simp at hu; rcases hu with rfl | rfl <;> rfl
        intro v' w3 o3 g3 _
        have O3 := hid o3
        have G3 := hid g3
        have b13 : Below (w.heap.size + 1) w1 w3 := ((Below.refl _ _).alloc (by omega) _).grown g3 n3 (fun k hk => (h.out.own.lt k hk).1)
        have B13 := hid b13
        have z3 := b13.size
        obtain ⟨b0, b1, b2, f0, f1, f2, hz3⟩ := (show BoxS w.heap.size ((x' : Int), (y' : Int), d') w1 from ⟨b0', b1', b2', f0', f1', f2', hz'⟩).of (w' := w3) (b13.block _ (by omega)) b13.size
        dsimp only at b0 b1 b2
        clear o3 g3 b13 b0' b1' b2' f0' f1' f2' n3
        go_wp2_with fail
        refine (next_any g W H s pol draws spk x' y' d' px py hd' (by omega) (by omega) (by omega) (by omega) HE.out hp _ (K1.out.onB B13.out (by omega)) hw2 hh2 HL.out).mono ?_
        rintro e w4 ⟨rfl, b4⟩
        have B4 := hid b4
        have z4 := b4.size
        obtain ⟨b0', b1', b2', f0', f1', f2', hz4⟩ := (show BoxS w.heap.size ((x' : Int), (y' : Int), d') w3 from ⟨b0, b1, b2, f0, f1, f2, hz3⟩).of (w' := w4) (b4.block _ (by omega)) b4.size
        dsimp only at b0' b1' b2'
        clear b4 b0 b1 b2 f0 f1 f2
        have e1 : Qm.it (fB W H s pol draws) (m + 1) ((x : Int), (y : Int), d) = ((px : Int), (py : Int), Qm.nxD (Pm.blackB W H s.data.toList) (Qm.jnB W H s.data.toList pol draws.data.toList) ((px : Int), (py : Int)) d') := by
          show fB W H s pol draws (Qm.it (fB W H s pol draws) m ((x : Int), (y : Int), d)) = _
          rw [HT.out]; exact HF.out
        have ec : (Qm.codeS (Qm.it (fB W H s pol draws) m ((x : Int), (y : Int), d))).toNat = c := by rw [HT.out, hcode.out, HC.out]
        have hs2 : Qm.isS (Pm.blackB W H s.data.toList) (Qm.it (fB W H s pol draws) m ((x : Int), (y : Int), d)) = true := by rw [HT.out]; exact hs
        have N := h.out.succ (w1 := w1) (w3 := w3) (w4 := w4) (v' := v') (o := .cells #[.int .i64 x', .int .i64 y'] 46) hw2 hh2 hg hs2 (by rw [ec]; exact hT) G1.out K1.out (by rw [ec]; exact T1.out) (by rw [HT.out]; exact O3.out) G3.out B4.out
        rw [ec, e1] at N
        have HN := hid N
        have hmm := unt_of N.tkn
        have hm0 := unt_of h.out.tkn
        have hm1 := Qm.cntF_mark T' c hT 4356 (by have := HC.out; omega)
        have HM := hid (show unt g _ < unt g wr by rw [hmm, hm0]; omega)
        clear N hmm hm0 hm1 e1 ec hs2
        go_wp2
        go_roundw
        case rel => exact ⟨m + 1, _, HN⟩
        case measure => exact HM.out
    · go_wp2_with fail
      refine (take_no g W H s pol draws spk T' x' y' d' c hd' hx' hy' hc hT _ h.out.wk h.out.tkn).mono ?_
      rintro e w1 ⟨rfl, hb⟩
      have HB := hid hb
      have HC := hid hc
      clear hb hc
      go_wp2
      go_ret
      exact ⟨_, rfl, h.out.out HB.out hw2 hh2 HR.out (fun _ => by rw [HT.out, hcode.out, ← HC.out, hT])⟩
end Go.Proofs.YtljfiefobnncaabDoor

/- walkFrom of package cycles. -/
namespace Go.Proofs.YtljfiefobnncaabDoor
open Go.RowKit

/-- All sides that lead onward from points ahead of K are taken. -/
def Ahead (bl : Int → Int → Bool) (f : Qm.Sd → Qm.Sd) (R : List (Qm.Sd × Nat)) (K : Int) : Prop := ∀ t, Qm.isS bl t = true → Qm.key t < K → Qm.key t < Qm.key (f t) → Qm.Tk f R t

def WalkFromOut (g W H : Nat) (s : ByteArray) (pol : Nat) (draws : ByteArray) (spk : Int) (R : List (Qm.Sd × Nat)) (x y : Nat) (w : World) (v : Value) (w' : World) : Prop :=
  ∃ (n : Nat) (T : Nat → Bool) (R' : List (Qm.Sd × Nat)) (s0 : Qm.Sd), w'.ownsRow w.heap.size 46 2 v n (Qm.ptsV (Qm.ptsOf (fB W H s pol draws) (s0, n))) ∧ w.grownBy w' (some g) ∧ Wk g W H s pol draws spk w' ∧ Tkn g T w' ∧ n ≤ 4356 ∧
  Qm.Rep (Pm.blackB W H s.data.toList) (fB W H s pol draws) T R' ∧ Ahead (Pm.blackB W H s.data.toList) (fB W H s pol draws) R' (33 * (y : Int) + x + 1) ∧
  ((n = 0 ∧ R' = R) ∨ (0 < n ∧ R' = R ++ [(s0, n)] ∧ Qm.Canon (fB W H s pol draws) (bB W H s) Qm.key (s0, n) ∧ Qm.key s0 = 33 * (y : Int) + x))

section
variable {g W H : Nat} {s : ByteArray} {pol : Nat} {draws : ByteArray} {spk : Int} {R : List (Qm.Sd × Nat)} {w w' : World} {v : Value}

theorem up_iff {t : Qm.Sd} (h : t.2.2 < 4) : Qm.key t < Qm.key (fB W H s pol draws t) ↔ t.2.2 ≤ 1 := by
  rw [Qm.key_nx _ _ _ h]
  split
  · omega
  · split
    · omega
    · split <;> omega

theorem Ahead.found (hw : W ≤ 32) (hh : H ≤ 32) {x y d n : Nat} (hd : d ≤ 1) (hA : Ahead (Pm.blackB W H s.data.toList) (fB W H s pol draws) R (33 * (y : Int) + x)) (hc : Qm.Cyc (fB W H s pol draws) (bB W H s) ((x : Int), (y : Int), d) n) :
    Ahead (Pm.blackB W H s.data.toList) (fB W H s pol draws) (R ++ [(((x : Int), (y : Int), d), n)]) (33 * (y : Int) + x + 1) := by
  intro t ht hk hu
  have st := Qm.step (Qm.pic_of W H s.data.toList hw hh) (Qm.jnB W H s.data.toList pol draws.data.toList)
  by_cases e : Qm.key t < 33 * (y : Int) + x
  · obtain ⟨c, h1, h2⟩ := hA t ht e hu
    exact ⟨c, List.mem_append_left _ h1, h2⟩
  · have hk0 : Qm.key ((x : Int), (y : Int), d) = 33 * (y : Int) + x := rfl
    have := st.one t ((x : Int), (y : Int), d) ht hc.1 (by rw [hk0]; omega) hu ((up_iff (by show d < 4; omega)).2 hd)
    exact ⟨_, List.mem_append_right _ (List.mem_singleton.2 rfl), 0, hc.2.1, this⟩

theorem Ahead.none (hw : W ≤ 32) (hh : H ≤ 32) {x y : Nat} (hx : x ≤ 32) (hA : Ahead (Pm.blackB W H s.data.toList) (fB W H s pol draws) R (33 * (y : Int) + x))
    (h0 : Qm.isS (Pm.blackB W H s.data.toList) ((x : Int), (y : Int), 0) = false ∨ Qm.Tk (fB W H s pol draws) R ((x : Int), (y : Int), 0)) (h1 : Qm.isS (Pm.blackB W H s.data.toList) ((x : Int), (y : Int), 1) = false ∨ Qm.Tk (fB W H s pol draws) R ((x : Int), (y : Int), 1)) :
    Ahead (Pm.blackB W H s.data.toList) (fB W H s pol draws) R (33 * (y : Int) + x + 1) := by
  intro t ht hk hu
  by_cases e : Qm.key t < 33 * (y : Int) + x
  · exact hA t ht e hu
  · have hb := Qm.side_in (Qm.pic_of W H s.data.toList hw hh) ht
    have hd := (up_iff (Qm.isS_lt ht)).1 hu
    obtain ⟨a, b, d⟩ := t
    simp only [Qm.key] at hk e hb hd
    have e1 : a = x := by omega
    have e2 : b = y := by omega
    subst e1 e2
    rcases (show d = 0 ∨ d = 1 by omega) with rfl | rfl
    · exact h0.resolve_left (by rw [ht]; simp)
    · exact h1.resolve_left (by rw [ht]; simp)

/-- The walk downward finds a cycle, or the one to the right does, or neither. -/
theorem WalkOut.from1 (hw : W ≤ 32) (hh : H ≤ 32) {x y d n : Nat} {T : Nat → Bool} (hd : d ≤ 1) (hR : ∀ c ∈ R, Qm.Cyc (fB W H s pol draws) (bB W H s) c.1 c.2) (hA : Ahead (Pm.blackB W H s.data.toList) (fB W H s pol draws) R (33 * (y : Int) + x))
    (o : w'.ownsRow w.heap.size 46 2 v n (Qm.ptsV (Qm.ptsOf (fB W H s pol draws) (((x : Int), (y : Int), d), n)))) (hg : w.grownBy w' (some g)) (hk : Wk g W H s pol draws spk w') (ht : Tkn g T w') (hn : n ≤ 4356)
    (h0 : 0 < n) (hT : ¬ Qm.Tk (fB W H s pol draws) R ((x : Int), (y : Int), d)) (hc : Qm.Cyc (fB W H s pol draws) (bB W H s) ((x : Int), (y : Int), d) n) (hr : Qm.Rep (Pm.blackB W H s.data.toList) (fB W H s pol draws) T (R ++ [(((x : Int), (y : Int), d), n)])) :
    WalkFromOut g W H s pol draws spk R x y w v w' := by
  have st := Qm.step (Qm.pic_of W H s.data.toList hw hh) (Qm.jnB W H s.data.toList pol draws.data.toList)
  exact ⟨n, T, _, _, o, hg, hk, ht, hn, hr, hA.found hw hh hd hc, .inr ⟨h0, rfl, hc.canon st hR hT (fun t h1 h2 h3 => hA t h1 h2 h3), rfl⟩⟩
end

theorem own_len {w : World} {b : Nat} {t : TypeId} {sz : Nat} {v : Value} {n : Nat} {xs : List Value} (h : w.ownsRow b t sz v n xs) : ∃ ao cap, v = .slice ao n cap := by
  rcases h.2 with ⟨rfl, rfl⟩ | ⟨g, cap, cur, rfl, _⟩
  · exact ⟨_, _, rfl⟩
  · exact ⟨_, _, rfl⟩

set_option maxRecDepth 4000 in
set_option maxHeartbeats 2000000 in
theorem walkFrom_any (g W H : Nat) (s : ByteArray) (pol : Nat) (draws : ByteArray) (spk : Int) (R : List (Qm.Sd × Nat)) (T : Nat → Bool) (x y : Nat) (hx : x ≤ 32) (hy : y ≤ 32) (hp : pol ≤ 3) (w : World) (hW : Wk g W H s pol draws spk w) (hK : Tkn g T w) (hw2 : W ≤ 32) (hh2 : H ≤ 32) (hl : s.size = W * H)
    (hR : ∀ c ∈ R, Qm.Cyc (fB W H s pol draws) (bB W H s) c.1 c.2) (hr : Qm.Rep (Pm.blackB W H s.data.toList) (fB W H s pol draws) T R) (hA : Ahead (Pm.blackB W H s.data.toList) (fB W H s pol draws) R (33 * (y : Int) + x)) :
    Calls Tryd.prog 28 #[.pointer (some ⟨g, 0, none⟩), .agg #[.int .i64 x, .int .i64 y]] w fun e w' => ∃ v, e = .returned v ∧ WalkFromOut g W H s pol draws spk R x y w v w' := by
  have HL := hid hl
  have HR := hid hR
  have HA := hid hA
  have HRE := hid hr
  have HW := hid hW
  have HK := hid hK
  have hg := hW.2.2.2.2.2.2
  clear hl hR hA hr hW hK
  obtain ⟨X, hX⟩ : ∃ X, X = w.alloc (.cells #[.int .i64 x, .int .i64 y] 46) := ⟨_, rfl⟩
  have XB := hid (show Below w.heap.size w X by rw [hX]; go_grown)
  have x0 : X.cell? ⟨w.heap.size, 0, none⟩ = some (.int .i64 x) := by rw [hX]; simp
  have x1 : X.cell? ⟨w.heap.size, 1, none⟩ = some (.int .i64 y) := by rw [hX]; simp
  have xs : X.heap.size = w.heap.size + 1 := by rw [hX]; simp
  have XS := hid xs
  clear xs
  go_enter Tryd.func28, Tryd.ntmps28
  go_wp2_with fail
  rw [← hX]
  clear hX
  refine (walk_any g W H s pol draws spk R T x y 0 (by omega) hx hy hp _ (HW.out.on XB.out) (HK.out.on XB.out hg) hw2 hh2 HL.out HR.out HRE.out).mono ?_
  rintro e w1 ⟨v, rfl, n, T1, o1, g1, k1, t1, hn, h1⟩
  obtain ⟨ao, cap, rfl⟩ := own_len o1
  have O1 := hid (o1.mono (base' := w.heap.size) (by rw [XS.out]; omega))
  have G1 := hid (gb_trans (grown_of_below XB.out (some g)) g1)
  have K1 := hid k1
  have T1' := hid t1
  have H1 := hid h1
  have z1 := g1.size
  have x0' : w1.cell? ⟨w.heap.size, 0, none⟩ = some (.int .i64 x) := (World.cell?_of_block (a := ⟨w.heap.size, 0, none⟩) (g1.block _ (by rw [XS.out]; simp) (by simp; omega))).trans x0
  have x1' : w1.cell? ⟨w.heap.size, 1, none⟩ = some (.int .i64 y) := (World.cell?_of_block (a := ⟨w.heap.size, 1, none⟩) (g1.block _ (by rw [XS.out]; simp) (by simp; omega))).trans x1
  clear o1 g1 k1 t1 h1 x0 x1
  by_cases h0 : 0 < n
  · have h0' : (0 : Int) < (n : Nat) := by omega
    go_wp2
    go_ret
    rcases H1.out with ⟨e0, _⟩ | ⟨_, hT, hc, hr⟩
    · omega
    · exact ⟨_, rfl, WalkOut.from1 hw2 hh2 (by omega) HR.out HA.out O1.out G1.out K1.out T1'.out hn h0 hT hc hr⟩
  · have e0 : n = 0 := by omega
    subst e0
    go_wp2_with fail
    rcases H1.out with ⟨_, hnot, hrep⟩ | ⟨e0, _⟩
    · refine (walk_any g W H s pol draws spk R T1 x y 1 (by omega) hx hy hp _ K1.out T1'.out hw2 hh2 HL.out HR.out hrep).mono ?_
      rintro e w2 ⟨v, rfl, n, T2, o2, g2, k2, t2, hn2, h2⟩
      have O2 := hid (o2.mono (base' := w.heap.size) (Nat.le_trans XB.out.size (by omega)))
      have G2 := hid (gb_trans G1.out g2)
      have K2 := hid k2
      have T2' := hid t2
      have H2 := hid h2
      have HN := hid hnot
      clear o2 g2 k2 t2 h2 hnot hrep
      go_wp2
      go_ret
      rcases H2.out with ⟨e0, hnot2, hrep2⟩ | ⟨h0', hT, hc, hr⟩
      · subst e0
        exact ⟨_, rfl, 0, T2, R, _, O2.out, G2.out, K2.out, T2'.out, by omega, hrep2, HA.out.none hw2 hh2 hx HN.out hnot2, .inl ⟨rfl, rfl⟩⟩
      · exact ⟨_, rfl, WalkOut.from1 hw2 hh2 (by omega) HR.out HA.out O2.out G2.out K2.out T2'.out hn2 h0' hT hc hr⟩
    · omega
end Go.Proofs.YtljfiefobnncaabDoor

/- IsOne and Good: is it a bitmap? -/
namespace Go.Proofs.YtljfiefobnncaabDoor
open Go.RowKit

set_option maxRecDepth 4000 in
set_option maxHeartbeats 400000 in
theorem isOne_any (W H : Int) (s : ByteArray) (w : World) :
    Calls Tryd.prog 38 #[.agg #[.int .i64 W, .int .i64 H, .string s]] w fun e w' => e = .returned (.bool (Pm.goodB W H s.data.toList)) ∧ w' = w.alloc (.cells #[.int .i64 W, .int .i64 H, .string s] 25) := by
  cases hw : Pm.sideB W
  · go_enter Tryd.func38, Tryd.ntmps38
    go_wp2_with (go_at_call 43; refine (isSide_any _ _).mono ?_; rintro e w' ⟨rfl, rfl⟩)
    go_ret
    exact ⟨ret_bool (Pm.goodB_w hw).symm, rfl⟩
  · cases hh : Pm.sideB H
    · go_enter Tryd.func38, Tryd.ntmps38
      go_wp2_with (go_at_call 43; refine (isSide_any _ _).mono ?_; rintro e w' ⟨rfl, rfl⟩)
      go_ret
      exact ⟨ret_bool (Pm.goodB_h hh).symm, rfl⟩
    · have bw := Pm.sideB_bounds hw
      have bh := Pm.sideB_bounds hh
      have bm := Pm.area_le bw.1 bw.2 bh.1 bh.2
      by_cases hl : (s.size : Int) = W * H
      · have hb : ((s.size : Int) != W * H) = false := by simp [hl]
        have hsz : (s.size : Int) ≤ 1024 := by omega
        have HL : Hid ((s.size : Int) = W * H) := hl
        clear hl
        go_enter Tryd.func38, Tryd.ntmps38
        go_wp2_with (go_at_call 43; refine (isSide_any _ _).mono ?_; rintro e w' ⟨rfl, rfl⟩)
        go_loop [3] (fun i => ∃ k : Nat, k ≤ s.size ∧ i = .int .i64 k ∧ Hid ((s.data.toList.take k).all Pm.okPix = true)) (fun i => s.size - (intOf i).toNat)
        case atStart => exact ⟨0, Nat.zero_le _, rfl, rfl⟩
        case round =>
          obtain ⟨k, hk, rfl, hall⟩ := hrel
          by_cases hlt : k < s.size
          · by_cases h0 : (s[k].toNat : Int) = 48
            · go_wp2
              go_round
              case rel => exact ⟨k + 1, by omega, by go_num, Pm.all_step s k hlt hall (.inl h0)⟩
              case measure => simp [intOf]; omega
            · by_cases h1 : (s[k].toNat : Int) = 49
              · go_wp2
                go_round
                case rel => exact ⟨k + 1, by omega, by go_num, Pm.all_step s k hlt hall (.inr h1)⟩
                case measure => simp [intOf]; omega
              · have b0 : ((s[k].toNat : Int) != 48) = true := bne_iff_ne.2 h0
                have b1 : ((s[k].toNat : Int) != 49) = true := bne_iff_ne.2 h1
                go_wp2
                go_ret
                exact ⟨ret_bool (Pm.goodB_bad s k hlt h0 h1).symm, rfl⟩
          · go_wp2
            go_ret
            exact ⟨ret_bool (Pm.goodB_yes hw hh HL.out (by have := hall.out; rwa [List.take_of_length_le (by simp; omega)] at this)).symm, rfl⟩
      · have hb : ((s.size : Int) != W * H) = true := by simp [hl]
        go_enter Tryd.func38, Tryd.ntmps38
        go_wp2_with (go_at_call 43; refine (isSide_any _ _).mono ?_; rintro e w' ⟨rfl, rfl⟩)
        go_ret
        exact ⟨ret_bool (Pm.goodB_len hl).symm, rfl⟩

end Go.Proofs.YtljfiefobnncaabDoor