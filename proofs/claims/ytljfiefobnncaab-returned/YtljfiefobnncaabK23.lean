import Derived.Test.YtljfiefobnncaabK22
import Derived.Test.YtljfiefobnncaabK05
import Derived.Test.YtljfiefobnncaabK20
import Derived.Test.YtljfiefobnncaabK08
import Derived.Test.YtljfiefobnncaabK03

/- What Walked counts: sums by rows, what is ahead of a cycle in the answer. Nothing of the program stands here. -/
namespace Go.Proofs.Ytljfiefobnncaab.Qm
open Pm

theorem sN_bound {n : Nat} {g : Nat → Int} {m : Int} (e : ∀ i, i < n → 0 ≤ g i ∧ g i ≤ m) : 0 ≤ sN n g ∧ sN n g ≤ m * n := by
  induction n with
  | zero => simp [sN]
  | succ n ih =>
    have a := ih fun i hi => e i (by omega)
    have b := e n (by omega)
    simp only [sN]
    have : m * ((n + 1 : Nat) : Int) = m * n + m := by rw [show ((n + 1 : Nat) : Int) = (n : Int) + 1 from by omega, Int.mul_add]; omega
    rw [this]; omega
theorem cS_in (bl : Int → Int → Bool) (x y : Int) : 0 ≤ cS bl x y ∧ cS bl x y ≤ 2 := by
  unfold cS; split <;> split <;> omega
theorem row_cS (bl : Int → Int → Bool) (n : Nat) (y : Int) : 0 ≤ sN n (fun x => cS bl x y) ∧ sN n (fun x => cS bl x y) ≤ 2 * n := sN_bound fun _ _ => cS_in bl _ _
theorem bx_cS (bl : Int → Int → Bool) (W H : Nat) (hw : W ≤ 33) (hh : H ≤ 33) : 0 ≤ bx W H (cS bl) ∧ bx W H (cS bl) ≤ 2178 := by
  have a := sN_bound (n := H) (g := fun y => sN W fun x => cS bl x y) (m := 66) fun i _ => by have := row_cS bl W i; omega
  unfold bx
  omega
theorem sN_app (a b : Nat) (g : Nat → Int) : sN (a + b) g = sN a g + sN b fun i => g (a + i) := by
  induction b with
  | zero => simp [sN]
  | succ b ih => rw [← Nat.add_assoc]; simp only [sN, ih]; omega
/-- Black pixels, counted byte by byte. -/
theorem bits_rows (W H : Nat) (l : List UInt8) : sN (H * W) (fun i => if bitAt l i = true then 1 else 0) = bx W H (fun x y => if blackB W H l x y = true then 1 else 0) := by
  have key : ∀ h, h ≤ H → sN (h * W) (fun i => if bitAt l i = true then 1 else 0) = sN h fun y => sN W fun x => if blackB W H l x y = true then 1 else 0 := by
    intro h
    induction h with
    | zero => intro _; simp [sN]
    | succ h ih =>
      intro hh
      rw [Nat.succ_mul, sN_app, ih (by omega)]
      simp only [sN]
      congr 1
      refine sN_congr fun x hx => ?_
      rw [blackB_in W H l x h hx (by omega) (h * W) rfl]
  exact key H (Nat.le_refl _)

section
variable {f : Sd → Sd} {P : Sd → Prop} {R : List (Sd × Nat)} {i : Nat}
theorem Res.at (h : Res f P key R) (hi : i < R.length) : Canon f P key R[i] := h.1 _ (List.getElem_mem hi)
/-- No side of a cycle is on a cycle ahead of it. -/
theorem Res.fresh (h : Res f P key R) (hi : i < R.length) (m : Nat) : ¬ Tk f (R.take i) (it f m R[i].1) := by
  rintro ⟨c, hc, j, hj, e⟩
  obtain ⟨a, ha, rfl⟩ := List.mem_iff_getElem.1 hc
  simp only [List.length_take] at ha
  rw [List.getElem_take] at hj e
  have s := (h.at (i := a) (by omega)).share (h.at hi) hj e.symm
  have p := List.pairwise_iff_getElem.1 h.2.1 a i (by omega) hi (by omega)
  rw [s] at p
  omega
theorem Res.lt (h : Res f P key R) (hi : i + 1 < R.length) : key R[i].1 < key R[i + 1].1 := List.pairwise_iff_getElem.1 h.2.1 i (i + 1) (by omega) hi (by omega)
theorem take_next {α : Type} {R : List α} {i : Nat} (hi : i < R.length) : R.take (i + 1) = R.take i ++ [R[i]] := by
  rw [List.take_add_one, List.getElem?_eq_getElem hi]; rfl
theorem alS_app (f : Sd → Sd) (R S : List (Sd × Nat)) : alS f (R ++ S) = alS f R ++ alS f S := by simp [alS]
theorem cyS_len (f : Sd → Sd) (c : Sd × Nat) : (cyS f c).length = c.2 := by simp [cyS]
/-- How many sides the first i cycles have. -/
def totS (R : List (Sd × Nat)) (i : Nat) : Nat := ((R.take i).map (·.2)).sum
theorem totS_zero (R : List (Sd × Nat)) : totS R 0 = 0 := rfl
theorem totS_succ (hi : i < R.length) : totS R (i + 1) = totS R i + R[i].2 := by
  unfold totS; rw [take_next hi, List.map_append, List.sum_append, List.map_singleton, List.sum_singleton]
theorem len_alS (f : Sd → Sd) (R : List (Sd × Nat)) : (alS f R).length = (R.map (·.2)).sum := by
  induction R with
  | nil => rfl
  | cons c R ih => rw [alS_cons, List.length_append, ih, cyS_len]; simp
theorem totS_all (f : Sd → Sd) (R : List (Sd × Nat)) : totS R R.length = (alS f R).length := by
  unfold totS; rw [List.take_length, len_alS]
theorem totS_mono (R : List (Sd × Nat)) (i : Nat) : totS R i ≤ totS R R.length := by
  unfold totS
  rw [List.take_length]
  conv => rhs; rw [← List.take_append_drop i R]
  rw [List.map_append, List.sum_append]
  omega
/-- Twice the area of the first i cycles. -/
def areaS (f : Sd → Sd) (R : List (Sd × Nat)) (i : Nat) : Int := ((R.take i).map fun c => twiceOf (ptsOf f c)).sum
theorem areaS_zero (f : Sd → Sd) (R : List (Sd × Nat)) : areaS f R 0 = 0 := rfl
theorem areaS_succ (f : Sd → Sd) (hi : i < R.length) : areaS f R (i + 1) = areaS f R i + twiceOf (ptsOf f R[i]) := by
  unfold areaS; rw [take_next hi, List.map_append, List.sum_append, List.map_singleton, List.sum_singleton]
theorem areaS_all (f : Sd → Sd) (R : List (Sd × Nat)) : areaS f R R.length = (R.map fun c => twiceOf (ptsOf f c)).sum := by
  unfold areaS; rw [List.take_length]
theorem areaS_small (f : Sd → Sd) (R : List (Sd × Nat)) (hs : ∀ c ∈ R, Small (ptsOf f c)) : ∀ i, i ≤ R.length → -1024 * (totS R i : Int) ≤ areaS f R i ∧ areaS f R i ≤ 1024 * (totS R i : Int)
  | 0, _ => by simp [totS_zero, areaS_zero]
  | i + 1, hi => by
    have a := areaS_small f R hs i (by omega)
    have b := fsum_small (hs _ (List.getElem_mem (l := R) (n := i) (by omega))) (ptsOf f R[i]).length
    rw [← twiceOf_fsum, ptsOf_len] at b
    rw [areaS_succ f (by omega), totS_succ (by omega)]
    omega
end

section
variable {bl jn : Int → Int → Bool} {R : List (Sd × Nat)} {i : Nat}
theorem Canon.step_end {c : Sd × Nat} (h : Canon (nx bl jn) (fun s => isS bl s = true) key c) (k : Nat) : fromP (it (nx bl jn) ((k + 1) % c.2) c.1) = en (it (nx bl jn) k c.1) := by
  rw [← h.1.mod (k + 1)]; rfl
end
end Go.Proofs.Ytljfiefobnncaab.Qm

/- outlinekeep: sides. -/
namespace Go.Proofs.Ytljfiefobnncaab
open Go.RowKit

/-- A bitmap lies in the block b. -/
def Bmp (b W H : Nat) (s : ByteArray) (w : World) : Prop := b < w.heap.size ∧ w.cell? ⟨b, 0, none⟩ = some (.int .i64 W) ∧ w.cell? ⟨b, 1, none⟩ = some (.int .i64 H) ∧ w.cell? ⟨b, 2, none⟩ = some (.string s)
theorem Bmp.on {b W H : Nat} {s : ByteArray} {w w' : World} {B : Nat} (h : Bmp b W H s w) (hb : Below B w w') (hg : b < B) : Bmp b W H s w' :=
  ⟨Nat.lt_of_lt_of_le h.1 hb.size, (hb.cell (p := ⟨b, 0, none⟩) hg).trans h.2.1, (hb.cell (p := ⟨b, 1, none⟩) hg).trans h.2.2.1, (hb.cell (p := ⟨b, 2, none⟩) hg).trans h.2.2.2⟩

end Go.Proofs.Ytljfiefobnncaab
/- outlinekeep: what Walked asks first: options and Cycles beside a bitmap that lies in a box. -/
namespace Go.Proofs.Ytljfiefobnncaab
open Go.RowKit

theorem RawIs.on {ao : Option Addr} {len : Nat} {w w' : World} (h : RawIs ao len w) (hb : Below w.heap.size w w') : RawIs ao len w' := by
  rcases h with h | ⟨b, off, e, hlt, hc⟩
  · exact .inl h
  · refine .inr ⟨b, off, e, Nat.lt_of_lt_of_le hlt hb.size, fun j hj => ?_⟩
    obtain ⟨z, hz⟩ := hc j hj
    exact ⟨z, (hb.cell (p := ⟨b, off + j, none⟩) hlt).trans hz⟩
theorem inb_new (w : World) (W H : Nat) (s : ByteArray) (t : TypeId) : Inb w.heap.size W H s w (w.alloc (.cells #[.int .i64 W, .int .i64 H, .string s] t)).drew :=
  ⟨by simp [go_sem], by simp [go_sem], by simp [go_sem], ((Below.refl _ _).alloc (Nat.le_refl _) _).trans ⟨rfl, rfl, rfl, Nat.le_refl _, fun _ _ => rfl⟩, by simp [go_sem]⟩
theorem Inb.bmp {B W H : Nat} {s : ByteArray} {w wr : World} (h : Inb B W H s w wr) : Bmp B W H s wr := ⟨h.2.2.2.2, h.1, h.2.1, h.2.2.1⟩
theorem options_inb {B W H : Nat} {s : ByteArray} {w wx : World} (hI : Inb B W H s w wx) (p : Int) (draws : ByteArray) (p1 : -9223372036854775808 ≤ p) (p2 : p ≤ 9223372036854775807) :
    Calls Try.prog 6 #[.int .i64 p, .string draws] wx fun e w' => (∃ r : Nat, e = .returned (.agg #[.int .i64 r, .string draws, .int .i64 0]) ∧ r ≤ 3) ∧ Inb B W H s w w' :=
  (options_any p draws p1 p2 wx).mono fun _ _ ⟨h, hb⟩ => ⟨h, hI.on hb⟩
theorem cycles_inb {B W H : Nat} {s : ByteArray} {w wx : World} (hI : Inb B W H s w wx) (pol : Nat) (draws : ByteArray) (spk : Int) (hm : mayB W H s.data.toList pol spk = true) (hw2 : W ≤ 32) (hh2 : H ≤ 32) (hl : s.size = W * H) (hp : pol ≤ 3) :
    Calls Try.prog 7 #[.agg #[.int .i64 W, .int .i64 H, .string s], .agg #[.int .i64 pol, .string draws, .int .i64 spk]] wx fun e w' => ∃ vl, e = .returned (.tuple #[vl, .int .i64 0]) ∧ (∃ L, Qm.Res (fB W H s pol draws) (bB W H s) Qm.key (L.map (·.2)) ∧ Rowed (fB W H s pol draws) (B + 1) vl L w' ∧ L.length ≤ 1200) ∧ Inb B W H s w w' :=
  (cycles_yes W H s pol draws spk wx hm hw2 hh2 hl hp).mono fun _ _ ⟨vl, e, L, h1, h2, h3, h4⟩ => ⟨vl, e, ⟨L, h1, ⟨h2.row.mono hI.2.2.2.2, fun p hp => (h2.pts p hp).mono hI.2.2.2.2, h2.apart⟩, h4⟩, hI.on h3⟩
theorem good_of {W H : Nat} {l : List UInt8} (h1 : 1 ≤ W) (h2 : W ≤ 32) (h3 : 1 ≤ H) (h4 : H ≤ 32) (hl : l.length = W * H) (ha : l.all Pm.okPix = true) : Pm.goodB W H l = true :=
  Pm.goodB_yes (by simp [Pm.sideB]; omega) (by simp [Pm.sideB]; omega) (by rw [hl]; simp) ha
theorem may_of {W H : Nat} {l : List UInt8} {pol spk : Int} (h : Pm.goodB W H l = true) (p0 : 0 ≤ pol) (p3 : pol ≤ 3) (s0 : 0 ≤ spk) (s1 : spk ≤ 1024) : mayB W H l pol spk = true := by
  rw [mayB_good ⟨p0, p3⟩ ⟨s0, s1⟩]; exact h



end Go.Proofs.Ytljfiefobnncaab
/- outlinekeep: traces; the polygons where there is no speckle. -/
namespace Go.Proofs.Ytljfiefobnncaab
open Go.RowKit

namespace Qm
theorem bigB_zero {bl jn : Int → Int → Bool} {c : Sd × Nat} (h : Cyc (nx bl jn) (fun s => isS bl s = true) c.1 c.2) {W H : Nat} (hp : Pic bl W H) : bigB (nx bl jn) 0 c = true := by
  have := h.twice_ne hp
  unfold bigB absZ
  rw [decide_eq_true_eq]
  split <;> omega
theorem polys_zero {bl jn : Int → Int → Bool} {R : List (Sd × Nat)} (h : Res (nx bl jn) (fun s => isS bl s = true) key R) {W H : Nat} (hp : Pic bl W H) : polys (nx bl jn) 0 R = R.map fun c => cornL (ptsOf (nx bl jn) c) := by
  unfold polys
  rw [List.filter_eq_self.2 fun c hc => bigB_zero (h.1 c hc).1 hp]
end Qm

theorem polys_one : Qm.polys (fB 1 1 ⟨#[49]⟩ 0 ⟨#[]⟩) 0 [((0, 0, 0), 4)] = [[(0, 0), (0, 1), (1, 1), (1, 0)]] := by decide
theorem one_traced {vl : Value} {w w' : World} (h : TraceOut 1 1 ⟨#[49]⟩ 0 ⟨#[]⟩ 0 w vl w') : Below w.heap.size w w' ∧ ∃ gl cap g c, vl = .slice (some ⟨gl, 0, none⟩) 1 cap ∧ gl < w'.heap.size ∧ g < w'.heap.size ∧ w'.cell? ⟨gl, 0, none⟩ = some (.slice (some ⟨g, 0, none⟩) 4 c) ∧ w'.cell? ⟨gl, 1, none⟩ = some (.int .i64 2) := by
  obtain ⟨R, L, h1, h2, h3, _, h5⟩ := h
  refine ⟨h5, ?_⟩
  have e := h1.unique res_one
  subst e
  rw [polys_one] at h2
  obtain ⟨v, rfl⟩ : ∃ v, L = [(v, [(0, 0), (0, 1), (1, 1), (1, 0)])] := by
    match L, h2 with
    | [], e => simp at e
    | [(v, c)], e => simp at e; subst e; exact ⟨v, rfl⟩
    | _ :: _ :: _, e => simp at e
  have sh := h3.shown (fun p hp => by simp at hp; subst hp; simp)
  obtain ⟨ao, cap, rfl, hr⟩ := sh.row
  obtain ⟨gl, rfl, hgl, hc⟩ := hr.resolve_left (by simp)
  obtain ⟨g, c, hv, _, hg, hp⟩ := sh.pts _ (List.mem_singleton.2 rfl)
  simp only at hv hp
  subst hv
  have s0 := shpP_at [((Value.slice (some ⟨g, 0, none⟩) 4 c), [((0 : Int), (0 : Int)), (0, 1), (1, 1), (1, 0)])] 0 (by simp)
  have c0 := hc _ _ s0.1
  have c1 := hc _ _ s0.2
  have et : Qm.twiceOf [(0, 0), (0, 1), (1, 1), (1, 0)] = 2 := by decide
  simp only [List.getElem_cons_zero, et] at c0 c1
  exact ⟨gl, cap, g, c, rfl, hgl, hg, c0, c1⟩

set_option maxRecDepth 4000 in
set_option maxHeartbeats 1000000 in
theorem traces_any (w : World) :
    Calls Try.prog 4 #[] w fun e w' => e = .returned (.bool true) ∧ Below w.heap.size w w' := by
  go_enter Try.func4, Try.ntmps4
  go_wp2_with fail
  refine (works_any _).mono ?_
  rintro e w0 ⟨rfl, hb0⟩
  have B0 := hid (show Below w.heap.size w w0 from hb0)
  clear hb0
  go_wp2_with fail
  refine (trace_yes 1 1 ⟨#[49]⟩ 0 ⟨#[]⟩ 0 _ (by decide) (by omega) (by omega) rfl (by omega) (by omega) (by omega)).mono ?_
  rintro e w1 ⟨vl, rfl, ho⟩
  obtain ⟨hb, gl, cap, g, c, rfl, hgl, hg, c0, c1⟩ := one_traced ho
  have B1 := hid (show Below w.heap.size w w1 from B0.out.trans (hb.mono B0.out.size))
  clear hb ho
  go_wp2
  go_ret
  exact ⟨rfl, B1.out⟩
end Go.Proofs.Ytljfiefobnncaab
