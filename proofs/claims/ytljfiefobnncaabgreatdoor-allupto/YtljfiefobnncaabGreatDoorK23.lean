import Derived.Test.YtljfiefobnncaabGreatDoorK22
import Derived.Test.YtljfiefobnncaabGreatDoorK08
import Derived.Test.YtljfiefobnncaabGreatDoorK21
import Derived.Test.YtljfiefobnncaabGreatDoorK13
import Derived.Test.YtljfiefobnncaabGreatDoorK20
import Derived.Maps.AppendAt
import Derived.Test.YtljfiefobnncaabGreatDoorK18
import Derived.Test.YtljfiefobnncaabGreatDoorK01
import Derived.Deep.RegionWith
import Derived.WalkKit

/- outlineref: Polygon. -/
namespace Go.Proofs.YtljfiefobnncaabGreatDoor
open Go.RowKit
attribute [local go_sem ↓] Go.wp_at_zero Go.wp_at_succ

/-- A box of two cells. -/
def Box2 (b : Nat) (x y : Value) (w : World) : Prop := b < w.heap.size ∧ w.cell? ⟨b, 0, none⟩ = some x ∧ w.cell? ⟨b, 1, none⟩ = some y ∧ w.frozen? ⟨b, 0, none⟩ = false ∧ w.frozen? ⟨b, 1, none⟩ = false
theorem Box2.new (w : World) (x y : Value) (t : TypeId) : Box2 w.heap.size x y (w.alloc (.cells #[x, y] t)) := ⟨by simp, by simp, by simp, by simp, by simp⟩
theorem Box2.on {b B : Nat} {x y : Value} {w w' : World} (h : Box2 b x y w) (hb : Below B w w') (hB : b < B) : Box2 b x y w' :=
  ⟨Nat.lt_of_lt_of_le h.1 hb.size, (hb.cell (p := ⟨b, 0, none⟩) hB).trans h.2.1, (hb.cell (p := ⟨b, 1, none⟩) hB).trans h.2.2.1, (hb.frozen (p := ⟨b, 0, none⟩) hB).trans h.2.2.2.1, (hb.frozen (p := ⟨b, 1, none⟩) hB).trans h.2.2.2.2⟩
theorem Box2.gb {b : Nat} {x y : Value} {w w' : World} {r : Option Nat} (h : Box2 b x y w) (hb : w.grownBy w' r) (hne : r ≠ some b) : Box2 b x y w' := by
  have e := hb.block b h.1 (Ne.symm hne)
  have C : ∀ j, w'.cell? ⟨b, j, none⟩ = w.cell? ⟨b, j, none⟩ := fun j => World.cell?_of_block (a := ⟨b, j, none⟩) e
  exact ⟨Nat.lt_of_lt_of_le h.1 hb.size, (C _).trans h.2.1, (C _).trans h.2.2.1, by have := h.2.2.2.1; unfold World.frozen? at this ⊢; rw [e]; exact this, by have := h.2.2.2.2; unfold World.frozen? at this ⊢; rw [e]; exact this⟩
theorem Box2.set0 {b : Nat} {x y : Value} {w : World} (h : Box2 b x y w) (u : Value) : Box2 b u y (w.setCell ⟨b, 0, none⟩ u) :=
  ⟨by rw [World.size_setCell]; exact h.1, World.cell?_setCell_same _ _ _ h.2.1, (World.cell?_setCell_other _ _ _ _ (by simp)).trans h.2.2.1, by simpa using h.2.2.2.1, by simpa using h.2.2.2.2⟩
theorem Box2.set1 {b : Nat} {x y : Value} {w : World} (h : Box2 b x y w) (u : Value) : Box2 b x u (w.setCell ⟨b, 1, none⟩ u) :=
  ⟨by rw [World.size_setCell]; exact h.1, (World.cell?_setCell_other _ _ _ _ (by simp)).trans h.2.1, World.cell?_setCell_same _ _ _ h.2.2.1, by simpa using h.2.2.2.1, by simpa using h.2.2.2.2⟩

set_option maxRecDepth 4000 in
set_option maxHeartbeats 4000000 in
theorem polygon_any (g n cap : Nat) (c : List (Int × Int)) (hn : n = c.length) (h0 : 0 < n) (hs : Qm.Small c) (hn2 : n ≤ 4356) (hu : Qm.Unit (c ++ [Qm.fstP c])) (w : World) (hP : PtsAt g c w) :
    Calls Tryz.prog 52 #[.slice (some ⟨g, 0, none⟩) n cap] w fun e w' => ∃ v, e = .returned (.agg #[v, .int .i64 (Qm.twiceOf (Qm.cornL c))]) ∧ w'.ownsRow w.heap.size 65 2 v (Qm.cornL c).length (Qm.ptsV (Qm.cornL c)) ∧ Below w.heap.size w w' := by
  obtain ⟨ip, hip, hp0, hp1, hp2⟩ := info_parts infoPoint
  have HP := hid hP
  have hg := hP.1
  have HN := hid hn
  have CI := hid (show Qm.Opt (Qm.okV (c ++ [Qm.fstP c])) (Qm.cV (c ++ [Qm.fstP c])) 0 n (Qm.cornN c ++ [n]) by rw [hn]; exact Qm.cornN_is (by omega) hu)
  have CL := hid (show ∀ x ∈ Qm.cornN c, x < n by rw [hn]; exact Qm.cornN_lt (by omega) hu)
  have CE := hid (show Qm.cornL c = cpts c (Qm.cornN c) from rfl)
  have CS := hid (Qm.cornL_small hs)
  have cpos := Qm.cornL_pos (c := c) (by omega)
  have cle := Qm.cornL_le c
  have HB0 := hid (fun W' (h : PtsAt g c W') => best_any g n cap c hn h0 hs hn2 hu W' h)
  have LE := hid (show (Qm.cornL c).length = (Qm.cornN c).length by rw [CE.out]; simp [cpts])
  rw [LE.out] at cpos cle
  rw [← hn] at cle
  obtain ⟨cn, hcn⟩ : ∃ cn, cn = Qm.cornN c := ⟨_, rfl⟩
  rw [← hcn] at CI CL CE LE cpos cle
  clear hP hn hs hu hcn
  go_enter Tryz.func52, Tryz.ntmps52
  go_wp2_with fail
  have R0 := hid (Box2.new w (.slice none 0 0) (.int .i64 0) 67)
  refine (HB0.out _ (HP.out.on (B := w.heap.size) ((Below.refl _ _).alloc (Nat.le_refl _) _) hg)).mono ?_
  rintro e w1 ⟨gl, capl, L, rfl, hopt, hL, hb1⟩
  obtain rfl := CI.out.unique hopt
  have z1 := hb1.size
  simp at z1
  have HL := hid hL
  have hgl := hL.1
  have B1 := hid (show Below w.heap.size w w1 from Below.trans (b := _) (by go_grown) (hb1.mono (by simp)))
  have R1 := hid (R0.out.on hb1 (by simp))
  have HP1 := hid (HP.out.on B1.out hg)
  rw [show (cn ++ [n]).length = cn.length + 1 from by simp]
  clear hopt hL hb1 R0
  obtain ⟨m, hm⟩ : ∃ m, m = cn.length := ⟨_, rfl⟩
  rw [← hm] at cpos cle LE ⊢
  have HM := hid hm
  clear hm
  have S1 := hid (Box2.new w1 (.slice none 0 0) (.int .i64 0) 67)
  go_wp2_with fail
  go_loopw [5] (fun iv wr => ∃ (i : Nat) (v : Value), i ≤ m ∧ iv = .int .i64 i ∧ Hid (Box2 w1.heap.size v (.int .i64 0) wr) ∧ Hid (wr.ownsRow (w1.heap.size + 1) 65 2 v i (Qm.ptsV (cpts c (cn.take i)))) ∧ Hid (Below w1.heap.size w1 wr)) (fun i _ => m - (intOf i).toNat)
  case atStart => exact ⟨0, _, by omega, rfl, S1, World.ownsRow_nil _ _ _ _, (Below.refl _ _).alloc (Nat.le_refl _) _⟩
  case round =>
    clear S1
    obtain ⟨i, v, him, rfl, hS, hO, hB⟩ := hrel
    obtain ⟨s0, s1, s2, s3, s4⟩ := hS.out
    obtain ⟨ao, capo, hv, hcapo⟩ := own_cap hO.out
    subst hv
    by_cases hlt : i < m
    · have hic : i < cn.length := by rw [← HM.out]; exact hlt
      have e1 : (cn ++ [n]).getD i 0 = cn.getD i 0 := Qm.getD_app_l _ _ _ _ hic
      have c0 := (HL.out.on hB.out hgl).2 i (by simp; omega)
      rw [e1] at c0
      have qn := CL.out (cn.getD i 0) (by rw [List.getD_eq_getElem?_getD, List.getElem?_eq_getElem hic]; exact List.getElem_mem hic)
      have NX := hid (show cpts c (cn.take (i + 1)) = cpts c (cn.take i) ++ [c.getD (cn.getD i 0) (0, 0)] by
        rw [List.take_add_one, List.getElem?_eq_getElem hic]
        unfold cpts
        rw [List.map_append]
        simp [List.getD_eq_getElem?_getD, hic])
      obtain ⟨q, hq⟩ : ∃ q, q = cn.getD i 0 := ⟨_, rfl⟩
      rw [← hq] at c0 qn NX
      have pz := HP1.out.1
      have hz := hB.out.size
      obtain ⟨d0, d1⟩ := (HP1.out.on hB.out pz).2 q (by have := HN.out; omega)
      obtain ⟨⟨pa, pb⟩, hpp⟩ : ∃ p, p = c.getD q (0, 0) := ⟨_, rfl⟩
      rw [← hpp] at d0 d1 NX
      dsimp only at d0 d1
      have i1 : (0 : Int) ≤ (i : Nat) := by omega
      have i2 : ((i : Nat) : Int) < (m : Int) + 1 := by omega
      have i3 : (i : Int) + 1 < (m : Int) + 1 := by omega
      have q1 : (0 : Int) ≤ (q : Nat) := by omega
      have q2 : ((q : Nat) : Int) < (n : Nat) := by omega
      have m1 : i + 1 ≤ maxLen := by unfold maxLen; omega
      have m2 : (i + 1) * 16 ≤ 140737488355328 := by omega
      clear e1 hq hpp
      have hb1 : w1.heap.size + 1 ≤ ((wr.alloc (.cells #[.int .i64 pa, .int .i64 pb] 65)).drew).heap.size := by simp; omega
      have S8 := hid (show Box2 w1.heap.size (.slice ao i capo) (.int .i64 0) (wr.alloc (.cells #[.int .i64 pa, .int .i64 pb] 65)).drew from (hS.out.on (B := wr.heap.size) ((Below.refl _ _).alloc (Nat.le_refl _) _) s0).on (B := wr.heap.size) (w' := (wr.alloc (.cells #[.int .i64 pa, .int .i64 pb] 65)).drew) ⟨rfl, rfl, rfl, Nat.le_refl _, fun _ _ => rfl⟩ s0)
      have B8 := hid (show Below w1.heap.size w1 (wr.alloc (.cells #[.int .i64 pa, .int .i64 pb] 65)).drew from (hB.out.alloc hz _).trans ⟨rfl, rfl, rfl, Nat.le_refl _, fun _ _ => rfl⟩)
      have OB := hid (fun q hq => hO.out.lt q hq)
      go_wp2_with fail
      go_region_law
        ((refine step_append_lies _ (by rfl) _ _ _ (by rfl) (w1.heap.size + 1) 65 ip (.agg #[.int .i64 0, .int .i64 0]) 2 16 Tryz.underlying43 hip hp0 hp1 hp2 rfl (by omega) (.slice ao i capo) i (Qm.ptsV (cpts c (cn.take i))) (by rfl) ((hO.out.alloc _).drew) ⟨wr.heap.size, 0, none⟩ 1 1 [.int .i64 pa, .int .i64 pb] (by rfl) (by rfl) (World.news_of_block (cs := #[.int .i64 pa, .int .i64 pb]) (t := 65) (fr := (0, 0)) (heap_alloc_new wr _)) (by simp [Value.oneCell']) (by omega) m1 m2 hb1 (wr.heap.size + 1) (by simp) ?_; intro gg capg w7 O7 G7 A7 hlt7; have S9 := hid (S8.out.gb G7 (fun e => by have := (OB.out _ e).1; omega)); obtain ⟨t0, t1, t2, t3, t4⟩ := S9.out))
      all_goals (
        have o7 : w7.ownsRow (w1.heap.size + 1) 65 2 (.slice (some ⟨gg, 0, none⟩) (i + 1) capg) (i + 1) (Qm.ptsV (cpts c (cn.take (i + 1)))) := by rw [NX.out, Qm.ptsV_snoc]; exact O7
        have B9 := B8.out.grown G7 (show w1.heap.size ≤ _ by simp; omega) (fun q hq => by have := (OB.out q hq).1; omega)
        have O10 := hid (own_keep o7 (g := w1.heap.size) (by omega) (set_grown (Below.refl _ _) ⟨w1.heap.size, 0, none⟩ (v := .slice (some ⟨gg, 0, none⟩) (i + 1) capg)))
        have S10 := hid (S9.out.set0 (.slice (some ⟨gg, 0, none⟩) (i + 1) capg))
        have B10 := hid (B9.setCell (p := ⟨w1.heap.size, 0, none⟩) (show w1.heap.size ≤ w1.heap.size from Nat.le_refl _) (.slice (some ⟨gg, 0, none⟩) (i + 1) capg))
        clear O7 G7 A7 o7 B9
        go_wp2
        go_roundw
        case rel => exact ⟨i + 1, _, by omega, by go_num, S10, O10, B10⟩
        case measure => simp [intOf]; omega)
    · have ei : i = m := by omega
      subst ei
      have o2 : wr.ownsRow (w1.heap.size + 1) 65 2 (.slice ao i capo) i (Qm.ptsV (Qm.cornL c)) := by
        have := hO.out
        rw [HM.out, List.take_length, ← CE.out, ← HM.out] at this
        exact this
      obtain ⟨gs, caps, es, hgs, hps, -⟩ := own_at o2 cpos
      injection es with es1 _ es2
      subst es1
      subst es2
      have O2 := hid o2
      have HPS := hid hps
      have RR := hid (R1.out.on hB.out (by omega))
      have hle : w.heap.size < w1.heap.size := by omega
      clear o2 hps
      have i3 : ¬ (i : Int) + 1 < (i : Int) + 1 := by omega
      go_wp2_with fail
      refine (refTwice_any gs i capo (Qm.cornL c) LE.out.symm cpos CS.out (by omega) _ HPS.out).mono ?_
      rintro e w8 ⟨rfl, hb8⟩
      have S8 := hid (hS.out.on hb8 s0)
      have R8 := hid (RR.out.on hb8 (by have := hB.out.size; omega))
      have O8 := hid (own_below O2.out hb8)
      have B8 := hid (show Below w1.heap.size w1 w8 from hB.out.trans (hb8.mono hB.out.size))
      obtain ⟨tw, htw⟩ : ∃ tw, tw = Qm.twiceOf (Qm.cornL c) := ⟨_, rfl⟩
      rw [← htw]
      have HTW := hid htw
      clear hb8 htw s0 s1 s2 s3 s4
      obtain ⟨s0, s1, s2, s3, s4⟩ := S8.out
      obtain ⟨r0, r1, r2, r3, r4⟩ := R8.out
      have ne1 : ¬ w1.heap.size = w.heap.size := by omega
      go_wp2
      refine bodyPost_ret (v := .agg #[.slice (some ⟨gs, 0, none⟩) i capo, .int .i64 tw]) (by simp [results, Tryz.results52, go_sem, World.cell?_setCell_other, World.cell?_setCell_same', *]) rfl ?_
      refine ⟨_, by rw [HTW.out], ?_, ?_⟩
      · rw [LE.out]
        exact (own_keep (own_keep (own_keep O8.out (g := w1.heap.size) (by omega) (set_grown (Below.refl _ _) ⟨w1.heap.size, 1, none⟩)) (g := w.heap.size) (by omega) (set_grown (Below.refl _ _) ⟨w.heap.size, 0, none⟩)) (g := w.heap.size) (by omega) (set_grown (Below.refl _ _) ⟨w.heap.size, 1, none⟩)).mono (by omega)
      · exact (((B1.out.trans (B8.out.mono B1.out.size)).setCell (p := ⟨w1.heap.size, 1, none⟩) (by dsimp only; omega) _).setCell (p := ⟨w.heap.size, 0, none⟩) (Nat.le_refl _) _).setCell (p := ⟨w.heap.size, 1, none⟩) (Nat.le_refl _) _
end Go.Proofs.YtljfiefobnncaabGreatDoor

/- outlineref: Trace. -/
namespace Go.Proofs.YtljfiefobnncaabGreatDoor
open Go.RowKit

namespace Qm
theorem len_totS {R : List (Sd × Nat)} (h : ∀ c ∈ R, 0 < c.2) : R.length ≤ totS R R.length := by
  unfold totS
  rw [List.take_length]
  induction R with
  | nil => simp
  | cons c R ih =>
    have := ih fun c hc => h c (List.mem_cons_of_mem _ hc)
    have := h c (List.mem_cons_self ..)
    simp only [List.length_cons, List.map_cons, List.sum_cons]
    omega
theorem Res.len {bl jn : Int → Int → Bool} {R : List (Sd × Nat)} (h : Res (nx bl jn) (fun s => isS bl s = true) key R) {W H : Nat} (hp : Pic bl W H) (hw : W ≤ 32) (hh : H ≤ 32) : R.length ≤ 2178 := by
  have a := len_totS (R := R) fun c hc => (h.1 c hc).1.2.1
  have b := totS_all (nx bl jn) R
  have c := h.count hp
  have d := bx_cS bl (W + 1) (H + 1) (by omega) (by omega)
  omega
end Qm

set_option maxRecDepth 4000 in
set_option maxHeartbeats 400000 in
theorem refTrace_no (W H : Int) (s : ByteArray) (pol : Int) (draws : ByteArray) (spk : Int) (w : World) (hm : mayB W H s.data.toList pol spk = false) :
    Calls Tryz.prog 24 #[.agg #[.int .i64 W, .int .i64 H, .string s], .agg #[.int .i64 pol, .string draws, .int .i64 spk]] w fun e w' => e = .returned (.tuple #[.slice none 0 0, .int .i64 4]) ∧ Below w.heap.size w w' := by
  go_enter Tryz.func24, Tryz.ntmps24
  go_wp2_with fail
  refine (refCycles_no W H s pol draws spk _ hm).mono ?_
  rintro e w1 ⟨rfl, hb⟩
  have HB := hid hb
  clear hb
  go_wp2
  go_ret2
  exact ⟨rfl, Below.trans (b := _) (by go_grown) (HB.out.mono (by simp; omega))⟩

theorem new_at2 (w : World) (g : Nat) (a : Value) (b : Int) (ao : Option Addr × Nat × Nat) (t : TypeId) (ha : a = .slice ao.1 ao.2.1 ao.2.2) (hg : g = w.heap.size) : ∀ (j : Nat) (u : Value), [a, .int .i64 b][j]? = some u → (w.alloc (.cells #[a, .int .i64 b] t)).cell? ((⟨g, 0, none⟩ : Addr).add j) = some u := by
  subst hg
  exact vt_cells w a b t ao.1 ao.2.1 ao.2.2 ha

def RefTr (W H : Nat) (s : ByteArray) (pol : Nat) (draws : ByteArray) (spk : Int) (w : World) (vl : Value) (w' : World) : Prop :=
  ∃ (R : List (Qm.Sd × Nat)) (L : List (Value × List (Int × Int))), Qm.Res (fB W H s pol draws) (bB W H s) Qm.key R ∧ L.map (·.2) = Qm.polys (fB W H s pol draws) spk R ∧ RowP w.heap.size vl L w' ∧ Below w.heap.size w w'

set_option maxRecDepth 4000 in
set_option maxHeartbeats 2000000 in
theorem refTrace_yes (W H : Nat) (s : ByteArray) (pol : Nat) (draws : ByteArray) (spk : Int) (w : World) (hm : mayB W H s.data.toList pol spk = true) (hw1 : 1 ≤ W) (hw2 : W ≤ 32) (hh2 : H ≤ 32) (hl : s.size = W * H) (hp : pol ≤ 3) (s0 : 0 ≤ spk) (s1 : spk ≤ 1024) :
    Calls Tryz.prog 24 #[.agg #[.int .i64 W, .int .i64 H, .string s], .agg #[.int .i64 pol, .string draws, .int .i64 spk]] w fun e w' => ∃ vl, e = .returned (.tuple #[vl, .int .i64 0]) ∧ RefTr W H s pol draws spk w vl w' := by
  obtain ⟨i0, hi, hz0, hz1, hz2⟩ := info_parts infoShape
  have HL := hid hl
  clear hl
  go_enter Tryz.func24, Tryz.ntmps24
  go_wp2_with fail
  refine (refCycles_yes W H s pol draws spk _ hm hw1 hw2 hh2 HL.out hp).mono ?_
  rintro e w1 ⟨vl, rfl, Lc, hR, hRow, hb1⟩
  have B1 := hid (show Below w.heap.size w w1 from Below.trans (b := _) (by go_grown) (hb1.mono (by simp; omega)))
  have z1 := hb1.size
  simp at z1
  have c2 := (bcell hb1).1 (w.heap.size + 1) 2 (by simp)
  simp at c2
  have SH := hid hRow.shown
  obtain ⟨al, cl, rfl, hrow⟩ := SH.out.row
  have RES := hid hR
  have HROW := hid hrow
  have hLn := Qm.Res.len hR (Qm.pic_of W H s.data.toList hw2 hh2) hw2 hh2
  rw [List.length_map] at hLn
  clear hR hRow hrow hb1
  obtain ⟨R, hRR⟩ : ∃ R, R = Lc.map (·.2) := ⟨_, rfl⟩
  rw [← hRR] at RES
  have RR := hid hRR
  clear hRR
  obtain ⟨n, hn⟩ : ∃ n, n = Lc.length := ⟨_, rfl⟩
  have RL := hid (show R.length = n by rw [RR.out, List.length_map, hn])
  rw [← hn] at hLn HROW SH ⊢
  clear hn
  obtain ⟨f, hf⟩ : ∃ f, f = fB W H s pol draws := ⟨_, rfl⟩
  have SM := hid (show ∀ c ∈ R, Qm.Small (Qm.ptsOf f c) ∧ c.2 ≤ 4356 ∧ 0 < c.2 ∧ Qm.Unit (Qm.ptsOf f c ++ [Qm.fstP (Qm.ptsOf f c)]) from fun c hc => by rw [hf]; exact ⟨small_pts hw2 hh2 (RES.out.1 c hc).1, cyc_le hw2 hh2 (RES.out.1 c hc).1, (RES.out.1 c hc).1.2.1, (RES.out.1 c hc).1.unit⟩)
  rw [← hf] at SH HROW
  have TO := hid (show ∀ L vl' wr, L.map (·.2) = Qm.polys f spk (R.take n) → RowP w.heap.size vl' L wr → Below w.heap.size w wr → RefTr W H s pol draws spk w vl' wr from fun L vl' wr h1 h2 h3 => ⟨R, L, RES.out, by rw [h1, ← RL.out, List.take_length, hf], h2, h3⟩)
  clear hf
  go_wp2_with fail
  go_loopw [8, 9] (fun lv iv wr => ∃ (i : Nat) (L : List (Value × List (Int × Int))), i ≤ n ∧ iv = .int .i64 i ∧ L.length ≤ i ∧ L.map (·.2) = Qm.polys f spk (R.take i) ∧ RowP w1.heap.size lv L wr ∧ Below w1.heap.size w1 wr) (fun _ i _ => n - (intOf i).toNat)
  case atStart => exact ⟨0, [], by omega, rfl, by simp, rfl, RowP.nil _ _, Below.refl _ _⟩
  case round =>
    obtain ⟨i, L, hin, rfl, hLi, hpl, hrp, hb⟩ := hrel
    have HB := hid hb
    have RP := hid hrp
    have PL := hid hpl
    have hz := hb.size
    by_cases hlt : i < n
    · obtain ⟨gl, rfl, hgl, hc⟩ := HROW.out.resolve_left (by omega)
      have hlt' : (i : Int) < (n : Nat) := by omega
      have hi0' : (0 : Int) ≤ (i : Nat) := by omega
      have hiR : i < R.length := by rw [RL.out]; exact hlt
      obtain ⟨g, c, m0, hpt, d0, d1⟩ := SH.out.at' RR.out hc hiR
      obtain ⟨sm, hle, _, un⟩ := SM.out R[i] (List.getElem_mem hiR)
      have PN := hid (Qm.polys_next (f := f) (spk := spk) hiR)
      have tws := Qm.fsum_small sm (Qm.ptsOf f R[i]).length
      rw [← Qm.twiceOf_fsum, Qm.ptsOf_len] at tws
      have BG := hid (show Qm.bigB f spk R[i] = decide (2 * spk < Qm.absZ (Qm.twiceOf (Qm.ptsOf f R[i]))) from rfl)
      have PLN := Qm.ptsOf_len f R[i]
      obtain ⟨cy, hcy⟩ : ∃ cy, cy = R[i] := ⟨_, rfl⟩
      rw [← hcy] at m0 hpt d0 d1 sm hle PN tws BG PLN un
      obtain ⟨m, hm⟩ : ∃ m, m = cy.2 := ⟨_, rfl⟩
      rw [← hm] at m0 d0 hle tws PLN
      obtain ⟨ps, hps⟩ : ∃ ps, ps = Qm.ptsOf f cy := ⟨_, rfl⟩
      rw [← hps] at hpt d1 sm PN tws BG PLN un
      have hg : g < w1.heap.size := hpt.1
      have HPT := hid hpt
      have e0 := (hb.cell (p := ⟨gl, i * 2, none⟩) hgl).trans d0
      have e1 := (hb.cell (p := ⟨gl, i * 2 + 1, none⟩) hgl).trans d1
      have e2 := (hb.cell (p := ⟨w.heap.size + 1, 2, none⟩) (show w.heap.size + 1 < _ by omega)).trans c2
      have PG := hid (fun W' (h : Below w1.heap.size w1 W') => polygon_any g m c ps PLN.symm m0 sm hle un W' (HPT.out.on h hg))
      have cpos := Qm.cornL_pos (c := ps) (by omega)
      obtain ⟨tw, htw⟩ : ∃ tw, tw = Qm.twiceOf ps := ⟨_, rfl⟩
      rw [← htw] at e1 BG tws
      obtain ⟨bg, hbg⟩ : ∃ bg, bg = Qm.bigB f spk cy := ⟨_, rfl⟩
      rw [← hbg] at PN BG
      obtain ⟨cl', hcl'⟩ : ∃ q, q = Qm.cornL ps := ⟨_, rfl⟩
      rw [← hcl'] at PG PN cpos
      have hgl' : gl < wr.heap.size := by omega
      clear hb hrp hpl hpt hc d0 d1 hcy hm hps htw hbg hcl' sm un
      by_cases hneg : tw < 0
      all_goals (
        have AZ := hid (show Qm.absZ tw = if tw < 0 then -tw else tw from rfl)
        first | rw [if_pos hneg] at AZ | rw [if_neg hneg] at AZ
        rw [AZ.out] at BG
        cases bg
        · have q1 := of_decide_eq_false BG.out.symm
          go_wp2
          go_roundw
          case rel => exact ⟨i + 1, L, by omega, by go_num, by omega, by rw [PN.out]; exact PL.out, RP.out, HB.out⟩
          case measure => simp [intOf]; omega
        · have q1 := of_decide_eq_true BG.out.symm
          go_wp2_with fail
          refine (PG.out _ HB.out).mono ?_
          rintro e w3 ⟨v3, rfl, o3, b3⟩
          obtain ⟨g3, cap3, rfl, hg3, hp3, -⟩ := own_at o3 cpos
          have O3 := hid o3
          have HB3 := hid b3
          have z3 := b3.size
          clear o3 b3 hp3 e0 e1 e2
          obtain ⟨nc, hnc⟩ : ∃ nc, nc = cl'.length := ⟨_, rfl⟩
          rw [← hnc]
          have HNC := hid hnc
          clear hnc
          obtain ⟨t4, ht4⟩ : ∃ t4, t4 = Qm.twiceOf cl' := ⟨_, rfl⟩
          rw [← ht4]
          have HT4 := hid ht4
          clear ht4
          have n1 : L.length + 1 ≤ maxLen := by unfold maxLen; omega
          have n2 : (L.length + 1) * 32 ≤ 140737488355328 := by omega
          have W4 := hid (show Below w3.heap.size w3 (w3.alloc (.cells #[.slice (some ⟨g3, 0, none⟩) nc cap3, .int .i64 t4] 67)) from (Below.refl _ _).alloc (Nat.le_refl _) _)
          have R4 := hid ((RP.out.on HB3.out).on W4.out)
          have n3 : w1.heap.size ≤ ((w3.alloc (.cells #[.slice (some ⟨g3, 0, none⟩) nc cap3, .int .i64 t4] 67)).alloc (.cells #[.slice (some ⟨g3, 0, none⟩) nc cap3, .int .i64 t4] 67)).heap.size := by simp; omega
          go_wp2_with (first
            | (at_builtin; refine wpList_append_own_at _ rfl _ _ 33 rfl w1.heap.size 67 i0 (.agg #[.slice none 0 0, .int .i64 0]) 2 32 Tryz.underlying33 hi hz0 hz1 hz2 rfl (by decide) _ _ _ rfl (R4.out.row.alloc _) ⟨_, 0, none⟩ 1 1 [.slice (some ⟨g3, 0, none⟩) nc cap3, .int .i64 t4] rfl rfl (new_at2 _ _ _ _ (some ⟨g3, 0, none⟩, nc, cap3) _ rfl (by simp)) (vt_one _ _ _ _) n1 n2 n3 ?_))
          intro vl' w5 o5 g5 _ e5
          have RP5 := hid (RP.out.snoc (v := .slice (some ⟨g3, 0, none⟩) nc cap3) (l := cl') (vl' := vl') (by omega) HB3.out (by rw [HNC.out] at *; exact O3.out) cpos W4.out (by rw [← HT4.out]; exact o5) g5 (by simpa using e5))
          have B5 := hid (show Below w1.heap.size w1 w5 from (((HB.out.trans (HB3.out.mono (by omega))).alloc (by omega) _).alloc (by simp; omega) _).grown g5 n3 (fun q hq => (R4.out.row.lt q hq).1))
          clear o5 g5 e5
          go_wp2
          go_roundw
          case rel => exact ⟨i + 1, L ++ [(.slice (some ⟨g3, 0, none⟩) nc cap3, cl')], by omega, by go_num, by simp; omega, by rw [PN.out, List.map_append, PL.out]; rfl, RP5.out, B5.out⟩
          case measure => simp [intOf]; omega)
    · have ei : i = n := by omega
      subst ei
      have hlt' : ¬ (i : Int) < (i : Nat) := by omega
      go_wp2
      go_ret2
      exact ⟨_, rfl, TO.out L _ _ PL.out (RP.out.mono B1.out.size) (B1.out.trans (HB.out.mono B1.out.size))⟩
end Go.Proofs.YtljfiefobnncaabGreatDoor

/- outlinelaw: same, traced, Traces. -/
namespace Go.Proofs.YtljfiefobnncaabGreatDoor
open Go.RowKit
attribute [local go_sem ↓] Go.wp_at_zero Go.wp_at_succ

theorem may_spk {W H : Int} {l : List UInt8} {pol spk : Int} (h : mayB W H l pol spk = true) : 0 ≤ spk ∧ spk ≤ 1024 := by
  unfold mayB at h
  simp only [Bool.and_eq_true, decide_eq_true_eq] at h
  exact h.2
set_option maxRecDepth 4000 in
set_option maxHeartbeats 2000000 in
theorem traced_any (kb N : Nat) (vp vs : Value) (P S : List Rec) (W H : Int) (s : ByteArray) (pol : Int) (draws : ByteArray) (spk : Int) (w : World) (hO : OBook kb N vp vs P S w) (hN : N ≤ 1000000000) :
    Calls Tryz.prog 9 #[.pointer (some ⟨kb, 0, none⟩), .agg #[.int .i64 W, .int .i64 H, .string s], .agg #[.int .i64 pol, .string draws, .int .i64 spk]] w fun e w' => e = .returned (.bool true) ∧ ∃ N' vp' vs' P' S', OBook kb N' vp' vs' P' S' w' ∧ N' ≤ N + 1201 ∧ Fr (fun k => k = kb ∨ vp.ownBlock = some k ∨ vs.ownBlock = some k) w w' ∧ Kin vp vp' w ∧ Kin vs vs' w := by
  have HO := hid hO
  clear hO
  cases hm : mayB W H s.data.toList pol spk
  · go_enter Tryz.func9, Tryz.ntmps9
    go_wp2_with fail
    refine (trace_no W H s pol draws spk _ hm).mono ?_
    rintro e w1 ⟨rfl, b1⟩
    have B1 := hid (show Below w.heap.size w w1 from Below.trans (b := _) (by go_grown) (b1.mono (by simp; omega)))
    obtain ⟨hc, hf⟩ := bcell b1
    have z1 := b1.size
    simp at z1
    clear b1
    go_wp2_with fail
    refine (refTrace_no W H s pol draws spk _ hm).mono ?_
    rintro e w2 ⟨rfl, b2⟩
    have B2 := hid (B1.out.trans (b2.mono B1.out.size))
    clear b2 hc hf
    go_wp2_with fail
    refine (sameP_any (.slice none 0 0) (.slice none 0 0) [] [] _ rfl ((RowP.nil 0 _).shown (by simp)) ((RowP.nil 0 _).shown (by simp)) (by simp) (by simp)).mono ?_
    rintro e w3 ⟨rfl, b3⟩
    have B3 := hid (B2.out.trans (b3.mono B2.out.size))
    clear b3
    go_wp2_with fail
    refine (keepP_any 0 (.slice none 0 0) [] kb N vp vs P S _ (HO.out.below B3.out) (RowP.nil 0 _) (by simp) (by simp) (by simp) (by omega) (by simp) (fun k hk => by simp [Value.ownBlock] at hk)).mono ?_
    rintro e w4 ⟨rfl, N', vp', vs', P', S', ho, hn', hfr, kp, ks⟩
    have OB := hid ho
    have FR := hid hfr
    have KP := hid (show Kin vp vp' w from kp.imp id (fun ⟨q, h1, h2⟩ => ⟨q, h1, Nat.le_trans B3.out.size h2⟩))
    have KS := hid (show Kin vs vs' w from ks.imp id (fun ⟨q, h1, h2⟩ => ⟨q, h1, Nat.le_trans B3.out.size h2⟩))
    clear ho hfr kp ks
    go_wp2
    go_ret
    refine ⟨rfl, N', vp', vs', P', S', OB.out, by simp at hn'; omega, (Fr.below B3.out).trans (FR.out.imp ?_), KP.out, KS.out⟩
    intro k _ hk
    rcases hk with hk | hk | hk | hk | ⟨p, hp, _⟩
    · exact .inl hk
    · exact .inr (.inl hk)
    · exact .inr (.inr hk)
    · simp [Value.ownBlock] at hk
    · simp at hp
  · obtain ⟨hg, p0, p1⟩ := may_parts hm
    have sp := may_spk hm
    obtain ⟨W, H, rfl, rfl, h1, h2, h3, h4, h5⟩ := Pm.goodB_parts hg
    obtain ⟨pol, rfl⟩ : ∃ q : Nat, pol = q := ⟨pol.toNat, by omega⟩
    have hp3 : pol ≤ 3 := by omega
    have HL := hid h5
    clear h5 hg p0 p1
    go_enter Tryz.func9, Tryz.ntmps9
    go_wp2_with fail
    refine (trace_yes W H s pol draws spk _ hm h2 h4 HL.out hp3 sp.1 sp.2).mono ?_
    rintro e w1 ⟨vl, rfl, R, La, r1, p1, rw1, ln, b1⟩
    have B1 := hid (show Below w.heap.size w w1 from Below.trans (b := _) (by go_grown) (b1.mono (by simp; omega)))
    obtain ⟨hc, hf⟩ := bcell b1
    have z1 := b1.size
    simp at z1
    have R1 := hid r1
    have P1 := hid p1
    have RW1 := hid (show RowP (w.heap.size + 2) vl La w1 from rw1.mono (by simp))
    obtain ⟨ao, cap, rfl⟩ := own_len rw1.row
    clear b1 r1 rw1 p1
    go_wp2_with fail
    refine (refTrace_yes W H s pol draws spk _ hm h1 h2 h4 HL.out hp3 sp.1 sp.2).mono ?_
    rintro e w2 ⟨vm, rfl, R', Lm, r2, p2, rw2, b2⟩
    obtain rfl := R1.out.unique r2
    have B2 := hid (B1.out.trans (b2.mono B1.out.size))
    have P2 := hid p2
    have RF2 := hid rw2
    have RW2 := hid (RW1.out.on b2)
    obtain ⟨ao2, cap2, rfl⟩ := own_len rw2.row
    clear b2 hc hf r2 p2 rw2
    have PT := hid (show ∀ p : Value × List (Int × Int), p.2 ∈ Qm.polys (fB W H s pol draws) spk R → 0 < p.2.length ∧ p.2.length ≤ 4356 from fun p hp => by
      unfold Qm.polys at hp
      obtain ⟨c, hc, e⟩ := List.mem_map.1 hp
      have hcy := (R1.out.1 c (List.mem_filter.1 hc).1).1
      have h1 := Qm.cornL_le (Qm.ptsOf (fB W H s pol draws) c)
      have h3 := cyc_le h2 h4 hcy
      rw [Qm.ptsOf_len] at h1
      rw [← e]; exact ⟨Qm.cornL_pos (by rw [Qm.ptsOf_len]; exact hcy.2.1), by omega⟩)
    have POS := hid (show ∀ p ∈ La, 0 < p.2.length ∧ p.2.length ≤ 4356 from fun p hp => PT.out p (by rw [← P1.out]; exact List.mem_map_of_mem hp))
    have POM := hid (show ∀ p ∈ Lm, 0 < p.2.length from fun p hp => (PT.out p (by rw [← P2.out]; exact List.mem_map_of_mem hp)).1)
    have LN := hid (show La.length ≤ 1200 by
      have h1 := congrArg List.length P1.out
      unfold Qm.polys at h1
      simp only [List.length_map] at h1
      have := List.length_filter_le (Qm.bigB (fB W H s pol draws) spk) R
      omega)
    go_wp2_with fail
    refine (sameP_any _ _ La Lm _ (P1.out.trans P2.out.symm) (RW2.out.shown fun p hp => (POS.out p hp).1) (RF2.out.shown POM.out) (own_max RW2.out.row) (fun p hp => by have := (POS.out p hp).2; omega)).mono ?_
    rintro e w3 ⟨rfl, b3⟩
    have B3 := hid (B2.out.trans (b3.mono B2.out.size))
    have RW3 := hid (RW2.out.on b3)
    clear b3
    go_wp2_with fail
    refine (keepP_any (w.heap.size + 2) _ La kb N vp vs P S _ (HO.out.below B3.out) RW3.out (fun p hp => (POS.out p hp).1) (fun p hp => by have := (POS.out p hp).2; omega) (by have := LN.out; omega) (by omega) (fun p hp => apP_new HO.out (fun k hk => by have := ((RW3.out.pts p hp).lt k hk).1; omega)) (apP_new HO.out (fun k hk => by have := (RW3.out.row.lt k hk).1; omega))).mono ?_
    rintro e w4 ⟨rfl, N', vp', vs', P', S', ho, hn', hfr, kp, ks⟩
    have OB := hid ho
    have FR := hid hfr
    have KP := hid (show Kin vp vp' w from kp.imp id (fun ⟨q, h1, h2⟩ => ⟨q, h1, Nat.le_trans B3.out.size h2⟩))
    have KS := hid (show Kin vs vs' w from ks.imp id (fun ⟨q, h1, h2⟩ => ⟨q, h1, Nat.le_trans B3.out.size h2⟩))
    clear ho hfr kp ks
    go_wp2
    go_ret
    have z3 := B3.out.size
    have fr2 : Fr (fun k => k = kb ∨ vp.ownBlock = some k ∨ vs.ownBlock = some k) w w4 := by
      refine ⟨FR.out.os.trans B3.out.os, FR.out.tape.trans B3.out.tape, FR.out.output.trans B3.out.output, Nat.le_trans z3 FR.out.size, fun k hk hc => (FR.out.block k (by omega) (fun hc2 => ?_)).trans (B3.out.block k hk)⟩
      rcases hc2 with e | e | e | e | ⟨p, hp, e⟩
      · exact hc (.inl e)
      · exact hc (.inr (.inl e))
      · exact hc (.inr (.inr e))
      · have := (RW3.out.row.lt k e).1; omega
      · have := ((RW3.out.pts p hp).lt k e).1; omega
    exact ⟨rfl, N', vp', vs', P', S', OB.out, by have := LN.out; omega, fr2, KP.out, KS.out⟩

end Go.Proofs.YtljfiefobnncaabGreatDoor
/- files.Write. -/
namespace Go.Proofs.YtljfiefobnncaabGreatDoor
open Go.RowKit

theorem bcellW {W w1 : World} (hb : Below W.heap.size W w1) : (∀ b o, b < W.heap.size → w1.cell? ⟨b, o, none⟩ = W.cell? ⟨b, o, none⟩) ∧ (∀ b o, b < W.heap.size → w1.frozen? ⟨b, o, none⟩ = W.frozen? ⟨b, o, none⟩) :=
  ⟨fun b o h => hb.cell (p := ⟨b, o, none⟩) h, fun b o h => hb.frozen (p := ⟨b, o, none⟩) h⟩

set_option maxRecDepth 4000 in
set_option maxHeartbeats 400000 in
theorem filesWrite_no (W H : Int) (s : ByteArray) (w : World) (hg : Pm.goodB W H s.data.toList = false) :
    Calls Tryz.prog 39 #[.agg #[.int .i64 W, .int .i64 H, .string s]] w fun e w' => e = .returned (.tuple #[.string ⟨#[]⟩, .int .i64 4]) ∧ Below w.heap.size w w' := by
  go_enter Tryz.func39, Tryz.ntmps39
  go_wp2_with (go_at_call 65; refine (isOne_any W H s _).mono ?_; rintro e w' ⟨rfl, rfl⟩; rw [hg])
  go_ret2
  exact ⟨rfl, ((Below.refl _ _).alloc (Nat.le_refl _) _).alloc (by simp) _⟩

set_option maxRecDepth 4000 in
set_option maxHeartbeats 400000 in
theorem filesWrite_yes (W H : Nat) (s : ByteArray) (w : World) (hw1 : 1 ≤ W) (hw2 : W ≤ 32) (hh1 : 1 ≤ H) (hh2 : H ≤ 32) (hl : s.size = W * H) (hg : Pm.goodB W H s.data.toList = true) :
    Calls Tryz.prog 39 #[.agg #[.int .i64 W, .int .i64 H, .string s]] w fun e w' => e = .returned (.tuple #[.string ⟨(Pm.writeTo W H s.data.toList H).toArray⟩, .int .i64 0]) ∧ Below w.heap.size w w' := by
  have HL := hid hl
  have hg2 := hid hg
  clear hl hg
  have iw := Pm.itoaL_len W
  have ih := Pm.itoaL_len H
  go_enter Tryz.func39, Tryz.ntmps39
  go_wp2_with (first
    | (go_at_call 65; refine (isOne_any W H s _).mono ?_; rintro e w' ⟨rfl, rfl⟩; rw [hg2.out])
    | (go_at_call_of 41 (Value.int .i64 (W : Nat)); refine (itoa_any W (by omega) _).mono ?_; rintro e w' ⟨rfl, rfl⟩)
    | (go_at_call_of 41 (Value.int .i64 (H : Nat)); refine (itoa_any H (by omega) _).mono ?_; rintro e w' ⟨rfl, rfl⟩))
  go_loopw [6, 7] (fun f i wr => ∃ (y : Nat) (F : ByteArray), y ≤ H ∧ i = .int .i64 y ∧ f = .string F ∧ Hid (F.data.toList = Pm.writeTo W H s.data.toList y) ∧ F.size ≤ 20 + 4 * y ∧ wr.cell? ⟨w.heap.size, 0, none⟩ = some (.int .i64 W) ∧ wr.cell? ⟨w.heap.size, 1, none⟩ = some (.int .i64 H) ∧ wr.cell? ⟨w.heap.size, 2, none⟩ = some (.string s) ∧ Below w.heap.size w wr ∧ w.heap.size < wr.heap.size) (fun _ i _ => H - (intOf i).toNat)
  case atStart => exact ⟨0, _, by omega, rfl, rfl, Pm.head_data W H, Pm.head_size W H, by simp, by simp, by simp, ((Below.refl _ _).alloc (Nat.le_refl _) _).alloc (by simp) _, by simp; omega⟩
  case round =>
    obtain ⟨y, F, hy, rfl, rfl, hF, hFs, c0, c1, c2, hnx, hsz⟩ := hrel
    by_cases hlt : y < H
    · have sp := Pm.span W H y hlt
      have ar := Pm.area_nat W H hw2 hh2
      obtain ⟨a, ha⟩ : ∃ a, a = y * W := ⟨_, rfl⟩
      obtain ⟨b, hb⟩ : ∃ b, b = (y + 1) * W := ⟨_, rfl⟩
      have hl := HL.out
      have ea : (y : Int) * (W : Int) = (a : Nat) := by rw [ha]; simp
      have eb : ((y : Int) + 1) * (W : Int) = (b : Nat) := by rw [hb]; simp
      have hab : a ≤ b := by omega
      have hbs : b ≤ s.size := by omega
      have hb4 : b ≤ 1024 := by omega
      have hab2 : b - a = W := by omega
      have HA := hid ha
      have HB := hid hb
      clear ha hb hl sp ar
      have R := Pm.extract_row s W y a b HA.out HB.out
      have he : (s.extract a b).size = b - a := by simp; omega
      have HE := hid he
      have hp := Pm.packRow_len (Pm.rowOf s.data.toList W y)
      have hrl := Pm.rowOf_len s.data.toList W H y (by simpa using HL.out) hlt
      have hpl : (Pm.packRow (Pm.rowOf s.data.toList W y)).length ≤ 4 := by omega
      have HR := hid R
      clear he R hp hrl
      go_wp2_with fail
      refine (packRow_any (s.extract a b) (by rw [HE.out]; omega) (by rw [HE.out]; omega) _).mono ?_
      rintro e w2 ⟨rfl, hb2⟩
      rw [HR.out]
      have d0 := (hb2.cell (p := ⟨w.heap.size, 0, none⟩) hsz).trans c0
      have d1 := (hb2.cell (p := ⟨w.heap.size, 1, none⟩) hsz).trans c1
      have d2 := (hb2.cell (p := ⟨w.heap.size, 2, none⟩) hsz).trans c2
      have hnx2 := hnx.trans (hb2.mono (Nat.le_of_lt hsz))
      have hsz2 := hb2.size
      clear hb2 c0 c1 c2
      go_wp2
      go_roundw
      case rel => exact ⟨y + 1, _, by omega, by go_num, rfl, Pm.step_data F W H y s.data.toList hF.out, Pm.step_size F _ y hFs hpl, d0, d1, d2, hnx2, by omega⟩
      case measure => simp [intOf]; omega
    · go_wp2
      go_ret2
      refine ⟨?_, hnx⟩
      rw [Pm.of_data F _ hF.out, show y = H from by omega]; rfl
end Go.Proofs.YtljfiefobnncaabGreatDoor

/- outline.Write and the law Writes, out of the contracts. -/
namespace Go.Proofs.YtljfiefobnncaabGreatDoor
open Go.RowKit

/-- What both sides write. -/
def writeOut (W H : Int) (s : ByteArray) (r : ByteArray) (n : Int) : Prop :=
  (Pm.goodB W H s.data.toList = false ∧ r = ⟨#[]⟩ ∧ n = 4) ∨ (Pm.goodB W H s.data.toList = true ∧ r = ⟨(Pm.writeTo W.toNat H.toNat s.data.toList H.toNat).toArray⟩ ∧ n = 0)

theorem filesWrite_any (W H : Int) (s : ByteArray) (w : World) :
    Calls Tryz.prog 39 #[.agg #[.int .i64 W, .int .i64 H, .string s]] w fun e w' => ∃ r n, e = .returned (.tuple #[.string r, .int .i64 n]) ∧ writeOut W H s r n ∧ Below w.heap.size w w' := by
  cases hg : Pm.goodB W H s.data.toList
  · exact (filesWrite_no W H s w hg).mono fun e w' ⟨he, hb⟩ => ⟨_, _, he, .inl ⟨hg, rfl, rfl⟩, hb⟩
  · obtain ⟨a, b, rfl, rfl, h1, h2, h3, h4, h5⟩ := Pm.goodB_parts hg
    exact (filesWrite_yes a b s w h1 h2 h3 h4 (by simpa using h5) hg).mono fun e w' ⟨he, hb⟩ => ⟨_, _, he, .inr ⟨hg, rfl, rfl⟩, hb⟩

theorem refWrite_any (W H : Int) (s : ByteArray) (w : World) :
    Calls Tryz.prog 18 #[.agg #[.int .i64 W, .int .i64 H, .string s]] w fun e w' => ∃ r n, e = .returned (.tuple #[.string r, .int .i64 n]) ∧ writeOut W H s r n ∧ Below w.heap.size w w' := by
  cases hg : Pm.goodB W H s.data.toList
  · exact (refWrite_no W H s w hg).mono fun e w' ⟨he, hb⟩ => ⟨_, _, he, .inl ⟨hg, rfl, rfl⟩, hb⟩
  · obtain ⟨a, b, rfl, rfl, h1, h2, h3, h4, h5⟩ := Pm.goodB_parts hg
    exact (refWrite_yes a b s w h1 h2 h3 h4 (by simpa using h5) hg).mono fun e w' ⟨he, hb⟩ => ⟨_, _, he, .inr ⟨hg, rfl, rfl⟩, hb⟩

theorem writeOut_one {W H : Int} {s r1 r2 : ByteArray} {n1 n2 : Int} (h1 : writeOut W H s r1 n1) (h2 : writeOut W H s r2 n2) : r1 = r2 ∧ n1 = n2 := by
  rcases h1 with ⟨a, rfl, rfl⟩ | ⟨a, rfl, rfl⟩ <;> rcases h2 with ⟨b, rfl, rfl⟩ | ⟨b, rfl, rfl⟩
  · exact ⟨rfl, rfl⟩
  · rw [a] at b; cases b
  · rw [a] at b; cases b
  · exact ⟨rfl, rfl⟩

set_option maxRecDepth 4000 in
set_option maxHeartbeats 400000 in
theorem outlineWrite_any (W H : Int) (s : ByteArray) (w : World) :
    Calls Tryz.prog 17 #[.agg #[.int .i64 W, .int .i64 H, .string s]] w fun e w' => ∃ r n, e = .returned (.tuple #[.string r, .int .i64 n]) ∧ writeOut W H s r n ∧ Below w.heap.size w w' := by
  go_enter Tryz.func17, Tryz.ntmps17
  go_wp2_with (go_at_call 39; refine (filesWrite_any W H s _).mono ?_; rintro e w' ⟨r, n, rfl, ho, hb⟩)
  go_ret2
  exact ⟨r, n, rfl, ho, ((Below.refl _ _).alloc (Nat.le_refl _) _).trans (hb.mono (by simp))⟩

set_option maxRecDepth 4000 in
set_option maxHeartbeats 400000 in
theorem writes_calls (W H : Int) (s : ByteArray) (w : World) :
    Calls Tryz.prog 7 #[.agg #[.int .i64 W, .int .i64 H, .string s]] w fun e w' => e = .returned (.bool true) ∧ Below w.heap.size w w' := by
  go_enter Tryz.func7, Tryz.ntmps7
  go_wp2_with fail
  refine (outlineWrite_any W H s _).mono ?_
  rintro e w1 ⟨r, n, rfl, ho, hb⟩
  have hz := hb.size
  simp at hz
  have d0 := (hb.cell (p := ⟨w.heap.size, 0, none⟩) (by simp))
  have d1 := (hb.cell (p := ⟨w.heap.size, 1, none⟩) (by simp))
  have d2 := (hb.cell (p := ⟨w.heap.size, 2, none⟩) (by simp))
  simp at d0 d1 d2
  go_wp2_with fail
  refine (refWrite_any W H s _).mono ?_
  rintro e w2 ⟨r2, n2, rfl, ho2, hb2⟩
  obtain ⟨rfl, rfl⟩ := writeOut_one ho ho2
  go_wp2
  go_ret
  exact ⟨rfl, ((((Below.refl _ _).alloc (Nat.le_refl _) _).trans (hb.mono (by simp))).trans (hb2.mono (by omega)))⟩
end Go.Proofs.YtljfiefobnncaabGreatDoor

/- A block of three cells. -/
namespace Go.Proofs.YtljfiefobnncaabGreatDoor
open Go.RowKit

/-- A block of three cells at B, that may be written; below it all is as it was. -/
def Box3 (B : Nat) (a b c : Value) (w wr : World) : Prop :=
  (wr.cell? ⟨B, 0, none⟩ = some a ∧ wr.cell? ⟨B, 1, none⟩ = some b ∧ wr.cell? ⟨B, 2, none⟩ = some c) ∧
  (wr.frozen? ⟨B, 0, none⟩ = false ∧ wr.frozen? ⟨B, 1, none⟩ = false ∧ wr.frozen? ⟨B, 2, none⟩ = false) ∧ Below B w wr ∧ B < wr.heap.size
theorem Box3.on {B : Nat} {a b c : Value} {w wr w2 : World} (h : Box3 B a b c w wr) (hb : Below wr.heap.size wr w2) : Box3 B a b c w w2 := by
  obtain ⟨⟨c0, c1, c2⟩, ⟨f0, f1, f2⟩, hn, hz⟩ := h
  exact ⟨⟨(hb.cell (p := ⟨B, 0, none⟩) hz).trans c0, (hb.cell (p := ⟨B, 1, none⟩) hz).trans c1, (hb.cell (p := ⟨B, 2, none⟩) hz).trans c2⟩,
    ⟨(hb.frozen (p := ⟨B, 0, none⟩) hz).trans f0, (hb.frozen (p := ⟨B, 1, none⟩) hz).trans f1, (hb.frozen (p := ⟨B, 2, none⟩) hz).trans f2⟩, hn.trans (hb.mono (Nat.le_of_lt hz)), Nat.lt_of_lt_of_le hz hb.size⟩
theorem Box3.new (w : World) (a b c : Value) (t : TypeId) : Box3 w.heap.size a b c w (w.alloc (.cells #[a, b, c] t)) :=
  ⟨⟨by simp, by simp, by simp⟩, ⟨by simp, by simp, by simp⟩, (Below.refl _ _).alloc (Nat.le_refl _) _, by simp⟩
theorem Box3.alloc {B : Nat} {a b c : Value} {w wr : World} (h : Box3 B a b c w wr) (o : Obj) : Box3 B a b c w (wr.alloc o) :=
  h.on ((Below.refl _ _).alloc (Nat.le_refl _) _)
end Go.Proofs.YtljfiefobnncaabGreatDoor
