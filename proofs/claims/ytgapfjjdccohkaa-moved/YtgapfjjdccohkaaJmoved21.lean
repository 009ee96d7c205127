import Derived.Test.YtgapfjjdccohkaaJmoved20
import Derived.Test.YtgapfjjdccohkaaJmoved18

/- outlineref: Polygon. -/
namespace Go.Proofs.Ytgapfjjdccohkaa
open Go.RowKit
attribute [local go_sem ↓] Go.wp_at_zero Go.wp_at_succ

namespace Qm
theorem Pth.le {v : List Pt} {i j : Nat} {l : List Nat} (h : Pth (okV v) i j l) : ∀ x ∈ l, x ≤ j := by
  induction h with
  | one i => intro x hx; simp at hx; omega
  | cons i k j l ho hp ih =>
    intro x hx
    rcases List.mem_cons.1 hx with h | h
    · have := hp.len.1; have := ho.1; omega
    · exact ih x h
theorem cornN_lt {c : List Pt} (h0 : 0 < c.length) (hu : Unit (c ++ [fstP c])) : ∀ x ∈ cornN c, x < c.length := by
  intro x hx
  rcases (cornN_is h0 hu).1.unsnoc with ⟨h, _⟩ | ⟨k, m, e, hp, hk⟩
  · omega
  · have e2 : cornN c = m := List.append_cancel_right e
    rw [e2] at hx
    have := hp.le x hx
    have := hk.1
    omega
end Qm

/-- A box of two cells. -/
def Box2 (b : Nat) (x y : Value) (w : World) : Prop := b < w.heap.size ∧ w.cell? ⟨b, 0, none⟩ = some x ∧ w.cell? ⟨b, 1, none⟩ = some y ∧ w.frozen? ⟨b, 0, none⟩ = false ∧ w.frozen? ⟨b, 1, none⟩ = false
theorem Box2.new (w : World) (x y : Value) (t : TypeId) : Box2 w.heap.size x y (w.alloc (.cells #[x, y] t)) := ⟨by simp, by simp, by simp, by simp, by simp⟩
theorem Box2.on {b B : Nat} {x y : Value} {w w' : World} (h : Box2 b x y w) (hb : Below B w w') (hB : b < B) : Box2 b x y w' :=
  ⟨Nat.lt_of_lt_of_le h.1 hb.size, (hb.cell (p := ⟨b, 0, none⟩) hB).trans h.2.1, (hb.cell (p := ⟨b, 1, none⟩) hB).trans h.2.2.1, (hb.frozen (p := ⟨b, 0, none⟩) hB).trans h.2.2.2.1, (hb.frozen (p := ⟨b, 1, none⟩) hB).trans h.2.2.2.2⟩
theorem Box2.gb {b : Nat} {x y : Value} {w w' : World} {r : Option Nat} (h : Box2 b x y w) (hb : w.grownBy w' r) (hne : r ≠ some b) : Box2 b x y w' := by
  have e := hb.block b h.1 (Ne.symm hne)
  have C : ∀ j, w'.cell? ⟨b, j, none⟩ = w.cell? ⟨b, j, none⟩ := fun j => World.cell?_of_block (a := ⟨b, j, none⟩) e
  exact ⟨Nat.lt_of_lt_of_le h.1 hb.size, (C _).trans h.2.1, (C _).trans h.2.2.1, by have := h.2.2.2.1; unfold World.frozen? at this ⊢; rw [e]; exact this, by have := h.2.2.2.2; unfold World.frozen? at this ⊢; rw [e]; exact this⟩
theorem Box2.set0 {b : Nat} {x y : Value} {w : World} (h : Box2 b x y w) (u : Value) : Box2 b u y (w.setCell ⟨b, 0, none⟩ u) :=
  ⟨by rw [World.size_setCell]; exact h.1, World.cell?_setCell_same _ _ _ h.2.1, (World.cell?_setCell_other _ _ _ _ (by simp)).trans h.2.2.1, by simpa using h.2.2.2.1, by simpa using h.2.2.2.2⟩
theorem Box2.set1 {b : Nat} {x y : Value} {w : World} (h : Box2 b x y w) (u : Value) : Box2 b x u (w.setCell ⟨b, 1, none⟩ u) :=
  ⟨by rw [World.size_setCell]; exact h.1, (World.cell?_setCell_other _ _ _ _ (by simp)).trans h.2.1, World.cell?_setCell_same _ _ _ h.2.2.1, by simpa using h.2.2.2.1, by simpa using h.2.2.2.2⟩

set_option maxRecDepth 4000 in
set_option maxHeartbeats 4000000 in
theorem polygon_any (g n cap : Nat) (c : List (Int × Int)) (hn : n = c.length) (h0 : 0 < n) (hs : Qm.Small c) (hn2 : n ≤ 4356) (hu : Qm.Unit (c ++ [Qm.fstP c])) (w : World) (hP : PtsAt g c w) :
    Calls Try.prog 53 #[.slice (some ⟨g, 0, none⟩) n cap] w fun e w' => ∃ v, e = .returned (.agg #[v, .int .i64 (Qm.twiceOf (Qm.cornL c))]) ∧ w'.ownsRow w.heap.size 47 2 v (Qm.cornL c).length (Qm.ptsV (Qm.cornL c)) ∧ Below w.heap.size w w' := by
  obtain ⟨ip, hip, hp0, hp1, hp2⟩ := info_parts infoPoint
  have HP := hid hP
  have hg := hP.1
  have HN := hid hn
  have CI := hid (show Qm.Opt (Qm.okV (c ++ [Qm.fstP c])) (Qm.cV (c ++ [Qm.fstP c])) 0 n (Qm.cornN c ++ [n]) by rw [hn]; exact Qm.cornN_is (by omega) hu)
  have CL := hid (show ∀ x ∈ Qm.cornN c, x < n by rw [hn]; exact Qm.cornN_lt (by omega) hu)
  have CE := hid (show Qm.cornL c = cpts c (Qm.cornN c) from rfl)
  have CS := hid (Qm.cornL_small hs)
  have cpos := Qm.cornL_pos (c := c) (by omega)
  have cle := Qm.cornL_le c
  have HB0 := hid (fun W' (h : PtsAt g c W') => best_any g n cap c hn h0 hs hn2 hu W' h)
  have LE := hid (show (Qm.cornL c).length = (Qm.cornN c).length by rw [CE.out]; simp [cpts])
  rw [LE.out] at cpos cle
  rw [← hn] at cle
  obtain ⟨cn, hcn⟩ : ∃ cn, cn = Qm.cornN c := ⟨_, rfl⟩
  rw [← hcn] at CI CL CE LE cpos cle
  clear hP hn hs hu hcn
  go_enter Try.func53, Try.ntmps53
  go_wp2_with fail
  have R0 := hid (Box2.new w (.slice none 0 0) (.int .i64 0) 43)
  refine (HB0.out _ (HP.out.on (B := w.heap.size) ((Below.refl _ _).alloc (Nat.le_refl _) _) hg)).mono ?_
  rintro e w1 ⟨gl, capl, L, rfl, hopt, hL, hb1⟩
  obtain rfl := CI.out.unique hopt
  have z1 := hb1.size
  simp at z1
  have HL := hid hL
  have hgl := hL.1
  have B1 := hid (show Below w.heap.size w w1 from Below.trans (b := _) (by go_grown) (hb1.mono (by simp)))
  have R1 := hid (R0.out.on hb1 (by simp))
  have HP1 := hid (HP.out.on B1.out hg)
  rw [show (cn ++ [n]).length = cn.length + 1 from by simp]
  clear hopt hL hb1 R0
  obtain ⟨m, hm⟩ : ∃ m, m = cn.length := ⟨_, rfl⟩
  rw [← hm] at cpos cle LE ⊢
  have HM := hid hm
  clear hm
  have S1 := hid (Box2.new w1 (.slice none 0 0) (.int .i64 0) 43)
  go_wp2_with fail
  go_loopw [5] (fun iv wr => ∃ (i : Nat) (v : Value), i ≤ m ∧ iv = .int .i64 i ∧ Hid (Box2 w1.heap.size v (.int .i64 0) wr) ∧ Hid (wr.ownsRow (w1.heap.size + 1) 47 2 v i (Qm.ptsV (cpts c (cn.take i)))) ∧ Hid (Below w1.heap.size w1 wr)) (fun i _ => m - (intOf i).toNat)
  case atStart => exact ⟨0, _, by omega, rfl, S1, World.ownsRow_nil _ _ _ _, (Below.refl _ _).alloc (Nat.le_refl _) _⟩
  case round =>
    clear S1
    obtain ⟨i, v, him, rfl, hS, hO, hB⟩ := hrel
    obtain ⟨s0, s1, s2, s3, s4⟩ := hS.out
    obtain ⟨ao, capo, hv, hcapo⟩ := own_cap hO.out
    subst hv
    by_cases hlt : i < m
    · have hic : i < cn.length := by rw [← HM.out]; exact hlt
      have e1 : (cn ++ [n]).getD i 0 = cn.getD i 0 := Qm.getD_app_l _ _ _ _ hic
      have c0 := (HL.out.on hB.out hgl).2 i (by simp; omega)
      rw [e1] at c0
      have qn := CL.out (cn.getD i 0) (by rw [List.getD_eq_getElem?_getD, List.getElem?_eq_getElem hic]; exact List.getElem_mem hic)
      have NX := hid (show cpts c (cn.take (i + 1)) = cpts c (cn.take i) ++ [c.getD (cn.getD i 0) (0, 0)] by
        rw [List.take_add_one, List.getElem?_eq_getElem hic]
        unfold cpts
        rw [List.map_append]
        simp [List.getD_eq_getElem?_getD, hic])
      obtain ⟨q, hq⟩ : ∃ q, q = cn.getD i 0 := ⟨_, rfl⟩
      rw [← hq] at c0 qn NX
      have pz := HP1.out.1
      have hz := hB.out.size
      obtain ⟨d0, d1⟩ := (HP1.out.on hB.out pz).2 q (by have := HN.out; omega)
      obtain ⟨⟨pa, pb⟩, hpp⟩ : ∃ p, p = c.getD q (0, 0) := ⟨_, rfl⟩
      rw [← hpp] at d0 d1 NX
      dsimp only at d0 d1
      have i1 : (0 : Int) ≤ (i : Nat) := by omega
      have i2 : ((i : Nat) : Int) < (m : Int) + 1 := by omega
      have i3 : (i : Int) + 1 < (m : Int) + 1 := by omega
      have q1 : (0 : Int) ≤ (q : Nat) := by omega
      have q2 : ((q : Nat) : Int) < (n : Nat) := by omega
      have m1 : i + 1 ≤ maxLen := by unfold maxLen; omega
      have m2 : (i + 1) * 16 ≤ 140737488355328 := by omega
      clear e1 hq hpp
      have hb1 : w1.heap.size + 1 ≤ ((wr.alloc (.cells #[.int .i64 pa, .int .i64 pb] 47)).drew).heap.size := by simp; omega
      have S8 := hid (show Box2 w1.heap.size (.slice ao i capo) (.int .i64 0) (wr.alloc (.cells #[.int .i64 pa, .int .i64 pb] 47)).drew from (hS.out.on (B := wr.heap.size) ((Below.refl _ _).alloc (Nat.le_refl _) _) s0).on (B := wr.heap.size) (w' := (wr.alloc (.cells #[.int .i64 pa, .int .i64 pb] 47)).drew) ⟨rfl, rfl, rfl, Nat.le_refl _, fun _ _ => rfl⟩ s0)
      have B8 := hid (show Below w1.heap.size w1 (wr.alloc (.cells #[.int .i64 pa, .int .i64 pb] 47)).drew from (hB.out.alloc hz _).trans ⟨rfl, rfl, rfl, Nat.le_refl _, fun _ _ => rfl⟩)
      have OB := hid (fun q hq => hO.out.lt q hq)
      go_wp2_with fail
      go_region_law
        ((refine step_append_lies _ (by rfl) _ _ _ (by rfl) (w1.heap.size + 1) 47 ip (.agg #[.int .i64 0, .int .i64 0]) 2 16 Try.underlying41 hip hp0 hp1 hp2 rfl (by omega) (.slice ao i capo) i (Qm.ptsV (cpts c (cn.take i))) (by rfl) ((hO.out.alloc _).drew) ⟨wr.heap.size, 0, none⟩ 1 1 [.int .i64 pa, .int .i64 pb] (by rfl) (by rfl) (World.news_of_block (cs := #[.int .i64 pa, .int .i64 pb]) (t := 47) (fr := (0, 0)) (heap_alloc_new wr _)) (by simp [Value.oneCell']) (by omega) m1 m2 hb1 (wr.heap.size + 1) (by simp) ?_; intro gg capg w7 O7 G7 A7 hlt7; have S9 := hid (S8.out.gb G7 (fun e => by have := (OB.out _ e).1; omega)); obtain ⟨t0, t1, t2, t3, t4⟩ := S9.out))
      all_goals (
        have o7 : w7.ownsRow (w1.heap.size + 1) 47 2 (.slice (some ⟨gg, 0, none⟩) (i + 1) capg) (i + 1) (Qm.ptsV (cpts c (cn.take (i + 1)))) := by rw [NX.out, Qm.ptsV_snoc]; exact O7
        have B9 := B8.out.grown G7 (show w1.heap.size ≤ _ by simp; omega) (fun q hq => by have := (OB.out q hq).1; omega)
        have O10 := hid (own_keep o7 (g := w1.heap.size) (by omega) (set_grown (Below.refl _ _) ⟨w1.heap.size, 0, none⟩ (v := .slice (some ⟨gg, 0, none⟩) (i + 1) capg)))
        have S10 := hid (S9.out.set0 (.slice (some ⟨gg, 0, none⟩) (i + 1) capg))
        have B10 := hid (B9.setCell (p := ⟨w1.heap.size, 0, none⟩) (show w1.heap.size ≤ w1.heap.size from Nat.le_refl _) (.slice (some ⟨gg, 0, none⟩) (i + 1) capg))
        clear O7 G7 A7 o7 B9
        go_wp2
        go_roundw
        case rel => exact ⟨i + 1, _, by omega, by go_num, S10, O10, B10⟩
        case measure => simp [intOf]; omega)
    · have ei : i = m := by omega
      subst ei
      have o2 : wr.ownsRow (w1.heap.size + 1) 47 2 (.slice ao i capo) i (Qm.ptsV (Qm.cornL c)) := by
        have := hO.out
        rw [HM.out, List.take_length, ← CE.out, ← HM.out] at this
        exact this
      obtain ⟨gs, caps, es, hgs, hps, -⟩ := own_at o2 cpos
      injection es with es1 _ es2
      subst es1
      subst es2
      have O2 := hid o2
      have HPS := hid hps
      have RR := hid (R1.out.on hB.out (by omega))
      have hle : w.heap.size < w1.heap.size := by omega
      clear o2 hps
      have i3 : ¬ (i : Int) + 1 < (i : Int) + 1 := by omega
      go_wp2_with fail
      refine (refTwice_any gs i capo (Qm.cornL c) LE.out.symm cpos CS.out (by omega) _ HPS.out).mono ?_
      rintro e w8 ⟨rfl, hb8⟩
      have S8 := hid (hS.out.on hb8 s0)
      have R8 := hid (RR.out.on hb8 (by have := hB.out.size; omega))
      have O8 := hid (own_below O2.out hb8)
      have B8 := hid (show Below w1.heap.size w1 w8 from hB.out.trans (hb8.mono hB.out.size))
      obtain ⟨tw, htw⟩ : ∃ tw, tw = Qm.twiceOf (Qm.cornL c) := ⟨_, rfl⟩
      rw [← htw]
      have HTW := hid htw
      clear hb8 htw s0 s1 s2 s3 s4
      obtain ⟨s0, s1, s2, s3, s4⟩ := S8.out
      obtain ⟨r0, r1, r2, r3, r4⟩ := R8.out
      have ne1 : ¬ w1.heap.size = w.heap.size := by omega
      go_wp2
      refine bodyPost_ret (v := .agg #[.slice (some ⟨gs, 0, none⟩) i capo, .int .i64 tw]) (by simp [results, Try.results53, go_sem, World.cell?_setCell_other, World.cell?_setCell_same', *]) rfl ?_
      refine ⟨_, by rw [HTW.out], ?_, ?_⟩
      · rw [LE.out]
        exact (own_keep (own_keep (own_keep O8.out (g := w1.heap.size) (by omega) (set_grown (Below.refl _ _) ⟨w1.heap.size, 1, none⟩)) (g := w.heap.size) (by omega) (set_grown (Below.refl _ _) ⟨w.heap.size, 0, none⟩)) (g := w.heap.size) (by omega) (set_grown (Below.refl _ _) ⟨w.heap.size, 1, none⟩)).mono (by omega)
      · exact (((B1.out.trans (B8.out.mono B1.out.size)).setCell (p := ⟨w1.heap.size, 1, none⟩) (by dsimp only; omega) _).setCell (p := ⟨w.heap.size, 0, none⟩) (Nat.le_refl _) _).setCell (p := ⟨w.heap.size, 1, none⟩) (Nat.le_refl _) _
end Go.Proofs.Ytgapfjjdccohkaa

/- outlineref.Cycles: what holds in its inner loop, and behind it. -/
namespace Go.Proofs.Ytgapfjjdccohkaa
open Go.RowKit

/-- What holds behind m steps from s0. -/
structure RI (W H : Nat) (s : ByteArray) (pol : Nat) (draws : ByteArray) (gg : Nat) (SL : List Qm.Sd) (R : List (Qm.Sd × Nat)) (s0 : Qm.Sd) (wi : World) (m k : Nat) (G : Nat → Bool) (v : Value) (wr : World) : Prop where
  own : wr.ownsRow wi.heap.size 47 2 v m (Qm.ptsV (Qm.ptsOf (fB W H s pol draws) (s0, m)))
  grown : wi.grownBy wr (some gg)
  gone : GoneAt gg SL.length G wr
  lt : k < SL.length
  here : SL.getD k (0, 0, 0) = Qm.it (fB W H s pol draws) m s0
  rep : RepI (fB W H s pol draws) SL G R s0 m
  run : Qm.Run (fB W H s pol draws) s0 m
  free : 0 < m → ¬ Qm.Tk (fB W H s pol draws) R s0
  few : m + Qm.cntF G SL.length ≤ SL.length

section
variable {W H : Nat} {s : ByteArray} {pol : Nat} {draws : ByteArray} {spk : Int} {gg gl : Nat} {SL : List Qm.Sd} {w wi : World} {i m k : Nat} {L : List (Value × (Qm.Sd × Nat))} {R : List (Qm.Sd × Nat)} {s0 : Qm.Sd} {G G' : Nat → Bool} {v vo : Value} {wr : World}

theorem RI.start (h : RC W H s pol draws spk gg gl SL w i L G vo wr) (hi : i < SL.length) : RI W H s pol draws gg SL (L.map (·.2)) (SL.getD i (0, 0, 0)) wr 0 i G (.slice none 0 0) wr where
  own := World.ownsRow_nil _ _ _ _
  grown := grown_of_below (Below.refl _ _) _
  gone := h.gone
  lt := hi
  here := rfl
  rep j hj := by
    rw [h.rep j hj]
    exact ⟨fun h => h.imp id (fun ⟨a, b, _⟩ => by omega), fun h => h.imp id (fun ⟨a, b, _⟩ => by omega)⟩
  run := Qm.Run.zero _
  free h := absurd h (by omega)
  few := by have := Qm.cntF_le G SL.length; omega

theorem RI.succ (h : RI W H s pol draws gg SL R s0 wi m k G v wr) {w3 w4 : World} {v' : Value} {o : Obj} {kf : Nat} (hgg : gg < wi.heap.size) (hG : G k = false) (hnd : ∀ i j, i < SL.length → j < SL.length → SL.getD i (0, 0, 0) = SL.getD j (0, 0, 0) → i = j)
    (o3 : w3.ownsRow wi.heap.size 47 2 v' (m + 1) (Qm.ptsV (Qm.ptsOf (fB W H s pol draws) (s0, m)) ++ Qm.ptV (Qm.fromP (SL.getD k (0, 0, 0))))) (g3 : ((wr.setCell ⟨gg, k, none⟩ (.bool true)).alloc o).grownBy w3 v.ownBlock) (b4 : Below w3.heap.size w3 w4)
    (hkf : kf < SL.length) (ef : SL.getD kf (0, 0, 0) = fB W H s pol draws (SL.getD k (0, 0, 0))) : RI W H s pol draws gg SL R s0 wi (m + 1) kf (Qm.mark G k) v' w4 := by
  have z := h.grown.size
  have hfree := h.rep.free h.lt h.here hG
  have g1 : wr.grownBy (wr.setCell ⟨gg, k, none⟩ (.bool true)) (some gg) := set_grown (Below.refl _ _) ⟨gg, k, none⟩
  have b13 : Below wi.heap.size (wr.setCell ⟨gg, k, none⟩ (.bool true)) w3 := ((Below.refl _ _).alloc (by simpa using z) _).grown g3 (by simp; omega) (fun q hq => (h.own.lt q hq).1)
  have z3 := b13.size
  simp at z3
  have b14 : Below wi.heap.size (wr.setCell ⟨gg, k, none⟩ (.bool true)) w4 := b13.trans (b4.mono (by omega))
  refine ⟨?_, gb_below (gb_trans h.grown g1) b14 (Nat.le_refl _), (h.gone.set k).on b14 hgg, hkf, ?_, h.rep.succ h.lt h.here hnd, h.run.succ hfree.2, fun _ => ?_, ?_⟩
  · rw [Qm.ptsOf_succ, Qm.ptsV_snoc, ← h.here]
    exact own_below o3 b4
  · rw [ef, h.here]; rfl
  · rcases Nat.eq_zero_or_pos m with h0 | h0
    · subst h0; exact hfree.1
    · exact h.free h0
  · have := Qm.cntF_mark G k hG SL.length h.lt
    have := h.few
    omega

theorem RI.done (hw : W ≤ 32) (hh : H ≤ 32) (hR : ∀ c ∈ R, Qm.Cyc (fB W H s pol draws) (bB W H s) c.1 c.2) (hs : bB W H s s0) (h : RI W H s pol draws gg SL R s0 wi m k G v wr) (hm : 0 < m) (hG : G k = true) : Qm.Cyc (fB W H s pol draws) (bB W H s) s0 m := by
  have st := Qm.step (Qm.pic_of W H s.data.toList hw hh) (Qm.jnB W H s.data.toList pol draws.data.toList)
  refine h.run.done st hR hs (h.free hm) hm ?_
  rcases (h.rep k h.lt).1 hG with h1 | ⟨j, h1, h2⟩
  · left; rw [← h.here]; exact h1
  · right; exact ⟨j, h1, by rw [← h.here]; exact h2⟩

theorem mem_take_getD {α : Type} {L : List α} {j : Nat} {x d : α} (h : x ∈ L.take j) : ∃ m, m < j ∧ m < L.length ∧ L.getD m d = x := by
  obtain ⟨m, hm, rfl⟩ := List.mem_iff_getElem.1 h
  simp only [List.length_take] at hm
  exact ⟨m, by omega, by omega, by rw [List.getD_eq_getElem?_getD, List.getElem?_eq_getElem (by omega), List.getElem_take]; rfl⟩
theorem mem_drop_getD {α : Type} {L : List α} {j : Nat} {x d : α} (h : x ∈ L.drop j) : ∃ m, j ≤ m ∧ m < L.length ∧ L.getD m d = x := by
  obtain ⟨m, hm, rfl⟩ := List.mem_iff_getElem.1 h
  simp only [List.length_drop] at hm
  exact ⟨j + m, by omega, by omega, by rw [List.getD_eq_getElem?_getD, List.getElem?_eq_getElem (by omega), List.getElem_drop]; rfl⟩
theorem getD_map {α β : Type} (g : α → β) (L : List α) (m : Nat) (d : α) : (L.map g).getD m (g d) = g (L.getD m d) := by
  simp only [List.getD_eq_getElem?_getD, List.getElem?_map]
  cases L[m]? <;> rfl

/-- A cycle more. -/
theorem RC.found (hw : W ≤ 32) (hh : H ≤ 32) (h : RC W H s pol draws spk gg gl SL w i L G vo wi) (hi : i < SL.length) (hs : bB W H s (SL.getD i (0, 0, 0))) (hr : RI W H s pol draws gg SL (L.map (·.2)) (SL.getD i (0, 0, 0)) wi m k G' v wr) (hm : 0 < m) (hG : G' k = true)
    {kk : Nat} {vq vl' : Value} {w4 : World} {out : List Ent} (hkk : kk < m) (hmin : ∀ j, j < m → keyP ((Qm.ptsOf (fB W H s pol draws) (SL.getD i (0, 0, 0), m)).getD kk (0, 0)) ≤ keyP ((Qm.ptsOf (fB W H s pol draws) (SL.getD i (0, 0, 0), m)).getD j (0, 0)))
    (oq : w4.ownsRow wr.heap.size 47 2 vq m (Qm.ptsV (Qm.ptsOf (fB W H s pol draws) (Qm.it (fB W H s pol draws) kk (SL.getD i (0, 0, 0)), m)))) (b4 : Below wr.heap.size wr w4)
    (hio : InsOut (L.map (entOf (fB W H s pol draws))) (entOf (fB W H s pol draws) (vq, Qm.it (fB W H s pol draws) kk (SL.getD i (0, 0, 0)), m)) out) (ol : w4.ownsRow wr.heap.size 43 2 vl' (L.length + 1) (entV out)) :
    ∃ L', RC W H s pol draws spk gg gl SL w (i + 1) L' G' vl' w4 := by
  have st := Qm.step (Qm.pic_of W H s.data.toList hw hh) (Qm.jnB W H s.data.toList pol draws.data.toList)
  have cyc := hr.done hw hh h.cyc hs hm hG
  have gz := h.gone.1
  have zr := hr.grown.size
  have can : Qm.Canon (fB W H s pol draws) (bB W H s) Qm.key (Qm.it (fB W H s pol draws) kk (SL.getD i (0, 0, 0)), m) := by
    refine cyc.canon_turn st hkk fun j hj => ?_
    have := hmin j hj
    rw [ptsOf_getD _ _ _ hkk, ptsOf_getD _ _ _ hj] at this
    exact this
  have nt : ¬ Qm.Tk (fB W H s pol draws) (L.map (·.2)) (Qm.it (fB W H s pol draws) kk (SL.getD i (0, 0, 0))) := fun hh => hr.free hm (hh.backs st h.cyc hs kk)
  obtain ⟨q, hq⟩ : ∃ q : Value × (Qm.Sd × Nat), q = (vq, Qm.it (fB W H s pol draws) kk (SL.getD i (0, 0, 0)), m) := ⟨_, rfl⟩
  rw [← hq] at hio
  have q2 : q.2 = (Qm.it (fB W H s pol draws) kk (SL.getD i (0, 0, 0)), m) := by rw [hq]
  rw [← q2] at can
  have q3 : q.2.1 = Qm.it (fB W H s pol draws) kk (SL.getD i (0, 0, 0)) := by rw [hq]
  rw [← q3] at nt
  obtain ⟨j, hj, rfl, hlo, hhi⟩ := hio
  rw [List.length_map] at hj hhi
  have dist : ∀ p ∈ L, Qm.key p.2.1 ≠ Qm.key q.2.1 := fun p hp e => by
    have cp := h.canon p hp
    have f1 := cp.1.first st (i := 0) cp.1.2.1 (fun a ha => cp.least a)
    have f2 := can.1.first st (i := 0) can.1.2.1 (fun a ha => can.least a)
    have := st.one p.2.1 q.2.1 cp.1.1 can.1.1 e f1.1 f2.1
    exact nt (this ▸ ⟨p.2, List.mem_map_of_mem hp, 0, cp.1.2.1, rfl⟩)
  have lo : ∀ p ∈ L.take j, Qm.key p.2.1 < Qm.key q.2.1 := fun p hp => by
    obtain ⟨a, ha, ha2, e⟩ := mem_take_getD (d := q) hp
    have := hlo a ha
    rw [getD_map, e] at this
    have d := dist p (List.mem_of_mem_take hp)
    simp only [entOf, keyP_from] at this
    omega
  have sortL : L.Pairwise fun a b => Qm.key a.2.1 < Qm.key b.2.1 := by have := h.sorted; rw [List.pairwise_map] at this; exact this
  have hi2 : ∀ p ∈ L.drop j, Qm.key q.2.1 < Qm.key p.2.1 := fun p hp => by
    obtain ⟨a, ha, ha2, e⟩ := mem_drop_getD (d := q) hp
    have h1 := hhi (by omega)
    rw [getD_map] at h1
    simp only [entOf, keyP_from] at h1
    rcases Nat.eq_or_lt_of_le ha with e2 | e2
    · rw [e2, e] at h1; exact h1
    · have := List.pairwise_iff_getElem.1 sortL j a (by omega) ha2 e2
      have e3 : L.getD j q = L[j]'(by omega) := by rw [List.getD_eq_getElem?_getD, List.getElem?_eq_getElem (by omega)]; rfl
      have e4 : p = L[a] := by rw [← e, List.getD_eq_getElem?_getD, List.getElem?_eq_getElem ha2]; rfl
      rw [e3] at h1
      rw [e4]; omega
  have eo : (L.map (entOf (fB W H s pol draws))).take j ++ entOf (fB W H s pol draws) q :: (L.map (entOf (fB W H s pol draws))).drop j = (L.take j ++ q :: L.drop j).map (entOf (fB W H s pol draws)) := by simp [List.map_take, List.map_drop]
  rw [eo, entV_map] at ol
  have g4 : wi.grownBy w4 (some gg) := gb_trans hr.grown (grown_of_below b4 _)
  have sl := (h.seen.on g4)
  refine ⟨L.take j ++ q :: L.drop j, ⟨?_, ?_, ?_, ?_, hr.gone.on b4 hr.gone.1, fun h0 => (h.sds h0).gb g4 h.lt.2, h.box.gb g4 h.lt.1, h.lt, ⟨?_, ?_⟩, ?_⟩⟩
  · intro p hp
    rcases List.mem_append.1 hp with hp | hp
    · exact h.canon p (List.mem_of_mem_take hp)
    · rcases List.mem_cons.1 hp with rfl | hp
      · exact can
      · exact h.canon p (List.mem_of_mem_drop hp)
  · refine List.pairwise_map.2 (List.pairwise_append.2 ⟨sortL.sublist (List.take_sublist _ _), List.pairwise_cons.2 ⟨hi2, sortL.sublist (List.drop_sublist _ _)⟩, fun a ha b hb => ?_⟩)
    rcases List.mem_cons.1 hb with rfl | hb
    · exact lo a ha
    · have := lo a ha; have := hi2 b hb; omega
  · intro a ha
    rw [hr.rep a ha]
    constructor
    · rintro (⟨c, hc, x, hx, e⟩ | ⟨x, hx, e⟩)
      · obtain ⟨p, hp, rfl⟩ := List.mem_map.1 hc
        refine .inl ⟨p.2, List.mem_map_of_mem ?_, x, hx, e⟩
        rw [← List.take_append_drop j L] at hp
        rcases List.mem_append.1 hp with hp | hp
        · exact List.mem_append_left _ hp
        · exact List.mem_append_right _ (List.mem_cons_of_mem _ hp)
      · refine .inl ⟨q.2, List.mem_map_of_mem (List.mem_append_right _ List.mem_cons_self), (x + (m - kk)) % m, ?_, ?_⟩
        · rw [q2]; exact Nat.mod_lt _ hm
        · have ct := can.1
          rw [e, q2] 
          rw [q2] at ct
          show _ = Qm.it _ _ (Qm.it _ kk _)
          have := ct.mod (x + (m - kk))
          dsimp only at this
          rw [← this, ← Qm.it_add, show x + (m - kk) + kk = x + m from by omega, Qm.it_add, cyc.2.2.1]
    · rintro (⟨c, hc, x, hx, e⟩ | ⟨_, hx, _⟩)
      · obtain ⟨p, hp, rfl⟩ := List.mem_map.1 hc
        rcases List.mem_append.1 hp with hp | hp
        · exact .inl ⟨p.2, List.mem_map_of_mem (List.mem_of_mem_take hp), x, hx, e⟩
        · rcases List.mem_cons.1 hp with rfl | hp
          · refine .inr ⟨(x + kk) % m, Nat.mod_lt _ hm, ?_⟩
            rw [e, q3, ← Qm.it_add, cyc.mod]
          · exact .inl ⟨p.2, List.mem_map_of_mem (List.mem_of_mem_drop hp), x, hx, e⟩
      · omega
  · intro a ha
    rcases Nat.lt_or_ge a i with h1 | h1
    · have h2 := (h.rep a (by omega)).1 (h.past a h1)
      exact (hr.rep a (by omega)).2 (.inl (h2.elim id (fun ⟨_, h3, _⟩ => by omega)))
    · obtain rfl : a = i := by omega
      exact (hr.rep a hi).2 (.inr ⟨0, hm, rfl⟩)
  · have len : (L.take j ++ q :: L.drop j).length = L.length + 1 := by simp; omega
    rcases ol.2 with ⟨_, h0⟩ | ⟨g, cap, cur, rfl, hb, hg, _⟩
    · omega
    · refine ⟨_, cap, by rw [len], .inr ⟨g, rfl, by omega, (Array.getElem?_eq_some_iff.1 hg).1, fun a u hu => ?_⟩⟩
      have := ol.cells (g := g) rfl a u hu
      rwa [add_zero_at] at this
  · intro p hp
    have old : ∀ p ∈ L, ∃ g cap, p.1 = .slice (some ⟨g, 0, Option.none⟩) p.2.2 cap ∧ p.2.2 ≤ cap ∧ 0 < p.2.2 ∧ gg < g ∧ PtsAt g (Qm.ptsOf (fB W H s pol draws) p.2) w4 := sl.pts
    rcases List.mem_append.1 hp with hp | hp
    · exact old p (List.mem_of_mem_take hp)
    · rcases List.mem_cons.1 hp with rfl | hp
      · obtain ⟨g, cap, e, hb, hp2, _⟩ := own_at oq hm
        obtain ⟨ao, cap', e', hc⟩ := own_cap oq
        rw [hq]
        refine ⟨g, cap, e, ?_, hm, by omega, hp2⟩
        rw [e] at e'; injection e' with _ _ e3; show m ≤ cap; omega
      · exact old p (List.mem_of_mem_drop hp)
  · have := h.few; simp; omega
end
end Go.Proofs.Ytgapfjjdccohkaa
