import Derived.Test.YtgapfjjdccohkaaJcounted22
import Derived.Test.YtgapfjjdccohkaaJcounted20
import Derived.Test.YtgapfjjdccohkaaJcounted16

/- outlineref: Polygon. -/
namespace Go.Proofs.Ytgapfjjdccohkaa
open Go.RowKit
attribute [local go_sem ↓] Go.wp_at_zero Go.wp_at_succ

namespace Qm
theorem Pth.le {v : List Pt} {i j : Nat} {l : List Nat} (h : Pth (okV v) i j l) : ∀ x ∈ l, x ≤ j := by
  induction h with
  | one i => intro x hx; simp at hx; omega
  | cons i k j l ho hp ih =>
    intro x hx
    rcases List.mem_cons.1 hx with h | h
    · have := hp.len.1; have := ho.1; omega
    · exact ih x h
theorem cornN_lt {c : List Pt} (h0 : 0 < c.length) (hu : Unit (c ++ [fstP c])) : ∀ x ∈ cornN c, x < c.length := by
  intro x hx
  rcases (cornN_is h0 hu).1.unsnoc with ⟨h, _⟩ | ⟨k, m, e, hp, hk⟩
  · omega
  · have e2 : cornN c = m := List.append_cancel_right e
    rw [e2] at hx
    have := hp.le x hx
    have := hk.1
    omega
end Qm

/-- A box of two cells. -/
def Box2 (b : Nat) (x y : Value) (w : World) : Prop := b < w.heap.size ∧ w.cell? ⟨b, 0, none⟩ = some x ∧ w.cell? ⟨b, 1, none⟩ = some y ∧ w.frozen? ⟨b, 0, none⟩ = false ∧ w.frozen? ⟨b, 1, none⟩ = false
theorem Box2.new (w : World) (x y : Value) (t : TypeId) : Box2 w.heap.size x y (w.alloc (.cells #[x, y] t)) := ⟨by simp, by simp, by simp, by simp, by simp⟩
theorem Box2.on {b B : Nat} {x y : Value} {w w' : World} (h : Box2 b x y w) (hb : Below B w w') (hB : b < B) : Box2 b x y w' :=
  ⟨Nat.lt_of_lt_of_le h.1 hb.size, (hb.cell (p := ⟨b, 0, none⟩) hB).trans h.2.1, (hb.cell (p := ⟨b, 1, none⟩) hB).trans h.2.2.1, (hb.frozen (p := ⟨b, 0, none⟩) hB).trans h.2.2.2.1, (hb.frozen (p := ⟨b, 1, none⟩) hB).trans h.2.2.2.2⟩
theorem Box2.gb {b : Nat} {x y : Value} {w w' : World} {r : Option Nat} (h : Box2 b x y w) (hb : w.grownBy w' r) (hne : r ≠ some b) : Box2 b x y w' := by
  have e := hb.block b h.1 (Ne.symm hne)
  have C : ∀ j, w'.cell? ⟨b, j, none⟩ = w.cell? ⟨b, j, none⟩ := fun j => World.cell?_of_block (a := ⟨b, j, none⟩) e
  exact ⟨Nat.lt_of_lt_of_le h.1 hb.size, (C _).trans h.2.1, (C _).trans h.2.2.1, by have := h.2.2.2.1; unfold World.frozen? at this ⊢; rw [e]; exact this, by have := h.2.2.2.2; unfold World.frozen? at this ⊢; rw [e]; exact this⟩
theorem Box2.set0 {b : Nat} {x y : Value} {w : World} (h : Box2 b x y w) (u : Value) : Box2 b u y (w.setCell ⟨b, 0, none⟩ u) :=
  ⟨by rw [World.size_setCell]; exact h.1, World.cell?_setCell_same _ _ _ h.2.1, (World.cell?_setCell_other _ _ _ _ (by simp)).trans h.2.2.1, by simpa using h.2.2.2.1, by simpa using h.2.2.2.2⟩
theorem Box2.set1 {b : Nat} {x y : Value} {w : World} (h : Box2 b x y w) (u : Value) : Box2 b x u (w.setCell ⟨b, 1, none⟩ u) :=
  ⟨by rw [World.size_setCell]; exact h.1, (World.cell?_setCell_other _ _ _ _ (by simp)).trans h.2.1, World.cell?_setCell_same _ _ _ h.2.2.1, by simpa using h.2.2.2.1, by simpa using h.2.2.2.2⟩

set_option maxRecDepth 4000 in
set_option maxHeartbeats 4000000 in
theorem polygon_any (g n cap : Nat) (c : List (Int × Int)) (hn : n = c.length) (h0 : 0 < n) (hs : Qm.Small c) (hn2 : n ≤ 4356) (hu : Qm.Unit (c ++ [Qm.fstP c])) (w : World) (hP : PtsAt g c w) :
    Calls Try.prog 53 #[.slice (some ⟨g, 0, none⟩) n cap] w fun e w' => ∃ v, e = .returned (.agg #[v, .int .i64 (Qm.twiceOf (Qm.cornL c))]) ∧ w'.ownsRow w.heap.size 47 2 v (Qm.cornL c).length (Qm.ptsV (Qm.cornL c)) ∧ Below w.heap.size w w' := by
  obtain ⟨ip, hip, hp0, hp1, hp2⟩ := info_parts infoPoint
  have HP := hid hP
  have hg := hP.1
  have HN := hid hn
  have CI := hid (show Qm.Opt (Qm.okV (c ++ [Qm.fstP c])) (Qm.cV (c ++ [Qm.fstP c])) 0 n (Qm.cornN c ++ [n]) by rw [hn]; exact Qm.cornN_is (by omega) hu)
  have CL := hid (show ∀ x ∈ Qm.cornN c, x < n by rw [hn]; exact Qm.cornN_lt (by omega) hu)
  have CE := hid (show Qm.cornL c = cpts c (Qm.cornN c) from rfl)
  have CS := hid (Qm.cornL_small hs)
  have cpos := Qm.cornL_pos (c := c) (by omega)
  have cle := Qm.cornL_le c
  have HB0 := hid (fun W' (h : PtsAt g c W') => best_any g n cap c hn h0 hs hn2 hu W' h)
  have LE := hid (show (Qm.cornL c).length = (Qm.cornN c).length by rw [CE.out]; simp [cpts])
  rw [LE.out] at cpos cle
  rw [← hn] at cle
  obtain ⟨cn, hcn⟩ : ∃ cn, cn = Qm.cornN c := ⟨_, rfl⟩
  rw [← hcn] at CI CL CE LE cpos cle
  clear hP hn hs hu hcn
  go_enter Try.func53, Try.ntmps53
  go_wp2_with fail
  have R0 := hid (Box2.new w (.slice none 0 0) (.int .i64 0) 43)
  refine (HB0.out _ (HP.out.on (B := w.heap.size) ((Below.refl _ _).alloc (Nat.le_refl _) _) hg)).mono ?_
  rintro e w1 ⟨gl, capl, L, rfl, hopt, hL, hb1⟩
  obtain rfl := CI.out.unique hopt
  have z1 := hb1.size
  simp at z1
  have HL := hid hL
  have hgl := hL.1
  have B1 := hid (show Below w.heap.size w w1 from Below.trans (b := _) (by go_grown) (hb1.mono (by simp)))
  have R1 := hid (R0.out.on hb1 (by simp))
  have HP1 := hid (HP.out.on B1.out hg)
  rw [show (cn ++ [n]).length = cn.length + 1 from by simp]
  clear hopt hL hb1 R0
  obtain ⟨m, hm⟩ : ∃ m, m = cn.length := ⟨_, rfl⟩
  rw [← hm] at cpos cle LE ⊢
  have HM := hid hm
  clear hm
  have S1 := hid (Box2.new w1 (.slice none 0 0) (.int .i64 0) 43)
  go_wp2_with fail
  go_loopw [5] (fun iv wr => ∃ (i : Nat) (v : Value), i ≤ m ∧ iv = .int .i64 i ∧ Hid (Box2 w1.heap.size v (.int .i64 0) wr) ∧ Hid (wr.ownsRow (w1.heap.size + 1) 47 2 v i (Qm.ptsV (cpts c (cn.take i)))) ∧ Hid (Below w1.heap.size w1 wr)) (fun i _ => m - (intOf i).toNat)
  case atStart => exact ⟨0, _, by omega, rfl, S1, World.ownsRow_nil _ _ _ _, (Below.refl _ _).alloc (Nat.le_refl _) _⟩
  case round =>
    clear S1
    obtain ⟨i, v, him, rfl, hS, hO, hB⟩ := hrel
    obtain ⟨s0, s1, s2, s3, s4⟩ := hS.out
    obtain ⟨ao, capo, hv, hcapo⟩ := own_cap hO.out
    subst hv
    by_cases hlt : i < m
    · have hic : i < cn.length := by rw [← HM.out]; exact hlt
      have e1 : (cn ++ [n]).getD i 0 = cn.getD i 0 := Qm.getD_app_l _ _ _ _ hic
      have c0 := (HL.out.on hB.out hgl).2 i (by simp; omega)
      rw [e1] at c0
      have qn := CL.out (cn.getD i 0) (by rw [List.getD_eq_getElem?_getD, List.getElem?_eq_getElem hic]; exact List.getElem_mem hic)
      have NX := hid (show cpts c (cn.take (i + 1)) = cpts c (cn.take i) ++ [c.getD (cn.getD i 0) (0, 0)] by
        rw [List.take_add_one, List.getElem?_eq_getElem hic]
        unfold cpts
        rw [List.map_append]
        simp [List.getD_eq_getElem?_getD, hic])
      obtain ⟨q, hq⟩ : ∃ q, q = cn.getD i 0 := ⟨_, rfl⟩
      rw [← hq] at c0 qn NX
      have pz := HP1.out.1
      have hz := hB.out.size
      obtain ⟨d0, d1⟩ := (HP1.out.on hB.out pz).2 q (by have := HN.out; omega)
      obtain ⟨⟨pa, pb⟩, hpp⟩ : ∃ p, p = c.getD q (0, 0) := ⟨_, rfl⟩
      rw [← hpp] at d0 d1 NX
      dsimp only at d0 d1
      have i1 : (0 : Int) ≤ (i : Nat) := by omega
      have i2 : ((i : Nat) : Int) < (m : Int) + 1 := by omega
      have i3 : (i : Int) + 1 < (m : Int) + 1 := by omega
      have q1 : (0 : Int) ≤ (q : Nat) := by omega
      have q2 : ((q : Nat) : Int) < (n : Nat) := by omega
      have m1 : i + 1 ≤ maxLen := by unfold maxLen; omega
      have m2 : (i + 1) * 16 ≤ 140737488355328 := by omega
      clear e1 hq hpp
      have hb1 : w1.heap.size + 1 ≤ ((wr.alloc (.cells #[.int .i64 pa, .int .i64 pb] 47)).drew).heap.size := by simp; omega
      have S8 := hid (show Box2 w1.heap.size (.slice ao i capo) (.int .i64 0) (wr.alloc (.cells #[.int .i64 pa, .int .i64 pb] 47)).drew from (hS.out.on (B := wr.heap.size) ((Below.refl _ _).alloc (Nat.le_refl _) _) s0).on (B := wr.heap.size) (w' := (wr.alloc (.cells #[.int .i64 pa, .int .i64 pb] 47)).drew) ⟨rfl, rfl, rfl, Nat.le_refl _, fun _ _ => rfl⟩ s0)
      have B8 := hid (show Below w1.heap.size w1 (wr.alloc (.cells #[.int .i64 pa, .int .i64 pb] 47)).drew from (hB.out.alloc hz _).trans ⟨rfl, rfl, rfl, Nat.le_refl _, fun _ _ => rfl⟩)
      have OB := hid (fun q hq => hO.out.lt q hq)
      go_wp2_with fail
      go_region_law
        ((refine step_append_lies _ (by rfl) _ _ _ (by rfl) (w1.heap.size + 1) 47 ip (.agg #[.int .i64 0, .int .i64 0]) 2 16 Try.underlying41 hip hp0 hp1 hp2 rfl (by omega) (.slice ao i capo) i (Qm.ptsV (cpts c (cn.take i))) (by rfl) ((hO.out.alloc _).drew) ⟨wr.heap.size, 0, none⟩ 1 1 [.int .i64 pa, .int .i64 pb] (by rfl) (by rfl) (World.news_of_block (cs := #[.int .i64 pa, .int .i64 pb]) (t := 47) (fr := (0, 0)) (heap_alloc_new wr _)) (by simp [Value.oneCell']) (by omega) m1 m2 hb1 (wr.heap.size + 1) (by simp) ?_; intro gg capg w7 O7 G7 A7 hlt7; have S9 := hid (S8.out.gb G7 (fun e => by have := (OB.out _ e).1; omega)); obtain ⟨t0, t1, t2, t3, t4⟩ := S9.out))
      all_goals (
        have o7 : w7.ownsRow (w1.heap.size + 1) 47 2 (.slice (some ⟨gg, 0, none⟩) (i + 1) capg) (i + 1) (Qm.ptsV (cpts c (cn.take (i + 1)))) := by rw [NX.out, Qm.ptsV_snoc]; exact O7
        have B9 := B8.out.grown G7 (show w1.heap.size ≤ _ by simp; omega) (fun q hq => by have := (OB.out q hq).1; omega)
        have O10 := hid (own_keep o7 (g := w1.heap.size) (by omega) (set_grown (Below.refl _ _) ⟨w1.heap.size, 0, none⟩ (v := .slice (some ⟨gg, 0, none⟩) (i + 1) capg)))
        have S10 := hid (S9.out.set0 (.slice (some ⟨gg, 0, none⟩) (i + 1) capg))
        have B10 := hid (B9.setCell (p := ⟨w1.heap.size, 0, none⟩) (show w1.heap.size ≤ w1.heap.size from Nat.le_refl _) (.slice (some ⟨gg, 0, none⟩) (i + 1) capg))
        clear O7 G7 A7 o7 B9
        go_wp2
        go_roundw
        case rel => exact ⟨i + 1, _, by omega, by go_num, S10, O10, B10⟩
        case measure => simp [intOf]; omega)
    · have ei : i = m := by omega
      subst ei
      have o2 : wr.ownsRow (w1.heap.size + 1) 47 2 (.slice ao i capo) i (Qm.ptsV (Qm.cornL c)) := by
        have := hO.out
        rw [HM.out, List.take_length, ← CE.out, ← HM.out] at this
        exact this
      obtain ⟨gs, caps, es, hgs, hps, -⟩ := own_at o2 cpos
      injection es with es1 _ es2
      subst es1
      subst es2
      have O2 := hid o2
      have HPS := hid hps
      have RR := hid (R1.out.on hB.out (by omega))
      have hle : w.heap.size < w1.heap.size := by omega
      clear o2 hps
      have i3 : ¬ (i : Int) + 1 < (i : Int) + 1 := by omega
      go_wp2_with fail
      refine (refTwice_any gs i capo (Qm.cornL c) LE.out.symm cpos CS.out (by omega) _ HPS.out).mono ?_
      rintro e w8 ⟨rfl, hb8⟩
      have S8 := hid (hS.out.on hb8 s0)
      have R8 := hid (RR.out.on hb8 (by have := hB.out.size; omega))
      have O8 := hid (own_below O2.out hb8)
      have B8 := hid (show Below w1.heap.size w1 w8 from hB.out.trans (hb8.mono hB.out.size))
      obtain ⟨tw, htw⟩ : ∃ tw, tw = Qm.twiceOf (Qm.cornL c) := ⟨_, rfl⟩
      rw [← htw]
      have HTW := hid htw
      clear hb8 htw s0 s1 s2 s3 s4
      obtain ⟨s0, s1, s2, s3, s4⟩ := S8.out
      obtain ⟨r0, r1, r2, r3, r4⟩ := R8.out
      have ne1 : ¬ w1.heap.size = w.heap.size := by omega
      go_wp2
      refine bodyPost_ret (v := .agg #[.slice (some ⟨gs, 0, none⟩) i capo, .int .i64 tw]) (by simp [results, Try.results53, go_sem, World.cell?_setCell_other, World.cell?_setCell_same', *]) rfl ?_
      refine ⟨_, by rw [HTW.out], ?_, ?_⟩
      · rw [LE.out]
        exact (own_keep (own_keep (own_keep O8.out (g := w1.heap.size) (by omega) (set_grown (Below.refl _ _) ⟨w1.heap.size, 1, none⟩)) (g := w.heap.size) (by omega) (set_grown (Below.refl _ _) ⟨w.heap.size, 0, none⟩)) (g := w.heap.size) (by omega) (set_grown (Below.refl _ _) ⟨w.heap.size, 1, none⟩)).mono (by omega)
      · exact (((B1.out.trans (B8.out.mono B1.out.size)).setCell (p := ⟨w1.heap.size, 1, none⟩) (by dsimp only; omega) _).setCell (p := ⟨w.heap.size, 0, none⟩) (Nat.le_refl _) _).setCell (p := ⟨w.heap.size, 1, none⟩) (Nat.le_refl _) _
end Go.Proofs.Ytgapfjjdccohkaa

/- outlinekeep: places: what holds in its loops. -/
namespace Go.Proofs.Ytgapfjjdccohkaa
open Go.RowKit

namespace Qm
section
variable {ok : Nat → Nat → Prop}
theorem Pth.step {i j : Nat} {l : List Nat} (h : Pth ok i j l) : ∀ a, a + 1 < l.length → ok (l.getD a 0) (l.getD (a + 1) 0) := by
  induction h with
  | one i => intro a ha; simp at ha
  | cons i k j l ho hp ih =>
    intro a ha
    cases a with
    | zero => obtain ⟨m, rfl⟩ := hp.head; exact ho
    | succ a => simpa using ih a (by simpa using ha)
theorem Pth.last {i j : Nat} {l : List Nat} (h : Pth ok i j l) : l.getD (l.length - 1) 0 = j := by
  induction h with
  | one i => rfl
  | cons i k j l ho hp ih =>
    have := hp.pos
    rw [show (i :: l).length - 1 = (l.length - 1) + 1 from by simp; omega]
    simpa using ih
theorem pth_of : ∀ (l : List Nat), 0 < l.length → (∀ a, a + 1 < l.length → ok (l.getD a 0) (l.getD (a + 1) 0)) → Pth ok (l.getD 0 0) (l.getD (l.length - 1) 0) l
  | [], h, _ => by simp at h
  | [a], _, _ => .one a
  | a :: b :: l, _, h => by
    have r := pth_of (b :: l) (by simp) fun c hc => by simpa using h (c + 1) (by simpa using hc)
    have e : (a :: b :: l).getD ((a :: b :: l).length - 1) 0 = (b :: l).getD ((b :: l).length - 1) 0 := by simp
    rw [e]
    exact .cons a b _ _ (by simpa using h 0 (by simp)) (by simpa using r)
/-- A row of which one number could be left out. -/
theorem Pth.skip {i j : Nat} {l : List Nat} (h : Pth ok i j l) : ∀ a, a + 2 < l.length → ok (l.getD a 0) (l.getD (a + 2) 0) → Pth ok i j (l.eraseIdx (a + 1)) := by
  induction h with
  | one i => intro a ha; simp at ha
  | cons i k j l ho hp ih =>
    intro a ha hs
    cases a with
    | zero =>
      cases hp with
      | one => simp at ha
      | cons _ k2 _ l2 ho2 hp2 =>
        obtain ⟨m, rfl⟩ := hp2.head
        have hs' : ok i k2 := by simpa using hs
        exact .cons i k2 j _ hs' hp2
    | succ a =>
      have := ih a (by simp at ha; omega) (by simpa using hs)
      exact .cons i k j _ ho this
end

/-- What the table says is so. -/
def Snd (v : List Pt) (F : Nat → Nat → Int) : Prop := ∀ i k, 0 ≤ F i k → (i = 0 ∧ k = 0 ∧ F 0 0 = 0) ∨ ∃ i' j : Nat, i = i' + 1 ∧ F i k = (j : Int) ∧ okV v j k ∧ 0 ≤ F i' j
/-- Nothing is left out there. -/
def Cmp (v al : List Pt) (F : Nat → Nat → Int) (a b : Nat) : Prop := ∀ j, okV v j b → 0 ≤ F a j → v.getD b (0, 0) = al.getD (a + 1) (0, 0) → 0 ≤ F (a + 1) b
structure PI (v al : List Pt) (F : Nat → Nat → Int) (i k : Nat) : Prop where
  snd : Snd v F
  start : 0 ≤ F 0 0
  cmp : ∀ a b, (a + 1 < i ∨ (a + 1 = i ∧ b < k)) → Cmp v al F a b
  later : ∀ a b, i < a → F a b = -1
def upd (F : Nat → Nat → Int) (i k : Nat) (x : Int) : Nat → Nat → Int := fun a b => if a = i ∧ b = k then x else F a b
theorem upd_same (F : Nat → Nat → Int) (i k : Nat) (x : Int) : upd F i k x i k = x := by unfold upd; rw [if_pos ⟨rfl, rfl⟩]
theorem upd_other {F : Nat → Nat → Int} {i k : Nat} {x : Int} {a b : Nat} (h : ¬ (a = i ∧ b = k)) : upd F i k x a b = F a b := by unfold upd; rw [if_neg h]
section
variable {v al : List Pt} {F : Nat → Nat → Int} {i k : Nat}
theorem PI.first (v al : List Pt) : PI v al (upd (fun _ _ => -1) 0 0 0) 1 1 := by
  refine ⟨fun i k h => ?_, by rw [upd_same]; omega, fun a b h j hj => ?_, fun a b h => upd_other (by omega)⟩
  · by_cases e : i = 0 ∧ k = 0
    · exact .inl ⟨e.1, e.2, upd_same _ _ _ _⟩
    · rw [upd_other e] at h; omega
  · have := hj.1; omega
theorem PI.row (h : PI v al F i k) (hk : v.length ≤ k) : PI v al F (i + 1) 1 := by
  refine ⟨h.snd, h.start, fun a b hab => ?_, fun a b hab => h.later a b (by omega)⟩
  rcases Nat.lt_or_ge (a + 1) i with h1 | h1
  · exact h.cmp a b (.inl h1)
  · rcases hab with h2 | ⟨h2, h3⟩
    · rcases Nat.lt_or_ge b k with h4 | h4
      · exact h.cmp a b (.inr ⟨by omega, h4⟩)
      · intro j hj; have := hj.2.1; omega
    · intro j hj; have := hj.1; omega
/-- In the innermost loop: all beyond j have been looked at. -/
structure PJ (v al : List Pt) (F : Nat → Nat → Int) (i k : Nat) (j : Int) : Prop where
  pi : PI v al F (i + 1) k
  seen : ∀ q : Nat, j < q → okV v q k → 0 ≤ F i q → 0 ≤ F (i + 1) k
theorem PI.inner (h : PI v al F (i + 1) k) : PJ v al F i k ((k : Int) - 1) := ⟨h, fun q hq ok _ => by have := ok.1; omega⟩
theorem PJ.no {j : Nat} (h : PJ v al F i k j) (hn : ¬ (okV v j k ∧ 0 ≤ F i j)) : PJ v al F i k ((j : Int) - 1) := by
  refine ⟨h.pi, fun q hq ok hf => ?_⟩
  rcases Nat.lt_or_ge j q with h1 | h1
  · exact h.seen q (by omega) ok hf
  · obtain rfl : q = j := by omega
    exact absurd ⟨ok, hf⟩ hn
theorem PJ.yes {j : Nat} (h : PJ v al F i k j) (ok : okV v j k) (hf : 0 ≤ F i j) : PJ v al (upd F (i + 1) k j) i k ((j : Int) - 1) := by
  have ro : ∀ b, upd F (i + 1) k j i b = F i b := fun b => upd_other (by omega)
  refine ⟨⟨fun a b hab => ?_, ?_, fun a b hab => ?_, fun a b hab => ?_⟩, fun q hq _ _ => by rw [upd_same]; omega⟩
  · by_cases e : a = i + 1 ∧ b = k
    · right
      obtain ⟨rfl, rfl⟩ := e
      exact ⟨i, j, rfl, upd_same _ _ _ _, ok, by rw [ro]; exact hf⟩
    · rw [upd_other e] at hab ⊢
      rcases h.pi.snd a b hab with ⟨h1, h2, h3⟩ | ⟨i', q, h1, h2, h3, h4⟩
      · exact .inl ⟨h1, h2, by rw [upd_other (by omega)]; exact h3⟩
      · refine .inr ⟨i', q, h1, h2, h3, ?_⟩
        by_cases e2 : i' = i + 1 ∧ q = k
        · have := h.pi.later a b (by omega)
          omega
        · rw [upd_other e2]; exact h4
  · rw [upd_other (by omega)]; exact h.pi.start
  · intro q hq hf' hv
    by_cases e2 : a = i + 1 ∧ q = k
    · omega
    · rw [upd_other e2] at hf'
      by_cases e : a + 1 = i + 1 ∧ b = k
      · omega
      · rw [upd_other e]; exact h.pi.cmp a b hab q hq hf' hv
  · rw [upd_other (by omega)]; exact h.pi.later a b hab
theorem PJ.done {j : Int} (h : PJ v al F i k j) (hj : j < 0 ∨ 12 < (k : Int) - j) : PI v al F (i + 1) (k + 1) := by
  refine ⟨h.pi.snd, h.pi.start, fun a b hab => ?_, h.pi.later⟩
  rcases Nat.lt_or_ge (a + 1) (i + 1) with h1 | h1
  · exact h.pi.cmp a b (.inl h1)
  · rcases hab with h2 | ⟨h2, h3⟩
    · omega
    · rcases Nat.lt_or_ge b k with h4 | h4
      · exact h.pi.cmp a b (.inr ⟨h2, h4⟩)
      · obtain rfl : b = k := by omega
        obtain rfl : a = i := by omega
        exact fun q ok hf _ => h.seen q (by have := ok.2.2.1; have := ok.1; omega) ok hf
theorem PI.skip (h : PI v al F (i + 1) k) (hn : v.getD k (0, 0) ≠ al.getD (i + 1) (0, 0)) : PI v al F (i + 1) (k + 1) := by
  refine ⟨h.snd, h.start, fun a b hab => ?_, h.later⟩
  rcases Nat.lt_or_ge (a + 1) (i + 1) with h1 | h1
  · exact h.cmp a b (.inl h1)
  · rcases hab with h2 | ⟨h2, h3⟩
    · omega
    · rcases Nat.lt_or_ge b k with h4 | h4
      · exact h.cmp a b (.inr ⟨h2, h4⟩)
      · obtain rfl : b = k := by omega
        obtain rfl : a = i := by omega
        exact fun q _ _ hv => absurd hv hn
/-- A row that goes by the points stands in the table. -/
theorem PI.has {M : Nat} (h : PI v al F (M + 1) k) {I : List Nat} {e : Nat} (hI : Pth (okV v) 0 e I) (hl : I.length = M + 1) (hp : ∀ a, a ≤ M → v.getD (I.getD a 0) (0, 0) = al.getD a (0, 0)) : ∀ a, a ≤ M → 0 ≤ F a (I.getD a 0) := by
  intro a
  induction a with
  | zero =>
    intro _
    obtain ⟨m, e⟩ := hI.head
    rw [e]; exact h.start
  | succ a ih =>
    intro ha
    exact h.cmp a _ (.inl (by omega)) _ (hI.step a (by omega)) (ih (by omega)) (hp (a + 1) ha)

/-- Going back: from r on the row is known. -/
structure BK (v : List Pt) (F : Nat → Nat → Int) (M e : Nat) (r : Nat) (at' : Int) (f : Nat → Nat) : Prop where
  ok : ∀ a, r ≤ a → a < M → okV v (f a) (f (a + 1))
  end' : r ≤ M → f M = e
  here : ∀ q, r = q + 1 → ∃ t : Nat, at' = t ∧ 0 ≤ F q t ∧ (r ≤ M → okV v t (f r)) ∧ (r = M + 1 → t = e)
  zero : r = 0 → f 0 = 0
theorem BK.start {M e : Nat} (h : 0 ≤ F M e) : BK v F M e (M + 1) e (fun _ => 0) :=
  ⟨fun a h1 h2 => by omega, fun h => by omega, fun q hq => by obtain rfl : q = M := by omega
                                                              exact ⟨e, rfl, h, fun h => by omega, fun _ => rfl⟩, fun h => by omega⟩
theorem BK.step {M e q : Nat} {t : Nat} {f : Nat → Nat} (hS : Snd v F) (hq : q ≤ M) (h : BK v F M e (q + 1) (t : Int) f) : 0 ≤ F q t ∧ BK v F M e q (F q t) (fun a => if a = q then t else f a) := by
  obtain ⟨t', e1, h1, h2, h3⟩ := h.here q rfl
  have : t' = t := by omega
  subst this
  refine ⟨h1, ⟨fun a ha hm => ?_, fun hm => ?_, fun p hp => ?_, fun h0 => ?_⟩⟩
  · by_cases e2 : a = q
    · subst e2
      simp only [if_true, if_neg (show ¬ a + 1 = a by omega)]
      exact h2 (by omega)
    · simp only [if_neg e2, if_neg (show ¬ a + 1 = q by omega)]
      exact h.ok a (by omega) hm
  · by_cases e2 : M = q
    · simp only [if_pos e2]; exact h3 (by omega)
    · simp only [if_neg e2]; exact h.end' (by omega)
  · rcases hS q t' h1 with ⟨hz, _, _⟩ | ⟨i', j, hi', e2, ok, hf⟩
    · omega
    · obtain rfl : i' = p := by omega
      exact ⟨j, e2, hf, fun _ => by simp only [if_true]; exact ok, fun h => by omega⟩
  · subst h0
    simp only [if_true]
    rcases hS 0 t' h1 with ⟨_, h4, _⟩ | ⟨i', _, h4, _⟩
    · exact h4
    · omega
theorem BK.path {M e : Nat} {at' : Int} {f : Nat → Nat} (h : BK v F M e 0 at' f) : Pth (okV v) 0 e ((List.range (M + 1)).map f) := by
  have g : ∀ a, a ≤ M → ((List.range (M + 1)).map f).getD a 0 = f a := fun a ha => by simp [List.getD_eq_getElem?_getD, show a < M + 1 by omega]
  have l : ((List.range (M + 1)).map f).length = M + 1 := by simp
  have p := pth_of (ok := okV v) ((List.range (M + 1)).map f) (by omega) fun a ha => by
    rw [l] at ha
    rw [g a (by omega), g (a + 1) (by omega)]
    exact h.ok a (by omega) (by omega)
  rw [l, g 0 (by omega), show M + 1 - 1 = M from by omega, g M (Nat.le_refl _), h.zero rfl, h.end' (by omega)] at p
  exact p
end
end Qm

/-- The table in memory: its first m rows. -/
structure FTab (gf : Nat) (G : Nat → Nat) (m M N : Nat) (F : Nat → Nat → Int) (w : World) : Prop where
  lt : gf < w.heap.size
  fz : ∀ j, w.frozen? ⟨gf, j, none⟩ = false
  ex : ∀ i, i ≤ M → ∃ ao n c, w.cell? ⟨gf, i, none⟩ = some (.slice ao n c)
  row : ∀ i, i < m → w.cell? ⟨gf, i, none⟩ = some (.slice (some ⟨G i, 0, none⟩) N N) ∧ gf < G i ∧ G i < w.heap.size ∧ (∀ k, k < N → w.cell? ⟨G i, k, none⟩ = some (.int .i64 (F i k))) ∧ ∀ k, w.frozen? ⟨G i, k, none⟩ = false
  inj : ∀ i j, i < m → j < m → G i = G j → i = j
section
variable {gf : Nat} {G : Nat → Nat} {m M N : Nat} {F : Nat → Nat → Int} {w w' : World}
theorem FTab.on (h : FTab gf G m M N F w) (hb : Below w.heap.size w w') : FTab gf G m M N F w' := by
  refine ⟨Nat.lt_of_lt_of_le h.lt hb.size, fun j => (hb.frozen (p := ⟨gf, j, none⟩) h.lt).trans (h.fz j), fun i hi => ?_, fun i hi => ?_, h.inj⟩
  · obtain ⟨a, n, c, e⟩ := h.ex i hi
    exact ⟨a, n, c, (hb.cell (p := ⟨gf, i, none⟩) h.lt).trans e⟩
  · obtain ⟨h1, h2, h3, h4, h5⟩ := h.row i hi
    exact ⟨(hb.cell (p := ⟨gf, i, none⟩) h.lt).trans h1, h2, Nat.lt_of_lt_of_le h3 hb.size, fun k hk => (hb.cell (p := ⟨G i, k, none⟩) h3).trans (h4 k hk), fun k => (hb.frozen (p := ⟨G i, k, none⟩) h3).trans (h5 k)⟩
theorem FTab.set (h : FTab gf G m M N F w) {i k : Nat} (hi : i < m) (hk : k < N) (x : Int) : FTab gf G m M N (Qm.upd F i k x) (w.setCell ⟨G i, k, none⟩ (.int .i64 x)) := by
  obtain ⟨_, g2, g3, g4, _⟩ := h.row i hi
  have o : ∀ b j, b ≠ G i → (w.setCell ⟨G i, k, none⟩ (.int .i64 x)).cell? ⟨b, j, none⟩ = w.cell? ⟨b, j, none⟩ := fun b j hb => World.cell?_setCell_other _ _ _ _ (by intro e; injection e with e _ _; exact hb e.symm)
  refine ⟨by rw [World.size_setCell]; exact h.lt, fun j => by simpa using h.fz j, fun a ha => ?_, fun a ha => ?_, h.inj⟩
  · obtain ⟨y, n, c, e⟩ := h.ex a ha
    exact ⟨y, n, c, (o _ _ (by omega)).trans e⟩
  · obtain ⟨h1, h2, h3, h4, h5⟩ := h.row a ha
    refine ⟨(o _ _ (by omega)).trans h1, h2, by rw [World.size_setCell]; exact h3, fun b hb => ?_, fun b => by simpa using h5 b⟩
    by_cases e : a = i ∧ b = k
    · obtain ⟨rfl, rfl⟩ := e
      rw [Qm.upd_same]; exact World.cell?_setCell_same _ _ _ (h4 b hb)
    · rw [Qm.upd_other e]
      refine (World.cell?_setCell_other _ _ _ _ ?_).trans (h4 b hb)
      intro e2
      injection e2 with e3 e4 _
      exact e ⟨(h.inj i a hi ha e3).symm, e4.symm⟩
theorem FTab.away (h : FTab gf G m M N F w) {b j : Nat} (hb : b ≠ gf) (hG : ∀ i, i < m → b ≠ G i) (x : Value) : FTab gf G m M N F (w.setCell ⟨b, j, none⟩ x) := by
  have o : ∀ c i, c ≠ b → (w.setCell ⟨b, j, none⟩ x).cell? ⟨c, i, none⟩ = w.cell? ⟨c, i, none⟩ := fun c i hc => World.cell?_setCell_other _ _ _ _ (by intro e; injection e with e _ _; exact hc e.symm)
  refine ⟨by rw [World.size_setCell]; exact h.lt, fun j => by simpa using h.fz j, fun a ha => ?_, fun a ha => ?_, h.inj⟩
  · obtain ⟨y, n, c, e⟩ := h.ex a ha
    exact ⟨y, n, c, (o _ _ (Ne.symm hb)).trans e⟩
  · obtain ⟨h1, h2, h3, h4, h5⟩ := h.row a ha
    exact ⟨(o _ _ (Ne.symm hb)).trans h1, h2, by rw [World.size_setCell]; exact h3, fun b hb' => (o _ _ (Ne.symm (hG a ha))).trans (h4 b hb'), fun b => by simpa using h5 b⟩
/-- A row's slice is laid into the table. -/
theorem FTab.laid (h : FTab gf G m M N F w) {j : Nat} (hj : m ≤ j) (hjM : j ≤ M) (ao : Option Addr) (n c : Nat) : FTab gf G m M N F (w.setCell ⟨gf, j, none⟩ (.slice ao n c)) := by
  refine ⟨by rw [World.size_setCell]; exact h.lt, fun j => by simpa using h.fz j, fun a ha => ?_, fun a ha => ?_, h.inj⟩
  · obtain ⟨y, n', c', e⟩ := h.ex a ha
    by_cases ea : a = j
    · subst ea; exact ⟨ao, n, c, World.cell?_setCell_same _ _ _ e⟩
    · exact ⟨y, n', c', (World.cell?_setCell_other _ _ _ _ (by intro e; injection e with _ e _; omega)).trans e⟩
  · obtain ⟨h1, h2, h3, h4, h5⟩ := h.row a ha
    exact ⟨(World.cell?_setCell_other _ _ _ _ (by intro e; injection e with _ e _; omega)).trans h1, h2, by rw [World.size_setCell]; exact h3, fun b hb' => (World.cell?_setCell_other _ _ _ _ (by intro e; injection e with e _ _; omega)).trans (h4 b hb'), fun b => by simpa using h5 b⟩
/-- One more row. -/
theorem FTab.more (h : FTab gf G m M N F w) {g : Nat} (c : w.cell? ⟨gf, m, none⟩ = some (.slice (some ⟨g, 0, none⟩) N N)) (hg : gf < g) (hz : g < w.heap.size) (hn : ∀ i, i < m → g ≠ G i) (hc : ∀ k, k < N → w.cell? ⟨g, k, none⟩ = some (.int .i64 (F m k))) (hf : ∀ k, w.frozen? ⟨g, k, none⟩ = false) : FTab gf (fun i => if i = m then g else G i) (m + 1) M N F w := by
  refine ⟨h.lt, h.fz, h.ex, fun i hi => ?_, fun i j hi hj e => ?_⟩
  · by_cases e : i = m
    · subst e; simp only [if_true]; exact ⟨c, hg, hz, hc, hf⟩
    · simp only [if_neg e]; exact h.row i (by omega)
  · by_cases e1 : i = m <;> by_cases e2 : j = m
    · omega
    · simp only [if_pos e1, if_neg e2] at e; exact absurd e (hn j (by omega))
    · simp only [if_neg e1, if_pos e2] at e; exact absurd e.symm (hn i (by omega))
    · simp only [if_neg e1, if_neg e2] at e; exact h.inj i j (by omega) (by omega) e
end
theorem infoInts : (Try.prog.info? 33).map (fun i => (i.zero, i.size, i.bytes)) = some (some (.slice none 0 0), 1, 24) := by kernel_rfl
end Go.Proofs.Ytgapfjjdccohkaa
