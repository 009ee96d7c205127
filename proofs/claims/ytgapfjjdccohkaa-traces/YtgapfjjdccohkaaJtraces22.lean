import Derived.Test.YtgapfjjdccohkaaJtraces21
import Derived.Test.YtgapfjjdccohkaaJtraces08
import Derived.Test.YtgapfjjdccohkaaJtraces04

/- outlineref: Polygon. -/
namespace Go.Proofs.Ytgapfjjdccohkaa
open Go.RowKit
attribute [local go_sem ↓] Go.wp_at_zero Go.wp_at_succ

namespace Qm
theorem Pth.le {v : List Pt} {i j : Nat} {l : List Nat} (h : Pth (okV v) i j l) : ∀ x ∈ l, x ≤ j := by
  induction h with
  | one i => intro x hx; simp at hx; omega
  | cons i k j l ho hp ih =>
    intro x hx
    rcases List.mem_cons.1 hx with h | h
    · have := hp.len.1; have := ho.1; omega
    · exact ih x h
theorem cornN_lt {c : List Pt} (h0 : 0 < c.length) (hu : Unit (c ++ [fstP c])) : ∀ x ∈ cornN c, x < c.length := by
  intro x hx
  rcases (cornN_is h0 hu).1.unsnoc with ⟨h, _⟩ | ⟨k, m, e, hp, hk⟩
  · omega
  · have e2 : cornN c = m := List.append_cancel_right e
    rw [e2] at hx
    have := hp.le x hx
    have := hk.1
    omega
end Qm

/-- A box of two cells. -/
def Box2 (b : Nat) (x y : Value) (w : World) : Prop := b < w.heap.size ∧ w.cell? ⟨b, 0, none⟩ = some x ∧ w.cell? ⟨b, 1, none⟩ = some y ∧ w.frozen? ⟨b, 0, none⟩ = false ∧ w.frozen? ⟨b, 1, none⟩ = false
theorem Box2.new (w : World) (x y : Value) (t : TypeId) : Box2 w.heap.size x y (w.alloc (.cells #[x, y] t)) := ⟨by simp, by simp, by simp, by simp, by simp⟩
theorem Box2.on {b B : Nat} {x y : Value} {w w' : World} (h : Box2 b x y w) (hb : Below B w w') (hB : b < B) : Box2 b x y w' :=
  ⟨Nat.lt_of_lt_of_le h.1 hb.size, (hb.cell (p := ⟨b, 0, none⟩) hB).trans h.2.1, (hb.cell (p := ⟨b, 1, none⟩) hB).trans h.2.2.1, (hb.frozen (p := ⟨b, 0, none⟩) hB).trans h.2.2.2.1, (hb.frozen (p := ⟨b, 1, none⟩) hB).trans h.2.2.2.2⟩
theorem Box2.gb {b : Nat} {x y : Value} {w w' : World} {r : Option Nat} (h : Box2 b x y w) (hb : w.grownBy w' r) (hne : r ≠ some b) : Box2 b x y w' := by
  have e := hb.block b h.1 (Ne.symm hne)
  have C : ∀ j, w'.cell? ⟨b, j, none⟩ = w.cell? ⟨b, j, none⟩ := fun j => World.cell?_of_block (a := ⟨b, j, none⟩) e
  exact ⟨Nat.lt_of_lt_of_le h.1 hb.size, (C _).trans h.2.1, (C _).trans h.2.2.1, by have := h.2.2.2.1; unfold World.frozen? at this ⊢; rw [e]; exact this, by have := h.2.2.2.2; unfold World.frozen? at this ⊢; rw [e]; exact this⟩
theorem Box2.set0 {b : Nat} {x y : Value} {w : World} (h : Box2 b x y w) (u : Value) : Box2 b u y (w.setCell ⟨b, 0, none⟩ u) :=
  ⟨by rw [World.size_setCell]; exact h.1, World.cell?_setCell_same _ _ _ h.2.1, (World.cell?_setCell_other _ _ _ _ (by simp)).trans h.2.2.1, by simpa using h.2.2.2.1, by simpa using h.2.2.2.2⟩
theorem Box2.set1 {b : Nat} {x y : Value} {w : World} (h : Box2 b x y w) (u : Value) : Box2 b x u (w.setCell ⟨b, 1, none⟩ u) :=
  ⟨by rw [World.size_setCell]; exact h.1, (World.cell?_setCell_other _ _ _ _ (by simp)).trans h.2.1, World.cell?_setCell_same _ _ _ h.2.2.1, by simpa using h.2.2.2.1, by simpa using h.2.2.2.2⟩

set_option maxRecDepth 4000 in
set_option maxHeartbeats 4000000 in
theorem polygon_any (g n cap : Nat) (c : List (Int × Int)) (hn : n = c.length) (h0 : 0 < n) (hs : Qm.Small c) (hn2 : n ≤ 4356) (hu : Qm.Unit (c ++ [Qm.fstP c])) (w : World) (hP : PtsAt g c w) :
    Calls Try.prog 53 #[.slice (some ⟨g, 0, none⟩) n cap] w fun e w' => ∃ v, e = .returned (.agg #[v, .int .i64 (Qm.twiceOf (Qm.cornL c))]) ∧ w'.ownsRow w.heap.size 47 2 v (Qm.cornL c).length (Qm.ptsV (Qm.cornL c)) ∧ Below w.heap.size w w' := by
  obtain ⟨ip, hip, hp0, hp1, hp2⟩ := info_parts infoPoint
  have HP := hid hP
  have hg := hP.1
  have HN := hid hn
  have CI := hid (show Qm.Opt (Qm.okV (c ++ [Qm.fstP c])) (Qm.cV (c ++ [Qm.fstP c])) 0 n (Qm.cornN c ++ [n]) by rw [hn]; exact Qm.cornN_is (by omega) hu)
  have CL := hid (show ∀ x ∈ Qm.cornN c, x < n by rw [hn]; exact Qm.cornN_lt (by omega) hu)
  have CE := hid (show Qm.cornL c = cpts c (Qm.cornN c) from rfl)
  have CS := hid (Qm.cornL_small hs)
  have cpos := Qm.cornL_pos (c := c) (by omega)
  have cle := Qm.cornL_le c
  have HB0 := hid (fun W' (h : PtsAt g c W') => best_any g n cap c hn h0 hs hn2 hu W' h)
  have LE := hid (show (Qm.cornL c).length = (Qm.cornN c).length by rw [CE.out]; simp [cpts])
  rw [LE.out] at cpos cle
  rw [← hn] at cle
  obtain ⟨cn, hcn⟩ : ∃ cn, cn = Qm.cornN c := ⟨_, rfl⟩
  rw [← hcn] at CI CL CE LE cpos cle
  clear hP hn hs hu hcn
  go_enter Try.func53, Try.ntmps53
  go_wp2_with fail
  have R0 := hid (Box2.new w (.slice none 0 0) (.int .i64 0) 43)
  refine (HB0.out _ (HP.out.on (B := w.heap.size) ((Below.refl _ _).alloc (Nat.le_refl _) _) hg)).mono ?_
  rintro e w1 ⟨gl, capl, L, rfl, hopt, hL, hb1⟩
  obtain rfl := CI.out.unique hopt
  have z1 := hb1.size
  simp at z1
  have HL := hid hL
  have hgl := hL.1
  have B1 := hid (show Below w.heap.size w w1 from Below.trans (b := _) (by go_grown) (hb1.mono (by simp)))
  have R1 := hid (R0.out.on hb1 (by simp))
  have HP1 := hid (HP.out.on B1.out hg)
  rw [show (cn ++ [n]).length = cn.length + 1 from by simp]
  clear hopt hL hb1 R0
  obtain ⟨m, hm⟩ : ∃ m, m = cn.length := ⟨_, rfl⟩
  rw [← hm] at cpos cle LE ⊢
  have HM := hid hm
  clear hm
  have S1 := hid (Box2.new w1 (.slice none 0 0) (.int .i64 0) 43)
  go_wp2_with fail
  go_loopw [5] (fun iv wr => ∃ (i : Nat) (v : Value), i ≤ m ∧ iv = .int .i64 i ∧ Hid (Box2 w1.heap.size v (.int .i64 0) wr) ∧ Hid (wr.ownsRow (w1.heap.size + 1) 47 2 v i (Qm.ptsV (cpts c (cn.take i)))) ∧ Hid (Below w1.heap.size w1 wr)) (fun i _ => m - (intOf i).toNat)
  case atStart => exact ⟨0, _, by omega, rfl, S1, World.ownsRow_nil _ _ _ _, (Below.refl _ _).alloc (Nat.le_refl _) _⟩
  case round =>
    clear S1
    obtain ⟨i, v, him, rfl, hS, hO, hB⟩ := hrel
    obtain ⟨s0, s1, s2, s3, s4⟩ := hS.out
    obtain ⟨ao, capo, hv, hcapo⟩ := own_cap hO.out
    subst hv
    by_cases hlt : i < m
    · have hic : i < cn.length := by rw [← HM.out]; exact hlt
      have e1 : (cn ++ [n]).getD i 0 = cn.getD i 0 := Qm.getD_app_l _ _ _ _ hic
      have c0 := (HL.out.on hB.out hgl).2 i (by simp; omega)
      rw [e1] at c0
      have qn := CL.out (cn.getD i 0) (by rw [List.getD_eq_getElem?_getD, List.getElem?_eq_getElem hic]; exact List.getElem_mem hic)
      have NX := hid (show cpts c (cn.take (i + 1)) = cpts c (cn.take i) ++ [c.getD (cn.getD i 0) (0, 0)] by
        rw [List.take_add_one, List.getElem?_eq_getElem hic]
        unfold cpts
        rw [List.map_append]
        simp [List.getD_eq_getElem?_getD, hic])
      obtain ⟨q, hq⟩ : ∃ q, q = cn.getD i 0 := ⟨_, rfl⟩
      rw [← hq] at c0 qn NX
      have pz := HP1.out.1
      have hz := hB.out.size
      obtain ⟨d0, d1⟩ := (HP1.out.on hB.out pz).2 q (by have := HN.out; omega)
      obtain ⟨⟨pa, pb⟩, hpp⟩ : ∃ p, p = c.getD q (0, 0) := ⟨_, rfl⟩
      rw [← hpp] at d0 d1 NX
      dsimp only at d0 d1
      have i1 : (0 : Int) ≤ (i : Nat) := by omega
      have i2 : ((i : Nat) : Int) < (m : Int) + 1 := by omega
      have i3 : (i : Int) + 1 < (m : Int) + 1 := by omega
      have q1 : (0 : Int) ≤ (q : Nat) := by omega
      have q2 : ((q : Nat) : Int) < (n : Nat) := by omega
      have m1 : i + 1 ≤ maxLen := by unfold maxLen; omega
      have m2 : (i + 1) * 16 ≤ 140737488355328 := by omega
      clear e1 hq hpp
      have hb1 : w1.heap.size + 1 ≤ ((wr.alloc (.cells #[.int .i64 pa, .int .i64 pb] 47)).drew).heap.size := by simp; omega
      have S8 := hid (show Box2 w1.heap.size (.slice ao i capo) (.int .i64 0) (wr.alloc (.cells #[.int .i64 pa, .int .i64 pb] 47)).drew from (hS.out.on (B := wr.heap.size) ((Below.refl _ _).alloc (Nat.le_refl _) _) s0).on (B := wr.heap.size) (w' := (wr.alloc (.cells #[.int .i64 pa, .int .i64 pb] 47)).drew) ⟨rfl, rfl, rfl, Nat.le_refl _, fun _ _ => rfl⟩ s0)
      have B8 := hid (show Below w1.heap.size w1 (wr.alloc (.cells #[.int .i64 pa, .int .i64 pb] 47)).drew from (hB.out.alloc hz _).trans ⟨rfl, rfl, rfl, Nat.le_refl _, fun _ _ => rfl⟩)
      have OB := hid (fun q hq => hO.out.lt q hq)
      go_wp2_with fail
      go_region_law
        ((refine step_append_lies _ (by rfl) _ _ _ (by rfl) (w1.heap.size + 1) 47 ip (.agg #[.int .i64 0, .int .i64 0]) 2 16 Try.underlying41 hip hp0 hp1 hp2 rfl (by omega) (.slice ao i capo) i (Qm.ptsV (cpts c (cn.take i))) (by rfl) ((hO.out.alloc _).drew) ⟨wr.heap.size, 0, none⟩ 1 1 [.int .i64 pa, .int .i64 pb] (by rfl) (by rfl) (World.news_of_block (cs := #[.int .i64 pa, .int .i64 pb]) (t := 47) (fr := (0, 0)) (heap_alloc_new wr _)) (by simp [Value.oneCell']) (by omega) m1 m2 hb1 (wr.heap.size + 1) (by simp) ?_; intro gg capg w7 O7 G7 A7 hlt7; have S9 := hid (S8.out.gb G7 (fun e => by have := (OB.out _ e).1; omega)); obtain ⟨t0, t1, t2, t3, t4⟩ := S9.out))
      all_goals (
        have o7 : w7.ownsRow (w1.heap.size + 1) 47 2 (.slice (some ⟨gg, 0, none⟩) (i + 1) capg) (i + 1) (Qm.ptsV (cpts c (cn.take (i + 1)))) := by rw [NX.out, Qm.ptsV_snoc]; exact O7
        have B9 := B8.out.grown G7 (show w1.heap.size ≤ _ by simp; omega) (fun q hq => by have := (OB.out q hq).1; omega)
        have O10 := hid (own_keep o7 (g := w1.heap.size) (by omega) (set_grown (Below.refl _ _) ⟨w1.heap.size, 0, none⟩ (v := .slice (some ⟨gg, 0, none⟩) (i + 1) capg)))
        have S10 := hid (S9.out.set0 (.slice (some ⟨gg, 0, none⟩) (i + 1) capg))
        have B10 := hid (B9.setCell (p := ⟨w1.heap.size, 0, none⟩) (show w1.heap.size ≤ w1.heap.size from Nat.le_refl _) (.slice (some ⟨gg, 0, none⟩) (i + 1) capg))
        clear O7 G7 A7 o7 B9
        go_wp2
        go_roundw
        case rel => exact ⟨i + 1, _, by omega, by go_num, S10, O10, B10⟩
        case measure => simp [intOf]; omega)
    · have ei : i = m := by omega
      subst ei
      have o2 : wr.ownsRow (w1.heap.size + 1) 47 2 (.slice ao i capo) i (Qm.ptsV (Qm.cornL c)) := by
        have := hO.out
        rw [HM.out, List.take_length, ← CE.out, ← HM.out] at this
        exact this
      obtain ⟨gs, caps, es, hgs, hps, -⟩ := own_at o2 cpos
      injection es with es1 _ es2
      subst es1
      subst es2
      have O2 := hid o2
      have HPS := hid hps
      have RR := hid (R1.out.on hB.out (by omega))
      have hle : w.heap.size < w1.heap.size := by omega
      clear o2 hps
      have i3 : ¬ (i : Int) + 1 < (i : Int) + 1 := by omega
      go_wp2_with fail
      refine (refTwice_any gs i capo (Qm.cornL c) LE.out.symm cpos CS.out (by omega) _ HPS.out).mono ?_
      rintro e w8 ⟨rfl, hb8⟩
      have S8 := hid (hS.out.on hb8 s0)
      have R8 := hid (RR.out.on hb8 (by have := hB.out.size; omega))
      have O8 := hid (own_below O2.out hb8)
      have B8 := hid (show Below w1.heap.size w1 w8 from hB.out.trans (hb8.mono hB.out.size))
      obtain ⟨tw, htw⟩ : ∃ tw, tw = Qm.twiceOf (Qm.cornL c) := ⟨_, rfl⟩
      rw [← htw]
      have HTW := hid htw
      clear hb8 htw s0 s1 s2 s3 s4
      obtain ⟨s0, s1, s2, s3, s4⟩ := S8.out
      obtain ⟨r0, r1, r2, r3, r4⟩ := R8.out
      have ne1 : ¬ w1.heap.size = w.heap.size := by omega
      go_wp2
      refine bodyPost_ret (v := .agg #[.slice (some ⟨gs, 0, none⟩) i capo, .int .i64 tw]) (by simp [results, Try.results53, go_sem, World.cell?_setCell_other, World.cell?_setCell_same', *]) rfl ?_
      refine ⟨_, by rw [HTW.out], ?_, ?_⟩
      · rw [LE.out]
        exact (own_keep (own_keep (own_keep O8.out (g := w1.heap.size) (by omega) (set_grown (Below.refl _ _) ⟨w1.heap.size, 1, none⟩)) (g := w.heap.size) (by omega) (set_grown (Below.refl _ _) ⟨w.heap.size, 0, none⟩)) (g := w.heap.size) (by omega) (set_grown (Below.refl _ _) ⟨w.heap.size, 1, none⟩)).mono (by omega)
      · exact (((B1.out.trans (B8.out.mono B1.out.size)).setCell (p := ⟨w1.heap.size, 1, none⟩) (by dsimp only; omega) _).setCell (p := ⟨w.heap.size, 0, none⟩) (Nat.le_refl _) _).setCell (p := ⟨w.heap.size, 1, none⟩) (Nat.le_refl _) _
end Go.Proofs.Ytgapfjjdccohkaa

/- Winding numbers of a list of sides. Nothing of the program stands here. -/
namespace Go.Proofs.Ytgapfjjdccohkaa.Qm

/-- What is summed over a list of sides. -/
def sm (S : List Sd) (g : Sd → Int) : Int := (S.map g).sum
theorem sm_nil (g : Sd → Int) : sm [] g = 0 := rfl
theorem sm_cons (s : Sd) (S : List Sd) (g : Sd → Int) : sm (s :: S) g = g s + sm S g := by simp [sm]
theorem sm_app (S T : List Sd) (g : Sd → Int) : sm (S ++ T) g = sm S g + sm T g := by simp [sm, List.sum_append]
theorem sm_congr {S : List Sd} {g h : Sd → Int} (e : ∀ s ∈ S, g s = h s) : sm S g = sm S h := by
  unfold sm; rw [List.map_congr_left e]
theorem sm_add (S : List Sd) (g h : Sd → Int) : sm S (fun s => g s + h s) = sm S g + sm S h := by
  induction S with
  | nil => rfl
  | cons s S ih => simp only [sm_cons, ih]; omega
theorem sm_sub (S : List Sd) (g h : Sd → Int) : sm S (fun s => g s - h s) = sm S g - sm S h := by
  induction S with
  | nil => rfl
  | cons s S ih => simp only [sm_cons, ih]; omega
theorem sm_zero {S : List Sd} {g : Sd → Int} (e : ∀ s ∈ S, g s = 0) : sm S g = 0 := by
  induction S with
  | nil => rfl
  | cons s S ih => rw [sm_cons, e s (by simp), ih (fun t ht => e t (by simp [ht]))]; rfl

/-- How often a side stands in a list. -/
def ct (S : List Sd) (t : Sd) : Int := sm S (fun s => if s = t then 1 else 0)
theorem ct_no {S : List Sd} {t : Sd} (h : t ∉ S) : ct S t = 0 := sm_zero fun s hs => by
  rw [if_neg]; rintro rfl; exact h hs
theorem ct_yes {S : List Sd} {t : Sd} (hn : S.Nodup) (h : t ∈ S) : ct S t = 1 := by
  induction S with
  | nil => simp at h
  | cons s S ih =>
    have hn' := List.nodup_cons.1 hn
    show sm (s :: S) _ = 1
    rw [sm_cons]
    by_cases e : s = t
    · subst e
      have := ct_no hn'.1
      unfold ct at this
      rw [if_pos rfl, this]; rfl
    · rw [if_neg e]
      have := ih hn'.2 (by rcases List.mem_cons.1 h with h | h; exact absurd h.symm e; exact h)
      unfold ct at this
      rw [this]; rfl

/-- What one side adds to the winding number at the middle of pixel (x, y). -/
def hw (x y : Int) (s : Sd) : Int :=
  if s.2.2 = 2 ∧ s.2.1 = y + 1 ∧ x < s.1 then 1 else if s.2.2 = 0 ∧ s.2.1 = y ∧ x < s.1 then -1 else 0
def wn (S : List Sd) (x y : Int) : Int := sm S (hw x y)

theorem wn_x (S : List Sd) (x y : Int) : wn S (x - 1) y - wn S x y = ct S (x, y + 1, 2) - ct S (x, y, 0) := by
  unfold wn ct
  rw [← sm_sub, ← sm_sub]
  refine sm_congr fun s _ => ?_
  obtain ⟨a, b, d⟩ := s
  simp only [hw, Prod.mk.injEq]
  by_cases h2 : d = 2
  · subst h2; simp; split <;> split <;> (try split) <;> omega
  · by_cases h0 : d = 0
    · subst h0; simp; split <;> split <;> (try split) <;> omega
    · simp [h2, h0]

/-- It comes back to where it began. -/
def Closed (S : List Sd) : Prop := ∀ φ : Int × Int → Int, sm S (fun s => φ (en s) - φ (fromP s)) = 0
theorem Closed.nil : Closed [] := fun _ => rfl
theorem Closed.app {S T : List Sd} (h : Closed S) (k : Closed T) : Closed (S ++ T) := fun φ => by rw [sm_app, h φ, k φ]; rfl

theorem wn_y {S : List Sd} (hS : Closed S) (hd : ∀ s ∈ S, s.2.2 < 4) (x y : Int) : wn S x (y - 1) - wn S x y = ct S (x, y, 1) - ct S (x + 1, y, 3) := by
  have h := hS (fun p => if p.2 = y ∧ x < p.1 then 1 else 0)
  have e : sm S (fun s => (hw x (y - 1) s - hw x y s) - ((if s = (x, y, 1) then (1 : Int) else 0) - (if s = (x + 1, y, 3) then 1 else 0))) = sm S (fun s => 0 - ((fun p : Int × Int => if p.2 = y ∧ x < p.1 then (1 : Int) else 0) (en s) - (fun p : Int × Int => if p.2 = y ∧ x < p.1 then (1 : Int) else 0) (fromP s))) := by
    refine sm_congr fun s hs => ?_
    have h4 := hd s hs
    obtain ⟨a, b, d⟩ := s
    match d, h4 with
    | 0, _ => simp [hw, en, fromP]; repeat' split <;> try omega
    | 1, _ => simp [hw, en, fromP]; repeat' split <;> try omega
    | 2, _ => simp [hw, en, fromP]; repeat' split <;> try omega
    | 3, _ => simp [hw, en, fromP]; repeat' split <;> try omega
  rw [sm_sub, sm_sub, sm_sub, sm_sub (g := fun _ => (0 : Int)), h, sm_zero (fun _ _ => rfl)] at e
  unfold wn ct
  omega

theorem wn_left {S : List Sd} (hS : Closed S) (hd : ∀ s ∈ S, s.2.2 < 4) (x y : Int) (hx : ∀ s ∈ S, x < s.1) : wn S x y = 0 := by
  have h := hS (fun p => if p.2 ≤ y then 1 else 0)
  rw [← h]
  refine sm_congr fun s hs => ?_
  have h4 := hd s hs
  have hx := hx s hs
  obtain ⟨a, b, d⟩ := s
  simp only at hx
  match d, h4 with
  | 0, _ => simp [hw, en, fromP, hx]; repeat' split <;> try omega
  | 1, _ => simp [hw, en, fromP]; omega
  | 2, _ => simp [hw, en, fromP, hx]; repeat' split <;> try omega
  | 3, _ => simp [hw, en, fromP]; omega
theorem wn_right {S : List Sd} (x y : Int) (hx : ∀ s ∈ S, s.1 ≤ x) : wn S x y = 0 := sm_zero fun s hs => by
  have := hx s hs
  unfold hw
  rw [if_neg (by omega), if_neg (by omega)]
end Go.Proofs.Ytgapfjjdccohkaa.Qm

/- The winding numbers of one cycle: on its left one number, on its right one less; they never change their sign. Nothing of the program stands here. -/
namespace Go.Proofs.Ytgapfjjdccohkaa.Qm

/-- The sides of a cycle. -/
def cyS (f : Sd → Sd) (c : Sd × Nat) : List Sd := (List.range c.2).map fun i => it f i c.1
theorem mem_cyS {f : Sd → Sd} {c : Sd × Nat} {t : Sd} : t ∈ cyS f c ↔ ∃ i, i < c.2 ∧ t = it f i c.1 := by
  simp only [cyS, List.mem_map, List.mem_range]
  exact ⟨fun ⟨i, h, e⟩ => ⟨i, h, e.symm⟩, fun ⟨i, h, e⟩ => ⟨i, h, e.symm⟩⟩

theorem sm_range (f : Sd → Sd) (s : Sd) (g : Sd → Int) (n : Nat) : sm ((List.range (n + 1)).map fun i => it f i s) g = sm ((List.range n).map fun i => it f i s) g + g (it f n s) := by
  rw [List.range_succ, List.map_append, sm_app]; simp [sm]
theorem sm_tele {bl jn : Int → Int → Bool} (s : Sd) (φ : Int × Int → Int) (n : Nat) : sm ((List.range n).map fun i => it (nx bl jn) i s) (fun s => φ (en s) - φ (fromP s)) = φ (fromP (it (nx bl jn) n s)) - φ (fromP s) := by
  induction n with
  | zero => simp [sm, it]
  | succ n ih =>
    rw [sm_range, ih]
    have : fromP (it (nx bl jn) (n + 1) s) = en (it (nx bl jn) n s) := rfl
    rw [this]; omega

section
variable {bl jn : Int → Int → Bool} {c : Sd × Nat}

theorem Cyc.closed (h : Cyc (nx bl jn) (fun s => isS bl s = true) c.1 c.2) : Closed (cyS (nx bl jn) c) := fun φ => by
  unfold cyS
  rw [sm_tele, h.2.2.1]; omega
theorem Cyc.nodup (h : Cyc (nx bl jn) (fun s => isS bl s = true) c.1 c.2) : (cyS (nx bl jn) c).Nodup := by
  unfold cyS
  rw [List.Nodup, List.pairwise_map]
  refine List.Pairwise.imp_of_mem ?_ List.pairwise_lt_range
  intro i j _ hj hij
  exact h.2.2.2 i j hij (List.mem_range.1 hj)
theorem it_isS {s : Sd} (h : isS bl s = true) (n : Nat) : isS bl (it (nx bl jn) n s) = true := by
  induction n with
  | zero => exact h
  | succ n ih => exact nx_isS ih
theorem Cyc.sides (h : Cyc (nx bl jn) (fun s => isS bl s = true) c.1 c.2) : ∀ s ∈ cyS (nx bl jn) c, isS bl s = true := fun s hs => by
  obtain ⟨i, _, rfl⟩ := mem_cyS.1 hs
  exact it_isS h.1 i
theorem Cyc.mem (h : Cyc (nx bl jn) (fun s => isS bl s = true) c.1 c.2) (i : Nat) : it (nx bl jn) i c.1 ∈ cyS (nx bl jn) c :=
  mem_cyS.2 ⟨i % c.2, Nat.mod_lt _ h.2.1, h.mod i⟩

/-- On the left of a side of the list, one more than on its right. -/
theorem wn_side {S : List Sd} (hS : Closed S) (hn : S.Nodup) (hs : ∀ s ∈ S, isS bl s = true) {x y : Int} {d : Nat} (h : (x, y, d) ∈ S) : wn S (lpx x d) (lpy y d) = wn S (rpx x d) (rpy y d) + 1 := by
  have h0 := hs _ h
  have h4 := isS_lt h0
  have c1 := ct_yes hn h
  have no : ∀ t : Sd, isS bl t = false → ct S t = 0 := fun t ht => ct_no fun hm => by rw [hs t hm] at ht; simp at ht
  have hd : ∀ s ∈ S, s.2.2 < 4 := fun s hm => isS_lt (hs s hm)
  simp only at h4
  match d, h4 with
  | 0, _ =>
    have a := wn_x S x y
    have b := no (x, y + 1, 2) (by simp [isS, outQ] at h0 ⊢; simp [h0])
    simp only [lpx, lpy, rpx, rpy]; simp
    omega
  | 1, _ =>
    have a := wn_y hS hd x y
    have b := no (x + 1, y, 3) (by simp [isS, outQ] at h0 ⊢; simp [h0])
    simp only [lpx, lpy, rpx, rpy]; simp
    omega
  | 2, _ =>
    have a := wn_x S x (y - 1)
    rw [show y - 1 + 1 = y from by omega] at a
    have b := no (x, y - 1, 0) (by simp [isS, outQ] at h0 ⊢; simp [h0])
    simp only [lpx, lpy, rpx, rpy]; simp
    omega
  | 3, _ =>
    have a := wn_y hS hd (x - 1) y
    rw [show x - 1 + 1 = x from by omega] at a
    have b := no (x - 1, y, 1) (by simp [isS, outQ] at h0 ⊢; simp [h0])
    simp only [lpx, lpy, rpx, rpy]; simp
    omega

/-- Where two pixels side by side are of one colour, no side parts them. -/
theorem wn_same_x {S : List Sd} (hs : ∀ s ∈ S, isS bl s = true) {x y : Int} (h : bl (x - 1) y = bl x y) : wn S (x - 1) y = wn S x y := by
  have no : ∀ t : Sd, isS bl t = false → ct S t = 0 := fun t ht => ct_no fun hm => by rw [hs t hm] at ht; simp at ht
  have a := wn_x S x y
  have b := no (x, y + 1, 2) (by simp [isS, outQ, h])
  have d := no (x, y, 0) (by simp [isS, outQ, h])
  omega
theorem wn_same_y {S : List Sd} (hS : Closed S) (hs : ∀ s ∈ S, isS bl s = true) {x y : Int} (h : bl x (y - 1) = bl x y) : wn S x (y - 1) = wn S x y := by
  have no : ∀ t : Sd, isS bl t = false → ct S t = 0 := fun t ht => ct_no fun hm => by rw [hs t hm] at ht; simp at ht
  have a := wn_y hS (fun s hm => isS_lt (hs s hm)) x y
  have b := no (x, y, 1) (by simp [isS, outQ, h])
  have d := no (x + 1, y, 3) (by simp [isS, outQ, h])
  omega
end
end Go.Proofs.Ytgapfjjdccohkaa.Qm

/- One cycle's winding numbers have one sign; its Twice is twice their sum. Nothing of the program stands here. -/
namespace Go.Proofs.Ytgapfjjdccohkaa.Qm

theorem next_turn : ∀ (j nw ne se sw : Bool) (d : Fin 4), inQ nw ne se sw d = true → nextD j nw ne se sw d = d.val ∨ nextD j nw ne se sw d = (d.val + 1) % 4 ∨ nextD j nw ne se sw d = (d.val + 3) % 4 := by decide

/-- The number on the left of a side. -/
def lw (S : List Sd) (s : Sd) : Int := wn S (lpx s.1 s.2.2) (lpy s.2.1 s.2.2)
def rw' (S : List Sd) (s : Sd) : Int := wn S (rpx s.1 s.2.2) (rpy s.2.1 s.2.2)

section
variable {bl jn : Int → Int → Bool} {c : Sd × Nat}

theorem lw_next {S : List Sd} (hS : Closed S) (hn : S.Nodup) (hs : ∀ s ∈ S, isS bl s = true) {s : Sd} (h : s ∈ S) (h' : nx bl jn s ∈ S) : lw S (nx bl jn s) = lw S s := by
  have i0 := hs _ h
  have i1 := hs _ h'
  have d4 := isS_lt i0
  have w0 := wn_side hS hn hs (x := s.1) (y := s.2.1) (d := s.2.2) h
  have w1 := wn_side hS hn hs (x := (nx bl jn s).1) (y := (nx bl jn s).2.1) (d := (nx bl jn s).2.2) h'
  have tn : (nx bl jn s).2.2 = s.2.2 ∨ (nx bl jn s).2.2 = (s.2.2 + 1) % 4 ∨ (nx bl jn s).2.2 = (s.2.2 + 3) % 4 := by
    have := i0
    rw [isS_in] at this
    exact next_turn _ _ _ _ _ ⟨s.2.2, d4⟩ this
  have e1 : (nx bl jn s).1 = (en s).1 := rfl
  have e2 : (nx bl jn s).2.1 = (en s).2 := rfl
  unfold lw
  obtain ⟨t, et⟩ : ∃ t, nx bl jn s = t := ⟨_, rfl⟩
  rw [et] at i1 w1 tn e1 e2 ⊢
  clear h' et
  obtain ⟨x', y', d'⟩ := t
  obtain ⟨x, y, d⟩ := s
  simp only at e1 e2 tn w0 w1 d4 ⊢
  subst e1 e2
  match d, d4 with
  | 0, _ =>
    rcases tn with rfl | rfl | rfl
    · simp [isS, outQ, en] at i0 i1
      have := wn_same_y hS hs (x := x) (y := y + 1) (by rw [i1.1]; simpa using i0.1)
      simp [lpx, lpy, en] at this ⊢; exact this.symm
    · simp [lpx, lpy, en]
    · simp [lpx, lpy, rpx, rpy, en] at w0 w1 ⊢; omega
  | 1, _ =>
    rcases tn with rfl | rfl | rfl
    · simp [isS, outQ, en] at i0 i1
      have := wn_same_x (S := S) hs (x := x + 1) (y := y - 1) (by rw [i1.1]; simpa using i0.1)
      simp [lpx, lpy, en] at this ⊢; exact this.symm
    · simp [lpx, lpy, en]
    · simp [lpx, lpy, rpx, rpy, en] at w0 w1 ⊢; omega
  | 2, _ =>
    rcases tn with rfl | rfl | rfl
    · simp [isS, outQ, en] at i0 i1
      have := wn_same_y hS hs (x := x - 1) (y := y - 1) (by rw [i0.1]; simpa using i1.1)
      simp [lpx, lpy, en] at this ⊢; exact this
    · simp [lpx, lpy, en]
    · simp [lpx, lpy, rpx, rpy, en] at w0 w1 ⊢; omega
  | 3, _ =>
    rcases tn with rfl | rfl | rfl
    · simp [isS, outQ, en] at i0 i1
      have := wn_same_x (S := S) hs (x := x - 1) (y := y) (by rw [i0.1]; simpa using i1.1)
      simp [lpx, lpy, en] at this ⊢; exact this
    · simp [lpx, lpy, en]
    · simp [lpx, lpy, rpx, rpy, en] at w0 w1 ⊢; omega

theorem Cyc.lw_all (h : Cyc (nx bl jn) (fun s => isS bl s = true) c.1 c.2) {s : Sd} (hs : s ∈ cyS (nx bl jn) c) : lw (cyS (nx bl jn) c) s = lw (cyS (nx bl jn) c) c.1 := by
  have key : ∀ i, lw (cyS (nx bl jn) c) (it (nx bl jn) i c.1) = lw (cyS (nx bl jn) c) c.1 := by
    intro i
    induction i with
    | zero => rfl
    | succ i ih => exact (lw_next h.closed h.nodup h.sides (h.mem i) (h.mem (i + 1))).trans ih
  obtain ⟨i, _, rfl⟩ := mem_cyS.1 hs
  exact key i

/-- All winding numbers of a cycle are 0 or one and the same sign. -/
theorem Cyc.sign (h : Cyc (nx bl jn) (fun s => isS bl s = true) c.1 c.2) {W H : Int} (hp : Pic bl W H) :
    (lw (cyS (nx bl jn) c) c.1 = 0 ∨ lw (cyS (nx bl jn) c) c.1 = 1) ∧ ∀ x y, wn (cyS (nx bl jn) c) x y = 0 ∨ wn (cyS (nx bl jn) c) x y = 2 * lw (cyS (nx bl jn) c) c.1 - 1 := by
  have hS := h.closed
  have hn := h.nodup
  have hs := h.sides
  have hl : ∀ {x y : Int} {d : Nat}, (x, y, d) ∈ cyS (nx bl jn) c → wn (cyS (nx bl jn) c) (lpx x d) (lpy y d) = lw (cyS (nx bl jn) c) c.1 ∧ wn (cyS (nx bl jn) c) (rpx x d) (rpy y d) = lw (cyS (nx bl jn) c) c.1 - 1 := fun {x y d} hm => by
    have a := h.lw_all hm
    have b := wn_side hS hn hs hm
    unfold lw at a
    simp only at a
    unfold lw
    omega
  have h0 := h.mem 0
  have hd : ∀ s ∈ cyS (nx bl jn) c, s.2.2 < 4 := fun s hm => isS_lt (hs s hm)
  have hlow : ∀ s ∈ cyS (nx bl jn) c, 0 ≤ s.1 := fun s hm => (side_in hp (hs s hm)).1
  obtain ⟨S, eS⟩ : ∃ S, cyS (nx bl jn) c = S := ⟨_, rfl⟩
  rw [eS] at hS hn hs h0 hd hlow hl ⊢
  obtain ⟨k, ek⟩ : ∃ k, lw S c.1 = k := ⟨_, rfl⟩
  rw [ek] at hl ⊢
  have vals : ∀ (y : Int) (n : Nat), wn S ((n : Int) - 1) y = 0 ∨ ((k = 0 ∨ k = 1) ∧ (wn S ((n : Int) - 1) y = k ∨ wn S ((n : Int) - 1) y = k - 1)) := by
    intro y n
    induction n with
    | zero => exact .inl (wn_left hS hd _ y fun s hm => by have := hlow s hm; simp; omega)
    | succ n ih =>
      have e : ((n + 1 : Nat) : Int) - 1 = n := by omega
      rw [e]
      by_cases u : ((n : Int), y + 1, 2) ∈ S
      · have := hl u
        simp [lpx, lpy, rpx, rpy] at this
        omega
      · by_cases v : ((n : Int), y, 0) ∈ S
        · have := hl v
          simp [lpx, lpy, rpx, rpy] at this
          omega
        · have := wn_x S n y
          rw [ct_no u, ct_no v] at this
          omega
  have all : ∀ x y : Int, wn S x y = 0 ∨ ((k = 0 ∨ k = 1) ∧ (wn S x y = k ∨ wn S x y = k - 1)) := by
    intro x y
    by_cases hx : x < 0
    · exact .inl (wn_left hS hd x y fun s hm => by have := hlow s hm; omega)
    · have := vals y (x + 1).toNat
      rwa [show (((x + 1).toNat : Nat) : Int) - 1 = x from by omega] at this
  have hk : k = 0 ∨ k = 1 := by
    have a := hl (x := c.1.1) (y := c.1.2.1) (d := c.1.2.2) h0
    have b1 := all (lpx c.1.1 c.1.2.2) (lpy c.1.2.1 c.1.2.2)
    have b2 := all (rpx c.1.1 c.1.2.2) (rpy c.1.2.1 c.1.2.2)
    omega
  refine ⟨hk, fun x y => ?_⟩
  have := all x y
  omega
end

/-- A sum over the first n numbers. -/
def sN (n : Nat) (g : Nat → Int) : Int := match n with
  | 0 => 0
  | n + 1 => sN n g + g n
theorem sN_congr {n : Nat} {g h : Nat → Int} (e : ∀ i, i < n → g i = h i) : sN n g = sN n h := by
  induction n with
  | zero => rfl
  | succ n ih => simp only [sN]; rw [ih fun i hi => e i (by omega), e n (by omega)]
theorem sN_add (n : Nat) (g h : Nat → Int) : sN n (fun i => g i + h i) = sN n g + sN n h := by
  induction n with
  | zero => rfl
  | succ n ih => simp only [sN, ih]; omega
theorem sN_zero (n : Nat) : sN n (fun _ => 0) = 0 := by
  induction n with
  | zero => rfl
  | succ n ih => simp only [sN, ih]; rfl
/-- A sum over a box of pixels. -/
def bx (W H : Nat) (g : Int → Int → Int) : Int := sN H fun y => sN W fun x => g x y
theorem bx_add (W H : Nat) (g h : Int → Int → Int) : bx W H (fun x y => g x y + h x y) = bx W H g + bx W H h := by
  unfold bx; rw [← sN_add]; exact sN_congr fun y _ => sN_add W _ _
theorem bx_zero (W H : Nat) : bx W H (fun _ _ => 0) = 0 := by
  unfold bx; exact (sN_congr fun y _ => sN_zero W).trans (sN_zero H)
theorem bx_congr {W H : Nat} {g h : Int → Int → Int} (e : ∀ x y : Int, g x y = h x y) : bx W H g = bx W H h := by
  unfold bx; exact sN_congr fun y _ => sN_congr fun x _ => e _ _
theorem bx_sm (W H : Nat) (S : List Sd) (g : Int → Int → Sd → Int) : bx W H (fun x y => sm S (g x y)) = sm S (fun s => bx W H (fun x y => g x y s)) := by
  induction S with
  | nil => exact bx_zero W H
  | cons s S ih => rw [sm_cons, ← ih, ← bx_add]; exact bx_congr fun x y => sm_cons _ _ _
theorem sN_lt (n : Nat) (a v : Int) : sN n (fun x => if (x : Int) < a then v else 0) = v * (if a < 0 then 0 else if a ≤ n then a else n) := by
  induction n with
  | zero =>
    simp only [sN]
    by_cases h1 : a < 0
    · rw [if_pos h1]; simp
    · by_cases h2 : a ≤ ((0 : Nat) : Int)
      · rw [if_neg h1, if_pos h2, show a = 0 from by omega]; simp
      · rw [if_neg h1, if_neg h2]; simp
  | succ n ih =>
    simp only [sN, ih]
    by_cases h1 : a < 0
    · rw [if_pos h1, if_neg (by omega), if_pos h1]; omega
    · by_cases h2 : a ≤ n
      · rw [if_neg h1, if_pos h2, if_neg (by omega), if_neg h1, if_pos (by omega)]; omega
      · rw [if_neg h1, if_neg h2, if_pos (by omega), if_neg h1]
        by_cases h3 : a ≤ ((n + 1 : Nat) : Int)
        · rw [if_pos h3, show a = (n : Int) + 1 from by omega, Int.mul_add]; omega
        · rw [if_neg h3, show ((n + 1 : Nat) : Int) = (n : Int) + 1 from by omega, Int.mul_add]; omega
theorem sN_eq (n : Nat) (a : Int) (v : Int) : sN n (fun y => if a = (y : Int) then v else 0) = if 0 ≤ a ∧ a < n then v else 0 := by
  induction n with
  | zero => simp only [sN]; rw [if_neg (by omega)]
  | succ n ih =>
    simp only [sN, ih]
    repeat' split <;> try omega
end Go.Proofs.Ytgapfjjdccohkaa.Qm

/- Twice of a cycle is twice the sum of its winding numbers, and not 0; over all cycles the winding numbers are 1 at black pixels and 0 at white ones. Nothing of the program stands here. -/
namespace Go.Proofs.Ytgapfjjdccohkaa.Qm

/-- A side's share of the area. -/
def hx (s : Sd) : Int := if s.2.2 = 2 then s.1 else if s.2.2 = 0 then -s.1 else 0
theorem bx_hw {bl : Int → Int → Bool} {W H : Nat} (hp : Pic bl W H) {s : Sd} (h : isS bl s = true) : bx W H (fun x y => hw x y s) = hx s := by
  have d4 := isS_lt h
  have hi := side_in hp h
  obtain ⟨x, y, d⟩ := s
  simp only at hi d4
  match d, d4 with
  | 0, _ =>
    have hb : 0 ≤ y ∧ y < H := by simp [isS, outQ] at h; have := hp.box _ _ h.1; omega
    have e : bx W H (fun a b => hw a b (x, y, 0)) = sN H fun b => if y = (b : Int) then -1 * x else 0 := by
      refine sN_congr fun b _ => ?_
      by_cases hy : y = (b : Int)
      · rw [if_pos hy, show x = (if x < 0 then 0 else if x ≤ (W : Int) then x else W) from by rw [if_neg (by omega), if_pos hi.2.1], ← sN_lt]
        refine sN_congr fun a _ => ?_
        rw [if_neg (show ¬ x < 0 from by omega), if_pos hi.2.1]
        simp [hw, hy]
      · rw [if_neg hy, ← sN_zero W]
        exact sN_congr fun a _ => by simp [hw, hy]
    rw [e, sN_eq, if_pos hb]; simp [hx]
  | 1, _ => exact (bx_congr (h := fun _ _ => 0) fun a b => by simp [hw]).trans ((bx_zero W H).trans (by simp [hx]))
  | 2, _ =>
    have hb : 0 ≤ y - 1 ∧ y - 1 < H := by simp [isS, outQ] at h; have := hp.box _ _ h.1; omega
    have e : bx W H (fun a b => hw a b (x, y, 2)) = sN H fun b => if y - 1 = (b : Int) then 1 * x else 0 := by
      refine sN_congr fun b _ => ?_
      by_cases hy : y - 1 = (b : Int)
      · rw [if_pos hy, show x = (if x < 0 then 0 else if x ≤ (W : Int) then x else W) from by rw [if_neg (by omega), if_pos hi.2.1], ← sN_lt]
        refine sN_congr fun a _ => ?_
        rw [if_neg (show ¬ x < 0 from by omega), if_pos hi.2.1]
        have : y = (b : Int) + 1 := by omega
        simp [hw, this]
      · rw [if_neg hy, ← sN_zero W]
        have : ¬ y = (b : Int) + 1 := by omega
        exact sN_congr fun a _ => by simp [hw, this]
    rw [e, sN_eq, if_pos hb]; simp [hx]
  | 3, _ => exact (bx_congr (h := fun _ _ => 0) fun a b => by simp [hw]).trans ((bx_zero W H).trans (by simp [hx]))
theorem bx_wn {bl : Int → Int → Bool} {W H : Nat} (hp : Pic bl W H) {S : List Sd} (hs : ∀ s ∈ S, isS bl s = true) : bx W H (wn S) = sm S hx := by
  have := bx_sm W H S hw
  unfold wn
  rw [show (bx W H fun x y => sm S (hw x y)) = _ from this]
  exact sm_congr fun s h => bx_hw hp (hs s h)

theorem cross_hx {S : List Sd} (hS : Closed S) (hd : ∀ s ∈ S, s.2.2 < 4) : sm S (fun s => cross (fromP s) (en s)) = 2 * sm S hx := by
  have h := hS (fun p => p.1 * p.2)
  have e : sm S (fun s => cross (fromP s) (en s)) = sm S (fun s => (hx s + hx s) + ((fun p : Int × Int => p.1 * p.2) (en s) - (fun p : Int × Int => p.1 * p.2) (fromP s))) := by
    refine sm_congr fun s hs => ?_
    have d4 := hd s hs
    obtain ⟨x, y, d⟩ := s
    have c := Int.mul_comm x y
    match d, d4 with
    | 0, _ => simp [cross, fromP, en, hx, Int.mul_add]; omega
    | 1, _ => simp [cross, fromP, en, hx, Int.mul_add, Int.add_mul]; omega
    | 2, _ => simp [cross, fromP, en, hx, Int.mul_sub]; omega
    | 3, _ => simp [cross, fromP, en, hx, Int.mul_sub, Int.sub_mul]; omega
  rw [e, sm_add, sm_add, h]; omega

section
variable {bl jn : Int → Int → Bool} {c : Sd × Nat}

theorem ptsOf_getD (f : Sd → Sd) (c : Sd × Nat) (i : Nat) (h : i < c.2) : (ptsOf f c).getD i (0, 0) = fromP (it f i c.1) := by
  simp [ptsOf, List.getD_eq_getElem?_getD, h]
theorem Cyc.fsum_sm (h : Cyc (nx bl jn) (fun s => isS bl s = true) c.1 c.2) (k : Nat) (hk : k ≤ c.2) : fsum (ptsOf (nx bl jn) c) k = sm ((List.range k).map fun i => it (nx bl jn) i c.1) (fun s => cross (fromP s) (en s)) := by
  induction k with
  | zero => rfl
  | succ k ih =>
    rw [fsum, ih (by omega), sm_range, ptsOf_len, ptsOf_getD _ _ _ (by omega), ptsOf_getD _ _ _ (Nat.mod_lt _ h.2.1), ← h.mod]
    rfl
theorem Cyc.twice (h : Cyc (nx bl jn) (fun s => isS bl s = true) c.1 c.2) {W H : Nat} (hp : Pic bl W H) : twiceOf (ptsOf (nx bl jn) c) = 2 * bx W H (wn (cyS (nx bl jn) c)) := by
  rw [bx_wn hp h.sides, twiceOf_fsum, ptsOf_len, h.fsum_sm _ (Nat.le_refl _)]
  exact cross_hx h.closed fun s hs => isS_lt (h.sides s hs)
end

theorem sN_le {n : Nat} {g h : Nat → Int} (e : ∀ i, i < n → g i ≤ h i) : sN n g ≤ sN n h := by
  induction n with
  | zero => exact Int.le_refl _
  | succ n ih => have := ih fun i hi => e i (by omega); have := e n (by omega); simp only [sN]; omega
theorem sN_pos {n : Nat} {g : Nat → Int} (e : ∀ i, i < n → 0 ≤ g i) {i : Nat} (hi : i < n) : g i ≤ sN n g := by
  induction n with
  | zero => omega
  | succ n ih =>
    simp only [sN]
    have a := e n (by omega)
    by_cases h : i = n
    · subst h
      have := sN_le (n := i) (g := fun _ => 0) (h := g) fun j hj => e j (by omega)
      rw [sN_zero] at this
      omega
    · have := ih (fun j hj => e j (by omega)) (by omega)
      omega
theorem bx_pos {W H : Nat} {g : Int → Int → Int} (e : ∀ x y, 0 ≤ g x y) {x y : Nat} (hx : x < W) (hy : y < H) : g x y ≤ bx W H g := by
  have a : g x y ≤ sN W (fun x => g x y) := sN_pos (g := fun x : Nat => g x y) (fun i _ => e _ _) hx
  have b : sN W (fun x => g x y) ≤ bx W H g := sN_pos (g := fun y : Nat => sN W fun x => g x y) (fun i _ => by
    have := sN_le (n := W) (g := fun _ => 0) (h := fun x : Nat => g x i) fun j _ => e _ _
    rwa [sN_zero] at this) hy
  exact Int.le_trans a b
theorem bx_neg (W H : Nat) (g : Int → Int → Int) : bx W H (fun x y => -g x y) = -bx W H g := by
  have := bx_add W H g (fun x y => -g x y)
  rw [show bx W H (fun x y => g x y + -g x y) = 0 from by rw [← bx_zero W H]; exact bx_congr fun x y => by omega] at this
  omega
end Go.Proofs.Ytgapfjjdccohkaa.Qm
