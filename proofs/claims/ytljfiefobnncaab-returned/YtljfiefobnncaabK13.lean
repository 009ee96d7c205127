import Derived.Test.YtljfiefobnncaabK12

/- Package polygons: bounds, size, cost, isBetter. -/
namespace Go.Proofs.Ytljfiefobnncaab
open Go.RowKit

set_option maxRecDepth 4000 in
set_option maxHeartbeats 400000 in
theorem size_any (n : Int) (h0 : -9223372036854775807 ≤ n) (h1 : n ≤ 9223372036854775807) (w : World) :
    Calls Try.prog 27 #[.int .i64 n] w fun e w' => e = .returned (.int .i64 (Qm.absZ n)) ∧ w' = w := by
  by_cases h : n < 0
  · have E := hid (show Qm.absZ n = -n from if_pos h)
    go_enter Try.func27, Try.ntmps27
    go_wp2
    go_ret
    exact ⟨ret_int E.out.symm, rfl⟩
  · have E := hid (show Qm.absZ n = n from if_neg h)
    go_enter Try.func27, Try.ntmps27
    go_wp2
    go_ret
    exact ⟨ret_int E.out.symm, rfl⟩

def rwV (r : Qm.Rw) : Value := .agg #[.int .i64 r.1, .int .i64 r.2.1, .int .i64 r.2.2]
set_option maxRecDepth 4000 in
set_option maxHeartbeats 400000 in
theorem isBetter_any (a b : Qm.Rw) (w : World) :
    Calls Try.prog 43 #[rwV a, rwV b] w fun e w' => e = .returned (.bool (Qm.betB a b)) ∧ Below w.heap.size w w' := by
  obtain ⟨a0, a1, a2⟩ := a
  obtain ⟨b0, b1, b2⟩ := b
  unfold rwV
  dsimp only
  by_cases h : a0 = b0
  · subst h
    cases hd : decide (a1 < b1)
    · have D := hid (show Qm.betB (a0, a1, a2) (a0, b1, b2) = false by unfold Qm.betB; simp at hd ⊢; omega)
      go_enter Try.func43, Try.ntmps43
      go_wp2
      go_ret
      exact ⟨ret_bool D.out.symm, by go_grown⟩
    · have D := hid (show Qm.betB (a0, a1, a2) (a0, b1, b2) = true by unfold Qm.betB; simp at hd ⊢; omega)
      go_enter Try.func43, Try.ntmps43
      go_wp2
      go_ret
      exact ⟨ret_bool D.out.symm, by go_grown⟩
  · have hb : (a0 == b0) = false := by simpa using h
    cases hd : decide (a0 < b0)
    · have D := hid (show Qm.betB (a0, a1, a2) (b0, b1, b2) = false by unfold Qm.betB; simp at hd ⊢; omega)
      go_enter Try.func43, Try.ntmps43
      go_wp2
      go_ret
      exact ⟨ret_bool D.out.symm, by go_grown⟩
    · have D := hid (show Qm.betB (a0, a1, a2) (b0, b1, b2) = true by unfold Qm.betB; simp at hd ⊢; omega)
      go_enter Try.func43, Try.ntmps43
      go_wp2
      go_ret
      exact ⟨ret_bool D.out.symm, by go_grown⟩

theorem BoxP.set0 {B : Nat} {a b x : Int} {w : World} (h : BoxP B (a, b) w) : BoxP B (x, b) (w.setCell ⟨B, 0, none⟩ (.int .i64 x)) :=
  ⟨World.cell?_setCell_same _ _ _ h.1, (World.cell?_setCell_other _ _ _ _ (by simp)).trans h.2.1, by simpa using h.2.2.1, by simpa using h.2.2.2.1, by rw [World.size_setCell]; exact h.2.2.2.2⟩
theorem BoxP.set1 {B : Nat} {a b x : Int} {w : World} (h : BoxP B (a, b) w) : BoxP B (a, x) (w.setCell ⟨B, 1, none⟩ (.int .i64 x)) :=
  ⟨(World.cell?_setCell_other _ _ _ _ (by simp)).trans h.1, World.cell?_setCell_same _ _ _ h.2.1, by simpa using h.2.2.1, by simpa using h.2.2.2.1, by rw [World.size_setCell]; exact h.2.2.2.2⟩
theorem BoxP.other {B C j : Nat} {p : Int × Int} {v : Value} {w : World} (h : BoxP B p w) (hne : B ≠ C) : BoxP B p (w.setCell ⟨C, j, none⟩ v) :=
  ⟨(World.cell?_setCell_other _ _ _ _ (by intro e; injection e with e _ _; exact hne e.symm)).trans h.1, (World.cell?_setCell_other _ _ _ _ (by intro e; injection e with e _ _; exact hne e.symm)).trans h.2.1, by simpa using h.2.2.1, by simpa using h.2.2.2.1, by rw [World.size_setCell]; exact h.2.2.2.2⟩
theorem BoxP.new {B : Nat} {a b : Int} {w : World} (t : TypeId) (hB : B = w.heap.size) : BoxP B (a, b) (w.alloc (.cells #[.int .i64 a, .int .i64 b] t)) := by
  subst hB; exact ⟨by simp, by simp, by simp, by simp, by simp⟩
theorem BoxP.alloc {B : Nat} {p : Int × Int} {w : World} (h : BoxP B p w) (o : Obj) : BoxP B p (w.alloc o) := h.on ((Below.refl _ _).alloc (Nat.le_refl _) _) h.2.2.2.2

set_option maxRecDepth 4000 in
set_option maxHeartbeats 2000000 in
theorem bounds_any (g o n cap : Nat) (l : List (Int × Int)) (hn : n = l.length) (h0 : 0 < n) (hn2 : n ≤ 4357) (w : World) (hP : PtsO g o l w) :
    Calls Try.prog 50 #[.slice (some ⟨g, o, none⟩) n cap] w fun e w' => e = .returned (.tuple #[.agg #[.int .i64 (Qm.loF Prod.fst l n), .int .i64 (Qm.loF Prod.snd l n)], .agg #[.int .i64 (Qm.hiF Prod.fst l n), .int .i64 (Qm.hiF Prod.snd l n)]]) ∧ Below w.heap.size w w' := by
  have HP := hid hP
  have hg := hP.1
  have HN := hid hn
  obtain ⟨q0, q1⟩ := hP.2 0 (by omega)
  simp only [Nat.zero_mul, Nat.add_zero] at q0 q1
  have h0' : (0 : Int) < (n : Nat) := by omega
  have e0 : ((n : Int) == 0) = false := by simp; omega
  have hg2 : g < w.heap.size + 1 := by omega
  have hg3 : g < w.heap.size + 1 + 1 := by omega
  clear hP hn
  have E1 := hid (Qm.loF_one Prod.fst l)
  have E2 := hid (Qm.loF_one Prod.snd l)
  have E3 := hid (Qm.hiF_one Prod.fst l)
  have E4 := hid (Qm.hiF_one Prod.snd l)
  obtain ⟨⟨fa, fb⟩, hff⟩ : ∃ p, p = l.getD 0 (0, 0) := ⟨_, rfl⟩
  rw [← hff] at q0 q1 E1 E2 E3 E4
  dsimp only at q0 q1 E1 E2 E3 E4
  clear hff
  go_enter Try.func50, Try.ntmps50
  go_wp2_with fail
  go_loopw [6] (fun iv wr => ∃ k : Nat, 1 ≤ k ∧ k ≤ n ∧ iv = .int .i64 k ∧ BoxP w.heap.size (0, 0) wr ∧ BoxP (w.heap.size + 1) (0, 0) wr ∧ BoxP (w.heap.size + 1 + 1) (Qm.loF Prod.fst l k, Qm.loF Prod.snd l k) wr ∧ BoxP (w.heap.size + 1 + 1 + 1) (Qm.hiF Prod.fst l k, Qm.hiF Prod.snd l k) wr ∧ Below w.heap.size w wr) (fun i _ => n - (intOf i).toNat)
  case atStart =>
    refine ⟨1, by omega, by omega, rfl, (((BoxP.new _ rfl).alloc _).alloc _).alloc _, ((BoxP.new _ (by simp)).alloc _).alloc _, ?_, ?_, by go_grown⟩
    · rw [E1.out, E2.out]; exact (BoxP.new _ (by simp)).alloc _
    · rw [E3.out, E4.out]; exact BoxP.new _ (by simp)
  case round =>
    clear q0 q1
    obtain ⟨k, h1, hk, rfl, x0, x1, x2, x3, hb⟩ := hrel
    have HB := hid hb
    have X0 := hid x0
    have X1 := hid x1
    have X2 := hid x2
    have X3 := hid x3
    by_cases hlt : k < n
    · obtain ⟨r0, r1⟩ := (HP.out.on hb hg).2 k (by have := HN.out; omega)
      have hlt' : (k : Int) < (n : Nat) := by omega
      have hgr : g < wr.heap.size := Nat.lt_of_lt_of_le hg hb.size
      have hgr2 : g < wr.heap.size + 1 := by omega
      have L1 := hid (show Qm.loF Prod.fst l (k + 1) = if (l.getD k (0, 0)).1 < Qm.loF Prod.fst l k then (l.getD k (0, 0)).1 else Qm.loF Prod.fst l k from rfl)
      have L2 := hid (show Qm.loF Prod.snd l (k + 1) = if (l.getD k (0, 0)).2 < Qm.loF Prod.snd l k then (l.getD k (0, 0)).2 else Qm.loF Prod.snd l k from rfl)
      have L3 := hid (show Qm.hiF Prod.fst l (k + 1) = if Qm.hiF Prod.fst l k < (l.getD k (0, 0)).1 then (l.getD k (0, 0)).1 else Qm.hiF Prod.fst l k from rfl)
      have L4 := hid (show Qm.hiF Prod.snd l (k + 1) = if Qm.hiF Prod.snd l k < (l.getD k (0, 0)).2 then (l.getD k (0, 0)).2 else Qm.hiF Prod.snd l k from rfl)
      obtain ⟨⟨pa, pb⟩, hpp⟩ : ∃ p, p = l.getD k (0, 0) := ⟨_, rfl⟩
      rw [← hpp] at r0 r1 L1 L2 L3 L4
      obtain ⟨a, ha⟩ : ∃ a, a = Qm.loF Prod.fst l k := ⟨_, rfl⟩
      obtain ⟨b, hb'⟩ : ∃ a, a = Qm.loF Prod.snd l k := ⟨_, rfl⟩
      obtain ⟨c, hc⟩ : ∃ a, a = Qm.hiF Prod.fst l k := ⟨_, rfl⟩
      obtain ⟨d, hd⟩ : ∃ a, a = Qm.hiF Prod.snd l k := ⟨_, rfl⟩
      rw [← ha] at L1
      rw [← hb'] at L2
      rw [← hc] at L3
      rw [← hd] at L4
      rw [← ha, ← hb'] at x2 X2
      rw [← hc, ← hd] at x3 X3
      dsimp only at r0 r1 L1 L2 L3 L4
      obtain ⟨y0, y1, y2, y3, yz⟩ := x2
      obtain ⟨z0, z1, z2, z3, zz⟩ := x3
      dsimp only at y0 y1 z0 z1
      clear hb hpp ha hb' hc hd x0 x1
      by_cases p1 : pa < a <;> by_cases p2 : pb < b <;> by_cases p3 : c < pa <;> by_cases p4 : d < pb
      all_goals (
        simp only [p1, p2, p3, p4, ↓reduceIte] at L1 L2 L3 L4
        go_wp2
        go_roundw
        case rel =>
          refine ⟨k + 1, by omega, by omega, by go_num, ?_, ?_, ?_, ?_, ?_⟩
          · repeat (first | (with_reducible exact X0.out) | (with_reducible refine BoxP.other ?_ (by omega)) | (with_reducible refine BoxP.alloc ?_ _))
          · repeat (first | (with_reducible exact X1.out) | (with_reducible refine BoxP.other ?_ (by omega)) | (with_reducible refine BoxP.alloc ?_ _))
          · rw [L1.out, L2.out]; repeat (first | (with_reducible exact X2.out) | (with_reducible refine BoxP.set0 (a := a) ?_) | (with_reducible refine BoxP.set1 (b := b) ?_) | (with_reducible refine BoxP.other ?_ (by omega)) | (with_reducible refine BoxP.alloc ?_ _))
          · rw [L3.out, L4.out]; repeat (first | (with_reducible exact X3.out) | (with_reducible refine BoxP.set0 (a := c) ?_) | (with_reducible refine BoxP.set1 (b := d) ?_) | (with_reducible refine BoxP.other ?_ (by omega)) | (with_reducible refine BoxP.alloc ?_ _))
          · repeat (first | (with_reducible exact HB.out) | (with_reducible refine Below.setCell ?_ (by dsimp only; omega) _) | (with_reducible refine Below.alloc ?_ (by first | omega | (simp only [World.size_setCell]; omega)) _))
        case measure => simp [intOf]; omega)
    · have ek : k = n := by omega
      subst ek
      obtain ⟨y0, y1, y2, y3, yz⟩ := x2
      obtain ⟨z0, z1, z2, z3, zz⟩ := x3
      obtain ⟨u0, u1, u2, u3, uz⟩ := x0
      obtain ⟨v0, v1, v2, v3, vz⟩ := x1
      dsimp only at y0 y1 z0 z1 u0 u1 v0 v1
      obtain ⟨a, ha⟩ : ∃ a, a = Qm.loF Prod.fst l k := ⟨_, rfl⟩
      obtain ⟨b, hb'⟩ : ∃ a, a = Qm.loF Prod.snd l k := ⟨_, rfl⟩
      obtain ⟨c, hc⟩ : ∃ a, a = Qm.hiF Prod.fst l k := ⟨_, rfl⟩
      obtain ⟨d, hd⟩ : ∃ a, a = Qm.hiF Prod.snd l k := ⟨_, rfl⟩
      rw [← ha] at y0
      rw [← hb'] at y1
      rw [← hc] at z0
      rw [← hd] at z1
      have HA := hid ha
      have HB' := hid hb'
      have HC := hid hc
      have HD := hid hd
      clear X0 X1 X2 X3 hb ha hb' hc hd
      go_wp2
      go_region_held3 (fun w' => w'.cell? ⟨w.heap.size + 1 + 1, 0, none⟩ = some (.int .i64 a) ∧ w'.cell? ⟨w.heap.size + 1 + 1, 1, none⟩ = some (.int .i64 b) ∧ w'.cell? ⟨w.heap.size + 1 + 1 + 1, 0, none⟩ = some (.int .i64 c) ∧ w'.cell? ⟨w.heap.size + 1 + 1 + 1, 1, none⟩ = some (.int .i64 d))
        (first | (simp [go_sem, *]; done) | (go_keep))
        (fail)
      all_goals go_wp2
      all_goals (refine bodyPost_ret (v := .tuple #[.agg #[.int .i64 a, .int .i64 b], .agg #[.int .i64 c, .int .i64 d]]) (by simp [results, Try.results50, go_sem, World.cell?_setCell_other, World.cell?_setCell_same', *]) rfl ?_)
      all_goals exact ⟨by rw [HA.out, HB'.out, HC.out, HD.out], by go_grown; exact HB.out⟩
end Go.Proofs.Ytljfiefobnncaab

/- Package polygons: cost. -/
namespace Go.Proofs.Ytljfiefobnncaab
open Go.RowKit

set_option maxRecDepth 4000 in
set_option maxHeartbeats 2000000 in
theorem cost_any (g o n cap : Nat) (l : List (Int × Int)) (hn : n = l.length) (h0 : 0 < n) (hs : Qm.Small l) (hn2 : n ≤ 4357) (w : World) (hP : PtsO g o l w) :
    Calls Try.prog 42 #[.slice (some ⟨g, o, none⟩) n cap] w fun e w' => e = .returned (.int .i64 (Qm.costOf l)) ∧ Below w.heap.size w w' := by
  have HP := hid hP
  have hg := hP.1
  have HN := hid hn
  obtain ⟨q0, q1⟩ := hP.2 0 (by omega)
  obtain ⟨t0, t1⟩ := hP.2 (n - 1) (by omega)
  simp only [Nat.zero_mul, Nat.add_zero] at q0 q1
  have sa := hs.at 0
  have sz := hs.at (n - 1)
  have EC := hid (show Qm.costOf l = Qm.costTo (l.getD 0 (0, 0)) (l.getD (n - 1) (0, 0)) l n by rw [hn]; rfl)
  have CI := hid (fun k => Qm.costTo_in hs (l.getD 0 (0, 0)) (l.getD (n - 1) (0, 0)) sa sz k)
  have CS := hid (fun k => show Qm.costTo (l.getD 0 (0, 0)) (l.getD (n - 1) (0, 0)) l (k + 1) = Qm.costTo (l.getD 0 (0, 0)) (l.getD (n - 1) (0, 0)) l k + Qm.absZ (Qm.offZ (l.getD 0 (0, 0)) (l.getD (n - 1) (0, 0)) (l.getD k (0, 0))) from rfl)
  have C0 := hid (show Qm.costTo (l.getD 0 (0, 0)) (l.getD (n - 1) (0, 0)) l 0 = 0 from rfl)
  obtain ⟨n1, hn1⟩ : ∃ n1, n = n1 + 1 := ⟨n - 1, by omega⟩
  subst hn1
  simp only [Nat.add_sub_cancel] at t0 t1 sz EC CI CS C0
  obtain ⟨⟨fa, fb⟩, hff⟩ : ∃ p, p = l.getD 0 (0, 0) := ⟨_, rfl⟩
  obtain ⟨⟨za, zb⟩, hzz⟩ : ∃ p, p = l.getD n1 (0, 0) := ⟨_, rfl⟩
  rw [← hff] at q0 q1 sa EC CI CS C0
  rw [← hzz] at t0 t1 sz EC CI CS C0
  dsimp only at q0 q1 t0 t1 sa sz
  have e0 : ((n1 : Int) + 1 == 0) = false := by simp; omega
  have hg2 : g < w.heap.size + 1 := by omega
  have hg3 : g < w.heap.size + 1 + 1 := by omega
  clear hP hn hff hzz
  go_enter Try.func42, Try.ntmps42
  go_wp2_with fail
  go_loopw [5, 6] (fun sm iv wr => ∃ k : Nat, k ≤ n1 + 1 ∧ iv = .int .i64 k ∧ sm = .int .i64 (Qm.costTo (fa, fb) (za, zb) l k) ∧ BoxP w.heap.size (fa, fb) wr ∧ BoxP (w.heap.size + 1) (za, zb) wr ∧ Below w.heap.size w wr) (fun _ i _ => n1 + 1 - (intOf i).toNat)
  case atStart => exact ⟨0, by omega, rfl, by rw [C0.out], (BoxP.new _ rfl).alloc _, BoxP.new _ (by simp), by go_grown⟩
  case round =>
    clear q0 q1 t0 t1
    obtain ⟨k, hk, rfl, rfl, x0, x1, hb⟩ := hrel
    have HB := hid hb
    have X0 := hid x0
    have X1 := hid x1
    have ci := CI.out k
    by_cases hlt : k < n1 + 1
    · obtain ⟨r0, r1⟩ := (HP.out.on hb hg).2 k (by have := HN.out; omega)
      have hlt' : (k : Int) < (n1 : Int) + 1 := by omega
      have hgr : g < wr.heap.size := Nat.lt_of_lt_of_le hg hb.size
      have hgr2 : g < wr.heap.size + 1 := by omega
      have sp := hs.at k
      have cs := hid (CS.out k)
      obtain ⟨⟨pa, pb⟩, hpp⟩ : ∃ p, p = l.getD k (0, 0) := ⟨_, rfl⟩
      rw [← hpp] at r0 r1 sp cs
      dsimp only at r0 r1 sp
      have m1 := Qm.mul_in (a := za - fa) (b := pb - fb) (by omega) (by omega) (by omega) (by omega)
      have m2 := Qm.mul_in (a := zb - fb) (b := pa - fa) (by omega) (by omega) (by omega) (by omega)
      have EO := hid (show Qm.offZ (fa, fb) (za, zb) (pa, pb) = (za - fa) * (pb - fb) - (zb - fb) * (pa - fa) from rfl)
      obtain ⟨u, hu⟩ : ∃ u, (za - fa) * (pb - fb) = u := ⟨_, rfl⟩
      obtain ⟨v, hv⟩ : ∃ v, (zb - fb) * (pa - fa) = v := ⟨_, rfl⟩
      rw [hu] at m1 EO
      rw [hv] at m2 EO
      rw [EO.out] at cs
      have SZ := hid (fun W' => size_any (u - v) (by omega) (by omega) W')
      have az : 0 ≤ Qm.absZ (u - v) ∧ Qm.absZ (u - v) ≤ 2048 := by unfold Qm.absZ; split <;> omega
      obtain ⟨y, hy⟩ : ∃ y, Qm.absZ (u - v) = y := ⟨_, rfl⟩
      rw [hy] at cs SZ az
      obtain ⟨y0, y1, y2, y3, yz⟩ := x0
      obtain ⟨z0, z1, z2, z3, zz⟩ := x1
      dsimp only at y0 y1 z0 z1
      obtain ⟨ct, hct⟩ : ∃ ct, ct = Qm.costTo (fa, fb) (za, zb) l k := ⟨_, rfl⟩
      rw [← hct] at ci cs ⊢
      clear hb hpp hy hct
      go_wp2_with fail
      refine (SZ.out _).mono ?_
      rintro e w2 ⟨rfl, e2⟩
      have B2 := hid (show Below w.heap.size w w2 by rw [e2]; exact HB.out.alloc (by omega) _)
      have Y0 := hid (show BoxP w.heap.size (fa, fb) w2 by rw [e2]; exact X0.out.alloc _)
      have Y1 := hid (show BoxP (w.heap.size + 1) (za, zb) w2 by rw [e2]; exact X1.out.alloc _)
      clear e2
      go_wp2
      go_roundw
      case rel => exact ⟨k + 1, by omega, by go_num, by rw [cs.out], Y0.out, Y1.out, B2.out⟩
      case measure => simp [intOf]; omega
    · have ek : k = n1 + 1 := by omega
      subst ek
      go_wp2
      go_ret
      exact ⟨ret_int EC.out.symm, HB.out⟩
end Go.Proofs.Ytljfiefobnncaab
