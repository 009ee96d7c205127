import Derived.Test.YtgapfjjdccohkaaJmoved14
import Derived.Test.YtgapfjjdccohkaaJmoved06
import Derived.Test.YtgapfjjdccohkaaJmoved01

/- outlineref: Cost, better. -/
namespace Go.Proofs.Ytgapfjjdccohkaa
open Go.RowKit

set_option maxRecDepth 4000 in
set_option maxHeartbeats 2000000 in
theorem refCost_any (g o n cap : Nat) (l : List (Int × Int)) (hn : n = l.length) (h0 : 0 < n) (hs : Qm.Small l) (hn2 : n ≤ 4357) (w : World) (hP : PtsO g o l w) :
    Calls Try.prog 73 #[.slice (some ⟨g, o, none⟩) n cap] w fun e w' => e = .returned (.int .i64 (Qm.costOf l)) ∧ Below w.heap.size w w' := by
  have HP := hid hP
  have hg := hP.1
  have HN := hid hn
  obtain ⟨q0, q1⟩ := hP.2 0 (by omega)
  obtain ⟨t0, t1⟩ := hP.2 (n - 1) (by omega)
  simp only [Nat.zero_mul, Nat.add_zero] at q0 q1
  have sa := hs.at 0
  have sz := hs.at (n - 1)
  have EC := hid (show Qm.costOf l = Qm.costTo (l.getD 0 (0, 0)) (l.getD (n - 1) (0, 0)) l n by rw [hn]; rfl)
  have CI := hid (fun k => Qm.costTo_in hs (l.getD 0 (0, 0)) (l.getD (n - 1) (0, 0)) sa sz k)
  have CS := hid (fun k => show Qm.costTo (l.getD 0 (0, 0)) (l.getD (n - 1) (0, 0)) l (k + 1) = Qm.costTo (l.getD 0 (0, 0)) (l.getD (n - 1) (0, 0)) l k + Qm.absZ (Qm.offZ (l.getD 0 (0, 0)) (l.getD (n - 1) (0, 0)) (l.getD k (0, 0))) from rfl)
  have C0 := hid (show Qm.costTo (l.getD 0 (0, 0)) (l.getD (n - 1) (0, 0)) l 0 = 0 from rfl)
  obtain ⟨n1, hn1⟩ : ∃ n1, n = n1 + 1 := ⟨n - 1, by omega⟩
  subst hn1
  simp only [Nat.add_sub_cancel] at t0 t1 sz EC CI CS C0
  obtain ⟨⟨fa, fb⟩, hff⟩ : ∃ p, p = l.getD 0 (0, 0) := ⟨_, rfl⟩
  obtain ⟨⟨za, zb⟩, hzz⟩ : ∃ p, p = l.getD n1 (0, 0) := ⟨_, rfl⟩
  rw [← hff] at q0 q1 sa EC CI CS C0
  rw [← hzz] at t0 t1 sz EC CI CS C0
  dsimp only at q0 q1 t0 t1 sa sz
  have e0 : ((n1 : Int) + 1 == 0) = false := by simp; omega
  have hg2 : g < w.heap.size + 1 := by omega
  have hg3 : g < w.heap.size + 1 + 1 := by omega
  clear hP hn hff hzz
  go_enter Try.func73, Try.ntmps73
  go_wp2_with fail
  go_loopw [5, 6] (fun sm iv wr => ∃ k : Nat, k ≤ n1 + 1 ∧ iv = .int .i64 k ∧ sm = .int .i64 (Qm.costTo (fa, fb) (za, zb) l k) ∧ BoxP w.heap.size (fa, fb) wr ∧ BoxP (w.heap.size + 1) (za, zb) wr ∧ Below w.heap.size w wr) (fun _ i _ => n1 + 1 - (intOf i).toNat)
  case atStart => exact ⟨0, by omega, rfl, by rw [C0.out], (BoxP.new _ rfl).alloc _, BoxP.new _ (by simp), by go_grown⟩
  case round =>
    clear q0 q1 t0 t1
    obtain ⟨k, hk, rfl, rfl, x0, x1, hb⟩ := hrel
    have HB := hid hb
    have X0 := hid x0
    have X1 := hid x1
    have ci := CI.out k
    by_cases hlt : k < n1 + 1
    · obtain ⟨r0, r1⟩ := (HP.out.on hb hg).2 k (by have := HN.out; omega)
      have hlt' : (k : Int) < (n1 : Int) + 1 := by omega
      have hk0 : (0 : Int) ≤ (k : Nat) := by omega
      have hgr : g < wr.heap.size := Nat.lt_of_lt_of_le hg hb.size
      have sp := hs.at k
      have cs := hid (CS.out k)
      obtain ⟨⟨pa, pb⟩, hpp⟩ : ∃ p, p = l.getD k (0, 0) := ⟨_, rfl⟩
      rw [← hpp] at r0 r1 sp cs
      dsimp only at r0 r1 sp
      have m1 := Qm.mul_in (a := za - fa) (b := pb - fb) (by omega) (by omega) (by omega) (by omega)
      have m2 := Qm.mul_in (a := zb - fb) (b := pa - fa) (by omega) (by omega) (by omega) (by omega)
      have EO := hid (show Qm.offZ (fa, fb) (za, zb) (pa, pb) = (za - fa) * (pb - fb) - (zb - fb) * (pa - fa) from rfl)
      obtain ⟨u, hu⟩ : ∃ u, (za - fa) * (pb - fb) = u := ⟨_, rfl⟩
      obtain ⟨v, hv⟩ : ∃ v, (zb - fb) * (pa - fa) = v := ⟨_, rfl⟩
      rw [hu] at m1 EO
      rw [hv] at m2 EO
      rw [EO.out] at cs
      obtain ⟨y0, y1, y2, y3, yz⟩ := x0
      obtain ⟨z0, z1, z2, z3, zz⟩ := x1
      dsimp only at y0 y1 z0 z1
      obtain ⟨ct, hct⟩ : ∃ ct, ct = Qm.costTo (fa, fb) (za, zb) l k := ⟨_, rfl⟩
      rw [← hct] at ci cs ⊢
      clear hb hpp hct
      by_cases hneg : u - v < 0
      · have AZ := hid (show Qm.absZ (u - v) = -(u - v) from if_pos hneg)
        rw [AZ.out] at cs
        go_wp2_with fail
        go_quiet (fail)
        go_wp2
        go_roundw
        case rel => exact ⟨k + 1, by omega, by go_num, by rw [cs.out], X0.out.on (B' := wr.heap.size) ⟨rfl, rfl, rfl, Nat.le_refl _, fun _ _ => rfl⟩ yz, X1.out.on (B' := wr.heap.size) ⟨rfl, rfl, rfl, Nat.le_refl _, fun _ _ => rfl⟩ zz, HB.out.trans ⟨rfl, rfl, rfl, Nat.le_refl _, fun _ _ => rfl⟩⟩
        case measure => simp [intOf]; omega
      · have AZ := hid (show Qm.absZ (u - v) = u - v from if_neg hneg)
        rw [AZ.out] at cs
        go_wp2_with fail
        go_quiet (fail)
        go_wp2
        go_roundw
        case rel => exact ⟨k + 1, by omega, by go_num, by rw [cs.out], X0.out.on (B' := wr.heap.size) ⟨rfl, rfl, rfl, Nat.le_refl _, fun _ _ => rfl⟩ yz, X1.out.on (B' := wr.heap.size) ⟨rfl, rfl, rfl, Nat.le_refl _, fun _ _ => rfl⟩ zz, HB.out.trans ⟨rfl, rfl, rfl, Nat.le_refl _, fun _ _ => rfl⟩⟩
        case measure => simp [intOf]; omega
    · have ek : k = n1 + 1 := by omega
      subst ek
      go_wp2
      go_ret
      exact ⟨ret_int EC.out.symm, HB.out⟩

/-- Numbers, in a list. -/
def NumsAt (g : Nat) (l : List Nat) (w : World) : Prop := g < w.heap.size ∧ ∀ j, j < l.length → w.cell? ⟨g, j, none⟩ = some (.int .i64 ((l.getD j 0 : Nat) : Int))
theorem NumsAt.on {g : Nat} {l : List Nat} {w w' : World} {B : Nat} (h : NumsAt g l w) (hb : Below B w w') (hg : g < B) : NumsAt g l w' :=
  ⟨Nat.lt_of_lt_of_le h.1 hb.size, fun j hj => (hb.cell (p := ⟨g, j, none⟩) hg).trans (h.2 j hj)⟩

theorem lexltB_drop {a b : List Nat} {k : Nat} (ha : k < a.length) (hb : k < b.length) : Qm.lexltB (a.drop k) (b.drop k) = if a.getD k 0 = b.getD k 0 then Qm.lexltB (a.drop (k + 1)) (b.drop (k + 1)) else decide (a.getD k 0 < b.getD k 0) := by
  rw [List.drop_eq_getElem_cons ha, List.drop_eq_getElem_cons hb, Qm.lexltB]
  simp [List.getD_eq_getElem?_getD, ha, hb]

set_option maxRecDepth 4000 in
set_option maxHeartbeats 2000000 in
theorem better_any (ga na ca gb nb cb : Nat) (a b : List Nat) (xa xb : Int) (hna : na = a.length) (hnb : nb = b.length) (la : na ≤ 100000) (lb : nb ≤ 100000) (ao : Option Addr) (w : World) (hA : NumsAt ga a w) (hB : nb = 0 ∨ (ao = some ⟨gb, 0, none⟩ ∧ NumsAt gb b w)) :
    Calls Try.prog 74 #[.agg #[.slice (some ⟨ga, 0, none⟩) na ca, .int .i64 xa], .agg #[.slice ao nb cb, .int .i64 xb]] w fun e w' => e = .returned (.bool (Qm.bettB a xa b xb)) ∧ Below w.heap.size w w' := by
  have HA := hid hA
  have HB0 := hid hB
  have BT := hid (show Qm.bettB a xa b xb = if nb = 0 then true else if na = nb then (if xa = xb then Qm.lexltB a b else decide (xa < xb)) else decide (na < nb) by rw [hna, hnb]; rfl)
  have HNA := hid hna
  have HNB := hid hnb
  have hga := hA.1
  clear hA hB hna hnb
  by_cases h1 : nb = 0
  · rw [if_pos h1] at BT
    subst h1
    go_enter Try.func74, Try.ntmps74
    go_wp2
    go_ret
    exact ⟨ret_bool BT.out.symm, by go_grown⟩
  · obtain ⟨rfl, hB⟩ := HB0.out.resolve_left h1
    rw [if_neg h1] at BT
    have HB := hid hB
    have hgb := hB.1
    have e1 : ((nb : Int) == 0) = false := by simp; omega
    clear hB
    by_cases h2 : na = nb
    · rw [if_pos h2] at BT
      subst h2
      by_cases h3 : xa = xb
      · rw [if_pos h3] at BT
        subst h3
        go_enter Try.func74, Try.ntmps74
        go_wp2_with fail
        go_loopw [5] (fun iv wr => ∃ k : Nat, k ≤ na ∧ iv = .int .i64 k ∧ Qm.lexltB a b = Qm.lexltB (a.drop k) (b.drop k) ∧ (wr.cell? ⟨w.heap.size, 0, none⟩ = some (.slice (some ⟨ga, 0, none⟩) na ca) ∧ wr.cell? ⟨w.heap.size + 1, 0, none⟩ = some (.slice (some ⟨gb, 0, none⟩) na cb) ∧ w.heap.size + 1 < wr.heap.size) ∧ Below w.heap.size w wr) (fun i _ => na - (intOf i).toNat)
        case atStart => exact ⟨0, by omega, rfl, rfl, ⟨by simp, by simp, by simp⟩, by go_grown⟩
        case round =>
          obtain ⟨k, hk, rfl, hlx, ⟨c0, c1, cz⟩, hb⟩ := hrel
          have HBW := hid hb
          have LX := hid hlx
          clear hlx
          by_cases hlt : k < na
          · have ra := (HA.out.on hb hga).2 k (by have := HNA.out; omega)
            have rb := (HB.out.on hb hgb).2 k (by have := HNB.out; omega)
            have LD := hid (lexltB_drop (a := a) (b := b) (k := k) (by rw [← HNA.out]; exact hlt) (by rw [← HNB.out]; exact hlt))
            have hk0 : (0 : Int) ≤ (k : Nat) := by omega
            have hk1 : ((k : Nat) : Int) < (na : Nat) := by omega
            obtain ⟨u, hu⟩ : ∃ u, u = a.getD k 0 := ⟨_, rfl⟩
            obtain ⟨v, hv⟩ : ∃ v, v = b.getD k 0 := ⟨_, rfl⟩
            rw [← hu] at ra LD
            rw [← hv] at rb LD
            have g1 : ga < wr.heap.size := by omega
            have g2 : gb < wr.heap.size := by omega
            clear hu hv hb
            by_cases huv : u = v
            · subst huv
              rw [if_pos rfl] at LD
              go_wp2_with fail
              go_quiet (fail)
              go_wp2
              go_roundw
              case rel => exact ⟨k + 1, by omega, by go_num, LX.out.trans LD.out, ⟨c0, c1, cz⟩, HBW.out.trans ⟨rfl, rfl, rfl, Nat.le_refl _, fun _ _ => rfl⟩⟩
              case measure => simp [intOf]; omega
            · rw [if_neg huv] at LD
              have e2 : ((u : Int) == (v : Int)) = false := by simp; omega
              have e3 : (u == v) = false := by simp; omega
              have D := hid (show decide (u < v) = decide ((u : Int) < (v : Int)) by simp)
              go_wp2_with fail
              go_quiet (fail)
              go_wp2_with fail
              go_quiet (fail)
              go_wp2
              go_ret
              exact ⟨ret_bool (by rw [BT.out, LX.out, LD.out]), HBW.out.trans ⟨rfl, rfl, rfl, Nat.le_refl _, fun _ _ => rfl⟩⟩
          · have hk' : ((na : Nat) : Int) ≤ (k : Nat) := by omega
            have LF := hid (show Qm.lexltB a b = false by
              rw [LX.out, List.drop_eq_nil_of_le (show a.length ≤ k by rw [← HNA.out]; omega)]; rfl)
            go_wp2
            go_ret
            exact ⟨ret_bool (by rw [BT.out, LF.out]), HBW.out⟩
      · rw [if_neg h3] at BT
        have e3 : (xa == xb) = false := by simpa using h3
        go_enter Try.func74, Try.ntmps74
        go_wp2
        go_ret
        exact ⟨ret_bool BT.out.symm, by go_grown⟩
    · rw [if_neg h2] at BT
      have e2 : ((na : Int) == (nb : Int)) = false := by simp; omega
      have e3 : (na == nb) = false := by simp; omega
      go_enter Try.func74, Try.ntmps74
      go_wp2
      go_ret
      exact ⟨ret_bool (by rw [BT.out]), by go_grown⟩
end Go.Proofs.Ytgapfjjdccohkaa

/- outlineref: pt, bend, ahead, May. -/
namespace Go.Proofs.Ytgapfjjdccohkaa
open Go.RowKit

set_option maxHeartbeats 400000 in
theorem pt_any (x y : Int) (w : World) :
    Calls Try.prog 68 #[.int .i64 x, .int .i64 y] w fun e w' => e = .returned (.agg #[.int .i64 x, .int .i64 y]) ∧ w' = w.alloc (.cells #[.int .i64 x, .int .i64 y] 47) := by
  go_enter Try.func68, Try.ntmps68
  go_wp2
  refine bodyPost_ret (v := .agg #[.int .i64 x, .int .i64 y]) (by simp [results, Try.results68, go_sem]) rfl ?_
  exact ⟨rfl, rfl⟩

/-- Which way a side turns behind another: by their steps. -/
def stepX : Nat → Int
  | 1 => 1
  | 3 => -1
  | _ => 0
def stepY : Nat → Int
  | 0 => 1
  | 2 => -1
  | _ => 0
def bendD (d e : Nat) : Int := stepX d * stepY e - stepY d * stepX e
theorem en_step (s : Qm.Sd) (h : s.2.2 < 4) : Qm.en s = (s.1 + stepX s.2.2, s.2.1 + stepY s.2.2) := by
  obtain ⟨x, y, d⟩ := s
  match d, h with
  | 0, _ => simp [Qm.en, stepX, stepY]
  | 1, _ => simp [Qm.en, stepX, stepY]
  | 2, _ => simp [Qm.en, stepX, stepY]; omega
  | 3, _ => simp [Qm.en, stepX, stepY]; omega
/-- The cells of a side. -/
def sdV (s : Qm.Sd) : List Value := [.int .i64 s.1, .int .i64 s.2.1, .int .i64 (Qm.en s).1, .int .i64 (Qm.en s).2]

set_option maxHeartbeats 1000000 in
theorem bend_any (x y : Int) (d : Nat) (x' y' : Int) (d' : Nat) (hd : d < 4) (hd' : d' < 4) (w : World) :
    Calls Try.prog 60 #[.agg (sdV (x, y, d)).toArray, .agg (sdV (x', y', d')).toArray] w fun e w' => e = .returned (.int .i64 (bendD d d')) ∧ Below w.heap.size w w' := by
  have b1 : -1 ≤ stepX d ∧ stepX d ≤ 1 := by unfold stepX; split <;> omega
  have b2 : -1 ≤ stepY d ∧ stepY d ≤ 1 := by unfold stepY; split <;> omega
  have b3 : -1 ≤ stepX d' ∧ stepX d' ≤ 1 := by unfold stepX; split <;> omega
  have b4 : -1 ≤ stepY d' ∧ stepY d' ≤ 1 := by unfold stepY; split <;> omega
  have p1 : -1 ≤ stepX d * stepY d' ∧ stepX d * stepY d' ≤ 1 := by unfold stepX stepY; split <;> split <;> omega
  have p2 : -1 ≤ stepY d * stepX d' ∧ stepY d * stepX d' ≤ 1 := by unfold stepX stepY; split <;> split <;> omega
  simp only [sdV, en_step (x, y, d) hd, en_step (x', y', d') hd']
  have hb : Hid (bendD d d' = stepX d * stepY d' - stepY d * stepX d') := rfl
  generalize stepX d = a at *
  generalize stepY d = b at *
  generalize stepX d' = a' at *
  generalize stepY d' = b' at *
  obtain ⟨u, hu⟩ : ∃ u, a * b' = u := ⟨_, rfl⟩
  obtain ⟨v, hv⟩ : ∃ v, b * a' = v := ⟨_, rfl⟩
  rw [hu] at p1
  rw [hv] at p2
  have e1 : x + a - x = a := by omega
  have e2 : y + b - y = b := by omega
  have e3 : x' + a' - x' = a' := by omega
  have e4 : y' + b' - y' = b' := by omega
  go_enter Try.func60, Try.ntmps60
  go_wp2
  go_ret
  exact ⟨ret_int (by rw [hb.out, hu, hv]), by go_grown⟩

/-- Where a point stands, as a number. -/
def keyP (p : Int × Int) : Int := 33 * p.2 + p.1

set_option maxHeartbeats 1000000 in
theorem ahead_any (x y x' y' : Int) (hx : 0 ≤ x ∧ x ≤ 32) (hx' : 0 ≤ x' ∧ x' ≤ 32) (w : World) :
    Calls Try.prog 61 #[.agg #[.int .i64 x, .int .i64 y], .agg #[.int .i64 x', .int .i64 y']] w fun e w' => e = .returned (.bool (decide (keyP (x, y) < keyP (x', y')))) ∧ Below w.heap.size w w' := by
  by_cases h1 : y < y'
  · have E := hid (show decide (keyP (x, y) < keyP (x', y')) = true by unfold keyP; simp; omega)
    go_enter Try.func61, Try.ntmps61
    go_wp2
    go_ret
    exact ⟨ret_bool E.out.symm, by go_grown⟩
  · have d1 : decide (y < y') = false := by simp; omega
    by_cases h2 : y = y'
    · subst h2
      by_cases h3 : x < x'
      · have E := hid (show decide (keyP (x, y) < keyP (x', y)) = true by unfold keyP; simp; omega)
        go_enter Try.func61, Try.ntmps61
        go_wp2
        go_ret
        exact ⟨ret_bool E.out.symm, by go_grown⟩
      · have d3 : decide (x < x') = false := by simp; omega
        have E := hid (show decide (keyP (x, y) < keyP (x', y)) = false by unfold keyP; simp; omega)
        go_enter Try.func61, Try.ntmps61
        go_wp2
        go_ret
        exact ⟨ret_bool E.out.symm, by go_grown⟩
    · have d2 : (y == y') = false := by simp; omega
      have E := hid (show decide (keyP (x, y) < keyP (x', y')) = false by unfold keyP; simp; omega)
      go_enter Try.func61, Try.ntmps61
      go_wp2
      go_ret
      exact ⟨ret_bool E.out.symm, by go_grown⟩

set_option maxHeartbeats 1000000 in
theorem may_any (W H : Int) (s : ByteArray) (pol : Int) (draws : ByteArray) (spk : Int) (w : World) :
    Calls Try.prog 43 #[.agg #[.int .i64 W, .int .i64 H, .string s], .agg #[.int .i64 pol, .string draws, .int .i64 spk]] w fun e w' => e = .returned (.bool (mayB W H s.data.toList pol spk)) ∧ Below w.heap.size w w' := by
  cases hg : Pm.goodB W H s.data.toList
  · have E := hid (show mayB W H s.data.toList pol spk = false by unfold mayB; rw [hg]; simp)
    go_enter Try.func43, Try.ntmps43
    go_wp2_with (go_at_call 56; refine (good_any W H s _).mono ?_; rintro e w' ⟨rfl, rfl⟩; rw [hg])
    go_ret
    exact ⟨ret_bool E.out.symm, by go_grown⟩
  · by_cases p0 : 0 ≤ pol
    · by_cases p1 : pol ≤ 3
      · by_cases s0 : 0 ≤ spk
        · by_cases s1 : spk ≤ 1024
          · have E := hid (mayB_good (W := W) (H := H) (l := s.data.toList) (pol := pol) (spk := spk) (by omega) (by omega))
            go_enter Try.func43, Try.ntmps43
            go_wp2_with (go_at_call 56; refine (good_any W H s _).mono ?_; rintro e w' ⟨rfl, rfl⟩; rw [hg])
            go_ret
            exact ⟨ret_bool (by rw [E.out, hg]), by go_grown⟩
          · have E := hid (mayB_spk (W := W) (H := H) (l := s.data.toList) (pol := pol) (spk := spk) (by omega))
            have dd : decide (spk ≤ 1024) = false := by simp; omega
            go_enter Try.func43, Try.ntmps43
            go_wp2_with (go_at_call 56; refine (good_any W H s _).mono ?_; rintro e w' ⟨rfl, rfl⟩; rw [hg])
            go_ret
            exact ⟨ret_bool E.out.symm, by go_grown⟩
        · have E := hid (mayB_spk (W := W) (H := H) (l := s.data.toList) (pol := pol) (spk := spk) (by omega))
          have dd : decide (0 ≤ spk) = false := by simp; omega
          go_enter Try.func43, Try.ntmps43
          go_wp2_with (go_at_call 56; refine (good_any W H s _).mono ?_; rintro e w' ⟨rfl, rfl⟩; rw [hg])
          go_ret
          exact ⟨ret_bool E.out.symm, by go_grown⟩
      · have E := hid (mayB_pol (W := W) (H := H) (l := s.data.toList) (pol := pol) (spk := spk) (by omega))
        have dd : decide (pol ≤ 3) = false := by simp; omega
        go_enter Try.func43, Try.ntmps43
        go_wp2_with (go_at_call 56; refine (good_any W H s _).mono ?_; rintro e w' ⟨rfl, rfl⟩; rw [hg])
        go_ret
        exact ⟨ret_bool E.out.symm, by go_grown⟩
    · have E := hid (mayB_pol (W := W) (H := H) (l := s.data.toList) (pol := pol) (spk := spk) (by omega))
      have dd : decide (0 ≤ pol) = false := by simp; omega
      go_enter Try.func43, Try.ntmps43
      go_wp2_with (go_at_call 56; refine (good_any W H s _).mono ?_; rintro e w' ⟨rfl, rfl⟩; rw [hg])
      go_ret
      exact ⟨ret_bool E.out.symm, by go_grown⟩
end Go.Proofs.Ytgapfjjdccohkaa

/- outlineref.Joins. -/
namespace Go.Proofs.Ytgapfjjdccohkaa
open Go.RowKit

/-- Three boxes stand: a bitmap's, the options', a point's; below them all is as it was. -/
def Bj (B : Nat) (a b c x y : Value) (w wr : World) : Prop :=
  wr.cell? ⟨B, 0, none⟩ = some a ∧ wr.cell? ⟨B, 1, none⟩ = some b ∧ wr.cell? ⟨B, 2, none⟩ = some c ∧ wr.cell? ⟨B + 1 + 1, 0, none⟩ = some x ∧ wr.cell? ⟨B + 1 + 1, 1, none⟩ = some y ∧ Below B w wr ∧ B + 1 + 1 < wr.heap.size
theorem Bj.on {B : Nat} {a b c x y : Value} {w wr w2 : World} (h : Bj B a b c x y w wr) (hb : Below wr.heap.size wr w2) : Bj B a b c x y w w2 := by
  obtain ⟨c0, c1, c2, c3, c4, hn, hz⟩ := h
  have hz' : B < wr.heap.size := by omega
  exact ⟨(hb.cell (p := ⟨B, 0, none⟩) hz').trans c0, (hb.cell (p := ⟨B, 1, none⟩) hz').trans c1, (hb.cell (p := ⟨B, 2, none⟩) hz').trans c2, (hb.cell (p := ⟨B + 1 + 1, 0, none⟩) hz).trans c3, (hb.cell (p := ⟨B + 1 + 1, 1, none⟩) hz).trans c4, hn.trans (hb.mono (Nat.le_of_lt hz')), Nat.lt_of_lt_of_le hz hb.size⟩
theorem Bj.new (w : World) (a b c x y : Value) (o : Array Value) (t u v : TypeId) : Bj w.heap.size a b c x y w (((w.alloc (.cells #[a, b, c] t)).alloc (.cells o u)).alloc (.cells #[x, y] v)) :=
  ⟨by simp [go_sem], by simp [go_sem], by simp [go_sem], by simp [go_sem], by simp [go_sem], by go_grown, by simp⟩
theorem Bj.alloc {B : Nat} {a b c x y : Value} {w wr : World} (h : Bj B a b c x y w wr) (o : Obj) : Bj B a b c x y w (wr.alloc o) := h.on ((Below.refl _ _).alloc (Nat.le_refl _) _)

set_option maxHeartbeats 2000000 in
theorem refJoins_2 (W H : Nat) (s : ByteArray) (draws : ByteArray) (spk : Int) (X Y : Int) (hx : 0 ≤ X ∧ X ≤ 100) (hy : 0 ≤ Y ∧ Y ≤ 100) (w : World) (hw2 : W ≤ 32) (hh2 : H ≤ 32) (hl : s.size = W * H) :
    Calls Try.prog 59 #[.agg #[.int .i64 W, .int .i64 H, .string s], .agg #[.int .i64 2, .string draws, .int .i64 spk], .agg #[.int .i64 X, .int .i64 Y]] w fun e w' => e = .returned (.bool (decide (Qm.cntTo (Pm.blackB W H s.data.toList) X Y 16 < 8))) ∧ Below w.heap.size w w' := by
  have HL := hid hl
  clear hl
  go_enter Try.func59, Try.ntmps59
  go_wp2
  go_loopw [7, 8] (fun n y wr => ∃ i : Nat, i ≤ 4 ∧ y = .int .i64 (Y - 2 + (i : Nat)) ∧ n = .int .i64 (Qm.cntTo (Pm.blackB W H s.data.toList) X Y (4 * i) : Nat) ∧ Bj w.heap.size (.int .i64 W) (.int .i64 H) (.string s) (.int .i64 X) (.int .i64 Y) w wr) (fun _ y _ => (Y + 5 - intOf y).toNat)
  case atStart => exact ⟨0, by omega, by simp, rfl, Bj.new ..⟩
  case round =>
    obtain ⟨i, hi, rfl, rfl, hB⟩ := hrel
    have HB := hid hB
    obtain ⟨c0, c1, c2, c3, c4, -, hz⟩ := hB
    by_cases hlt : i < 4
    · have hlt' : Y - 2 + (i : Int) ≤ Y + 1 := by omega
      go_wp2
      go_loopw [7, 9] (fun n x wr => ∃ j : Nat, j ≤ 4 ∧ x = .int .i64 (X - 2 + (j : Nat)) ∧ n = .int .i64 (Qm.cntTo (Pm.blackB W H s.data.toList) X Y (4 * i + j) : Nat) ∧ Bj w.heap.size (.int .i64 W) (.int .i64 H) (.string s) (.int .i64 X) (.int .i64 Y) w wr) (fun _ x _ => (X + 5 - intOf x).toNat)
      case atStart => exact ⟨0, by omega, by simp, rfl, HB.out⟩
      case round =>
        clear c0 c1 c2 c3 c4 hz HB
        obtain ⟨j, hj, rfl, rfl, hB⟩ := hrel
        have HB := hid hB
        obtain ⟨c0, c1, c2, c3, c4, -, hz⟩ := hB
        by_cases hj4 : j < 4
        · have hjt : X - 2 + (j : Int) ≤ X + 1 := by omega
          have hc := Qm.cntTo_le (Pm.blackB W H s.data.toList) X Y (4 * i + j)
          cases hq : Pm.blackB W H s.data.toList (X - 2 + (j : Nat)) (Y - 2 + (i : Nat))
          · have E := hid (Qm.cntTo_no (Pm.blackB W H s.data.toList) X Y i j hj4 hq)
            go_wp2_with (go_at_call 57; refine (black_any W H s _ _ _ hw2 hh2 HL.out).mono ?_; rintro e w1 ⟨rfl, rfl⟩; rw [hq])
            go_roundw
            case rel => exact ⟨j + 1, by omega, by go_num, by rw [E.out], HB.out.alloc _⟩
            case measure => simp [intOf]; omega
          · have E := hid (Qm.cntTo_yes (Pm.blackB W H s.data.toList) X Y i j hj4 hq)
            go_wp2_with (go_at_call 57; refine (black_any W H s _ _ _ hw2 hh2 HL.out).mono ?_; rintro e w1 ⟨rfl, rfl⟩; rw [hq])
            go_roundw
            case rel => exact ⟨j + 1, by omega, by go_num, by rw [E.out]; go_num, HB.out.alloc _⟩
            case measure => simp [intOf]; omega
        · have e4 : j = 4 := by omega
          subst e4
          go_wp2
          go_roundw
          case rel => exact ⟨i + 1, by omega, by go_num, rfl, HB.out⟩
          case measure => simp [intOf]; omega
    · have e4 : i = 4 := by omega
      subst e4
      have hc := Qm.cntTo_le (Pm.blackB W H s.data.toList) X Y 16
      go_wp2
      go_ret
      exact ⟨ret_bool (by simp; omega), HB.out.2.2.2.2.2.1⟩

set_option maxHeartbeats 2000000 in
theorem refJoins_any (W H : Nat) (s : ByteArray) (pol : Nat) (draws : ByteArray) (spk : Int) (x y : Nat) (hp : pol ≤ 3) (hx : x ≤ 100) (hy : y ≤ 100) (w : World) (hw2 : W ≤ 32) (hh2 : H ≤ 32) (hl : s.size = W * H) :
    Calls Try.prog 59 #[.agg #[.int .i64 W, .int .i64 H, .string s], .agg #[.int .i64 pol, .string draws, .int .i64 spk], .agg #[.int .i64 x, .int .i64 y]] w fun e w' => e = .returned (.bool (Qm.jnB W H s.data.toList pol draws.data.toList x y)) ∧ Below w.heap.size w w' := by
  match pol, hp with
  | 0, _ =>
    go_enter Try.func59, Try.ntmps59
    go_wp2
    go_ret
    exact ⟨ret_bool (Qm.jnB_0 ..).symm, by go_grown⟩
  | 1, _ =>
    go_enter Try.func59, Try.ntmps59
    go_wp2
    go_ret
    exact ⟨ret_bool (Qm.jnB_1 ..).symm, by go_grown⟩
  | 2, _ => exact refJoins_2 W H s draws spk x y (by omega) (by omega) w hw2 hh2 hl
  | 3, _ =>
    obtain ⟨k, hk⟩ : ∃ k : Nat, k = y * (W + 1) := ⟨_, rfl⟩
    have ek : (y : Int) * ((W : Int) + 1) = (k : Nat) := by rw [hk]; simp
    have hk2 : k ≤ 100 * 33 := by rw [hk]; exact Nat.mul_le_mul hy (by omega)
    have E0 : Hid (Qm.jnB W H s.data.toList (3 : Nat) draws.data.toList x y = Pm.bitAt draws.data.toList (k + x)) := by
      show _ = _
      rw [show ((3 : Nat) : Int) = 3 from rfl, Qm.jnB_3, ek, show ((k : Int) + (x : Int)).toNat = k + x from by omega]
    clear hk
    by_cases hlt : k + x < draws.size
    · by_cases q : (draws[k + x].toNat : Int) = 49
      · have E := hid (Pm.bitAt_yes draws _ hlt q)
        go_enter Try.func59, Try.ntmps59
        go_wp2
        go_ret
        exact ⟨ret_bool (E.out.symm.trans E0.out.symm), by go_grown⟩
      · have E := hid (Pm.bitAt_no draws _ hlt q)
        have b0 : ((draws[k + x].toNat : Int) == 49) = false := by simpa using q
        go_enter Try.func59, Try.ntmps59
        go_wp2
        go_ret
        exact ⟨ret_bool (E.out.symm.trans E0.out.symm), by go_grown⟩
    · have E := hid (Pm.bitAt_out draws _ hlt)
      go_enter Try.func59, Try.ntmps59
      go_wp2
      go_ret
      exact ⟨ret_bool (E.out.symm.trans E0.out.symm), by go_grown⟩
end Go.Proofs.Ytgapfjjdccohkaa
