import Derived.Test.YtgapfjjdccohkaaJcounted13
import Derived.Test.YtgapfjjdccohkaaJcounted14
import Derived.Deep.QuietTactic
import Derived.BigQuiet
import Derived.Deep.RegionHeld3

/- outlineref: Above. -/
namespace Go.Proofs.Ytgapfjjdccohkaa
open Go.RowKit

namespace Qm
/-- What Above answers. -/
def abV (p q : Pt) (x y : Int) : Int := if thR p q x y = true then 0 else abZ p q x y
theorem abV_in (p q : Pt) (x y : Int) : -1 ≤ abV p q x y ∧ abV p q x y ≤ 1 := by
  unfold abV abZ; repeat' split <;> try omega
theorem mid_in {p q : Pt} {x y : Int} (hp : 0 ≤ p.1 ∧ p.1 ≤ 32 ∧ 0 ≤ p.2 ∧ p.2 ≤ 32) (hq : 0 ≤ q.1 ∧ q.1 ≤ 32 ∧ 0 ≤ q.2 ∧ q.2 ≤ 32) (x0 : -32 ≤ x) (x1 : x ≤ 64) (y0 : -32 ≤ y) (y1 : y ≤ 64) {a b : Int} (ha : a = 2 * (p.1 - x) - 1 ∨ a = 2 * (p.2 - y) - 1) (hb : b = 2 * (q.1 - x) - 1 ∨ b = 2 * (q.2 - y) - 1) : -40000 ≤ a * b ∧ a * b ≤ 40000 := by
  have m : ∀ {a b : Int}, -200 ≤ a → a ≤ 200 → -200 ≤ b → b ≤ 200 → -40000 ≤ a * b ∧ a * b ≤ 40000 := by
    intro a b a0 a1 b0 b1
    have p : ∀ {u v : Int}, 0 ≤ u → u ≤ 200 → 0 ≤ v → v ≤ 200 → 0 ≤ u * v ∧ u * v ≤ 40000 := fun a b c d => ⟨Int.mul_nonneg a c, Int.mul_le_mul b d c (by omega)⟩
    rcases Int.le_total 0 a with ha | ha <;> rcases Int.le_total 0 b with hb | hb
    · have := p ha a1 hb b1; omega
    · have := p ha a1 (show 0 ≤ -b by omega) (by omega); rw [Int.mul_neg] at this; omega
    · have := p (show 0 ≤ -a by omega) (by omega) hb b1; rw [Int.neg_mul] at this; omega
    · have := p (show 0 ≤ -a by omega) (by omega) (show 0 ≤ -b by omega) (by omega); rw [Int.neg_mul_neg] at this; omega
  exact m (by omega) (by omega) (by omega) (by omega)
end Qm

set_option maxHeartbeats 1000000 in
theorem above_any (p q : Int × Int) (x y : Int) (hp : PtIn p) (hq : PtIn q) (x0 : -32 ≤ x) (x1 : x ≤ 64) (y0 : -32 ≤ y) (y1 : y ≤ 64) (w : World) :
    Calls Try.prog 89 #[.agg #[.int .i64 p.1, .int .i64 p.2], .agg #[.int .i64 q.1, .int .i64 q.2], .int .i64 x, .int .i64 y] w fun e w' => e = .returned (.tuple #[.int .i64 (Qm.abV p q x y), .bool (!Qm.thR p q x y)]) ∧ Below w.heap.size w w' := by
  have m1 := Qm.mid_in hp hq x0 x1 y0 y1 (.inl rfl) (.inr rfl)
  have m2 := Qm.mid_in hp hq x0 x1 y0 y1 (.inr rfl) (.inl rfl)
  have m3 := Qm.mid_in hp hq x0 x1 y0 y1 (.inl rfl) (.inl rfl)
  have m4 := Qm.mid_in hp hq x0 x1 y0 y1 (.inr rfl) (.inr rfl)
  have T := hid (Qm.thR_iff p q x y)
  have E := hid (show Qm.abV p q x y = if Qm.thR p q x y = true then 0 else if 2 * (p.1 - x) - 1 < 0 ∧ 0 < 2 * (q.1 - x) - 1 ∧ 0 < Qm.crZ p q x y then -1 else if 0 < 2 * (p.1 - x) - 1 ∧ 2 * (q.1 - x) - 1 < 0 ∧ Qm.crZ p q x y < 0 then 1 else 0 from rfl)
  have C := hid (show Qm.crZ p q x y = (2 * (p.1 - x) - 1) * (2 * (q.2 - y) - 1) - (2 * (p.2 - y) - 1) * (2 * (q.1 - x) - 1) from rfl)
  have D := hid (show Qm.dtZ p q x y = (2 * (p.1 - x) - 1) * (2 * (q.1 - x) - 1) + (2 * (p.2 - y) - 1) * (2 * (q.2 - y) - 1) from rfl)
  unfold PtIn at hp hq
  obtain ⟨px, py⟩ := p
  obtain ⟨qx, qy⟩ := q
  dsimp only at hp hq m1 m2 m3 m4 T E C D ⊢
  obtain ⟨u, hu⟩ : ∃ u, (2 * (px - x) - 1) * (2 * (qy - y) - 1) = u := ⟨_, rfl⟩
  obtain ⟨v, hv⟩ : ∃ v, (2 * (py - y) - 1) * (2 * (qx - x) - 1) = v := ⟨_, rfl⟩
  obtain ⟨s, hs⟩ : ∃ s, (2 * (px - x) - 1) * (2 * (qx - x) - 1) = s := ⟨_, rfl⟩
  obtain ⟨t, ht⟩ : ∃ t, (2 * (py - y) - 1) * (2 * (qy - y) - 1) = t := ⟨_, rfl⟩
  rw [hu] at m1 C
  rw [hv] at m2 C
  rw [hs] at m3 D
  rw [ht] at m4 D
  rw [C.out] at T E
  rw [D.out] at T
  clear C D
  obtain ⟨r, hr⟩ : ∃ r, Qm.thR (px, py) (qx, qy) x y = r := ⟨_, rfl⟩
  rw [hr] at T E ⊢
  obtain ⟨z, hz⟩ : ∃ z, Qm.abV (px, py) (qx, qy) x y = z := ⟨_, rfl⟩
  rw [hz] at E ⊢
  clear hr hz
  by_cases h1 : u - v = 0
  · have b1 : (u - v == 0) = true := by simpa using h1
    by_cases h2 : s + t ≤ 0
    · have h2b : decide (s + t ≤ 0) = true := by simpa using h2
      have R := hid (show r = true from T.out.2 ⟨h1, h2⟩)
      have Z := hid (show z = 0 by rw [E.out, if_pos R.out])
      clear h1
      go_enter Try.func89, Try.ntmps89
      go_wp2
      go_ret2
      exact ⟨by rw [Z.out, R.out]; rfl, by go_grown⟩
    · have h2b : decide (s + t ≤ 0) = false := by simpa using h2
      have R := hid (show r = false by cases hr : r with | false => rfl | true => exact absurd (T.out.1 hr).2 h2)
      have Z := hid (show z = 0 by rw [E.out, if_neg (by rw [R.out]; simp), if_neg (by omega), if_neg (by omega)])
      have c1 : ¬ 0 < u - v := by omega
      have c2 : ¬ u - v < 0 := by omega
      clear h1
      go_enter Try.func89, Try.ntmps89
      go_wp2
      all_goals (
        go_ret2
        exact ⟨by rw [Z.out, R.out]; rfl, by go_grown⟩)
  · have b1 : (u - v == 0) = false := by simpa using h1
    have R := hid (show r = false by cases hr : r with | false => rfl | true => exact absurd (T.out.1 hr).1 h1)
    have Z := hid (show z = if 2 * (px - x) - 1 < 0 ∧ 0 < 2 * (qx - x) - 1 ∧ 0 < u - v then -1 else if 0 < 2 * (px - x) - 1 ∧ 2 * (qx - x) - 1 < 0 ∧ u - v < 0 then 1 else 0 by rw [E.out, if_neg (by rw [R.out]; simp)])
    cases g1 : decide (2 * (px - x) - 1 < 0) <;> cases g2 : decide (0 < 2 * (qx - x) - 1) <;> cases g3 : decide (0 < u - v)
    all_goals (
      have G1 := hid g1
      have G2 := hid g2
      have G3 := hid g3
      simp only [decide_eq_true_eq, decide_eq_false_iff_not] at g1 g2 g3
      have k1 : ¬ (2 * (px - x) - 1 = 0) := by omega
      have k2 : ¬ (2 * (qx - x) - 1 = 0) := by omega
      go_enter Try.func89, Try.ntmps89
      go_wp2
      all_goals (
        go_ret2
        refine ⟨?_, by go_grown⟩
        rw [Z.out, R.out]
        first
          | (rw [if_pos ⟨by omega, by omega, by omega⟩]; rfl)
          | (rw [if_neg (by omega), if_pos ⟨by omega, by omega, by omega⟩]; rfl)
          | (rw [if_neg (by omega), if_neg (by omega)]; rfl)))
end Go.Proofs.Ytgapfjjdccohkaa

/- outlineref: Clean, Fits. -/
namespace Go.Proofs.Ytgapfjjdccohkaa
open Go.RowKit

namespace Qm
/-- What Clean answers. -/
def clnB (l : List Pt) (x y : Int) : Bool := ((List.range l.length).all fun i => !thR (l.getD i (0, 0)) (nxP l i) x y) && decide (fsE (fun p q => abZ p q x y) l l.length = 0)
theorem clnB_iff (l : List Pt) (x y : Int) : clnB l x y = true ↔ cleanP l x y := by
  unfold clnB cleanP
  rw [Bool.and_eq_true, List.all_eq_true, decide_eq_true_eq]
  simp
theorem clnB_no {l : List Pt} {x y : Int} {i : Nat} (hi : i < l.length) (h : thR (l.getD i (0, 0)) (nxP l i) x y = true) : clnB l x y = false := by
  cases e : clnB l x y with
  | false => rfl
  | true => rw [((clnB_iff l x y).1 e).1 i hi] at h; simp at h
theorem clnB_end {l : List Pt} {x y : Int} (h : ∀ i, i < l.length → thR (l.getD i (0, 0)) (nxP l i) x y = false) : clnB l x y = (fsE (fun p q => abZ p q x y) l l.length == 0) := by
  have e : ((List.range l.length).all fun i => !thR (l.getD i (0, 0)) (nxP l i) x y) = true := by rw [List.all_eq_true]; intro i hi; rw [h i (List.mem_range.1 hi)]; rfl
  unfold clnB; rw [e]; rfl
theorem abZ_in (p q : Pt) (x y : Int) : -1 ≤ abZ p q x y ∧ abZ p q x y ≤ 1 := by
  unfold abZ; repeat' split <;> try omega
theorem fsE_ab_in (l : List Pt) (x y : Int) (k : Nat) : -(k : Int) ≤ fsE (fun p q => abZ p q x y) l k ∧ fsE (fun p q => abZ p q x y) l k ≤ k := by
  induction k with
  | zero => simp [fsE]
  | succ k ih => have := abZ_in (l.getD k (0, 0)) (nxP l k) x y; simp only [fsE]; omega
end Qm

set_option maxRecDepth 4000 in
set_option maxHeartbeats 1000000 in
theorem clean_any (g o n cap : Nat) (l : List (Int × Int)) (hn : n = l.length) (h0 : 0 < n) (hs : Qm.Small l) (hn2 : n ≤ 4357) (x y : Int) (x0 : -32 ≤ x) (x1 : x ≤ 64) (y0 : -32 ≤ y) (y1 : y ≤ 64) (w : World) (hP : PtsO g o l w) :
    Calls Try.prog 81 #[.slice (some ⟨g, o, none⟩) n cap, .int .i64 x, .int .i64 y] w fun e w' => e = .returned (.bool (Qm.clnB l x y)) ∧ Below w.heap.size w w' := by
  have HP := hid hP
  have hg := hP.1
  have HN := hid hn
  have e0 : ((n : Int) == 0) = false := by simp; omega
  clear hP hn
  go_enter Try.func81, Try.ntmps81
  go_wp2
  go_loopw [7, 8] (fun sm i wr => ∃ k : Nat, k ≤ n ∧ i = .int .i64 k ∧ sm = .int .i64 (Qm.fsE (fun p q => Qm.abZ p q x y) l k) ∧ (∀ i, i < k → Qm.thR (l.getD i (0, 0)) (Qm.nxP l i) x y = false) ∧ Below w.heap.size w wr) (fun _ i _ => n - (intOf i).toNat)
  case atStart => exact ⟨0, by omega, rfl, rfl, fun _ h => by omega, Below.refl _ _⟩
  case round =>
    obtain ⟨k, hk, rfl, rfl, hth, hb⟩ := hrel
    have HB := hid hb
    have TH := hid hth
    have ts := Qm.fsE_ab_in l x y k
    clear hth
    by_cases hlt : k < n
    · obtain ⟨r, hr⟩ : ∃ r, r = (k + 1) % n := ⟨_, rfl⟩
      have hrn : r < n := by rw [hr]; exact Nat.mod_lt _ h0
      have er : ((k : Int) + 1) % (n : Int) = (r : Nat) := by rw [hr]; simp
      obtain ⟨r0, r1⟩ := (HP.out.on hb hg).2 k (by have := HN.out; omega)
      obtain ⟨q0, q1⟩ := (HP.out.on hb hg).2 r (by have := HN.out; omega)
      have NX := hid (show Qm.nxP l k = l.getD r (0, 0) by rw [hr, HN.out]; rfl)
      have AB := hid (fun W' => above_any (l.getD k (0, 0)) (l.getD r (0, 0)) x y (small_in hs _) (small_in hs _) x0 x1 y0 y1 W')
      have E2 : Hid (Qm.fsE (fun p q => Qm.abZ p q x y) l (k + 1) = Qm.fsE (fun p q => Qm.abZ p q x y) l k + Qm.abZ (l.getD k (0, 0)) (Qm.nxP l k) x y) := rfl
      have ai := Qm.abZ_in (l.getD k (0, 0)) (Qm.nxP l k) x y
      have AV := hid (show Qm.abV (l.getD k (0, 0)) (l.getD r (0, 0)) x y = if Qm.thR (l.getD k (0, 0)) (l.getD r (0, 0)) x y = true then 0 else Qm.abZ (l.getD k (0, 0)) (l.getD r (0, 0)) x y from rfl)
      have NO := hid (fun h => Qm.clnB_no (l := l) (x := x) (y := y) (i := k) (by rw [← HN.out]; exact hlt) h)
      have TN := hid (show Qm.thR (l.getD k (0, 0)) (Qm.nxP l k) x y = false → ∀ i, i < k + 1 → Qm.thR (l.getD i (0, 0)) (Qm.nxP l i) x y = false from fun h i hi => by
        rcases Nat.lt_or_ge i k with h1 | h1
        · exact TH.out i h1
        · obtain rfl : i = k := by omega
          exact h)
      rw [NX.out] at E2 ai NO TN
      obtain ⟨t, ht⟩ : ∃ t, Qm.thR (l.getD k (0, 0)) (l.getD r (0, 0)) x y = t := ⟨_, rfl⟩
      rw [ht] at AB AV NO TN
      obtain ⟨z, hz⟩ : ∃ z, Qm.abZ (l.getD k (0, 0)) (l.getD r (0, 0)) x y = z := ⟨_, rfl⟩
      rw [hz] at E2 AV ai
      obtain ⟨av, hav⟩ : ∃ av, Qm.abV (l.getD k (0, 0)) (l.getD r (0, 0)) x y = av := ⟨_, rfl⟩
      rw [hav] at AB AV
      obtain ⟨⟨pa, pb⟩, hpp⟩ : ∃ p, p = l.getD k (0, 0) := ⟨_, rfl⟩
      obtain ⟨⟨qa, qb⟩, hqq⟩ : ∃ p, p = l.getD r (0, 0) := ⟨_, rfl⟩
      rw [← hpp] at r0 r1 AB
      rw [← hqq] at q0 q1 AB
      dsimp only at r0 r1 q0 q1 AB
      have hz' := HB.out.size
      have b1 : (0 : Int) ≤ (r : Nat) := by omega
      have b2 : ((r : Nat) : Int) < (n : Nat) := by omega
      have b3 : (0 : Int) ≤ (k : Nat) + 1 := by omega
      have b4 : IntKind.i64.wrap ((k : Int) + 1) = (k : Int) + 1 := by rw [IntKind.wrap_i64]; omega
      have b5 : ((k : Int) + 1).tmod (n : Nat) = (r : Nat) := by rw [Int.tmod_eq_emod_of_nonneg b3]; exact er
      have b6 : ¬ (n : Int) = 0 := by omega
      have b8 : ¬ n = 0 := by omega
      have b9 : (n == 0) = false := by simp; omega
      have b7 : IntKind.i64.wrap ((r : Nat) : Int) = (r : Nat) := by rw [IntKind.wrap_i64]; omega
      have S0 := hid (show wr.drew.cell? ⟨g, o + k * 2, none⟩ = some (.int .i64 pa) ∧ wr.drew.cell? ⟨g, o + k * 2 + 1, none⟩ = some (.int .i64 pb) ∧ wr.drew.cell? ⟨g, o + r * 2, none⟩ = some (.int .i64 qa) ∧ wr.drew.cell? ⟨g, o + r * 2 + 1, none⟩ = some (.int .i64 qb) from ⟨r0, r1, q0, q1⟩)
      have HBD := hid (show Below w.heap.size w wr.drew from HB.out.trans ⟨rfl, rfl, rfl, Nat.le_refl _, fun _ _ => rfl⟩)
      have hgd : g < wr.drew.heap.size := by show g < wr.heap.size; omega
      clear hb hpp hqq hr ht hz hav
      go_wp2_with fail
      go_region_held3 (fun w' => w'.cell? ⟨g, o + k * 2, none⟩ = some (.int .i64 pa) ∧ w'.cell? ⟨g, o + k * 2 + 1, none⟩ = some (.int .i64 pb) ∧ w'.cell? ⟨g, o + r * 2, none⟩ = some (.int .i64 qa) ∧ w'.cell? ⟨g, o + r * 2 + 1, none⟩ = some (.int .i64 qb))
        (first | exact S0.out | exact (by assumption : _ ∧ _ ∧ _ ∧ _))
        (first | (go_at_call 89; refine (AB.out _).mono ?_; rintro e w2 ⟨rfl, hb2⟩; have hS2 : w2.cell? ⟨g, o + k * 2, none⟩ = some (.int .i64 pa) ∧ w2.cell? ⟨g, o + k * 2 + 1, none⟩ = some (.int .i64 pb) ∧ w2.cell? ⟨g, o + r * 2, none⟩ = some (.int .i64 qa) ∧ w2.cell? ⟨g, o + r * 2 + 1, none⟩ = some (.int .i64 qb) := ⟨(hb2.cell (p := ⟨g, o + k * 2, none⟩) hgd).trans S0.out.1, (hb2.cell (p := ⟨g, o + k * 2 + 1, none⟩) hgd).trans S0.out.2.1, (hb2.cell (p := ⟨g, o + r * 2, none⟩) hgd).trans S0.out.2.2.1, (hb2.cell (p := ⟨g, o + r * 2 + 1, none⟩) hgd).trans S0.out.2.2.2⟩; have B2 := hid (show Below w.heap.size w w2 from HBD.out.trans (hb2.mono HBD.out.size)); clear hb2))
      clear r0 r1 q0 q1 S0 hS2
      cases t
      · have AV2 := hid (show av = z by rw [AV.out, if_neg (by simp)])
        obtain rfl := AV2.out
        go_wp2
        go_roundw
        case rel => exact ⟨k + 1, by omega, by go_num, by rw [E2.out], TN.out (by trivial), B2.out⟩
        case measure => simp [intOf]; omega
      · go_wp2
        go_ret
        exact ⟨ret_bool (NO.out (by trivial)).symm, B2.out⟩
    · have ek : k = n := by omega
      subst ek
      have CE := hid (show Qm.clnB l x y = (Qm.fsE (fun p q => Qm.abZ p q x y) l k == 0) by rw [HN.out]; exact Qm.clnB_end fun i hi => TH.out i (by rw [HN.out]; exact hi))
      obtain ⟨v, hv⟩ : ∃ v, Qm.fsE (fun p q => Qm.abZ p q x y) l k = v := ⟨_, rfl⟩
      rw [hv] at CE ⊢
      go_wp2
      go_ret
      exact ⟨ret_bool CE.out.symm, HB.out⟩

set_option maxRecDepth 4000 in
set_option maxHeartbeats 1000000 in
theorem refFits_any (g o n cap : Nat) (l : List (Int × Int)) (hn : n = l.length) (h0 : 2 ≤ n) (hs : Qm.Small l) (hn2 : n ≤ 13) (hu : Qm.Unit l) (w : World) (hP : PtsO g o l w) :
    Calls Try.prog 72 #[.slice (some ⟨g, o, none⟩) n cap] w fun e w' => e = .returned (.bool (Qm.fitB l)) ∧ Below w.heap.size w w' := by
  have HP := hid hP
  have hg := hP.1
  have HN := hid hn
  have FR := hid (hu.fit_ref (by omega) (by omega))
  have F2 := hid (fun h => Qm.fit_two hu h)
  have CI := hid (Qm.clnB_iff l)
  have CL := hid (fun x y (a : -32 ≤ x) (b : x ≤ 64) (c : -32 ≤ y) (d : y ≤ 64) W' (h : PtsO g o l W') => clean_any g o n cap l hn (by omega) hs (by omega) x y a b c d W' h)
  obtain ⟨q0, q1⟩ := hP.2 0 (by omega)
  simp only [Nat.zero_mul, Nat.add_zero] at q0 q1
  have s0 := hs.at 0
  clear hP hn hs hu
  rcases Nat.eq_or_lt_of_le h0 with h2 | h2
  · have e2 : ((n : Int) == 2) = true := by simp; omega
    have FT := hid (show Qm.fitB l = true from F2.out (by rw [← HN.out]; omega))
    clear h2
    go_enter Try.func72, Try.ntmps72
    go_wp2
    go_ret
    exact ⟨ret_bool FT.out.symm, Below.refl _ _⟩
  · have e2 : ((n : Int) == 2) = false := by simp; omega
    have FF := hid (show ∀ x y, (l.getD 0 (0, 0)).1 - 13 ≤ x → x ≤ (l.getD 0 (0, 0)).1 + 13 → (l.getD 0 (0, 0)).2 - 13 ≤ y → y ≤ (l.getD 0 (0, 0)).2 + 13 → Qm.clnB l x y = false → Qm.fitB l = false from fun x y a b c d h => by
      cases e : Qm.fitB l with
      | false => rfl
      | true =>
        rcases FR.out.1 e with h3 | h3
        · rw [← HN.out] at h3; omega
        · rw [(CI.out x y).2 (h3 x y a b c d)] at h; simp at h)
    have FT := hid (show (∀ x y, (l.getD 0 (0, 0)).1 - 13 ≤ x → x ≤ (l.getD 0 (0, 0)).1 + 13 → (l.getD 0 (0, 0)).2 - 13 ≤ y → y ≤ (l.getD 0 (0, 0)).2 + 13 → Qm.clnB l x y = true) → Qm.fitB l = true from fun h => FR.out.2 (.inr fun x y a b c d => (CI.out x y).1 (h x y a b c d)))
    obtain ⟨⟨fa, fb⟩, hff⟩ : ∃ p, p = l.getD 0 (0, 0) := ⟨_, rfl⟩
    rw [← hff] at q0 q1 s0 FF FT
    dsimp only at q0 q1 s0 FF FT
    clear hff FR F2 CI
    go_enter Try.func72, Try.ntmps72
    go_wp2_with fail
    go_loopw [3] (fun yv wr => ∃ y : Int, yv = .int .i64 y ∧ fb - 13 ≤ y ∧ y ≤ fb + 14 ∧ (∀ x' y', fa - 13 ≤ x' → x' ≤ fa + 13 → fb - 13 ≤ y' → y' < y → Qm.clnB l x' y' = true) ∧ Below w.heap.size w wr) (fun y _ => (fb + 14 - intOf y).toNat)
    case atStart => exact ⟨fb - 13, rfl, by omega, by omega, fun _ _ _ _ _ _ => by omega, Below.refl _ _⟩
    case round =>
      obtain ⟨y, rfl, hy0, hy1, hok, hb⟩ := hrel
      have OKS := hid hok
      have HB := hid hb
      have r0 := (hb.cell (p := ⟨g, o, none⟩) hg).trans q0
      have r1 := (hb.cell (p := ⟨g, o + 1, none⟩) hg).trans q1
      clear hok hb
      by_cases hlt : y ≤ fb + 13
      · go_wp2_with fail
        clear r0 r1
        go_loopw [4] (fun xv wr => ∃ x : Int, xv = .int .i64 x ∧ fa - 13 ≤ x ∧ x ≤ fa + 14 ∧ (∀ x', fa - 13 ≤ x' → x' < x → Qm.clnB l x' y = true) ∧ Below w.heap.size w wr) (fun x _ => (fa + 14 - intOf x).toNat)
        case atStart => exact ⟨fa - 13, rfl, by omega, by omega, fun _ _ _ => by omega, HB.out⟩
        case round =>
          clear HB
          obtain ⟨x, rfl, hx0, hx1, hok, hb⟩ := hrel
          have OKX := hid hok
          have HB := hid hb
          have r0 := (hb.cell (p := ⟨g, o, none⟩) hg).trans q0
          have r1 := (hb.cell (p := ⟨g, o + 1, none⟩) hg).trans q1
          clear hok hb
          by_cases hlx : x ≤ fa + 13
          · have FX := hid (FF.out x y hx0 hlx hy0 hlt)
            have cl := CL.out x y (by omega) (by omega) (by omega) (by omega)
            obtain ⟨t, ht⟩ : ∃ t, Qm.clnB l x y = t := ⟨_, rfl⟩
            rw [ht] at cl FX
            have CLX := hid cl
            have HT := hid ht
            clear cl ht
            go_wp2_with fail
            refine (CLX.out _ (HP.out.on HB.out hg)).mono ?_
            rintro e w2 ⟨rfl, hb2⟩
            have B2 := hid (show Below w.heap.size w w2 from HB.out.trans (hb2.mono HB.out.size))
            clear hb2 r0 r1
            cases t
            · go_wp2
              go_ret
              exact ⟨ret_bool (FX.out (by trivial)).symm, B2.out⟩
            · go_wp2
              go_roundw
              case rel =>
                refine ⟨x + 1, by go_num, by omega, by omega, fun x' h1 h2 => ?_, B2.out⟩
                rcases Int.lt_or_le x' x with h3 | h3
                · exact OKX.out x' h1 h3
                · rw [show x' = x from by omega]; exact HT.out
              case measure => simp [intOf]; omega
          · go_wp2
            go_roundw
            case rel =>
              refine ⟨y + 1, by go_num, by omega, by omega, fun x' y' h1 h2 h3 h4 => ?_, HB.out⟩
              rcases Int.lt_or_le y' y with h5 | h5
              · exact OKS.out x' y' h1 h2 h3 h5
              · rw [show y' = y from by omega]; exact OKX.out x' h1 (by omega)
            case measure => simp [intOf]; omega
      · have FTT := hid (show Qm.fitB l = true from FT.out fun x y a b c d => OKS.out x y a b c (by omega))
        go_wp2
        go_ret
        exact ⟨ret_bool FTT.out.symm, HB.out⟩
end Go.Proofs.Ytgapfjjdccohkaa

/- outlinekeep: wind, through. -/
namespace Go.Proofs.Ytgapfjjdccohkaa
open Go.RowKit

namespace Qm
theorem mul_200 {a b : Int} (a0 : -200 ≤ a) (a1 : a ≤ 200) (b0 : -200 ≤ b) (b1 : b ≤ 200) : -40000 ≤ a * b ∧ a * b ≤ 40000 := by
  have p : ∀ {u v : Int}, 0 ≤ u → u ≤ 200 → 0 ≤ v → v ≤ 200 → 0 ≤ u * v ∧ u * v ≤ 40000 := fun a b c d => ⟨Int.mul_nonneg a c, Int.mul_le_mul b d c (by omega)⟩
  rcases Int.le_total 0 a with ha | ha <;> rcases Int.le_total 0 b with hb | hb
  · have := p ha a1 hb b1; omega
  · have := p ha a1 (show 0 ≤ -b by omega) (by omega); rw [Int.mul_neg] at this; omega
  · have := p (show 0 ≤ -a by omega) (by omega) hb b1; rw [Int.neg_mul] at this; omega
  · have := p (show 0 ≤ -a by omega) (by omega) (show 0 ≤ -b by omega) (by omega); rw [Int.neg_mul_neg] at this; omega
theorem far_over (px py qx qy x y : Int) : farZ (px, py) (qx, qy) x y = 2 * px * (qy - py) + (qx - px) * (2 * y + 1 - 2 * py) - (2 * x + 1) * (qy - py) := by
  unfold farZ; grind
end Qm

set_option maxHeartbeats 1000000 in
theorem wind_any (p q : Int × Int) (x y : Int) (hp : PtIn p) (hq : PtIn q) (x0 : -32 ≤ x) (x1 : x ≤ 64) (y0 : -32 ≤ y) (y1 : y ≤ 64) (w : World) :
    Calls Try.prog 41 #[.agg #[.int .i64 p.1, .int .i64 p.2], .agg #[.int .i64 q.1, .int .i64 q.2], .int .i64 x, .int .i64 y] w fun e w' => e = .returned (.int .i64 (Qm.wdZ p q x y)) ∧ Below w.heap.size w w' := by
  have E := hid (Qm.wdZ_eq p q x y)
  unfold PtIn at hp hq
  obtain ⟨px, py⟩ := p
  obtain ⟨qx, qy⟩ := q
  dsimp only at hp hq E ⊢
  have F := hid (Qm.far_over px py qx qy x y)
  have m1 := Qm.mul_200 (a := 2 * px) (b := qy - py) (by omega) (by omega) (by omega) (by omega)
  have m2 := Qm.mul_200 (a := qx - px) (b := 2 * y + 1 - 2 * py) (by omega) (by omega) (by omega) (by omega)
  have m3 := Qm.mul_200 (a := 2 * x + 1) (b := qy - py) (by omega) (by omega) (by omega) (by omega)
  obtain ⟨u, hu⟩ : ∃ u, 2 * px * (qy - py) = u := ⟨_, rfl⟩
  obtain ⟨v, hv⟩ : ∃ v, (qx - px) * (2 * y + 1 - 2 * py) = v := ⟨_, rfl⟩
  obtain ⟨t, ht⟩ : ∃ t, (2 * x + 1) * (qy - py) = t := ⟨_, rfl⟩
  rw [hu] at m1 F
  rw [hv] at m2 F
  rw [ht] at m3 F
  rw [F.out] at E
  obtain ⟨z, hz⟩ : ∃ z, Qm.wdZ (px, py) (qx, qy) x y = z := ⟨_, rfl⟩
  rw [hz] at E ⊢
  clear F hz
  cases hd1 : decide (py ≤ y) <;> cases hd2 : decide (qy ≤ y)
  all_goals simp only [decide_eq_true_eq, decide_eq_false_iff_not] at hd1 hd2
  · have Z := hid (show z = 0 by rw [E.out, if_neg (by omega), if_neg (by omega)])
    go_enter Try.func41, Try.ntmps41
    go_wp2
    go_ret
    exact ⟨ret_int Z.out.symm, by go_grown⟩
  · by_cases h : u + v - t < 0
    · have Z := hid (show z = 1 by rw [E.out, if_pos (by omega)])
      go_enter Try.func41, Try.ntmps41
      go_wp2
      go_ret
      exact ⟨ret_int Z.out.symm, by go_grown⟩
    · have Z := hid (show z = 0 by rw [E.out, if_neg (by omega), if_neg (by omega)])
      go_enter Try.func41, Try.ntmps41
      go_wp2
      go_ret
      exact ⟨ret_int Z.out.symm, by go_grown⟩
  · by_cases h : 0 < u + v - t
    · have Z := hid (show z = -1 by rw [E.out, if_neg (by omega), if_pos (by omega)])
      go_enter Try.func41, Try.ntmps41
      go_wp2
      go_ret
      exact ⟨ret_int Z.out.symm, by go_grown⟩
    · have Z := hid (show z = 0 by rw [E.out, if_neg (by omega), if_neg (by omega)])
      go_enter Try.func41, Try.ntmps41
      go_wp2
      go_ret
      exact ⟨ret_int Z.out.symm, by go_grown⟩
  · have Z := hid (show z = 0 by rw [E.out, if_neg (by omega), if_neg (by omega)])
    go_enter Try.func41, Try.ntmps41
    go_wp2
    go_ret
    exact ⟨ret_int Z.out.symm, by go_grown⟩

set_option maxHeartbeats 1000000 in
theorem keepThrough_any (p q : Int × Int) (x y : Int) (hp : PtIn p) (hq : PtIn q) (x0 : -32 ≤ x) (x1 : x ≤ 64) (y0 : -32 ≤ y) (y1 : y ≤ 64) (w : World) :
    Calls Try.prog 42 #[.agg #[.int .i64 p.1, .int .i64 p.2], .agg #[.int .i64 q.1, .int .i64 q.2], .int .i64 x, .int .i64 y] w fun e w' => e = .returned (.bool (Qm.thB p q x y)) ∧ Below w.heap.size w w' := by
  have T := hid (Qm.thR_iff p q x y)
  rw [← Qm.th_same]
  unfold PtIn at hp hq
  obtain ⟨px, py⟩ := p
  obtain ⟨qx, qy⟩ := q
  dsimp only at hp hq T ⊢
  have m1 := Qm.mul_200 (a := 2 * px - 2 * x - 1) (b := 2 * qy - 2 * y - 1) (by omega) (by omega) (by omega) (by omega)
  have m2 := Qm.mul_200 (a := 2 * py - 2 * y - 1) (b := 2 * qx - 2 * x - 1) (by omega) (by omega) (by omega) (by omega)
  have m3 := Qm.mul_200 (a := 2 * px - 2 * x - 1) (b := 2 * qx - 2 * x - 1) (by omega) (by omega) (by omega) (by omega)
  have m4 := Qm.mul_200 (a := 2 * py - 2 * y - 1) (b := 2 * qy - 2 * y - 1) (by omega) (by omega) (by omega) (by omega)
  have C := hid (show Qm.crZ (px, py) (qx, qy) x y = (2 * px - 2 * x - 1) * (2 * qy - 2 * y - 1) - (2 * py - 2 * y - 1) * (2 * qx - 2 * x - 1) by unfold Qm.crZ; simp only; rw [show 2 * (px - x) - 1 = 2 * px - 2 * x - 1 from by omega, show 2 * (qy - y) - 1 = 2 * qy - 2 * y - 1 from by omega, show 2 * (py - y) - 1 = 2 * py - 2 * y - 1 from by omega, show 2 * (qx - x) - 1 = 2 * qx - 2 * x - 1 from by omega])
  have D := hid (show Qm.dtZ (px, py) (qx, qy) x y = (2 * px - 2 * x - 1) * (2 * qx - 2 * x - 1) + (2 * py - 2 * y - 1) * (2 * qy - 2 * y - 1) by unfold Qm.dtZ; simp only; rw [show 2 * (px - x) - 1 = 2 * px - 2 * x - 1 from by omega, show 2 * (qy - y) - 1 = 2 * qy - 2 * y - 1 from by omega, show 2 * (py - y) - 1 = 2 * py - 2 * y - 1 from by omega, show 2 * (qx - x) - 1 = 2 * qx - 2 * x - 1 from by omega])
  obtain ⟨u, hu⟩ : ∃ u, (2 * px - 2 * x - 1) * (2 * qy - 2 * y - 1) = u := ⟨_, rfl⟩
  obtain ⟨v, hv⟩ : ∃ v, (2 * py - 2 * y - 1) * (2 * qx - 2 * x - 1) = v := ⟨_, rfl⟩
  obtain ⟨s, hs⟩ : ∃ s, (2 * px - 2 * x - 1) * (2 * qx - 2 * x - 1) = s := ⟨_, rfl⟩
  obtain ⟨t, ht⟩ : ∃ t, (2 * py - 2 * y - 1) * (2 * qy - 2 * y - 1) = t := ⟨_, rfl⟩
  rw [hu] at m1 C
  rw [hv] at m2 C
  rw [hs] at m3 D
  rw [ht] at m4 D
  rw [C.out, D.out] at T
  obtain ⟨r, hr⟩ : ∃ r, Qm.thR (px, py) (qx, qy) x y = r := ⟨_, rfl⟩
  rw [hr] at T ⊢
  clear C D hr
  by_cases h1 : u = v
  · subst h1
    by_cases h2 : s + t ≤ 0
    · have R := hid (show r = true from T.out.2 ⟨by omega, h2⟩)
      have b2 : decide (s + t ≤ 0) = true := by simpa using h2
      go_enter Try.func42, Try.ntmps42
      go_wp2
      go_ret
      exact ⟨ret_bool R.out.symm, by go_grown⟩
    · have R := hid (show r = false by cases hr : r with | false => rfl | true => exact absurd (T.out.1 hr).2 h2)
      have b2 : decide (s + t ≤ 0) = false := by simpa using h2
      go_enter Try.func42, Try.ntmps42
      go_wp2
      go_ret
      exact ⟨ret_bool R.out.symm, by go_grown⟩
  · have R := hid (show r = false by cases hr : r with | false => rfl | true => exact absurd (T.out.1 hr).1 (by omega))
    have b1 : (u == v) = false := by simpa using h1
    go_enter Try.func42, Try.ntmps42
    go_wp2
    go_ret
    exact ⟨ret_bool R.out.symm, by go_grown⟩
end Go.Proofs.Ytgapfjjdccohkaa
