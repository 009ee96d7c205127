import Derived.Test.YtgapfjjdccohkaaJcounted15
import Derived.Test.YtgapfjjdccohkaaJcounted07
import Derived.Test.YtgapfjjdccohkaaJcounted01

/- outlinekeep: fits. -/
namespace Go.Proofs.Ytgapfjjdccohkaa
open Go.RowKit

namespace Qm
/-- What fits answers. -/
def kfB (l : List Pt) : Bool := decide (l.length ≤ 13) && fitB l
theorem kf_no {l : List Pt} {x y : Int} (h0 : 0 < l.length) (h : okAt l x y = false) : fitB l = false := by
  cases e : fitB l with
  | false => rfl
  | true => rw [(fit_all h0).1 e x y] at h; simp at h
end Qm

/-- Two points of a list, where they stand. -/
def Two (g i j : Nat) (p q : Int × Int) (w : World) : Prop := w.cell? ⟨g, i, none⟩ = some (.int .i64 p.1) ∧ w.cell? ⟨g, i + 1, none⟩ = some (.int .i64 p.2) ∧ w.cell? ⟨g, j, none⟩ = some (.int .i64 q.1) ∧ w.cell? ⟨g, j + 1, none⟩ = some (.int .i64 q.2)
theorem PtsO.two {g o : Nat} {l : List (Int × Int)} {w : World} (h : PtsO g o l w) {i j : Nat} (hi : i < l.length) (hj : j < l.length) : Two g (o + i * 2) (o + j * 2) (l.getD i (0, 0)) (l.getD j (0, 0)) w := ⟨(h.2 i hi).1, (h.2 i hi).2, (h.2 j hj).1, (h.2 j hj).2⟩
theorem Two.on {g i j : Nat} {p q : Int × Int} {w w' : World} {B : Nat} (h : Two g i j p q w) (hb : Below B w w') (hg : g < B) : Two g i j p q w' :=
  ⟨(hb.cell (p := ⟨g, i, none⟩) hg).trans h.1, (hb.cell (p := ⟨g, i + 1, none⟩) hg).trans h.2.1, (hb.cell (p := ⟨g, j, none⟩) hg).trans h.2.2.1, (hb.cell (p := ⟨g, j + 1, none⟩) hg).trans h.2.2.2⟩

set_option maxRecDepth 4000 in
set_option maxHeartbeats 4000000 in
theorem keepFits_any (g o n cap : Nat) (l : List (Int × Int)) (hn : n = l.length) (h0 : 2 ≤ n) (hs : Qm.Small l) (hn2 : n ≤ 4357) (hu : Qm.Unit l) (w : World) (hP : PtsO g o l w) :
    Calls Try.prog 27 #[.slice (some ⟨g, o, none⟩) n cap] w fun e w' => e = .returned (.bool (Qm.kfB l)) ∧ Below w.heap.size w w' := by
  have HP := hid hP
  have hg := hP.1
  have HN := hid hn
  have KF := hid (show Qm.kfB l = (decide (n ≤ 13) && Qm.fitB l) by rw [hn]; rfl)
  have F2 := hid (fun h => Qm.fit_two hu h)
  have FT := hid (show n ≤ 13 → (∀ x y, (l.getD 0 (0, 0)).1 - 12 ≤ x → x < (l.getD 0 (0, 0)).1 + 12 → (l.getD 0 (0, 0)).2 - 12 ≤ y → y < (l.getD 0 (0, 0)).2 + 12 → Qm.okAt l x y = true) → Qm.fitB l = true from fun h13 h => hu.fit_near (by omega) (by omega) h)
  have FF := hid (fun x y => Qm.kf_no (l := l) (x := x) (y := y) (by omega))
  have OK := hid (fun x y => show Qm.okAt l x y = (!Qm.thB (l.getD (n - 1) (0, 0)) (l.getD 0 (0, 0)) x y && decide (Qm.wsum l x y n = 0)) by rw [hn]; rfl)
  have W1 := hid (fun x y => show Qm.wsum l x y 1 = Qm.wdZ (l.getD (n - 1) (0, 0)) (l.getD 0 (0, 0)) x y by
    show 0 + Qm.wdZ (Qm.pr l 0) (l.getD 0 (0, 0)) x y = _
    rw [Qm.pr_zero l (by omega), hn]; omega)
  have WS := hid (fun x y k (hk : k + 1 < n) => show Qm.wsum l x y (k + 2) = Qm.wsum l x y (k + 1) + Qm.wdZ (l.getD k (0, 0)) (l.getD (k + 1) (0, 0)) x y by
    show Qm.wsum l x y (k + 1) + Qm.wdZ (Qm.pr l (k + 1)) (l.getD (k + 1) (0, 0)) x y = _
    rw [Qm.pr_succ l k (by omega)])
  have WI := hid (fun x y k => Qm.wsum_in l x y k)
  have HS := hid hs
  obtain ⟨q0, q1⟩ := hP.2 0 (by omega)
  simp only [Nat.zero_mul, Nat.add_zero] at q0 q1
  have s0 := hs.at 0
  obtain ⟨n1, hn1⟩ : ∃ n1, n = n1 + 1 := ⟨n - 1, by omega⟩
  subst hn1
  simp only [Nat.add_sub_cancel] at OK W1
  clear hP hn hs hu
  by_cases h2 : n1 = 1
  · subst h2
    have K := hid (show Qm.kfB l = true by rw [KF.out, F2.out HN.out.symm]; rfl)
    go_enter Try.func27, Try.ntmps27
    go_wp2
    go_ret
    exact ⟨ret_bool K.out.symm, Below.refl _ _⟩
  · have e1 : ((n1 : Int) == 1) = false := by simp; omega
    have e1' : (n1 == 1) = false := by simp; omega
    by_cases h13 : 12 < n1
    · have K := hid (show Qm.kfB l = false by rw [KF.out, decide_eq_false (by omega)]; rfl)
      go_enter Try.func27, Try.ntmps27
      go_wp2
      go_ret
      exact ⟨ret_bool K.out.symm, Below.refl _ _⟩
    · have KE := hid (show Qm.kfB l = Qm.fitB l by rw [KF.out, decide_eq_true (by omega)]; rfl)
      have TWO := hid (show ∀ W', Below w.heap.size w W' → Two g (o + n1 * 2) o (l.getD n1 (0, 0)) (l.getD 0 (0, 0)) W' from fun W' h => by
        have := (HP.out.on h hg).two (i := n1) (j := 0) (by have := HN.out; omega) (by have := HN.out; omega)
        simpa using this)
      have SA := hid (small_in HS.out n1)
      have SB := hid (small_in HS.out 0)
      obtain ⟨⟨za, zb⟩, hzz⟩ : ∃ p, p = l.getD n1 (0, 0) := ⟨_, rfl⟩
      obtain ⟨⟨fa, fb⟩, hff⟩ : ∃ p, p = l.getD 0 (0, 0) := ⟨_, rfl⟩
      rw [← hff] at q0 q1 s0 FT OK W1 TWO SB
      rw [← hzz] at OK W1 TWO SA
      dsimp only at q0 q1 s0 FT
      have WL := hid (fun x y (a : -32 ≤ x) (b : x ≤ 64) (c : -32 ≤ y) (d : y ≤ 64) W' => wind_any (za, zb) (fa, fb) x y SA.out SB.out a b c d W')
      have TL := hid (fun x y (a : -32 ≤ x) (b : x ≤ 64) (c : -32 ≤ y) (d : y ≤ 64) W' => keepThrough_any (za, zb) (fa, fb) x y SA.out SB.out a b c d W')
      dsimp only at WL TL
      clear hff hzz SA SB
      go_enter Try.func27, Try.ntmps27
      go_wp2_with fail
      go_loopw [4] (fun yv wr => ∃ y : Int, yv = .int .i64 y ∧ fb - 12 ≤ y ∧ y ≤ fb + 12 ∧ Hid (∀ x' y', fa - 12 ≤ x' → x' < fa + 12 → fb - 12 ≤ y' → y' < y → Qm.okAt l x' y' = true) ∧ Hid (Below w.heap.size w wr)) (fun y _ => (fb + 12 - intOf y).toNat)
      case atStart => exact ⟨fb - 12, rfl, by omega, by omega, fun _ _ _ _ _ _ => by omega, Below.refl _ _⟩
      case round =>
        obtain ⟨y, rfl, hy0, hy1, hok, hB⟩ := hrel
        have r0 := (hB.out.cell (p := ⟨g, o, none⟩) hg).trans q0
        have r1 := (hB.out.cell (p := ⟨g, o + 1, none⟩) hg).trans q1
        by_cases hlt : y < fb + 12
        · go_wp2_with fail
          clear r0 r1
          go_loopw [5] (fun xv wr => ∃ x : Int, xv = .int .i64 x ∧ fa - 12 ≤ x ∧ x ≤ fa + 12 ∧ Hid (∀ x', fa - 12 ≤ x' → x' < x → Qm.okAt l x' y = true) ∧ Hid (Below w.heap.size w wr)) (fun x _ => (fa + 12 - intOf x).toNat)
          case atStart => exact ⟨fa - 12, rfl, by omega, by omega, fun _ _ _ => by omega, hB⟩
          case round =>
            clear hB
            obtain ⟨x, rfl, hx0, hx1, hokx, hB⟩ := hrel
            have r0 := (hB.out.cell (p := ⟨g, o, none⟩) hg).trans q0
            have r1 := (hB.out.cell (p := ⟨g, o + 1, none⟩) hg).trans q1
            by_cases hlx : x < fa + 12
            · have wl := WL.out x y (by omega) (by omega) (by omega) (by omega)
              have tl := TL.out x y (by omega) (by omega) (by omega) (by omega)
              have ok := hid (OK.out x y)
              have w1 := hid (W1.out x y)
              have ws := hid (fun k hk => WS.out x y k hk)
              have wi := hid (fun k => WI.out x y k)
              have FX := hid (show Qm.okAt l x y = false → Qm.fitB l = false from FF.out x y)
              have WX := hid (fun p q (hp : PtIn p) (hq : PtIn q) W' => wind_any p q x y hp hq (by omega) (by omega) (by omega) (by omega) W')
              obtain ⟨th, hth⟩ : ∃ th, Qm.thB (za, zb) (fa, fb) x y = th := ⟨_, rfl⟩
              rw [hth] at tl ok
              have TLX := hid tl
              obtain ⟨wz, hwz⟩ : ∃ wz, Qm.wdZ (za, zb) (fa, fb) x y = wz := ⟨_, rfl⟩
              rw [hwz] at wl w1
              have WLX := hid wl
              have D1 := hid (show Below w.heap.size w wr.drew from hB.out.trans ⟨rfl, rfl, rfl, Nat.le_refl _, fun _ _ => rfl⟩)
              have S0 := hid (TWO.out _ D1.out)
              have T0 := TWO.out _ hB.out
              obtain ⟨t0, t1, t2, t3⟩ := T0
              dsimp only at t0 t1 t2 t3
              have gd : g < wr.drew.heap.size := Nat.lt_of_lt_of_le hg D1.out.size
              have b1 : (0 : Int) ≤ (n1 : Nat) := by omega
              have b2 : ((n1 : Nat) : Int) < (n1 : Int) + 1 := by omega
              clear wl tl hth hwz
              go_wp2_with fail
              go_region_held3 (fun w' => w'.cell? ⟨g, o + n1 * 2, none⟩ = some (.int .i64 za) ∧ w'.cell? ⟨g, o + n1 * 2 + 1, none⟩ = some (.int .i64 zb) ∧ w'.cell? ⟨g, o, none⟩ = some (.int .i64 fa) ∧ w'.cell? ⟨g, o + 1, none⟩ = some (.int .i64 fb))
                (first | exact S0.out | exact (by assumption : _ ∧ _ ∧ _ ∧ _))
                (first | (go_at_call 41; refine (WLX.out _).mono ?_; rintro e w2 ⟨rfl, hb2⟩; have hS2 : w2.cell? ⟨g, o + n1 * 2, none⟩ = some (.int .i64 za) ∧ w2.cell? ⟨g, o + n1 * 2 + 1, none⟩ = some (.int .i64 zb) ∧ w2.cell? ⟨g, o, none⟩ = some (.int .i64 fa) ∧ w2.cell? ⟨g, o + 1, none⟩ = some (.int .i64 fb) := S0.out.on hb2 gd; have B2 := hid (show Below w.heap.size w w2 from D1.out.trans (hb2.mono D1.out.size)); clear hb2))
              clear t0 t1 t2 t3 r0 r1 hS2 S0 D1 gd
              have wi1 := wi.out 1
              rw [w1.out] at wi1
              go_wp2_with fail
              go_loopw [6, 7] (fun sv kv wr => ∃ k : Nat, k ≤ n1 ∧ kv = .int .i64 k ∧ sv = .int .i64 (Qm.wsum l x y (k + 1)) ∧ Hid (Below w.heap.size w wr)) (fun _ k _ => n1 - (intOf k).toNat)
              case atStart => exact ⟨0, by omega, rfl, by rw [w1.out], B2⟩
              case round =>
                clear hB B2
                obtain ⟨k, hk, rfl, rfl, hB⟩ := hrel
                have wik := wi.out (k + 1)
                by_cases hkn : k < n1
                · have TW := hid (show ∀ W', Below w.heap.size w W' → Two g (o + k * 2) (o + (k + 1) * 2) (l.getD k (0, 0)) (l.getD (k + 1) (0, 0)) W' from fun W' h => (HP.out.on h hg).two (by have := HN.out; omega) (by have := HN.out; omega))
                  have wd := hid (ws.out k (by omega))
                  have wn := wi.out (k + 2)
                  have WK := hid (WX.out (l.getD k (0, 0)) (l.getD (k + 1) (0, 0)) (small_in HS.out _) (small_in HS.out _))
                  obtain ⟨⟨pa, pb⟩, hpp⟩ : ∃ p, p = l.getD k (0, 0) := ⟨_, rfl⟩
                  obtain ⟨⟨qa, qb⟩, hqq⟩ : ∃ p, p = l.getD (k + 1) (0, 0) := ⟨_, rfl⟩
                  rw [← hpp, ← hqq] at TW wd WK
                  dsimp only at WK
                  obtain ⟨z, hz⟩ : ∃ z, Qm.wdZ (pa, pb) (qa, qb) x y = z := ⟨_, rfl⟩
                  rw [hz] at wd WK
                  rw [wd.out] at wn
                  obtain ⟨sk, hsk⟩ : ∃ sk, sk = Qm.wsum l x y (k + 1) := ⟨_, rfl⟩
                  rw [← hsk] at wd wn wik ⊢
                  have D1 := hid (show Below w.heap.size w wr.drew from hB.out.trans ⟨rfl, rfl, rfl, Nat.le_refl _, fun _ _ => rfl⟩)
                  have S0 := hid (TW.out _ D1.out)
                  obtain ⟨t0, t1, t2, t3⟩ := TW.out _ hB.out
                  dsimp only at t0 t1 t2 t3
                  have gd : g < wr.drew.heap.size := Nat.lt_of_lt_of_le hg D1.out.size
                  have k1 : (0 : Int) ≤ (k : Nat) := by omega
                  have k2 : ((k : Nat) : Int) < (n1 : Int) + 1 := by omega
                  have k3 : (0 : Int) ≤ (k : Int) + 1 := by omega
                  have k4 : (k : Int) + 1 < (n1 : Int) + 1 := by omega
                  have k5 : IntKind.i64.wrap ((k : Int) + 1) = (k : Int) + 1 := by rw [IntKind.wrap_i64]; omega
                  clear hpp hqq hz hsk
                  go_wp2_with fail
                  go_region_held3 (fun w' => w'.cell? ⟨g, o + k * 2, none⟩ = some (.int .i64 pa) ∧ w'.cell? ⟨g, o + k * 2 + 1, none⟩ = some (.int .i64 pb) ∧ w'.cell? ⟨g, o + (k + 1) * 2, none⟩ = some (.int .i64 qa) ∧ w'.cell? ⟨g, o + (k + 1) * 2 + 1, none⟩ = some (.int .i64 qb))
                    (first | exact S0.out | exact (by assumption : _ ∧ _ ∧ _ ∧ _))
                    (first | (go_at_call 41; refine (WK.out _).mono ?_; rintro e w2 ⟨rfl, hb2⟩; have hS2 : w2.cell? ⟨g, o + k * 2, none⟩ = some (.int .i64 pa) ∧ w2.cell? ⟨g, o + k * 2 + 1, none⟩ = some (.int .i64 pb) ∧ w2.cell? ⟨g, o + (k + 1) * 2, none⟩ = some (.int .i64 qa) ∧ w2.cell? ⟨g, o + (k + 1) * 2 + 1, none⟩ = some (.int .i64 qb) := S0.out.on hb2 gd; have B2 := hid (show Below w.heap.size w w2 from D1.out.trans (hb2.mono D1.out.size)); clear hb2))
                  clear t0 t1 t2 t3 hS2 S0 D1 gd k5
                  go_wp2
                  go_roundw
                  case rel => exact ⟨k + 1, by omega, by go_num, by rw [wd.out], B2⟩
                  case measure => simp [intOf]; omega
                · have ek : k = n1 := by omega
                  subst ek
                  obtain ⟨sk, hsk⟩ : ∃ sk, sk = Qm.wsum l x y (k + 1) := ⟨_, rfl⟩
                  rw [← hsk] at ok wik ⊢
                  have D1 := hid (show Below w.heap.size w wr.drew from hB.out.trans ⟨rfl, rfl, rfl, Nat.le_refl _, fun _ _ => rfl⟩)
                  have S0 := hid (TWO.out _ D1.out)
                  obtain ⟨t0, t1, t2, t3⟩ := TWO.out _ hB.out
                  dsimp only at t0 t1 t2 t3
                  have gd : g < wr.drew.heap.size := Nat.lt_of_lt_of_le hg D1.out.size
                  have hkk : ¬ (k : Int) < (k : Nat) := by omega
                  clear hsk
                  go_wp2_with fail
                  go_region_held3 (fun w' => w'.cell? ⟨g, o + k * 2, none⟩ = some (.int .i64 za) ∧ w'.cell? ⟨g, o + k * 2 + 1, none⟩ = some (.int .i64 zb) ∧ w'.cell? ⟨g, o, none⟩ = some (.int .i64 fa) ∧ w'.cell? ⟨g, o + 1, none⟩ = some (.int .i64 fb))
                    (first | exact S0.out | exact (by assumption : _ ∧ _ ∧ _ ∧ _))
                    (first | (go_at_call 42; refine (TLX.out _).mono ?_; rintro e w2 ⟨rfl, hb2⟩; have hS2 : w2.cell? ⟨g, o + k * 2, none⟩ = some (.int .i64 za) ∧ w2.cell? ⟨g, o + k * 2 + 1, none⟩ = some (.int .i64 zb) ∧ w2.cell? ⟨g, o, none⟩ = some (.int .i64 fa) ∧ w2.cell? ⟨g, o + 1, none⟩ = some (.int .i64 fb) := S0.out.on hb2 gd; have B2 := hid (show Below w.heap.size w w2 from D1.out.trans (hb2.mono D1.out.size)); clear hb2))
                  clear t0 t1 t2 t3 hS2 S0 D1 gd
                  by_cases hs0 : sk = 0
                  · subst hs0
                    cases th
                    · have okt := hid (show Qm.okAt l x y = true by rw [ok.out]; rfl)
                      go_wp2
                      go_roundw
                      case rel =>
                        refine ⟨x + 1, by go_num, by omega, by omega, fun x' h1 h2 => ?_, B2⟩
                        rcases Int.lt_or_le x' x with h3 | h3
                        · exact hokx.out x' h1 h3
                        · rw [show x' = x from by omega]; exact okt.out
                      case measure => simp [intOf]; omega
                    · have FO := hid (show Qm.kfB l = false by rw [KE.out]; exact FX.out (by rw [ok.out]; rfl))
                      go_wp2
                      go_ret
                      exact ⟨ret_bool FO.out.symm, B2.out⟩
                  · have d0 : (sk == 0) = false := by simpa using hs0
                    have FO := hid (show Qm.kfB l = false by rw [KE.out]; exact FX.out (by rw [ok.out, decide_eq_false hs0]; simp))
                    go_wp2
                    go_ret
                    exact ⟨ret_bool FO.out.symm, B2.out⟩
            · go_wp2
              go_roundw
              case rel =>
                refine ⟨y + 1, by go_num, by omega, by omega, fun x' y' h1 h2 h3 h4 => ?_, hB⟩
                rcases Int.lt_or_le y' y with h5 | h5
                · exact hok.out x' y' h1 h2 h3 h5
                · rw [show y' = y from by omega]; exact hokx.out x' h1 (by omega)
              case measure => simp [intOf]; omega
        · have FO := hid (show Qm.kfB l = true by rw [KE.out]; exact FT.out (by omega) fun x y a b c d => hok.out x y a b c (by omega))
          go_wp2
          go_ret
          exact ⟨ret_bool FO.out.symm, hB.out⟩
end Go.Proofs.Ytgapfjjdccohkaa

/- outlineref: Cost, better. -/
namespace Go.Proofs.Ytgapfjjdccohkaa
open Go.RowKit

set_option maxRecDepth 4000 in
set_option maxHeartbeats 2000000 in
theorem refCost_any (g o n cap : Nat) (l : List (Int × Int)) (hn : n = l.length) (h0 : 0 < n) (hs : Qm.Small l) (hn2 : n ≤ 4357) (w : World) (hP : PtsO g o l w) :
    Calls Try.prog 73 #[.slice (some ⟨g, o, none⟩) n cap] w fun e w' => e = .returned (.int .i64 (Qm.costOf l)) ∧ Below w.heap.size w w' := by
  have HP := hid hP
  have hg := hP.1
  have HN := hid hn
  obtain ⟨q0, q1⟩ := hP.2 0 (by omega)
  obtain ⟨t0, t1⟩ := hP.2 (n - 1) (by omega)
  simp only [Nat.zero_mul, Nat.add_zero] at q0 q1
  have sa := hs.at 0
  have sz := hs.at (n - 1)
  have EC := hid (show Qm.costOf l = Qm.costTo (l.getD 0 (0, 0)) (l.getD (n - 1) (0, 0)) l n by rw [hn]; rfl)
  have CI := hid (fun k => Qm.costTo_in hs (l.getD 0 (0, 0)) (l.getD (n - 1) (0, 0)) sa sz k)
  have CS := hid (fun k => show Qm.costTo (l.getD 0 (0, 0)) (l.getD (n - 1) (0, 0)) l (k + 1) = Qm.costTo (l.getD 0 (0, 0)) (l.getD (n - 1) (0, 0)) l k + Qm.absZ (Qm.offZ (l.getD 0 (0, 0)) (l.getD (n - 1) (0, 0)) (l.getD k (0, 0))) from rfl)
  have C0 := hid (show Qm.costTo (l.getD 0 (0, 0)) (l.getD (n - 1) (0, 0)) l 0 = 0 from rfl)
  obtain ⟨n1, hn1⟩ : ∃ n1, n = n1 + 1 := ⟨n - 1, by omega⟩
  subst hn1
  simp only [Nat.add_sub_cancel] at t0 t1 sz EC CI CS C0
  obtain ⟨⟨fa, fb⟩, hff⟩ : ∃ p, p = l.getD 0 (0, 0) := ⟨_, rfl⟩
  obtain ⟨⟨za, zb⟩, hzz⟩ : ∃ p, p = l.getD n1 (0, 0) := ⟨_, rfl⟩
  rw [← hff] at q0 q1 sa EC CI CS C0
  rw [← hzz] at t0 t1 sz EC CI CS C0
  dsimp only at q0 q1 t0 t1 sa sz
  have e0 : ((n1 : Int) + 1 == 0) = false := by simp; omega
  have hg2 : g < w.heap.size + 1 := by omega
  have hg3 : g < w.heap.size + 1 + 1 := by omega
  clear hP hn hff hzz
  go_enter Try.func73, Try.ntmps73
  go_wp2_with fail
  go_loopw [5, 6] (fun sm iv wr => ∃ k : Nat, k ≤ n1 + 1 ∧ iv = .int .i64 k ∧ sm = .int .i64 (Qm.costTo (fa, fb) (za, zb) l k) ∧ BoxP w.heap.size (fa, fb) wr ∧ BoxP (w.heap.size + 1) (za, zb) wr ∧ Below w.heap.size w wr) (fun _ i _ => n1 + 1 - (intOf i).toNat)
  case atStart => exact ⟨0, by omega, rfl, by rw [C0.out], (BoxP.new _ rfl).alloc _, BoxP.new _ (by simp), by go_grown⟩
  case round =>
    clear q0 q1 t0 t1
    obtain ⟨k, hk, rfl, rfl, x0, x1, hb⟩ := hrel
    have HB := hid hb
    have X0 := hid x0
    have X1 := hid x1
    have ci := CI.out k
    by_cases hlt : k < n1 + 1
    · obtain ⟨r0, r1⟩ := (HP.out.on hb hg).2 k (by have := HN.out; omega)
      have hlt' : (k : Int) < (n1 : Int) + 1 := by omega
      have hk0 : (0 : Int) ≤ (k : Nat) := by omega
      have hgr : g < wr.heap.size := Nat.lt_of_lt_of_le hg hb.size
      have sp := hs.at k
      have cs := hid (CS.out k)
      obtain ⟨⟨pa, pb⟩, hpp⟩ : ∃ p, p = l.getD k (0, 0) := ⟨_, rfl⟩
      rw [← hpp] at r0 r1 sp cs
      dsimp only at r0 r1 sp
      have m1 := Qm.mul_in (a := za - fa) (b := pb - fb) (by omega) (by omega) (by omega) (by omega)
      have m2 := Qm.mul_in (a := zb - fb) (b := pa - fa) (by omega) (by omega) (by omega) (by omega)
      have EO := hid (show Qm.offZ (fa, fb) (za, zb) (pa, pb) = (za - fa) * (pb - fb) - (zb - fb) * (pa - fa) from rfl)
      obtain ⟨u, hu⟩ : ∃ u, (za - fa) * (pb - fb) = u := ⟨_, rfl⟩
      obtain ⟨v, hv⟩ : ∃ v, (zb - fb) * (pa - fa) = v := ⟨_, rfl⟩
      rw [hu] at m1 EO
      rw [hv] at m2 EO
      rw [EO.out] at cs
      obtain ⟨y0, y1, y2, y3, yz⟩ := x0
      obtain ⟨z0, z1, z2, z3, zz⟩ := x1
      dsimp only at y0 y1 z0 z1
      obtain ⟨ct, hct⟩ : ∃ ct, ct = Qm.costTo (fa, fb) (za, zb) l k := ⟨_, rfl⟩
      rw [← hct] at ci cs ⊢
      clear hb hpp hct
      by_cases hneg : u - v < 0
      · have AZ := hid (show Qm.absZ (u - v) = -(u - v) from if_pos hneg)
        rw [AZ.out] at cs
        go_wp2_with fail
        go_quiet (fail)
        go_wp2
        go_roundw
        case rel => exact ⟨k + 1, by omega, by go_num, by rw [cs.out], X0.out.on (B' := wr.heap.size) ⟨rfl, rfl, rfl, Nat.le_refl _, fun _ _ => rfl⟩ yz, X1.out.on (B' := wr.heap.size) ⟨rfl, rfl, rfl, Nat.le_refl _, fun _ _ => rfl⟩ zz, HB.out.trans ⟨rfl, rfl, rfl, Nat.le_refl _, fun _ _ => rfl⟩⟩
        case measure => simp [intOf]; omega
      · have AZ := hid (show Qm.absZ (u - v) = u - v from if_neg hneg)
        rw [AZ.out] at cs
        go_wp2_with fail
        go_quiet (fail)
        go_wp2
        go_roundw
        case rel => exact ⟨k + 1, by omega, by go_num, by rw [cs.out], X0.out.on (B' := wr.heap.size) ⟨rfl, rfl, rfl, Nat.le_refl _, fun _ _ => rfl⟩ yz, X1.out.on (B' := wr.heap.size) ⟨rfl, rfl, rfl, Nat.le_refl _, fun _ _ => rfl⟩ zz, HB.out.trans ⟨rfl, rfl, rfl, Nat.le_refl _, fun _ _ => rfl⟩⟩
        case measure => simp [intOf]; omega
    · have ek : k = n1 + 1 := by omega
      subst ek
      go_wp2
      go_ret
      exact ⟨ret_int EC.out.symm, HB.out⟩

/-- Numbers, in a list. -/
def NumsAt (g : Nat) (l : List Nat) (w : World) : Prop := g < w.heap.size ∧ ∀ j, j < l.length → w.cell? ⟨g, j, none⟩ = some (.int .i64 ((l.getD j 0 : Nat) : Int))
theorem NumsAt.on {g : Nat} {l : List Nat} {w w' : World} {B : Nat} (h : NumsAt g l w) (hb : Below B w w') (hg : g < B) : NumsAt g l w' :=
  ⟨Nat.lt_of_lt_of_le h.1 hb.size, fun j hj => (hb.cell (p := ⟨g, j, none⟩) hg).trans (h.2 j hj)⟩

theorem lexltB_drop {a b : List Nat} {k : Nat} (ha : k < a.length) (hb : k < b.length) : Qm.lexltB (a.drop k) (b.drop k) = if a.getD k 0 = b.getD k 0 then Qm.lexltB (a.drop (k + 1)) (b.drop (k + 1)) else decide (a.getD k 0 < b.getD k 0) := by
  rw [List.drop_eq_getElem_cons ha, List.drop_eq_getElem_cons hb, Qm.lexltB]
  simp [List.getD_eq_getElem?_getD, ha, hb]

set_option maxRecDepth 4000 in
set_option maxHeartbeats 2000000 in
theorem better_any (ga na ca gb nb cb : Nat) (a b : List Nat) (xa xb : Int) (hna : na = a.length) (hnb : nb = b.length) (la : na ≤ 100000) (lb : nb ≤ 100000) (ao : Option Addr) (w : World) (hA : NumsAt ga a w) (hB : nb = 0 ∨ (ao = some ⟨gb, 0, none⟩ ∧ NumsAt gb b w)) :
    Calls Try.prog 74 #[.agg #[.slice (some ⟨ga, 0, none⟩) na ca, .int .i64 xa], .agg #[.slice ao nb cb, .int .i64 xb]] w fun e w' => e = .returned (.bool (Qm.bettB a xa b xb)) ∧ Below w.heap.size w w' := by
  have HA := hid hA
  have HB0 := hid hB
  have BT := hid (show Qm.bettB a xa b xb = if nb = 0 then true else if na = nb then (if xa = xb then Qm.lexltB a b else decide (xa < xb)) else decide (na < nb) by rw [hna, hnb]; rfl)
  have HNA := hid hna
  have HNB := hid hnb
  have hga := hA.1
  clear hA hB hna hnb
  by_cases h1 : nb = 0
  · rw [if_pos h1] at BT
    subst h1
    go_enter Try.func74, Try.ntmps74
    go_wp2
    go_ret
    exact ⟨ret_bool BT.out.symm, by go_grown⟩
  · obtain ⟨rfl, hB⟩ := HB0.out.resolve_left h1
    rw [if_neg h1] at BT
    have HB := hid hB
    have hgb := hB.1
    have e1 : ((nb : Int) == 0) = false := by simp; omega
    clear hB
    by_cases h2 : na = nb
    · rw [if_pos h2] at BT
      subst h2
      by_cases h3 : xa = xb
      · rw [if_pos h3] at BT
        subst h3
        go_enter Try.func74, Try.ntmps74
        go_wp2_with fail
        go_loopw [5] (fun iv wr => ∃ k : Nat, k ≤ na ∧ iv = .int .i64 k ∧ Qm.lexltB a b = Qm.lexltB (a.drop k) (b.drop k) ∧ (wr.cell? ⟨w.heap.size, 0, none⟩ = some (.slice (some ⟨ga, 0, none⟩) na ca) ∧ wr.cell? ⟨w.heap.size + 1, 0, none⟩ = some (.slice (some ⟨gb, 0, none⟩) na cb) ∧ w.heap.size + 1 < wr.heap.size) ∧ Below w.heap.size w wr) (fun i _ => na - (intOf i).toNat)
        case atStart => exact ⟨0, by omega, rfl, rfl, ⟨by simp, by simp, by simp⟩, by go_grown⟩
        case round =>
          obtain ⟨k, hk, rfl, hlx, ⟨c0, c1, cz⟩, hb⟩ := hrel
          have HBW := hid hb
          have LX := hid hlx
          clear hlx
          by_cases hlt : k < na
          · have ra := (HA.out.on hb hga).2 k (by have := HNA.out; omega)
            have rb := (HB.out.on hb hgb).2 k (by have := HNB.out; omega)
            have LD := hid (lexltB_drop (a := a) (b := b) (k := k) (by rw [← HNA.out]; exact hlt) (by rw [← HNB.out]; exact hlt))
            have hk0 : (0 : Int) ≤ (k : Nat) := by omega
            have hk1 : ((k : Nat) : Int) < (na : Nat) := by omega
            obtain ⟨u, hu⟩ : ∃ u, u = a.getD k 0 := ⟨_, rfl⟩
            obtain ⟨v, hv⟩ : ∃ v, v = b.getD k 0 := ⟨_, rfl⟩
            rw [← hu] at ra LD
            rw [← hv] at rb LD
            have g1 : ga < wr.heap.size := by omega
            have g2 : gb < wr.heap.size := by omega
            clear hu hv hb
            by_cases huv : u = v
            · subst huv
              rw [if_pos rfl] at LD
              go_wp2_with fail
              go_quiet (fail)
              go_wp2
              go_roundw
              case rel => exact ⟨k + 1, by omega, by go_num, LX.out.trans LD.out, ⟨c0, c1, cz⟩, HBW.out.trans ⟨rfl, rfl, rfl, Nat.le_refl _, fun _ _ => rfl⟩⟩
              case measure => simp [intOf]; omega
            · rw [if_neg huv] at LD
              have e2 : ((u : Int) == (v : Int)) = false := by simp; omega
              have e3 : (u == v) = false := by simp; omega
              have D := hid (show decide (u < v) = decide ((u : Int) < (v : Int)) by simp)
              go_wp2_with fail
              go_quiet (fail)
              go_wp2_with fail
              go_quiet (fail)
              go_wp2
              go_ret
              exact ⟨ret_bool (by rw [BT.out, LX.out, LD.out]), HBW.out.trans ⟨rfl, rfl, rfl, Nat.le_refl _, fun _ _ => rfl⟩⟩
          · have hk' : ((na : Nat) : Int) ≤ (k : Nat) := by omega
            have LF := hid (show Qm.lexltB a b = false by
              rw [LX.out, List.drop_eq_nil_of_le (show a.length ≤ k by rw [← HNA.out]; omega)]; rfl)
            go_wp2
            go_ret
            exact ⟨ret_bool (by rw [BT.out, LF.out]), HBW.out⟩
      · rw [if_neg h3] at BT
        have e3 : (xa == xb) = false := by simpa using h3
        go_enter Try.func74, Try.ntmps74
        go_wp2
        go_ret
        exact ⟨ret_bool BT.out.symm, by go_grown⟩
    · rw [if_neg h2] at BT
      have e2 : ((na : Int) == (nb : Int)) = false := by simp; omega
      have e3 : (na == nb) = false := by simp; omega
      go_enter Try.func74, Try.ntmps74
      go_wp2
      go_ret
      exact ⟨ret_bool (by rw [BT.out]), by go_grown⟩
end Go.Proofs.Ytgapfjjdccohkaa

/- outlineref: pt, bend, ahead, May. -/
namespace Go.Proofs.Ytgapfjjdccohkaa
open Go.RowKit

set_option maxHeartbeats 400000 in
theorem pt_any (x y : Int) (w : World) :
    Calls Try.prog 68 #[.int .i64 x, .int .i64 y] w fun e w' => e = .returned (.agg #[.int .i64 x, .int .i64 y]) ∧ w' = w.alloc (.cells #[.int .i64 x, .int .i64 y] 47) := by
  go_enter Try.func68, Try.ntmps68
  go_wp2
  refine bodyPost_ret (v := .agg #[.int .i64 x, .int .i64 y]) (by simp [results, Try.results68, go_sem]) rfl ?_
  exact ⟨rfl, rfl⟩

/-- Which way a side turns behind another: by their steps. -/
def stepX : Nat → Int
  | 1 => 1
  | 3 => -1
  | _ => 0
def stepY : Nat → Int
  | 0 => 1
  | 2 => -1
  | _ => 0
def bendD (d e : Nat) : Int := stepX d * stepY e - stepY d * stepX e
theorem en_step (s : Qm.Sd) (h : s.2.2 < 4) : Qm.en s = (s.1 + stepX s.2.2, s.2.1 + stepY s.2.2) := by
  obtain ⟨x, y, d⟩ := s
  match d, h with
  | 0, _ => simp [Qm.en, stepX, stepY]
  | 1, _ => simp [Qm.en, stepX, stepY]
  | 2, _ => simp [Qm.en, stepX, stepY]; omega
  | 3, _ => simp [Qm.en, stepX, stepY]; omega
/-- The cells of a side. -/
def sdV (s : Qm.Sd) : List Value := [.int .i64 s.1, .int .i64 s.2.1, .int .i64 (Qm.en s).1, .int .i64 (Qm.en s).2]

set_option maxHeartbeats 1000000 in
theorem bend_any (x y : Int) (d : Nat) (x' y' : Int) (d' : Nat) (hd : d < 4) (hd' : d' < 4) (w : World) :
    Calls Try.prog 60 #[.agg (sdV (x, y, d)).toArray, .agg (sdV (x', y', d')).toArray] w fun e w' => e = .returned (.int .i64 (bendD d d')) ∧ Below w.heap.size w w' := by
  have b1 : -1 ≤ stepX d ∧ stepX d ≤ 1 := by unfold stepX; split <;> omega
  have b2 : -1 ≤ stepY d ∧ stepY d ≤ 1 := by unfold stepY; split <;> omega
  have b3 : -1 ≤ stepX d' ∧ stepX d' ≤ 1 := by unfold stepX; split <;> omega
  have b4 : -1 ≤ stepY d' ∧ stepY d' ≤ 1 := by unfold stepY; split <;> omega
  have p1 : -1 ≤ stepX d * stepY d' ∧ stepX d * stepY d' ≤ 1 := by unfold stepX stepY; split <;> split <;> omega
  have p2 : -1 ≤ stepY d * stepX d' ∧ stepY d * stepX d' ≤ 1 := by unfold stepX stepY; split <;> split <;> omega
  simp only [sdV, en_step (x, y, d) hd, en_step (x', y', d') hd']
  have hb : Hid (bendD d d' = stepX d * stepY d' - stepY d * stepX d') := rfl
  generalize stepX d = a at *
  generalize stepY d = b at *
  generalize stepX d' = a' at *
  generalize stepY d' = b' at *
  obtain ⟨u, hu⟩ : ∃ u, a * b' = u := ⟨_, rfl⟩
  obtain ⟨v, hv⟩ : ∃ v, b * a' = v := ⟨_, rfl⟩
  rw [hu] at p1
  rw [hv] at p2
  have e1 : x + a - x = a := by omega
  have e2 : y + b - y = b := by omega
  have e3 : x' + a' - x' = a' := by omega
  have e4 : y' + b' - y' = b' := by omega
  go_enter Try.func60, Try.ntmps60
  go_wp2
  go_ret
  exact ⟨ret_int (by rw [hb.out, hu, hv]), by go_grown⟩

/-- Where a point stands, as a number. -/
def keyP (p : Int × Int) : Int := 33 * p.2 + p.1

set_option maxHeartbeats 1000000 in
theorem ahead_any (x y x' y' : Int) (hx : 0 ≤ x ∧ x ≤ 32) (hx' : 0 ≤ x' ∧ x' ≤ 32) (w : World) :
    Calls Try.prog 61 #[.agg #[.int .i64 x, .int .i64 y], .agg #[.int .i64 x', .int .i64 y']] w fun e w' => e = .returned (.bool (decide (keyP (x, y) < keyP (x', y')))) ∧ Below w.heap.size w w' := by
  by_cases h1 : y < y'
  · have E := hid (show decide (keyP (x, y) < keyP (x', y')) = true by unfold keyP; simp; omega)
    go_enter Try.func61, Try.ntmps61
    go_wp2
    go_ret
    exact ⟨ret_bool E.out.symm, by go_grown⟩
  · have d1 : decide (y < y') = false := by simp; omega
    by_cases h2 : y = y'
    · subst h2
      by_cases h3 : x < x'
      · have E := hid (show decide (keyP (x, y) < keyP (x', y)) = true by unfold keyP; simp; omega)
        go_enter Try.func61, Try.ntmps61
        go_wp2
        go_ret
        exact ⟨ret_bool E.out.symm, by go_grown⟩
      · have d3 : decide (x < x') = false := by simp; omega
        have E := hid (show decide (keyP (x, y) < keyP (x', y)) = false by unfold keyP; simp; omega)
        go_enter Try.func61, Try.ntmps61
        go_wp2
        go_ret
        exact ⟨ret_bool E.out.symm, by go_grown⟩
    · have d2 : (y == y') = false := by simp; omega
      have E := hid (show decide (keyP (x, y) < keyP (x', y')) = false by unfold keyP; simp; omega)
      go_enter Try.func61, Try.ntmps61
      go_wp2
      go_ret
      exact ⟨ret_bool E.out.symm, by go_grown⟩

set_option maxHeartbeats 1000000 in
theorem may_any (W H : Int) (s : ByteArray) (pol : Int) (draws : ByteArray) (spk : Int) (w : World) :
    Calls Try.prog 43 #[.agg #[.int .i64 W, .int .i64 H, .string s], .agg #[.int .i64 pol, .string draws, .int .i64 spk]] w fun e w' => e = .returned (.bool (mayB W H s.data.toList pol spk)) ∧ Below w.heap.size w w' := by
  cases hg : Pm.goodB W H s.data.toList
  · have E := hid (show mayB W H s.data.toList pol spk = false by unfold mayB; rw [hg]; simp)
    go_enter Try.func43, Try.ntmps43
    go_wp2_with (go_at_call 56; refine (good_any W H s _).mono ?_; rintro e w' ⟨rfl, rfl⟩; rw [hg])
    go_ret
    exact ⟨ret_bool E.out.symm, by go_grown⟩
  · by_cases p0 : 0 ≤ pol
    · by_cases p1 : pol ≤ 3
      · by_cases s0 : 0 ≤ spk
        · by_cases s1 : spk ≤ 1024
          · have E := hid (mayB_good (W := W) (H := H) (l := s.data.toList) (pol := pol) (spk := spk) (by omega) (by omega))
            go_enter Try.func43, Try.ntmps43
            go_wp2_with (go_at_call 56; refine (good_any W H s _).mono ?_; rintro e w' ⟨rfl, rfl⟩; rw [hg])
            go_ret
            exact ⟨ret_bool (by rw [E.out, hg]), by go_grown⟩
          · have E := hid (mayB_spk (W := W) (H := H) (l := s.data.toList) (pol := pol) (spk := spk) (by omega))
            have dd : decide (spk ≤ 1024) = false := by simp; omega
            go_enter Try.func43, Try.ntmps43
            go_wp2_with (go_at_call 56; refine (good_any W H s _).mono ?_; rintro e w' ⟨rfl, rfl⟩; rw [hg])
            go_ret
            exact ⟨ret_bool E.out.symm, by go_grown⟩
        · have E := hid (mayB_spk (W := W) (H := H) (l := s.data.toList) (pol := pol) (spk := spk) (by omega))
          have dd : decide (0 ≤ spk) = false := by simp; omega
          go_enter Try.func43, Try.ntmps43
          go_wp2_with (go_at_call 56; refine (good_any W H s _).mono ?_; rintro e w' ⟨rfl, rfl⟩; rw [hg])
          go_ret
          exact ⟨ret_bool E.out.symm, by go_grown⟩
      · have E := hid (mayB_pol (W := W) (H := H) (l := s.data.toList) (pol := pol) (spk := spk) (by omega))
        have dd : decide (pol ≤ 3) = false := by simp; omega
        go_enter Try.func43, Try.ntmps43
        go_wp2_with (go_at_call 56; refine (good_any W H s _).mono ?_; rintro e w' ⟨rfl, rfl⟩; rw [hg])
        go_ret
        exact ⟨ret_bool E.out.symm, by go_grown⟩
    · have E := hid (mayB_pol (W := W) (H := H) (l := s.data.toList) (pol := pol) (spk := spk) (by omega))
      have dd : decide (0 ≤ pol) = false := by simp; omega
      go_enter Try.func43, Try.ntmps43
      go_wp2_with (go_at_call 56; refine (good_any W H s _).mono ?_; rintro e w' ⟨rfl, rfl⟩; rw [hg])
      go_ret
      exact ⟨ret_bool E.out.symm, by go_grown⟩
end Go.Proofs.Ytgapfjjdccohkaa
