import Derived.Test.YtljfiefobnncaaaK27
import Derived.Test.YtljfiefobnncaaaK23

/- outlinekeep: fits. -/
namespace Go.Proofs.Ytljfiefobnncaaa
open Go.RowKit

namespace Qm
/-- What fits answers. -/
def kfB (l : List Pt) : Bool := decide (l.length ≤ 13) && fitB l
theorem kf_no {l : List Pt} {x y : Int} (h0 : 0 < l.length) (h : okAt l x y = false) : fitB l = false := by
  cases e : fitB l with
  | false => rfl
  | true => rw [(fit_all h0).1 e x y] at h; simp at h
end Qm

/-- Two points of a list, where they stand. -/
def Two (g i j : Nat) (p q : Int × Int) (w : World) : Prop := w.cell? ⟨g, i, none⟩ = some (.int .i64 p.1) ∧ w.cell? ⟨g, i + 1, none⟩ = some (.int .i64 p.2) ∧ w.cell? ⟨g, j, none⟩ = some (.int .i64 q.1) ∧ w.cell? ⟨g, j + 1, none⟩ = some (.int .i64 q.2)
theorem PtsO.two {g o : Nat} {l : List (Int × Int)} {w : World} (h : PtsO g o l w) {i j : Nat} (hi : i < l.length) (hj : j < l.length) : Two g (o + i * 2) (o + j * 2) (l.getD i (0, 0)) (l.getD j (0, 0)) w := ⟨(h.2 i hi).1, (h.2 i hi).2, (h.2 j hj).1, (h.2 j hj).2⟩
theorem Two.on {g i j : Nat} {p q : Int × Int} {w w' : World} {B : Nat} (h : Two g i j p q w) (hb : Below B w w') (hg : g < B) : Two g i j p q w' :=
  ⟨(hb.cell (p := ⟨g, i, none⟩) hg).trans h.1, (hb.cell (p := ⟨g, i + 1, none⟩) hg).trans h.2.1, (hb.cell (p := ⟨g, j, none⟩) hg).trans h.2.2.1, (hb.cell (p := ⟨g, j + 1, none⟩) hg).trans h.2.2.2⟩

set_option maxRecDepth 4000 in
set_option maxHeartbeats 4000000 in
theorem keepFits_any (g o n cap : Nat) (l : List (Int × Int)) (hn : n = l.length) (h0 : 2 ≤ n) (hs : Qm.Small l) (hn2 : n ≤ 4357) (hu : Qm.Unit l) (w : World) (hP : PtsO g o l w) :
    Calls Try.prog 28 #[.slice (some ⟨g, o, none⟩) n cap] w fun e w' => e = .returned (.bool (Qm.kfB l)) ∧ Below w.heap.size w w' := by
  have HP := hid hP
  have hg := hP.1
  have HN := hid hn
  have KF := hid (show Qm.kfB l = (decide (n ≤ 13) && Qm.fitB l) by rw [hn]; rfl)
  have F2 := hid (fun h => Qm.fit_two hu h)
  have FT := hid (show n ≤ 13 → (∀ x y, (l.getD 0 (0, 0)).1 - 12 ≤ x → x < (l.getD 0 (0, 0)).1 + 12 → (l.getD 0 (0, 0)).2 - 12 ≤ y → y < (l.getD 0 (0, 0)).2 + 12 → Qm.okAt l x y = true) → Qm.fitB l = true from fun h13 h => hu.fit_near (by omega) (by omega) h)
  have FF := hid (fun x y => Qm.kf_no (l := l) (x := x) (y := y) (by omega))
  have OK := hid (fun x y => show Qm.okAt l x y = (!Qm.thB (l.getD (n - 1) (0, 0)) (l.getD 0 (0, 0)) x y && decide (Qm.wsum l x y n = 0)) by rw [hn]; rfl)
  have W1 := hid (fun x y => show Qm.wsum l x y 1 = Qm.wdZ (l.getD (n - 1) (0, 0)) (l.getD 0 (0, 0)) x y by
    show 0 + Qm.wdZ (Qm.pr l 0) (l.getD 0 (0, 0)) x y = _
    rw [Qm.pr_zero l (by omega), hn]; omega)
  have WS := hid (fun x y k (hk : k + 1 < n) => show Qm.wsum l x y (k + 2) = Qm.wsum l x y (k + 1) + Qm.wdZ (l.getD k (0, 0)) (l.getD (k + 1) (0, 0)) x y by
    show Qm.wsum l x y (k + 1) + Qm.wdZ (Qm.pr l (k + 1)) (l.getD (k + 1) (0, 0)) x y = _
    rw [Qm.pr_succ l k (by omega)])
  have WI := hid (fun x y k => Qm.wsum_in l x y k)
  have HS := hid hs
  obtain ⟨q0, q1⟩ := hP.2 0 (by omega)
  simp only [Nat.zero_mul, Nat.add_zero] at q0 q1
  have s0 := hs.at 0
  obtain ⟨n1, hn1⟩ : ∃ n1, n = n1 + 1 := ⟨n - 1, by omega⟩
  subst hn1
  simp only [Nat.add_sub_cancel] at OK W1
  clear hP hn hs hu
  by_cases h2 : n1 = 1
  · subst h2
    have K := hid (show Qm.kfB l = true by rw [KF.out, F2.out HN.out.symm]; rfl)
    go_enter Try.func28, Try.ntmps28
    go_wp2
    go_ret
    exact ⟨ret_bool K.out.symm, Below.refl _ _⟩
  · have e1 : ((n1 : Int) == 1) = false := by simp; omega
    have e1' : (n1 == 1) = false := by simp; omega
    by_cases h13 : 12 < n1
    · have K := hid (show Qm.kfB l = false by rw [KF.out, decide_eq_false (by omega)]; rfl)
      go_enter Try.func28, Try.ntmps28
      go_wp2
      go_ret
      exact ⟨ret_bool K.out.symm, Below.refl _ _⟩
    · have KE := hid (show Qm.kfB l = Qm.fitB l by rw [KF.out, decide_eq_true (by omega)]; rfl)
      have TWO := hid (show ∀ W', Below w.heap.size w W' → Two g (o + n1 * 2) o (l.getD n1 (0, 0)) (l.getD 0 (0, 0)) W' from fun W' h => by
        have := (HP.out.on h hg).two (i := n1) (j := 0) (by have := HN.out; omega) (by have := HN.out; omega)
        simpa using this)
      have SA := hid (small_in HS.out n1)
      have SB := hid (small_in HS.out 0)
      obtain ⟨⟨za, zb⟩, hzz⟩ : ∃ p, p = l.getD n1 (0, 0) := ⟨_, rfl⟩
      obtain ⟨⟨fa, fb⟩, hff⟩ : ∃ p, p = l.getD 0 (0, 0) := ⟨_, rfl⟩
      rw [← hff] at q0 q1 s0 FT OK W1 TWO SB
      rw [← hzz] at OK W1 TWO SA
      dsimp only at q0 q1 s0 FT
      have WL := hid (fun x y (a : -32 ≤ x) (b : x ≤ 64) (c : -32 ≤ y) (d : y ≤ 64) W' => wind_any (za, zb) (fa, fb) x y SA.out SB.out a b c d W')
      have TL := hid (fun x y (a : -32 ≤ x) (b : x ≤ 64) (c : -32 ≤ y) (d : y ≤ 64) W' => keepThrough_any (za, zb) (fa, fb) x y SA.out SB.out a b c d W')
      dsimp only at WL TL
      clear hff hzz SA SB
      go_enter Try.func28, Try.ntmps28
      go_wp2_with fail
      go_loopw [4] (fun yv wr => ∃ y : Int, yv = .int .i64 y ∧ fb - 12 ≤ y ∧ y ≤ fb + 12 ∧ Hid (∀ x' y', fa - 12 ≤ x' → x' < fa + 12 → fb - 12 ≤ y' → y' < y → Qm.okAt l x' y' = true) ∧ Hid (Below w.heap.size w wr)) (fun y _ => (fb + 12 - intOf y).toNat)
      case atStart => exact ⟨fb - 12, rfl, by omega, by omega, fun _ _ _ _ _ _ => by omega, Below.refl _ _⟩
      case round =>
        obtain ⟨y, rfl, hy0, hy1, hok, hB⟩ := hrel
        have r0 := (hB.out.cell (p := ⟨g, o, none⟩) hg).trans q0
        have r1 := (hB.out.cell (p := ⟨g, o + 1, none⟩) hg).trans q1
        by_cases hlt : y < fb + 12
        · go_wp2_with fail
          clear r0 r1
          go_loopw [5] (fun xv wr => ∃ x : Int, xv = .int .i64 x ∧ fa - 12 ≤ x ∧ x ≤ fa + 12 ∧ Hid (∀ x', fa - 12 ≤ x' → x' < x → Qm.okAt l x' y = true) ∧ Hid (Below w.heap.size w wr)) (fun x _ => (fa + 12 - intOf x).toNat)
          case atStart => exact ⟨fa - 12, rfl, by omega, by omega, fun _ _ _ => by omega, hB⟩
          case round =>
            clear hB
            obtain ⟨x, rfl, hx0, hx1, hokx, hB⟩ := hrel
            have r0 := (hB.out.cell (p := ⟨g, o, none⟩) hg).trans q0
            have r1 := (hB.out.cell (p := ⟨g, o + 1, none⟩) hg).trans q1
            by_cases hlx : x < fa + 12
            · have wl := WL.out x y (by omega) (by omega) (by omega) (by omega)
              have tl := TL.out x y (by omega) (by omega) (by omega) (by omega)
              have ok := hid (OK.out x y)
              have w1 := hid (W1.out x y)
              have ws := hid (fun k hk => WS.out x y k hk)
              have wi := hid (fun k => WI.out x y k)
              have FX := hid (show Qm.okAt l x y = false → Qm.fitB l = false from FF.out x y)
              have WX := hid (fun p q (hp : PtIn p) (hq : PtIn q) W' => wind_any p q x y hp hq (by omega) (by omega) (by omega) (by omega) W')
              obtain ⟨th, hth⟩ : ∃ th, Qm.thB (za, zb) (fa, fb) x y = th := ⟨_, rfl⟩
              rw [hth] at tl ok
              have TLX := hid tl
              obtain ⟨wz, hwz⟩ : ∃ wz, Qm.wdZ (za, zb) (fa, fb) x y = wz := ⟨_, rfl⟩
              rw [hwz] at wl w1
              have WLX := hid wl
              have D1 := hid (show Below w.heap.size w wr.drew from hB.out.trans ⟨rfl, rfl, rfl, Nat.le_refl _, fun _ _ => rfl⟩)
              have S0 := hid (TWO.out _ D1.out)
              have T0 := TWO.out _ hB.out
              obtain ⟨t0, t1, t2, t3⟩ := T0
              dsimp only at t0 t1 t2 t3
              have gd : g < wr.drew.heap.size := Nat.lt_of_lt_of_le hg D1.out.size
              have b1 : (0 : Int) ≤ (n1 : Nat) := by omega
              have b2 : ((n1 : Nat) : Int) < (n1 : Int) + 1 := by omega
              clear wl tl hth hwz
              go_wp2_with fail
              go_region_held3 (fun w' => w'.cell? ⟨g, o + n1 * 2, none⟩ = some (.int .i64 za) ∧ w'.cell? ⟨g, o + n1 * 2 + 1, none⟩ = some (.int .i64 zb) ∧ w'.cell? ⟨g, o, none⟩ = some (.int .i64 fa) ∧ w'.cell? ⟨g, o + 1, none⟩ = some (.int .i64 fb))
                (first | exact S0.out | exact (by assumption : _ ∧ _ ∧ _ ∧ _))
                (first | (go_at_call 46; refine (WLX.out _).mono ?_; rintro e w2 ⟨rfl, hb2⟩; have hS2 : w2.cell? ⟨g, o + n1 * 2, none⟩ = some (.int .i64 za) ∧ w2.cell? ⟨g, o + n1 * 2 + 1, none⟩ = some (.int .i64 zb) ∧ w2.cell? ⟨g, o, none⟩ = some (.int .i64 fa) ∧ w2.cell? ⟨g, o + 1, none⟩ = some (.int .i64 fb) := S0.out.on hb2 gd; have B2 := hid (show Below w.heap.size w w2 from D1.out.trans (hb2.mono D1.out.size)); clear hb2))
              clear t0 t1 t2 t3 r0 r1 hS2 S0 D1 gd
              have wi1 := wi.out 1
              rw [w1.out] at wi1
              go_wp2_with fail
              go_loopw [6, 7] (fun sv kv wr => ∃ k : Nat, k ≤ n1 ∧ kv = .int .i64 k ∧ sv = .int .i64 (Qm.wsum l x y (k + 1)) ∧ Hid (Below w.heap.size w wr)) (fun _ k _ => n1 - (intOf k).toNat)
              case atStart => exact ⟨0, by omega, rfl, by rw [w1.out], B2⟩
              case round =>
                clear hB B2
                obtain ⟨k, hk, rfl, rfl, hB⟩ := hrel
                have wik := wi.out (k + 1)
                by_cases hkn : k < n1
                · have TW := hid (show ∀ W', Below w.heap.size w W' → Two g (o + k * 2) (o + (k + 1) * 2) (l.getD k (0, 0)) (l.getD (k + 1) (0, 0)) W' from fun W' h => (HP.out.on h hg).two (by have := HN.out; omega) (by have := HN.out; omega))
                  have wd := hid (ws.out k (by omega))
                  have wn := wi.out (k + 2)
                  have WK := hid (WX.out (l.getD k (0, 0)) (l.getD (k + 1) (0, 0)) (small_in HS.out _) (small_in HS.out _))
                  obtain ⟨⟨pa, pb⟩, hpp⟩ : ∃ p, p = l.getD k (0, 0) := ⟨_, rfl⟩
                  obtain ⟨⟨qa, qb⟩, hqq⟩ : ∃ p, p = l.getD (k + 1) (0, 0) := ⟨_, rfl⟩
                  rw [← hpp, ← hqq] at TW wd WK
                  dsimp only at WK
                  obtain ⟨z, hz⟩ : ∃ z, Qm.wdZ (pa, pb) (qa, qb) x y = z := ⟨_, rfl⟩
                  rw [hz] at wd WK
                  rw [wd.out] at wn
                  obtain ⟨sk, hsk⟩ : ∃ sk, sk = Qm.wsum l x y (k + 1) := ⟨_, rfl⟩
                  rw [← hsk] at wd wn wik ⊢
                  have D1 := hid (show Below w.heap.size w wr.drew from hB.out.trans ⟨rfl, rfl, rfl, Nat.le_refl _, fun _ _ => rfl⟩)
                  have S0 := hid (TW.out _ D1.out)
                  obtain ⟨t0, t1, t2, t3⟩ := TW.out _ hB.out
                  dsimp only at t0 t1 t2 t3
                  have gd : g < wr.drew.heap.size := Nat.lt_of_lt_of_le hg D1.out.size
                  have k1 : (0 : Int) ≤ (k : Nat) := by omega
                  have k2 : ((k : Nat) : Int) < (n1 : Int) + 1 := by omega
                  have k3 : (0 : Int) ≤ (k : Int) + 1 := by omega
                  have k4 : (k : Int) + 1 < (n1 : Int) + 1 := by omega
                  have k5 : IntKind.i64.wrap ((k : Int) + 1) = (k : Int) + 1 := by rw [IntKind.wrap_i64]; omega
                  clear hpp hqq hz hsk
                  go_wp2_with fail
                  go_region_held3 (fun w' => w'.cell? ⟨g, o + k * 2, none⟩ = some (.int .i64 pa) ∧ w'.cell? ⟨g, o + k * 2 + 1, none⟩ = some (.int .i64 pb) ∧ w'.cell? ⟨g, o + (k + 1) * 2, none⟩ = some (.int .i64 qa) ∧ w'.cell? ⟨g, o + (k + 1) * 2 + 1, none⟩ = some (.int .i64 qb))
                    (first | exact S0.out | exact (by assumption : _ ∧ _ ∧ _ ∧ _))
                    (first | (go_at_call 46; refine (WK.out _).mono ?_; rintro e w2 ⟨rfl, hb2⟩; have hS2 : w2.cell? ⟨g, o + k * 2, none⟩ = some (.int .i64 pa) ∧ w2.cell? ⟨g, o + k * 2 + 1, none⟩ = some (.int .i64 pb) ∧ w2.cell? ⟨g, o + (k + 1) * 2, none⟩ = some (.int .i64 qa) ∧ w2.cell? ⟨g, o + (k + 1) * 2 + 1, none⟩ = some (.int .i64 qb) := S0.out.on hb2 gd; have B2 := hid (show Below w.heap.size w w2 from D1.out.trans (hb2.mono D1.out.size)); clear hb2))
                  clear t0 t1 t2 t3 hS2 S0 D1 gd k5
                  go_wp2
                  go_roundw
                  case rel => exact ⟨k + 1, by omega, by go_num, by rw [wd.out], B2⟩
                  case measure => simp [intOf]; omega
                · have ek : k = n1 := by omega
                  subst ek
                  obtain ⟨sk, hsk⟩ : ∃ sk, sk = Qm.wsum l x y (k + 1) := ⟨_, rfl⟩
                  rw [← hsk] at ok wik ⊢
                  have D1 := hid (show Below w.heap.size w wr.drew from hB.out.trans ⟨rfl, rfl, rfl, Nat.le_refl _, fun _ _ => rfl⟩)
                  have S0 := hid (TWO.out _ D1.out)
                  obtain ⟨t0, t1, t2, t3⟩ := TWO.out _ hB.out
                  dsimp only at t0 t1 t2 t3
                  have gd : g < wr.drew.heap.size := Nat.lt_of_lt_of_le hg D1.out.size
                  have hkk : ¬ (k : Int) < (k : Nat) := by omega
                  clear hsk
                  go_wp2_with fail
                  go_region_held3 (fun w' => w'.cell? ⟨g, o + k * 2, none⟩ = some (.int .i64 za) ∧ w'.cell? ⟨g, o + k * 2 + 1, none⟩ = some (.int .i64 zb) ∧ w'.cell? ⟨g, o, none⟩ = some (.int .i64 fa) ∧ w'.cell? ⟨g, o + 1, none⟩ = some (.int .i64 fb))
                    (first | exact S0.out | exact (by assumption : _ ∧ _ ∧ _ ∧ _))
                    (first | (go_at_call 47; refine (TLX.out _).mono ?_; rintro e w2 ⟨rfl, hb2⟩; have hS2 : w2.cell? ⟨g, o + k * 2, none⟩ = some (.int .i64 za) ∧ w2.cell? ⟨g, o + k * 2 + 1, none⟩ = some (.int .i64 zb) ∧ w2.cell? ⟨g, o, none⟩ = some (.int .i64 fa) ∧ w2.cell? ⟨g, o + 1, none⟩ = some (.int .i64 fb) := S0.out.on hb2 gd; have B2 := hid (show Below w.heap.size w w2 from D1.out.trans (hb2.mono D1.out.size)); clear hb2))
                  clear t0 t1 t2 t3 hS2 S0 D1 gd
                  by_cases hs0 : sk = 0
                  · subst hs0
                    cases th
                    · have okt := hid (show Qm.okAt l x y = true by rw [ok.out]; rfl)
                      go_wp2
                      go_roundw
                      case rel =>
                        refine ⟨x + 1, by go_num, by omega, by omega, fun x' h1 h2 => ?_, B2⟩
                        rcases Int.lt_or_le x' x with h3 | h3
                        · exact hokx.out x' h1 h3
                        · rw [show x' = x from by omega]; exact okt.out
                      case measure => simp [intOf]; omega
                    · have FO := hid (show Qm.kfB l = false by rw [KE.out]; exact FX.out (by rw [ok.out]; rfl))
                      go_wp2
                      go_ret
                      exact ⟨ret_bool FO.out.symm, B2.out⟩
                  · have d0 : (sk == 0) = false := by simpa using hs0
                    have FO := hid (show Qm.kfB l = false by rw [KE.out]; exact FX.out (by rw [ok.out, decide_eq_false hs0]; simp))
                    go_wp2
                    go_ret
                    exact ⟨ret_bool FO.out.symm, B2.out⟩
            · go_wp2
              go_roundw
              case rel =>
                refine ⟨y + 1, by go_num, by omega, by omega, fun x' y' h1 h2 h3 h4 => ?_, hB⟩
                rcases Int.lt_or_le y' y with h5 | h5
                · exact hok.out x' y' h1 h2 h3 h5
                · rw [show y' = y from by omega]; exact hokx.out x' h1 (by omega)
              case measure => simp [intOf]; omega
        · have FO := hid (show Qm.kfB l = true by rw [KE.out]; exact FT.out (by omega) fun x y a b c d => hok.out x y a b c (by omega))
          go_wp2
          go_ret
          exact ⟨ret_bool FO.out.symm, hB.out⟩
end Go.Proofs.Ytljfiefobnncaaa

/- outlinekeep: places: what holds in its loops. -/
namespace Go.Proofs.Ytljfiefobnncaaa
open Go.RowKit

namespace Qm
section
variable {ok : Nat → Nat → Prop}
theorem Pth.step {i j : Nat} {l : List Nat} (h : Pth ok i j l) : ∀ a, a + 1 < l.length → ok (l.getD a 0) (l.getD (a + 1) 0) := by
  induction h with
  | one i => intro a ha; simp at ha
  | cons i k j l ho hp ih =>
    intro a ha
    cases a with
    | zero => obtain ⟨m, rfl⟩ := hp.head; exact ho
    | succ a => simpa using ih a (by simpa using ha)
theorem Pth.last {i j : Nat} {l : List Nat} (h : Pth ok i j l) : l.getD (l.length - 1) 0 = j := by
  induction h with
  | one i => rfl
  | cons i k j l ho hp ih =>
    have := hp.pos
    rw [show (i :: l).length - 1 = (l.length - 1) + 1 from by simp; omega]
    simpa using ih
theorem pth_of : ∀ (l : List Nat), 0 < l.length → (∀ a, a + 1 < l.length → ok (l.getD a 0) (l.getD (a + 1) 0)) → Pth ok (l.getD 0 0) (l.getD (l.length - 1) 0) l
  | [], h, _ => by simp at h
  | [a], _, _ => .one a
  | a :: b :: l, _, h => by
    have r := pth_of (b :: l) (by simp) fun c hc => by simpa using h (c + 1) (by simpa using hc)
    have e : (a :: b :: l).getD ((a :: b :: l).length - 1) 0 = (b :: l).getD ((b :: l).length - 1) 0 := by simp
    rw [e]
    exact .cons a b _ _ (by simpa using h 0 (by simp)) (by simpa using r)
/-- A row of which one number could be left out. -/
theorem Pth.skip {i j : Nat} {l : List Nat} (h : Pth ok i j l) : ∀ a, a + 2 < l.length → ok (l.getD a 0) (l.getD (a + 2) 0) → Pth ok i j (l.eraseIdx (a + 1)) := by
  induction h with
  | one i => intro a ha; simp at ha
  | cons i k j l ho hp ih =>
    intro a ha hs
    cases a with
    | zero =>
      cases hp with
      | one => simp at ha
      | cons _ k2 _ l2 ho2 hp2 =>
        obtain ⟨m, rfl⟩ := hp2.head
        have hs' : ok i k2 := by simpa using hs
        exact .cons i k2 j _ hs' hp2
    | succ a =>
      have := ih a (by simp at ha; omega) (by simpa using hs)
      exact .cons i k j _ ho this
end

/-- What the table says is so. -/
def Snd (v : List Pt) (F : Nat → Nat → Int) : Prop := ∀ i k, 0 ≤ F i k → (i = 0 ∧ k = 0 ∧ F 0 0 = 0) ∨ ∃ i' j : Nat, i = i' + 1 ∧ F i k = (j : Int) ∧ okV v j k ∧ 0 ≤ F i' j
/-- Nothing is left out there. -/
def Cmp (v al : List Pt) (F : Nat → Nat → Int) (a b : Nat) : Prop := ∀ j, okV v j b → 0 ≤ F a j → v.getD b (0, 0) = al.getD (a + 1) (0, 0) → 0 ≤ F (a + 1) b
structure PI (v al : List Pt) (F : Nat → Nat → Int) (i k : Nat) : Prop where
  snd : Snd v F
  start : 0 ≤ F 0 0
  cmp : ∀ a b, (a + 1 < i ∨ (a + 1 = i ∧ b < k)) → Cmp v al F a b
  later : ∀ a b, i < a → F a b = -1
def upd (F : Nat → Nat → Int) (i k : Nat) (x : Int) : Nat → Nat → Int := fun a b => if a = i ∧ b = k then x else F a b
theorem upd_same (F : Nat → Nat → Int) (i k : Nat) (x : Int) : upd F i k x i k = x := by unfold upd; rw [if_pos ⟨rfl, rfl⟩]
theorem upd_other {F : Nat → Nat → Int} {i k : Nat} {x : Int} {a b : Nat} (h : ¬ (a = i ∧ b = k)) : upd F i k x a b = F a b := by unfold upd; rw [if_neg h]
section
variable {v al : List Pt} {F : Nat → Nat → Int} {i k : Nat}
theorem PI.first (v al : List Pt) : PI v al (upd (fun _ _ => -1) 0 0 0) 1 1 := by
  refine ⟨fun i k h => ?_, by rw [upd_same]; omega, fun a b h j hj => ?_, fun a b h => upd_other (by omega)⟩
  · by_cases e : i = 0 ∧ k = 0
    · exact .inl ⟨e.1, e.2, upd_same _ _ _ _⟩
    · rw [upd_other e] at h; omega
  · have := hj.1; omega
theorem PI.row (h : PI v al F i k) (hk : v.length ≤ k) : PI v al F (i + 1) 1 := by
  refine ⟨h.snd, h.start, fun a b hab => ?_, fun a b hab => h.later a b (by omega)⟩
  rcases Nat.lt_or_ge (a + 1) i with h1 | h1
  · exact h.cmp a b (.inl h1)
  · rcases hab with h2 | ⟨h2, h3⟩
    · rcases Nat.lt_or_ge b k with h4 | h4
      · exact h.cmp a b (.inr ⟨by omega, h4⟩)
      · intro j hj; have := hj.2.1; omega
    · intro j hj; have := hj.1; omega
/-- In the innermost loop: all beyond j have been looked at. -/
structure PJ (v al : List Pt) (F : Nat → Nat → Int) (i k : Nat) (j : Int) : Prop where
  pi : PI v al F (i + 1) k
  seen : ∀ q : Nat, j < q → okV v q k → 0 ≤ F i q → 0 ≤ F (i + 1) k
theorem PI.inner (h : PI v al F (i + 1) k) : PJ v al F i k ((k : Int) - 1) := ⟨h, fun q hq ok _ => by have := ok.1; omega⟩
theorem PJ.no {j : Nat} (h : PJ v al F i k j) (hn : ¬ (okV v j k ∧ 0 ≤ F i j)) : PJ v al F i k ((j : Int) - 1) := by
  refine ⟨h.pi, fun q hq ok hf => ?_⟩
  rcases Nat.lt_or_ge j q with h1 | h1
  · exact h.seen q (by omega) ok hf
  · obtain rfl : q = j := by omega
    exact absurd ⟨ok, hf⟩ hn
theorem PJ.yes {j : Nat} (h : PJ v al F i k j) (ok : okV v j k) (hf : 0 ≤ F i j) : PJ v al (upd F (i + 1) k j) i k ((j : Int) - 1) := by
  have ro : ∀ b, upd F (i + 1) k j i b = F i b := fun b => upd_other (by omega)
  refine ⟨⟨fun a b hab => ?_, ?_, fun a b hab => ?_, fun a b hab => ?_⟩, fun q hq _ _ => by rw [upd_same]; omega⟩
  · by_cases e : a = i + 1 ∧ b = k
    · right
      obtain ⟨rfl, rfl⟩ := e
      exact ⟨i, j, rfl, upd_same _ _ _ _, ok, by rw [ro]; exact hf⟩
    · rw [upd_other e] at hab ⊢
      rcases h.pi.snd a b hab with ⟨h1, h2, h3⟩ | ⟨i', q, h1, h2, h3, h4⟩
      · exact .inl ⟨h1, h2, by rw [upd_other (by omega)]; exact h3⟩
      · refine .inr ⟨i', q, h1, h2, h3, ?_⟩
        by_cases e2 : i' = i + 1 ∧ q = k
        · have := h.pi.later a b (by omega)
          omega
        · rw [upd_other e2]; exact h4
  · rw [upd_other (by omega)]; exact h.pi.start
  · intro q hq hf' hv
    by_cases e2 : a = i + 1 ∧ q = k
    · omega
    · rw [upd_other e2] at hf'
      by_cases e : a + 1 = i + 1 ∧ b = k
      · omega
      · rw [upd_other e]; exact h.pi.cmp a b hab q hq hf' hv
  · rw [upd_other (by omega)]; exact h.pi.later a b hab
theorem PJ.done {j : Int} (h : PJ v al F i k j) (hj : j < 0 ∨ 12 < (k : Int) - j) : PI v al F (i + 1) (k + 1) := by
  refine ⟨h.pi.snd, h.pi.start, fun a b hab => ?_, h.pi.later⟩
  rcases Nat.lt_or_ge (a + 1) (i + 1) with h1 | h1
  · exact h.pi.cmp a b (.inl h1)
  · rcases hab with h2 | ⟨h2, h3⟩
    · omega
    · rcases Nat.lt_or_ge b k with h4 | h4
      · exact h.pi.cmp a b (.inr ⟨h2, h4⟩)
      · obtain rfl : b = k := by omega
        obtain rfl : a = i := by omega
        exact fun q ok hf _ => h.seen q (by have := ok.2.2.1; have := ok.1; omega) ok hf
theorem PI.skip (h : PI v al F (i + 1) k) (hn : v.getD k (0, 0) ≠ al.getD (i + 1) (0, 0)) : PI v al F (i + 1) (k + 1) := by
  refine ⟨h.snd, h.start, fun a b hab => ?_, h.later⟩
  rcases Nat.lt_or_ge (a + 1) (i + 1) with h1 | h1
  · exact h.cmp a b (.inl h1)
  · rcases hab with h2 | ⟨h2, h3⟩
    · omega
    · rcases Nat.lt_or_ge b k with h4 | h4
      · exact h.cmp a b (.inr ⟨h2, h4⟩)
      · obtain rfl : b = k := by omega
        obtain rfl : a = i := by omega
        exact fun q _ _ hv => absurd hv hn
/-- A row that goes by the points stands in the table. -/
theorem PI.has {M : Nat} (h : PI v al F (M + 1) k) {I : List Nat} {e : Nat} (hI : Pth (okV v) 0 e I) (hl : I.length = M + 1) (hp : ∀ a, a ≤ M → v.getD (I.getD a 0) (0, 0) = al.getD a (0, 0)) : ∀ a, a ≤ M → 0 ≤ F a (I.getD a 0) := by
  intro a
  induction a with
  | zero =>
    intro _
    obtain ⟨m, e⟩ := hI.head
    rw [e]; exact h.start
  | succ a ih =>
    intro ha
    exact h.cmp a _ (.inl (by omega)) _ (hI.step a (by omega)) (ih (by omega)) (hp (a + 1) ha)

/-- Going back: from r on the row is known. -/
structure BK (v : List Pt) (F : Nat → Nat → Int) (M e : Nat) (r : Nat) (at' : Int) (f : Nat → Nat) : Prop where
  ok : ∀ a, r ≤ a → a < M → okV v (f a) (f (a + 1))
  end' : r ≤ M → f M = e
  here : ∀ q, r = q + 1 → ∃ t : Nat, at' = t ∧ 0 ≤ F q t ∧ (r ≤ M → okV v t (f r)) ∧ (r = M + 1 → t = e)
  zero : r = 0 → f 0 = 0
theorem BK.start {M e : Nat} (h : 0 ≤ F M e) : BK v F M e (M + 1) e (fun _ => 0) :=
  ⟨fun a h1 h2 => by omega, fun h => by omega, fun q hq => by obtain rfl : q = M := by omega
                                                              exact ⟨e, rfl, h, fun h => by omega, fun _ => rfl⟩, fun h => by omega⟩
theorem BK.step {M e q : Nat} {t : Nat} {f : Nat → Nat} (hS : Snd v F) (hq : q ≤ M) (h : BK v F M e (q + 1) (t : Int) f) : 0 ≤ F q t ∧ BK v F M e q (F q t) (fun a => if a = q then t else f a) := by
  obtain ⟨t', e1, h1, h2, h3⟩ := h.here q rfl
  have : t' = t := by omega
  subst this
  refine ⟨h1, ⟨fun a ha hm => ?_, fun hm => ?_, fun p hp => ?_, fun h0 => ?_⟩⟩
  · by_cases e2 : a = q
    · subst e2
      simp only [if_true, if_neg (show ¬ a + 1 = a by omega)]
      exact h2 (by omega)
    · simp only [if_neg e2, if_neg (show ¬ a + 1 = q by omega)]
      exact h.ok a (by omega) hm
  · by_cases e2 : M = q
    · simp only [if_pos e2]; exact h3 (by omega)
    · simp only [if_neg e2]; exact h.end' (by omega)
  · rcases hS q t' h1 with ⟨hz, _, _⟩ | ⟨i', j, hi', e2, ok, hf⟩
    · omega
    · obtain rfl : i' = p := by omega
      exact ⟨j, e2, hf, fun _ => by simp only [if_true]; exact ok, fun h => by omega⟩
  · subst h0
    simp only [if_true]
    rcases hS 0 t' h1 with ⟨_, h4, _⟩ | ⟨i', _, h4, _⟩
    · exact h4
    · omega
theorem BK.path {M e : Nat} {at' : Int} {f : Nat → Nat} (h : BK v F M e 0 at' f) : Pth (okV v) 0 e ((List.range (M + 1)).map f) := by
  have g : ∀ a, a ≤ M → ((List.range (M + 1)).map f).getD a 0 = f a := fun a ha => by simp [List.getD_eq_getElem?_getD, show a < M + 1 by omega]
  have l : ((List.range (M + 1)).map f).length = M + 1 := by simp
  have p := pth_of (ok := okV v) ((List.range (M + 1)).map f) (by omega) fun a ha => by
    rw [l] at ha
    rw [g a (by omega), g (a + 1) (by omega)]
    exact h.ok a (by omega) (by omega)
  rw [l, g 0 (by omega), show M + 1 - 1 = M from by omega, g M (Nat.le_refl _), h.zero rfl, h.end' (by omega)] at p
  exact p
end
end Qm

/-- The table in memory: its first m rows. -/
structure FTab (gf : Nat) (G : Nat → Nat) (m M N : Nat) (F : Nat → Nat → Int) (w : World) : Prop where
  lt : gf < w.heap.size
  fz : ∀ j, w.frozen? ⟨gf, j, none⟩ = false
  ex : ∀ i, i ≤ M → ∃ ao n c, w.cell? ⟨gf, i, none⟩ = some (.slice ao n c)
  row : ∀ i, i < m → w.cell? ⟨gf, i, none⟩ = some (.slice (some ⟨G i, 0, none⟩) N N) ∧ gf < G i ∧ G i < w.heap.size ∧ (∀ k, k < N → w.cell? ⟨G i, k, none⟩ = some (.int .i64 (F i k))) ∧ ∀ k, w.frozen? ⟨G i, k, none⟩ = false
  inj : ∀ i j, i < m → j < m → G i = G j → i = j
section
variable {gf : Nat} {G : Nat → Nat} {m M N : Nat} {F : Nat → Nat → Int} {w w' : World}
theorem FTab.on (h : FTab gf G m M N F w) (hb : Below w.heap.size w w') : FTab gf G m M N F w' := by
  refine ⟨Nat.lt_of_lt_of_le h.lt hb.size, fun j => (hb.frozen (p := ⟨gf, j, none⟩) h.lt).trans (h.fz j), fun i hi => ?_, fun i hi => ?_, h.inj⟩
  · obtain ⟨a, n, c, e⟩ := h.ex i hi
    exact ⟨a, n, c, (hb.cell (p := ⟨gf, i, none⟩) h.lt).trans e⟩
  · obtain ⟨h1, h2, h3, h4, h5⟩ := h.row i hi
    exact ⟨(hb.cell (p := ⟨gf, i, none⟩) h.lt).trans h1, h2, Nat.lt_of_lt_of_le h3 hb.size, fun k hk => (hb.cell (p := ⟨G i, k, none⟩) h3).trans (h4 k hk), fun k => (hb.frozen (p := ⟨G i, k, none⟩) h3).trans (h5 k)⟩
theorem FTab.set (h : FTab gf G m M N F w) {i k : Nat} (hi : i < m) (hk : k < N) (x : Int) : FTab gf G m M N (Qm.upd F i k x) (w.setCell ⟨G i, k, none⟩ (.int .i64 x)) := by
  obtain ⟨_, g2, g3, g4, _⟩ := h.row i hi
  have o : ∀ b j, b ≠ G i → (w.setCell ⟨G i, k, none⟩ (.int .i64 x)).cell? ⟨b, j, none⟩ = w.cell? ⟨b, j, none⟩ := fun b j hb => World.cell?_setCell_other _ _ _ _ (by intro e; injection e with e _ _; exact hb e.symm)
  refine ⟨by rw [World.size_setCell]; exact h.lt, fun j => by simpa using h.fz j, fun a ha => ?_, fun a ha => ?_, h.inj⟩
  · obtain ⟨y, n, c, e⟩ := h.ex a ha
    exact ⟨y, n, c, (o _ _ (by omega)).trans e⟩
  · obtain ⟨h1, h2, h3, h4, h5⟩ := h.row a ha
    refine ⟨(o _ _ (by omega)).trans h1, h2, by rw [World.size_setCell]; exact h3, fun b hb => ?_, fun b => by simpa using h5 b⟩
    by_cases e : a = i ∧ b = k
    · obtain ⟨rfl, rfl⟩ := e
      rw [Qm.upd_same]; exact World.cell?_setCell_same _ _ _ (h4 b hb)
    · rw [Qm.upd_other e]
      refine (World.cell?_setCell_other _ _ _ _ ?_).trans (h4 b hb)
      intro e2
      injection e2 with e3 e4 _
      exact e ⟨(h.inj i a hi ha e3).symm, e4.symm⟩
theorem FTab.away (h : FTab gf G m M N F w) {b j : Nat} (hb : b ≠ gf) (hG : ∀ i, i < m → b ≠ G i) (x : Value) : FTab gf G m M N F (w.setCell ⟨b, j, none⟩ x) := by
  have o : ∀ c i, c ≠ b → (w.setCell ⟨b, j, none⟩ x).cell? ⟨c, i, none⟩ = w.cell? ⟨c, i, none⟩ := fun c i hc => World.cell?_setCell_other _ _ _ _ (by intro e; injection e with e _ _; exact hc e.symm)
  refine ⟨by rw [World.size_setCell]; exact h.lt, fun j => by simpa using h.fz j, fun a ha => ?_, fun a ha => ?_, h.inj⟩
  · obtain ⟨y, n, c, e⟩ := h.ex a ha
    exact ⟨y, n, c, (o _ _ (Ne.symm hb)).trans e⟩
  · obtain ⟨h1, h2, h3, h4, h5⟩ := h.row a ha
    exact ⟨(o _ _ (Ne.symm hb)).trans h1, h2, by rw [World.size_setCell]; exact h3, fun b hb' => (o _ _ (Ne.symm (hG a ha))).trans (h4 b hb'), fun b => by simpa using h5 b⟩
/-- A row's slice is laid into the table. -/
theorem FTab.laid (h : FTab gf G m M N F w) {j : Nat} (hj : m ≤ j) (hjM : j ≤ M) (ao : Option Addr) (n c : Nat) : FTab gf G m M N F (w.setCell ⟨gf, j, none⟩ (.slice ao n c)) := by
  refine ⟨by rw [World.size_setCell]; exact h.lt, fun j => by simpa using h.fz j, fun a ha => ?_, fun a ha => ?_, h.inj⟩
  · obtain ⟨y, n', c', e⟩ := h.ex a ha
    by_cases ea : a = j
    · subst ea; exact ⟨ao, n, c, World.cell?_setCell_same _ _ _ e⟩
    · exact ⟨y, n', c', (World.cell?_setCell_other _ _ _ _ (by intro e; injection e with _ e _; omega)).trans e⟩
  · obtain ⟨h1, h2, h3, h4, h5⟩ := h.row a ha
    exact ⟨(World.cell?_setCell_other _ _ _ _ (by intro e; injection e with _ e _; omega)).trans h1, h2, by rw [World.size_setCell]; exact h3, fun b hb' => (World.cell?_setCell_other _ _ _ _ (by intro e; injection e with e _ _; omega)).trans (h4 b hb'), fun b => by simpa using h5 b⟩
/-- One more row. -/
theorem FTab.more (h : FTab gf G m M N F w) {g : Nat} (c : w.cell? ⟨gf, m, none⟩ = some (.slice (some ⟨g, 0, none⟩) N N)) (hg : gf < g) (hz : g < w.heap.size) (hn : ∀ i, i < m → g ≠ G i) (hc : ∀ k, k < N → w.cell? ⟨g, k, none⟩ = some (.int .i64 (F m k))) (hf : ∀ k, w.frozen? ⟨g, k, none⟩ = false) : FTab gf (fun i => if i = m then g else G i) (m + 1) M N F w := by
  refine ⟨h.lt, h.fz, h.ex, fun i hi => ?_, fun i j hi hj e => ?_⟩
  · by_cases e : i = m
    · subst e; simp only [if_true]; exact ⟨c, hg, hz, hc, hf⟩
    · simp only [if_neg e]; exact h.row i (by omega)
  · by_cases e1 : i = m <;> by_cases e2 : j = m
    · omega
    · simp only [if_pos e1, if_neg e2] at e; exact absurd e (hn j (by omega))
    · simp only [if_neg e1, if_pos e2] at e; exact absurd e.symm (hn i (by omega))
    · simp only [if_neg e1, if_neg e2] at e; exact h.inj i j (by omega) (by omega) e
end
theorem infoInts : (Try.prog.info? 33).map (fun i => (i.zero, i.size, i.bytes)) = some (some (.slice none 0 0), 1, 24) := by kernel_rfl
end Go.Proofs.Ytljfiefobnncaaa
