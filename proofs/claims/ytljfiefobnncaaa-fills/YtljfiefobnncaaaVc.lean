/- outlineref: Wound. -/
import Derived.Test.YtljfiefobnncaaaVb
import Derived.Test.YtljfiefobnncaaaQt
import Derived.Deep.QuietTactic
import Derived.BigQuiet
import Derived.Deep.RegionHeld3
namespace Go.Proofs.Ytljfiefobnncaaa
open Go.RowKit

theorem wsum_fsE (l : List (Int × Int)) (h : 0 < l.length) (x y : Int) : Qm.wsum l x y l.length = Qm.fsE (fun p q => Qm.wdZ p q x y) l l.length := by rw [Qm.wsum_bsE, Qm.bsE_all _ _ h]

set_option maxRecDepth 4000 in
set_option maxHeartbeats 2000000 in
theorem wound_any (ao : Option Addr) (n cap : Nat) (L : List ShT) (hn : n = L.length) (hn2 : n ≤ 140737488355328) (hm : ∀ i, (L.getD i sh0).1.length ≤ 140737488355328) (hL : plB L = true) (x y : Int) (x0 : 0 ≤ x) (x1 : x ≤ 32) (y0 : 0 ≤ y) (y1 : y ≤ 32) (w : World) (hS : ShIs ao L w) :
    Calls Try.prog 50 #[.slice ao n cap, .int .i64 x, .int .i64 y] w fun e w' => e = .returned (.int .i64 (wrap64 (totW L x y n))) ∧ Below w.heap.size w w' := by
  have HS := hid hS
  have HM := hid hm
  have HN := hid hn
  have HL := hid hL
  clear hS hm hn hL
  go_enter Try.func50, Try.ntmps50
  go_wp2_with fail
  go_loopw [7, 8] (fun sv i wr => ∃ (k : Nat) (z : Int), k ≤ n ∧ i = .int .i64 k ∧ sv = .int .i64 z ∧ Hid (z = wrap64 (totW L x y k)) ∧ Hid (Below w.heap.size w wr)) (fun _ i _ => n - (intOf i).toNat)
  case atStart => exact ⟨0, 0, by omega, rfl, rfl, (show (0 : Int) = wrap64 0 by unfold wrap64; omega), Below.refl _ _⟩
  case round =>
    obtain ⟨k, z, hk, rfl, rfl, hZ, hb⟩ := hrel
    have hz := hb.out.size
    by_cases hlt : k < n
    · obtain ⟨gl, o, rfl, hgl, hc⟩ := HS.out.resolve_left (by have := HN.out; omega)
      obtain ⟨ap, cp, c0, c1, c2⟩ := hc k (by have := HN.out; omega)
      have r0 := (hb.out.cell (p := ⟨gl, o + k * 2, none⟩) hgl).trans c0
      have k0' : (0 : Int) ≤ (k : Nat) := by omega
      have k1' : ((k : Nat) : Int) < (n : Nat) := by omega
      have OS := okSh_small (all_at sh0 HL.out (i := k) (by have := HN.out; omega))
      have hmk := HM.out k
      have TS : Hid (totW L x y (k + 1) = totW L x y k + Qm.wsum (L.getD k sh0).1 x y (L.getD k sh0).1.length) := rfl
      obtain ⟨s, hs⟩ : ∃ s, s = L.getD k sh0 := ⟨_, rfl⟩
      rw [← hs] at r0 c2 hmk OS TS
      rw [wsum_fsE _ OS.1] at TS
      obtain ⟨l, hl⟩ : ∃ l, l = s.1 := ⟨_, rfl⟩
      rw [← hl] at r0 c2 hmk OS TS
      obtain ⟨m, hmm⟩ : ∃ m, m = l.length := ⟨_, rfl⟩
      rw [← hmm] at r0 c2 hmk OS TS
      obtain ⟨g, q, rfl, hp⟩ := c2.resolve_left (by omega)
      have m0 := OS.1
      have SM := hid OS.2
      have HP := hid hp
      have HMM := hid hmm
      obtain ⟨T, hT⟩ : ∃ T, T = totW L x y k := ⟨_, rfl⟩
      rw [← hT] at TS hZ
      have hgw := hp.1
      clear hc c0 c1 hs c2 hp hmm OS hl hT
      go_wp2_with fail
      go_loopw [7, 10] (fun sv i wr => ∃ (j : Nat) (z : Int), j ≤ m ∧ i = .int .i64 j ∧ sv = .int .i64 z ∧ Hid (z = wrap64 (T + Qm.fsE (fun p q => Qm.wdZ p q x y) l j)) ∧ Hid (Below w.heap.size w wr)) (fun _ i _ => m - (intOf i).toNat)
      case atStart => exact ⟨0, z, by omega, rfl, rfl, (show z = wrap64 (T + 0) by rw [Int.add_zero]; exact hZ.out), hb⟩
      case round =>
        clear r0 hb hz hZ
        obtain ⟨j, v, hj, rfl, rfl, hV, hb⟩ := hrel
        have hz := hb.out.size
        by_cases hjm : j < m
        · obtain ⟨r, hr⟩ : ∃ r, r = (j + 1) % m := ⟨_, rfl⟩
          have hrn : r < m := by rw [hr]; exact Nat.mod_lt _ m0
          have er : ((j : Int) + 1) % (m : Int) = (r : Nat) := by rw [hr]; simp
          obtain ⟨r0, r1⟩ := (HP.out.on hb.out hgw).2 j (by have := HMM.out; omega)
          obtain ⟨q0, q1⟩ := (HP.out.on hb.out hgw).2 r (by have := HMM.out; omega)
          have NX := hid (show Qm.nxP l j = l.getD r (0, 0) by rw [hr, HMM.out]; rfl)
          have AB := hid (fun W' => refRight_any (l.getD j (0, 0)) (l.getD r (0, 0)) x y (small_in SM.out _) (small_in SM.out _) (by omega) (by omega) (by omega) (by omega) W')
          have E2 : Hid (Qm.fsE (fun p q => Qm.wdZ p q x y) l (j + 1) = Qm.fsE (fun p q => Qm.wdZ p q x y) l j + Qm.wdZ (l.getD j (0, 0)) (Qm.nxP l j) x y) := rfl
          rw [NX.out] at E2
          have ai := Qm.wdZ_in (l.getD j (0, 0)) (l.getD r (0, 0)) x y
          obtain ⟨u, hu⟩ : ∃ u, Qm.wdZ (l.getD j (0, 0)) (l.getD r (0, 0)) x y = u := ⟨_, rfl⟩
          rw [hu] at E2 AB ai
          have VN := hid (show wrap64 (v + u) = wrap64 (T + Qm.fsE (fun p q => Qm.wdZ p q x y) l (j + 1)) by rw [E2.out, hV.out, wrap_more, Int.add_assoc])
          have vi := wrap_inside (T + Qm.fsE (fun p q => Qm.wdZ p q x y) l j)
          rw [← hV.out] at vi
          obtain ⟨⟨pa, pb⟩, hpp⟩ : ∃ p, p = l.getD j (0, 0) := ⟨_, rfl⟩
          obtain ⟨⟨qa, qb⟩, hqq⟩ : ∃ p, p = l.getD r (0, 0) := ⟨_, rfl⟩
          rw [← hpp] at r0 r1 AB
          rw [← hqq] at q0 q1 AB
          dsimp only at r0 r1 q0 q1 AB
          have b1 : (0 : Int) ≤ (r : Nat) := by omega
          have b2 : ((r : Nat) : Int) < (m : Nat) := by omega
          have b3 : (0 : Int) ≤ (j : Nat) + 1 := by omega
          have b4 : IntKind.i64.wrap ((j : Int) + 1) = (j : Int) + 1 := by rw [IntKind.wrap_i64]; omega
          have b5 : ((j : Int) + 1).tmod (m : Nat) = (r : Nat) := by rw [Int.tmod_eq_emod_of_nonneg b3]; exact er
          have b6 : ¬ (m : Int) = 0 := by omega
          have b8 : ¬ m = 0 := by omega
          have b9 : (m == 0) = false := by simp; omega
          have b7 : IntKind.i64.wrap ((r : Nat) : Int) = (r : Nat) := by rw [IntKind.wrap_i64]; omega
          have j0' : (0 : Int) ≤ (j : Nat) := by omega
          have j1' : ((j : Nat) : Int) < (m : Nat) := by omega
          have S0 := hid (show wr.drew.cell? ⟨g, q + j * 2, none⟩ = some (.int .i64 pa) ∧ wr.drew.cell? ⟨g, q + j * 2 + 1, none⟩ = some (.int .i64 pb) ∧ wr.drew.cell? ⟨g, q + r * 2, none⟩ = some (.int .i64 qa) ∧ wr.drew.cell? ⟨g, q + r * 2 + 1, none⟩ = some (.int .i64 qb) from ⟨r0, r1, q0, q1⟩)
          have HBD := hid (show Below w.heap.size w wr.drew from hb.out.trans ⟨rfl, rfl, rfl, Nat.le_refl _, fun _ _ => rfl⟩)
          have hgd : g < wr.drew.heap.size := by show g < wr.heap.size; omega
          clear hpp hqq hr hu NX E2 HP HS HM HL er
          go_wp2_with fail
          go_region_held3 (fun w' => w'.cell? ⟨g, q + j * 2, none⟩ = some (.int .i64 pa) ∧ w'.cell? ⟨g, q + j * 2 + 1, none⟩ = some (.int .i64 pb) ∧ w'.cell? ⟨g, q + r * 2, none⟩ = some (.int .i64 qa) ∧ w'.cell? ⟨g, q + r * 2 + 1, none⟩ = some (.int .i64 qb))
            (first | exact S0.out | exact (by assumption : _ ∧ _ ∧ _ ∧ _))
            (first | (go_at_call 69; refine (AB.out _).mono ?_; rintro e w2 ⟨rfl, hb2⟩; have hS2 : w2.cell? ⟨g, q + j * 2, none⟩ = some (.int .i64 pa) ∧ w2.cell? ⟨g, q + j * 2 + 1, none⟩ = some (.int .i64 pb) ∧ w2.cell? ⟨g, q + r * 2, none⟩ = some (.int .i64 qa) ∧ w2.cell? ⟨g, q + r * 2 + 1, none⟩ = some (.int .i64 qb) := ⟨(hb2.cell (p := ⟨g, q + j * 2, none⟩) hgd).trans S0.out.1, (hb2.cell (p := ⟨g, q + j * 2 + 1, none⟩) hgd).trans S0.out.2.1, (hb2.cell (p := ⟨g, q + r * 2, none⟩) hgd).trans S0.out.2.2.1, (hb2.cell (p := ⟨g, q + r * 2 + 1, none⟩) hgd).trans S0.out.2.2.2⟩; have B2 := hid (show Below w.heap.size w w2 from HBD.out.trans (hb2.mono HBD.out.size)); clear hb2))
          clear r0 r1 q0 q1 S0 hS2 b1 b2 b3 b4 b5 b6 b7 b8 b9
          go_wp2
          go_roundw
          case rel => exact ⟨j + 1, wrap64 (v + u), by omega, by go_num, rfl, VN, B2⟩
          case measure => simp [intOf]; omega
        · have ZN := hid (show v = wrap64 (totW L x y (k + 1)) by rw [TS.out, hV.out, show j = m by omega])
          have hj' : ((m : Nat) : Int) ≤ (j : Nat) := by omega
          go_wp2
          go_roundw
          case rel => exact ⟨k + 1, v, by omega, by go_num, rfl, ZN, hb⟩
          case measure => simp [intOf]; omega
    · have hk' : ((n : Nat) : Int) ≤ (k : Nat) := by omega
      have ek : k = n := by omega
      go_wp2
      go_ret
      exact ⟨ret_int (by rw [hZ.out, ek]), hb.out⟩

end Go.Proofs.Ytljfiefobnncaaa
