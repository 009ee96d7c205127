/- outlinelaw: looks. -/
import Derived.Test.YtljfiefobnncaaaEb
namespace Go.Proofs.Ytljfiefobnncaaa
open Go.RowKit

set_option maxRecDepth 4000 in
set_option maxHeartbeats 1000000 in
theorem looks_any (kb : Nat) (N : Int) (vp vs : Value) (P S : List Rec) (w : World) (h : BookAt kb N vp vs P S w) :
    Calls Try.prog 12 #[.pointer (some ⟨kb, 0, none⟩)] w fun e w' => e = .returned (.bool true) ∧ Below w.heap.size w w' := by
  obtain ⟨ap, cp, rfl, hnp, hp⟩ := h.p.1
  obtain ⟨asl, cs, rfl, hns, hs⟩ := h.s.1
  have HB := hid h
  obtain ⟨np, enp⟩ : ∃ np, np = P.length := ⟨_, rfl⟩
  obtain ⟨ns, ens⟩ : ∃ ns, ns = S.length := ⟨_, rfl⟩
  rw [← enp, ← ens] at HB
  rw [← enp] at hnp hp
  rw [← ens] at hns hs
  have HNp := hid enp
  have HNs := hid ens
  have HP := hid hp
  have HS := hid hs
  have BL0 := hid (Below.refl w.heap.size w)
  have c0 := HB.out.c0
  have c1 := HB.out.c1
  have c2 := HB.out.c2
  have kz0 := HB.out.lt
  clear h enp ens hp hs
  go_enter Try.func12, Try.ntmps12
  go_wp2
  go_loopw [3, 4] (fun ok iv wr => ∃ i : Nat, i ≤ np ∧ ok = .bool true ∧ iv = .int .i64 i ∧ Below w.heap.size w wr) (fun _ i _ => np - (intOf i).toNat)
  case atStart => exact ⟨0, by omega, rfl, rfl, BL0.out⟩
  case round =>
    clear c0 c1 c2 kz0 BL0
    obtain ⟨i, hin, rfl, rfl, hbl⟩ := hrel
    have BK := hid (HB.out.call hbl)
    have BL := hid hbl
    have c0 := BK.out.c0
    have c1 := BK.out.c1
    have c2 := BK.out.c2
    clear hbl
    by_cases hlt : i < np
    · obtain ⟨g, rfl, hg, hc⟩ := HP.out.resolve_left (by omega)
      have hiP : i < P.length := by have := HNp.out; omega
      obtain ⟨r, hr⟩ : ∃ r, r = P.getD i rec0 := ⟨_, rfl⟩
      have hmem : r ∈ P := by rw [hr, List.getD_eq_getElem?_getD, List.getElem?_eq_getElem hiP]; exact List.getElem_mem hiP
      have mk := BK.out.p.2 r hmem
      have rv := recsV_at P i hiP
      rw [← hr] at rv
      obtain ⟨rl, rg, rh, ri, mark⟩ := r
      obtain ⟨a1, n1, k1, rfl⟩ := mk.1.slice
      obtain ⟨a2, n2, k2, rfl⟩ := mk.2.1.slice
      obtain ⟨a3, n3, k3, rfl⟩ := mk.2.2.1.slice
      obtain ⟨a4, n4, k4, rfl⟩ := mk.2.2.2.slice
      dsimp only at rv
      have r0 := (BL.out.cell (p := ⟨g, i * 5, none⟩) hg).trans (hc _ _ rv.1)
      have r1 := (BL.out.cell (p := ⟨g, i * 5 + 1, none⟩) hg).trans (hc _ _ rv.2.1)
      have r2 := (BL.out.cell (p := ⟨g, i * 5 + 2, none⟩) hg).trans (hc _ _ rv.2.2.1)
      have r3 := (BL.out.cell (p := ⟨g, i * 5 + 3, none⟩) hg).trans (hc _ _ rv.2.2.2.1)
      have r4 := (BL.out.cell (p := ⟨g, i * 5 + 4, none⟩) hg).trans (hc _ _ rv.2.2.2.2)
      have MKH := hid mk
      have i0' : (0 : Int) ≤ (i : Nat) := by omega
      have i1' : ((i : Nat) : Int) < (np : Nat) := by omega
      have gz : g < wr.heap.size := Nat.lt_of_lt_of_le hg BL.out.size
      have kz : kb < wr.heap.size := BK.out.lt
      have wz := BL.out.size
      clear rv hr hmem mk hc
      go_wp2_with fail
      refine (marked_any _ mark _ (MKH.out.1.call ((Below.refl _ _).alloc (Nat.le_refl _) _))).mono ?_
      rintro e w1 ⟨rfl, rfl⟩
      go_wp2_with fail
      refine (marked_any _ mark _ (MKH.out.2.1.call ((Below.refl _ _).alloc (Nat.le_refl _) _))).mono ?_
      rintro e w1 ⟨rfl, rfl⟩
      go_wp2_with fail
      refine (marked_any _ mark _ (MKH.out.2.2.1.call ((Below.refl _ _).alloc (Nat.le_refl _) _))).mono ?_
      rintro e w1 ⟨rfl, rfl⟩
      go_wp2_with fail
      refine (marked_any _ mark _ (MKH.out.2.2.2.call ((Below.refl _ _).alloc (Nat.le_refl _) _))).mono ?_
      rintro e w1 ⟨rfl, rfl⟩
      go_wp2
      go_roundw
      case rel => exact ⟨i + 1, by omega, rfl, by go_num, BL.out.alloc wz _⟩
      case measure => simp [intOf]; omega
    · have hk' : ((np : Nat) : Int) ≤ (i : Nat) := by omega
      have kz0 := BK.out.lt
      have BL0 := BL
      go_wp2
      go_loopw [3, 10] (fun ok iv wr => ∃ i : Nat, i ≤ ns ∧ ok = .bool true ∧ iv = .int .i64 i ∧ Below w.heap.size w wr) (fun _ i _ => ns - (intOf i).toNat)
      case atStart => exact ⟨0, by omega, rfl, rfl, BL0.out⟩
      case round =>
        clear c0 c1 c2 kz0 BL0 BK BL hin hlt hk'
        obtain ⟨i, hin, rfl, rfl, hbl⟩ := hrel
        have BK := hid (HB.out.call hbl)
        have BL := hid hbl
        have c0 := BK.out.c0
        have c1 := BK.out.c1
        have c2 := BK.out.c2
        clear hbl
        by_cases hlt : i < ns
        · obtain ⟨g, rfl, hg, hc⟩ := HS.out.resolve_left (by omega)
          have hiP : i < S.length := by have := HNs.out; omega
          obtain ⟨r, hr⟩ : ∃ r, r = S.getD i rec0 := ⟨_, rfl⟩
          have hmem : r ∈ S := by rw [hr, List.getD_eq_getElem?_getD, List.getElem?_eq_getElem hiP]; exact List.getElem_mem hiP
          have mk := BK.out.s.2 r hmem
          have rv := recsV_at S i hiP
          rw [← hr] at rv
          obtain ⟨rl, rg, rh, ri, mark⟩ := r
          obtain ⟨a1, n1, k1, rfl⟩ := mk.1.slice
          obtain ⟨a2, n2, k2, rfl⟩ := mk.2.1.slice
          obtain ⟨a3, n3, k3, rfl⟩ := mk.2.2.1.slice
          obtain ⟨a4, n4, k4, rfl⟩ := mk.2.2.2.slice
          dsimp only at rv
          have r0 := (BL.out.cell (p := ⟨g, i * 5, none⟩) hg).trans (hc _ _ rv.1)
          have r1 := (BL.out.cell (p := ⟨g, i * 5 + 1, none⟩) hg).trans (hc _ _ rv.2.1)
          have r2 := (BL.out.cell (p := ⟨g, i * 5 + 2, none⟩) hg).trans (hc _ _ rv.2.2.1)
          have r3 := (BL.out.cell (p := ⟨g, i * 5 + 3, none⟩) hg).trans (hc _ _ rv.2.2.2.1)
          have r4 := (BL.out.cell (p := ⟨g, i * 5 + 4, none⟩) hg).trans (hc _ _ rv.2.2.2.2)
          have MKH := hid mk
          have i0' : (0 : Int) ≤ (i : Nat) := by omega
          have i1' : ((i : Nat) : Int) < (ns : Nat) := by omega
          have gz : g < wr.heap.size := Nat.lt_of_lt_of_le hg BL.out.size
          have kz : kb < wr.heap.size := BK.out.lt
          have wz := BL.out.size
          clear rv hr hmem mk hc
          go_wp2_with fail
          refine (shaped_any _ mark _ (MKH.out.1.call ((Below.refl _ _).alloc (Nat.le_refl _) _))).mono ?_
          rintro e w1 ⟨rfl, rfl⟩
          go_wp2_with fail
          refine (shaped_any _ mark _ (MKH.out.2.1.call ((Below.refl _ _).alloc (Nat.le_refl _) _))).mono ?_
          rintro e w1 ⟨rfl, rfl⟩
          go_wp2_with fail
          refine (shaped_any _ mark _ (MKH.out.2.2.1.call ((Below.refl _ _).alloc (Nat.le_refl _) _))).mono ?_
          rintro e w1 ⟨rfl, rfl⟩
          go_wp2_with fail
          refine (shaped_any _ mark _ (MKH.out.2.2.2.call ((Below.refl _ _).alloc (Nat.le_refl _) _))).mono ?_
          rintro e w1 ⟨rfl, rfl⟩
          go_wp2
          go_roundw
          case rel => exact ⟨i + 1, by omega, rfl, by go_num, BL.out.alloc wz _⟩
          case measure => simp [intOf]; omega
        · have hk' : ((ns : Nat) : Int) ≤ (i : Nat) := by omega
          go_wp2
          go_ret
          exact ⟨rfl, BL.out⟩
end Go.Proofs.Ytljfiefobnncaaa
