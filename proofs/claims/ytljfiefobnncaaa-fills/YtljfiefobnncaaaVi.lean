/- outlinelaw: same, whole, of shapes of whatever points. -/
import Derived.Test.YtljfiefobnncaaaVh
namespace Go.Proofs.Ytljfiefobnncaaa
open Go.RowKit

set_option maxRecDepth 4000 in
set_option maxHeartbeats 1000000 in
theorem sameS_any (ao bo : Option Addr) (n ca cb : Nat) (L : List ShT) (hn : n = L.length) (hn2 : n ≤ 140737488355328) (hm : ∀ i, (L.getD i sh0).1.length ≤ 140737488355328) (w : World) (hA : ShIs ao L w) (hB : ShIs bo L w) :
    Calls Try.prog 37 #[.slice ao n ca, .slice bo n cb] w fun e w' => e = .returned (.bool true) ∧ Below w.heap.size w w' := by
  have HA := hid hA
  have HB := hid hB
  have HM := hid hm
  have HN := hid hn
  clear hA hB hm hn
  go_enter Try.func37, Try.ntmps37
  go_wp2
  go_loopw [5] (fun iv wr => ∃ i : Nat, i ≤ n ∧ iv = .int .i64 i ∧ Hid (Below w.heap.size w wr)) (fun i _ => n - (intOf i).toNat)
  case atStart => exact ⟨0, by omega, rfl, Below.refl _ _⟩
  case round =>
    obtain ⟨i, hin, rfl, BL⟩ := hrel
    by_cases hlt : i < n
    · obtain ⟨ga, oa, rfl, hga, hca⟩ := HA.out.resolve_left (by have := HN.out; omega)
      obtain ⟨gb, ob, rfl, hgb, hcb⟩ := HB.out.resolve_left (by have := HN.out; omega)
      obtain ⟨pa, c1, a0, a1, a2⟩ := hca i (by have := HN.out; omega)
      obtain ⟨pb, c2, b0, b1, b2⟩ := hcb i (by have := HN.out; omega)
      have hmi := HM.out i
      obtain ⟨s, hs⟩ : ∃ s, s = L.getD i sh0 := ⟨_, rfl⟩
      rw [← hs] at a0 a1 a2 b0 b1 b2 hmi
      obtain ⟨ps, tw⟩ := s
      dsimp only at a0 a1 a2 b0 b1 b2 hmi
      obtain ⟨m, hmm⟩ : ∃ m, m = ps.length := ⟨_, rfl⟩
      rw [← hmm] at a0 a2 b0 b2 hmi
      have rd : ∀ wx : World, Below w.heap.size w wx → wx.cell? ⟨ga, oa + i * 2, none⟩ = some (.slice pa m c1) ∧ wx.cell? ⟨ga, oa + i * 2 + 1, none⟩ = some (.int .i64 tw) ∧ wx.cell? ⟨gb, ob + i * 2, none⟩ = some (.slice pb m c2) ∧ wx.cell? ⟨gb, ob + i * 2 + 1, none⟩ = some (.int .i64 tw) := fun wx hx =>
        ⟨(hx.cell (p := ⟨ga, oa + i * 2, none⟩) hga).trans a0, (hx.cell (p := ⟨ga, oa + i * 2 + 1, none⟩) hga).trans a1, (hx.cell (p := ⟨gb, ob + i * 2, none⟩) hgb).trans b0, (hx.cell (p := ⟨gb, ob + i * 2 + 1, none⟩) hgb).trans b1⟩
      have RD := hid rd
      have T1 := hid a2
      have T2 := hid b2
      have LPS := hid hmm
      have i0' : (0 : Int) ≤ (i : Nat) := by omega
      have i1' : ((i : Nat) : Int) < (n : Nat) := by omega
      clear rd a0 a1 a2 b0 b1 b2 hca hcb hs hmm
      obtain ⟨r0, r1, r2, r3⟩ := RD.out _ BL.out
      go_wp2_with fail
      go_quiet (fail)
      go_wp2
      go_loopw [6] (fun kv wr => ∃ k : Nat, k ≤ m ∧ kv = .int .i64 k ∧ Hid (Below w.heap.size w wr)) (fun k _ => m - (intOf k).toNat)
      case atStart => exact ⟨0, by omega, rfl, BL.out.trans ⟨rfl, rfl, rfl, Nat.le_refl _, fun _ _ => rfl⟩⟩
      case round =>
        clear r0 r1 r2 r3 BL
        obtain ⟨k, hkm, rfl, BL⟩ := hrel
        obtain ⟨r0, r1, r2, r3⟩ := RD.out _ BL.out
        by_cases hk : k < m
        · obtain ⟨g1, q1, rfl, t1⟩ := T1.out.resolve_left (by omega)
          obtain ⟨g2, q2, rfl, t2⟩ := T2.out.resolve_left (by omega)
          obtain ⟨x0, x1⟩ := (t1.on BL.out t1.1).2 k (by have := LPS.out; omega)
          obtain ⟨y0, y1⟩ := (t2.on BL.out t2.1).2 k (by have := LPS.out; omega)
          obtain ⟨⟨px, py⟩, hpp⟩ : ∃ p, p = ps.getD k (0, 0) := ⟨_, rfl⟩
          rw [← hpp] at x0 x1 y0 y1
          dsimp only at x0 x1 y0 y1
          have k0' : (0 : Int) ≤ (k : Nat) := by omega
          have k1' : ((k : Nat) : Int) < (m : Nat) := by omega
          clear hpp t1 t2
          go_wp2_with fail
          go_quiet (fail)
          go_wp2
          go_roundw
          case rel => exact ⟨k + 1, by omega, by go_num, BL.out.trans ⟨rfl, rfl, rfl, Nat.le_refl _, fun _ _ => rfl⟩⟩
          case measure => simp [intOf]; omega
        · have hk' : ((m : Nat) : Int) ≤ (k : Nat) := by omega
          go_wp2
          go_roundw
          case rel => exact ⟨i + 1, by omega, by go_num, BL⟩
          case measure => simp [intOf]; omega
    · have hk' : ((n : Nat) : Int) ≤ (i : Nat) := by omega
      go_wp2
      go_ret
      exact ⟨rfl, BL.out⟩

end Go.Proofs.Ytljfiefobnncaaa
