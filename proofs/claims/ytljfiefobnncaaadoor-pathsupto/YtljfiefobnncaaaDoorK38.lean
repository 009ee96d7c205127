/- outlinelaw: same, of lists of shapes that may be read; a book that was just made. -/
import Derived.Test.YtljfiefobnncaaaDoorK37
namespace Go.Proofs.YtljfiefobnncaaaDoor
open Go.RowKit
attribute [local go_sem ↓] Go.wp_at_zero Go.wp_at_succ

set_option maxRecDepth 4000 in
set_option maxHeartbeats 1000000 in
theorem sameP_any (vl vm : Value) (La Lm : List (Value × List (Int × Int))) (w : World) (hR : La.map (·.2) = Lm.map (·.2)) (ha : ShownP vl La w) (hb : ShownP vm Lm w) (hn1 : La.length ≤ 9223372036854775807) (hm1 : ∀ p ∈ La, p.2.length ≤ 9223372036854775807) :
    Calls Tryd.prog 34 #[vl, vm] w fun e w' => e = .returned (.bool true) ∧ Below w.heap.size w w' := by
  have hlen : La.length = Lm.length := by have := congrArg List.length hR; simpa using this
  obtain ⟨aa, ca, rfl, hra⟩ := ha.row
  obtain ⟨ab, cb, rfl, hrb⟩ := hb.row
  obtain ⟨n, hn⟩ : ∃ n, n = La.length := ⟨_, rfl⟩
  rw [← hlen] at hrb ⊢
  rw [← hn] at hra hrb hn1 ⊢
  have HM1 := hid hm1
  clear hm1
  have HN := hid hn
  have HLEN := hid hlen
  have HRA := hid hra
  have HRB := hid hrb
  have HA := hid ha.pts
  have HB := hid hb.pts
  have HR := hid hR
  clear hn hlen hra hrb ha hb hR
  go_enter Tryd.func34, Tryd.ntmps34
  go_wp2
  go_loopw [5] (fun iv wr => ∃ i : Nat, i ≤ n ∧ iv = .int .i64 i ∧ Below w.heap.size w wr) (fun i _ => n - (intOf i).toNat)
  case atStart => exact ⟨0, by omega, rfl, Below.refl _ _⟩
  case round =>
    obtain ⟨i, hin, rfl, hbl⟩ := hrel
    have BL := hid hbl
    clear hbl
    by_cases hlt : i < n
    · obtain ⟨ga, rfl, hga, hca⟩ := HRA.out.resolve_left (by omega)
      obtain ⟨gb, rfl, hgb, hcb⟩ := HRB.out.resolve_left (by omega)
      have hia : i < La.length := by have := HN.out; omega
      have hib : i < Lm.length := by have := HN.out; have := HLEN.out; omega
      have sa := shpP_at La i hia
      have sb := shpP_at Lm i hib
      have e2 : La[i].2 = Lm[i].2 := by
        have := congrArg (fun l => l[i]?) HR.out
        simpa [hia, hib] using this
      obtain ⟨pa, hpa⟩ : ∃ p, p = La[i] := ⟨_, rfl⟩
      obtain ⟨pb, hpb⟩ : ∃ p, p = Lm[i] := ⟨_, rfl⟩
      obtain ⟨g1, c1, v1, n1, t1⟩ := HA.out pa (by rw [hpa]; exact List.getElem_mem hia)
      obtain ⟨g2, c2, v2, n2, t2⟩ := HB.out pb (by rw [hpb]; exact List.getElem_mem hib)
      rw [← hpa] at sa e2
      rw [← hpb] at sb e2
      rw [← e2] at sb t2 v2 n2
      obtain ⟨m, hm⟩ : ∃ m, m = pa.2.length := ⟨_, rfl⟩
      have mb : m ≤ 9223372036854775807 := by rw [hm]; exact HM1.out pa (by rw [hpa]; exact List.getElem_mem hia)
      obtain ⟨tw, htw⟩ : ∃ tw, tw = Qm.twiceOf pa.2 := ⟨_, rfl⟩
      obtain ⟨ps, hps⟩ : ∃ ps, ps = pa.2 := ⟨_, rfl⟩
      have lps : ps.length = m := by rw [hps, hm]
      rw [← hps] at t1 t2
      rw [v1, ← htw] at sa
      rw [v2, ← htw] at sb
      rw [← hm] at sa sb n1
      have rd : ∀ wx : World, Below w.heap.size w wx → wx.cell? ⟨ga, i * 2, none⟩ = some (.slice (some ⟨g1, 0, none⟩) m c1) ∧ wx.cell? ⟨ga, i * 2 + 1, none⟩ = some (.int .i64 tw) ∧ wx.cell? ⟨gb, i * 2, none⟩ = some (.slice (some ⟨g2, 0, none⟩) m c2) ∧ wx.cell? ⟨gb, i * 2 + 1, none⟩ = some (.int .i64 tw) := fun wx hx =>
        ⟨(hx.cell (p := ⟨ga, i * 2, none⟩) hga).trans (hca _ _ sa.1), (hx.cell (p := ⟨ga, i * 2 + 1, none⟩) hga).trans (hca _ _ sa.2), (hx.cell (p := ⟨gb, i * 2, none⟩) hgb).trans (hcb _ _ sb.1), (hx.cell (p := ⟨gb, i * 2 + 1, none⟩) hgb).trans (hcb _ _ sb.2)⟩
      have RD := hid rd
      have T1 := hid t1
      have T2 := hid t2
      have LPS := hid lps
      have i0' : (0 : Int) ≤ (i : Nat) := by omega
      have i1' : ((i : Nat) : Int) < (n : Nat) := by omega
      clear rd t1 t2 sa sb hpa hpb hm htw hps v1 v2 hca hcb e2 lps n2
      obtain ⟨r0, r1, r2, r3⟩ := RD.out _ BL.out
      go_wp2_with fail
      go_quiet (fail)
      go_wp2
      go_loopw [6] (fun kv wr => ∃ k : Nat, k ≤ m ∧ kv = .int .i64 k ∧ Below w.heap.size w wr) (fun k _ => m - (intOf k).toNat)
      case atStart => exact ⟨0, by omega, rfl, BL.out.trans ⟨rfl, rfl, rfl, Nat.le_refl _, fun _ _ => rfl⟩⟩
      case round =>
        clear r0 r1 r2 r3 BL
        obtain ⟨k, hkm, rfl, hbl⟩ := hrel
        have BL := hid hbl
        clear hbl
        obtain ⟨r0, r1, r2, r3⟩ := RD.out _ BL.out
        by_cases hk : k < m
        · obtain ⟨x0, x1⟩ := (T1.out.on BL.out T1.out.1).2 k (by have := LPS.out; omega)
          obtain ⟨y0, y1⟩ := (T2.out.on BL.out T2.out.1).2 k (by have := LPS.out; omega)
          obtain ⟨⟨px, py⟩, hpp⟩ : ∃ p, p = ps.getD k (0, 0) := ⟨_, rfl⟩
          rw [← hpp] at x0 x1 y0 y1
          dsimp only at x0 x1 y0 y1
          have k0' : (0 : Int) ≤ (k : Nat) := by omega
          have k1' : ((k : Nat) : Int) < (m : Nat) := by omega
          clear hpp
          go_wp2_with fail
          go_quiet (fail)
          go_wp2
          go_roundw
          case rel => exact ⟨k + 1, by omega, by go_num, BL.out.trans ⟨rfl, rfl, rfl, Nat.le_refl _, fun _ _ => rfl⟩⟩
          case measure => simp [intOf]; omega
        · have hk' : ((m : Nat) : Int) ≤ (k : Nat) := by omega
          go_wp2
          go_roundw
          case rel => exact ⟨i + 1, by omega, by go_num, BL.out⟩
          case measure => simp [intOf]; omega
    · have hk' : ((n : Nat) : Int) ≤ (i : Nat) := by omega
      go_wp2
      go_ret
      exact ⟨rfl, BL.out⟩

theorem apP_new {kb N : Nat} {vp vs : Value} {P S : List Rec} {w : World} (h : OBook kb N vp vs P S w) {v : Value} (hv : ∀ k, v.ownBlock = some k → w.heap.size ≤ k) : Ap kb vp vs P S v := fun k hk => by
  have hz := hv k hk
  refine ⟨by have := h.lt; omega, fun e => by have := (h.po.lt k e).2; omega, fun e => by have := (h.so.lt k e).2; omega, fun r hr u hu e => by have := h.old r hr u hu k e; omega⟩

/-- A book that was just made. -/
theorem OBook.newP (kb : Nat) (w : World) (lt : kb < w.heap.size) (c0 : w.cell? ⟨kb, 0, none⟩ = some (.int .i64 (0 : Nat))) (c1 : w.cell? ⟨kb, 1, none⟩ = some (.slice none 0 0)) (c2 : w.cell? ⟨kb, 2, none⟩ = some (.slice none 0 0)) (fz : ∀ j, w.frozen? ⟨kb, j, none⟩ = false) :
    OBook kb 0 (.slice none 0 0) (.slice none 0 0) [] [] w where
  lt := lt
  c0 := c0
  c1 := c1
  c2 := c2
  fz := fz
  po := World.ownsRow_nil _ _ _ _
  so := World.ownsRow_nil _ _ _ _
  mp := by simp
  ms := by simp
  a1 := by simp [Value.ownBlock]
  a2 := by simp [Value.ownBlock]
  a3 := by simp [Value.ownBlock]
  far := by simp
  old := by simp
  few := by simp

end Go.Proofs.YtljfiefobnncaaaDoor
