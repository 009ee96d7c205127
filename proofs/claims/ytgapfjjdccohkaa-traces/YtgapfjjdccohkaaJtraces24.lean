/- outlinelaw: same, traced, Traces. -/
import Derived.Test.YtgapfjjdccohkaaJtraces17
import Derived.Test.YtgapfjjdccohkaaJtraces23
namespace Go.Proofs.Ytgapfjjdccohkaa
open Go.RowKit
attribute [local go_sem ↓] Go.wp_at_zero Go.wp_at_succ

set_option maxRecDepth 4000 in
set_option maxHeartbeats 1000000 in
theorem sameP_any (vl vm : Value) (La Lm : List (Value × List (Int × Int))) (w : World) (hR : La.map (·.2) = Lm.map (·.2)) (ha : ShownP vl La w) (hb : ShownP vm Lm w) (hn1 : La.length ≤ 9223372036854775807) (hm1 : ∀ p ∈ La, p.2.length ≤ 9223372036854775807) :
    Calls Try.prog 32 #[vl, vm] w fun e w' => e = .returned (.bool true) ∧ Below w.heap.size w w' := by
  have hlen : La.length = Lm.length := by have := congrArg List.length hR; simpa using this
  obtain ⟨aa, ca, rfl, hra⟩ := ha.row
  obtain ⟨ab, cb, rfl, hrb⟩ := hb.row
  obtain ⟨n, hn⟩ : ∃ n, n = La.length := ⟨_, rfl⟩
  rw [← hlen] at hrb ⊢
  rw [← hn] at hra hrb hn1 ⊢
  have HM1 := hid hm1
  clear hm1
  have HN := hid hn
  have HLEN := hid hlen
  have HRA := hid hra
  have HRB := hid hrb
  have HA := hid ha.pts
  have HB := hid hb.pts
  have HR := hid hR
  clear hn hlen hra hrb ha hb hR
  go_enter Try.func32, Try.ntmps32
  go_wp2
  go_loopw [5] (fun iv wr => ∃ i : Nat, i ≤ n ∧ iv = .int .i64 i ∧ Below w.heap.size w wr) (fun i _ => n - (intOf i).toNat)
  case atStart => exact ⟨0, by omega, rfl, Below.refl _ _⟩
  case round =>
    obtain ⟨i, hin, rfl, hbl⟩ := hrel
    have BL := hid hbl
    clear hbl
    by_cases hlt : i < n
    · obtain ⟨ga, rfl, hga, hca⟩ := HRA.out.resolve_left (by omega)
      obtain ⟨gb, rfl, hgb, hcb⟩ := HRB.out.resolve_left (by omega)
      have hia : i < La.length := by have := HN.out; omega
      have hib : i < Lm.length := by have := HN.out; have := HLEN.out; omega
      have sa := shpP_at La i hia
      have sb := shpP_at Lm i hib
      have e2 : La[i].2 = Lm[i].2 := by
        have := congrArg (fun l => l[i]?) HR.out
        simpa [hia, hib] using this
      obtain ⟨pa, hpa⟩ : ∃ p, p = La[i] := ⟨_, rfl⟩
      obtain ⟨pb, hpb⟩ : ∃ p, p = Lm[i] := ⟨_, rfl⟩
      obtain ⟨g1, c1, v1, n1, t1⟩ := HA.out pa (by rw [hpa]; exact List.getElem_mem hia)
      obtain ⟨g2, c2, v2, n2, t2⟩ := HB.out pb (by rw [hpb]; exact List.getElem_mem hib)
      rw [← hpa] at sa e2
      rw [← hpb] at sb e2
      rw [← e2] at sb t2 v2 n2
      obtain ⟨m, hm⟩ : ∃ m, m = pa.2.length := ⟨_, rfl⟩
      have mb : m ≤ 9223372036854775807 := by rw [hm]; exact HM1.out pa (by rw [hpa]; exact List.getElem_mem hia)
      obtain ⟨tw, htw⟩ : ∃ tw, tw = Qm.twiceOf pa.2 := ⟨_, rfl⟩
      obtain ⟨ps, hps⟩ : ∃ ps, ps = pa.2 := ⟨_, rfl⟩
      have lps : ps.length = m := by rw [hps, hm]
      rw [← hps] at t1 t2
      rw [v1, ← htw] at sa
      rw [v2, ← htw] at sb
      rw [← hm] at sa sb n1
      have rd : ∀ wx : World, Below w.heap.size w wx → wx.cell? ⟨ga, i * 2, none⟩ = some (.slice (some ⟨g1, 0, none⟩) m c1) ∧ wx.cell? ⟨ga, i * 2 + 1, none⟩ = some (.int .i64 tw) ∧ wx.cell? ⟨gb, i * 2, none⟩ = some (.slice (some ⟨g2, 0, none⟩) m c2) ∧ wx.cell? ⟨gb, i * 2 + 1, none⟩ = some (.int .i64 tw) := fun wx hx =>
        ⟨(hx.cell (p := ⟨ga, i * 2, none⟩) hga).trans (hca _ _ sa.1), (hx.cell (p := ⟨ga, i * 2 + 1, none⟩) hga).trans (hca _ _ sa.2), (hx.cell (p := ⟨gb, i * 2, none⟩) hgb).trans (hcb _ _ sb.1), (hx.cell (p := ⟨gb, i * 2 + 1, none⟩) hgb).trans (hcb _ _ sb.2)⟩
      have RD := hid rd
      have T1 := hid t1
      have T2 := hid t2
      have LPS := hid lps
      have i0' : (0 : Int) ≤ (i : Nat) := by omega
      have i1' : ((i : Nat) : Int) < (n : Nat) := by omega
      clear rd t1 t2 sa sb hpa hpb hm htw hps v1 v2 hca hcb e2 lps n2
      obtain ⟨r0, r1, r2, r3⟩ := RD.out _ BL.out
      go_wp2_with fail
      go_quiet (fail)
      go_wp2
      go_loopw [6] (fun kv wr => ∃ k : Nat, k ≤ m ∧ kv = .int .i64 k ∧ Below w.heap.size w wr) (fun k _ => m - (intOf k).toNat)
      case atStart => exact ⟨0, by omega, rfl, BL.out.trans ⟨rfl, rfl, rfl, Nat.le_refl _, fun _ _ => rfl⟩⟩
      case round =>
        clear r0 r1 r2 r3 BL
        obtain ⟨k, hkm, rfl, hbl⟩ := hrel
        have BL := hid hbl
        clear hbl
        obtain ⟨r0, r1, r2, r3⟩ := RD.out _ BL.out
        by_cases hk : k < m
        · obtain ⟨x0, x1⟩ := (T1.out.on BL.out T1.out.1).2 k (by have := LPS.out; omega)
          obtain ⟨y0, y1⟩ := (T2.out.on BL.out T2.out.1).2 k (by have := LPS.out; omega)
          obtain ⟨⟨px, py⟩, hpp⟩ : ∃ p, p = ps.getD k (0, 0) := ⟨_, rfl⟩
          rw [← hpp] at x0 x1 y0 y1
          dsimp only at x0 x1 y0 y1
          have k0' : (0 : Int) ≤ (k : Nat) := by omega
          have k1' : ((k : Nat) : Int) < (m : Nat) := by omega
          clear hpp
          go_wp2_with fail
          go_quiet (fail)
          go_wp2
          go_roundw
          case rel => exact ⟨k + 1, by omega, by go_num, BL.out.trans ⟨rfl, rfl, rfl, Nat.le_refl _, fun _ _ => rfl⟩⟩
          case measure => simp [intOf]; omega
        · have hk' : ((m : Nat) : Int) ≤ (k : Nat) := by omega
          go_wp2
          go_roundw
          case rel => exact ⟨i + 1, by omega, by go_num, BL.out⟩
          case measure => simp [intOf]; omega
    · have hk' : ((n : Nat) : Int) ≤ (i : Nat) := by omega
      go_wp2
      go_ret
      exact ⟨rfl, BL.out⟩

theorem may_spk {W H : Int} {l : List UInt8} {pol spk : Int} (h : mayB W H l pol spk = true) : 0 ≤ spk ∧ spk ≤ 1024 := by
  unfold mayB at h
  simp only [Bool.and_eq_true, decide_eq_true_eq] at h
  exact h.2
theorem apP_new {kb N : Nat} {vp vs : Value} {P S : List Rec} {w : World} (h : OBook kb N vp vs P S w) {v : Value} (hv : ∀ k, v.ownBlock = some k → w.heap.size ≤ k) : Ap kb vp vs P S v := fun k hk => by
  have hz := hv k hk
  refine ⟨by have := h.lt; omega, fun e => by have := (h.po.lt k e).2; omega, fun e => by have := (h.so.lt k e).2; omega, fun r hr u hu e => by have := h.old r hr u hu k e; omega⟩

/-- A book that was just made. -/
theorem OBook.newP (kb : Nat) (w : World) (lt : kb < w.heap.size) (c0 : w.cell? ⟨kb, 0, none⟩ = some (.int .i64 (0 : Nat))) (c1 : w.cell? ⟨kb, 1, none⟩ = some (.slice none 0 0)) (c2 : w.cell? ⟨kb, 2, none⟩ = some (.slice none 0 0)) (fz : ∀ j, w.frozen? ⟨kb, j, none⟩ = false) :
    OBook kb 0 (.slice none 0 0) (.slice none 0 0) [] [] w where
  lt := lt
  c0 := c0
  c1 := c1
  c2 := c2
  fz := fz
  po := World.ownsRow_nil _ _ _ _
  so := World.ownsRow_nil _ _ _ _
  mp := by simp
  ms := by simp
  a1 := by simp [Value.ownBlock]
  a2 := by simp [Value.ownBlock]
  a3 := by simp [Value.ownBlock]
  far := by simp
  old := by simp
  few := by simp


set_option maxRecDepth 4000 in
set_option maxHeartbeats 2000000 in
theorem traced_any (kb N : Nat) (vp vs : Value) (P S : List Rec) (W H : Int) (s : ByteArray) (pol : Int) (draws : ByteArray) (spk : Int) (w : World) (hO : OBook kb N vp vs P S w) (hN : N ≤ 1000000000) :
    Calls Try.prog 23 #[.pointer (some ⟨kb, 0, none⟩), .agg #[.int .i64 W, .int .i64 H, .string s], .agg #[.int .i64 pol, .string draws, .int .i64 spk]] w fun e w' => e = .returned (.bool true) ∧ ∃ N' vp' vs' P' S', OBook kb N' vp' vs' P' S' w' ∧ N' ≤ N + 1201 ∧ Fr (fun k => k = kb ∨ vp.ownBlock = some k ∨ vs.ownBlock = some k) w w' := by
  have HO := hid hO
  clear hO
  cases hm : mayB W H s.data.toList pol spk
  · go_enter Try.func23, Try.ntmps23
    go_wp2_with fail
    refine (trace_no W H s pol draws spk _ hm).mono ?_
    rintro e w1 ⟨rfl, b1⟩
    have B1 := hid (show Below w.heap.size w w1 from Below.trans (b := _) (by go_grown) (b1.mono (by simp; omega)))
    obtain ⟨hc, hf⟩ := bcell b1
    have z1 := b1.size
    simp at z1
    clear b1
    go_wp2_with fail
    refine (refTrace_no W H s pol draws spk _ hm).mono ?_
    rintro e w2 ⟨rfl, b2⟩
    have B2 := hid (B1.out.trans (b2.mono B1.out.size))
    clear b2 hc hf
    go_wp2_with fail
    refine (sameP_any (.slice none 0 0) (.slice none 0 0) [] [] _ rfl ((RowP.nil 0 _).shown (by simp)) ((RowP.nil 0 _).shown (by simp)) (by simp) (by simp)).mono ?_
    rintro e w3 ⟨rfl, b3⟩
    have B3 := hid (B2.out.trans (b3.mono B2.out.size))
    clear b3
    go_wp2_with fail
    refine (keepP_any 0 (.slice none 0 0) [] kb N vp vs P S _ (HO.out.below B3.out) (RowP.nil 0 _) (by simp) (by simp) (by simp) (by omega) (by simp) (fun k hk => by simp [Value.ownBlock] at hk)).mono ?_
    rintro e w4 ⟨rfl, N', vp', vs', P', S', ho, hn', hfr⟩
    have OB := hid ho
    have FR := hid hfr
    clear ho hfr
    go_wp2
    go_ret
    refine ⟨rfl, N', vp', vs', P', S', OB.out, by simp at hn'; omega, (Fr.below B3.out).trans (FR.out.imp ?_)⟩
    intro k _ hk
    rcases hk with hk | hk | hk | hk | ⟨p, hp, _⟩
    · exact .inl hk
    · exact .inr (.inl hk)
    · exact .inr (.inr hk)
    · simp [Value.ownBlock] at hk
    · simp at hp
  · obtain ⟨hg, p0, p1⟩ := may_parts hm
    have sp := may_spk hm
    obtain ⟨W, H, rfl, rfl, h1, h2, h3, h4, h5⟩ := Pm.goodB_parts hg
    obtain ⟨pol, rfl⟩ : ∃ q : Nat, pol = q := ⟨pol.toNat, by omega⟩
    have hp3 : pol ≤ 3 := by omega
    have HL := hid h5
    clear h5 hg p0 p1
    go_enter Try.func23, Try.ntmps23
    go_wp2_with fail
    refine (trace_yes W H s pol draws spk _ hm h2 h4 HL.out hp3 sp.1 sp.2).mono ?_
    rintro e w1 ⟨vl, rfl, R, La, r1, p1, rw1, ln, b1⟩
    have B1 := hid (show Below w.heap.size w w1 from Below.trans (b := _) (by go_grown) (b1.mono (by simp; omega)))
    obtain ⟨hc, hf⟩ := bcell b1
    have z1 := b1.size
    simp at z1
    have R1 := hid r1
    have P1 := hid p1
    have RW1 := hid (show RowP (w.heap.size + 2) vl La w1 from rw1.mono (by simp))
    obtain ⟨ao, cap, rfl⟩ := own_len rw1.row
    clear b1 r1 rw1 p1
    go_wp2_with fail
    refine (refTrace_yes W H s pol draws spk _ hm h1 h2 h4 HL.out hp3 sp.1 sp.2).mono ?_
    rintro e w2 ⟨vm, rfl, R', Lm, r2, p2, rw2, b2⟩
    obtain rfl := R1.out.unique r2
    have B2 := hid (B1.out.trans (b2.mono B1.out.size))
    have P2 := hid p2
    have RF2 := hid rw2
    have RW2 := hid (RW1.out.on b2)
    obtain ⟨ao2, cap2, rfl⟩ := own_len rw2.row
    clear b2 hc hf r2 p2 rw2
    have PT := hid (show ∀ p : Value × List (Int × Int), p.2 ∈ Qm.polys (fB W H s pol draws) spk R → 0 < p.2.length ∧ p.2.length ≤ 4356 from fun p hp => by
      unfold Qm.polys at hp
      obtain ⟨c, hc, e⟩ := List.mem_map.1 hp
      have hcy := (R1.out.1 c (List.mem_filter.1 hc).1).1
      have h1 := Qm.cornL_le (Qm.ptsOf (fB W H s pol draws) c)
      have h3 := cyc_le h2 h4 hcy
      rw [Qm.ptsOf_len] at h1
      rw [← e]; exact ⟨Qm.cornL_pos (by rw [Qm.ptsOf_len]; exact hcy.2.1), by omega⟩)
    have POS := hid (show ∀ p ∈ La, 0 < p.2.length ∧ p.2.length ≤ 4356 from fun p hp => PT.out p (by rw [← P1.out]; exact List.mem_map_of_mem hp))
    have POM := hid (show ∀ p ∈ Lm, 0 < p.2.length from fun p hp => (PT.out p (by rw [← P2.out]; exact List.mem_map_of_mem hp)).1)
    have LN := hid (show La.length ≤ 1200 by
      have h1 := congrArg List.length P1.out
      unfold Qm.polys at h1
      simp only [List.length_map] at h1
      have := List.length_filter_le (Qm.bigB (fB W H s pol draws) spk) R
      omega)
    go_wp2_with fail
    refine (sameP_any _ _ La Lm _ (P1.out.trans P2.out.symm) (RW2.out.shown fun p hp => (POS.out p hp).1) (RF2.out.shown POM.out) (own_max RW2.out.row) (fun p hp => by have := (POS.out p hp).2; omega)).mono ?_
    rintro e w3 ⟨rfl, b3⟩
    have B3 := hid (B2.out.trans (b3.mono B2.out.size))
    have RW3 := hid (RW2.out.on b3)
    clear b3
    go_wp2_with fail
    refine (keepP_any (w.heap.size + 2) _ La kb N vp vs P S _ (HO.out.below B3.out) RW3.out (fun p hp => (POS.out p hp).1) (fun p hp => by have := (POS.out p hp).2; omega) (by have := LN.out; omega) (by omega) (fun p hp => apP_new HO.out (fun k hk => by have := ((RW3.out.pts p hp).lt k hk).1; omega)) (apP_new HO.out (fun k hk => by have := (RW3.out.row.lt k hk).1; omega))).mono ?_
    rintro e w4 ⟨rfl, N', vp', vs', P', S', ho, hn', hfr⟩
    have OB := hid ho
    have FR := hid hfr
    clear ho hfr
    go_wp2
    go_ret
    have z3 := B3.out.size
    have fr2 : Fr (fun k => k = kb ∨ vp.ownBlock = some k ∨ vs.ownBlock = some k) w w4 := by
      refine ⟨FR.out.os.trans B3.out.os, FR.out.tape.trans B3.out.tape, FR.out.output.trans B3.out.output, Nat.le_trans z3 FR.out.size, fun k hk hc => (FR.out.block k (by omega) (fun hc2 => ?_)).trans (B3.out.block k hk)⟩
      rcases hc2 with e | e | e | e | ⟨p, hp, e⟩
      · exact hc (.inl e)
      · exact hc (.inr (.inl e))
      · exact hc (.inr (.inr e))
      · have := (RW3.out.row.lt k e).1; omega
      · have := ((RW3.out.pts p hp).lt k e).1; omega
    exact ⟨rfl, N', vp', vs', P', S', OB.out, by have := LN.out; omega, fr2⟩

set_option maxRecDepth 4000 in
set_option maxHeartbeats 1000000 in
theorem tracesLaw_any (W H : Int) (s : ByteArray) (pol : Int) (draws : ByteArray) (spk : Int) (w : World) :
    Calls Try.prog 6 #[.agg #[.int .i64 W, .int .i64 H, .string s], .agg #[.int .i64 pol, .string draws, .int .i64 spk]] w fun e w' => e = .returned (.bool true) ∧ Below w.heap.size w w' := by
  go_enter Try.func6, Try.ntmps6
  go_wp2_with fail
  have hN := OBook.newP (w.heap.size + 1 + 1) (((w.alloc (.cells #[.int .i64 W, .int .i64 H, .string s] 23)).alloc (.cells #[.int .i64 pol, .string draws, .int .i64 spk] 25)).alloc (.cells #[.int .i64 0, .slice none 0 0, .slice none 0 0] 30))
    (by simp) (by simp [go_sem]) (by simp [go_sem]) (by simp [go_sem]) (fun j => by simp [go_sem])
  refine (traced_any _ 0 _ _ [] [] W H s pol draws spk _ hN (by omega)).mono ?_
  rintro e w1 ⟨rfl, N', vp', vs', P', S', ho, -, hfr⟩
  have B1 := hid (show Below w.heap.size w w1 from by
    have z := hfr.size
    simp at z
    refine Below.trans (b := ((w.alloc (.cells #[.int .i64 W, .int .i64 H, .string s] 23)).alloc (.cells #[.int .i64 pol, .string draws, .int .i64 spk] 25)).alloc (.cells #[.int .i64 0, .slice none 0 0, .slice none 0 0] 30)) (by go_grown) ⟨hfr.os, hfr.tape, hfr.output, hfr.size, fun k hk => hfr.block k (by simp; omega) (fun hc => ?_)⟩
    rcases hc with e | e | e
    · omega
    · simp [Value.ownBlock] at e
    · simp [Value.ownBlock] at e)
  have OB := hid ho
  clear ho hfr hN
  go_wp2_with fail
  refine (looks_any _ _ _ _ _ _ _ OB.out.book).mono ?_
  rintro e w2 ⟨rfl, b2⟩
  have B2 := hid (B1.out.trans (b2.mono B1.out.size))
  clear b2
  go_wp2
  go_ret
  exact ⟨rfl, B2.out⟩
end Go.Proofs.Ytgapfjjdccohkaa
