/- outlinekeep: Returned. -/
import Derived.Test.YtljfiefobnncaabK30
namespace Go.Proofs.Ytljfiefobnncaab
open Go.RowKit
attribute [local go_sem ↓] Go.wp_at_zero Go.wp_at_succ

set_option maxRecDepth 4000 in
set_option maxHeartbeats 4000000 in
theorem returned_any (ao : Option Addr) (len cap : Nat) (a h p : Int) (draws : ByteArray) (w : World) (hraw : RawIs ao len w) (hlen : len ≤ 140737488355328) (a1 : -9223372036854775808 ≤ a) (a2 : a ≤ 9223372036854775807) (h1 : -9223372036854775808 ≤ h) (h2 : h ≤ 9223372036854775807) (p1 : -9223372036854775808 ≤ p) (p2 : p ≤ 9223372036854775807) :
    Calls Try.prog 3 #[.slice ao len cap, .int .i64 a, .int .i64 h, .int .i64 p, .string draws] w fun e w' => e = .returned (.bool true) ∧ Below w.heap.size w w' := by
  have RW := hid hraw
  clear hraw
  go_enter Try.func3, Try.ntmps3
  go_wp2_with fail
  refine (traces_any _).mono ?_
  rintro e w1 ⟨rfl, hb⟩
  have B1 := hid (show Below w.heap.size w w1 from hb)
  clear hb
  go_wp2_with fail
  refine (built_most 32 (by omega) (by omega) ao len cap a h _ (RW.out.on B1.out) hlen a1 a2 h1 h2).mono ?_
  rintro e w2 ⟨⟨W, H, l, rfl, W1, W2, H1, H2, hl, hall⟩, hb⟩
  have MAY := hid (fun (pol : Nat) (hp : pol ≤ 3) => show mayB W H (⟨l.toArray⟩ : ByteArray).data.toList pol 0 = true from may_of (good_of W1 W2 H1 H2 hl hall) (by omega) (by omega) (by omega) (by omega))
  have HL := hid (show (⟨l.toArray⟩ : ByteArray).size = W * H from hl)
  have LL := hid hl
  have LA := hid hall
  have B2 := hid (show Below w.heap.size w w2 from B1.out.trans (hb.mono B1.out.size))
  clear hall hl hb RW
  obtain ⟨s, hs⟩ : ∃ s : ByteArray, s = ⟨l.toArray⟩ := ⟨_, rfl⟩
  have SL := hid (show s.data.toList = l by rw [hs])
  have SE := hid hs
  rw [← hs] at MAY HL ⊢
  clear hs
  go_wp2_with fail
  refine (options_any p draws p1 p2 _).mono ?_
  rintro e w3 ⟨⟨pol, rfl, hpol⟩, hb⟩
  have X0 := hid ((Box3.new w2 (.int .i64 W) (.int .i64 H) (.string s) 25).on hb)
  have Y0 := hid ((X0.out.alloc (.cells #[.int .i64 pol, .string draws, .int .i64 0] 28)))
  have O0 := hid (Box3.new w3 (.int .i64 pol) (.string draws) (.int .i64 0) 28)
  have B3 := hid (show Below w.heap.size w w3 from B2.out.trans (X0.out.2.2.1.mono B2.out.size))
  clear hb
  obtain ⟨⟨y0, y1, y2⟩, -, -, -⟩ := X0.out
  have k3 : w2.heap.size < w3.heap.size := X0.out.2.2.2
  go_wp2_with fail
  refine (cycles_yes W H s pol draws 0 _ (MAY.out pol hpol) W2 H2 HL.out hpol).mono ?_
  rintro e w4 ⟨vl, rfl, L0, hR, hRow, hb4, hLn⟩
  have RP4 := hid hRow.rowPk
  have Y4 := hid (Y0.out.on hb4)
  have O4 := hid (O0.out.on hb4)
  have B4 := hid (show Below w.heap.size w w4 from (B3.out.alloc B3.out.size _).trans (hb4.mono (by have := B3.out.size; simp; omega)))
  have RES := hid hR
  obtain ⟨R, hRR⟩ : ∃ R, R = L0.map (·.2) := ⟨_, rfl⟩
  obtain ⟨f, hf⟩ : ∃ f, f = fB W H s pol draws := ⟨_, rfl⟩
  obtain ⟨Lc, hLc⟩ : ∃ Lc, Lc = L0.map fun p => (p.1, Qm.ptsOf (fB W H s pol draws) p.2) := ⟨_, rfl⟩
  have ELC := hid (show Lc.map (·.2) = R.map (Qm.ptsOf f) by rw [hLc, hRR, hf]; simp)
  have LCN := hid (show Lc.length = R.length by rw [hLc, hRR]; simp)
  have hRn : R.length ≤ 1200 := by rw [hRR, List.length_map]; exact hLn
  rw [← hRR] at RES
  rw [← hLc] at RP4
  have HF := hid hf
  clear hR hRow hb4 y0 y1 y2 hRR hLc hLn hf
  obtain ⟨⟨y0, y1, y2⟩, -, -, -⟩ := Y4.out
  obtain ⟨⟨o0, o1, o2⟩, -, -, -⟩ := O4.out
  go_wp2_with fail
  refine (trace_yes W H s pol draws 0 _ (MAY.out pol hpol) W2 H2 HL.out hpol (by omega) (by omega)).mono ?_
  rintro e w5 ⟨vm, rfl, R5, Lm, hR5, hLm, hRow5, -, hb5⟩
  obtain rfl := RES.out.unique hR5
  have RP5 := hid hRow5
  have Q5 := hid (RP4.out.on hb5)
  have Y5 := hid (Y4.out.on hb5)
  have B5 := hid (B4.out.trans (hb5.mono B4.out.size))
  have PZ := hid (show Lm.map (·.2) = R.map fun c => Qm.cornL (Qm.ptsOf f c) by rw [hLm, HF.out]; exact Qm.polys_zero RES.out (Qm.pic_of W H s.data.toList W2 H2))
  have SM := hid (show ∀ c ∈ R, Qm.Small (Qm.ptsOf f c) ∧ c.2 ≤ 4356 ∧ 0 < c.2 from fun c hc => by rw [HF.out]; exact ⟨small_pts W2 H2 (RES.out.1 c hc).1, cyc_le W2 H2 (RES.out.1 c hc).1, (RES.out.1 c hc).1.2.1⟩)
  have LMP := hid (show ∀ p ∈ Lm, 0 < p.2.length ∧ Qm.Small p.2 ∧ p.2.length ≤ 4356 from fun p hp => by
    have : p.2 ∈ R.map fun c => Qm.cornL (Qm.ptsOf f c) := by rw [← PZ.out]; exact List.mem_map_of_mem hp
    obtain ⟨c, hc, e⟩ := List.mem_map.1 this
    rw [← e]
    exact ⟨Qm.cornL_pos (by rw [Qm.ptsOf_len]; exact (SM.out c hc).2.2), Qm.cornL_small (SM.out c hc).1, by have := Qm.cornL_le (Qm.ptsOf f c); rw [Qm.ptsOf_len] at this; have := (SM.out c hc).2.1; omega⟩)
  have LCP := hid (show ∀ p ∈ Lc, 0 < p.2.length ∧ Qm.Small p.2 ∧ p.2.length ≤ 4356 from fun p hp => by
    have : p.2 ∈ R.map (Qm.ptsOf f) := by rw [← ELC.out]; exact List.mem_map_of_mem hp
    obtain ⟨c, hc, e⟩ := List.mem_map.1 this
    rw [← e, Qm.ptsOf_len]; exact ⟨(SM.out c hc).2.2, (SM.out c hc).1, (SM.out c hc).2.1⟩)
  have SHM := hid (RP5.out.shown (fun p hp => (LMP.out p hp).1))
  have SHC := hid (Q5.out.shown (fun p hp => (LCP.out p hp).1))
  have LMN := hid (show Lm.length = R.length by have := congrArg List.length PZ.out; simpa using this)
  have TC := hid (show ∀ x y, totW (shOf Lc) x y (shOf Lc).length = if Pm.blackB W H l x y = true then 1 else 0 from fun x y => by
    rw [totW_all, ELC.out, HF.out, ← SL.out]; exact RES.out.cycles (Qm.pic_of W H s.data.toList W2 H2) x y)
  have TM := hid (show ∀ x y, totW (shOf Lm) x y (shOf Lm).length = if Pm.blackB W H l x y = true then 1 else 0 from fun x y => by
    rw [totW_all, PZ.out, HF.out, ← SL.out]; exact RES.out.corners (Qm.pic_of W H s.data.toList W2 H2) x y)
  clear hR5 hLm hRow5 hb5 y0 y1 y2 o0 o1 o2
  obtain ⟨ac, cc, rfl, -⟩ := SHC.out.row
  obtain ⟨am, cm, rfl, -⟩ := SHM.out.row
  have sc := SHC.out.sh
  have sm := SHM.out.sh
  have big : ∀ (L : List (Value × List (Int × Int))), (∀ p ∈ L, 0 < p.2.length ∧ Qm.Small p.2 ∧ p.2.length ≤ 4356) → ∀ i, ((shOf L).getD i sh0).1.length ≤ 140737488355328 := fun L h i => by
    by_cases hi : i < L.length
    · rw [shOf_at L i hi]; have := (h L[i] (List.getElem_mem hi)).2.2; show L[i].2.length ≤ _; omega
    · have : (shOf L).getD i sh0 = sh0 := by simp [shOf, List.getD_eq_getElem?_getD, hi]
      rw [this]; simp [sh0]
  have FC := hid (fun (r : Int) (hr : r = 0 ∨ r = 1) W' (hb : Below w5.heap.size w5 W') => show Calls Try.prog 9 #[.slice ac Lc.length cc, .int .i64 W, .int .i64 H, .int .i64 r] W' fun e w' => e = .returned (.tuple #[.agg #[.int .i64 W, .int .i64 H, .string s], .int .i64 0]) ∧ Below W'.heap.size W' w' by
    have c := fill_any ac Lc.length cc (shOf Lc) sc.1 (by have := LCN.out; omega) (big Lc LCP.out) W H r W' (sc.2.on hb)
    have ok : okFill W H r (shOf Lc) = true := by
      unfold okFill
      rw [Pm.sideB_yes (by omega) (by omega), Pm.sideB_yes (by omega) (by omega), plB_of (fun p hp => ⟨(LCP.out p hp).1, (LCP.out p hp).2.1⟩)]
      rcases hr with rfl | rfl <;> rfl
    have e : fillOut W H r (shOf Lc) = .tuple #[.agg #[.int .i64 W, .int .i64 H, .string s], .int .i64 0] := by
      unfold fillOut
      rw [if_pos ok, Int.toNat_natCast, Int.toNat_natCast, fpxs_back hr W1 LL.out LA.out TC.out, SE.out]
    rw [e] at c; exact c)
  have FM := hid (fun (r : Int) (hr : r = 0 ∨ r = 1) W' (hb : Below w5.heap.size w5 W') => show Calls Try.prog 9 #[.slice am Lm.length cm, .int .i64 W, .int .i64 H, .int .i64 r] W' fun e w' => e = .returned (.tuple #[.agg #[.int .i64 W, .int .i64 H, .string s], .int .i64 0]) ∧ Below W'.heap.size W' w' by
    have c := fill_any am Lm.length cm (shOf Lm) sm.1 (by have := LMN.out; omega) (big Lm LMP.out) W H r W' (sm.2.on hb)
    have ok : okFill W H r (shOf Lm) = true := by
      unfold okFill
      rw [Pm.sideB_yes (by omega) (by omega), Pm.sideB_yes (by omega) (by omega), plB_of (fun p hp => ⟨(LMP.out p hp).1, (LMP.out p hp).2.1⟩)]
      rcases hr with rfl | rfl <;> rfl
    have e : fillOut W H r (shOf Lm) = .tuple #[.agg #[.int .i64 W, .int .i64 H, .string s], .int .i64 0] := by
      unfold fillOut
      rw [if_pos ok, Int.toNat_natCast, Int.toNat_natCast, fpxs_back hr W1 LL.out LA.out TM.out, SE.out]
    rw [e] at c; exact c)
  obtain ⟨nc, hnc⟩ : ∃ nc, nc = Lc.length := ⟨_, rfl⟩
  obtain ⟨nm, hnm⟩ : ∃ nm, nm = Lm.length := ⟨_, rfl⟩
  rw [← hnc] at FC ⊢
  rw [← hnm] at FM ⊢
  have Y5' := Y5.out
  have s5 := B5.out.size
  clear sc sm big hnc hnm SHC SHM
  go_wp2_with fail
  go_loopw [18] (fun iv wr => ∃ i : Nat, i ≤ 2 ∧ iv = .int .i64 i ∧ Hid (Below w5.heap.size w5 wr)) (fun i _ => 2 - (intOf i).toNat)
  case atStart => exact ⟨0, by omega, rfl, Below.refl _ _⟩
  case round =>
    obtain ⟨i, hi, rfl, BL⟩ := hrel
    have hz := BL.out.size
    obtain ⟨⟨y0, y1, y2⟩, -, -, yz⟩ := Y5.out.on BL.out
    by_cases hlt : i < 2
    · have FC1 := hid (FC.out (i : Int) (by omega))
      have FM1 := hid (FM.out (i : Int) (by omega))
      have i2' : (i : Int) < 2 := by omega
      go_wp2_with fail
      refine (FC1.out _ BL.out).mono ?_
      rintro e w6 ⟨rfl, hb6⟩
      have B6 := hid (show Below w5.heap.size w5 w6 from BL.out.trans (hb6.mono hz))
      have s6 := B6.out.size
      have X6 := hid (Box3.new w6 (.int .i64 W) (.int .i64 H) (.string s) 25)
      have Z6 := hid (Y5.out.on B6.out)
      have BA := hid (show Below w5.heap.size w5 (w6.alloc (.cells #[.int .i64 W, .int .i64 H, .string s] 25)) from B6.out.alloc s6 _)
      clear hb6 y0 y1 y2 yz
      obtain ⟨⟨y0, y1, y2⟩, -, -, yz⟩ := Z6.out
      go_wp2_with fail
      refine (FM1.out _ BA.out).mono ?_
      rintro e w7 ⟨rfl, hb7⟩
      have B7 := hid (show Below w5.heap.size w5 w7 from BA.out.trans (hb7.mono BA.out.size))
      have s7 := B7.out.size
      have X7 := hid (X6.out.on hb7)
      clear hb7 y0 y1 y2 yz
      obtain ⟨⟨y0, y1, y2⟩, -, -, yz⟩ := Y5.out.on B7.out
      obtain ⟨⟨x0, x1, x2⟩, -, -, xz⟩ := X7.out
      go_wp2
      go_roundw
      case rel => exact ⟨i + 1, by omega, by go_num, by show Below _ _ _; go_grown; exact B7.out⟩
      case measure => simp [intOf]; omega
    · have hk' : ¬ (i : Int) < 2 := by omega
      go_wp2
      go_ret
      exact ⟨rfl, B5.out.trans (BL.out.mono s5)⟩

end Go.Proofs.Ytljfiefobnncaab
