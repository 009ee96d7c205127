import Derived.Test.YtgapfjjdccohkaaJfitting12
import Derived.Test.YtgapfjjdccohkaaJfitting03
import Derived.WalkKit

/- outlinekeep: Speckled. -/
namespace Go.Proofs.Ytgapfjjdccohkaa
open Go.RowKit
attribute [local go_sem ↓] Go.wp_at_zero Go.wp_at_succ

theorem shpP_row {b : Nat} {t : TypeId} {vl : Value} {L : List (Value × List (Int × Int))} {w : World} (h : w.ownsRow b t 2 vl L.length (shpP L)) (hp : ∀ p ∈ L, ∃ g cap, p.1 = .slice (some ⟨g, 0, none⟩) p.2.length cap ∧ 0 < p.2.length ∧ PtsAt g p.2 w) : ShownP vl L w := by
  refine ⟨?_, hp⟩
  obtain ⟨ao, cap, e⟩ := own_len h
  refine ⟨ao, cap, e, ?_⟩
  rcases h.2 with ⟨_, h0⟩ | ⟨g, cap', cur, e', _, hg, _⟩
  · exact .inl h0
  · right
    have e2 : ao = some ⟨g, 0, none⟩ := by rw [e] at e'; injection e'
    refine ⟨g, e2, (Array.getElem?_eq_some_iff.1 hg).1, fun j u hu => ?_⟩
    have := h.cells (g := g) (by rw [e']; rfl) j u hu
    rwa [add_zero_at] at this

/-- What stands at the shape number i. -/
theorem ShownP.at {al : Option Addr} {cl n : Nat} {L : List (Value × List (Int × Int))} {X : World} (h : ShownP (.slice al n cl) L X) {gl : Nat} (hc : ∀ j u, (shpP L)[j]? = some u → X.cell? ⟨gl, j, none⟩ = some u) {i : Nat} (hi : i < L.length) :
    ∃ g c, L[i].1 = .slice (some ⟨g, 0, none⟩) L[i].2.length c ∧ 0 < L[i].2.length ∧ PtsAt g L[i].2 X ∧ X.cell? ⟨gl, i * 2, none⟩ = some (.slice (some ⟨g, 0, none⟩) L[i].2.length c) ∧ X.cell? ⟨gl, i * 2 + 1, none⟩ = some (.int .i64 (Qm.twiceOf L[i].2)) := by
  obtain ⟨g, c, e, h0, hp⟩ := h.pts L[i] (List.getElem_mem hi)
  have s := shpP_at L i hi
  have s1 := hc _ _ s.1
  have s2 := hc _ _ s.2
  rw [e] at s1
  exact ⟨g, c, e, h0, hp, s1, s2⟩

theorem big_no {r tw : Int} (h : false = decide (2 * r < Qm.absZ tw)) : ¬ 2 * r < tw ∧ ¬ tw < -2 * r := by
  have := of_decide_eq_false h.symm
  unfold Qm.absZ at this
  split at this <;> omega
theorem big_yes {r tw : Int} (h : true = decide (2 * r < Qm.absZ tw)) : 2 * r < tw ∨ (¬ 2 * r < tw ∧ tw < -2 * r) := by
  have := of_decide_eq_true h.symm
  unfold Qm.absZ at this
  split at this <;> omega
theorem RowP.keep {b : Nat} {vl : Value} {L : List (Value × List (Int × Int))} {w w' : World} (h : RowP b vl L w) {g : Nat} (hg : g < b) (hb : w.grownBy w' (some g)) : RowP b vl L w' :=
  ⟨own_keep h.row hg hb, fun p hp => own_keep (h.pts p hp) hg hb, h.apart⟩
theorem Rowed.rowPk {f : Qm.Sd → Qm.Sd} {b : Nat} {vl : Value} {L : List (Value × (Qm.Sd × Nat))} {w : World} (h : Rowed f b vl L w) : RowP b vl (L.map fun p => (p.1, Qm.ptsOf f p.2)) w := by
  refine ⟨?_, ?_, ?_⟩
  · have e : shpP (L.map fun p => (p.1, Qm.ptsOf f p.2)) = shpV f L := by simp [shpP, shpV, List.flatMap_map]
    rw [e, List.length_map]; exact h.row
  · intro q hq
    obtain ⟨p, hp, rfl⟩ := List.mem_map.1 hq
    have := h.pts p hp
    simp only [Qm.ptsOf_len]; exact this
  · have := h.apart
    simpa [List.map_map, Function.comp_def] using this

set_option maxRecDepth 4000 in
set_option maxHeartbeats 4000000 in
theorem speckled_any (ao : Option Addr) (len cap : Nat) (a h p sp : Int) (draws : ByteArray) (w : World) (hraw : RawIs ao len w) (hlen : len ≤ 140737488355328) (a1 : -9223372036854775808 ≤ a) (a2 : a ≤ 9223372036854775807) (h1 : -9223372036854775808 ≤ h) (h2 : h ≤ 9223372036854775807) (p1 : -9223372036854775808 ≤ p) (p2 : p ≤ 9223372036854775807) (sp1 : -9223372036854775808 ≤ sp) (sp2 : sp ≤ 9223372036854775807) :
    Calls Try.prog 8 #[.slice ao len cap, .int .i64 a, .int .i64 h, .int .i64 p, .string draws, .int .i64 sp] w fun e w' => e = .returned (.bool true) ∧ Below w.heap.size w w' := by
  obtain ⟨i0, hi, hz0, hz1, hz2⟩ := info_parts infoShape
  have RW := hid hraw
  clear hraw
  go_enter Try.func8, Try.ntmps8
  go_wp2_with fail
  refine (traces_any _).mono ?_
  rintro e w1 ⟨rfl, hb⟩
  have B1 := hid (show Below w.heap.size w w1 from hb)
  clear hb
  go_wp2_with fail
  refine (built_most 20 (by omega) (by omega) ao len cap a h _ (RW.out.on B1.out) hlen a1 a2 h1 h2).mono ?_
  rintro e w2 ⟨⟨W, H, l, rfl, W1, W2', H1, H2', hl, hall⟩, hb⟩
  have W2 : W ≤ 32 := by omega
  have H2 : H ≤ 32 := by omega
  have MAY := hid (fun (pol : Nat) (hp : pol ≤ 3) (spk : Int) (s0 : 0 ≤ spk) (s1 : spk ≤ 1024) => show mayB W H (⟨l.toArray⟩ : ByteArray).data.toList pol spk = true from may_of (good_of W1 W2 H1 H2 hl hall) (by omega) (by omega) s0 s1)
  have HL := hid (show (⟨l.toArray⟩ : ByteArray).size = W * H from hl)
  have B2 := hid (show Below w.heap.size w w2 from B1.out.trans (hb.mono B1.out.size))
  clear hall hl hb RW
  obtain ⟨s, hs⟩ : ∃ s : ByteArray, s = ⟨l.toArray⟩ := ⟨_, rfl⟩
  rw [← hs] at MAY HL ⊢
  clear hs
  go_wp2_with fail
  refine (options_any p draws p1 p2 _).mono ?_
  rintro e w3 ⟨⟨pol, rfl, hpol⟩, hb⟩
  have X0 := hid ((Box3.new w2 (.int .i64 W) (.int .i64 H) (.string s) 23).on hb)
  have Y0 := hid ((X0.out.alloc (.cells #[.int .i64 pol, .string draws, .int .i64 0] 25)))
  have O0 := hid (Box3.new w3 (.int .i64 pol) (.string draws) (.int .i64 0) 25)
  have k3 : w2.heap.size < w3.heap.size := X0.out.2.2.2
  have B3 := hid (show Below w.heap.size w w3 from B2.out.trans (X0.out.2.2.1.mono B2.out.size))
  clear hb
  obtain ⟨⟨y0, y1, y2⟩, -, -, -⟩ := X0.out
  go_wp2_with fail
  refine (cycles_yes W H s pol draws 0 _ (MAY.out pol hpol 0 (by omega) (by omega)) W2 H2 HL.out hpol).mono ?_
  rintro e w4 ⟨vl, rfl, L0, hR, hRow, hb4, hLn⟩
  have z4 := hb4.size
  simp at z4
  have RP4 := hid (hRow.rowPk.mono (b' := w3.heap.size + 1) (by simp))
  have Y4 := hid (Y0.out.on hb4)
  have O4 := hid (O0.out.on hb4)
  have RES := hid hR
  obtain ⟨R, hRR⟩ : ∃ R, R = L0.map (·.2) := ⟨_, rfl⟩
  obtain ⟨f, hf⟩ : ∃ f, f = fB W H s pol draws := ⟨_, rfl⟩
  obtain ⟨Lc, hLc⟩ : ∃ Lc, Lc = L0.map fun p => (p.1, Qm.ptsOf (fB W H s pol draws) p.2) := ⟨_, rfl⟩
  have ELC := hid (show Lc.map (·.2) = R.map (Qm.ptsOf f) by rw [hLc, hRR, hf]; simp)
  have LCN := hid (show Lc.length = R.length by rw [hLc, hRR]; simp)
  have hRn : R.length ≤ 1200 := by rw [hRR, List.length_map]; exact hLn
  rw [← hRR] at RES
  rw [← hLc] at RP4
  have HF := hid hf
  clear hR hRow hb4 y0 y1 y2 hRR hLc hLn hf
  obtain ⟨⟨y0, y1, y2⟩, -, -, -⟩ := Y4.out
  obtain ⟨⟨o0, o1, o2⟩, -, -, -⟩ := O4.out
  go_wp2_with fail
  refine (trace_yes W H s pol draws 0 _ (MAY.out pol hpol 0 (by omega) (by omega)) W2 H2 HL.out hpol (by omega) (by omega)).mono ?_
  rintro e w5 ⟨vm, rfl, R5, Lm, hR5, hLm, hRow5, -, hb5⟩
  obtain rfl := RES.out.unique hR5
  have z5 := hb5.size
  have RP5 := hid (hRow5.mono (b' := w3.heap.size + 1) (by omega))
  have Q5 := hid (RP4.out.on hb5)
  have Y5 := hid (Y4.out.on hb5)
  have O5 := hid (O4.out.on hb5)
  have PZ := hid (show Lm.map (·.2) = R.map fun c => Qm.cornL (Qm.ptsOf f c) by rw [hLm, HF.out]; exact Qm.polys_zero RES.out (Qm.pic_of W H s.data.toList W2 H2))
  clear hR5 hLm hRow5 hb5 y0 y1 y2 o0 o1 o2
  go_wp2_with fail
  refine (pick_big sp 1025 sp1 sp2 (by omega) (by omega) _).mono ?_
  rintro e w5' ⟨⟨r, rfl, hr⟩, e5⟩
  subst e5
  obtain ⟨⟨y0, y1, y2⟩, -, -, yz⟩ := Y5.out
  obtain ⟨⟨o0, o1, o2⟩, ⟨g0, g1, g2⟩, -, oz⟩ := O5.out
  have BS := hid (show Below w.heap.size w (w5'.setCell ⟨w3.heap.size, 2, none⟩ (.int .i64 r)) from (B3.out.trans ((O5.out.2.2.1).mono B3.out.size)).setCell (show w.heap.size ≤ w3.heap.size from B3.out.size) _)
  have GS := hid (show w5'.grownBy (w5'.setCell ⟨w3.heap.size, 2, none⟩ (.int .i64 r)) (some w3.heap.size) from set_grown (Below.refl _ _) ⟨w3.heap.size, 2, none⟩)
  have RS5 := hid (RP5.out.keep (by omega) GS.out)
  have QS5 := hid (Q5.out.keep (by omega) GS.out)
  have OC := hid (show (w5'.setCell ⟨w3.heap.size, 2, none⟩ (.int .i64 r)).cell? ⟨w3.heap.size, 2, none⟩ = some (.int .i64 r) from World.cell?_setCell_same _ _ _ o2)
  have oz' : w3.heap.size < (w5'.setCell ⟨w3.heap.size, 2, none⟩ (.int .i64 r)).heap.size := by rw [World.size_setCell]; exact oz
  go_wp2_with fail
  refine (trace_yes W H s pol draws r _ (MAY.out pol hpol r (by omega) (by omega)) W2 H2 HL.out hpol (by omega) (by omega)).mono ?_
  rintro e w6 ⟨vn, rfl, R6, Ln, hR6, hLn, hRow6, -, hb6⟩
  obtain rfl := RES.out.unique hR6
  have RP6 := hid (RS5.out.on hb6)
  have Q6 := hid (QS5.out.on hb6)
  have PN := hid (show Ln.map (·.2) = Qm.polys f r R by rw [hLn, HF.out])
  have B6 := hid (show Below w.heap.size w w6 from BS.out.trans (hb6.mono BS.out.size))
  have o6 := (hb6.cell (p := ⟨w3.heap.size, 2, none⟩) oz').trans OC.out
  have z6 : w3.heap.size < w6.heap.size := Nat.lt_of_lt_of_le oz' hb6.size
  have SM := hid (show ∀ c ∈ R, Qm.Small (Qm.ptsOf f c) ∧ c.2 ≤ 4356 ∧ 0 < c.2 from fun c hc => by rw [HF.out]; exact ⟨small_pts W2 H2 (RES.out.1 c hc).1, cyc_le W2 H2 (RES.out.1 c hc).1, (RES.out.1 c hc).1.2.1⟩)
  have LMP := hid (show ∀ p ∈ Lm, 0 < p.2.length from fun p hp => by
    have : p.2 ∈ R.map fun c => Qm.cornL (Qm.ptsOf f c) := by rw [← PZ.out]; exact List.mem_map_of_mem hp
    obtain ⟨c, hc, e⟩ := List.mem_map.1 this
    rw [← e]; exact Qm.cornL_pos (by rw [Qm.ptsOf_len]; exact (SM.out c hc).2.2))
  have LCP := hid (show ∀ p ∈ Lc, 0 < p.2.length from fun p hp => by
    have : p.2 ∈ R.map (Qm.ptsOf f) := by rw [← ELC.out]; exact List.mem_map_of_mem hp
    obtain ⟨c, hc, e⟩ := List.mem_map.1 this
    rw [← e, Qm.ptsOf_len]; exact (SM.out c hc).2.2)
  have LNP := hid (show ∀ p ∈ Ln, 0 < p.2.length ∧ p.2.length ≤ 4356 from fun p hp => by
    have : p.2 ∈ Qm.polys f r R := by rw [← PN.out]; exact List.mem_map_of_mem hp
    unfold Qm.polys at this
    obtain ⟨c, hc, e⟩ := List.mem_map.1 this
    have hc := (SM.out c (List.mem_filter.1 hc).1)
    have h1 := Qm.cornL_le (Qm.ptsOf f c)
    rw [Qm.ptsOf_len] at h1
    rw [← e]; exact ⟨Qm.cornL_pos (by rw [Qm.ptsOf_len]; exact hc.2.2), by omega⟩)
  have LNL := hid (show Ln.length ≤ 1200 by
    have h1 := congrArg List.length PN.out
    unfold Qm.polys at h1
    simp only [List.length_map] at h1
    have := List.length_filter_le (Qm.bigB f r) R
    omega)
  have SHN := hid (hRow6.shown fun p hp => (LNP.out p hp).1)
  have SHM := hid (RP6.out.shown LMP.out)
  have SHC := hid (Q6.out.shown LCP.out)
  have LMN := hid (show Lm.length = R.length by have := congrArg List.length PZ.out; simpa using this)
  clear hR6 hLn hRow6 hb6 y0 y1 y2 o0 o1 o2 g0 g1 g2 yz oz oz'
  obtain ⟨ac, cc, rfl, hrc⟩ := SHC.out.row
  obtain ⟨am, cm, rfl, hrm⟩ := SHM.out.row
  obtain ⟨n, hn⟩ : ∃ n, n = R.length := ⟨_, rfl⟩
  rw [LCN.out, ← hn] at hrc
  rw [LMN.out, ← hn] at hrm
  rw [LCN.out] at SHC
  rw [LMN.out] at SHM
  rw [LCN.out, LMN.out]
  rw [← hn] at hRn SHC SHM ⊢
  have HN := hid hn
  have HRC := hid hrc
  have HRM := hid hrm
  clear hn hrc hrm
  go_wp2_with fail
  go_loopw [22, 23] (fun lv iv wr => ∃ (i : Nat) (L : List (Value × List (Int × Int))), i ≤ n ∧ iv = .int .i64 i ∧ L.length ≤ i ∧ L.map (·.2) = Qm.polys f r (R.take i) ∧ (∀ p ∈ L, p ∈ Lm) ∧ wr.ownsRow w6.heap.size 43 2 lv L.length (shpP L) ∧ Below w6.heap.size w6 wr) (fun _ i _ => n - (intOf i).toNat)
  case atStart => exact ⟨0, [], by omega, rfl, by simp, rfl, fun p hp => by simp at hp, World.ownsRow_nil _ _ _ _, Below.refl _ _⟩
  case round =>
    obtain ⟨i, L, hin, rfl, hLi, hpl, hmem, hown, hb⟩ := hrel
    have HB := hid hb
    have OW := hid hown
    have PL := hid hpl
    have MEM := hid hmem
    have hz := hb.size
    by_cases hlt : i < n
    · obtain ⟨gc, rfl, hgc, hcc⟩ := HRC.out.resolve_left (by omega)
      obtain ⟨gm, rfl, hgm, hcm⟩ := HRM.out.resolve_left (by omega)
      have hlt' : (i : Int) < (n : Nat) := by omega
      have hiR : i < R.length := by rw [← HN.out]; exact hlt
      have hiC : i < Lc.length := by rw [LCN.out]; exact hiR
      have hiM : i < Lm.length := by rw [LMN.out]; exact hiR
      obtain ⟨g1, c1, v1, m1, p1', d0, d1⟩ := SHC.out.at hcc hiC
      obtain ⟨g2, c2, v2, m2, p2', e0, e1⟩ := SHM.out.at hcm hiM
      have PNX := hid (Qm.polys_next (f := f) (spk := r) hiR)
      have E1 : Lc[i].2 = Qm.ptsOf f R[i] := by
        have := congrArg (fun l => l[i]?) ELC.out
        simpa [hiC, hiR] using this
      have E2 : Lm[i].2 = Qm.cornL (Qm.ptsOf f R[i]) := by
        have := congrArg (fun l => l[i]?) PZ.out
        simpa [hiM, hiR] using this
      obtain ⟨sm, hle, _⟩ := SM.out R[i] (List.getElem_mem hiR)
      have tws := Qm.fsum_small sm (Qm.ptsOf f R[i]).length
      rw [← Qm.twiceOf_fsum, Qm.ptsOf_len] at tws
      have BG := hid (show Qm.bigB f r R[i] = decide (2 * (r : Int) < Qm.absZ (Qm.twiceOf (Qm.ptsOf f R[i]))) from rfl)
      have MM := hid (List.getElem_mem hiM)
      obtain ⟨pm, hpm⟩ : ∃ pm, pm = Lm[i] := ⟨_, rfl⟩
      rw [← hpm] at E2 v2 e0 e1 MM
      rw [E1] at d0 d1
      rw [← E2] at PNX
      obtain ⟨tw, htw⟩ : ∃ tw, tw = Qm.twiceOf (Qm.ptsOf f R[i]) := ⟨_, rfl⟩
      rw [← htw] at d1 tws BG
      obtain ⟨bg, hbg⟩ : ∃ bg, bg = Qm.bigB f r R[i] := ⟨_, rfl⟩
      rw [← hbg] at BG PNX
      obtain ⟨k1, hk1⟩ : ∃ k, k = (Qm.ptsOf f R[i]).length := ⟨_, rfl⟩
      rw [← hk1] at d0
      obtain ⟨k2, hk2⟩ : ∃ k, k = pm.2.length := ⟨_, rfl⟩
      rw [← hk2] at e0 v2
      obtain ⟨t2, ht2⟩ : ∃ t, t = Qm.twiceOf pm.2 := ⟨_, rfl⟩
      rw [← ht2] at e1
      have V2 := hid v2
      have HT2 := hid ht2
      have f0 := (hb.cell (p := ⟨gc, i * 2, none⟩) hgc).trans d0
      have f1 := (hb.cell (p := ⟨gc, i * 2 + 1, none⟩) hgc).trans d1
      have f2 := (hb.cell (p := ⟨gm, i * 2, none⟩) hgm).trans e0
      have f3 := (hb.cell (p := ⟨gm, i * 2 + 1, none⟩) hgm).trans e1
      have f4 := (hb.cell (p := ⟨w3.heap.size, 2, none⟩) (show w3.heap.size < _ from z6)).trans o6
      have hgm' : gm < wr.heap.size := by omega
      clear hb hown hpl hmem d0 d1 e0 e1 v1 v2 p1' p2' m1 m2 hcc hcm E1 E2 hpm htw hbg hk1 hk2 ht2 sm
      cases bg
      · obtain ⟨q1, q2⟩ := big_no BG.out
        have q1b : decide (2 * (r : Int) < tw) = false := by simpa using q1
        have q2b : decide (tw < -2 * (r : Int)) = false := by simpa using q2
        go_wp2_with fail
        go_quiet (fail)
        go_wp2
        go_roundw
        case rel => exact ⟨i + 1, L, by omega, by go_num, by omega, by rw [PNX.out]; exact PL.out, MEM.out, own_below OW.out ⟨rfl, rfl, rfl, Nat.le_refl _, fun _ _ => rfl⟩, HB.out.trans ⟨rfl, rfl, rfl, Nat.le_refl _, fun _ _ => rfl⟩⟩
        case measure => simp [intOf]; omega
      · have n1 : L.length + 1 ≤ maxLen := by unfold maxLen; omega
        have n2 : (L.length + 1) * 32 ≤ 140737488355328 := by omega
        rcases big_yes BG.out with q1 | ⟨q1, q2⟩
        all_goals first
          | (
            have _hq := q2
            clear _hq
            have q1b : decide (2 * (r : Int) < tw) = false := by simpa using q1
            have q2b : decide (tw < -2 * (r : Int)) = true := by simpa using q2
            go_wp2_with fail
            go_quiet (fail))
          | (
            have q1b : decide (2 * (r : Int) < tw) = true := by simpa using q1
            go_wp2_with fail
            go_quiet (fail))
        all_goals (
          have D1 : Below wr.heap.size wr (wr.drewN nq) := ⟨rfl, rfl, rfl, Nat.le_refl _, fun _ _ => rfl⟩
          have OW1 := hid (own_below OW.out D1)
          have HB1 := hid (HB.out.trans (D1.mono hz))
          obtain ⟨wq, hwq⟩ : ∃ wq, wq = wr.drewN nq := ⟨_, rfl⟩
          have zq : w6.heap.size ≤ wq.heap.size := by rw [hwq]; exact hz
          have r2 := (D1.cell (p := ⟨gm, i * 2, none⟩) hgm').trans f2
          have r3 := (D1.cell (p := ⟨gm, i * 2 + 1, none⟩) hgm').trans f3
          have hgq : gm < wq.heap.size := by rw [hwq]; exact hgm'
          rw [← hwq] at OW1 HB1 r2 r3 ⊢
          clear hwq D1 f0 f1 f2 f3 f4
          have n3 : w6.heap.size ≤ (wq.alloc (.cells #[.slice (some ⟨g2, 0, none⟩) k2 c2, .int .i64 t2] 43)).heap.size := by simp; omega
          go_wp2_with (first
            | (at_builtin; refine wpList_append_own_at _ rfl _ _ 35 rfl w6.heap.size 43 i0 (.agg #[.slice none 0 0, .int .i64 0]) 2 32 Try.underlying35 hi hz0 hz1 hz2 rfl (by decide) _ _ _ rfl (OW1.out.alloc _) ⟨_, 0, none⟩ 1 1 [.slice (some ⟨g2, 0, none⟩) k2 c2, .int .i64 t2] rfl rfl (vt_cells _ _ _ _ _ _ _ rfl) (vt_one _ _ _ _) n1 n2 n3 ?_))
          intro vl' w7 o7 g7 _ e7
          have B7 := hid (show Below w6.heap.size w6 w7 from ((HB1.out.alloc zq _).grown g7 n3 (fun q hq => (OW1.out.lt q hq).1)))
          have O7 := hid (show w7.ownsRow w6.heap.size 43 2 vl' (L ++ [pm]).length (shpP (L ++ [pm])) by
            rw [shpP_snoc, List.length_append, V2.out, ← HT2.out]; exact o7)
          clear o7 g7 e7
          go_wp2
          go_roundw
          case rel => exact ⟨i + 1, L ++ [pm], by omega, by go_num, by simp; omega, by rw [PNX.out, List.map_append, PL.out]; rfl, fun p hp => by
            rcases List.mem_append.1 hp with h | h
            · exact MEM.out p h
            · rw [List.mem_singleton.1 h]; exact MM.out, O7.out, B7.out⟩
          case measure => simp [intOf]; omega)
    · have ei : i = n := by omega
      subst ei
      have hlt' : ¬ (i : Int) < (i : Nat) := by omega
      have SHW := hid (shpP_row OW.out fun p hp => by
        obtain ⟨g, c, e, h0, h1⟩ := SHM.out.pts p (MEM.out p hp)
        exact ⟨g, c, e, h0, h1.on HB.out h1.1⟩)
      have SHN2 := hid (SHN.out.on HB.out)
      have EQ := hid (show Ln.map (·.2) = L.map (·.2) by rw [PN.out, PL.out, HN.out, List.take_length])
      clear hb hown hpl hmem
      go_wp2_with fail
      refine (sameShapes_any vn _ Ln L _ EQ.out SHN2.out SHW.out (by have := LNL.out; omega) (fun p hp => by have := (LNP.out p hp).2; omega)).mono ?_
      rintro e w8 ⟨rfl, hb8⟩
      have B8 := hid (show Below w.heap.size w w8 from (B6.out.trans (HB.out.mono B6.out.size)).trans (hb8.mono (Nat.le_trans B6.out.size HB.out.size)))
      clear hb8
      go_wp2
      go_ret
      exact ⟨rfl, B8.out⟩
end Go.Proofs.Ytgapfjjdccohkaa

/- A line that fits: the same whichever way one counts, and whichever middles one looks at. Nothing of the program stands here. -/
namespace Go.Proofs.Ytgapfjjdccohkaa.Qm

/-- The next point of a closed row. -/
def nxP (l : List Pt) (i : Nat) : Pt := l.getD ((i + 1) % l.length) (0, 0)
/-- Sums over the lines, from either end. -/
def fsE (e : Pt → Pt → Int) (l : List Pt) : Nat → Int
  | 0 => 0
  | k + 1 => fsE e l k + e (l.getD k (0, 0)) (nxP l k)
def bsE (e : Pt → Pt → Int) (l : List Pt) : Nat → Int
  | 0 => 0
  | k + 1 => bsE e l k + e (pr l k) (l.getD k (0, 0))
theorem nxP_lt (l : List Pt) (i : Nat) (h : i + 1 < l.length) : nxP l i = l.getD (i + 1) (0, 0) := by unfold nxP; rw [Nat.mod_eq_of_lt h]
theorem nxP_last (l : List Pt) (h : 0 < l.length) : nxP l (l.length - 1) = l.getD 0 (0, 0) := by unfold nxP; rw [Nat.sub_add_cancel h, Nat.mod_self]
theorem bsE_fsE (e : Pt → Pt → Int) (l : List Pt) (k : Nat) (hk : k < l.length) : bsE e l (k + 1) = fsE e l k + e (pr l 0) (l.getD 0 (0, 0)) := by
  induction k with
  | zero => simp [bsE, fsE]
  | succ k ih =>
    have := ih (by omega)
    rw [bsE, this, fsE, pr_succ l k (by omega), nxP_lt l k hk]; omega
theorem bsE_all (e : Pt → Pt → Int) (l : List Pt) (h : 0 < l.length) : bsE e l l.length = fsE e l l.length := by
  obtain ⟨n, hn⟩ : ∃ n, l.length = n + 1 := ⟨l.length - 1, by omega⟩
  have a := bsE_fsE e l n (by omega)
  have b := nxP_last l h
  rw [hn] at b ⊢
  simp only [Nat.add_sub_cancel] at b
  rw [a, fsE, b, pr_zero l h, hn]
  simp
theorem wsum_bsE (l : List Pt) (x y : Int) (k : Nat) : wsum l x y k = bsE (fun p q => wdZ p q x y) l k := by
  induction k with
  | zero => rfl
  | succ k ih => simp only [wsum, bsE, ih]
theorem fsE_tele (φ : Pt → Int) (l : List Pt) (h : 0 < l.length) : fsE (fun p q => φ p - φ q) l l.length = 0 := by
  have key : ∀ k, k < l.length → fsE (fun p q => φ p - φ q) l k = φ (l.getD 0 (0, 0)) - φ (l.getD k (0, 0)) := by
    intro k
    induction k with
    | zero => intro _; simp [fsE]
    | succ k ih => intro hk; rw [fsE, ih (by omega), nxP_lt l k hk]; omega
  obtain ⟨n, hn⟩ : ∃ n, l.length = n + 1 := ⟨l.length - 1, by omega⟩
  have b := nxP_last l h
  have c := key n (by omega)
  rw [hn] at b ⊢
  simp only [Nat.add_sub_cancel] at b
  rw [fsE, c, b]; omega
theorem fsE_congr {e f : Pt → Pt → Int} {l : List Pt} {n : Nat} (h : ∀ i, i < n → e (l.getD i (0, 0)) (nxP l i) = f (l.getD i (0, 0)) (nxP l i)) : fsE e l n = fsE f l n := by
  induction n with
  | zero => rfl
  | succ n ih => rw [fsE, fsE, ih fun i hi => h i (by omega), h n (by omega)]
theorem fsE_sub (e f : Pt → Pt → Int) (l : List Pt) (n : Nat) : fsE (fun p q => e p q - f p q) l n = fsE e l n - fsE f l n := by
  induction n with
  | zero => rfl
  | succ n ih => simp only [fsE, ih]; omega
theorem fsE_zero {e : Pt → Pt → Int} {l : List Pt} {n : Nat} (h : ∀ i, i < n → e (l.getD i (0, 0)) (nxP l i) = 0) : fsE e l n = 0 := by
  induction n with
  | zero => rfl
  | succ n ih => rw [fsE, ih fun i hi => h i (by omega), h n (by omega)]; rfl

/-- Counted above and counted to the right. -/
theorem ab_ws {l : List Pt} {x y : Int} (h0 : 0 < l.length) (h : ∀ i, i < l.length → thB (l.getD i (0, 0)) (nxP l i) x y = false) : fsE (fun p q => abZ p q x y) l l.length = wsum l x y l.length := by
  rw [wsum_bsE, bsE_all _ _ h0]
  have a := fsE_sub (fun p q => abZ p q x y) (fun p q => wdZ p q x y) l l.length
  have b : fsE (fun p q => abZ p q x y - wdZ p q x y) l l.length = fsE (fun p q => qd x y p - qd x y q) l l.length := fsE_congr fun i hi => ab_wd _ _ x y (h i hi)
  rw [b, fsE_tele _ _ h0] at a
  omega

/-- One pixel's length. -/
def unitP (p q : Pt) : Prop := (p.1 = q.1 ∧ (q.2 = p.2 + 1 ∨ q.2 = p.2 - 1)) ∨ (p.2 = q.2 ∧ (q.1 = p.1 + 1 ∨ q.1 = p.1 - 1))
def Unit (l : List Pt) : Prop := ∀ i, i + 1 < l.length → unitP (l.getD i (0, 0)) (l.getD (i + 1) (0, 0))
theorem th_unit {p q : Pt} (h : unitP p q) (x y : Int) : thB p q x y = false := by
  cases e : thB p q x y with
  | false => rfl
  | true =>
    exfalso
    obtain ⟨r, f⟩ := (thB_iff p q x y).1 e
    rcases h with ⟨h1, h2⟩ | ⟨h1, h2⟩
    · unfold farZ at f
      rw [show q.1 - p.1 = 0 from by omega, Int.mul_zero] at f
      rcases h2 with h2 | h2
      · rw [show q.2 - p.2 = 1 from by omega] at f; omega
      · rw [show q.2 - p.2 = -1 from by omega] at f; omega
    · omega
theorem Unit.near {l : List Pt} (h : Unit l) (i : Nat) (hi : i < l.length) : -(i : Int) ≤ (l.getD i (0, 0)).1 - (l.getD 0 (0, 0)).1 ∧ (l.getD i (0, 0)).1 - (l.getD 0 (0, 0)).1 ≤ i ∧ -(i : Int) ≤ (l.getD i (0, 0)).2 - (l.getD 0 (0, 0)).2 ∧ (l.getD i (0, 0)).2 - (l.getD 0 (0, 0)).2 ≤ i := by
  induction i with
  | zero => simp
  | succ i ih =>
    have a := ih (by omega)
    have b := h i hi
    unfold unitP at b
    omega
/-- No line goes through but, maybe, the last. -/
theorem Unit.th {l : List Pt} (h : Unit l) (h0 : 0 < l.length) {x y : Int} (ht : thB (lstP l) (fstP l) x y = false) (i : Nat) (hi : i < l.length) : thB (l.getD i (0, 0)) (nxP l i) x y = false := by
  rcases Nat.lt_or_ge (i + 1) l.length with h1 | h1
  · rw [nxP_lt l i h1]; exact th_unit (h i h1) x y
  · obtain rfl : i = l.length - 1 := by omega
    rw [nxP_last l h0]; exact ht
theorem okAt_iff (l : List Pt) (x y : Int) : okAt l x y = true ↔ thB (lstP l) (fstP l) x y = false ∧ wsum l x y l.length = 0 := by
  unfold okAt; rw [Bool.and_eq_true, decide_eq_true_eq]; simp
/-- As the document's answer asks it. -/
def cleanP (l : List Pt) (x y : Int) : Prop := (∀ i, i < l.length → thR (l.getD i (0, 0)) (nxP l i) x y = false) ∧ fsE (fun p q => abZ p q x y) l l.length = 0
theorem Unit.clean {l : List Pt} (h : Unit l) (h0 : 0 < l.length) (x y : Int) : cleanP l x y ↔ okAt l x y = true := by
  rw [okAt_iff]
  constructor
  · rintro ⟨h1, h2⟩
    have e : ∀ i, i < l.length → thB (l.getD i (0, 0)) (nxP l i) x y = false := fun i hi => by rw [← th_same]; exact h1 i hi
    rw [ab_ws h0 e] at h2
    have t := e (l.length - 1) (by omega)
    rw [nxP_last l h0] at t
    exact ⟨t, h2⟩
  · rintro ⟨h1, h2⟩
    have e := h.th h0 h1
    exact ⟨fun i hi => by rw [th_same]; exact e i hi, by rw [ab_ws h0 e]; exact h2⟩

theorem getD_mem {l : List Pt} {i : Nat} (h : i < l.length) : l.getD i (0, 0) ∈ l := by
  rw [List.getD_eq_getElem?_getD, List.getElem?_eq_getElem h]; exact List.getElem_mem h
/-- Beyond the bounds all is well. -/
theorem ok_out {l : List Pt} (h0 : 0 < l.length) {x y : Int} (h : (∀ i, i < l.length → x < (l.getD i (0, 0)).1) ∨ (∀ i, i < l.length → (l.getD i (0, 0)).1 ≤ x) ∨ (∀ i, i < l.length → y < (l.getD i (0, 0)).2) ∨ (∀ i, i < l.length → (l.getD i (0, 0)).2 ≤ y)) : okAt l x y = true := by
  have nx : ∀ i, i < l.length → ∃ j, j < l.length ∧ nxP l i = l.getD j (0, 0) := fun i _ => ⟨_, Nat.mod_lt _ h0, rfl⟩
  -- no two of the points have the middle between them
  have two : ∀ i j, i < l.length → j < l.length → thB (l.getD i (0, 0)) (l.getD j (0, 0)) x y = false ∧ ((∀ i, i < l.length → x < (l.getD i (0, 0)).1) ∨ (∀ i, i < l.length → (l.getD i (0, 0)).1 ≤ x) → abZ (l.getD i (0, 0)) (l.getD j (0, 0)) x y = 0) ∧ (¬ ((∀ i, i < l.length → x < (l.getD i (0, 0)).1) ∨ (∀ i, i < l.length → (l.getD i (0, 0)).1 ≤ x)) → wdZ (l.getD i (0, 0)) (l.getD j (0, 0)) x y = 0) := by
    intro i j hi hj
    obtain ⟨A, B, C, D, _, _, h3, hA, hB, _, _⟩ := cr_signs (l.getD i (0, 0)) (l.getD j (0, 0)) x y
    refine ⟨?_, ?_, ?_⟩
    · cases e : thB (l.getD i (0, 0)) (l.getD j (0, 0)) x y with
      | false => rfl
      | true =>
        exfalso
        have t := (thB_iff _ _ x y).1 e
        rcases h with h | h | h | h
        · have a := h i hi; have b := h j hj; omega
        · have a := h i hi; have b := h j hj; omega
        · have a := h i hi; have b := h j hj; omega
        · have a := h i hi; have b := h j hj; omega
    · rintro (h | h)
      · have a := h i hi; have b := h j hj
        unfold abZ; rw [if_neg (by omega), if_neg (by omega)]
      · have a := h i hi; have b := h j hj
        unfold abZ; rw [if_neg (by omega), if_neg (by omega)]
    · intro hn
      rw [wdZ_eq]
      rcases h with h | h | h | h
      · exact absurd (.inl h) hn
      · exact absurd (.inr h) hn
      · have a := h i hi; have b := h j hj
        rw [if_neg (by omega), if_neg (by omega)]
      · have a := h i hi; have b := h j hj
        rw [if_neg (by omega), if_neg (by omega)]
  rw [okAt_iff]
  refine ⟨(two _ _ (show l.length - 1 < l.length by omega) h0).1, ?_⟩
  by_cases hx : (∀ i, i < l.length → x < (l.getD i (0, 0)).1) ∨ (∀ i, i < l.length → (l.getD i (0, 0)).1 ≤ x)
  · rw [← ab_ws h0 fun i hi => by obtain ⟨j, hj, e⟩ := nx i hi; rw [e]; exact (two i j hi hj).1]
    exact fsE_zero fun i hi => by obtain ⟨j, hj, e⟩ := nx i hi; rw [e]; exact (two i j hi hj).2.1 hx
  · rw [wsum_bsE, bsE_all _ _ h0]
    exact fsE_zero fun i hi => by obtain ⟨j, hj, e⟩ := nx i hi; rw [e]; exact (two i j hi hj).2.2 hx
/-- Within the bounds, or everywhere. -/
theorem fit_all {l : List Pt} (h0 : 0 < l.length) : fitB l = true ↔ ∀ x y, okAt l x y = true := by
  constructor
  · intro h x y
    have lx := loF_le Prod.fst l l.length
    have ly := loF_le Prod.snd l l.length
    have hx := le_hiF Prod.fst l l.length
    have hy := le_hiF Prod.snd l l.length
    rcases Int.lt_or_le x (loF Prod.fst l l.length) with a | a
    · exact ok_out h0 (.inl fun i hi => by have := lx i hi; omega)
    rcases Int.lt_or_le x (hiF Prod.fst l l.length) with b | b
    · rcases Int.lt_or_le y (loF Prod.snd l l.length) with c | c
      · exact ok_out h0 (.inr (.inr (.inl fun i hi => by have := ly i hi; omega)))
      rcases Int.lt_or_le y (hiF Prod.snd l l.length) with d | d
      · exact (fitB_iff l).1 h x y a b c d
      · exact ok_out h0 (.inr (.inr (.inr fun i hi => by have := hy i hi; omega)))
    · exact ok_out h0 (.inr (.inl fun i hi => by have := hx i hi; omega))
  · intro h
    exact (fitB_iff l).2 fun x y _ _ _ _ => h x y
theorem fit_two {l : List Pt} (h : Unit l) (h2 : l.length = 2) : fitB l = true := by
  refine (fitB_iff l).2 fun x y a b c d => ?_
  exfalso
  have u := h 0 (by omega)
  unfold unitP at u
  rw [h2] at a b c d
  simp only [loF, hiF] at a b c d
  simp only [Nat.zero_add] at u
  repeat' split at a
  all_goals repeat' split at b
  all_goals repeat' split at c
  all_goals repeat' split at d
  all_goals omega
/-- It is enough to look near the first point. -/
theorem Unit.fit_near {l : List Pt} (h : Unit l) (h0 : 0 < l.length) (h13 : l.length ≤ 13) (hn : ∀ x y, (l.getD 0 (0, 0)).1 - 12 ≤ x → x < (l.getD 0 (0, 0)).1 + 12 → (l.getD 0 (0, 0)).2 - 12 ≤ y → y < (l.getD 0 (0, 0)).2 + 12 → okAt l x y = true) : fitB l = true := by
  refine (fitB_iff l).2 fun x y a b c d => ?_
  obtain ⟨i1, k1, e1⟩ := loF_at Prod.fst l l.length
  obtain ⟨i2, k2, e2⟩ := hiF_at Prod.fst l l.length
  obtain ⟨i3, k3, e3⟩ := loF_at Prod.snd l l.length
  obtain ⟨i4, k4, e4⟩ := hiF_at Prod.snd l l.length
  have n1 := h.near i1 (by omega)
  have n2 := h.near i2 (by omega)
  have n3 := h.near i3 (by omega)
  have n4 := h.near i4 (by omega)
  rw [e1] at a; rw [e2] at b; rw [e3] at c; rw [e4] at d
  exact hn x y (by omega) (by omega) (by omega) (by omega)
/-- The document's answer. -/
theorem Unit.fit_ref {l : List Pt} (h : Unit l) (h0 : 2 ≤ l.length) (h13 : l.length ≤ 13) : fitB l = true ↔ (l.length = 2 ∨ ∀ x y, (l.getD 0 (0, 0)).1 - 13 ≤ x → x ≤ (l.getD 0 (0, 0)).1 + 13 → (l.getD 0 (0, 0)).2 - 13 ≤ y → y ≤ (l.getD 0 (0, 0)).2 + 13 → cleanP l x y) := by
  constructor
  · intro hf
    exact .inr fun x y _ _ _ _ => (h.clean (by omega) x y).2 ((fit_all (by omega)).1 hf x y)
  · rintro (h2 | h2)
    · exact fit_two h h2
    · exact h.fit_near (by omega) h13 fun x y a b c d => (h.clean (by omega) x y).1 (h2 x y (by omega) (by omega) (by omega) (by omega))
end Go.Proofs.Ytgapfjjdccohkaa.Qm

/- Rows of numbers that go from i to j by allowed steps: the best of them (fewest, then cheapest, then least where they first differ) is one. Nothing of the program stands here. -/
namespace Go.Proofs.Ytgapfjjdccohkaa.Qm

/-- Least where they first differ. -/
def lexle : List Nat → List Nat → Prop
  | [], _ => True
  | _ :: _, [] => False
  | a :: l, b :: m => a < b ∨ (a = b ∧ lexle l m)
theorem lexle_refl : ∀ l, lexle l l
  | [] => True.intro
  | _ :: l => .inr ⟨rfl, lexle_refl l⟩
theorem lexle_trans : ∀ {a b c : List Nat}, lexle a b → lexle b c → lexle a c
  | [], _, _, _, _ => True.intro
  | _ :: _, [], _, h, _ => h.elim
  | _ :: _, _ :: _, [], _, h => h.elim
  | a :: l, b :: m, c :: n, h, k => by
    rcases h with h | ⟨rfl, h⟩
    · rcases k with k | ⟨rfl, _⟩
      · exact .inl (by omega)
      · exact .inl h
    · rcases k with k | ⟨rfl, k⟩
      · exact .inl k
      · exact .inr ⟨rfl, lexle_trans h k⟩
theorem lexle_anti : ∀ {a b : List Nat}, a.length = b.length → lexle a b → lexle b a → a = b
  | [], [], _, _, _ => rfl
  | [], _ :: _, e, _, _ => by simp at e
  | _ :: _, [], e, _, _ => by simp at e
  | a :: l, b :: m, e, h, k => by
    rcases h with h | ⟨rfl, h⟩
    · rcases k with k | ⟨rfl, _⟩
      · omega
      · omega
    · rcases k with k | ⟨_, k⟩
      · omega
      · rw [lexle_anti (by simpa using e) h k]
theorem lexle_snoc : ∀ {a b : List Nat} (j : Nat), a.length = b.length → lexle a b → lexle (a ++ [j]) (b ++ [j])
  | [], [], _, _, _ => lexle_refl _
  | [], _ :: _, _, e, _ => by simp at e
  | _ :: _, [], _, e, _ => by simp at e
  | a :: l, b :: m, j, e, h => by
    rcases h with h | ⟨rfl, h⟩
    · exact .inl h
    · exact .inr ⟨rfl, lexle_snoc j (by simpa using e) h⟩
theorem lexle_total : ∀ {a b : List Nat}, a.length = b.length → ¬ lexle a b → lexle b a
  | [], _, _, h => absurd True.intro h
  | _ :: _, [], _, _ => True.intro
  | a :: l, b :: m, e, h => by
    rcases Nat.lt_trichotomy a b with h1 | h1 | h1
    · exact absurd (.inl h1) h
    · subst h1
      exact .inr ⟨rfl, lexle_total (by simpa using e) fun h2 => h (.inr ⟨rfl, h2⟩)⟩
    · exact .inl h1

section
variable (ok : Nat → Nat → Prop) (cst : Nat → Nat → Int)
/-- What a row costs. -/
def cs : List Nat → Int
  | a :: b :: l => cst a b + cs (b :: l)
  | _ => 0
/-- A row from i to j. -/
inductive Pth : Nat → Nat → List Nat → Prop
  | one (i : Nat) : Pth i i [i]
  | cons (i k j : Nat) (l : List Nat) : ok i k → Pth k j l → Pth i j (i :: l)
/-- Not worse. -/
def Le (a b : List Nat) : Prop := a.length < b.length ∨ (a.length = b.length ∧ (cs cst a < cs cst b ∨ (cs cst a = cs cst b ∧ lexle a b)))
/-- The best one. -/
def Opt (i j : Nat) (l : List Nat) : Prop := Pth ok i j l ∧ ∀ m, Pth ok i j m → Le cst l m
end

section
variable {ok : Nat → Nat → Prop} {cst : Nat → Nat → Int} {i j k : Nat} {a b c l : List Nat}
theorem Le.refl (a : List Nat) : Le cst a a := .inr ⟨rfl, .inr ⟨rfl, lexle_refl a⟩⟩
theorem Le.trans (h : Le cst a b) (h' : Le cst b c) : Le cst a c := by
  rcases h with h | ⟨h1, h⟩ <;> rcases h' with h' | ⟨h1', h'⟩
  · exact .inl (by omega)
  · exact .inl (by omega)
  · exact .inl (by omega)
  · refine .inr ⟨by omega, ?_⟩
    rcases h with h | ⟨h2, h⟩ <;> rcases h' with h' | ⟨h2', h'⟩
    · exact .inl (by omega)
    · exact .inl (by omega)
    · exact .inl (by omega)
    · exact .inr ⟨by omega, lexle_trans h h'⟩
theorem Le.anti (h : Le cst a b) (h' : Le cst b a) : a = b := by
  rcases h with h | ⟨h1, h⟩ <;> rcases h' with h' | ⟨h1', h'⟩
  · omega
  · omega
  · omega
  · rcases h with h | ⟨h2, h⟩ <;> rcases h' with h' | ⟨h2', h'⟩
    · omega
    · omega
    · omega
    · exact lexle_anti h1 h h'
/-- There is one best row. -/
theorem Opt.unique (h : Opt ok cst i j a) (h' : Opt ok cst i j b) : a = b := (h.2 b h'.1).anti (h'.2 a h.1)

theorem Pth.head (h : Pth ok i j l) : ∃ m, l = i :: m := by cases h <;> exact ⟨_, rfl⟩
theorem Pth.pos (h : Pth ok i j l) : 0 < l.length := by obtain ⟨m, rfl⟩ := h.head; simp
theorem Pth.snoc (h : Pth ok i k l) (hk : ok k j) : Pth ok i j (l ++ [j]) := by
  induction h with
  | one i => exact .cons i j j _ hk (.one j)
  | cons i k j' l ho _ ih => exact .cons i k _ _ ho (ih hk)
theorem cs_cons (h : Pth ok k j l) (i : Nat) : cs cst (i :: l) = cst i k + cs cst l := by obtain ⟨m, rfl⟩ := h.head; rfl
theorem Pth.cs_snoc (h : Pth ok i k l) (j : Nat) : cs cst (l ++ [j]) = cs cst l + cst k j := by
  induction h with
  | one i => simp [cs]
  | cons i k j' l _ hp ih =>
    obtain ⟨m, rfl⟩ := hp.head
    have : cs cst (i :: k :: m ++ [j]) = cst i k + cs cst (k :: m ++ [j]) := rfl
    rw [this, ih, cs_cons hp]; omega
/-- From the front. -/
theorem Le.cons (ha : Pth ok k j a) (hb : Pth ok k j b) (h : Le cst a b) (i : Nat) : Le cst (i :: a) (i :: b) := by
  unfold Le
  rw [cs_cons ha, cs_cons hb]
  simp only [List.length_cons]
  rcases h with h | ⟨h1, h⟩
  · exact .inl (by omega)
  · refine .inr ⟨by omega, ?_⟩
    rcases h with h | ⟨h2, h⟩
    · exact .inl (by omega)
    · exact .inr ⟨by omega, .inr ⟨rfl, h⟩⟩
/-- From behind. -/
theorem Le.snoc (ha : Pth ok i k a) (hb : Pth ok i k b) (h : Le cst a b) (j : Nat) : Le cst (a ++ [j]) (b ++ [j]) := by
  unfold Le
  rw [ha.cs_snoc, hb.cs_snoc]
  simp only [List.length_append, List.length_singleton]
  rcases h with h | ⟨h1, h⟩
  · exact .inl (by omega)
  · refine .inr ⟨by omega, ?_⟩
    rcases h with h | ⟨h2, h⟩
    · exact .inl (by omega)
    · exact .inr ⟨by omega, lexle_snoc j h1 h⟩
theorem Pth.unsnoc (h : Pth ok i j l) : (i = j ∧ l = [i]) ∨ ∃ k m, l = m ++ [j] ∧ Pth ok i k m ∧ ok k j := by
  induction h with
  | one i => exact .inl ⟨rfl, rfl⟩
  | cons i k j l ho hp ih =>
    right
    rcases ih with ⟨rfl, rfl⟩ | ⟨q, m, rfl, hm, hq⟩
    · exact ⟨i, [i], rfl, .one i, ho⟩
    · exact ⟨q, i :: m, rfl, .cons i k q m ho hm, hq⟩

/-- The best row from i goes by the best row from the point behind it. -/
theorem Opt.front (hij : i ≠ j) (h : ∀ k, ok i k → ∃ m, Opt ok cst k j m) {k : Nat} {l : List Nat} (hk : ok i k) (hl : Opt ok cst k j l) (hb : ∀ q m, ok i q → Opt ok cst q j m → Le cst (i :: l) (i :: m)) : Opt ok cst i j (i :: l) := by
  refine ⟨.cons i k j l hk hl.1, fun m hm => ?_⟩
  cases hm with
  | one => exact absurd rfl hij
  | cons _ q _ m' hq hp =>
    obtain ⟨o, ho⟩ := h q hq
    exact (hb q o hq ho).trans ((ho.2 m' hp).cons ho.1 hp i)
/-- .. and from the other end. -/
theorem Opt.back (hij : i ≠ j) (h : ∀ k, ok k j → (∃ l, Pth ok i k l) → ∃ m, Opt ok cst i k m) {k : Nat} {l : List Nat} (hk : ok k j) (hl : Opt ok cst i k l) (hb : ∀ q m, ok q j → Opt ok cst i q m → Le cst (l ++ [j]) (m ++ [j])) : Opt ok cst i j (l ++ [j]) := by
  refine ⟨hl.1.snoc hk, fun m hm => ?_⟩
  rcases hm.unsnoc with ⟨e, _⟩ | ⟨q, m', rfl, hp, hq⟩
  · exact absurd e hij
  · obtain ⟨o, ho⟩ := h q hq ⟨m', hp⟩
    exact (hb q o hq ho).trans ((ho.2 m' hp).snoc ho.1 hp j)
end
end Go.Proofs.Ytgapfjjdccohkaa.Qm
