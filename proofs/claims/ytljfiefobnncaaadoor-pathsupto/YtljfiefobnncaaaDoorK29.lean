/- outlinelaw: roomy, walked. -/
import Derived.Test.YtljfiefobnncaaaDoorK28
import Derived.Deep.RegionHeld3
namespace Go.Proofs.YtljfiefobnncaaaDoor
open Go.RowKit
attribute [local go_sem ↓] Go.wp_at_zero Go.wp_at_succ

theorem infoPt2 : (Tryd.prog.info? 83).map (fun i => (i.zero, i.size, i.bytes)) = some (some (.agg #[.int .i64 0, .int .i64 0]), 2, 16) := by kernel_rfl
theorem infoSh2 : (Tryd.prog.info? 81).map (fun i => (i.zero, i.size, i.bytes)) = some (some (.agg #[.slice none 0 0, .int .i64 0]), 2, 32) := by kernel_rfl
/-- Shapes with spare room. -/
structure RoomIs (gl n : Nat) (L : List ShT) (w : World) : Prop where
  lt : gl < w.heap.size
  old : ∀ j, j < n → Roomy gl j (L.getD j sh0) w
  end' : w.cell? ⟨gl, n * 2 + 1, none⟩ = some (.int .i64 (-77))
theorem RoomIs.on {gl n : Nat} {L : List ShT} {w w' : World} (h : RoomIs gl n L w) (hb : Below w.heap.size w w') : RoomIs gl n L w' :=
  ⟨Nat.lt_of_lt_of_le h.lt hb.size, fun j hj => (h.old j hj).on h.lt hb, (hb.cell (p := ⟨gl, n * 2 + 1, none⟩) h.lt).trans h.end'⟩
theorem RoomIs.sh {gl n : Nat} {L : List ShT} {w : World} (h : RoomIs gl n L w) (hn : n = L.length) : ShIs (some ⟨gl, 0, none⟩) L w := by
  by_cases h0 : L.length = 0
  · exact .inl h0
  · refine .inr ⟨gl, 0, rfl, h.lt, fun i hi => ?_⟩
    obtain ⟨g, h1, h2, h3, h4, h5⟩ := h.old i (by omega)
    refine ⟨some ⟨g, 0, none⟩, _, by rw [Nat.zero_add]; exact h2, by rw [Nat.zero_add]; exact h3, .inr ⟨g, 0, rfl, h4.o⟩⟩

theorem PtsO.src {g q : Nat} {l : List (Int × Int)} {w : World} (h : PtsO g q l w) : ∀ j v, (Qm.ptsV l)[j]? = some v → w.cell? ((⟨g, q, none⟩ : Addr).add j) = some v := by
  intro j v hj
  have hlt : j < l.length * 2 := by
    have := (List.getElem?_eq_some_iff.1 hj).1
    rwa [Qm.ptsV_len] at this
  have ea : ∀ k, (⟨g, q, none⟩ : Addr).add k = ⟨g, q + k, none⟩ := fun k => by unfold Addr.add; split <;> simp_all
  have pa := ptsV_at l (j / 2) (by omega)
  have ph := h.2 (j / 2) (by omega)
  rw [ea]
  rcases (show j = j / 2 * 2 ∨ j = j / 2 * 2 + 1 by omega) with e | e
  · rw [e] at hj ⊢
    rw [pa.1] at hj
    rw [ph.1]; exact hj
  · rw [e] at hj ⊢
    rw [pa.2] at hj
    rw [← Nat.add_assoc, ph.2]; exact hj
theorem ptsV_one (l : List (Int × Int)) : ∀ u ∈ Qm.ptsV l, u.oneCell' = true := by
  intro u hu
  obtain ⟨j, hj, rfl⟩ := List.mem_iff_getElem.1 hu
  have hlt : j < l.length * 2 := by rwa [Qm.ptsV_len] at hj
  have pa := ptsV_at l (j / 2) (by omega)
  rcases (show j = j / 2 * 2 ∨ j = j / 2 * 2 + 1 by omega) with e | e
  · have := pa.1
    rw [← e, List.getElem?_eq_getElem hj] at this
    injection this with this
    rw [this]; rfl
  · have := pa.2
    rw [← e, List.getElem?_eq_getElem hj] at this
    injection this with this
    rw [this]; rfl

set_option maxRecDepth 4000 in
set_option maxHeartbeats 2000000 in
theorem roomy_any (ao : Option Addr) (n cap : Nat) (L : List ShT) (hn : n = L.length) (hn2 : n * 32 ≤ 140737488355328) (hm : ∀ i, (L.getD i sh0).1.length * 16 ≤ 140737488355328) (w : World) (hS : ShIs ao L w) :
    Calls Tryd.prog 28 #[.slice ao n cap] w fun e w' => (∃ gl, e = .returned (.slice (some ⟨gl, 0, none⟩) n (n + 1)) ∧ RoomIs gl n L w') ∧ Below w.heap.size w w' := by
  obtain ⟨ip, hip, hp0, hp1, hp2⟩ := info_parts infoPt2
  obtain ⟨is, his, hs0, hs1, hs2⟩ := info_parts infoSh2
  have HS := hid hS
  have HM := hid hm
  have HN := hid hn
  have n1 : n + 1 ≤ maxLen := by unfold maxLen; omega
  clear hS hm hn
  go_enter Tryd.func28, Tryd.ntmps28
  go_wp2_with (first
    | (at_make; refine wpList_make_full _ rfl _ _ 35 rfl w.heap.size 81 is (.agg #[.slice none 0 0, .int .i64 0]) 2 Tryd.underlying35 his hs0 hs1 .i64 .i64 _ _ (n + 1) rfl rfl (by simp) (by simp) (by rw [hs2]; omega) n1 (Nat.le_refl _) ?_))
  intro w3 o3 g3
  have b3 : Below w.heap.size w w3 := ⟨g3.os, g3.tape, g3.output, g3.size, fun k hk => g3.block k hk (by simp)⟩
  have z3 : w.heap.size < w3.heap.size := (o3.lt w.heap.size rfl).2
  have hbk := made_block o3
  have R0 := hid (show RoI w.heap.size n L w 0 w3 from ⟨b3, Nat.le_refl _, z3, fun j => block_fz hbk j, fun j hj => absurd hj (Nat.not_lt_zero _), fun j _ hj => ⟨block_cell hbk (madeSh_at (n + 1) j (by omega)).1, block_cell hbk (madeSh_at (n + 1) j (by omega)).2⟩⟩)
  obtain ⟨gl, hgl⟩ : ∃ gl, gl = w.heap.size := ⟨_, rfl⟩
  rw [← hgl] at R0 ⊢
  have HGL := hid hgl
  clear o3 g3 b3 z3 hbk hgl
  go_wp2_with fail
  go_loopw [5] (fun iv wr => ∃ i : Nat, i ≤ n ∧ iv = .int .i64 i ∧ Hid (RoI gl n L w i wr)) (fun i _ => n - (intOf i).toNat)
  case atStart => exact ⟨0, by omega, rfl, R0⟩
  case round =>
    clear R0
    obtain ⟨i, hi, rfl, hR⟩ := hrel
    have hzr := hR.out.lt
    have hge := hR.out.ge
    by_cases hlt : i < n
    · obtain ⟨gs, o, rfl, hgs, hc⟩ := HS.out.resolve_left (by have := HN.out; omega)
      obtain ⟨ap, cp, c0, c1, c2⟩ := hc i (by have := HN.out; omega)
      have RD := hid (fun wx (h : Below w.heap.size w wx) => (⟨(h.cell (p := ⟨gs, o + i * 2, none⟩) hgs).trans c0, (h.cell (p := ⟨gs, o + i * 2 + 1, none⟩) hgs).trans c1⟩ : _ ∧ _))
      have hmi := HM.out i
      have ST := hid (fun (wx : World) (hr : RoI gl n L w i wx) (g : Nat) hg hp hq a b ha hb => RoI.step hr hlt (g := g) hg hp hq (a := a) (b := b) ha hb)
      obtain ⟨s, hs⟩ : ∃ s, s = L.getD i sh0 := ⟨_, rfl⟩
      rw [← hs] at c2 hmi RD ST
      obtain ⟨l, hl⟩ : ∃ l, l = s.1 := ⟨_, rfl⟩
      obtain ⟨tw, htw⟩ : ∃ tw, tw = s.2 := ⟨_, rfl⟩
      rw [← hl] at c2 hmi RD ST
      rw [← htw] at RD ST
      obtain ⟨m, hmm⟩ : ∃ m, m = l.length := ⟨_, rfl⟩
      rw [← hmm] at c2 hmi RD ST
      have SRC := hid c2
      have HMM := hid hmm
      have i0' : (0 : Int) ≤ (i : Nat) := by omega
      have i1' : ((i : Nat) : Int) < (n : Nat) := by omega
      have m1 : m + 1 ≤ maxLen := by unfold maxLen; omega
      clear hc c0 c1 c2 hs hl htw hmm
      obtain ⟨r0, r1⟩ := RD.out _ hR.out.bl
      go_wp2_with (first
        | (at_make; refine wpList_make_full _ rfl _ _ 62 rfl wr.heap.size 83 ip (.agg #[.int .i64 0, .int .i64 0]) 2 Tryd.underlying62 hip hp0 hp1 .i64 .i64 _ _ (m + 1) rfl rfl (by simp) (by simp) (by rw [hp2]; omega) m1 (Nat.le_refl _) ?_))
      intro w4 o4 g4
      have b4 : Below wr.heap.size wr w4 := ⟨g4.os, g4.tape, g4.output, g4.size, fun k hk => g4.block k hk (by simp)⟩
      have z4 : wr.heap.size < w4.heap.size := (o4.lt wr.heap.size rfl).2
      have hbk := made_block o4
      have R4 := hid (hR.out.on b4)
      obtain ⟨g, hg⟩ : ∃ g, g = wr.heap.size := ⟨_, rfl⟩
      rw [← hg] at z4 hbk ⊢
      have BK := hid hbk
      have HGG := hid hg
      have glg : gl < g := by omega
      clear o4 g4 hbk r0 r1 hg
      have CB : Hid ((madeCells #[Value.int .i64 0, .int .i64 0] ((m + 1) * 2)).toList.length = (m + 1) * 2) := by show _ = _; rw [Array.length_toList, size_madeCells]
      have MS := hid (fun j (hj : j < (m + 1) * 2) => madePt_at (m + 1) j hj)
      obtain ⟨cur, hcur⟩ : ∃ cur, cur = (madeCells #[Value.int .i64 0, .int .i64 0] ((m + 1) * 2)).toList := ⟨_, rfl⟩
      have BK2 := hid (show w4.heap[g]? = some (.cells cur.toArray 83 (0, 0)) by rw [hcur]; exact BK.out)
      rw [← hcur] at CB MS
      clear hcur BK
      have PV := hid (show (Qm.ptsV l).length = m * 2 by rw [Qm.ptsV_len, HMM.out])
      have SC := hid (show (ap = none ∧ Qm.ptsV l = []) ∨ ∃ ad, ap = some ad ∧ ∀ j v, (Qm.ptsV l)[j]? = some v → w4.cell? (ad.add j) = some v by
        rcases SRC.out with h0 | ⟨g', q, rfl, hp⟩
        · have el : l = [] := List.length_eq_zero_iff.1 (by rw [← HMM.out]; exact h0)
          subst el
          cases ap with
          | none => exact .inl ⟨rfl, rfl⟩
          | some ad => exact .inr ⟨ad, rfl, fun j v hj => by simp [Qm.ptsV] at hj⟩
        · exact .inr ⟨_, rfl, (hp.on R4.out.bl hp.1).src⟩)
      have HSZ := hid (show (Tryd.prog.info? 83).map (·.size) = some 2 by rw [hip, Option.map_some, hp1])
      have FIT := hid (show (Qm.ptsV l).length ≤ cur.toArray.size by rw [PV.out, List.size_toArray, CB.out]; omega)
      have P1 := hid (ptsV_one l)
      have MIN := hid (show Nat.min m (m + 1) = m by simp)
      obtain ⟨pv, hpv⟩ : ∃ pv, pv = Qm.ptsV l := ⟨_, rfl⟩
      have EPV := hid hpv
      rw [← hpv] at PV SC FIT P1
      clear hpv
      obtain ⟨r0, r1⟩ := RD.out _ R4.out.bl
      go_wp2_with (first
        | (refine wpList_copyK rfl _ _ 62 62 rfl 83 2 Tryd.underlying62 HSZ.out g (m + 1) (m + 1) ap m cp rfl rfl cur.toArray 83 BK2.out pv m MIN.out PV.out SC.out FIT.out P1.out ?_))
      intro w5 HB5 BL5
      have z5 : g < w5.heap.size := by have := BL5.out.size; omega
      have BW5 := hid (show Below wr.heap.size wr w5 from b4.trans (BL5.out.mono (by have := HGG.out; omega)))
      have R5 := hid (hR.out.on BW5.out)
      have P5 := hid (show PtsAt g l w5 from ⟨z5, fun j hj => ⟨block_cell HB5.out (by rw [List.getElem?_append_left (by rw [PV.out, HMM.out]; omega), EPV.out]; exact (ptsV_at l j hj).1), block_cell HB5.out (by rw [List.getElem?_append_left (by rw [PV.out, HMM.out]; omega), EPV.out]; exact (ptsV_at l j hj).2)⟩⟩)
      have C5 : w5.cell? ⟨g, m * 2, none⟩ = some (.int .i64 0) := block_cell HB5.out (by
        rw [List.getElem?_append_right (by rw [PV.out]; exact Nat.le_refl _), PV.out, Nat.sub_self, List.getElem?_drop]
        exact MS.out (m * 2 + 0) (by omega))
      have F5 := block_fz HB5.out (m * 2)
      have k1' : (0 : Int) ≤ (m : Nat) := by omega
      have k2' : ((m : Nat) : Int) < (m : Nat) + 1 := by omega
      have B6 := hid (show Below wr.heap.size wr (w5.setCell ⟨g, m * 2, none⟩ (.int .i64 (-77))) from BW5.out.setCell (p := ⟨g, m * 2, none⟩) (by have := HGG.out; show wr.heap.size ≤ g; omega) _)
      have P6 := hid (show PtsAt g l (w5.setCell ⟨g, m * 2, none⟩ (.int .i64 (-77))) from ⟨by rw [World.size_setCell]; exact z5, fun j hj => ⟨(World.cell?_setCell_other _ _ _ _ (by have := HMM.out; simp <;> omega)).trans (P5.out.2 j hj).1, (World.cell?_setCell_other _ _ _ _ (by have := HMM.out; simp <;> omega)).trans (P5.out.2 j hj).2⟩⟩)
      have C6 := hid (World.cell?_setCell_same _ ⟨g, m * 2, none⟩ (.int .i64 (-77)) C5)
      clear r0 r1 HB5 BL5
      go_wp2_with fail
      obtain ⟨w6, hw6⟩ : ∃ w6, w6 = w5.setCell ⟨g, m * 2, none⟩ (.int .i64 (-77)) := ⟨_, rfl⟩
      rw [← hw6] at B6 P6 C6 ⊢
      have R6 := hid (hR.out.on B6.out)
      obtain ⟨r0, r1⟩ := RD.out _ R6.out.bl
      obtain ⟨q0, q1⟩ := R6.out.new i (Nat.le_refl _) hi
      have f0 := R6.out.fz (i * 2)
      have f1 := R6.out.fz (i * 2 + 1)
      have i2' : ((i : Nat) : Int) < (n : Nat) + 1 := by omega
      have i3' : ((m : Nat) : Int) ≤ (m : Nat) + 1 := by omega
      clear hw6 C5 F5 z5
      have DB : Below w6.heap.size w6 w6.drew := ⟨rfl, rfl, rfl, Nat.le_refl _, fun _ _ => rfl⟩
      have R7 := hid (ST.out w6.drew (R6.out.on DB) g glg (P6.out.on DB P6.out.1) C6.out _ _ rfl rfl)
      clear DB
      go_region
      all_goals go_wp2
      all_goals go_roundw
      case rel => exact ⟨i + 1, by omega, by go_num, R7⟩
      case measure => simp [intOf]; omega
    · have ei : i = n := by omega
      subst ei
      have hk' : ¬ (i : Int) < (i : Nat) := by omega
      obtain ⟨q0, q1⟩ := hR.out.new i (Nat.le_refl _) (Nat.le_refl _)
      have f1 := hR.out.fz (i * 2 + 1)
      have B6 := hid (show Below w.heap.size w (wr.setCell ⟨gl, i * 2 + 1, none⟩ (.int .i64 (-77))) from hR.out.bl.setCell (p := ⟨gl, i * 2 + 1, none⟩) hge _)
      have O6 := hid (show RoomIs gl i L (wr.setCell ⟨gl, i * 2 + 1, none⟩ (.int .i64 (-77))) from ⟨by rw [World.size_setCell]; exact hzr, fun j hj => (hR.out.old j hj).set (by omega) (by omega) _, World.cell?_setCell_same _ _ _ q1⟩)
      have k1' : (0 : Int) ≤ (i : Nat) := by omega
      have k2' : ((i : Nat) : Int) < (i : Nat) + 1 := by omega
      have k3' : ((i : Nat) : Int) ≤ (i : Nat) + 1 := by omega
      go_wp2
      go_ret
      exact ⟨⟨gl, rfl, O6.out⟩, B6.out⟩

end Go.Proofs.YtljfiefobnncaaaDoor
