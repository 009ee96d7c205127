/- outlinelaw: walked, with any number of lists in the book; one step of a script. -/
import Derived.Test.YtljfiefobnncaabGreatDoorK14
import Derived.Test.YtljfiefobnncaabGreatDoorK23
import Derived.Test.YtljfiefobnncaabGreatDoorK26
import Derived.Test.YtljfiefobnncaabGreatDoorK31
import Derived.Test.YtljfiefobnncaabGreatDoorK32
namespace Go.Proofs.YtljfiefobnncaabGreatDoor
open Go.RowKit

set_option maxRecDepth 4000 in
set_option maxHeartbeats 1000000 in
theorem walkedW_any (kb N : Nat) (vp vs : Value) (P S : List Rec) (W H : Int) (s : ByteArray) (pol : Int) (draws : ByteArray) (spk : Int) (w : World) (hO : OBook kb N vp vs P S w) (hN : N ≤ 1000000000) :
    Calls Tryz.prog 8 #[.pointer (some ⟨kb, 0, none⟩), .agg #[.int .i64 W, .int .i64 H, .string s], .agg #[.int .i64 pol, .string draws, .int .i64 spk]] w fun e w' => e = .returned (.bool true) ∧ ∃ N' vp' vs' P' S', OBook kb N' vp' vs' P' S' w' ∧ N' ≤ N + 1201 ∧ Fr (fun k => k = kb ∨ vp.ownBlock = some k ∨ vs.ownBlock = some k) w w' ∧ Kin vp vp' w ∧ Kin vs vs' w := by
  have HO := hid hO
  clear hO
  cases hm : mayB W H s.data.toList pol spk
  · go_enter Tryz.func8, Tryz.ntmps8
    go_wp2_with fail
    refine (cycles_no W H s pol draws spk _ hm).mono ?_
    rintro e w1 ⟨rfl, b1⟩
    have B1 := hid (show Below w.heap.size w w1 from Below.trans (b := _) (by go_grown) (b1.mono (by simp; omega)))
    obtain ⟨hc, hf⟩ := bcell b1
    have z1 := b1.size
    simp at z1
    clear b1
    go_wp2_with fail
    refine (refCycles_no W H s pol draws spk _ hm).mono ?_
    rintro e w2 ⟨rfl, b2⟩
    have B2 := hid (B1.out.trans (b2.mono B1.out.size))
    clear b2 hc hf
    go_wp2_with fail
    refine (same_any id (.slice none 0 0) (.slice none 0 0) [] [] _ rfl (Seen.nil id 0 _).shown (Seen.nil id 0 _).shown (by simp) (by simp)).mono ?_
    rintro e w3 ⟨rfl, b3⟩
    have B3 := hid (B2.out.trans (b3.mono B2.out.size))
    clear b3
    go_wp2_with fail
    refine (keepP_any 0 (.slice none 0 0) [] kb N vp vs P S _ (HO.out.below B3.out) (RowP.nil 0 _) (by simp) (by simp) (by simp) (by omega) (by simp) (fun k hk => by simp [Value.ownBlock] at hk)).mono ?_
    rintro e w4 ⟨rfl, N', vp', vs', P', S', ho, hn', hfr, kp, ks⟩
    have OB := hid ho
    have FR := hid hfr
    have KP := hid (show Kin vp vp' w from kp.imp id (fun ⟨q, h1, h2⟩ => ⟨q, h1, Nat.le_trans B3.out.size h2⟩))
    have KS := hid (show Kin vs vs' w from ks.imp id (fun ⟨q, h1, h2⟩ => ⟨q, h1, Nat.le_trans B3.out.size h2⟩))
    clear ho hfr kp ks
    go_wp2
    go_ret
    refine ⟨rfl, N', vp', vs', P', S', OB.out, by simp at hn'; omega, (Fr.below B3.out).trans (FR.out.imp ?_), KP.out, KS.out⟩
    intro k _ hk
    rcases hk with hk | hk | hk | hk | ⟨p, hp, _⟩
    · exact .inl hk
    · exact .inr (.inl hk)
    · exact .inr (.inr hk)
    · simp [Value.ownBlock] at hk
    · simp at hp
  · obtain ⟨hg, p0, p1⟩ := may_parts hm
    obtain ⟨W, H, rfl, rfl, h1, h2, h3, h4, h5⟩ := Pm.goodB_parts hg
    obtain ⟨pol, rfl⟩ : ∃ q : Nat, pol = q := ⟨pol.toNat, by omega⟩
    have hp3 : pol ≤ 3 := by omega
    have HL := hid h5
    clear h5 hg p0 p1
    go_enter Tryz.func8, Tryz.ntmps8
    go_wp2_with fail
    refine (cycles_yes W H s pol draws spk _ hm h2 h4 HL.out hp3).mono ?_
    rintro e w1 ⟨vl, rfl, La, r1, rw1, b1, ln⟩
    have B1 := hid (show Below w.heap.size w w1 from Below.trans (b := _) (by go_grown) (b1.mono (by simp; omega)))
    obtain ⟨hc, hf⟩ := bcell b1
    have z1 := b1.size
    simp at z1
    have R1 := hid r1
    have RW1 := hid (show Rowed (fB W H s pol draws) (w.heap.size + 2) vl La w1 from ⟨rw1.row.mono (by simp), fun p hp => (rw1.pts p hp).mono (by simp), rw1.apart⟩)
    obtain ⟨ao, cap, rfl⟩ := own_len rw1.row
    clear b1 r1 rw1
    go_wp2_with fail
    refine (refCycles_yes W H s pol draws spk _ hm h1 h2 h4 HL.out hp3).mono ?_
    rintro e w2 ⟨vm, rfl, Lm, r2, sn2, b2⟩
    have B2 := hid (B1.out.trans (b2.mono B1.out.size))
    have R2 := hid r2
    have SN2 := hid sn2
    have RW2 := hid (show Rowed (fB W H s pol draws) (w.heap.size + 2) _ La w2 from ⟨own_below RW1.out.row b2, fun p hp => own_below (RW1.out.pts p hp) b2, RW1.out.apart⟩)
    obtain ⟨ao2, cap2, rfl, _⟩ := sn2.row
    clear b2 hc hf r2 sn2
    have POS := hid (show ∀ p ∈ La, 0 < p.2.2 from fun p hp => (R1.out.1 p.2 (List.mem_map_of_mem hp)).1.2.1)
    have LE := hid (show ∀ p ∈ La, p.2.2 ≤ 4356 from fun p hp => cyc_le h2 h4 (R1.out.1 p.2 (List.mem_map_of_mem hp)).1)
    go_wp2_with fail
    refine (same_any (fB W H s pol draws) _ _ La Lm _ (R1.out.unique R2.out) (RW2.out.shown POS.out) SN2.out.shown (own_max RW2.out.row) (fun p hp => by have := LE.out p hp; omega)).mono ?_
    rintro e w3 ⟨rfl, b3⟩
    have B3 := hid (B2.out.trans (b3.mono B2.out.size))
    have RW3 := hid (show Rowed (fB W H s pol draws) (w.heap.size + 2) _ La w3 from ⟨own_below RW2.out.row b3, fun p hp => own_below (RW2.out.pts p hp) b3, RW2.out.apart⟩)
    have RP3 := hid RW3.out.rowP
    clear b3
    go_wp2_with fail
    refine (keepP_any (w.heap.size + 2) _ (La.map fun p => (p.1, Qm.ptsOf (fB W H s pol draws) p.2)) kb N vp vs P S _ (HO.out.below B3.out) RP3.out (fun p hp => by obtain ⟨q, hq, rfl⟩ := List.mem_map.1 hp; simp only [Qm.ptsOf_len]; exact POS.out q hq) (fun p hp => by obtain ⟨q, hq, rfl⟩ := List.mem_map.1 hp; simp only [Qm.ptsOf_len]; have := LE.out q hq; omega) (by rw [List.length_map]; omega) (by omega) (fun p hp => apP_new HO.out (fun k hk => by have := ((RP3.out.pts p hp).lt k hk).1; omega)) (apP_new HO.out (fun k hk => by have := (RP3.out.row.lt k hk).1; omega))).mono ?_
    rintro e w4 ⟨rfl, N', vp', vs', P', S', ho, hn', hfr, kp, ks⟩
    have OB := hid ho
    have FR := hid hfr
    have KP := hid (show Kin vp vp' w from kp.imp id (fun ⟨q, h1, h2⟩ => ⟨q, h1, Nat.le_trans B3.out.size h2⟩))
    have KS := hid (show Kin vs vs' w from ks.imp id (fun ⟨q, h1, h2⟩ => ⟨q, h1, Nat.le_trans B3.out.size h2⟩))
    clear ho hfr kp ks
    go_wp2
    go_ret
    have z3 := B3.out.size
    have fr2 : Fr (fun k => k = kb ∨ vp.ownBlock = some k ∨ vs.ownBlock = some k) w w4 := by
      refine ⟨FR.out.os.trans B3.out.os, FR.out.tape.trans B3.out.tape, FR.out.output.trans B3.out.output, Nat.le_trans z3 FR.out.size, fun k hk hc => (FR.out.block k (by omega) (fun hc2 => ?_)).trans (B3.out.block k hk)⟩
      rcases hc2 with e | e | e | e | ⟨p, hp, e⟩
      · exact hc (.inl e)
      · exact hc (.inr (.inl e))
      · exact hc (.inr (.inr e))
      · have := (RP3.out.row.lt k e).1; omega
      · have := ((RP3.out.pts p hp).lt k e).1; omega
    exact ⟨rfl, N', vp', vs', P', S', OB.out, by rw [List.length_map] at hn'; omega, fr2, KP.out, KS.out⟩

/-- A step of a script. -/
structure StepT where
  kind : Int
  s : ByteArray
  bw : Int
  bh : Int
  bs : ByteArray
  pol : Int
  dr : ByteArray
  spk : Int
  L : List ShT
  W : Int
  H : Int
  R : Int

theorem Kin.refl (v : Value) (w : World) : Kin v v w := .inl rfl
/-- What a step leaves of the book. -/
def StepOut (kb N m : Nat) (vp vs : Value) (w w' : World) : Prop := ∃ N' vp' vs' P' S', OBook kb N' vp' vs' P' S' w' ∧ N' ≤ N + m ∧ Fr (fun k => k = kb ∨ vp.ownBlock = some k ∨ vs.ownBlock = some k) w w' ∧ Kin vp vp' w ∧ Kin vs vs' w
theorem StepOut.of_below {kb N m : Nat} {vp vs : Value} {P S : List Rec} {w w' : World} (h : OBook kb N vp vs P S w) (hb : Below w.heap.size w w') : StepOut kb N m vp vs w w' :=
  ⟨N, vp, vs, P, S, h.below hb, by omega, Fr.below hb, .refl _ _, .refl _ _⟩
/-- A box ahead of it. -/
theorem StepOut.box {kb N m : Nat} {vp vs : Value} {w w1 w2 : World} (hb : Below w.heap.size w w1) (h : StepOut kb N m vp vs w1 w2) : StepOut kb N m vp vs w w2 := by
  obtain ⟨N', vp', vs', P', S', ho, hn, hf, kp, ks⟩ := h
  exact ⟨N', vp', vs', P', S', ho, hn, (Fr.below hb).trans hf, kp.imp id (fun ⟨q, h1, h2⟩ => ⟨q, h1, Nat.le_trans hb.size h2⟩), ks.imp id (fun ⟨q, h1, h2⟩ => ⟨q, h1, Nat.le_trans hb.size h2⟩)⟩

set_option maxRecDepth 4000 in
set_option maxHeartbeats 2000000 in
theorem step1_any (kb N : Nat) (vp vs : Value) (P S : List Rec) (t : StepT) (ao : Option Addr) (n cap : Nat) (w : World) (hO : OBook kb N vp vs P S w) (hN : N ≤ 1000000000) (hs : t.s.size ≤ 100000000) (hn : n = t.L.length) (hn2 : n ≤ 1073741824) (hm : ∀ i, (t.L.getD i sh0).1.length ≤ 1073741824) (hT : (Pm.pathL (ptsS t.L)).length ≤ 1073741824) (hS : ShIs ao t.L w) :
    Calls Tryz.prog 4 #[.pointer (some ⟨kb, 0, none⟩), .agg #[.int .i64 t.kind, .string t.s, .int .i64 t.bw, .int .i64 t.bh, .string t.bs, .int .i64 t.pol, .string t.dr, .int .i64 t.spk, .slice ao n cap, .int .i64 t.W, .int .i64 t.H, .int .i64 t.R]] w fun e w' => e = .returned (.bool true) ∧ StepOut kb N (t.s.size + 1201) vp vs w w' := by
  obtain ⟨kind, s, bw, bh, bs, pol, dr, spk, L, W, H, R⟩ := t
  dsimp only at hs hn hn2 hm hT hS ⊢
  obtain ⟨X, hX⟩ : ∃ X, X = w.alloc (.cells #[.int .i64 kind, .string s, .int .i64 bw, .int .i64 bh, .string bs, .int .i64 pol, .string dr, .int .i64 spk, .slice ao n cap, .int .i64 W, .int .i64 H, .int .i64 R] 35) := ⟨_, rfl⟩
  have BX := hid (show Below w.heap.size w X by rw [hX]; exact (Below.refl _ _).alloc (Nat.le_refl _) _)
  have OX := hid (hO.below BX.out)
  have RD := hid (reads_calls s (by omega) X)
  have WR := hid (writes_calls bw bh bs X)
  have CY := hid (walkedW_any kb N vp vs P S bw bh bs pol dr spk X OX.out hN)
  have TR := hid (traced_any kb N vp vs P S bw bh bs pol dr spk X OX.out hN)
  have PA := hid (written_any ao n cap L hn hn2 hm hT X (hS.on BX.out))
  have SH := hid (bookShaped_any kb N vp vs P S s hs X OX.out hN)
  have FI := hid (fills_any ao n cap L hn (by omega) (fun i => by have := hm i; omega) W H R X (hS.on BX.out))
  have HX := hid hX
  clear hO hN hs hn hn2 hm hT hS hX
  by_cases k1 : kind = 1
  · subst k1
    go_enter Tryz.func4, Tryz.ntmps4
    go_wp2_with fail
    rw [← HX.out]
    refine RD.out.mono ?_
    rintro e w2 ⟨rfl, hb2⟩
    have B2 := hid hb2
    clear hb2
    go_wp2
    go_ret
    exact ⟨rfl, StepOut.box BX.out (StepOut.of_below OX.out B2.out)⟩
  by_cases k2 : kind = 2
  · subst k2
    go_enter Tryz.func4, Tryz.ntmps4
    go_wp2_with fail
    rw [← HX.out]
    refine WR.out.mono ?_
    rintro e w2 ⟨rfl, hb2⟩
    have B2 := hid hb2
    clear hb2
    go_wp2
    go_ret
    exact ⟨rfl, StepOut.box BX.out (StepOut.of_below OX.out B2.out)⟩
  by_cases k3 : kind = 3
  · subst k3
    go_enter Tryz.func4, Tryz.ntmps4
    go_wp2_with fail
    rw [← HX.out]
    refine CY.out.mono ?_
    rintro e w2 ⟨rfl, N', vp', vs', P', S', ho, hn', hfr, kp, ks⟩
    have ST := hid (show StepOut kb N (s.size + 1201) vp vs X w2 from ⟨N', vp', vs', P', S', ho, by omega, hfr, kp, ks⟩)
    clear ho hn' hfr kp ks
    go_wp2
    go_ret
    exact ⟨rfl, StepOut.box BX.out ST.out⟩
  by_cases k4 : kind = 4
  · subst k4
    go_enter Tryz.func4, Tryz.ntmps4
    go_wp2_with fail
    rw [← HX.out]
    refine TR.out.mono ?_
    rintro e w2 ⟨rfl, N', vp', vs', P', S', ho, hn', hfr, kp, ks⟩
    have ST := hid (show StepOut kb N (s.size + 1201) vp vs X w2 from ⟨N', vp', vs', P', S', ho, by omega, hfr, kp, ks⟩)
    clear ho hn' hfr kp ks
    go_wp2
    go_ret
    exact ⟨rfl, StepOut.box BX.out ST.out⟩
  by_cases k5 : kind = 5
  · subst k5
    go_enter Tryz.func4, Tryz.ntmps4
    go_wp2_with fail
    rw [← HX.out]
    refine PA.out.mono ?_
    rintro e w2 ⟨rfl, hb2⟩
    have B2 := hid hb2
    clear hb2
    go_wp2
    go_ret
    exact ⟨rfl, StepOut.box BX.out (StepOut.of_below OX.out B2.out)⟩
  by_cases k6 : kind = 6
  · subst k6
    go_enter Tryz.func4, Tryz.ntmps4
    go_wp2_with fail
    rw [← HX.out]
    refine SH.out.mono ?_
    rintro e w2 ⟨rfl, N', vp', vs', P', S', ho, hn', hfr, kp, ks⟩
    have ST := hid (show StepOut kb N (s.size + 1201) vp vs X w2 from ⟨N', vp', vs', P', S', ho, by omega, hfr, kp, ks⟩)
    clear ho hn' hfr kp ks
    go_wp2
    go_ret
    exact ⟨rfl, StepOut.box BX.out ST.out⟩
  by_cases k7 : kind = 7
  · subst k7
    go_enter Tryz.func4, Tryz.ntmps4
    go_wp2_with fail
    rw [← HX.out]
    refine FI.out.mono ?_
    rintro e w2 ⟨rfl, hb2⟩
    have B2 := hid hb2
    clear hb2
    go_wp2
    go_ret
    exact ⟨rfl, StepOut.box BX.out (StepOut.of_below OX.out B2.out)⟩
  · have e1 : (kind == 1) = false := by simp [k1]
    have e2 : (kind == 2) = false := by simp [k2]
    have e3 : (kind == 3) = false := by simp [k3]
    have e4 : (kind == 4) = false := by simp [k4]
    have e5 : (kind == 5) = false := by simp [k5]
    have e6 : (kind == 6) = false := by simp [k6]
    have e7 : (kind == 7) = false := by simp [k7]
    clear k1 k2 k3 k4 k5 k6 k7
    go_enter Tryz.func4, Tryz.ntmps4
    go_wp2
    go_ret
    rw [← HX.out]
    exact ⟨rfl, StepOut.box BX.out (StepOut.of_below OX.out (Below.refl _ _))⟩

end Go.Proofs.YtljfiefobnncaabGreatDoor
