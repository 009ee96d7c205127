/- The document's Shapes. -/
import Derived.Test.YtljfiefobnncaaaDoorK25
import Derived.Test.YtljfiefobnncaaaDoorK26
namespace Go.Proofs.YtljfiefobnncaaaDoor
open Go.RowKit

/-- What holds in the loop of the document's Shapes: out: the shapes so far, as they were when the open one began. -/
structure FS (l : List UInt8) (j : Nat) (pts : List (Int × Int)) (v : Value) (L : List (Value × List (Int × Int))) (vl : Value) (w wa wr : World) : Prop where
  hi : j ≤ l.length
  few : L.length + pts.length ≤ j
  row : RowP w.heap.size vl L wa
  big : ∀ q ∈ L, 0 < q.2.length ∧ Qm.Small q.2 ∧ q.2.length ≤ l.length
  small : Qm.Small pts
  own : wr.ownsRow wa.heap.size 83 2 v pts.length (Qm.ptsV pts)
  ba : Below w.heap.size w wa
  bl : Below wa.heap.size wa wr
  rch : Pm.Rch l (Pm.st0 l) ⟨j, decide (0 < pts.length), pts, L.map (·.2)⟩
theorem byt_is (s : ByteArray) (j : Nat) (h : j < s.size) (c : UInt8) : ((s[j].toNat : Int) == (c.toNat : Int)) = true ↔ Pm.byt s.data.toList j = c := by
  rw [Pm.byt_at s j h, beq_iff_eq]
  constructor
  · intro e; exact UInt8.toNat_inj.1 (by omega)
  · intro e; rw [e]

set_option maxRecDepth 4000 in
set_option maxHeartbeats 4000000 in
theorem refShapes_any (s : ByteArray) (hs : s.size ≤ 1073741824) (w : World) :
    Calls Tryd.prog 33 #[.string s] w fun e w' => (∃ (v : Value) (ee : Int) (p : Nat), e = .returned (.tuple #[v, .int .i64 ee, .int .i64 p]) ∧ ShsOut s.data.toList w.heap.size v ee p w') ∧ Below w.heap.size w w' := by
  obtain ⟨i0, hi0, hz0, hz1, hz2⟩ := info_parts infoShape
  obtain ⟨ip, hip, hp0, hp1, hp2⟩ := info_parts infoPoint
  have ls : s.data.toList.length = s.size := by simp
  have BI := hid (fun j (h : j < s.size) c => byt_is s j h c)
  obtain ⟨l, hl⟩ : ∃ l, l = s.data.toList := ⟨_, rfl⟩
  have RP := hid (fun k (h : k ≤ s.size) W => refPoint_any s k h (by omega) W)
  have SK := hid (fun k (h : k ≤ s.size) W => refSkip_any s k h (by omega) W)
  rw [← hl] at RP SK BI ls ⊢
  have LS := hid ls
  have k0 := Pm.skp_le (l := l) (i := 0) (Nat.zero_le _)
  have SK0 := hid (SK.out 0 (Nat.zero_le _))
  have I0 := hid (show FS l (Pm.skp l 0) [] (.slice none 0 0) [] (.slice none 0 0) w w w from ⟨k0, by simp, RowP.nil _ _, fun q hq => by simp at hq, fun p hp => by simp at hp, World.ownsRow_nil _ _ _ _, Below.refl _ _, Below.refl _ _, .refl _⟩)
  obtain ⟨j0, hj0⟩ : ∃ j0, j0 = Pm.skp l 0 := ⟨_, rfl⟩
  rw [← hj0] at SK0 I0
  have SK1 := hid (show ∀ W, Calls Tryd.prog 49 #[.string s, .int .i64 0] W fun e w' => e = .returned (.int .i64 j0) ∧ w' = W from fun W => by simpa using SK0.out W)
  clear hl hj0 k0 SK0
  go_enter Tryd.func33, Tryd.ntmps33
  go_wp2_with fail
  refine (SK1.out _).mono ?_
  rintro e w1 ⟨rfl, e1⟩
  subst e1
  go_wp2_with fail
  go_loopw [5, 6, 7, 8] (fun vl v ov jv wr => ∃ (j : Nat) (pts : List (Int × Int)) (L : List (Value × List (Int × Int))) (o : Bool) (wa : World), jv = .int .i64 j ∧ ov = .bool o ∧ Hid (o = decide (0 < pts.length)) ∧ Hid (FS l j pts v L vl w1 wa wr)) (fun _ _ _ jv _ => l.length - (intOf jv).toNat)
  case atStart => exact ⟨j0, [], [], false, w1, rfl, rfl, rfl, I0⟩
  case round =>
    clear I0
    obtain ⟨j, pts, L, o, wa, rfl, rfl, HO, hI⟩ := hrel
    have hj := hI.out.hi
    have few := hI.out.few
    have za := hI.out.ba.size
    have zr := hI.out.bl.size
    have BW := hid (show Below w1.heap.size w1 wr from hI.out.ba.trans (hI.out.bl.mono za))
    obtain ⟨al, cl, hv⟩ := own_len hI.out.row.row
    subst hv
    obtain ⟨ap, cp, hv⟩ := own_len hI.out.own
    subst hv
    by_cases hlt : j < l.length
    · have hjs : j < s.size := by omega
      have j1' : ((j : Nat) : Int) < (s.size : Nat) := by omega
      have j0' : (0 : Int) ≤ (j : Nat) := by omega
      have BZ := hid (BI.out j hjs 122)
      have BM := hid (BI.out j hjs 77)
      have BL := hid (BI.out j hjs 76)
      cases o
      · have p0 : ¬ 0 < pts.length := of_decide_eq_false HO.out.symm
        have PN := hid (show pts = [] from List.length_eq_zero_iff.1 (by omega))
        cases qM : ((s[j].toNat : Int) == 77)
        · have WG := hid (show Pm.Says l (Pm.st0 l) (.error (1, j)) from ⟨_, hI.out.rch, Pm.stp_bad hlt (fun h => by rw [decide_eq_false p0] at h; cases h) (by rw [decide_eq_false p0]; intro e; have := BM.out.2 e; rw [show ((77 : UInt8).toNat : Int) = 77 from rfl, qM] at this; cases this)⟩)
          clear p0
          cases qz : ((s[j].toNat : Int) == 122)
          all_goals
            go_wp2
            go_ret3
            exact ⟨⟨_, 1, j, rfl, .inr ⟨rfl, .inl rfl, WG.out⟩⟩, BW.out⟩
        · have hbm : Pm.byt l j = 77 := BM.out.1 qM
          have qL : ((s[j].toNat : Int) == 76) = false := by have := eq_of_beq qM; rw [this]; rfl
          have qz : ((s[j].toNat : Int) == 122) = false := by have := eq_of_beq qM; rw [this]; rfl
          have BC := hid (show Pm.byt l j = if decide (0 < pts.length) = true then 76 else 77 by rw [decide_eq_false p0]; exact hbm)
          have R1 := hid (RP.out (j + 1) (by omega))
          have R2 := hid (show ∀ W, Calls Tryd.prog 51 #[.string s, .int .i64 ((j : Int) + 1)] W fun e w' => (∃ (a b : Int) (k' : Nat) (ee : Int) (q : Nat), e = .returned (.tuple #[.agg #[.int .i64 a, .int .i64 b], .int .i64 k', .int .i64 ee, .int .i64 q]) ∧ pt4 (Pm.pnt l (j + 1)) a b k' ee q) ∧ Below W.heap.size W w' from fun W => by have := R1.out W; rwa [show ((j + 1 : Nat) : Int) = (j : Int) + 1 from by omega] at this)
          clear p0 hbm R1
          go_wp2_with fail
          refine (R2.out _).mono ?_
          rintro e w2 ⟨⟨px, py, k, ee, q, rfl, h4⟩, hb2⟩
          have B2 := hid (show Below wa.heap.size wa w2 from hI.out.bl.trans (hb2.mono zr))
          have BW2 := hid (show Below w1.heap.size w1 w2 from hI.out.ba.trans (B2.out.mono za))
          have O2 := hid (own_below hI.out.own hb2)
          have s2 := B2.out.size
          clear hb2
          match hp : Pm.pnt l (j + 1) with
          | .error (e', p') =>
            rw [hp] at h4
            obtain ⟨rfl, rfl⟩ := h4
            have pe := Pm.pnt_err (l := l) (i := j + 1) (by omega) hp
            have e0 := err_ne pe.1
            have PE := hid pe
            have WG := hid (show Pm.Says l (Pm.st0 l) (.error (ee, q)) from ⟨_, hI.out.rch, Pm.stp_err hlt BC.out hp⟩)
            clear hp pe
            go_wp2
            go_ret3
            exact ⟨⟨_, ee, q, rfl, .inr ⟨rfl, PE.out.1, WG.out⟩⟩, by go_grown; exact BW2.out⟩
          | .ok (q', k') =>
            rw [hp] at h4
            obtain ⟨e1, e2, rfl, rfl, rfl⟩ := h4
            obtain ⟨⟨hq1, hq2, hq3, hq4⟩, hk1, hk2⟩ := Pm.pnt_ok (l := l) (i := j + 1) (by omega) hp
            have EQ : q' = (px, py) := Prod.ext e1.symm e2.symm
            subst EQ
            have ST := hid (hI.out.rch.snoc (Pm.stp_pt hlt BC.out hp))
            have S1 := hid (SK.out k (by omega))
            have kge := Pm.skp_ge l k
            have kle := Pm.skp_le hk2
            obtain ⟨k2, hk2'⟩ : ∃ k2, k2 = Pm.skp l k := ⟨_, rfl⟩
            rw [← hk2'] at S1 ST kge kle
            have SM := hid (show Qm.Small (pts ++ [(px, py)]) from fun p hp => by
              rcases List.mem_append.1 hp with h | h
              · exact hI.out.small p h
              · rw [List.mem_singleton] at h; subst h; exact ⟨hq1, hq2, hq3, hq4⟩)
            have m1 : pts.length + 1 ≤ maxLen := by unfold maxLen; omega
            have m2 : (pts.length + 1) * 16 ≤ 140737488355328 := by omega
            have B3 := hid (show Below wa.heap.size wa ((w2.alloc (.cells #[.int .i64 px, .int .i64 py] 83)).alloc (.cells #[.int .i64 px, .int .i64 py] 83)) from (B2.out.alloc s2 _).alloc (by simp; omega) _)
            have m3 : wa.heap.size ≤ ((w2.alloc (.cells #[.int .i64 px, .int .i64 py] 83)).alloc (.cells #[.int .i64 px, .int .i64 py] 83)).heap.size := by simp; omega
            clear hp hk2' e1 e2
            go_wp2_with (first
              | (at_builtin; refine wpList_append_own _ rfl _ _ 62 rfl wa.heap.size 83 ip (.agg #[.int .i64 0, .int .i64 0]) 2 16 Tryd.underlying62 hip hp0 hp1 hp2 rfl (by decide) _ _ _ rfl ((O2.out.alloc _).alloc _) ⟨_, 0, none⟩ 1 1 [.int .i64 px, .int .i64 py] rfl rfl (two_cellsY _ _ _ _ _ (by simp)) (two_one _ _) m1 m2 m3 ?_))
            intro v' w5 hown' hgrow _
            have B5 := hid (show Below wa.heap.size wa w5 from B3.out.grown hgrow m3 (fun k hk => (O2.out.lt k hk).1))
            have O5 := hid (show w5.ownsRow wa.heap.size 83 2 v' (pts ++ [(px, py)]).length (Qm.ptsV (pts ++ [(px, py)])) by rw [Qm.ptsV_snoc, List.length_append]; exact hown')
            have NI := hid (show FS l k2 (pts ++ [(px, py)]) v' L _ w1 wa w5 from ⟨kle, by rw [List.length_append, List.length_singleton]; omega, hI.out.row, hI.out.big, SM.out, O5.out, hI.out.ba, B5.out, by rw [decide_eq_true (by simp)]; exact ST.out⟩)
            clear hown' hgrow
            go_wp2_with fail
            refine (S1.out _).mono ?_
            rintro e w6 ⟨rfl, e6⟩
            subst e6
            go_wp2
            go_roundw
            case rel => exact ⟨k2, pts ++ [(px, py)], L, true, wa, rfl, rfl, by show _ = _; rw [decide_eq_true (by simp)], NI⟩
            case measure => simp [intOf]; omega
      · have p0 : 0 < pts.length := of_decide_eq_true HO.out.symm
        cases qz : ((s[j].toNat : Int) == 122)
        · cases qL : ((s[j].toNat : Int) == 76)
          · have WG := hid (show Pm.Says l (Pm.st0 l) (.error (1, j)) from ⟨_, hI.out.rch, Pm.stp_bad hlt (fun _ e => by have := BZ.out.2 e; rw [show ((122 : UInt8).toNat : Int) = 122 from rfl, qz] at this; cases this) (by rw [decide_eq_true p0]; intro e; have := BL.out.2 e; rw [show ((76 : UInt8).toNat : Int) = 76 from rfl, qL] at this; cases this)⟩)
            clear p0
            cases qM : ((s[j].toNat : Int) == 77)
            all_goals
              go_wp2
              go_ret3
              exact ⟨⟨_, 1, j, rfl, .inr ⟨rfl, .inl rfl, WG.out⟩⟩, BW.out⟩
          · have hbm : Pm.byt l j = 76 := BL.out.1 qL
            have qM : ((s[j].toNat : Int) == 77) = false := by have := eq_of_beq qL; rw [this]; rfl
            have BC := hid (show Pm.byt l j = if decide (0 < pts.length) = true then 76 else 77 by rw [decide_eq_true p0]; exact hbm)
            have R1 := hid (RP.out (j + 1) (by omega))
            have R2 := hid (show ∀ W, Calls Tryd.prog 51 #[.string s, .int .i64 ((j : Int) + 1)] W fun e w' => (∃ (a b : Int) (k' : Nat) (ee : Int) (q : Nat), e = .returned (.tuple #[.agg #[.int .i64 a, .int .i64 b], .int .i64 k', .int .i64 ee, .int .i64 q]) ∧ pt4 (Pm.pnt l (j + 1)) a b k' ee q) ∧ Below W.heap.size W w' from fun W => by have := R1.out W; rwa [show ((j + 1 : Nat) : Int) = (j : Int) + 1 from by omega] at this)
            clear p0 hbm R1
            go_wp2_with fail
            refine (R2.out _).mono ?_
            rintro e w2 ⟨⟨px, py, k, ee, q, rfl, h4⟩, hb2⟩
            have B2 := hid (show Below wa.heap.size wa w2 from hI.out.bl.trans (hb2.mono zr))
            have BW2 := hid (show Below w1.heap.size w1 w2 from hI.out.ba.trans (B2.out.mono za))
            have O2 := hid (own_below hI.out.own hb2)
            have s2 := B2.out.size
            clear hb2
            match hp : Pm.pnt l (j + 1) with
            | .error (e', p') =>
              rw [hp] at h4
              obtain ⟨rfl, rfl⟩ := h4
              have pe := Pm.pnt_err (l := l) (i := j + 1) (by omega) hp
              have e0 := err_ne pe.1
              have PE := hid pe
              have WG := hid (show Pm.Says l (Pm.st0 l) (.error (ee, q)) from ⟨_, hI.out.rch, Pm.stp_err hlt BC.out hp⟩)
              clear hp pe
              go_wp2
              go_ret3
              exact ⟨⟨_, ee, q, rfl, .inr ⟨rfl, PE.out.1, WG.out⟩⟩, by go_grown; exact BW2.out⟩
            | .ok (q', k') =>
              rw [hp] at h4
              obtain ⟨e1, e2, rfl, rfl, rfl⟩ := h4
              obtain ⟨⟨hq1, hq2, hq3, hq4⟩, hk1, hk2⟩ := Pm.pnt_ok (l := l) (i := j + 1) (by omega) hp
              have EQ : q' = (px, py) := Prod.ext e1.symm e2.symm
              subst EQ
              have ST := hid (hI.out.rch.snoc (Pm.stp_pt hlt BC.out hp))
              have S1 := hid (SK.out k (by omega))
              have kge := Pm.skp_ge l k
              have kle := Pm.skp_le hk2
              obtain ⟨k2, hk2'⟩ : ∃ k2, k2 = Pm.skp l k := ⟨_, rfl⟩
              rw [← hk2'] at S1 ST kge kle
              have SM := hid (show Qm.Small (pts ++ [(px, py)]) from fun p hp => by
                rcases List.mem_append.1 hp with h | h
                · exact hI.out.small p h
                · rw [List.mem_singleton] at h; subst h; exact ⟨hq1, hq2, hq3, hq4⟩)
              have m1 : pts.length + 1 ≤ maxLen := by unfold maxLen; omega
              have m2 : (pts.length + 1) * 16 ≤ 140737488355328 := by omega
              have B3 := hid (show Below wa.heap.size wa ((w2.alloc (.cells #[.int .i64 px, .int .i64 py] 83)).alloc (.cells #[.int .i64 px, .int .i64 py] 83)) from (B2.out.alloc s2 _).alloc (by simp; omega) _)
              have m3 : wa.heap.size ≤ ((w2.alloc (.cells #[.int .i64 px, .int .i64 py] 83)).alloc (.cells #[.int .i64 px, .int .i64 py] 83)).heap.size := by simp; omega
              clear hp hk2' e1 e2
              go_wp2_with (first
                | (at_builtin; refine wpList_append_own _ rfl _ _ 62 rfl wa.heap.size 83 ip (.agg #[.int .i64 0, .int .i64 0]) 2 16 Tryd.underlying62 hip hp0 hp1 hp2 rfl (by decide) _ _ _ rfl ((O2.out.alloc _).alloc _) ⟨_, 0, none⟩ 1 1 [.int .i64 px, .int .i64 py] rfl rfl (two_cellsY _ _ _ _ _ (by simp)) (two_one _ _) m1 m2 m3 ?_))
              intro v' w5 hown' hgrow _
              have B5 := hid (show Below wa.heap.size wa w5 from B3.out.grown hgrow m3 (fun k hk => (O2.out.lt k hk).1))
              have O5 := hid (show w5.ownsRow wa.heap.size 83 2 v' (pts ++ [(px, py)]).length (Qm.ptsV (pts ++ [(px, py)])) by rw [Qm.ptsV_snoc, List.length_append]; exact hown')
              have NI := hid (show FS l k2 (pts ++ [(px, py)]) v' L _ w1 wa w5 from ⟨kle, by rw [List.length_append, List.length_singleton]; omega, hI.out.row, hI.out.big, SM.out, O5.out, hI.out.ba, B5.out, by rw [decide_eq_true (by simp)]; exact ST.out⟩)
              clear hown' hgrow
              go_wp2_with fail
              refine (S1.out _).mono ?_
              rintro e w6 ⟨rfl, e6⟩
              subst e6
              go_wp2
              go_roundw
              case rel => exact ⟨k2, pts ++ [(px, py)], L, true, wa, rfl, rfl, by show _ = _; rw [decide_eq_true (by simp)], NI⟩
              case measure => simp [intOf]; omega
        · have hbz : Pm.byt l j = 122 := BZ.out.1 qz
          have ST := hid (hI.out.rch.snoc (show Pm.stp l ⟨j, decide (0 < pts.length), pts, L.map (·.2)⟩ = .inl ⟨Pm.skp l (j + 1), false, [], L.map (·.2) ++ [pts]⟩ by rw [decide_eq_true p0]; exact Pm.stp_z hlt hbz))
          have S1 := hid (SK.out (j + 1) (by omega))
          have S2 := hid (show ∀ W, Calls Tryd.prog 49 #[.string s, .int .i64 ((j : Int) + 1)] W fun e w' => e = .returned (.int .i64 (Pm.skp l (j + 1) : Nat)) ∧ w' = W from fun W => by have := S1.out W; rwa [show ((j + 1 : Nat) : Int) = (j : Int) + 1 from by omega] at this)
          have kge := Pm.skp_ge l (j + 1)
          have kle := Pm.skp_le (l := l) (i := j + 1) (by omega)
          obtain ⟨k2, hk2'⟩ : ∃ k2, k2 = Pm.skp l (j + 1) := ⟨_, rfl⟩
          rw [← hk2'] at S2 ST kge kle
          obtain ⟨g, cq, hgq, hg, hpt, -⟩ := own_at hI.out.own p0
          injection hgq with hgq1 _ hgq2
          subst hgq1
          subst hgq2
          have TW := hid (refTwice_big g pts.length cp pts rfl p0 hI.out.small (by omega) wr hpt)
          have P0 := hid p0
          obtain ⟨m, hm⟩ : ∃ m, m = pts.length := ⟨_, rfl⟩
          rw [← hm] at TW ⊢
          have HMM := hid hm
          obtain ⟨tw, htw⟩ : ∃ tw, tw = Qm.twiceOf pts := ⟨_, rfl⟩
          rw [← htw] at TW
          have HTW := hid htw
          have n1 : L.length + 1 ≤ maxLen := by unfold maxLen; omega
          have n2 : (L.length + 1) * 32 ≤ 140737488355328 := by omega
          clear hpt p0 hk2' hm htw S1 hbz
          go_wp2_with fail
          refine TW.out.mono ?_
          rintro e w4 ⟨rfl, b4⟩
          have HB4 := hid b4
          have z4 := b4.size
          clear b4
          have n3 : w1.heap.size ≤ (w4.alloc (.cells #[.slice (some ⟨g, 0, none⟩) m cp, .int .i64 tw] 81)).heap.size := by simp; omega
          have R4 := hid ((hI.out.row.on hI.out.bl).on HB4.out)
          go_wp2_with (first
            | (at_builtin; refine wpList_append_own_at _ rfl _ _ 35 rfl w1.heap.size 81 i0 (.agg #[.slice none 0 0, .int .i64 0]) 2 32 Tryd.underlying35 hi0 hz0 hz1 hz2 rfl (by decide) _ _ _ rfl (R4.out.row.alloc _) ⟨_, 0, none⟩ 1 1 [.slice (some ⟨g, 0, none⟩) m cp, .int .i64 tw] rfl rfl (vt_cells _ _ _ _ _ _ _ rfl) (vt_one _ _ _ _) n1 n2 n3 ?_))
          intro vl' w5 o5 g5 _ e5
          have RP5 := hid (hI.out.row.snoc (v := .slice (some ⟨g, 0, none⟩) m cp) (l := pts) (vl' := vl') (by omega) hI.out.bl (by have := hI.out.own; rw [← HMM.out] at this ⊢; exact this) P0.out HB4.out (by rw [← HTW.out]; exact o5) g5 (by simpa using e5))
          have B5 := hid (show Below w1.heap.size w1 w5 from ((BW.out.trans (HB4.out.mono (by omega))).alloc (by omega) _).grown g5 n3 (fun q hq => (R4.out.row.lt q hq).1))
          have NI := hid (show FS l k2 [] (.slice none 0 0) (L ++ [(.slice (some ⟨g, 0, none⟩) m cp, pts)]) vl' w1 w5 w5 from ⟨kle, by rw [List.length_append, List.length_singleton, List.length_nil]; have := HMM.out; have := P0.out; omega, RP5.out, fun q hq => by
            rcases List.mem_append.1 hq with h | h
            · exact hI.out.big q h
            · rw [List.mem_singleton] at h; subst h; exact ⟨P0.out, hI.out.small, by show pts.length ≤ _; omega⟩, fun p hp => by simp at hp, World.ownsRow_nil _ _ _ _, B5.out, Below.refl _ _, by rw [List.map_append]; exact ST.out⟩)
          clear o5 g5 e5
          go_wp2_with fail
          refine (S2.out _).mono ?_
          rintro e w6 ⟨rfl, e6⟩
          subst e6
          go_wp2
          go_roundw
          case rel => exact ⟨k2, [], _, false, w6, rfl, rfl, rfl, NI⟩
          case measure => simp [intOf]; omega
    · have ej : j = l.length := by omega
      have j1' : ((s.size : Nat) : Int) ≤ (j : Nat) := by omega
      cases o
      · have p0 : ¬ 0 < pts.length := of_decide_eq_false HO.out.symm
        have WG := hid (show Pm.Says l (Pm.st0 l) (.ok (L.map (·.2))) from ⟨_, hI.out.rch, by rw [decide_eq_false p0]; exact Pm.stp_end (by omega)⟩)
        have RW := hid (hI.out.row.on hI.out.bl)
        obtain ⟨m, hm⟩ : ∃ m, m = L.length := ⟨_, rfl⟩
        have HMM := hid hm
        rw [← hm]
        clear hm p0
        go_wp2
        go_ret3
        exact ⟨⟨.slice al m cl, 0, 0, rfl, .inl ⟨rfl, rfl, L, by have := RW.out; rw [← HMM.out] at this; exact this, hI.out.big, by omega, WG.out⟩⟩, BW.out⟩
      · have p0 : 0 < pts.length := of_decide_eq_true HO.out.symm
        have WG := hid (show Pm.Says l (Pm.st0 l) (.error (2, s.size)) from ⟨_, hI.out.rch, by rw [decide_eq_true p0, ← LS.out]; exact Pm.stp_short (by omega)⟩)
        clear p0
        go_wp2
        go_ret3
        exact ⟨⟨_, 2, s.size, rfl, .inr ⟨rfl, .inr (.inl rfl), WG.out⟩⟩, BW.out⟩

end Go.Proofs.YtljfiefobnncaaaDoor
