import Derived.Test.YtljfiefobnncaabGreatDoorK29
import Derived.Test.YtljfiefobnncaabGreatDoorK08
import Derived.Test.YtljfiefobnncaabGreatDoorK27
import Derived.Test.YtljfiefobnncaabGreatDoorK05
import Derived.Laws.CopyOwn
import Derived.Deep.RegionHeld3

/- The document's Shapes. -/
namespace Go.Proofs.YtljfiefobnncaabGreatDoor
open Go.RowKit

/-- What holds in the loop of the document's Shapes: out: the shapes so far, as they were when the open one began. -/
structure FS (l : List UInt8) (j : Nat) (pts : List (Int × Int)) (v : Value) (L : List (Value × List (Int × Int))) (vl : Value) (w wa wr : World) : Prop where
  hi : j ≤ l.length
  few : L.length + pts.length ≤ j
  row : RowP w.heap.size vl L wa
  big : ∀ q ∈ L, 0 < q.2.length ∧ Qm.Small q.2 ∧ q.2.length ≤ l.length
  small : Qm.Small pts
  own : wr.ownsRow wa.heap.size 65 2 v pts.length (Qm.ptsV pts)
  ba : Below w.heap.size w wa
  bl : Below wa.heap.size wa wr
  rch : Pm.Rch l (Pm.st0 l) ⟨j, decide (0 < pts.length), pts, L.map (·.2)⟩
theorem byt_is (s : ByteArray) (j : Nat) (h : j < s.size) (c : UInt8) : ((s[j].toNat : Int) == (c.toNat : Int)) = true ↔ Pm.byt s.data.toList j = c := by
  rw [Pm.byt_at s j h, beq_iff_eq]
  constructor
  · intro e; exact UInt8.toNat_inj.1 (by omega)
  · intro e; rw [e]

set_option maxRecDepth 4000 in
set_option maxHeartbeats 4000000 in
theorem refShapes_any (s : ByteArray) (hs : s.size ≤ 1073741824) (w : World) :
    Calls Tryz.prog 30 #[.string s] w fun e w' => (∃ (v : Value) (ee : Int) (p : Nat), e = .returned (.tuple #[v, .int .i64 ee, .int .i64 p]) ∧ ShsOut s.data.toList w.heap.size v ee p w') ∧ Below w.heap.size w w' := by
  obtain ⟨i0, hi0, hz0, hz1, hz2⟩ := info_parts infoShape
  obtain ⟨ip, hip, hp0, hp1, hp2⟩ := info_parts infoPoint
  have ls : s.data.toList.length = s.size := by simp
  have BI := hid (fun j (h : j < s.size) c => byt_is s j h c)
  obtain ⟨l, hl⟩ : ∃ l, l = s.data.toList := ⟨_, rfl⟩
  have RP := hid (fun k (h : k ≤ s.size) W => refPoint_any s k h (by omega) W)
  have SK := hid (fun k (h : k ≤ s.size) W => refSkip_any s k h (by omega) W)
  rw [← hl] at RP SK BI ls ⊢
  have LS := hid ls
  have k0 := Pm.skp_le (l := l) (i := 0) (Nat.zero_le _)
  have SK0 := hid (SK.out 0 (Nat.zero_le _))
  have I0 := hid (show FS l (Pm.skp l 0) [] (.slice none 0 0) [] (.slice none 0 0) w w w from ⟨k0, by simp, RowP.nil _ _, fun q hq => by simp at hq, fun p hp => by simp at hp, World.ownsRow_nil _ _ _ _, Below.refl _ _, Below.refl _ _, .refl _⟩)
  obtain ⟨j0, hj0⟩ : ∃ j0, j0 = Pm.skp l 0 := ⟨_, rfl⟩
  rw [← hj0] at SK0 I0
  have SK1 := hid (show ∀ W, Calls Tryz.prog 56 #[.string s, .int .i64 0] W fun e w' => e = .returned (.int .i64 j0) ∧ w' = W from fun W => by simpa using SK0.out W)
  clear hl hj0 k0 SK0
  go_enter Tryz.func30, Tryz.ntmps30
  go_wp2_with fail
  refine (SK1.out _).mono ?_
  rintro e w1 ⟨rfl, e1⟩
  subst e1
  go_wp2_with fail
  go_loopw [5, 6, 7, 8] (fun vl v ov jv wr => ∃ (j : Nat) (pts : List (Int × Int)) (L : List (Value × List (Int × Int))) (o : Bool) (wa : World), jv = .int .i64 j ∧ ov = .bool o ∧ Hid (o = decide (0 < pts.length)) ∧ Hid (FS l j pts v L vl w1 wa wr)) (fun _ _ _ jv _ => l.length - (intOf jv).toNat)
  case atStart => exact ⟨j0, [], [], false, w1, rfl, rfl, rfl, I0⟩
  case round =>
    clear I0
    obtain ⟨j, pts, L, o, wa, rfl, rfl, HO, hI⟩ := hrel
    have hj := hI.out.hi
    have few := hI.out.few
    have za := hI.out.ba.size
    have zr := hI.out.bl.size
    have BW := hid (show Below w1.heap.size w1 wr from hI.out.ba.trans (hI.out.bl.mono za))
    obtain ⟨al, cl, hv⟩ := own_len hI.out.row.row
    subst hv
    obtain ⟨ap, cp, hv⟩ := own_len hI.out.own
    subst hv
    by_cases hlt : j < l.length
    · have hjs : j < s.size := by omega
      have j1' : ((j : Nat) : Int) < (s.size : Nat) := by omega
      have j0' : (0 : Int) ≤ (j : Nat) := by omega
      have BZ := hid (BI.out j hjs 122)
      have BM := hid (BI.out j hjs 77)
      have BL := hid (BI.out j hjs 76)
      cases o
      · have p0 : ¬ 0 < pts.length := of_decide_eq_false HO.out.symm
        have PN := hid (show pts = [] from List.length_eq_zero_iff.1 (by omega))
        cases qM : ((s[j].toNat : Int) == 77)
        · have WG := hid (show Pm.Says l (Pm.st0 l) (.error (1, j)) from ⟨_, hI.out.rch, Pm.stp_bad hlt (fun h => by rw [decide_eq_false p0] at h; cases h) (by rw [decide_eq_false p0]; intro e; have := BM.out.2 e; rw [show ((77 : UInt8).toNat : Int) = 77 from rfl, qM] at this; cases this)⟩)
          clear p0
          cases qz : ((s[j].toNat : Int) == 122)
          all_goals
            go_wp2
            go_ret3
            exact ⟨⟨_, 1, j, rfl, .inr ⟨rfl, .inl rfl, WG.out⟩⟩, BW.out⟩
        · have hbm : Pm.byt l j = 77 := BM.out.1 qM
          have qL : ((s[j].toNat : Int) == 76) = false := by have := eq_of_beq qM; rw [this]; rfl
          have qz : ((s[j].toNat : Int) == 122) = false := by have := eq_of_beq qM; rw [this]; rfl
          have BC := hid (show Pm.byt l j = if decide (0 < pts.length) = true then 76 else 77 by rw [decide_eq_false p0]; exact hbm)
          have R1 := hid (RP.out (j + 1) (by omega))
          have R2 := hid (show ∀ W, Calls Tryz.prog 57 #[.string s, .int .i64 ((j : Int) + 1)] W fun e w' => (∃ (a b : Int) (k' : Nat) (ee : Int) (q : Nat), e = .returned (.tuple #[.agg #[.int .i64 a, .int .i64 b], .int .i64 k', .int .i64 ee, .int .i64 q]) ∧ pt4 (Pm.pnt l (j + 1)) a b k' ee q) ∧ Below W.heap.size W w' from fun W => by have := R1.out W; rwa [show ((j + 1 : Nat) : Int) = (j : Int) + 1 from by omega] at this)
          clear p0 hbm R1
          go_wp2_with fail
          refine (R2.out _).mono ?_
          rintro e w2 ⟨⟨px, py, k, ee, q, rfl, h4⟩, hb2⟩
          have B2 := hid (show Below wa.heap.size wa w2 from hI.out.bl.trans (hb2.mono zr))
          have BW2 := hid (show Below w1.heap.size w1 w2 from hI.out.ba.trans (B2.out.mono za))
          have O2 := hid (own_below hI.out.own hb2)
          have s2 := B2.out.size
          clear hb2
          match hp : Pm.pnt l (j + 1) with
          | .error (e', p') =>
            rw [hp] at h4
            obtain ⟨rfl, rfl⟩ := h4
            have pe := Pm.pnt_err (l := l) (i := j + 1) (by omega) hp
            have e0 := err_ne pe.1
            have PE := hid pe
            have WG := hid (show Pm.Says l (Pm.st0 l) (.error (ee, q)) from ⟨_, hI.out.rch, Pm.stp_err hlt BC.out hp⟩)
            clear hp pe
            go_wp2
            go_ret3
            exact ⟨⟨_, ee, q, rfl, .inr ⟨rfl, PE.out.1, WG.out⟩⟩, by go_grown; exact BW2.out⟩
          | .ok (q', k') =>
            rw [hp] at h4
            obtain ⟨e1, e2, rfl, rfl, rfl⟩ := h4
            obtain ⟨⟨hq1, hq2, hq3, hq4⟩, hk1, hk2⟩ := Pm.pnt_ok (l := l) (i := j + 1) (by omega) hp
            have EQ : q' = (px, py) := Prod.ext e1.symm e2.symm
            subst EQ
            have ST := hid (hI.out.rch.snoc (Pm.stp_pt hlt BC.out hp))
            have S1 := hid (SK.out k (by omega))
            have kge := Pm.skp_ge l k
            have kle := Pm.skp_le hk2
            obtain ⟨k2, hk2'⟩ : ∃ k2, k2 = Pm.skp l k := ⟨_, rfl⟩
            rw [← hk2'] at S1 ST kge kle
            have SM := hid (show Qm.Small (pts ++ [(px, py)]) from fun p hp => by
              rcases List.mem_append.1 hp with h | h
              · exact hI.out.small p h
              · rw [List.mem_singleton] at h; subst h; exact ⟨hq1, hq2, hq3, hq4⟩)
            have m1 : pts.length + 1 ≤ maxLen := by unfold maxLen; omega
            have m2 : (pts.length + 1) * 16 ≤ 140737488355328 := by omega
            have B3 := hid (show Below wa.heap.size wa ((w2.alloc (.cells #[.int .i64 px, .int .i64 py] 65)).alloc (.cells #[.int .i64 px, .int .i64 py] 65)) from (B2.out.alloc s2 _).alloc (by simp; omega) _)
            have m3 : wa.heap.size ≤ ((w2.alloc (.cells #[.int .i64 px, .int .i64 py] 65)).alloc (.cells #[.int .i64 px, .int .i64 py] 65)).heap.size := by simp; omega
            clear hp hk2' e1 e2
            go_wp2_with (first
              | (at_builtin; refine wpList_append_own _ rfl _ _ 43 rfl wa.heap.size 65 ip (.agg #[.int .i64 0, .int .i64 0]) 2 16 Tryz.underlying43 hip hp0 hp1 hp2 rfl (by decide) _ _ _ rfl ((O2.out.alloc _).alloc _) ⟨_, 0, none⟩ 1 1 [.int .i64 px, .int .i64 py] rfl rfl (two_cellsY _ _ _ _ _ (by simp)) (two_one _ _) m1 m2 m3 ?_))
            intro v' w5 hown' hgrow _
            have B5 := hid (show Below wa.heap.size wa w5 from B3.out.grown hgrow m3 (fun k hk => (O2.out.lt k hk).1))
            have O5 := hid (show w5.ownsRow wa.heap.size 65 2 v' (pts ++ [(px, py)]).length (Qm.ptsV (pts ++ [(px, py)])) by rw [Qm.ptsV_snoc, List.length_append]; exact hown')
            have NI := hid (show FS l k2 (pts ++ [(px, py)]) v' L _ w1 wa w5 from ⟨kle, by rw [List.length_append, List.length_singleton]; omega, hI.out.row, hI.out.big, SM.out, O5.out, hI.out.ba, B5.out, by rw [decide_eq_true (by simp)]; exact ST.out⟩)
            clear hown' hgrow
            go_wp2_with fail
            refine (S1.out _).mono ?_
            rintro e w6 ⟨rfl, e6⟩
            subst e6
            go_wp2
            go_roundw
            case rel => exact ⟨k2, pts ++ [(px, py)], L, true, wa, rfl, rfl, by show _ = _; rw [decide_eq_true (by simp)], NI⟩
            case measure => simp [intOf]; omega
      · have p0 : 0 < pts.length := of_decide_eq_true HO.out.symm
        cases qz : ((s[j].toNat : Int) == 122)
        · cases qL : ((s[j].toNat : Int) == 76)
          · have WG := hid (show Pm.Says l (Pm.st0 l) (.error (1, j)) from ⟨_, hI.out.rch, Pm.stp_bad hlt (fun _ e => by have := BZ.out.2 e; rw [show ((122 : UInt8).toNat : Int) = 122 from rfl, qz] at this; cases this) (by rw [decide_eq_true p0]; intro e; have := BL.out.2 e; rw [show ((76 : UInt8).toNat : Int) = 76 from rfl, qL] at this; cases this)⟩)
            clear p0
            cases qM : ((s[j].toNat : Int) == 77)
            all_goals
              go_wp2
              go_ret3
              exact ⟨⟨_, 1, j, rfl, .inr ⟨rfl, .inl rfl, WG.out⟩⟩, BW.out⟩
          · have hbm : Pm.byt l j = 76 := BL.out.1 qL
            have qM : ((s[j].toNat : Int) == 77) = false := by have := eq_of_beq qL; rw [this]; rfl
            have BC := hid (show Pm.byt l j = if decide (0 < pts.length) = true then 76 else 77 by rw [decide_eq_true p0]; exact hbm)
            have R1 := hid (RP.out (j + 1) (by omega))
            have R2 := hid (show ∀ W, Calls Tryz.prog 57 #[.string s, .int .i64 ((j : Int) + 1)] W fun e w' => (∃ (a b : Int) (k' : Nat) (ee : Int) (q : Nat), e = .returned (.tuple #[.agg #[.int .i64 a, .int .i64 b], .int .i64 k', .int .i64 ee, .int .i64 q]) ∧ pt4 (Pm.pnt l (j + 1)) a b k' ee q) ∧ Below W.heap.size W w' from fun W => by have := R1.out W; rwa [show ((j + 1 : Nat) : Int) = (j : Int) + 1 from by omega] at this)
            clear p0 hbm R1
            go_wp2_with fail
            refine (R2.out _).mono ?_
            rintro e w2 ⟨⟨px, py, k, ee, q, rfl, h4⟩, hb2⟩
            have B2 := hid (show Below wa.heap.size wa w2 from hI.out.bl.trans (hb2.mono zr))
            have BW2 := hid (show Below w1.heap.size w1 w2 from hI.out.ba.trans (B2.out.mono za))
            have O2 := hid (own_below hI.out.own hb2)
            have s2 := B2.out.size
            clear hb2
            match hp : Pm.pnt l (j + 1) with
            | .error (e', p') =>
              rw [hp] at h4
              obtain ⟨rfl, rfl⟩ := h4
              have pe := Pm.pnt_err (l := l) (i := j + 1) (by omega) hp
              have e0 := err_ne pe.1
              have PE := hid pe
              have WG := hid (show Pm.Says l (Pm.st0 l) (.error (ee, q)) from ⟨_, hI.out.rch, Pm.stp_err hlt BC.out hp⟩)
              clear hp pe
              go_wp2
              go_ret3
              exact ⟨⟨_, ee, q, rfl, .inr ⟨rfl, PE.out.1, WG.out⟩⟩, by go_grown; exact BW2.out⟩
            | .ok (q', k') =>
              rw [hp] at h4
              obtain ⟨e1, e2, rfl, rfl, rfl⟩ := h4
              obtain ⟨⟨hq1, hq2, hq3, hq4⟩, hk1, hk2⟩ := Pm.pnt_ok (l := l) (i := j + 1) (by omega) hp
              have EQ : q' = (px, py) := Prod.ext e1.symm e2.symm
              subst EQ
              have ST := hid (hI.out.rch.snoc (Pm.stp_pt hlt BC.out hp))
              have S1 := hid (SK.out k (by omega))
              have kge := Pm.skp_ge l k
              have kle := Pm.skp_le hk2
              obtain ⟨k2, hk2'⟩ : ∃ k2, k2 = Pm.skp l k := ⟨_, rfl⟩
              rw [← hk2'] at S1 ST kge kle
              have SM := hid (show Qm.Small (pts ++ [(px, py)]) from fun p hp => by
                rcases List.mem_append.1 hp with h | h
                · exact hI.out.small p h
                · rw [List.mem_singleton] at h; subst h; exact ⟨hq1, hq2, hq3, hq4⟩)
              have m1 : pts.length + 1 ≤ maxLen := by unfold maxLen; omega
              have m2 : (pts.length + 1) * 16 ≤ 140737488355328 := by omega
              have B3 := hid (show Below wa.heap.size wa ((w2.alloc (.cells #[.int .i64 px, .int .i64 py] 65)).alloc (.cells #[.int .i64 px, .int .i64 py] 65)) from (B2.out.alloc s2 _).alloc (by simp; omega) _)
              have m3 : wa.heap.size ≤ ((w2.alloc (.cells #[.int .i64 px, .int .i64 py] 65)).alloc (.cells #[.int .i64 px, .int .i64 py] 65)).heap.size := by simp; omega
              clear hp hk2' e1 e2
              go_wp2_with (first
                | (at_builtin; refine wpList_append_own _ rfl _ _ 43 rfl wa.heap.size 65 ip (.agg #[.int .i64 0, .int .i64 0]) 2 16 Tryz.underlying43 hip hp0 hp1 hp2 rfl (by decide) _ _ _ rfl ((O2.out.alloc _).alloc _) ⟨_, 0, none⟩ 1 1 [.int .i64 px, .int .i64 py] rfl rfl (two_cellsY _ _ _ _ _ (by simp)) (two_one _ _) m1 m2 m3 ?_))
              intro v' w5 hown' hgrow _
              have B5 := hid (show Below wa.heap.size wa w5 from B3.out.grown hgrow m3 (fun k hk => (O2.out.lt k hk).1))
              have O5 := hid (show w5.ownsRow wa.heap.size 65 2 v' (pts ++ [(px, py)]).length (Qm.ptsV (pts ++ [(px, py)])) by rw [Qm.ptsV_snoc, List.length_append]; exact hown')
              have NI := hid (show FS l k2 (pts ++ [(px, py)]) v' L _ w1 wa w5 from ⟨kle, by rw [List.length_append, List.length_singleton]; omega, hI.out.row, hI.out.big, SM.out, O5.out, hI.out.ba, B5.out, by rw [decide_eq_true (by simp)]; exact ST.out⟩)
              clear hown' hgrow
              go_wp2_with fail
              refine (S1.out _).mono ?_
              rintro e w6 ⟨rfl, e6⟩
              subst e6
              go_wp2
              go_roundw
              case rel => exact ⟨k2, pts ++ [(px, py)], L, true, wa, rfl, rfl, by show _ = _; rw [decide_eq_true (by simp)], NI⟩
              case measure => simp [intOf]; omega
        · have hbz : Pm.byt l j = 122 := BZ.out.1 qz
          have ST := hid (hI.out.rch.snoc (show Pm.stp l ⟨j, decide (0 < pts.length), pts, L.map (·.2)⟩ = .inl ⟨Pm.skp l (j + 1), false, [], L.map (·.2) ++ [pts]⟩ by rw [decide_eq_true p0]; exact Pm.stp_z hlt hbz))
          have S1 := hid (SK.out (j + 1) (by omega))
          have S2 := hid (show ∀ W, Calls Tryz.prog 56 #[.string s, .int .i64 ((j : Int) + 1)] W fun e w' => e = .returned (.int .i64 (Pm.skp l (j + 1) : Nat)) ∧ w' = W from fun W => by have := S1.out W; rwa [show ((j + 1 : Nat) : Int) = (j : Int) + 1 from by omega] at this)
          have kge := Pm.skp_ge l (j + 1)
          have kle := Pm.skp_le (l := l) (i := j + 1) (by omega)
          obtain ⟨k2, hk2'⟩ : ∃ k2, k2 = Pm.skp l (j + 1) := ⟨_, rfl⟩
          rw [← hk2'] at S2 ST kge kle
          obtain ⟨g, cq, hgq, hg, hpt, -⟩ := own_at hI.out.own p0
          injection hgq with hgq1 _ hgq2
          subst hgq1
          subst hgq2
          have TW := hid (refTwice_big g pts.length cp pts rfl p0 hI.out.small (by omega) wr hpt)
          have P0 := hid p0
          obtain ⟨m, hm⟩ : ∃ m, m = pts.length := ⟨_, rfl⟩
          rw [← hm] at TW ⊢
          have HMM := hid hm
          obtain ⟨tw, htw⟩ : ∃ tw, tw = Qm.twiceOf pts := ⟨_, rfl⟩
          rw [← htw] at TW
          have HTW := hid htw
          have n1 : L.length + 1 ≤ maxLen := by unfold maxLen; omega
          have n2 : (L.length + 1) * 32 ≤ 140737488355328 := by omega
          clear hpt p0 hk2' hm htw S1 hbz
          go_wp2_with fail
          refine TW.out.mono ?_
          rintro e w4 ⟨rfl, b4⟩
          have HB4 := hid b4
          have z4 := b4.size
          clear b4
          have n3 : w1.heap.size ≤ (w4.alloc (.cells #[.slice (some ⟨g, 0, none⟩) m cp, .int .i64 tw] 67)).heap.size := by simp; omega
          have R4 := hid ((hI.out.row.on hI.out.bl).on HB4.out)
          go_wp2_with (first
            | (at_builtin; refine wpList_append_own_at _ rfl _ _ 33 rfl w1.heap.size 67 i0 (.agg #[.slice none 0 0, .int .i64 0]) 2 32 Tryz.underlying33 hi0 hz0 hz1 hz2 rfl (by decide) _ _ _ rfl (R4.out.row.alloc _) ⟨_, 0, none⟩ 1 1 [.slice (some ⟨g, 0, none⟩) m cp, .int .i64 tw] rfl rfl (vt_cells _ _ _ _ _ _ _ rfl) (vt_one _ _ _ _) n1 n2 n3 ?_))
          intro vl' w5 o5 g5 _ e5
          have RP5 := hid (hI.out.row.snoc (v := .slice (some ⟨g, 0, none⟩) m cp) (l := pts) (vl' := vl') (by omega) hI.out.bl (by have := hI.out.own; rw [← HMM.out] at this ⊢; exact this) P0.out HB4.out (by rw [← HTW.out]; exact o5) g5 (by simpa using e5))
          have B5 := hid (show Below w1.heap.size w1 w5 from ((BW.out.trans (HB4.out.mono (by omega))).alloc (by omega) _).grown g5 n3 (fun q hq => (R4.out.row.lt q hq).1))
          have NI := hid (show FS l k2 [] (.slice none 0 0) (L ++ [(.slice (some ⟨g, 0, none⟩) m cp, pts)]) vl' w1 w5 w5 from ⟨kle, by rw [List.length_append, List.length_singleton, List.length_nil]; have := HMM.out; have := P0.out; omega, RP5.out, fun q hq => by
            rcases List.mem_append.1 hq with h | h
            · exact hI.out.big q h
            · rw [List.mem_singleton] at h; subst h; exact ⟨P0.out, hI.out.small, by show pts.length ≤ _; omega⟩, fun p hp => by simp at hp, World.ownsRow_nil _ _ _ _, B5.out, Below.refl _ _, by rw [List.map_append]; exact ST.out⟩)
          clear o5 g5 e5
          go_wp2_with fail
          refine (S2.out _).mono ?_
          rintro e w6 ⟨rfl, e6⟩
          subst e6
          go_wp2
          go_roundw
          case rel => exact ⟨k2, [], _, false, w6, rfl, rfl, rfl, NI⟩
          case measure => simp [intOf]; omega
    · have ej : j = l.length := by omega
      have j1' : ((s.size : Nat) : Int) ≤ (j : Nat) := by omega
      cases o
      · have p0 : ¬ 0 < pts.length := of_decide_eq_false HO.out.symm
        have WG := hid (show Pm.Says l (Pm.st0 l) (.ok (L.map (·.2))) from ⟨_, hI.out.rch, by rw [decide_eq_false p0]; exact Pm.stp_end (by omega)⟩)
        have RW := hid (hI.out.row.on hI.out.bl)
        obtain ⟨m, hm⟩ : ∃ m, m = L.length := ⟨_, rfl⟩
        have HMM := hid hm
        rw [← hm]
        clear hm p0
        go_wp2
        go_ret3
        exact ⟨⟨.slice al m cl, 0, 0, rfl, .inl ⟨rfl, rfl, L, by have := RW.out; rw [← HMM.out] at this; exact this, hI.out.big, by omega, WG.out⟩⟩, BW.out⟩
      · have p0 : 0 < pts.length := of_decide_eq_true HO.out.symm
        have WG := hid (show Pm.Says l (Pm.st0 l) (.error (2, s.size)) from ⟨_, hI.out.rch, by rw [decide_eq_true p0, ← LS.out]; exact Pm.stp_short (by omega)⟩)
        clear p0
        go_wp2
        go_ret3
        exact ⟨⟨_, 2, s.size, rfl, .inr ⟨rfl, .inr (.inl rfl), WG.out⟩⟩, BW.out⟩

end Go.Proofs.YtljfiefobnncaabGreatDoor

/- outlinelaw: roomy: shapes with spare room behind each list. -/
namespace Go.Proofs.YtljfiefobnncaabGreatDoor
open Go.RowKit

/-- copy, of elements of k cells, into the head of a row that is known whole. -/
theorem run_copyK {P : Program} (w : World) (dT sT ty elem : TypeId) (g dLen dCap : Nat) (sp : Option Addr) (sLen sCap : Nat) (cur : Array Value) (t : TypeId) (cs : List Value) (k n : Nat)
    (hu : P.underlying dT = some (.slice elem)) (hs : (P.info? elem).map (·.size) = some k) (hg : w.heap[g]? = some (.cells cur t (0, 0))) (hmin : Nat.min sLen dLen = n) (hn : cs.length = n * k)
    (hsrc : (sp = none ∧ cs = []) ∨ ∃ ad, sp = some ad ∧ ∀ j v, cs[j]? = some v → w.cell? (ad.add j) = some v) (hfit : cs.length ≤ cur.size) (h1 : ∀ v ∈ cs, v.oneCell' = true) :
    (Builtin.copy_ #[dT, sT] ty #[.slice (some ⟨g, 0, none⟩) dLen dCap, .slice sp sLen sCap]).run P w = .ok (goInt n) (w.setRow g (cs ++ cur.toList.drop cs.length).toArray) := by
  have hst := run_storeCells_at P g 0 t cs 0 cur w hg (by simpa using hfit) h1
  simp only [Nat.add_zero, List.take_zero, List.nil_append, Nat.zero_add] at hst
  cases hq : P.info? elem with
  | none => simp [hq] at hs
  | some i =>
    have hi : i.size = k := by simpa [hq] using hs
    rcases hsrc with ⟨rfl, rfl⟩ | ⟨ad, rfl, hsrc⟩
    · simp [Builtin.copy_, run_underlying hu, Builtin.lenOf, Builtin.firstCells, sizeOf, typeInfo, hq, hmin] at hst ⊢
      simp [hst]
    · have hl := run_loadCells_list (P := P) w ad cs hsrc
      rw [hn] at hl
      simp [Builtin.copy_, run_underlying hu, Builtin.lenOf, Builtin.firstCells, sizeOf, typeInfo, hq, hi, hmin, hl, hst]
theorem wpList_copyK {P : Program} {w : World} {ops : Array Oper} {rest : List Oper} {o : Oper} {a : Act} {Q : Exit → Act → World → Prop} (hgd : o.guard = none) (d s : Operand) (dT sT : TypeId)
    (ho : o.op = .call { callee := .builtin .copy, args := #[d, s], argTypes := #[dT, sT] }) (elem : TypeId) (k : Nat) (hu : P.underlying dT = some (.slice elem)) (hsz : (P.info? elem).map (·.size) = some k)
    (g dLen dCap : Nat) (sp : Option Addr) (sLen sCap : Nat) (hd : a.eval d = .slice (some ⟨g, 0, none⟩) dLen dCap) (hs : a.eval s = .slice sp sLen sCap)
    (cur : Array Value) (t : TypeId) (hg : w.heap[g]? = some (.cells cur t (0, 0))) (cs : List Value) (n : Nat) (hmin : Nat.min sLen dLen = n) (hn : cs.length = n * k)
    (hsrc : (sp = none ∧ cs = []) ∨ ∃ ad, sp = some ad ∧ ∀ j v, cs[j]? = some v → w.cell? (ad.add j) = some v) (hfit : cs.length ≤ cur.size) (h1 : ∀ v ∈ cs, v.oneCell' = true)
    (h : ∀ w', Hid (w'.heap[g]? = some (.cells (cs ++ cur.toList.drop cs.length).toArray t (0, 0))) → Hid (Below g w w') → wpList P ops Q rest (a.put o.dst (goInt n)) w') : wpList P ops Q (o :: rest) a w := by
  refine wpList_plain hgd fun K hK => ?_
  have hrun := run_copyK (P := P) w dT sT o.type elem g dLen dCap sp sLen sCap cur t cs k n hu hsz hg hmin hn hsrc hfit h1
  unfold Oper.wp
  simp [execOp, ho, resolve, invoke, builtin, hd, hs, hrun, Result.andThen]
  exact hK _ _ (h _ (setRow_heap w g cur _ t _ hg) (below_setRow (Below.refl _ _) (Nat.le_refl _) _))

theorem madeSh_at (n j : Nat) (hj : j < n) : (madeCells #[Value.slice none 0 0, .int .i64 0] (n * 2)).toList[j * 2]? = some (.slice none 0 0) ∧ (madeCells #[Value.slice none 0 0, .int .i64 0] (n * 2)).toList[j * 2 + 1]? = some (.int .i64 0) := by
  unfold madeCells
  constructor
  · rw [Array.getElem?_toList, Array.getElem?_map, Array.getElem?_range, if_pos (by omega)]
    simp
  · rw [Array.getElem?_toList, Array.getElem?_map, Array.getElem?_range, if_pos (by omega)]
    simp [show (j * 2 + 1) % 2 = 1 from by omega]
theorem madePt_at (n j : Nat) (hj : j < n * 2) : (madeCells #[Value.int .i64 0, .int .i64 0] (n * 2)).toList[j]? = some (.int .i64 0) := by
  unfold madeCells
  rw [Array.getElem?_toList, Array.getElem?_map, Array.getElem?_range, if_pos hj]
  rcases (show j % 2 = 0 ∨ j % 2 = 1 by omega) with h | h <;> simp [h]
theorem made_block {w : World} {b : Nat} {t : TypeId} {z g n : Nat} {xs : List Value} (h : w.ownsRow b t z (.slice (some ⟨g, 0, none⟩) n n) n xs) : w.heap[g]? = some (.cells xs.toArray t (0, 0)) := by
  rcases h.2 with ⟨h1, _⟩ | ⟨g', cap', cur, h1, _, h2, _, _, h3, h4⟩
  · cases h1
  · injection h1 with h1 _ h5
    injection h1 with h1
    injection h1 with h1 _ _
    subst h1
    subst h5
    rw [h2, ← h4, List.take_of_length_le (by rw [Array.length_toList, h3]; exact Nat.le_refl _)]
theorem block_cell {w : World} {g : Nat} {cs : List Value} {t : TypeId} (h : w.heap[g]? = some (.cells cs.toArray t (0, 0))) {j : Nat} {v : Value} (hj : cs[j]? = some v) : w.cell? ⟨g, j, none⟩ = some v := by
  simp [World.cell?, h, hj]
theorem block_fz {w : World} {g : Nat} {cs : List Value} {t : TypeId} (h : w.heap[g]? = some (.cells cs.toArray t (0, 0))) (j : Nat) : w.frozen? ⟨g, j, none⟩ = false := by
  simp [World.frozen?, h]

/-- A shape with spare room: its points, and the mark behind them. -/
def Roomy (gl i : Nat) (s : ShT) (w : World) : Prop :=
  ∃ g, gl < g ∧ w.cell? ⟨gl, i * 2, none⟩ = some (.slice (some ⟨g, 0, none⟩) s.1.length (s.1.length + 1)) ∧ w.cell? ⟨gl, i * 2 + 1, none⟩ = some (.int .i64 s.2) ∧ PtsAt g s.1 w ∧ w.cell? ⟨g, s.1.length * 2, none⟩ = some (.int .i64 (-77))
/-- What holds when i shapes have been laid. -/
structure RoI (gl n : Nat) (L : List ShT) (w : World) (i : Nat) (wr : World) : Prop where
  bl : Below w.heap.size w wr
  ge : w.heap.size ≤ gl
  lt : gl < wr.heap.size
  fz : ∀ j, wr.frozen? ⟨gl, j, none⟩ = false
  old : ∀ j, j < i → Roomy gl j (L.getD j sh0) wr
  new : ∀ j, i ≤ j → j ≤ n → wr.cell? ⟨gl, j * 2, none⟩ = some (.slice none 0 0) ∧ wr.cell? ⟨gl, j * 2 + 1, none⟩ = some (.int .i64 0)
theorem Roomy.on {gl i : Nat} {s : ShT} {w w' : World} (h : Roomy gl i s w) (hl : gl < w.heap.size) (hb : Below w.heap.size w w') : Roomy gl i s w' := by
  obtain ⟨g, h1, h2, h3, h4, h5⟩ := h
  exact ⟨g, h1, (hb.cell (p := ⟨gl, i * 2, none⟩) hl).trans h2, (hb.cell (p := ⟨gl, i * 2 + 1, none⟩) hl).trans h3, h4.on hb h4.1, (hb.cell (p := ⟨g, s.1.length * 2, none⟩) h4.1).trans h5⟩
theorem RoI.on {gl n : Nat} {L : List ShT} {w wr w' : World} {i : Nat} (h : RoI gl n L w i wr) (hb : Below wr.heap.size wr w') : RoI gl n L w i w' where
  bl := h.bl.trans (hb.mono h.bl.size)
  ge := h.ge
  lt := Nat.lt_of_lt_of_le h.lt hb.size
  fz := fun j => (hb.frozen (p := ⟨gl, j, none⟩) h.lt).trans (h.fz j)
  old := fun j hj => (h.old j hj).on h.lt hb
  new := fun j h1 h2 => ⟨(hb.cell (p := ⟨gl, j * 2, none⟩) h.lt).trans (h.new j h1 h2).1, (hb.cell (p := ⟨gl, j * 2 + 1, none⟩) h.lt).trans (h.new j h1 h2).2⟩
theorem Roomy.set {gl i : Nat} {s : ShT} {w : World} (h : Roomy gl i s w) {j : Nat} (h1 : j ≠ i * 2) (h2 : j ≠ i * 2 + 1) (v : Value) : Roomy gl i s (w.setCell ⟨gl, j, none⟩ v) := by
  obtain ⟨g, g1, a, b, c, d⟩ := h
  have o : ∀ k m, k ≠ gl ∨ m ≠ j → (w.setCell ⟨gl, j, none⟩ v).cell? ⟨k, m, none⟩ = w.cell? ⟨k, m, none⟩ := fun k m hk => World.cell?_setCell_other _ _ _ _ (by rcases hk with hk | hk <;> simp <;> omega)
  exact ⟨g, g1, (o _ _ (.inr (by omega))).trans a, (o _ _ (.inr (by omega))).trans b, ⟨by rw [World.size_setCell]; exact c.1, fun q hq => ⟨(o _ _ (.inl (by omega))).trans (c.2 q hq).1, (o _ _ (.inl (by omega))).trans (c.2 q hq).2⟩⟩, (o _ _ (.inl (by omega))).trans d⟩
theorem RoI.step {gl n : Nat} {L : List ShT} {w wr : World} {i : Nat} (h : RoI gl n L w i wr) (hi : i < n) {g : Nat} (hg : gl < g) (hp : PtsAt g (L.getD i sh0).1 wr) (hm : wr.cell? ⟨g, (L.getD i sh0).1.length * 2, none⟩ = some (.int .i64 (-77))) {a b : Value} (ha : a = .slice (some ⟨g, 0, none⟩) (L.getD i sh0).1.length ((L.getD i sh0).1.length + 1)) (hb : b = .int .i64 (L.getD i sh0).2) :
    RoI gl n L w (i + 1) ((wr.setCell ⟨gl, i * 2, none⟩ a).setCell ⟨gl, i * 2 + 1, none⟩ b) := by
  have c0 := (h.new i (Nat.le_refl _) (by omega)).1
  have c1 := (h.new i (Nat.le_refl _) (by omega)).2
  refine ⟨(h.bl.setCell (p := ⟨gl, i * 2, none⟩) h.ge a).setCell (p := ⟨gl, i * 2 + 1, none⟩) h.ge b, h.ge, by rw [World.size_setCell, World.size_setCell]; exact h.lt, fun j => by rw [World.frozen?_setCell, World.frozen?_setCell]; exact h.fz j, fun j hj => ?_, fun j h1 h2 => ?_⟩
  · rcases Nat.lt_or_ge j i with hlt | hge
    · exact ((h.old j hlt).set (by omega) (by omega) a).set (by omega) (by omega) b
    · obtain rfl : j = i := by omega
      have o : ∀ k m, k ≠ gl → ((wr.setCell ⟨gl, j * 2, none⟩ a).setCell ⟨gl, j * 2 + 1, none⟩ b).cell? ⟨k, m, none⟩ = wr.cell? ⟨k, m, none⟩ := fun k m hk => (World.cell?_setCell_other _ _ _ _ (by simp <;> omega)).trans (World.cell?_setCell_other _ _ _ _ (by simp <;> omega))
      refine ⟨g, hg, ?_, ?_, ⟨by rw [World.size_setCell, World.size_setCell]; exact hp.1, fun q hq => ⟨(o _ _ (by omega)).trans (hp.2 q hq).1, (o _ _ (by omega)).trans (hp.2 q hq).2⟩⟩, (o _ _ (by omega)).trans hm⟩
      · rw [World.cell?_setCell_other _ _ _ _ (by simp), World.cell?_setCell_same _ _ _ c0, ha]
      · rw [World.cell?_setCell_same _ _ _ ((World.cell?_setCell_other _ _ _ _ (by simp)).trans c1), hb]
  · have o : ∀ m, m ≠ i * 2 → m ≠ i * 2 + 1 → ((wr.setCell ⟨gl, i * 2, none⟩ a).setCell ⟨gl, i * 2 + 1, none⟩ b).cell? ⟨gl, m, none⟩ = wr.cell? ⟨gl, m, none⟩ := fun m x1 x2 => (World.cell?_setCell_other _ _ _ _ (by simp <;> omega)).trans (World.cell?_setCell_other _ _ _ _ (by simp <;> omega))
    exact ⟨(o _ (by omega) (by omega)).trans (h.new j (by omega) h2).1, (o _ (by omega) (by omega)).trans (h.new j (by omega) h2).2⟩
end Go.Proofs.YtljfiefobnncaabGreatDoor

/- outlinelaw: roomy, walked. -/
namespace Go.Proofs.YtljfiefobnncaabGreatDoor
open Go.RowKit
attribute [local go_sem ↓] Go.wp_at_zero Go.wp_at_succ

theorem infoPt2 : (Tryz.prog.info? 65).map (fun i => (i.zero, i.size, i.bytes)) = some (some (.agg #[.int .i64 0, .int .i64 0]), 2, 16) := by kernel_rfl
theorem infoSh2 : (Tryz.prog.info? 67).map (fun i => (i.zero, i.size, i.bytes)) = some (some (.agg #[.slice none 0 0, .int .i64 0]), 2, 32) := by kernel_rfl
/-- Shapes with spare room. -/
structure RoomIs (gl n : Nat) (L : List ShT) (w : World) : Prop where
  lt : gl < w.heap.size
  old : ∀ j, j < n → Roomy gl j (L.getD j sh0) w
  end' : w.cell? ⟨gl, n * 2 + 1, none⟩ = some (.int .i64 (-77))
theorem RoomIs.on {gl n : Nat} {L : List ShT} {w w' : World} (h : RoomIs gl n L w) (hb : Below w.heap.size w w') : RoomIs gl n L w' :=
  ⟨Nat.lt_of_lt_of_le h.lt hb.size, fun j hj => (h.old j hj).on h.lt hb, (hb.cell (p := ⟨gl, n * 2 + 1, none⟩) h.lt).trans h.end'⟩
theorem RoomIs.sh {gl n : Nat} {L : List ShT} {w : World} (h : RoomIs gl n L w) (hn : n = L.length) : ShIs (some ⟨gl, 0, none⟩) L w := by
  by_cases h0 : L.length = 0
  · exact .inl h0
  · refine .inr ⟨gl, 0, rfl, h.lt, fun i hi => ?_⟩
    obtain ⟨g, h1, h2, h3, h4, h5⟩ := h.old i (by omega)
    refine ⟨some ⟨g, 0, none⟩, _, by rw [Nat.zero_add]; exact h2, by rw [Nat.zero_add]; exact h3, .inr ⟨g, 0, rfl, h4.o⟩⟩

theorem PtsO.src {g q : Nat} {l : List (Int × Int)} {w : World} (h : PtsO g q l w) : ∀ j v, (Qm.ptsV l)[j]? = some v → w.cell? ((⟨g, q, none⟩ : Addr).add j) = some v := by
  intro j v hj
  have hlt : j < l.length * 2 := by
    have := (List.getElem?_eq_some_iff.1 hj).1
    rwa [Qm.ptsV_len] at this
  have ea : ∀ k, (⟨g, q, none⟩ : Addr).add k = ⟨g, q + k, none⟩ := fun k => by unfold Addr.add; split <;> simp_all
  have pa := ptsV_at l (j / 2) (by omega)
  have ph := h.2 (j / 2) (by omega)
  rw [ea]
  rcases (show j = j / 2 * 2 ∨ j = j / 2 * 2 + 1 by omega) with e | e
  · rw [e] at hj ⊢
    rw [pa.1] at hj
    rw [ph.1]; exact hj
  · rw [e] at hj ⊢
    rw [pa.2] at hj
    rw [← Nat.add_assoc, ph.2]; exact hj
theorem ptsV_one (l : List (Int × Int)) : ∀ u ∈ Qm.ptsV l, u.oneCell' = true := by
  intro u hu
  obtain ⟨j, hj, rfl⟩ := List.mem_iff_getElem.1 hu
  have hlt : j < l.length * 2 := by rwa [Qm.ptsV_len] at hj
  have pa := ptsV_at l (j / 2) (by omega)
  rcases (show j = j / 2 * 2 ∨ j = j / 2 * 2 + 1 by omega) with e | e
  · have := pa.1
    rw [← e, List.getElem?_eq_getElem hj] at this
    injection this with this
    rw [this]; rfl
  · have := pa.2
    rw [← e, List.getElem?_eq_getElem hj] at this
    injection this with this
    rw [this]; rfl

set_option maxRecDepth 4000 in
set_option maxHeartbeats 2000000 in
theorem roomy_any (ao : Option Addr) (n cap : Nat) (L : List ShT) (hn : n = L.length) (hn2 : n * 32 ≤ 140737488355328) (hm : ∀ i, (L.getD i sh0).1.length * 16 ≤ 140737488355328) (w : World) (hS : ShIs ao L w) :
    Calls Tryz.prog 25 #[.slice ao n cap] w fun e w' => (∃ gl, e = .returned (.slice (some ⟨gl, 0, none⟩) n (n + 1)) ∧ RoomIs gl n L w') ∧ Below w.heap.size w w' := by
  obtain ⟨ip, hip, hp0, hp1, hp2⟩ := info_parts infoPt2
  obtain ⟨is, his, hs0, hs1, hs2⟩ := info_parts infoSh2
  have HS := hid hS
  have HM := hid hm
  have HN := hid hn
  have n1 : n + 1 ≤ maxLen := by unfold maxLen; omega
  clear hS hm hn
  go_enter Tryz.func25, Tryz.ntmps25
  go_wp2_with (first
    | (at_make; refine wpList_make_full _ rfl _ _ 33 rfl w.heap.size 67 is (.agg #[.slice none 0 0, .int .i64 0]) 2 Tryz.underlying33 his hs0 hs1 .i64 .i64 _ _ (n + 1) rfl rfl (by simp) (by simp) (by rw [hs2]; omega) n1 (Nat.le_refl _) ?_))
  intro w3 o3 g3
  have b3 : Below w.heap.size w w3 := ⟨g3.os, g3.tape, g3.output, g3.size, fun k hk => g3.block k hk (by simp)⟩
  have z3 : w.heap.size < w3.heap.size := (o3.lt w.heap.size rfl).2
  have hbk := made_block o3
  have R0 := hid (show RoI w.heap.size n L w 0 w3 from ⟨b3, Nat.le_refl _, z3, fun j => block_fz hbk j, fun j hj => absurd hj (Nat.not_lt_zero _), fun j _ hj => ⟨block_cell hbk (madeSh_at (n + 1) j (by omega)).1, block_cell hbk (madeSh_at (n + 1) j (by omega)).2⟩⟩)
  obtain ⟨gl, hgl⟩ : ∃ gl, gl = w.heap.size := ⟨_, rfl⟩
  rw [← hgl] at R0 ⊢
  have HGL := hid hgl
  clear o3 g3 b3 z3 hbk hgl
  go_wp2_with fail
  go_loopw [5] (fun iv wr => ∃ i : Nat, i ≤ n ∧ iv = .int .i64 i ∧ Hid (RoI gl n L w i wr)) (fun i _ => n - (intOf i).toNat)
  case atStart => exact ⟨0, by omega, rfl, R0⟩
  case round =>
    clear R0
    obtain ⟨i, hi, rfl, hR⟩ := hrel
    have hzr := hR.out.lt
    have hge := hR.out.ge
    by_cases hlt : i < n
    · obtain ⟨gs, o, rfl, hgs, hc⟩ := HS.out.resolve_left (by have := HN.out; omega)
      obtain ⟨ap, cp, c0, c1, c2⟩ := hc i (by have := HN.out; omega)
      have RD := hid (fun wx (h : Below w.heap.size w wx) => (⟨(h.cell (p := ⟨gs, o + i * 2, none⟩) hgs).trans c0, (h.cell (p := ⟨gs, o + i * 2 + 1, none⟩) hgs).trans c1⟩ : _ ∧ _))
      have hmi := HM.out i
      have ST := hid (fun (wx : World) (hr : RoI gl n L w i wx) (g : Nat) hg hp hq a b ha hb => RoI.step hr hlt (g := g) hg hp hq (a := a) (b := b) ha hb)
      obtain ⟨s, hs⟩ : ∃ s, s = L.getD i sh0 := ⟨_, rfl⟩
      rw [← hs] at c2 hmi RD ST
      obtain ⟨l, hl⟩ : ∃ l, l = s.1 := ⟨_, rfl⟩
      obtain ⟨tw, htw⟩ : ∃ tw, tw = s.2 := ⟨_, rfl⟩
      rw [← hl] at c2 hmi RD ST
      rw [← htw] at RD ST
      obtain ⟨m, hmm⟩ : ∃ m, m = l.length := ⟨_, rfl⟩
      rw [← hmm] at c2 hmi RD ST
      have SRC := hid c2
      have HMM := hid hmm
      have i0' : (0 : Int) ≤ (i : Nat) := by omega
      have i1' : ((i : Nat) : Int) < (n : Nat) := by omega
      have m1 : m + 1 ≤ maxLen := by unfold maxLen; omega
      clear hc c0 c1 c2 hs hl htw hmm
      obtain ⟨r0, r1⟩ := RD.out _ hR.out.bl
      go_wp2_with (first
        | (at_make; refine wpList_make_full _ rfl _ _ 43 rfl wr.heap.size 65 ip (.agg #[.int .i64 0, .int .i64 0]) 2 Tryz.underlying43 hip hp0 hp1 .i64 .i64 _ _ (m + 1) rfl rfl (by simp) (by simp) (by rw [hp2]; omega) m1 (Nat.le_refl _) ?_))
      intro w4 o4 g4
      have b4 : Below wr.heap.size wr w4 := ⟨g4.os, g4.tape, g4.output, g4.size, fun k hk => g4.block k hk (by simp)⟩
      have z4 : wr.heap.size < w4.heap.size := (o4.lt wr.heap.size rfl).2
      have hbk := made_block o4
      have R4 := hid (hR.out.on b4)
      obtain ⟨g, hg⟩ : ∃ g, g = wr.heap.size := ⟨_, rfl⟩
      rw [← hg] at z4 hbk ⊢
      have BK := hid hbk
      have HGG := hid hg
      have glg : gl < g := by omega
      clear o4 g4 hbk r0 r1 hg
      have CB : Hid ((madeCells #[Value.int .i64 0, .int .i64 0] ((m + 1) * 2)).toList.length = (m + 1) * 2) := by show _ = _; rw [Array.length_toList, size_madeCells]
      have MS := hid (fun j (hj : j < (m + 1) * 2) => madePt_at (m + 1) j hj)
      obtain ⟨cur, hcur⟩ : ∃ cur, cur = (madeCells #[Value.int .i64 0, .int .i64 0] ((m + 1) * 2)).toList := ⟨_, rfl⟩
      have BK2 := hid (show w4.heap[g]? = some (.cells cur.toArray 65 (0, 0)) by rw [hcur]; exact BK.out)
      rw [← hcur] at CB MS
      clear hcur BK
      have PV := hid (show (Qm.ptsV l).length = m * 2 by rw [Qm.ptsV_len, HMM.out])
      have SC := hid (show (ap = none ∧ Qm.ptsV l = []) ∨ ∃ ad, ap = some ad ∧ ∀ j v, (Qm.ptsV l)[j]? = some v → w4.cell? (ad.add j) = some v by
        rcases SRC.out with h0 | ⟨g', q, rfl, hp⟩
        · have el : l = [] := List.length_eq_zero_iff.1 (by rw [← HMM.out]; exact h0)
          subst el
          cases ap with
          | none => exact .inl ⟨rfl, rfl⟩
          | some ad => exact .inr ⟨ad, rfl, fun j v hj => by simp [Qm.ptsV] at hj⟩
        · exact .inr ⟨_, rfl, (hp.on R4.out.bl hp.1).src⟩)
      have HSZ := hid (show (Tryz.prog.info? 65).map (·.size) = some 2 by rw [hip, Option.map_some, hp1])
      have FIT := hid (show (Qm.ptsV l).length ≤ cur.toArray.size by rw [PV.out, List.size_toArray, CB.out]; omega)
      have P1 := hid (ptsV_one l)
      have MIN := hid (show Nat.min m (m + 1) = m by simp)
      obtain ⟨pv, hpv⟩ : ∃ pv, pv = Qm.ptsV l := ⟨_, rfl⟩
      have EPV := hid hpv
      rw [← hpv] at PV SC FIT P1
      clear hpv
      obtain ⟨r0, r1⟩ := RD.out _ R4.out.bl
      go_wp2_with (first
        | (refine wpList_copyK rfl _ _ 43 43 rfl 65 2 Tryz.underlying43 HSZ.out g (m + 1) (m + 1) ap m cp rfl rfl cur.toArray 65 BK2.out pv m MIN.out PV.out SC.out FIT.out P1.out ?_))
      intro w5 HB5 BL5
      have z5 : g < w5.heap.size := by have := BL5.out.size; omega
      have BW5 := hid (show Below wr.heap.size wr w5 from b4.trans (BL5.out.mono (by have := HGG.out; omega)))
      have R5 := hid (hR.out.on BW5.out)
      have P5 := hid (show PtsAt g l w5 from ⟨z5, fun j hj => ⟨block_cell HB5.out (by rw [List.getElem?_append_left (by rw [PV.out, HMM.out]; omega), EPV.out]; exact (ptsV_at l j hj).1), block_cell HB5.out (by rw [List.getElem?_append_left (by rw [PV.out, HMM.out]; omega), EPV.out]; exact (ptsV_at l j hj).2)⟩⟩)
      have C5 : w5.cell? ⟨g, m * 2, none⟩ = some (.int .i64 0) := block_cell HB5.out (by
        rw [List.getElem?_append_right (by rw [PV.out]; exact Nat.le_refl _), PV.out, Nat.sub_self, List.getElem?_drop]
        exact MS.out (m * 2 + 0) (by omega))
      have F5 := block_fz HB5.out (m * 2)
      have k1' : (0 : Int) ≤ (m : Nat) := by omega
      have k2' : ((m : Nat) : Int) < (m : Nat) + 1 := by omega
      have B6 := hid (show Below wr.heap.size wr (w5.setCell ⟨g, m * 2, none⟩ (.int .i64 (-77))) from BW5.out.setCell (p := ⟨g, m * 2, none⟩) (by have := HGG.out; show wr.heap.size ≤ g; omega) _)
      have P6 := hid (show PtsAt g l (w5.setCell ⟨g, m * 2, none⟩ (.int .i64 (-77))) from ⟨by rw [World.size_setCell]; exact z5, fun j hj => ⟨(World.cell?_setCell_other _ _ _ _ (by have := HMM.out; simp <;> omega)).trans (P5.out.2 j hj).1, (World.cell?_setCell_other _ _ _ _ (by have := HMM.out; simp <;> omega)).trans (P5.out.2 j hj).2⟩⟩)
      have C6 := hid (World.cell?_setCell_same _ ⟨g, m * 2, none⟩ (.int .i64 (-77)) C5)
      clear r0 r1 HB5 BL5
      go_wp2_with fail
      obtain ⟨w6, hw6⟩ : ∃ w6, w6 = w5.setCell ⟨g, m * 2, none⟩ (.int .i64 (-77)) := ⟨_, rfl⟩
      rw [← hw6] at B6 P6 C6 ⊢
      have R6 := hid (hR.out.on B6.out)
      obtain ⟨r0, r1⟩ := RD.out _ R6.out.bl
      obtain ⟨q0, q1⟩ := R6.out.new i (Nat.le_refl _) hi
      have f0 := R6.out.fz (i * 2)
      have f1 := R6.out.fz (i * 2 + 1)
      have i2' : ((i : Nat) : Int) < (n : Nat) + 1 := by omega
      have i3' : ((m : Nat) : Int) ≤ (m : Nat) + 1 := by omega
      clear hw6 C5 F5 z5
      have DB : Below w6.heap.size w6 w6.drew := ⟨rfl, rfl, rfl, Nat.le_refl _, fun _ _ => rfl⟩
      have R7 := hid (ST.out w6.drew (R6.out.on DB) g glg (P6.out.on DB P6.out.1) C6.out _ _ rfl rfl)
      clear DB
      go_region
      all_goals go_wp2
      all_goals go_roundw
      case rel => exact ⟨i + 1, by omega, by go_num, R7⟩
      case measure => simp [intOf]; omega
    · have ei : i = n := by omega
      subst ei
      have hk' : ¬ (i : Int) < (i : Nat) := by omega
      obtain ⟨q0, q1⟩ := hR.out.new i (Nat.le_refl _) (Nat.le_refl _)
      have f1 := hR.out.fz (i * 2 + 1)
      have B6 := hid (show Below w.heap.size w (wr.setCell ⟨gl, i * 2 + 1, none⟩ (.int .i64 (-77))) from hR.out.bl.setCell (p := ⟨gl, i * 2 + 1, none⟩) hge _)
      have O6 := hid (show RoomIs gl i L (wr.setCell ⟨gl, i * 2 + 1, none⟩ (.int .i64 (-77))) from ⟨by rw [World.size_setCell]; exact hzr, fun j hj => (hR.out.old j hj).set (by omega) (by omega) _, World.cell?_setCell_same _ _ _ q1⟩)
      have k1' : (0 : Int) ≤ (i : Nat) := by omega
      have k2' : ((i : Nat) : Int) < (i : Nat) + 1 := by omega
      have k3' : ((i : Nat) : Int) ≤ (i : Nat) + 1 := by omega
      go_wp2
      go_ret
      exact ⟨⟨gl, rfl, O6.out⟩, B6.out⟩

end Go.Proofs.YtljfiefobnncaabGreatDoor
