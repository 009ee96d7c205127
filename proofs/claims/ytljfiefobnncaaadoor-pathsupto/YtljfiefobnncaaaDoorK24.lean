/- Reading paths: shapes. -/
import Derived.Test.YtljfiefobnncaaaDoorK21
import Derived.Test.YtljfiefobnncaaaDoorK23
namespace Go.Proofs.YtljfiefobnncaaaDoor
open Go.RowKit

theorem isAtB_iff {l : List UInt8} {k : Nat} (c : UInt8) : isAtB l k c.toNat = true ↔ k < l.length ∧ Pm.byt l k = c := by
  unfold isAtB Pm.byt
  by_cases h : k < l.length
  · rw [List.getElem?_eq_getElem h, List.getD_eq_getElem?_getD, List.getElem?_eq_getElem h]
    simp only [beq_iff_eq, Option.getD_some, h, true_and]
    constructor
    · intro e; exact UInt8.toNat_inj.1 (by omega)
    · intro e; rw [e]
  · rw [List.getElem?_eq_none (by omega)]
    simp [h]
theorem isAtB_no {l : List UInt8} {k : Nat} (c : UInt8) (h : isAtB l k c.toNat = false) (hk : k < l.length) : Pm.byt l k ≠ c := fun e => by
  rw [(isAtB_iff c).2 ⟨hk, e⟩] at h; cases h
theorem two_cellsY (w : World) (g : Nat) (a b : Int) (t : TypeId) (hg : g = w.heap.size) : ∀ (j : Nat) (u : Value), [Value.int .i64 a, .int .i64 b][j]? = some u → (w.alloc (.cells #[.int .i64 a, .int .i64 b] t)).cell? ((⟨g, 0, none⟩ : Addr).add j) = some u := by
  subst hg
  exact two_cells w a b t
/-- What readShape gives. -/
def ShpOut (l : List UInt8) (i b : Nat) (v : Value) (k : Nat) (ee : Int) (w' : World) : Prop :=
  (ee = 0 ∧ ∃ pts : List (Int × Int), 0 < pts.length ∧ Qm.Small pts ∧ w'.ownsRow b 83 2 v pts.length (Qm.ptsV pts) ∧ i < k ∧ k ≤ l.length ∧ pts.length ≤ k ∧ ∀ out, Pm.Rch l ⟨i, false, [], out⟩ ⟨Pm.skp l k, false, [], out ++ [pts]⟩) ∨
  (v = .slice none 0 0 ∧ (ee = 1 ∨ ee = 2 ∨ ee = 3) ∧ k ≤ l.length ∧ ∀ out, Pm.Says l ⟨i, false, [], out⟩ (.error (ee, k)))

/-- What holds in readShape's loop: one is at j, with the points pts. -/
structure SI (l : List UInt8) (i b j : Nat) (pts : List (Int × Int)) (v : Value) (w wr : World) : Prop where
  lo : i ≤ j
  hi : j ≤ l.length
  fst : pts.length = 0 → j = i
  few : pts.length ≤ j
  small : Qm.Small pts
  own : wr.ownsRow b 83 2 v pts.length (Qm.ptsV pts)
  bl : Below b w wr
  rch : ∀ out, Pm.Rch l ⟨i, false, [], out⟩ ⟨j, decide (0 < pts.length), pts, out⟩
theorem letter_if (n : Nat) : (if decide (0 < n) = true then (76 : UInt8) else 77) = if n = 0 then 77 else 76 := by
  by_cases h : n = 0
  · subst h; rfl
  · rw [if_pos (by simp; omega), if_neg h]
theorem SI.wrong {l : List UInt8} {i b j : Nat} {pts : List (Int × Int)} {v : Value} {w wr : World} (h : SI l i b j pts v w wr) (hil : i < l.length) (h1 : isAtB l j (if pts.length = 0 then (77 : UInt8) else 76).toNat = false) (h2 : pts.length = 0 ∨ isAtB l j (122 : UInt8).toNat = false) (out : List (List (Int × Int))) :
    Pm.Says l ⟨i, false, [], out⟩ (.error (Pm.lackE l.length j, j)) := by
  refine ⟨_, h.rch out, ?_⟩
  by_cases hj : j < l.length
  · have e : Pm.lackE l.length j = 1 := Pm.lackE_syntax (by omega)
    rw [e]
    refine Pm.stp_bad hj (fun ho => ?_) ?_
    · simp only [decide_eq_true_eq] at ho
      exact isAtB_no 122 (h2.resolve_left (by omega)) hj
    · rw [letter_if]; exact isAtB_no _ h1 hj
  · have ej : j = l.length := by have := h.hi; omega
    have hp : 0 < pts.length := by
      rcases Nat.eq_zero_or_pos pts.length with h0 | h0
      · have := h.fst h0; omega
      · exact h0
    have e : Pm.lackE l.length j = 2 := Pm.lackE_short (by omega)
    rw [e, decide_eq_true hp, ej]
    exact Pm.stp_short (Nat.le_refl _)

set_option maxRecDepth 4000 in
set_option maxHeartbeats 2000000 in
theorem pReadShape_any (s : ByteArray) (i : Nat) (hi : i < s.size) (hs : s.size ≤ 1073741824) (w : World) :
    Calls Tryd.prog 65 #[.string s, .int .i64 i] w fun e w' => (∃ (v : Value) (k : Nat) (ee : Int), e = .returned (.tuple #[v, .int .i64 k, .int .i64 ee]) ∧ ShpOut s.data.toList i w.heap.size v k ee w') ∧ Below w.heap.size w w' := by
  obtain ⟨ip, hip, hp0, hp1, hp2⟩ := info_parts infoPoint
  have ls : s.data.toList.length = s.size := by simp
  obtain ⟨l, hl⟩ : ∃ l, l = s.data.toList := ⟨_, rfl⟩
  have IA := hid (fun k c (h : k ≤ s.size) W => isAt_any s k c (by omega) W)
  have RP := hid (fun k (h : k ≤ s.size) W => pReadPoint_any s k h (by omega) W)
  have SK := hid (fun k (h : k ≤ s.size) W => pSkip_any s k h (by omega) W)
  have WR := hid (fun k W => wrongAt_any s k W)
  rw [← hl] at IA RP SK ls ⊢
  rw [← ls] at hi
  have LS := hid ls
  clear hl
  have I0 := hid (show SI l i w.heap.size i [] (.slice none 0 0) w w from ⟨Nat.le_refl _, by omega, fun _ => rfl, Nat.zero_le _, fun p hp => by simp at hp, World.ownsRow_nil _ _ _ _, Below.refl _ _, fun out => .refl _⟩)
  go_enter Tryd.func65, Tryd.ntmps65
  go_wp2_with fail
  go_loopw [1, 7, 8] (fun jv v cv wr => ∃ (j : Nat) (pts : List (Int × Int)) (c : Nat), jv = .int .i64 j ∧ cv = .int .u8 c ∧ c = (if pts.length = 0 then (77 : UInt8) else 76).toNat ∧ Hid (SI l i w.heap.size j pts v w wr)) (fun jv _ _ _ => l.length - (intOf jv).toNat)
  case atStart => exact ⟨i, [], 77, rfl, rfl, rfl, I0⟩
  case round =>
    clear I0
    obtain ⟨j, pts, c, rfl, rfl, hc, hI⟩ := hrel
    have hj := hI.out.hi
    have few := hI.out.few
    have hz := hI.out.bl.size
    have HC := hid hc
    have IC := hid (IA.out j c (by omega))
    clear hc
    cases ha : isAtB l j c
    · rw [ha] at IC
      have HA := hid ha
      have IZ := hid (IA.out j 122 (by omega))
      have WJ := hid (WR.out j)
      clear ha
      by_cases p0 : pts.length = 0
      · have WG := hid (fun out => hI.out.wrong hi (by rw [← HC.out]; exact HA.out) (.inl p0) out)
        obtain ⟨E, hE⟩ : ∃ E, E = Pm.lackE s.size j := ⟨_, rfl⟩
        have HE := hid (show E = Pm.lackE l.length j by rw [hE, LS.out])
        rw [← hE] at WJ
        obtain ⟨ao, cap, hv⟩ := own_len hI.out.own
        subst hv
        have e0 : ((pts.length : Int) == 0) = true := by simp [p0]
        obtain ⟨m, hm⟩ : ∃ m, m = pts.length := ⟨_, rfl⟩
        rw [← hm] at e0 ⊢
        clear p0 hE hm
        go_wp2_with fail
        refine (IC.out _).mono ?_
        rintro e w1 ⟨rfl, e1⟩
        subst e1
        go_wp2_with fail
        refine (WJ.out _).mono ?_
        rintro e w1 ⟨rfl, e1⟩
        subst e1
        go_wp2
        go_ret3
        exact ⟨⟨_, j, E, rfl, .inr ⟨rfl, by rw [HE.out]; exact lackE_in _ _, hj, fun out => by rw [HE.out]; exact WG.out out⟩⟩, hI.out.bl⟩
      · cases hz2 : isAtB l j 122
        · have WG := hid (fun out => hI.out.wrong hi (by rw [← HC.out]; exact HA.out) (.inr hz2) out)
          rw [hz2] at IZ
          obtain ⟨E, hE⟩ : ∃ E, E = Pm.lackE s.size j := ⟨_, rfl⟩
          have HE := hid (show E = Pm.lackE l.length j by rw [hE, LS.out])
          rw [← hE] at WJ
          obtain ⟨ao, cap, hv⟩ := own_len hI.out.own
          subst hv
          have e0 : ((pts.length : Int) == 0) = false := beq_eq_false_iff_ne.2 (by omega)
          obtain ⟨m, hm⟩ : ∃ m, m = pts.length := ⟨_, rfl⟩
          rw [← hm] at e0 ⊢
          clear p0 hE hm hz2
          go_wp2_with fail
          refine (IC.out _).mono ?_
          rintro e w1 ⟨rfl, e1⟩
          subst e1
          go_wp2_with fail
          refine (IZ.out _).mono ?_
          rintro e w1 ⟨rfl, e1⟩
          subst e1
          go_wp2_with fail
          refine (WJ.out _).mono ?_
          rintro e w1 ⟨rfl, e1⟩
          subst e1
          go_wp2
          go_ret3
          exact ⟨⟨_, j, E, rfl, .inr ⟨rfl, by rw [HE.out]; exact lackE_in _ _, hj, fun out => by rw [HE.out]; exact WG.out out⟩⟩, hI.out.bl⟩
        · obtain ⟨hjl, hbz⟩ := (isAtB_iff (122 : UInt8)).1 hz2
          have DN := hid (fun out => (hI.out.rch out).snoc (show Pm.stp l ⟨j, decide (0 < pts.length), pts, out⟩ = .inl ⟨Pm.skp l (j + 1), false, [], out ++ [pts]⟩ by rw [decide_eq_true (show 0 < pts.length by omega)]; exact Pm.stp_z hjl hbz))
          rw [hz2] at IZ
          obtain ⟨ao, cap, hv⟩ := own_len hI.out.own
          subst hv
          have e0 : ((pts.length : Int) == 0) = false := beq_eq_false_iff_ne.2 (by omega)
          have P0 := hid (show 0 < pts.length by omega)
          obtain ⟨m, hm⟩ : ∃ m, m = pts.length := ⟨_, rfl⟩
          have HMM := hid hm
          rw [← hm] at e0 ⊢
          have lo := hI.out.lo
          clear p0 hm hz2 hbz
          go_wp2_with fail
          refine (IC.out _).mono ?_
          rintro e w1 ⟨rfl, e1⟩
          subst e1
          go_wp2_with fail
          refine (IZ.out _).mono ?_
          rintro e w1 ⟨rfl, e1⟩
          subst e1
          go_wp2
          go_ret3
          exact ⟨⟨.slice ao m cap, j + 1, 0, by rw [show ((j + 1 : Nat) : Int) = (j : Int) + 1 from by omega]; rfl, .inl ⟨rfl, pts, P0.out, hI.out.small, by have := hI.out.own; rw [← HMM.out] at this ⊢; exact this, by omega, by omega, by omega, DN.out⟩⟩, hI.out.bl⟩
    · obtain ⟨hjl, hbc⟩ := (isAtB_iff (if pts.length = 0 then (77 : UInt8) else 76)).1 (by rw [← HC.out]; exact ha)
      rw [ha] at IC
      have BC := hid (show Pm.byt l j = if decide (0 < pts.length) = true then 76 else 77 by rw [letter_if]; exact hbc)
      have R1 := hid (RP.out (j + 1) (by omega))
      clear ha hbc
      match hp : Pm.pnt l (j + 1) with
      | .error (ee, p) =>
        have pe := Pm.pnt_err (l := l) (i := j + 1) (by omega) hp
        have WG := hid (show ∀ out, Pm.Says l ⟨i, false, [], out⟩ (.error (ee, p)) from fun out => ⟨_, hI.out.rch out, Pm.stp_err hjl BC.out hp⟩)
        have e0 := err_ne pe.1
        have PE := hid pe
        rw [hp] at R1
        simp only [pt3] at R1
        have R2 := hid (show ∀ W, Calls Tryd.prog 82 #[.string s, .int .i64 ((j : Int) + 1)] W fun e w' => e = .returned (.tuple #[.agg #[.int .i64 0, .int .i64 0], .int .i64 p, .int .i64 ee]) ∧ Below W.heap.size W w' from fun W => by have := R1.out W; simpa using this)
        clear hp pe R1
        go_wp2_with fail
        refine (IC.out _).mono ?_
        rintro e w1 ⟨rfl, e1⟩
        subst e1
        go_wp2_with fail
        refine (R2.out _).mono ?_
        rintro e w2 ⟨rfl, hb2⟩
        have B2 := hid (show Below w.heap.size w w2 from hI.out.bl.trans (hb2.mono hz))
        have s2 := B2.out.size
        clear hb2
        go_wp2
        go_ret3
        exact ⟨⟨_, p, ee, rfl, .inr ⟨rfl, PE.out.1, PE.out.2, WG.out⟩⟩, by go_grown; exact B2.out⟩
      | .ok (q, k) =>
        have pk := Pm.pnt_ok (l := l) (i := j + 1) (by omega) hp
        obtain ⟨⟨hq1, hq2, hq3, hq4⟩, hk1, hk2⟩ := pk
        have ST := hid (fun out => (hI.out.rch out).snoc (Pm.stp_pt hjl BC.out hp))
        rw [hp] at R1
        simp only [pt3] at R1
        obtain ⟨px, py⟩ := q
        dsimp only at hq1 hq2 hq3 hq4 R1
        have R2 := hid (show ∀ W, Calls Tryd.prog 82 #[.string s, .int .i64 ((j : Int) + 1)] W fun e w' => e = .returned (.tuple #[.agg #[.int .i64 px, .int .i64 py], .int .i64 k, .int .i64 0]) ∧ Below W.heap.size W w' from fun W => by have := R1.out W; simpa using this)
        have S1 := hid (SK.out k (by omega))
        have kge := Pm.skp_ge l k
        have kle := Pm.skp_le hk2
        obtain ⟨k2, hk2'⟩ : ∃ k2, k2 = Pm.skp l k := ⟨_, rfl⟩
        rw [← hk2'] at S1 ST kge kle
        obtain ⟨ao, cap, hv⟩ := own_len hI.out.own
        subst hv
        have SM := hid (show Qm.Small (pts ++ [(px, py)]) from fun p hp => by
          rcases List.mem_append.1 hp with h | h
          · exact hI.out.small p h
          · rw [List.mem_singleton] at h; subst h; exact ⟨hq1, hq2, hq3, hq4⟩)
        have m1 : pts.length + 1 ≤ maxLen := by unfold maxLen; omega
        have m2 : (pts.length + 1) * 16 ≤ 140737488355328 := by omega
        clear hp R1 hk2'
        go_wp2_with fail
        refine (IC.out _).mono ?_
        rintro e w1 ⟨rfl, e1⟩
        subst e1
        go_wp2_with fail
        refine (R2.out _).mono ?_
        rintro e w2 ⟨rfl, hb2⟩
        have B2 := hid (show Below w.heap.size w w2 from hI.out.bl.trans (hb2.mono hz))
        have O2 := hid (own_below hI.out.own hb2)
        have s2 := B2.out.size
        have B3 := hid (show Below w.heap.size w ((w2.alloc (.cells #[.int .i64 px, .int .i64 py] 83)).alloc (.cells #[.int .i64 px, .int .i64 py] 83)) from (B2.out.alloc s2 _).alloc (by simp; omega) _)
        have m3 : w.heap.size ≤ ((w2.alloc (.cells #[.int .i64 px, .int .i64 py] 83)).alloc (.cells #[.int .i64 px, .int .i64 py] 83)).heap.size := by simp; omega
        clear hb2
        go_wp2_with (first
          | (at_builtin; refine wpList_append_own _ rfl _ _ 62 rfl w.heap.size 83 ip (.agg #[.int .i64 0, .int .i64 0]) 2 16 Tryd.underlying62 hip hp0 hp1 hp2 rfl (by decide) _ _ _ rfl ((O2.out.alloc _).alloc _) ⟨_, 0, none⟩ 1 1 [.int .i64 px, .int .i64 py] rfl rfl (two_cellsY _ _ _ _ _ (by simp)) (two_one _ _) m1 m2 m3 ?_))
        intro v' w5 hown' hgrow _
        have B5 := hid (show Below w.heap.size w w5 from B3.out.grown hgrow m3 (fun k hk => (O2.out.lt k hk).1))
        have O5 := hid (show w5.ownsRow w.heap.size 83 2 v' (pts ++ [(px, py)]).length (Qm.ptsV (pts ++ [(px, py)])) by rw [Qm.ptsV_snoc, List.length_append]; exact hown')
        have LO := hI.out.lo
        have NI := hid (show SI l i w.heap.size k2 (pts ++ [(px, py)]) v' w w5 from ⟨by omega, kle, fun h => by simp at h, by rw [List.length_append, List.length_singleton]; omega, SM.out, O5.out, B5.out, fun out => by rw [decide_eq_true (by simp)]; exact ST.out out⟩)
        clear hown' hgrow
        go_wp2_with fail
        refine (S1.out _).mono ?_
        rintro e w6 ⟨rfl, e6⟩
        subst e6
        go_wp2
        go_roundw
        case rel => exact ⟨k2, pts ++ [(px, py)], 76, rfl, rfl, by rw [if_neg (by simp)]; rfl, NI⟩
        case measure => simp [intOf]; omega

end Go.Proofs.YtljfiefobnncaaaDoor
