import Derived.Test.YtljfiefobnncaabDoorK10
import Derived.Test.YtljfiefobnncaabDoorK08
import Derived.Test.YtljfiefobnncaabDoorK05
import Derived.Test.YtljfiefobnncaabDoorK06
import Derived.Lib.AppendStr

/- Reading paths: shapes. -/
namespace Go.Proofs.YtljfiefobnncaabDoor
open Go.RowKit

theorem isAtB_iff {l : List UInt8} {k : Nat} (c : UInt8) : isAtB l k c.toNat = true ↔ k < l.length ∧ Pm.byt l k = c := by
  unfold isAtB Pm.byt
  by_cases h : k < l.length
  · rw [List.getElem?_eq_getElem h, List.getD_eq_getElem?_getD, List.getElem?_eq_getElem h]
    simp only [beq_iff_eq, Option.getD_some, h, true_and]
    constructor
    · intro e; exact UInt8.toNat_inj.1 (by omega)
    · intro e; rw [e]
  · rw [List.getElem?_eq_none (by omega)]
    simp [h]
theorem isAtB_no {l : List UInt8} {k : Nat} (c : UInt8) (h : isAtB l k c.toNat = false) (hk : k < l.length) : Pm.byt l k ≠ c := fun e => by
  rw [(isAtB_iff c).2 ⟨hk, e⟩] at h; cases h
theorem two_cellsY (w : World) (g : Nat) (a b : Int) (t : TypeId) (hg : g = w.heap.size) : ∀ (j : Nat) (u : Value), [Value.int .i64 a, .int .i64 b][j]? = some u → (w.alloc (.cells #[.int .i64 a, .int .i64 b] t)).cell? ((⟨g, 0, none⟩ : Addr).add j) = some u := by
  subst hg
  exact two_cells w a b t
/-- What readShape gives. -/
def ShpOut (l : List UInt8) (i b : Nat) (v : Value) (k : Nat) (ee : Int) (w' : World) : Prop :=
  (ee = 0 ∧ ∃ pts : List (Int × Int), 0 < pts.length ∧ Qm.Small pts ∧ w'.ownsRow b 46 2 v pts.length (Qm.ptsV pts) ∧ i < k ∧ k ≤ l.length ∧ pts.length ≤ k ∧ ∀ out, Pm.Rch l ⟨i, false, [], out⟩ ⟨Pm.skp l k, false, [], out ++ [pts]⟩) ∨
  (v = .slice none 0 0 ∧ (ee = 1 ∨ ee = 2 ∨ ee = 3) ∧ k ≤ l.length ∧ ∀ out, Pm.Says l ⟨i, false, [], out⟩ (.error (ee, k)))

/-- What holds in readShape's loop: one is at j, with the points pts. -/
structure SI (l : List UInt8) (i b j : Nat) (pts : List (Int × Int)) (v : Value) (w wr : World) : Prop where
  lo : i ≤ j
  hi : j ≤ l.length
  fst : pts.length = 0 → j = i
  few : pts.length ≤ j
  small : Qm.Small pts
  own : wr.ownsRow b 46 2 v pts.length (Qm.ptsV pts)
  bl : Below b w wr
  rch : ∀ out, Pm.Rch l ⟨i, false, [], out⟩ ⟨j, decide (0 < pts.length), pts, out⟩
theorem letter_if (n : Nat) : (if decide (0 < n) = true then (76 : UInt8) else 77) = if n = 0 then 77 else 76 := by
  by_cases h : n = 0
  · subst h; rfl
  · rw [if_pos (by simp; omega), if_neg h]
theorem SI.wrong {l : List UInt8} {i b j : Nat} {pts : List (Int × Int)} {v : Value} {w wr : World} (h : SI l i b j pts v w wr) (hil : i < l.length) (h1 : isAtB l j (if pts.length = 0 then (77 : UInt8) else 76).toNat = false) (h2 : pts.length = 0 ∨ isAtB l j (122 : UInt8).toNat = false) (out : List (List (Int × Int))) :
    Pm.Says l ⟨i, false, [], out⟩ (.error (Pm.lackE l.length j, j)) := by
  refine ⟨_, h.rch out, ?_⟩
  by_cases hj : j < l.length
  · have e : Pm.lackE l.length j = 1 := Pm.lackE_syntax (by omega)
    rw [e]
    refine Pm.stp_bad hj (fun ho => ?_) ?_
    · simp only [decide_eq_true_eq] at ho
      exact isAtB_no 122 (h2.resolve_left (by omega)) hj
    · rw [letter_if]; exact isAtB_no _ h1 hj
  · have ej : j = l.length := by have := h.hi; omega
    have hp : 0 < pts.length := by
      rcases Nat.eq_zero_or_pos pts.length with h0 | h0
      · have := h.fst h0; omega
      · exact h0
    have e : Pm.lackE l.length j = 2 := Pm.lackE_short (by omega)
    rw [e, decide_eq_true hp, ej]
    exact Pm.stp_short (Nat.le_refl _)

set_option maxRecDepth 4000 in
set_option maxHeartbeats 2000000 in
theorem pReadShape_any (s : ByteArray) (i : Nat) (hi : i < s.size) (hs : s.size ≤ 1073741824) (w : World) :
    Calls Tryd.prog 26 #[.string s, .int .i64 i] w fun e w' => (∃ (v : Value) (k : Nat) (ee : Int), e = .returned (.tuple #[v, .int .i64 k, .int .i64 ee]) ∧ ShpOut s.data.toList i w.heap.size v k ee w') ∧ Below w.heap.size w w' := by
  obtain ⟨ip, hip, hp0, hp1, hp2⟩ := info_parts infoPoint
  have ls : s.data.toList.length = s.size := by simp
  obtain ⟨l, hl⟩ : ∃ l, l = s.data.toList := ⟨_, rfl⟩
  have IA := hid (fun k c (h : k ≤ s.size) W => isAt_any s k c (by omega) W)
  have RP := hid (fun k (h : k ≤ s.size) W => pReadPoint_any s k h (by omega) W)
  have SK := hid (fun k (h : k ≤ s.size) W => pSkip_any s k h (by omega) W)
  have WR := hid (fun k W => wrongAt_any s k W)
  rw [← hl] at IA RP SK ls ⊢
  rw [← ls] at hi
  have LS := hid ls
  clear hl
  have I0 := hid (show SI l i w.heap.size i [] (.slice none 0 0) w w from ⟨Nat.le_refl _, by omega, fun _ => rfl, Nat.zero_le _, fun p hp => by simp at hp, World.ownsRow_nil _ _ _ _, Below.refl _ _, fun out => .refl _⟩)
  go_enter Tryd.func26, Tryd.ntmps26
  go_wp2_with fail
  go_loopw [1, 7, 8] (fun jv v cv wr => ∃ (j : Nat) (pts : List (Int × Int)) (c : Nat), jv = .int .i64 j ∧ cv = .int .u8 c ∧ c = (if pts.length = 0 then (77 : UInt8) else 76).toNat ∧ Hid (SI l i w.heap.size j pts v w wr)) (fun jv _ _ _ => l.length - (intOf jv).toNat)
  case atStart => exact ⟨i, [], 77, rfl, rfl, rfl, I0⟩
  case round =>
    clear I0
    obtain ⟨j, pts, c, rfl, rfl, hc, hI⟩ := hrel
    have hj := hI.out.hi
    have few := hI.out.few
    have hz := hI.out.bl.size
    have HC := hid hc
    have IC := hid (IA.out j c (by omega))
    clear hc
    cases ha : isAtB l j c
    · rw [ha] at IC
      have HA := hid ha
      have IZ := hid (IA.out j 122 (by omega))
      have WJ := hid (WR.out j)
      clear ha
      by_cases p0 : pts.length = 0
      · have WG := hid (fun out => hI.out.wrong hi (by rw [← HC.out]; exact HA.out) (.inl p0) out)
        obtain ⟨E, hE⟩ : ∃ E, E = Pm.lackE s.size j := ⟨_, rfl⟩
        have HE := hid (show E = Pm.lackE l.length j by rw [hE, LS.out])
        rw [← hE] at WJ
        obtain ⟨ao, cap, hv⟩ := own_len hI.out.own
        subst hv
        have e0 : ((pts.length : Int) == 0) = true := by simp [p0]
        obtain ⟨m, hm⟩ : ∃ m, m = pts.length := ⟨_, rfl⟩
        rw [← hm] at e0 ⊢
        clear p0 hE hm
        go_wp2_with fail
        refine (IC.out _).mono ?_
        rintro e w1 ⟨rfl, e1⟩
        subst e1
        go_wp2_with fail
        refine (WJ.out _).mono ?_
        rintro e w1 ⟨rfl, e1⟩
        subst e1
        go_wp2
        go_ret3
        exact ⟨⟨_, j, E, rfl, .inr ⟨rfl, by rw [HE.out]; exact lackE_in _ _, hj, fun out => by rw [HE.out]; exact WG.out out⟩⟩, hI.out.bl⟩
      · cases hz2 : isAtB l j 122
        · have WG := hid (fun out => hI.out.wrong hi (by rw [← HC.out]; exact HA.out) (.inr hz2) out)
          rw [hz2] at IZ
          obtain ⟨E, hE⟩ : ∃ E, E = Pm.lackE s.size j := ⟨_, rfl⟩
          have HE := hid (show E = Pm.lackE l.length j by rw [hE, LS.out])
          rw [← hE] at WJ
          obtain ⟨ao, cap, hv⟩ := own_len hI.out.own
          subst hv
          have e0 : ((pts.length : Int) == 0) = false := beq_eq_false_iff_ne.2 (by omega)
          obtain ⟨m, hm⟩ : ∃ m, m = pts.length := ⟨_, rfl⟩
          rw [← hm] at e0 ⊢
          clear p0 hE hm hz2
          go_wp2_with fail
          refine (IC.out _).mono ?_
          rintro e w1 ⟨rfl, e1⟩
          subst e1
          go_wp2_with fail
          refine (IZ.out _).mono ?_
          rintro e w1 ⟨rfl, e1⟩
          subst e1
          go_wp2_with fail
          refine (WJ.out _).mono ?_
          rintro e w1 ⟨rfl, e1⟩
          subst e1
          go_wp2
          go_ret3
          exact ⟨⟨_, j, E, rfl, .inr ⟨rfl, by rw [HE.out]; exact lackE_in _ _, hj, fun out => by rw [HE.out]; exact WG.out out⟩⟩, hI.out.bl⟩
        · obtain ⟨hjl, hbz⟩ := (isAtB_iff (122 : UInt8)).1 hz2
          have DN := hid (fun out => (hI.out.rch out).snoc (show Pm.stp l ⟨j, decide (0 < pts.length), pts, out⟩ = .inl ⟨Pm.skp l (j + 1), false, [], out ++ [pts]⟩ by rw [decide_eq_true (show 0 < pts.length by omega)]; exact Pm.stp_z hjl hbz))
          rw [hz2] at IZ
          obtain ⟨ao, cap, hv⟩ := own_len hI.out.own
          subst hv
          have e0 : ((pts.length : Int) == 0) = false := beq_eq_false_iff_ne.2 (by omega)
          have P0 := hid (show 0 < pts.length by omega)
          obtain ⟨m, hm⟩ : ∃ m, m = pts.length := ⟨_, rfl⟩
          have HMM := hid hm
          rw [← hm] at e0 ⊢
          have lo := hI.out.lo
          clear p0 hm hz2 hbz
          go_wp2_with fail
          refine (IC.out _).mono ?_
          rintro e w1 ⟨rfl, e1⟩
          subst e1
          go_wp2_with fail
          refine (IZ.out _).mono ?_
          rintro e w1 ⟨rfl, e1⟩
          subst e1
          go_wp2
          go_ret3
          exact ⟨⟨.slice ao m cap, j + 1, 0, by rw [show ((j + 1 : Nat) : Int) = (j : Int) + 1 from by omega]; rfl, .inl ⟨rfl, pts, P0.out, hI.out.small, by have := hI.out.own; rw [← HMM.out] at this ⊢; exact this, by omega, by omega, by omega, DN.out⟩⟩, hI.out.bl⟩
    · obtain ⟨hjl, hbc⟩ := (isAtB_iff (if pts.length = 0 then (77 : UInt8) else 76)).1 (by rw [← HC.out]; exact ha)
      rw [ha] at IC
      have BC := hid (show Pm.byt l j = if decide (0 < pts.length) = true then 76 else 77 by rw [letter_if]; exact hbc)
      have R1 := hid (RP.out (j + 1) (by omega))
      clear ha hbc
      match hp : Pm.pnt l (j + 1) with
      | .error (ee, p) =>
        have pe := Pm.pnt_err (l := l) (i := j + 1) (by omega) hp
        have WG := hid (show ∀ out, Pm.Says l ⟨i, false, [], out⟩ (.error (ee, p)) from fun out => ⟨_, hI.out.rch out, Pm.stp_err hjl BC.out hp⟩)
        have e0 := err_ne pe.1
        have PE := hid pe
        rw [hp] at R1
        simp only [pt3] at R1
        have R2 := hid (show ∀ W, Calls Tryd.prog 36 #[.string s, .int .i64 ((j : Int) + 1)] W fun e w' => e = .returned (.tuple #[.agg #[.int .i64 0, .int .i64 0], .int .i64 p, .int .i64 ee]) ∧ Below W.heap.size W w' from fun W => by have := R1.out W; simpa using this)
        clear hp pe R1
        go_wp2_with fail
        refine (IC.out _).mono ?_
        rintro e w1 ⟨rfl, e1⟩
        subst e1
        go_wp2_with fail
        refine (R2.out _).mono ?_
        rintro e w2 ⟨rfl, hb2⟩
        have B2 := hid (show Below w.heap.size w w2 from hI.out.bl.trans (hb2.mono hz))
        have s2 := B2.out.size
        clear hb2
        go_wp2
        go_ret3
        exact ⟨⟨_, p, ee, rfl, .inr ⟨rfl, PE.out.1, PE.out.2, WG.out⟩⟩, by go_grown; exact B2.out⟩
      | .ok (q, k) =>
        have pk := Pm.pnt_ok (l := l) (i := j + 1) (by omega) hp
        obtain ⟨⟨hq1, hq2, hq3, hq4⟩, hk1, hk2⟩ := pk
        have ST := hid (fun out => (hI.out.rch out).snoc (Pm.stp_pt hjl BC.out hp))
        rw [hp] at R1
        simp only [pt3] at R1
        obtain ⟨px, py⟩ := q
        dsimp only at hq1 hq2 hq3 hq4 R1
        have R2 := hid (show ∀ W, Calls Tryd.prog 36 #[.string s, .int .i64 ((j : Int) + 1)] W fun e w' => e = .returned (.tuple #[.agg #[.int .i64 px, .int .i64 py], .int .i64 k, .int .i64 0]) ∧ Below W.heap.size W w' from fun W => by have := R1.out W; simpa using this)
        have S1 := hid (SK.out k (by omega))
        have kge := Pm.skp_ge l k
        have kle := Pm.skp_le hk2
        obtain ⟨k2, hk2'⟩ : ∃ k2, k2 = Pm.skp l k := ⟨_, rfl⟩
        rw [← hk2'] at S1 ST kge kle
        obtain ⟨ao, cap, hv⟩ := own_len hI.out.own
        subst hv
        have SM := hid (show Qm.Small (pts ++ [(px, py)]) from fun p hp => by
          rcases List.mem_append.1 hp with h | h
          · exact hI.out.small p h
          · rw [List.mem_singleton] at h; subst h; exact ⟨hq1, hq2, hq3, hq4⟩)
        have m1 : pts.length + 1 ≤ maxLen := by unfold maxLen; omega
        have m2 : (pts.length + 1) * 16 ≤ 140737488355328 := by omega
        clear hp R1 hk2'
        go_wp2_with fail
        refine (IC.out _).mono ?_
        rintro e w1 ⟨rfl, e1⟩
        subst e1
        go_wp2_with fail
        refine (R2.out _).mono ?_
        rintro e w2 ⟨rfl, hb2⟩
        have B2 := hid (show Below w.heap.size w w2 from hI.out.bl.trans (hb2.mono hz))
        have O2 := hid (own_below hI.out.own hb2)
        have s2 := B2.out.size
        have B3 := hid (show Below w.heap.size w ((w2.alloc (.cells #[.int .i64 px, .int .i64 py] 46)).alloc (.cells #[.int .i64 px, .int .i64 py] 46)) from (B2.out.alloc s2 _).alloc (by simp; omega) _)
        have m3 : w.heap.size ≤ ((w2.alloc (.cells #[.int .i64 px, .int .i64 py] 46)).alloc (.cells #[.int .i64 px, .int .i64 py] 46)).heap.size := by simp; omega
        clear hb2
        go_wp2_with (first
          | (at_builtin; refine wpList_append_own _ rfl _ _ 40 rfl w.heap.size 46 ip (.agg #[.int .i64 0, .int .i64 0]) 2 16 Tryd.underlying40 hip hp0 hp1 hp2 rfl (by decide) _ _ _ rfl ((O2.out.alloc _).alloc _) ⟨_, 0, none⟩ 1 1 [.int .i64 px, .int .i64 py] rfl rfl (two_cellsY _ _ _ _ _ (by simp)) (two_one _ _) m1 m2 m3 ?_))
        intro v' w5 hown' hgrow _
        have B5 := hid (show Below w.heap.size w w5 from B3.out.grown hgrow m3 (fun k hk => (O2.out.lt k hk).1))
        have O5 := hid (show w5.ownsRow w.heap.size 46 2 v' (pts ++ [(px, py)]).length (Qm.ptsV (pts ++ [(px, py)])) by rw [Qm.ptsV_snoc, List.length_append]; exact hown')
        have LO := hI.out.lo
        have NI := hid (show SI l i w.heap.size k2 (pts ++ [(px, py)]) v' w w5 from ⟨by omega, kle, fun h => by simp at h, by rw [List.length_append, List.length_singleton]; omega, SM.out, O5.out, B5.out, fun out => by rw [decide_eq_true (by simp)]; exact ST.out out⟩)
        clear hown' hgrow
        go_wp2_with fail
        refine (S1.out _).mono ?_
        rintro e w6 ⟨rfl, e6⟩
        subst e6
        go_wp2
        go_roundw
        case rel => exact ⟨k2, pts ++ [(px, py)], 76, rfl, rfl, by rw [if_neg (by simp)]; rfl, NI⟩
        case measure => simp [intOf]; omega

end Go.Proofs.YtljfiefobnncaabDoor

/- Reading paths: the whole; outline.Shapes. -/
namespace Go.Proofs.YtljfiefobnncaabDoor
open Go.RowKit

/-- What reading a path gives. -/
def ShsOut (l : List UInt8) (b : Nat) (vl : Value) (ee : Int) (p : Nat) (w' : World) : Prop :=
  (ee = 0 ∧ p = 0 ∧ ∃ L : List (Value × List (Int × Int)), RowP b vl L w' ∧ (∀ q ∈ L, 0 < q.2.length ∧ Qm.Small q.2 ∧ q.2.length ≤ l.length) ∧ L.length ≤ l.length ∧ Pm.Says l (Pm.st0 l) (.ok (L.map (·.2)))) ∨
  (vl = .slice none 0 0 ∧ (ee = 1 ∨ ee = 2 ∨ ee = 3) ∧ Pm.Says l (Pm.st0 l) (.error (ee, p)))
theorem Says_of {l : List UInt8} {s t : Pm.St} {a : Pm.Ans} (h : Pm.Rch l s t) (k : Pm.Says l t a) : Pm.Says l s a := by
  obtain ⟨u, k1, k2⟩ := k
  exact ⟨u, h.trans k1, k2⟩
/-- What holds in Read's loop. -/
structure LI (l : List UInt8) (b j : Nat) (L : List (Value × List (Int × Int))) (v : Value) (w wr : World) : Prop where
  hi : j ≤ l.length
  few : L.length ≤ j
  row : RowP b v L wr
  pts : ∀ q ∈ L, 0 < q.2.length ∧ Qm.Small q.2 ∧ q.2.length ≤ l.length
  bl : Below b w wr
  rch : Pm.Rch l (Pm.st0 l) ⟨j, false, [], L.map (·.2)⟩

set_option maxRecDepth 4000 in
set_option maxHeartbeats 2000000 in
theorem pRead_any (s : ByteArray) (hs : s.size ≤ 1073741824) (w : World) :
    Calls Tryd.prog 16 #[.string s] w fun e w' => (∃ (v : Value) (ee : Int) (p : Nat), e = .returned (.tuple #[v, .int .i64 ee, .int .i64 p]) ∧ ShsOut s.data.toList w.heap.size v ee p w') ∧ Below w.heap.size w w' := by
  obtain ⟨i0, hi0, hz0, hz1, hz2⟩ := info_parts infoShape
  have ls : s.data.toList.length = s.size := by simp
  obtain ⟨l, hl⟩ : ∃ l, l = s.data.toList := ⟨_, rfl⟩
  have RS := hid (fun k (h : k < s.size) W => pReadShape_any s k h hs W)
  have SK := hid (fun k (h : k ≤ s.size) W => pSkip_any s k h (by omega) W)
  rw [← hl] at RS SK ls ⊢
  have LS := hid ls
  have k0 := Pm.skp_le (l := l) (i := 0) (Nat.zero_le _)
  have SK0 := hid (SK.out 0 (Nat.zero_le _))
  have I0 := hid (show LI l w.heap.size (Pm.skp l 0) [] (.slice none 0 0) w w from ⟨k0, Nat.zero_le _, RowP.nil _ _, fun q hq => by simp at hq, Below.refl _ _, .refl _⟩)
  obtain ⟨j0, hj0⟩ : ∃ j0, j0 = Pm.skp l 0 := ⟨_, rfl⟩
  rw [← hj0] at SK0 I0
  have SK1 := hid (show ∀ W, Calls Tryd.prog 25 #[.string s, .int .i64 0] W fun e w' => e = .returned (.int .i64 j0) ∧ w' = W from fun W => by simpa using SK0.out W)
  clear hl hj0 k0 SK0
  go_enter Tryd.func16, Tryd.ntmps16
  go_wp2_with fail
  refine (SK1.out _).mono ?_
  rintro e w1 ⟨rfl, e1⟩
  subst e1
  go_wp2_with fail
  go_loopw [5, 6] (fun v jv wr => ∃ (j : Nat) (L : List (Value × List (Int × Int))), jv = .int .i64 j ∧ Hid (LI l w1.heap.size j L v w1 wr)) (fun _ jv _ => l.length - (intOf jv).toNat)
  case atStart => exact ⟨j0, [], rfl, I0⟩
  case round =>
    clear I0
    obtain ⟨j, L, rfl, hI⟩ := hrel
    have hj := hI.out.hi
    have few := hI.out.few
    have hz := hI.out.bl.size
    obtain ⟨ao, cap, hv⟩ := own_len hI.out.row.row
    subst hv
    by_cases hlt : j < l.length
    · have R1 := hid (RS.out j (by omega))
      have j1' : ((j : Nat) : Int) < (s.size : Nat) := by omega
      go_wp2_with fail
      refine (R1.out _).mono ?_
      rintro e w2 ⟨⟨v2, k, ee, rfl, ho⟩, hb2⟩
      have HB2 := hid hb2
      have B2 := hid (show Below w1.heap.size w1 w2 from hI.out.bl.trans (hb2.mono hz))
      have s2 := B2.out.size
      have z2 := hb2.size
      clear hb2
      rcases ho with ⟨rfl, pts, p0, psm, pown, hjk, hkl, pfew, prch⟩ | ⟨rfl, he, hkl, hsay⟩
      · obtain ⟨g, cp, rfl, hg, hpt, -⟩ := own_at pown p0
        have OW := hid pown
        have PT := hid hpt
        have TW := hid (twice_big g pts.length cp pts rfl p0 psm (by omega) w2 hpt)
        have P0 := hid p0
        have PS := hid psm
        have RC := hid prch
        have S1 := hid (SK.out k (by omega))
        have kge := Pm.skp_ge l k
        have kle := Pm.skp_le hkl
        obtain ⟨k2, hk2⟩ : ∃ k2, k2 = Pm.skp l k := ⟨_, rfl⟩
        rw [← hk2] at S1 RC kge kle
        obtain ⟨m, hm⟩ : ∃ m, m = pts.length := ⟨_, rfl⟩
        rw [← hm] at TW ⊢
        have HMM := hid hm
        obtain ⟨tw, htw⟩ : ∃ tw, tw = Qm.twiceOf pts := ⟨_, rfl⟩
        rw [← htw] at TW
        have HTW := hid htw
        have n1 : L.length + 1 ≤ maxLen := by unfold maxLen; omega
        have n2 : (L.length + 1) * 32 ≤ 140737488355328 := by omega
        clear pown hpt p0 psm prch hk2 hm htw
        go_wp2_with fail
        refine TW.out.mono ?_
        rintro e w4 ⟨rfl, b4⟩
        have HB4 := hid b4
        have z4 := b4.size
        clear b4
        have n3 : w1.heap.size ≤ (w4.alloc (.cells #[.slice (some ⟨g, 0, none⟩) m cp, .int .i64 tw] 42)).heap.size := by simp; omega
        have R4 := hid ((hI.out.row.on HB2.out).on HB4.out)
        go_wp2_with (first
          | (at_builtin; refine wpList_append_own_at _ rfl _ _ 27 rfl w1.heap.size 42 i0 (.agg #[.slice none 0 0, .int .i64 0]) 2 32 Tryd.underlying27 hi0 hz0 hz1 hz2 rfl (by decide) _ _ _ rfl (R4.out.row.alloc _) ⟨_, 0, none⟩ 1 1 [.slice (some ⟨g, 0, none⟩) m cp, .int .i64 tw] rfl rfl (vt_cells _ _ _ _ _ _ _ rfl) (vt_one _ _ _ _) n1 n2 n3 ?_))
        intro vl' w5 o5 g5 _ e5
        have RP5 := hid (hI.out.row.snoc (v := .slice (some ⟨g, 0, none⟩) m cp) (l := pts) (vl' := vl') (by omega) HB2.out (by have := OW.out; rw [← HMM.out] at this ⊢; exact this) P0.out HB4.out (by rw [← HTW.out]; exact o5) g5 (by simpa using e5))
        have B5 := hid (show Below w1.heap.size w1 w5 from ((B2.out.trans (HB4.out.mono (by omega))).alloc (by omega) _).grown g5 n3 (fun q hq => (R4.out.row.lt q hq).1))
        have NI := hid (show LI l w1.heap.size k2 (L ++ [(.slice (some ⟨g, 0, none⟩) m cp, pts)]) vl' w1 w5 from ⟨kle, by rw [List.length_append, List.length_singleton]; omega, RP5.out, fun q hq => by
          rcases List.mem_append.1 hq with h | h
          · exact hI.out.pts q h
          · rw [List.mem_singleton] at h; subst h; exact ⟨P0.out, PS.out, by show pts.length ≤ _; omega⟩, B5.out, by rw [List.map_append]; exact hI.out.rch.trans (RC.out _)⟩)
        clear o5 g5 e5
        go_wp2_with fail
        refine (S1.out _).mono ?_
        rintro e w6 ⟨rfl, e6⟩
        subst e6
        go_wp2
        go_roundw
        case rel => exact ⟨k2, _, rfl, NI⟩
        case measure => simp [intOf]; omega
      · have e0 := err_ne he
        have WG := hid (Says_of hI.out.rch (hsay _))
        have HE := hid he
        clear he hsay
        go_wp2
        go_ret3
        exact ⟨⟨_, ee, k, rfl, .inr ⟨rfl, HE.out, WG.out⟩⟩, B2.out⟩
    · have j1' : ((s.size : Nat) : Int) ≤ (j : Nat) := by omega
      have WG := hid (show Pm.Says l (Pm.st0 l) (.ok (L.map (·.2))) from ⟨_, hI.out.rch, Pm.stp_end (by omega)⟩)
      obtain ⟨m, hm⟩ : ∃ m, m = L.length := ⟨_, rfl⟩
      have HMM := hid hm
      rw [← hm]
      clear hm
      go_wp2
      go_ret3
      exact ⟨⟨.slice ao m cap, 0, 0, rfl, .inl ⟨rfl, rfl, L, by have := hI.out.row; rw [← HMM.out] at this; exact this, hI.out.pts, by omega, WG.out⟩⟩, hI.out.bl⟩

set_option maxRecDepth 4000 in
set_option maxHeartbeats 400000 in
theorem shapes_any (s : ByteArray) (hs : s.size ≤ 1073741824) (w : World) :
    Calls Tryd.prog 9 #[.string s] w fun e w' => (∃ (v : Value) (ee : Int) (p : Nat), e = .returned (.tuple #[v, .int .i64 ee, .int .i64 p]) ∧ ShsOut s.data.toList w.heap.size v ee p w') ∧ Below w.heap.size w w' := by
  have R := hid (pRead_any s hs w)
  go_enter Tryd.func9, Tryd.ntmps9
  go_wp2_with fail
  refine R.out.mono ?_
  rintro e w1 ⟨⟨v, ee, p, rfl, ho⟩, hb⟩
  have HO := hid ho
  have HB := hid hb
  clear ho hb
  go_wp2
  go_ret3
  exact ⟨⟨v, ee, p, rfl, HO.out⟩, HB.out⟩

end Go.Proofs.YtljfiefobnncaabDoor

/- Lists of shapes of whatever points, to be read; may they be written? -/
namespace Go.Proofs.YtljfiefobnncaabDoor
open Go.RowKit

/-- A shape: its points, and what it says of its area. -/
abbrev ShT : Type := List (Int × Int) × Int
def sh0 : ShT := ([], 0)
/-- A list of shapes lies there. -/
def ShIs (ao : Option Addr) (L : List ShT) (w : World) : Prop :=
  L.length = 0 ∨ ∃ gl o, ao = some ⟨gl, o, none⟩ ∧ gl < w.heap.size ∧ ∀ i, i < L.length → ∃ ap cp, w.cell? ⟨gl, o + i * 2, none⟩ = some (.slice ap (L.getD i sh0).1.length cp) ∧ w.cell? ⟨gl, o + i * 2 + 1, none⟩ = some (.int .i64 (L.getD i sh0).2) ∧
    ((L.getD i sh0).1.length = 0 ∨ ∃ g q, ap = some ⟨g, q, none⟩ ∧ PtsO g q (L.getD i sh0).1 w)
theorem ShIs.on {ao : Option Addr} {L : List ShT} {w w' : World} (h : ShIs ao L w) (hb : Below w.heap.size w w') : ShIs ao L w' := by
  refine h.imp id ?_
  rintro ⟨gl, o, e, hg, hc⟩
  refine ⟨gl, o, e, Nat.lt_of_lt_of_le hg hb.size, fun i hi => ?_⟩
  obtain ⟨ap, cp, h1, h2, h3⟩ := hc i hi
  refine ⟨ap, cp, (hb.cell (p := ⟨gl, o + i * 2, none⟩) hg).trans h1, (hb.cell (p := ⟨gl, o + i * 2 + 1, none⟩) hg).trans h2, h3.imp id ?_⟩
  rintro ⟨g, q, e2, hp⟩
  exact ⟨g, q, e2, hp.on hb hp.1⟩
def inB (p : Int × Int) : Bool := decide (0 ≤ p.1 ∧ p.1 ≤ 32 ∧ 0 ≤ p.2 ∧ p.2 ≤ 32)
def okSh (s : ShT) : Bool := decide (0 < s.1.length) && s.1.all inB
/-- May the shapes be written? -/
def plB (L : List ShT) : Bool := L.all okSh
theorem all_getD {α : Type} {p : α → Bool} {l : List α} (d : α) (h : ∀ i, i < l.length → p (l.getD i d) = true) : l.all p = true := by
  rw [List.all_eq_true]
  intro x hx
  obtain ⟨i, hi, rfl⟩ := List.mem_iff_getElem.1 hx
  have := h i hi
  rwa [List.getD_eq_getElem?_getD, List.getElem?_eq_getElem hi] at this
theorem all_not {α : Type} {p : α → Bool} {l : List α} (d : α) {i : Nat} (hi : i < l.length) (h : p (l.getD i d) = false) : l.all p = false := by
  rw [List.all_eq_false]
  refine ⟨l.getD i d, ?_, by rw [h]; simp⟩
  rw [List.getD_eq_getElem?_getD, List.getElem?_eq_getElem hi]; exact List.getElem_mem hi
theorem all_at {α : Type} {p : α → Bool} {l : List α} (d : α) (h : l.all p = true) {i : Nat} (hi : i < l.length) : p (l.getD i d) = true := by
  rw [List.all_eq_true] at h
  refine h _ ?_
  rw [List.getD_eq_getElem?_getD, List.getElem?_eq_getElem hi]; exact List.getElem_mem hi
theorem inB_not {p : Int × Int} (h : inB p = false) : p.1 < 0 ∨ (0 ≤ p.1 ∧ 32 < p.1) ∨ (0 ≤ p.1 ∧ p.1 ≤ 32 ∧ p.2 < 0) ∨ (0 ≤ p.1 ∧ p.1 ≤ 32 ∧ 0 ≤ p.2 ∧ 32 < p.2) := by
  have := of_decide_eq_false h; omega
theorem inB_not2 {p : Int × Int} (h : inB p = false) : p.1 < 0 ∨ (0 ≤ p.1 ∧ p.2 < 0) ∨ (0 ≤ p.1 ∧ 0 ≤ p.2 ∧ 32 < p.1) ∨ (0 ≤ p.1 ∧ 0 ≤ p.2 ∧ p.1 ≤ 32 ∧ 32 < p.2) := by
  have := of_decide_eq_false h; omega
theorem okSh_empty {s : ShT} (h : s.1.length = 0) : okSh s = false := by unfold okSh; rw [h]; rfl
theorem okSh_of {s : ShT} (h : 0 < s.1.length) (ha : s.1.all inB = true) : okSh s = true := by unfold okSh; rw [decide_eq_true h, ha]; rfl
theorem okSh_not {s : ShT} (ha : s.1.all inB = false) : okSh s = false := by unfold okSh; rw [ha, Bool.and_false]
theorem okSh_small {s : ShT} (h : okSh s = true) : 0 < s.1.length ∧ Qm.Small s.1 := by
  unfold okSh at h
  rw [Bool.and_eq_true, decide_eq_true_eq] at h
  refine ⟨h.1, fun p hp => ?_⟩
  have := List.all_eq_true.1 h.2 p hp
  exact of_decide_eq_true this

set_option maxRecDepth 4000 in
set_option maxHeartbeats 1000000 in
theorem areWithin_any (g q n cap : Nat) (l : List (Int × Int)) (hn : n = l.length) (h0 : 0 < n) (hn2 : n ≤ 140737488355328) (w : World) (hP : PtsO g q l w) :
    Calls Tryd.prog 32 #[.slice (some ⟨g, q, none⟩) n cap] w fun e w' => e = .returned (.bool (l.all inB)) ∧ Below w.heap.size w w' := by
  have HP := hid hP
  have hg := hP.1
  have HN := hid hn
  clear hP hn
  go_enter Tryd.func32, Tryd.ntmps32
  go_wp2_with fail
  go_loopw [3] (fun i wr => ∃ k : Nat, k ≤ n ∧ i = .int .i64 k ∧ Hid (∀ j, j < k → inB (l.getD j (0, 0)) = true) ∧ Hid (Below w.heap.size w wr)) (fun i _ => n - (intOf i).toNat)
  case atStart => exact ⟨0, by omega, rfl, fun j hj => absurd hj (Nat.not_lt_zero _), Below.refl _ _⟩
  case round =>
    obtain ⟨k, hk, rfl, hA, hb⟩ := hrel
    have hz := hb.out.size
    by_cases hlt : k < n
    · obtain ⟨r0, r1⟩ := (HP.out.on hb.out hg).2 k (by have := HN.out; omega)
      have k0' : (0 : Int) ≤ (k : Nat) := by omega
      have k1' : ((k : Nat) : Int) < (n : Nat) := by omega
      cases hin : inB (l.getD k (0, 0))
      · have FL := hid (all_not (p := inB) (l := l) (0, 0) (by have := HN.out; omega) hin)
        have hbad := inB_not hin
        obtain ⟨⟨px, py⟩, hpp⟩ : ∃ p, p = l.getD k (0, 0) := ⟨_, rfl⟩
        rw [← hpp] at r0 r1 hbad
        dsimp only at r0 r1 hbad
        clear hpp hin
        rcases hbad with h | ⟨h1, h⟩ | ⟨h1, h2, h⟩ | ⟨h1, h2, h3, h⟩
        all_goals
          go_wp2
          go_ret
          exact ⟨ret_bool FL.out.symm, by go_grown; exact hb.out⟩
      · have hall := hid (show ∀ j, j < k + 1 → inB (l.getD j (0, 0)) = true from fun j hj => by
          rcases Nat.lt_or_ge j k with h | h
          · exact hA.out j h
          · obtain rfl : j = k := by omega
            exact hin)
        have hgd := of_decide_eq_true hin
        obtain ⟨⟨px, py⟩, hpp⟩ : ∃ p, p = l.getD k (0, 0) := ⟨_, rfl⟩
        rw [← hpp] at r0 r1 hgd
        dsimp only at r0 r1 hgd
        obtain ⟨h1, h2, h3, h4⟩ := hgd
        clear hpp hin
        go_wp2
        go_roundw
        case rel => exact ⟨k + 1, by omega, by go_num, hall, by show Below _ _ _; go_grown; exact hb.out⟩
        case measure => simp [intOf]; omega
    · have TR := hid (all_getD (p := inB) (l := l) (0, 0) (fun i hi => hA.out i (by have := HN.out; omega)))
      have hk' : ((n : Nat) : Int) ≤ (k : Nat) := by omega
      go_wp2
      go_ret
      exact ⟨ret_bool TR.out.symm, hb.out⟩

set_option maxRecDepth 4000 in
set_option maxHeartbeats 1000000 in
theorem shapesMay_any (ao : Option Addr) (n cap : Nat) (L : List ShT) (hn : n = L.length) (hn2 : n ≤ 140737488355328) (hm : ∀ i, (L.getD i sh0).1.length ≤ 140737488355328) (w : World) (hS : ShIs ao L w) :
    Calls Tryd.prog 23 #[.slice ao n cap] w fun e w' => e = .returned (.bool (plB L)) ∧ Below w.heap.size w w' := by
  have HS := hid hS
  have HM := hid hm
  have HN := hid hn
  clear hS hm hn
  go_enter Tryd.func23, Tryd.ntmps23
  go_wp2_with fail
  go_loopw [3] (fun i wr => ∃ k : Nat, k ≤ n ∧ i = .int .i64 k ∧ Hid (∀ j, j < k → okSh (L.getD j sh0) = true) ∧ Hid (Below w.heap.size w wr)) (fun i _ => n - (intOf i).toNat)
  case atStart => exact ⟨0, by omega, rfl, fun j hj => absurd hj (Nat.not_lt_zero _), Below.refl _ _⟩
  case round =>
    obtain ⟨k, hk, rfl, hA, hb⟩ := hrel
    have hz := hb.out.size
    by_cases hlt : k < n
    · obtain ⟨gl, o, rfl, hgl, hc⟩ := HS.out.resolve_left (by have := HN.out; omega)
      obtain ⟨ap, cp, c0, c1, c2⟩ := hc k (by have := HN.out; omega)
      have r0 := (hb.out.cell (p := ⟨gl, o + k * 2, none⟩) hgl).trans c0
      have k0' : (0 : Int) ≤ (k : Nat) := by omega
      have k1' : ((k : Nat) : Int) < (n : Nat) := by omega
      have NOT := hid (fun (h : okSh (L.getD k sh0) = false) => all_not (p := okSh) (l := L) sh0 (i := k) (by have := HN.out; omega) h)
      have hmk := HM.out k
      obtain ⟨s, hs⟩ : ∃ s, s = L.getD k sh0 := ⟨_, rfl⟩
      rw [← hs] at r0 c2 NOT hmk
      obtain ⟨m, hmm⟩ : ∃ m, m = s.1.length := ⟨_, rfl⟩
      rw [← hmm] at r0 c2 hmk
      have ES := hid hs
      clear hc c0 c1 hs
      by_cases m0 : m = 0
      · have FL := hid (NOT.out (okSh_empty (by rw [← hmm]; exact m0)))
        have e0 : ((m : Int) == 0) = true := by simp [m0]
        clear m0 hmm c2
        go_wp2
        go_ret
        exact ⟨ret_bool FL.out.symm, by go_grown; exact hb.out⟩
      · obtain ⟨g, q, rfl, hp⟩ := c2.resolve_left m0
        have e0 : ((m : Int) == 0) = false := by simp [m0]
        have AW := hid (fun W' (h : Below w.heap.size w W') => areWithin_any g q m cp s.1 hmm (by omega) hmk W' (hp.on h hp.1))
        cases ha : s.1.all inB
        · have FL := hid (NOT.out (okSh_not ha))
          rw [ha] at AW
          clear m0 hmm c2 hp ha
          go_wp2_with fail
          refine (AW.out _ (by go_grown; exact hb.out)).mono ?_
          rintro e w2 ⟨rfl, hb2⟩
          have B2 := hid (show Below w.heap.size w w2 from Below.trans (b := _) (by go_grown; exact hb.out) (hb2.mono (by have := hb.out.size; simp; omega)))
          clear hb2
          go_wp2
          go_ret
          exact ⟨ret_bool FL.out.symm, B2.out⟩
        · have hall := hid (show ∀ j, j < k + 1 → okSh (L.getD j sh0) = true from fun j hj => by
            rcases Nat.lt_or_ge j k with h | h
            · exact hA.out j h
            · obtain rfl : j = k := by omega
              rw [← ES.out]; exact okSh_of (by omega) ha)
          rw [ha] at AW
          clear m0 hmm c2 hp ha
          go_wp2_with fail
          refine (AW.out _ (by go_grown; exact hb.out)).mono ?_
          rintro e w2 ⟨rfl, hb2⟩
          have B2 := hid (show Below w.heap.size w w2 from Below.trans (b := _) (by go_grown; exact hb.out) (hb2.mono (by have := hb.out.size; simp; omega)))
          clear hb2
          go_wp2
          go_roundw
          case rel => exact ⟨k + 1, by omega, by go_num, hall, B2⟩
          case measure => simp [intOf]; omega
    · have TR := hid (all_getD (p := okSh) (l := L) sh0 (fun i hi => hA.out i (by have := HN.out; omega)))
      have hk' : ((n : Nat) : Int) ≤ (k : Nat) := by omega
      go_wp2
      go_ret
      exact ⟨ret_bool TR.out.symm, hb.out⟩



end Go.Proofs.YtljfiefobnncaabDoor

/- Writing paths, by the program. -/
namespace Go.Proofs.YtljfiefobnncaabDoor
open Go.RowKit

set_option maxRecDepth 4000 in
set_option maxHeartbeats 400000 in
theorem pointText_any (x y : Nat) (hx : x < 33) (hy : y < 33) (w : World) :
    Calls Tryd.prog 33 #[.agg #[.int .i64 x, .int .i64 y]] w fun e w' => e = .returned (.string ⟨(Pm.ptL ((x : Int), (y : Int))).toArray⟩) ∧ Below w.heap.size w w' := by
  have lx := Pm.itoaL_len x
  have ly := Pm.itoaL_len y
  have E := hid (show (⟨(Pm.itoaL x).toArray⟩ ++ ⟨#[32]⟩ ++ ⟨(Pm.itoaL y).toArray⟩ : ByteArray) = ⟨(Pm.ptL ((x : Int), (y : Int))).toArray⟩ by
    apply ByteArray.ext
    apply Array.toList_inj.1
    simp [Pm.ptL])
  go_enter Tryd.func33, Tryd.ntmps33
  go_wp2_with fail
  refine (itoa_any x hx _).mono ?_
  rintro e w1 ⟨rfl, e1⟩
  subst e1
  go_wp2_with fail
  refine (itoa_any y hy _).mono ?_
  rintro e w2 ⟨rfl, e2⟩
  subst e2
  go_wp2
  go_ret
  exact ⟨ret_string E.out, by go_grown⟩
theorem pt_nat {p : Int × Int} (h : 0 ≤ p.1 ∧ p.1 ≤ 32 ∧ 0 ≤ p.2 ∧ p.2 ≤ 32) : ∃ x y : Nat, p = ((x : Int), (y : Int)) ∧ x < 33 ∧ y < 33 :=
  ⟨p.1.toNat, p.2.toNat, Prod.ext (by simp; omega) (by simp; omega), by omega, by omega⟩
theorem take_snocY {α : Type} (l : List α) (k : Nat) (d : α) (h : k < l.length) : l.take (k + 1) = l.take k ++ [l.getD k d] := by
  rw [List.take_succ_eq_append_getElem h, List.getD_eq_getElem?_getD, List.getElem?_eq_getElem h]; rfl

set_option maxRecDepth 4000 in
set_option maxHeartbeats 2000000 in
theorem shapeText_any (g q n cap : Nat) (l : List (Int × Int)) (hn : n = l.length) (h0 : 0 < n) (hs : Qm.Small l) (hn2 : n ≤ 1073741824) (w : World) (hP : PtsO g q l w) :
    Calls Tryd.prog 24 #[.slice (some ⟨g, q, none⟩) n cap] w fun e w' => e = .returned (.string ⟨(Pm.shL l).toArray⟩) ∧ Below w.heap.size w w' := by
  obtain ⟨i0, hi, hz0, hz1, hz2⟩ := info_parts infoByte
  have HP := hid hP
  have hg := hP.1
  have HN := hid hn
  have HS := hid hs
  clear hP hn hs
  go_enter Tryd.func24, Tryd.ntmps24
  go_wp2_with fail
  go_loopw [3, 4, 5] (fun v cv iv wr => ∃ (k c : Nat), k ≤ n ∧ iv = .int .i64 k ∧ cv = .int .u8 c ∧ Hid (c = (if k = 0 then (77 : UInt8) else 76).toNat) ∧ c ≤ 255 ∧ Hid (wr.ownsRow w.heap.size 5 1 v (Pm.shP (l.take k)).length (cellsOf (Pm.shP (l.take k)))) ∧ Hid (Below w.heap.size w wr)) (fun _ _ i _ => n - (intOf i).toNat)
  case atStart => exact ⟨0, 77, by omega, rfl, rfl, rfl, by omega, World.ownsRow_nil _ _ _ _, Below.refl _ _⟩
  case round =>
    obtain ⟨k, c, hk, rfl, rfl, HC, c2, hO, hB⟩ := hrel
    have hz := hB.out.size
    have sl := Pm.shP_len (l.take k)
    have tl : (l.take k).length = k := by rw [List.length_take]; have := HN.out; omega
    obtain ⟨ao, cp, hv⟩ := own_len hO.out
    subst hv
    by_cases hlt : k < n
    · obtain ⟨r0, r1⟩ := (HP.out.on hB.out hg).2 k (by have := HN.out; omega)
      have SN := hid (show Pm.shP (l.take (k + 1)) = Pm.shP (l.take k) ++ [if k = 0 then 77 else 76] ++ Pm.ptL (l.getD k (0, 0)) by rw [take_snocY l k (0, 0) (by have := HN.out; omega), Pm.shP_snoc, tl])
      have pl := Pm.ptL_len (l.getD k (0, 0))
      obtain ⟨x, y, hxy, hx, hy⟩ := pt_nat (HS.out.at k)
      rw [hxy] at r0 r1 SN pl
      dsimp only at r0 r1
      have PT := hid (pointText_any x y hx hy)
      obtain ⟨t, ht⟩ : ∃ t, t = Pm.ptL ((x : Int), (y : Int)) := ⟨_, rfl⟩
      rw [← ht] at PT SN pl
      obtain ⟨b, hb⟩ : ∃ b, b = Pm.shP (l.take k) := ⟨_, rfl⟩
      rw [← hb] at SN hO sl ⊢
      have k0' : (0 : Int) ≤ (k : Nat) := by omega
      have k1' : ((k : Nat) : Int) < (n : Nat) := by omega
      clear hxy ht hb
      go_wp2_with fail
      refine (PT.out _).mono ?_
      rintro e w2 ⟨rfl, hb2⟩
      have B2 := hid (show Below w.heap.size w w2 from hB.out.trans (hb2.mono hz))
      have O2 := hid (own_below hO.out hb2)
      have s2 := B2.out.size
      have m1 : b.length + 1 ≤ maxLen := by unfold maxLen; omega
      have m2 : (b.length + 1) * 1 ≤ 140737488355328 := by omega
      clear hb2 r0 r1
      go_wp2_with (first
        | (at_builtin; refine wpList_append_own _ rfl _ _ 44 rfl w.heap.size 5 i0 (.int .u8 0) 1 1 Tryd.underlying44 hi hz0 hz1 hz2 rfl (by decide) _ _ _ rfl (O2.out.alloc _) ⟨_, 0, none⟩ 1 1 [.int .u8 c] rfl rfl (cell_one_new _ _ _) (by intro u hu; simp at hu; subst hu; rfl) m1 m2 (by simp; omega) ?_))
      intro v3 w3 o3 g3 _
      have B3 := hid (show Below w.heap.size w w3 from (B2.out.alloc s2 _).grown g3 (by simp; omega) (fun k hk => (O2.out.lt k hk).1))
      have O3 := hid o3
      have s3 := B3.out.size
      obtain ⟨ao3, cp3, hv3⟩ := own_len O3.out
      subst hv3
      have ts : (⟨t.toArray⟩ : ByteArray).size = t.length := by simp [ByteArray.size]
      have m3 : b.length + 1 + (⟨t.toArray⟩ : ByteArray).size ≤ maxLen := by rw [ts]; unfold maxLen; omega
      have m4 : b.length + 1 + (⟨t.toArray⟩ : ByteArray).size ≤ 140737488355328 := by rw [ts]; omega
      clear o3 g3
      go_wp2_with (first
        | (refine Go.Lib.wpList_append_own_string _ rfl _ _ 44 9 rfl w.heap.size 5 i0 Tryd.underlying44 Tryd.underlying9 hi hz0 hz1 hz2 _ _ _ rfl O3.out ⟨t.toArray⟩ rfl m3 m4 s3 ?_))
      intro v4 w4 o4 g4 _
      have B4 := hid (show Below w.heap.size w w4 from B3.out.grown g4 s3 (fun k hk => (O3.out.lt k hk).1))
      have O4 := hid (show w4.ownsRow w.heap.size 5 1 v4 (Pm.shP (l.take (k + 1))).length (cellsOf (Pm.shP (l.take (k + 1)))) by
        have e1 : (Pm.shP (l.take (k + 1))).length = b.length + 1 + t.length := by rw [SN.out]; simp only [List.length_append, List.length_cons, List.length_nil]
        have e2 : cellsOf (Pm.shP (l.take (k + 1))) = cellsOf b ++ Value.int .u8 c :: Go.Lib.strCells ⟨t.toArray⟩ := by rw [SN.out]; simp [cellsOf, Go.Lib.strCells, HC.out]
        rw [e1, e2]; exact o4)
      clear o4 g4
      go_wp2
      go_roundw
      case rel => exact ⟨k + 1, 76, by omega, by go_num, rfl, rfl, by omega, O4, B4⟩
      case measure => simp [intOf]; omega
    · have ek : k = n := by omega
      subst ek
      have hk' : ¬ (k : Int) < (k : Nat) := by omega
      have EL := hid (show Pm.shL l = Pm.shP (l.take k) ++ [122] by rw [List.take_of_length_le (by have := HN.out; omega)]; rfl)
      obtain ⟨b, hb⟩ : ∃ b, b = Pm.shP (l.take k) := ⟨_, rfl⟩
      rw [← hb] at EL hO sl ⊢
      have m1 : b.length + 1 ≤ maxLen := by unfold maxLen; omega
      have m2 : (b.length + 1) * 1 ≤ 140737488355328 := by omega
      clear hb
      go_wp2_with (first
        | (at_builtin; refine wpList_append_own _ rfl _ _ 44 rfl w.heap.size 5 i0 (.int .u8 0) 1 1 Tryd.underlying44 hi hz0 hz1 hz2 rfl (by decide) _ _ _ rfl (hO.out.alloc _) ⟨_, 0, none⟩ 1 1 [.int .u8 122] rfl rfl (cell_one_new _ _ _) (by intro u hu; simp at hu; subst hu; rfl) m1 m2 (by simp; omega) ?_))
      intro v3 w3 o3 g3 _
      have B3 := hid (show Below w.heap.size w w3 from (hB.out.alloc hz _).grown g3 (by simp; omega) (fun k hk => (hO.out.lt k hk).1))
      obtain ⟨b2, hb2⟩ : ∃ b2, b2 = Pm.shL l := ⟨_, rfl⟩
      have BE := hid hb2
      have hown : w3.ownsRow w.heap.size 5 1 v3 b2.length (cellsOf b2) := by
        rw [hb2, EL.out]; simpa [cellsOf] using o3
      have bp : 0 < b2.length := by rw [hb2, EL.out]; simp
      clear o3 g3 hb2
      rcases hown.2 with ⟨-, h0⟩ | ⟨g', cap', cur, rfl, -, -, -, -, -, -⟩
      · omega
      · have hcv := run_convert_bytes_back (P := Tryd.prog) w3 44 9 5 ⟨g', 0, none⟩ cap' b2 Tryd.underlying44 Tryd.underlying5 Tryd.underlying9 (fun j hj => hown.cells (g := g') rfl j _ (by simp [cellsOf, hj]))
        clear hown
        go_wp2
        go_ret
        exact ⟨ret_string (by rw [BE.out]), B3.out⟩

end Go.Proofs.YtljfiefobnncaabDoor
