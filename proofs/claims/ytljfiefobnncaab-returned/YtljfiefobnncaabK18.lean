import Derived.Test.YtljfiefobnncaabK16
import Derived.Test.YtljfiefobnncaabK17

/- Package polygons: bestRows. -/
namespace Go.Proofs.Ytljfiefobnncaab
open Go.RowKit

namespace Qm
theorem accR_in {l : List Pt} {B : List Rw} (hs : Small l) {M C : Int} (hM : 0 ≤ M) (hC : 0 ≤ C) (h : ∀ j, 0 ≤ (B.getD j (0, 0, 0)).1 ∧ (B.getD j (0, 0, 0)).1 ≤ M ∧ 0 ≤ (B.getD j (0, 0, 0)).2.1 ∧ (B.getD j (0, 0, 0)).2.1 ≤ C) : ∀ k, k ≤ 12 → 0 ≤ (accR l B k).1 ∧ (accR l B k).1 ≤ M + 1 ∧ 0 ≤ (accR l B k).2.1 ∧ (accR l B k).2.1 ≤ C + 28672
  | 0, _ => by simp only [accR]; omega
  | k + 1, hk => by
    have ih := accR_in hs hM hC h k (by omega)
    have hB := h (B.length - (k + 1))
    have c := costOf_in (hs.take (k + 2))
    have ln : ((l.take (k + 2)).length : Int) ≤ 14 := by rw [List.length_take]; omega
    simp only [accR]
    split
    · dsimp only; omega
    · exact ih
theorem rowsTo_in {v : List Pt} (hs : Small v) (m : Nat) : ∀ j, 0 ≤ ((rowsTo v m).getD j (0, 0, 0)).1 ∧ ((rowsTo v m).getD j (0, 0, 0)).1 ≤ m ∧ 0 ≤ ((rowsTo v m).getD j (0, 0, 0)).2.1 ∧ ((rowsTo v m).getD j (0, 0, 0)).2.1 ≤ 28672 * m := by
  induction m with
  | zero => intro j; simp [rowsTo]
  | succ m ih =>
    intro j
    have a := accR_in (hs.drop (v.length - 1 - m)) (by omega) (by omega) ih (spn (m + 1) m) (by unfold spn; omega)
    have ij := ih j
    simp only [rowsTo, List.getD_eq_getElem?_getD, List.getElem?_append, rowsTo_len] at ij ⊢
    split
    · omega
    · cases hjm : j - m with
      | zero => simp only [List.getElem?_cons_zero, Option.getD_some]; omega
      | succ q => simp; omega
end Qm

def rwL (r : Qm.Rw) : List Value := [.int .i64 r.1, .int .i64 r.2.1, .int .i64 r.2.2]
def rwsV (B : List Qm.Rw) : List Value := B.flatMap rwL
theorem rwsV_snoc (B : List Qm.Rw) (r : Qm.Rw) : rwsV (B ++ [r]) = rwsV B ++ rwL r := by simp [rwsV]
theorem rwsV_at (B : List Qm.Rw) : ∀ j, j < B.length → (rwsV B)[j * 3]? = some (.int .i64 (B.getD j (0, 0, 0)).1) ∧ (rwsV B)[j * 3 + 1]? = some (.int .i64 (B.getD j (0, 0, 0)).2.1) ∧ (rwsV B)[j * 3 + 2]? = some (.int .i64 (B.getD j (0, 0, 0)).2.2) := by
  induction B with
  | nil => intro j hj; simp at hj
  | cons p B ih =>
    intro j hj
    have e : rwsV (p :: B) = .int .i64 p.1 :: .int .i64 p.2.1 :: .int .i64 p.2.2 :: rwsV B := by simp [rwsV, rwL]
    cases j with
    | zero => rw [e]; simp
    | succ j =>
      have := ih j (by simpa using hj)
      rw [e, show (j + 1) * 3 = j * 3 + 1 + 1 + 1 from by omega, show j * 3 + 1 + 1 + 1 + 1 = (j * 3 + 1) + 1 + 1 + 1 from by omega, show j * 3 + 1 + 1 + 1 + 2 = (j * 3 + 2) + 1 + 1 + 1 from by omega]
      simpa using this
theorem own_rows {w : World} {b : Nat} {t : TypeId} {v : Value} {B : List Qm.Rw} {n : Nat} (h : w.ownsRow b t 3 v n (rwsV B)) : ∃ ao cap, v = .slice ao n cap ∧ (n = 0 ∨ ∃ gb, ao = some ⟨gb, 0, none⟩ ∧ RowsAt gb B w) := by
  rcases h.2 with ⟨rfl, h0⟩ | ⟨g, cap, cur, rfl, hb, hg, _, _, _, _⟩
  · subst h0; exact ⟨_, _, rfl, .inl rfl⟩
  · refine ⟨_, cap, rfl, .inr ⟨g, rfl, (Array.getElem?_eq_some_iff.1 hg).1, fun j hj => ?_⟩⟩
    have c := fun j u hu => h.cells (g := g) rfl j u hu
    have p := rwsV_at B j hj
    have a1 := c _ _ p.1
    have a2 := c _ _ p.2.1
    have a3 := c _ _ p.2.2
    rw [add_zero_at] at a1 a2 a3
    exact ⟨a1, a2, a3⟩
theorem three_cells (w : World) (a b c : Int) (t : TypeId) : ∀ (j : Nat) (u : Value), [Value.int .i64 a, .int .i64 b, .int .i64 c][j]? = some u → (w.alloc (.cells #[.int .i64 a, .int .i64 b, .int .i64 c] t)).cell? ((⟨w.heap.size, 0, none⟩ : Addr).add j) = some u := by
  intro j u hj
  match j, hj with
  | 0, hj => simp at hj; subst hj; simp [Addr.add]
  | 1, hj => simp at hj; subst hj; simp [Addr.add]
  | 2, hj => simp at hj; subst hj; simp [Addr.add]
theorem three_at (B : Nat) (w : World) (a b c : Int) (t : TypeId) (hB : B = w.heap.size) : ∀ (j : Nat) (u : Value), [Value.int .i64 a, .int .i64 b, .int .i64 c][j]? = some u → (w.alloc (.cells #[.int .i64 a, .int .i64 b, .int .i64 c] t)).cell? ((⟨B, 0, none⟩ : Addr).add j) = some u := by
  subst hB; exact three_cells w a b c t
theorem three_one (a b c : Int) : ∀ u ∈ [Value.int .i64 a, .int .i64 b, .int .i64 c], u.oneCell' = true := by
  intro u hu; simp at hu; rcases hu with rfl | rfl | rfl <;> rfl
theorem own_cap' {w : World} {b : Nat} {t : TypeId} {z : Nat} {v : Value} {n : Nat} {xs : List Value} (h : w.ownsRow b t z v n xs) : ∃ ao cap, v = .slice ao n cap ∧ n ≤ cap := by
  rcases h.2 with ⟨rfl, rfl⟩ | ⟨g, cap, cur, rfl, _, _, h1, _⟩
  · exact ⟨_, _, rfl, Nat.le_refl _⟩
  · exact ⟨_, _, rfl, h1⟩
theorem infoRow : (Try.prog.info? 65).map (fun i => (i.zero, i.size, i.bytes)) = some (some (.agg #[.int .i64 0, .int .i64 0, .int .i64 0]), 3, 24) := by kernel_rfl

set_option maxRecDepth 4000 in
set_option maxHeartbeats 2000000 in
theorem bestRows_any (g N cap : Nat) (v : List (Int × Int)) (hn : N = v.length) (h0 : 0 < N) (hcap : N ≤ cap) (hs : Qm.Small v) (hn2 : N ≤ 4357) (w : World) (hP : PtsAt g v w) :
    Calls Try.prog 29 #[.slice (some ⟨g, 0, none⟩) N cap] w fun e w' => ∃ vr, e = .returned vr ∧ w'.ownsRow w.heap.size 65 3 vr N (rwsV (Qm.rowsTo v N)) ∧ Below w.heap.size w w' := by
  obtain ⟨i0, hi, hz0, hz1, hz2⟩ := info_parts infoRow
  have HP := hid hP
  have hg := hP.1
  have HN := hid hn
  have HS := hid hs
  clear hP hn hs
  go_enter Try.func29, Try.ntmps29
  go_wp2_with fail
  go_loopw [3, 4] (fun vr iv wr => ∃ m : Nat, m ≤ N ∧ iv = .int .i64 ((N : Int) - 1 - (m : Nat)) ∧ wr.ownsRow w.heap.size 65 3 vr m (rwsV (Qm.rowsTo v m)) ∧ Below w.heap.size w wr) (fun _ i _ => (intOf i + 1).toNat)
  case atStart => exact ⟨0, by omega, by go_num, World.ownsRow_nil _ _ _ _, Below.refl _ _⟩
  case round =>
    obtain ⟨m, hm, rfl, hown, hb⟩ := hrel
    have HB := hid hb
    have OW := hid hown
    have hz := hb.size
    by_cases hlt : m < N
    · obtain ⟨q, hq⟩ : ∃ q, q = N - 1 - m := ⟨_, rfl⟩
      have e1 : (N : Int) - 1 - (m : Nat) = (q : Nat) := by omega
      have e2 : (0 : Int) ≤ (q : Nat) := by omega
      have e3 : (q : Int) ≤ (N : Nat) := by omega
      have e4 : q ≤ cap := by omega
      have e5 : q ≤ N := by omega
      have e6 : N - q = m + 1 := by omega
      obtain ⟨ao, capb, rfl, hrow⟩ := own_rows hown
      have BRH := hid (show ∀ W', Below w.heap.size w W' → (m = 0 ∨ ∃ gb, ao = some ⟨gb, 0, none⟩ ∧ RowsAt gb (Qm.rowsTo v m) W') → Calls Try.prog 34 #[.slice (some ⟨g, q * 2, none⟩) (m + 1) (cap - q), .slice ao m capb] W' fun e w' => e = .returned (rwV (Qm.accR (v.drop q) (Qm.rowsTo v m) (Qm.spn (m + 1) m))) ∧ Below W'.heap.size W' w' from fun W' h hr => by
        have p := ((HP.out.o).on h hg).drop q
        rw [Nat.zero_add] at p
        exact bestRow_any g (q * 2) (m + 1) (cap - q) (v.drop q) (by rw [List.length_drop, ← HN.out]; omega) (by omega) (by omega) (HS.out.drop q) (by omega) ao m capb (Qm.rowsTo v m) (Qm.rowsTo_len v m).symm (by omega) W' p hr (fun j => by have := Qm.rowsTo_in HS.out m j; omega))
      have RT := hid (show Qm.rowsTo v (m + 1) = Qm.rowsTo v m ++ [Qm.accR (v.drop q) (Qm.rowsTo v m) (Qm.spn (m + 1) m)] by rw [hq, HN.out]; rfl)
      obtain ⟨⟨ra, rb, rc⟩, hrr⟩ : ∃ r, r = Qm.accR (v.drop q) (Qm.rowsTo v m) (Qm.spn (m + 1) m) := ⟨_, rfl⟩
      rw [← hrr] at BRH RT
      have HRW := hid hrow
      have HQ := hid hq
      unfold rwV at BRH
      dsimp only at BRH
      clear hb hown hrr hrow hq
      rw [e1]
      go_wp2_with fail
      refine (BRH.out _ HB.out HRW.out).mono ?_
      rintro e w1 ⟨rfl, hb1⟩
      have B1 := hid (show Below w.heap.size w w1 from HB.out.trans (hb1.mono hz))
      have O1 := hid (own_below OW.out hb1)
      have z1 := B1.out.size
      clear hb1
      have n1 : m + 1 ≤ maxLen := by unfold maxLen; omega
      have n2 : (m + 1) * 24 ≤ 140737488355328 := by omega
      have n3 : w.heap.size ≤ ((w1.alloc (.cells #[.int .i64 ra, .int .i64 rb, .int .i64 rc] 65)).alloc (.cells #[.int .i64 ra, .int .i64 rb, .int .i64 rc] 65)).heap.size := by simp; omega
      go_wp2_with (first
        | (at_builtin; refine wpList_append_own _ rfl _ _ 62 rfl w.heap.size 65 i0 (.agg #[.int .i64 0, .int .i64 0, .int .i64 0]) 3 24 Try.underlying62 hi hz0 hz1 hz2 rfl (by decide) _ _ _ rfl ((O1.out.alloc _).alloc _) ⟨_, 0, none⟩ 1 1 [.int .i64 ra, .int .i64 rb, .int .i64 rc] rfl rfl (three_at _ _ _ _ _ _ (by simp)) (three_one _ _ _) n1 n2 n3 ?_))
      intro v' w3 o3 g3 _
      have B3 := hid (show Below w.heap.size w w3 from ((B1.out.alloc z1 _).alloc (by simp; omega) _).grown g3 n3 (fun q hq => (O1.out.lt q hq).1))
      have O3 := hid (show w3.ownsRow w.heap.size 65 3 v' (m + 1) (rwsV (Qm.rowsTo v (m + 1))) by rw [RT.out, rwsV_snoc]; exact o3)
      clear o3 g3
      go_wp2
      go_roundw
      case rel => exact ⟨m + 1, by omega, by have := HQ.out; go_num, O3.out, B3.out⟩
      case measure => simp [intOf]
    · have em : m = N := by omega
      have e1 : (N : Int) - 1 - (m : Nat) = -1 := by omega
      subst em
      rw [e1]
      go_wp2
      go_ret
      exact ⟨_, rfl, OW.out, HB.out⟩
end Go.Proofs.Ytljfiefobnncaab

/- Package polygons: corners. -/
namespace Go.Proofs.Ytljfiefobnncaab
open Go.RowKit

namespace Qm
theorem accR_span (l : List Pt) (B : List Rw) : ∀ k, 0 ≤ (accR l B k).2.2 ∧ (accR l B k).2.2 ≤ k
  | 0 => by simp [accR]
  | k + 1 => by
    have ih := accR_span l B k
    simp only [accR]
    split
    · dsimp only; omega
    · omega
theorem rowsTo_span (v : List Pt) (m : Nat) : ∀ j, 0 ≤ ((rowsTo v m).getD j (0, 0, 0)).2.2 ∧ ((rowsTo v m).getD j (0, 0, 0)).2.2 ≤ 12 := by
  induction m with
  | zero => intro j; simp [rowsTo]
  | succ m ih =>
    intro j
    have a := accR_span (v.drop (v.length - 1 - m)) (rowsTo v m) (spn (m + 1) m)
    have b : spn (m + 1) m ≤ 12 := by unfold spn; omega
    have ij := ih j
    simp only [rowsTo, List.getD_eq_getElem?_getD, List.getElem?_append, rowsTo_len] at ij ⊢
    split
    · omega
    · cases hjm : j - m with
      | zero => simp only [List.getElem?_cons_zero, Option.getD_some]; omega
      | succ q => simp
theorem cornTo_in {B : List Rw} (h : ∀ j, 0 ≤ (B.getD j (0, 0, 0)).2.2 ∧ (B.getD j (0, 0, 0)).2.2 ≤ 12) : ∀ k, 0 ≤ (cornTo B k).2 ∧ (cornTo B k).2 ≤ k + 12 ∧ (cornTo B k).1.length ≤ k
  | 0 => by simp [cornTo]
  | k + 1 => by
    have ih := cornTo_in h k
    have s := h (B.length - 1 - k)
    simp only [cornTo]
    split
    · simp only [List.length_append, List.length_singleton]; omega
    · omega
end Qm

def cpts (c : List (Int × Int)) (I : List Nat) : List (Int × Int) := I.map fun i => c.getD i (0, 0)
theorem cpts_snoc (c : List (Int × Int)) (I : List Nat) (k : Nat) : cpts c (I ++ [k]) = cpts c I ++ [c.getD k (0, 0)] := by simp [cpts]

set_option maxRecDepth 4000 in
set_option maxHeartbeats 2000000 in
theorem corners_any (g n cap : Nat) (c : List (Int × Int)) (hn : n = c.length) (h0 : 0 < n) (hs : Qm.Small c) (hn2 : n ≤ 4356) (w : World) (hP : PtsAt g c w) :
    Calls Try.prog 19 #[.slice (some ⟨g, 0, none⟩) n cap] w fun e w' => ∃ v, e = .returned v ∧ w'.ownsRow w.heap.size 43 2 v (Qm.cornL c).length (Qm.ptsV (Qm.cornL c)) ∧ Below w.heap.size w w' := by
  obtain ⟨i0, hi, hz0, hz1, hz2⟩ := info_parts infoPoint
  have HP := hid hP
  have hg := hP.1
  have HN := hid hn
  have HS := hid hs
  have HV := hid (show Qm.Small (c ++ [Qm.fstP c]) from fun p hp => by
    rcases List.mem_append.1 hp with hp | hp
    · exact hs p hp
    · rw [List.mem_singleton.1 hp]; exact hs.at 0)
  have VL := hid (show n + 1 = (c ++ [Qm.fstP c]).length by simp [hn])
  clear hP hn hs
  go_enter Try.func19, Try.ntmps19
  go_wp2_with fail
  refine (closed_any g n cap c HN.out h0 hn2 _ HP.out).mono ?_
  rintro e w1 ⟨v1, rfl, o1, hb1⟩
  have B1 := hid (show Below w.heap.size w w1 from hb1)
  obtain ⟨g1, cap1, rfl, hg1, hp1, -⟩ := own_at o1 (by omega)
  obtain ⟨ao', cap', e', hc'⟩ := own_cap' o1
  have hc1 : n + 1 ≤ cap1 := by injection e' with _ _ e3; omega
  have HP1 := hid hp1
  clear o1 hb1 hp1 e' hc'
  go_wp2_with fail
  refine (bestRows_any g1 (n + 1) cap1 (c ++ [Qm.fstP c]) VL.out (by omega) hc1 HV.out (by omega) _ HP1.out).mono ?_
  rintro e w2 ⟨v2, rfl, o2, hb2⟩
  have B2 := hid (show Below w.heap.size w w2 from B1.out.trans (hb2.mono B1.out.size))
  obtain ⟨ao2, cap2, rfl, hr2⟩ := own_rows o2
  obtain ⟨gb, hgb⟩ := hr2.resolve_left (by omega)
  obtain ⟨rfl, hrows⟩ := hgb
  have HR := hid hrows
  have hgb2 := hrows.1
  have HP2 := hid (HP.out.on B2.out hg)
  have hg2 : g < w2.heap.size := Nat.lt_of_lt_of_le hg B2.out.size
  obtain ⟨B, hB⟩ : ∃ B, B = Qm.rowsTo (c ++ [Qm.fstP c]) (n + 1) := ⟨_, rfl⟩
  have BL := hid (show B.length = n + 1 by rw [hB, Qm.rowsTo_len])
  have CI := hid (show ∀ k, 0 ≤ (Qm.cornTo B k).2 ∧ (Qm.cornTo B k).2 ≤ k + 12 ∧ (Qm.cornTo B k).1.length ≤ k from fun k => Qm.cornTo_in (by rw [hB]; exact Qm.rowsTo_span _ _) k)
  have SB := hid (show ∀ j, 0 ≤ (B.getD j (0, 0, 0)).2.2 ∧ (B.getD j (0, 0, 0)).2.2 ≤ 12 by rw [hB]; exact Qm.rowsTo_span _ _)
  have CL := hid (show Qm.cornL c = cpts c (Qm.cornTo B n).1 by rw [hB, HN.out]; rfl)
  rw [← hB] at HR
  clear o2 hb2 hr2 hrows hB
  go_wp2_with fail
  go_loopw [5, 6, 7] (fun lv nv iv wr => ∃ k : Nat, k ≤ n ∧ iv = .int .i64 k ∧ nv = .int .i64 (Qm.cornTo B k).2 ∧ wr.ownsRow w2.heap.size 43 2 lv (Qm.cornTo B k).1.length (Qm.ptsV (cpts c (Qm.cornTo B k).1)) ∧ Below w2.heap.size w2 wr) (fun _ _ i _ => n - (intOf i).toNat)
  case atStart => exact ⟨0, by omega, rfl, rfl, World.ownsRow_nil _ _ _ _, Below.refl _ _⟩
  case round =>
    obtain ⟨k, hk, rfl, rfl, hown, hb⟩ := hrel
    have HB := hid hb
    have OW := hid hown
    have hz := hb.size
    have ci := CI.out k
    by_cases hlt : k < n
    · obtain ⟨r0, r1⟩ := (HP2.out.on hb hg2).2 k (by have := HN.out; omega)
      obtain ⟨s0, s1, s2⟩ := (HR.out.on hb hgb2).2 (n - k) (by have := BL.out; omega)
      have sb := SB.out (n - k)
      have hlt' : (k : Int) < (n : Nat) := by omega
      have hlt2 : (k : Int) < (n : Int) + 1 := by omega
      have CT := hid (show Qm.cornTo B (k + 1) = if (k : Int) = (Qm.cornTo B k).2 then ((Qm.cornTo B k).1 ++ [k], (k : Int) + (B.getD (n - k) (0, 0, 0)).2.2) else Qm.cornTo B k by
        have : B.length - 1 - k = n - k := by have := BL.out; omega
        rw [← this]; rfl)
      obtain ⟨sp, hsp⟩ : ∃ sp, sp = (B.getD (n - k) (0, 0, 0)).2.2 := ⟨_, rfl⟩
      rw [← hsp] at s2 sb CT
      obtain ⟨I, nx, hct⟩ : ∃ I nx, Qm.cornTo B k = (I, nx) := ⟨_, _, rfl⟩
      rw [hct] at ci CT OW ⊢
      dsimp only at ci CT OW ⊢
      obtain ⟨q, hq⟩ : ∃ q, q = n - k := ⟨_, rfl⟩
      rw [← hq] at s0 s1 s2
      have q1 : (n : Int) + 1 - 1 - (k : Nat) = (q : Nat) := by omega
      have q1' : (n : Int) - (k : Nat) = (q : Nat) := by omega
      have q2 : (0 : Int) ≤ (q : Nat) := by omega
      have q3 : (q : Int) < (n : Int) + 1 := by omega
      have q4 : q < n + 1 := by omega
      have q5 : IntKind.i64.wrap ((q : Nat) : Int) = (q : Nat) := by rw [IntKind.wrap_i64]; omega
      obtain ⟨⟨pa, pb⟩, hpp⟩ : ∃ p, p = c.getD k (0, 0) := ⟨_, rfl⟩
      have CP := hid (cpts_snoc c I k)
      rw [← hpp] at r0 r1 CP
      dsimp only at r0 r1
      have hgr : g < wr.heap.size := by omega
      have hgbr : gb < wr.heap.size := by omega
      have n1 : I.length + 1 ≤ maxLen := by unfold maxLen; omega
      have n2 : (I.length + 1) * 16 ≤ 140737488355328 := by omega
      have n3 : w2.heap.size ≤ (wr.alloc (.cells #[.int .i64 pa, .int .i64 pb] 43)).heap.size := by simp; omega
      have HQ := hid hq
      have HSP := hid hsp
      clear hb hpp hown hct hq hsp
      by_cases he : (k : Int) = nx
      · rw [if_pos he] at CT
        have de : ((k : Int) == nx) = true := by simpa using he
        have HE := hid he
        clear he
        go_wp2_with (first
          | (at_builtin; refine wpList_append_own _ rfl _ _ 37 rfl w2.heap.size 43 i0 (.agg #[.int .i64 0, .int .i64 0]) 2 16 Try.underlying37 hi hz0 hz1 hz2 rfl (by decide) _ _ _ rfl (OW.out.alloc _) ⟨_, 0, none⟩ 1 1 [.int .i64 pa, .int .i64 pb] rfl rfl (two_cells _ _ _ _) (two_one _ _) n1 n2 n3 ?_))
        intro v' w3 o3 g3 _
        have b3 : Below w2.heap.size w2 w3 := (HB.out.alloc hz _).grown g3 n3 (fun q hq => (OW.out.lt q hq).1)
        have B3 := hid b3
        obtain ⟨t0, t1, t2⟩ := (HR.out.on b3 hgb2).2 q (by have := BL.out; omega)
        rw [HQ.out, ← HSP.out] at t2
        rw [← HQ.out] at t2
        have O3 := hid (show w3.ownsRow w2.heap.size 43 2 v' (I ++ [k]).length (Qm.ptsV (cpts c (I ++ [k]))) by rw [CP.out, Qm.ptsV_snoc, List.length_append]; exact o3)
        clear o3 g3 b3 r0 r1 s0 s1 s2
        go_wp2
        go_roundw
        case rel => exact ⟨k + 1, by omega, by go_num, by rw [CT.out], by rw [CT.out]; exact O3.out, B3.out⟩
        case measure => simp [intOf]; omega
      · rw [if_neg he] at CT
        have de : ((k : Int) == nx) = false := by simpa using he
        go_wp2
        go_roundw
        case rel => exact ⟨k + 1, by omega, by go_num, by rw [CT.out], by rw [CT.out]; exact OW.out, HB.out⟩
        case measure => simp [intOf]; omega
    · have ek : k = n := by omega
      subst ek
      have hlt' : ¬ (k : Int) < (k : Nat) := by omega
      have OL := hid (show wr.ownsRow w2.heap.size 43 2 _ (Qm.cornL c).length (Qm.ptsV (Qm.cornL c)) by rw [CL.out]; simp only [cpts, List.length_map]; exact hown)
      clear hown OW
      go_wp2
      go_ret
      exact ⟨_, rfl, OL.out.mono B2.out.size, B2.out.trans (HB.out.mono B2.out.size)⟩
end Go.Proofs.Ytljfiefobnncaab
