import Derived.Test.YtljfiefobnncaabGreatDoorK04
import Derived.Test.YtljfiefobnncaabGreatDoorK01
import Derived.Deep.WholeRow
import Derived.Great.BuildSlice
import Derived.Maps.AppendAt
import Derived.Great.Walk
import Derived.OwnWalk

/- shape.Twice, cycles.mayBe. -/
namespace Go.Proofs.YtljfiefobnncaabGreatDoor
open Go.RowKit

/-- The points of a row stand at block g. -/
def PtsAt (g : Nat) (l : List (Int × Int)) (w : World) : Prop := g < w.heap.size ∧ ∀ j, j < l.length → w.cell? ⟨g, j * 2, none⟩ = some (.int .i64 (l.getD j (0, 0)).1) ∧ w.cell? ⟨g, j * 2 + 1, none⟩ = some (.int .i64 (l.getD j (0, 0)).2)
theorem PtsAt.on {g : Nat} {l : List (Int × Int)} {w w' : World} {B : Nat} (h : PtsAt g l w) (hb : Below B w w') (hg : g < B) : PtsAt g l w' :=
  ⟨Nat.lt_of_lt_of_le h.1 hb.size, fun j hj => ⟨(hb.cell (p := ⟨g, j * 2, none⟩) hg).trans (h.2 j hj).1, (hb.cell (p := ⟨g, j * 2 + 1, none⟩) hg).trans (h.2 j hj).2⟩⟩
theorem ptsV_at (l : List (Int × Int)) : ∀ j, j < l.length → (Qm.ptsV l)[j * 2]? = some (.int .i64 (l.getD j (0, 0)).1) ∧ (Qm.ptsV l)[j * 2 + 1]? = some (.int .i64 (l.getD j (0, 0)).2) := by
  induction l with
  | nil => intro j hj; simp at hj
  | cons p l ih =>
    intro j hj
    cases j with
    | zero => simp [Qm.ptsV, Qm.ptV]
    | succ j =>
      have := ih j (by simpa using hj)
      have e : Qm.ptsV (p :: l) = .int .i64 p.1 :: .int .i64 p.2 :: Qm.ptsV l := by simp [Qm.ptsV, Qm.ptV]
      rw [e, show (j + 1) * 2 = j * 2 + 1 + 1 from by omega, show j * 2 + 1 + 1 + 1 = (j * 2 + 1) + 1 + 1 from by omega]
      simpa using this
theorem add_zero_at (g j : Nat) : (⟨g, 0, none⟩ : Addr).add j = ⟨g, j, none⟩ := by unfold Addr.add; split <;> simp_all
/-- A row that is owned and not empty stands at its block. -/
theorem own_at {w : World} {b : Nat} {t : TypeId} {v : Value} {l : List (Int × Int)} {n : Nat} (h : w.ownsRow b t 2 v n (Qm.ptsV l)) (hn : 0 < n) : ∃ g cap, v = .slice (some ⟨g, 0, none⟩) n cap ∧ b ≤ g ∧ PtsAt g l w ∧ n = l.length := by
  have hl := h.1
  rw [Qm.ptsV_len] at hl
  rcases h.2 with ⟨_, h0⟩ | ⟨g, cap, cur, rfl, hb, hg, _, _, _, _⟩
  · omega
  · refine ⟨g, cap, rfl, hb, ⟨(Array.getElem?_eq_some_iff.1 hg).1, fun j hj => ?_⟩, by omega⟩
    have c := fun j u hu => h.cells (g := g) rfl j u hu
    have p := ptsV_at l j hj
    have a1 := c _ _ p.1
    have a2 := c _ _ p.2
    rw [add_zero_at] at a1 a2
    exact ⟨a1, a2⟩

/-- A point's box at block B. -/
def BoxP (B : Nat) (p : Int × Int) (w : World) : Prop := w.cell? ⟨B, 0, none⟩ = some (.int .i64 p.1) ∧ w.cell? ⟨B, 1, none⟩ = some (.int .i64 p.2) ∧ w.frozen? ⟨B, 0, none⟩ = false ∧ w.frozen? ⟨B, 1, none⟩ = false ∧ B < w.heap.size

set_option maxRecDepth 4000 in
set_option maxHeartbeats 2000000 in
theorem twice_big (g n cap : Nat) (l : List (Int × Int)) (hn : n = l.length) (h0 : 0 < n) (hs : Qm.Small l) (hn2 : n ≤ 140737488355328) (w : World) (hP : PtsAt g l w) :
    Calls Tryz.prog 70 #[.slice (some ⟨g, 0, none⟩) n cap] w fun e w' => e = .returned (.int .i64 (Qm.twiceOf l)) ∧ Below w.heap.size w w' := by
  have HP := hid hP
  have hg := hP.1
  have HN := hid hn
  obtain ⟨q0, q1⟩ := hP.2 (n - 1) (by omega)
  obtain ⟨n1, hn1⟩ : ∃ n1, n = n1 + 1 := ⟨n - 1, by omega⟩
  subst hn1
  have p0 := Qm.pr_zero l (by omega)
  rw [← hn] at p0
  simp only [Nat.add_sub_cancel] at q0 q1 p0
  rw [← p0] at q0 q1
  have e0 : ((n1 : Int) + 1 == 0) = false := by simp; omega
  clear hP hn p0
  go_enter Tryz.func70, Tryz.ntmps70
  go_wp2
  go_loopw [3, 5] (fun sm i wr => ∃ k : Nat, k ≤ n1 + 1 ∧ i = .int .i64 k ∧ sm = .int .i64 (Qm.tsum l k) ∧ BoxP w.heap.size (Qm.pr l k) wr ∧ Below w.heap.size w wr) (fun _ i _ => n1 + 1 - (intOf i).toNat)
  case atStart => exact ⟨0, by omega, rfl, rfl, ⟨by simp, by simp, by simp, by simp, by simp⟩, by go_grown⟩
  case round =>
    clear q0 q1 e0
    obtain ⟨k, hk, rfl, rfl, ⟨b0, b1, f0, f1, hz⟩, hb⟩ := hrel
    have HB := hid hb
    have ts := Qm.tsum_small hs k
    by_cases hlt : k < n1 + 1
    · obtain ⟨r0, r1⟩ := (HP.out.on hb hg).2 k (by have := HN.out; omega)
      have hlt' : (k : Int) < (n1 : Int) + 1 := by omega
      have sp := hs.at ((k + l.length - 1) % l.length)
      have sq := hs.at k
      have E1 := hid (Qm.pr_succ l k (by have := HN.out; omega))
      have m1 := Qm.mul_small sp.2.2.1 sp.2.2.2 sq.1 sq.2.1
      have m2 := Qm.mul_small sp.1 sp.2.1 sq.2.2.1 sq.2.2.2
      have E2 : Hid (Qm.tsum l (k + 1) = Qm.tsum l k + ((Qm.pr l k).2 * (l.getD k (0, 0)).1 - (Qm.pr l k).1 * (l.getD k (0, 0)).2)) := rfl
      change 0 ≤ (Qm.pr l k).1 ∧ (Qm.pr l k).1 ≤ 32 ∧ 0 ≤ (Qm.pr l k).2 ∧ (Qm.pr l k).2 ≤ 32 at sp
      change 0 ≤ (Qm.pr l k).2 * _ ∧ (Qm.pr l k).2 * _ ≤ 1024 at m1
      change 0 ≤ (Qm.pr l k).1 * _ ∧ (Qm.pr l k).1 * _ ≤ 1024 at m2
      obtain ⟨⟨pa, pb⟩, hpp⟩ : ∃ p, p = Qm.pr l k := ⟨_, rfl⟩
      obtain ⟨⟨qa, qb⟩, hqq⟩ : ∃ p, p = l.getD k (0, 0) := ⟨_, rfl⟩
      rw [← hpp] at b0 b1 m1 m2 sp E2
      rw [← hqq] at r0 r1 m1 m2 sq E1 E2
      dsimp only at b0 b1 r0 r1 m1 m2 sp sq
      obtain ⟨u, hu⟩ : ∃ u, pb * qa = u := ⟨_, rfl⟩
      obtain ⟨z, hzz⟩ : ∃ z, pa * qb = z := ⟨_, rfl⟩
      rw [hu] at m1
      rw [hzz] at m2
      clear hb hpp hqq
      go_wp2
      go_roundw
      case rel => exact ⟨k + 1, by omega, by go_num, by rw [E2.out]; dsimp only; rw [hu, hzz], by rw [E1.out]; exact ⟨by simp [go_sem, World.cell?_setCell_other, World.cell?_setCell_same', *], by simp [go_sem, World.cell?_setCell_other, World.cell?_setCell_same', *], by rw [frozen?_alloc_cells]; simpa using f0, by rw [frozen?_alloc_cells]; simpa using f1, by simp; omega⟩, ((HB.out.setCell (by simp) _).setCell (by simp) _).alloc (by simp; omega) _⟩
      case measure => simp [intOf]; omega
    · have ek : k = n1 + 1 := by omega
      subst ek
      go_wp2
      go_ret
      exact ⟨ret_int (by rw [HN.out]; exact Qm.tsum_all l (by have := HN.out; omega)), HB.out⟩

/-- May it be traced? -/
def mayB (W H : Int) (l : List UInt8) (pol spk : Int) : Bool := Pm.goodB W H l && decide (0 ≤ pol ∧ pol ≤ 3) && decide (0 ≤ spk ∧ spk ≤ 1024)
theorem mayB_pol {W H : Int} {l : List UInt8} {pol spk : Int} (h : ¬ (0 ≤ pol ∧ pol ≤ 3)) : mayB W H l pol spk = false := by unfold mayB; rw [decide_eq_false h]; simp
theorem mayB_spk {W H : Int} {l : List UInt8} {pol spk : Int} (h : ¬ (0 ≤ spk ∧ spk ≤ 1024)) : mayB W H l pol spk = false := by unfold mayB; rw [decide_eq_false h]; simp
theorem mayB_good {W H : Int} {l : List UInt8} {pol spk : Int} (h : 0 ≤ pol ∧ pol ≤ 3) (h2 : 0 ≤ spk ∧ spk ≤ 1024) : mayB W H l pol spk = Pm.goodB W H l := by unfold mayB; rw [decide_eq_true h, decide_eq_true h2]; simp

set_option maxRecDepth 4000 in
set_option maxHeartbeats 1000000 in
theorem mayBe_any (W H : Int) (s : ByteArray) (pol : Int) (draws : ByteArray) (spk : Int) (w : World) :
    Calls Tryz.prog 68 #[.agg #[.int .i64 W, .int .i64 H, .string s], .agg #[.int .i64 pol, .string draws, .int .i64 spk]] w fun e w' => e = .returned (.bool (mayB W H s.data.toList pol spk)) ∧ Below w.heap.size w w' := by
  by_cases p0 : pol < 0
  · have E := hid (mayB_pol (W := W) (H := H) (l := s.data.toList) (pol := pol) (spk := spk) (by omega))
    go_enter Tryz.func68, Tryz.ntmps68
    go_wp2
    go_ret
    exact ⟨ret_bool E.out.symm, by go_grown⟩
  by_cases p1 : 3 < pol
  · have E := hid (mayB_pol (W := W) (H := H) (l := s.data.toList) (pol := pol) (spk := spk) (by omega))
    go_enter Tryz.func68, Tryz.ntmps68
    go_wp2
    go_ret
    exact ⟨ret_bool E.out.symm, by go_grown⟩
  by_cases s0 : spk < 0
  · have E := hid (mayB_spk (W := W) (H := H) (l := s.data.toList) (pol := pol) (spk := spk) (by omega))
    go_enter Tryz.func68, Tryz.ntmps68
    go_wp2
    go_ret
    exact ⟨ret_bool E.out.symm, by go_grown⟩
  by_cases s1 : 1024 < spk
  · have E := hid (mayB_spk (W := W) (H := H) (l := s.data.toList) (pol := pol) (spk := spk) (by omega))
    go_enter Tryz.func68, Tryz.ntmps68
    go_wp2
    go_ret
    exact ⟨ret_bool E.out.symm, by go_grown⟩
  · have E := hid (mayB_good (W := W) (H := H) (l := s.data.toList) (pol := pol) (spk := spk) (by omega) (by omega))
    go_enter Tryz.func68, Tryz.ntmps68
    go_wp2_with (go_at_call 65; refine (isOne_any W H s _).mono ?_; rintro e w' ⟨rfl, rfl⟩)
    go_ret
    exact ⟨ret_bool E.out.symm, by go_grown⟩

theorem twice_any (g n cap : Nat) (l : List (Int × Int)) (hn : n = l.length) (h0 : 0 < n) (hs : Qm.Small l) (hn2 : n ≤ 4356) (w : World) (hP : PtsAt g l w) :
    Calls Tryz.prog 70 #[.slice (some ⟨g, 0, none⟩) n cap] w fun e w' => e = .returned (.int .i64 (Qm.twiceOf l)) ∧ Below w.heap.size w w' :=
  twice_big g n cap l hn h0 hs (by omega) w hP

end Go.Proofs.YtljfiefobnncaabGreatDoor

/- Find of package cycles: what holds in its loops. -/
namespace Go.Proofs.YtljfiefobnncaabGreatDoor
open Go.RowKit

/-- The cells of a walker. -/
def wkN (N : Nat) (a b c d e f : Value) : List Value := a :: b :: c :: d :: e :: f :: List.replicate N (.bool false)
abbrev wkL (a b c d e f : Value) : List Value := wkN 4356 a b c d e f
set_option maxRecDepth 100000 in
theorem infoWk : (Tryz.prog.info? 107).map (fun i => (i.zero, i.size)) = some (some (.agg ⟨wkL (.int .i64 0) (.int .i64 0) (.string ⟨#[]⟩) (.int .i64 0) (.string ⟨#[]⟩) (.int .i64 0)⟩), 4362) := by kernel_rfl
set_option maxRecDepth 100000 in
theorem builtWk (a b c d e f : Value) : Tryz.prog.built 107 [(0, .agg #[a, b, c]), (1, .agg #[d, e, f])] = some ⟨wkL a b c d e f⟩ := by kernel_rfl
theorem wkN_size (N : Nat) (a b c d e f : Value) : (⟨wkN N a b c d e f⟩ : Array Value).size = N + 6 := by simp [wkN]
theorem wkN_one (N : Nat) (W H pol spk : Int) (s draws : ByteArray) : (⟨wkN N (.int .i64 W) (.int .i64 H) (.string s) (.int .i64 pol) (.string draws) (.int .i64 spk)⟩ : Array Value).all (·.oneCell') = true := by
  simp [wkN, Value.oneCell']
theorem wkN_at (N : Nat) (a b c d e f : Value) (n : Nat) (h : n < N) : (⟨wkN N a b c d e f⟩ : Array Value)[6 + n]? = some (.bool false) := by
  rw [Nat.add_comm]; simp [wkN, h]
theorem Wk.newN (N W H : Nat) (s : ByteArray) (pol : Nat) (draws : ByteArray) (spk : Int) (w : World) (t : TypeId) : Wk w.heap.size W H s pol draws spk (w.alloc (.cells ⟨wkN N (.int .i64 W) (.int .i64 H) (.string s) (.int .i64 pol) (.string draws) (.int .i64 spk)⟩ t)) :=
  ⟨by simp [wkN], by simp [wkN], by simp [wkN], by simp [wkN], by simp [wkN], by simp [wkN], by simp⟩
theorem Tkn.new (a b c d e f : Value) (w : World) (t : TypeId) : Tkn w.heap.size (fun _ => false) (w.alloc (.cells ⟨wkL a b c d e f⟩ t)) := fun n hn =>
  ⟨by rw [World.cell?_alloc_new, wkN_at _ _ _ _ _ _ _ n hn], by rw [World.frozen?_alloc_new]⟩

theorem infoShape : (Tryz.prog.info? 67).map (fun i => (i.zero, i.size, i.bytes)) = some (some (.agg #[.slice none 0 0, .int .i64 0]), 2, 32) := by kernel_rfl

/-- The cells of a row of shapes: where the points of each are, and twice its area. -/
def shpV (f : Qm.Sd → Qm.Sd) (L : List (Value × (Qm.Sd × Nat))) : List Value := L.flatMap fun p => [p.1, .int .i64 (Qm.twiceOf (Qm.ptsOf f p.2))]
theorem shpV_snoc (f : Qm.Sd → Qm.Sd) (L : List (Value × (Qm.Sd × Nat))) (p : Value × (Qm.Sd × Nat)) : shpV f (L ++ [p]) = shpV f L ++ [p.1, .int .i64 (Qm.twiceOf (Qm.ptsOf f p.2))] := by simp [shpV]

/-- The lists of an answer: the row of shapes and each shape's points have blocks of their own, from b on. -/
structure Rowed (f : Qm.Sd → Qm.Sd) (b : Nat) (vl : Value) (L : List (Value × (Qm.Sd × Nat))) (w : World) : Prop where
  row : w.ownsRow b 67 2 vl L.length (shpV f L)
  pts : ∀ p ∈ L, w.ownsRow b 65 2 p.1 p.2.2 (Qm.ptsV (Qm.ptsOf f p.2))
  apart : (vl :: L.map (·.1)).Pairwise fun a c => a.ownBlock = none ∨ a.ownBlock ≠ c.ownBlock

/-- What holds when all points ahead of K have been seen. -/
structure FI (g W H : Nat) (s : ByteArray) (pol : Nat) (draws : ByteArray) (spk : Int) (X : World) (K : Int) (L : List (Value × (Qm.Sd × Nat))) (T : Nat → Bool) (vl : Value) (wr : World) : Prop where
  canon : ∀ p ∈ L, Qm.Canon (fB W H s pol draws) (bB W H s) Qm.key p.2
  sorted : (L.map (·.2)).Pairwise fun a b => Qm.key a.1 < Qm.key b.1
  past : ∀ p ∈ L, Qm.key p.2.1 < K
  rep : Qm.Rep (Pm.blackB W H s.data.toList) (fB W H s pol draws) T (L.map (·.2))
  ahead : Ahead (Pm.blackB W H s.data.toList) (fB W H s pol draws) (L.map (·.2)) K
  wk : Wk g W H s pol draws spk wr
  tkn : Tkn g T wr
  rowed : Rowed (fB W H s pol draws) (g + 1) vl L wr
  below : Below g X wr
  few : (L.length : Int) ≤ K

theorem FI.cyc {g W H : Nat} {s : ByteArray} {pol : Nat} {draws : ByteArray} {spk : Int} {X : World} {K : Int} {L : List (Value × (Qm.Sd × Nat))} {T : Nat → Bool} {vl : Value} {wr : World} (h : FI g W H s pol draws spk X K L T vl wr) : ∀ c ∈ L.map (·.2), Qm.Cyc (fB W H s pol draws) (bB W H s) c.1 c.2 := by
  intro c hc
  obtain ⟨p, hp, rfl⟩ := List.mem_map.1 hc
  exact (h.canon p hp).1

theorem own_keep {w w' : World} {b : Nat} {t : TypeId} {z : Nat} {v : Value} {n : Nat} {xs : List Value} (h : w.ownsRow b t z v n xs) {g : Nat} (hg : g < b) (hb : w.grownBy w' (some g)) : w'.ownsRow b t z v n xs := by
  refine h.kept hb ?_
  cases hv : v.ownBlock with
  | none => exact .inl rfl
  | some k => right; intro e; injection e with e; have := h.lt k hv; omega
theorem own_below {w w' : World} {b : Nat} {t : TypeId} {z : Nat} {v : Value} {n : Nat} {xs : List Value} (h : w.ownsRow b t z v n xs) (hb : Below w.heap.size w w') : w'.ownsRow b t z v n xs :=
  h.kept (grown_of_below hb none) (by cases v.ownBlock <;> simp)
theorem Rowed.on {f : Qm.Sd → Qm.Sd} {b : Nat} {vl : Value} {L : List (Value × (Qm.Sd × Nat))} {w w' : World} (h : Rowed f b vl L w) {g : Nat} (hg : g < b) (hb : w.grownBy w' (some g)) : Rowed f b vl L w' :=
  ⟨own_keep h.row hg hb, fun p hp => own_keep (h.pts p hp) hg hb, h.apart⟩

section
variable {g W H : Nat} {s : ByteArray} {pol : Nat} {draws : ByteArray} {spk : Int} {X : World} {L : List (Value × (Qm.Sd × Nat))} {T : Nat → Bool} {vl : Value} {wr : World}

/-- Nothing begins there. -/
theorem FI.none {K : Int} (h : FI g W H s pol draws spk X K L T vl wr) {w2 : World} {T' : Nat → Bool} (hg : wr.grownBy w2 (some g)) (hk : Wk g W H s pol draws spk w2) (ht : Tkn g T' w2) (hr : Qm.Rep (Pm.blackB W H s.data.toList) (fB W H s pol draws) T' (L.map (·.2)))
    (ha : Ahead (Pm.blackB W H s.data.toList) (fB W H s pol draws) (L.map (·.2)) (K + 1)) : FI g W H s pol draws spk X (K + 1) L T' vl w2 where
  canon := h.canon
  sorted := h.sorted
  past p hp := by have := h.past p hp; omega
  rep := hr
  ahead := ha
  wk := hk
  tkn := ht
  rowed := h.rowed.on (by omega) hg
  below := h.below.trans (gb_below_of hg (Nat.le_refl _) (Nat.le_of_lt h.wk.2.2.2.2.2.2))
  few := by have := h.few; omega

/-- To the next row. -/
theorem FI.row {y : Nat} (hw : W ≤ 32) (hh : H ≤ 32) (h : FI g W H s pol draws spk X (33 * (y : Int) + W + 1) L T vl wr) : FI g W H s pol draws spk X (33 * ((y + 1 : Nat) : Int)) L T vl wr where
  canon := h.canon
  sorted := h.sorted
  past p hp := by have := h.past p hp; omega
  rep := h.rep
  ahead t ht hk hu := h.ahead t ht (by
    have hb := Qm.side_in (Qm.pic_of W H s.data.toList hw hh) ht
    unfold Qm.key at *
    omega) hu
  wk := h.wk
  tkn := h.tkn
  rowed := h.rowed
  below := h.below
  few := by have := h.few; omega

/-- All rows have been seen. -/
theorem FI.res {K : Int} (hw : W ≤ 32) (hh : H ≤ 32) (h : FI g W H s pol draws spk X K L T vl wr) (hK : 33 * ((H : Int) + 1) ≤ K) : Qm.Res (fB W H s pol draws) (bB W H s) Qm.key (L.map (·.2)) := by
  have st := Qm.step (Qm.pic_of W H s.data.toList hw hh) (Qm.jnB W H s.data.toList pol draws.data.toList)
  refine ⟨fun c hc => ?_, h.sorted, Qm.all_taken st h.cyc fun t ht hu => h.ahead t ht ?_ hu⟩
  · obtain ⟨p, hp, rfl⟩ := List.mem_map.1 hc
    exact h.canon p hp
  · have hb := Qm.side_in (Qm.pic_of W H s.data.toList hw hh) ht
    unfold Qm.key
    omega

/-- A cycle more: walked (w2), reckoned (w3), written behind the others (w4). -/
theorem FI.found {K : Int} (h : FI g W H s pol draws spk X K L T vl wr) {w2 w3 w4 : World} {T' : Nat → Bool} {v vl' : Value} {s0 : Qm.Sd} {n : Nat} {o : Obj}
    (hg : wr.grownBy w2 (some g)) (hk : Wk g W H s pol draws spk w2) (ht : Tkn g T' w2) (hr : Qm.Rep (Pm.blackB W H s.data.toList) (fB W H s pol draws) T' (L.map (·.2) ++ [(s0, n)]))
    (ha : Ahead (Pm.blackB W H s.data.toList) (fB W H s pol draws) (L.map (·.2) ++ [(s0, n)]) (K + 1)) (hc : Qm.Canon (fB W H s pol draws) (bB W H s) Qm.key (s0, n)) (hK : Qm.key s0 = K)
    (ho : w2.ownsRow wr.heap.size 65 2 v n (Qm.ptsV (Qm.ptsOf (fB W H s pol draws) (s0, n)))) (hn : 0 < n) (b3 : Below w2.heap.size w2 w3)
    (o4 : w4.ownsRow (g + 1) 67 2 vl' (L.length + 1) (shpV (fB W H s pol draws) L ++ [v, .int .i64 (Qm.twiceOf (Qm.ptsOf (fB W H s pol draws) (s0, n)))])) (g4 : (w3.alloc o).grownBy w4 vl.ownBlock) (e4 : vl'.ownBlock = vl.ownBlock ∨ vl'.ownBlock = some (w3.heap.size + 1)) :
    FI g W H s pol draws spk X (K + 1) (L ++ [(v, s0, n)]) T' vl' w4 := by
  have gz := h.wk.2.2.2.2.2.2
  have z2 := hg.size
  have z3 := b3.size
  have vb : ∃ k, v.ownBlock = some k ∧ wr.heap.size ≤ k ∧ k < w2.heap.size := by
    obtain ⟨k, cap, e, hb, hp, _⟩ := own_at ho hn
    exact ⟨k, by rw [e]; rfl, hb, hp.1⟩
  obtain ⟨k, vk, k1, k2⟩ := vb
  have vlne : ∀ q, vl.ownBlock = some q → g + 1 ≤ q ∧ q < wr.heap.size := fun q hq => h.rowed.row.lt q hq
  have b24 : Below (g + 1) w2 w4 := (b3.mono (by omega)).trans (((Below.refl _ _).alloc (by omega) _).grown g4 (by simp; omega) (fun q hq => (vlne q hq).1))
  have keep : ∀ {u : Value} {m : Nat} {xs : List Value} {b : Nat}, w2.ownsRow b 65 2 u m xs → (u.ownBlock = .none ∨ u.ownBlock ≠ vl.ownBlock) → w4.ownsRow b 65 2 u m xs := fun hu hne =>
    (own_below hu (b3.trans ((Below.refl _ _).alloc (by omega) o))).kept g4 hne
  have pl : ∀ p ∈ L, w2.ownsRow (g + 1) 65 2 p.1 p.2.2 (Qm.ptsV (Qm.ptsOf (fB W H s pol draws) p.2)) := fun p hp => own_keep (h.rowed.pts p hp) (by omega) hg
  have ap := List.pairwise_cons.1 h.rowed.apart
  have pn : ∀ p ∈ L, p.1.ownBlock = .none ∨ p.1.ownBlock ≠ vl.ownBlock := fun p hp => by
    rcases ap.1 p.1 (List.mem_map_of_mem hp) with e | e
    · cases hpb : p.1.ownBlock with
      | none => exact .inl rfl
      | some q => right; rw [e]; simp
    · exact .inr (Ne.symm e)
  have plt : ∀ p ∈ L, ∀ q, p.1.ownBlock = some q → q < wr.heap.size := fun p hp q hq => ((h.rowed.pts p hp).lt q hq).2
  have vne : v.ownBlock ≠ vl.ownBlock := fun e => by rw [vk] at e; have := vlne k e.symm; omega
  refine ⟨?_, ?_, ?_, by rw [List.map_append]; exact hr, by rw [List.map_append]; exact ha, hk.onB b24 (by omega), ht.on b24 (by omega), ⟨?_, ?_, ?_⟩, ?_, ?_⟩
  · intro p hp
    rcases List.mem_append.1 hp with hp | hp
    · exact h.canon p hp
    · rw [List.mem_singleton] at hp; subst hp; exact hc
  · rw [List.map_append]
    refine List.pairwise_append.2 ⟨h.sorted, by simp, fun a ha b hb => ?_⟩
    obtain ⟨p, hp, rfl⟩ := List.mem_map.1 ha
    simp only [List.map_cons, List.map_nil, List.mem_singleton] at hb
    subst hb
    rw [hK]
    exact h.past p hp
  · intro p hp
    rcases List.mem_append.1 hp with hp | hp
    · have := h.past p hp; omega
    · rw [List.mem_singleton] at hp; subst hp; show Qm.key s0 < _; omega
  · rw [shpV_snoc, List.length_append]; exact o4
  · intro p hp
    rcases List.mem_append.1 hp with hp | hp
    · exact keep (pl p hp) (pn p hp)
    · rw [List.mem_singleton] at hp; subst hp
      exact keep (ho.mono (by omega)) (.inr vne)
  · rw [List.map_append]
    refine List.pairwise_cons.2 ⟨fun a ha => ?_, List.pairwise_append.2 ⟨ap.2, by simp, fun a ha b hb => ?_⟩⟩
    · right
      intro e
      have hlt : ∃ q, vl'.ownBlock = some q := by
        rcases o4.2 with ⟨_, h0⟩ | ⟨g', cap', _, e', _⟩
        · omega
        · exact ⟨g', by rw [e']; rfl⟩
      obtain ⟨q, hq⟩ := hlt
      rcases List.mem_append.1 ha with ha | ha
      · obtain ⟨p, hp, rfl⟩ := List.mem_map.1 ha
        rcases e4 with e4 | e4
        · rcases pn p hp with e5 | e5
          · rw [e5, hq] at e; cases e
          · exact e5 (e.symm.trans e4)
        · have := plt p hp _ (e.symm.trans e4); omega
      · simp only [List.map_cons, List.map_nil, List.mem_singleton] at ha
        subst ha
        rcases e4 with e4 | e4
        · exact vne (e.symm.trans e4)
        · rw [e4, vk] at e; injection e with e; omega
    · obtain ⟨p, hp, rfl⟩ := List.mem_map.1 ha
      simp only [List.map_cons, List.map_nil, List.mem_singleton] at hb
      rw [hb]
      cases hpb : p.1.ownBlock with
      | none => exact .inl rfl
      | some q => right; intro e; have e2 : v.ownBlock = some q := e.symm; rw [vk] at e2; injection e2 with e2; have := plt p hp q hpb; omega
  · exact h.below.trans ((gb_below_of hg (Nat.le_refl _) (by omega)).trans (b24.mono (by omega)))
  · have := h.few; simp; omega
end
end Go.Proofs.YtljfiefobnncaabGreatDoor

/- Find of package cycles, walked. -/
namespace Go.Proofs.YtljfiefobnncaabGreatDoor
open Go.RowKit

set_option maxRecDepth 4000 in
set_option maxHeartbeats 1000000 in
theorem find_no (W H : Int) (s : ByteArray) (pol : Int) (draws : ByteArray) (spk : Int) (w : World) (hm : mayB W H s.data.toList pol spk = false) :
    Calls Tryz.prog 43 #[.agg #[.int .i64 W, .int .i64 H, .string s], .agg #[.int .i64 pol, .string draws, .int .i64 spk]] w fun e w' => e = .returned (.tuple #[.slice none 0 0, .int .i64 4]) ∧ Below w.heap.size w w' := by
  go_enter Tryz.func43, Tryz.ntmps43
  go_wp2_with fail
  refine (mayBe_any W H s pol draws spk _).mono ?_
  rintro e w1 ⟨rfl, hb⟩
  rw [hm]
  have HB := hid hb
  clear hb
  go_wp2
  go_ret2
  exact ⟨rfl, Below.trans (b := _) (by go_grown) (HB.out.mono (by simp; omega))⟩

theorem small_pts {W H : Nat} {s : ByteArray} {pol : Nat} {draws : ByteArray} (hw : W ≤ 32) (hh : H ≤ 32) {c : Qm.Sd × Nat} (hc : Qm.Cyc (fB W H s pol draws) (bB W H s) c.1 c.2) : Qm.Small (Qm.ptsOf (fB W H s pol draws) c) := by
  intro p hp
  obtain ⟨i, _, rfl⟩ := List.mem_map.1 hp
  have st := Qm.step (Qm.pic_of W H s.data.toList hw hh) (Qm.jnB W H s.data.toList pol draws.data.toList)
  have := Qm.side_in (Qm.pic_of W H s.data.toList hw hh) (st.its hc.1 i)
  exact ⟨this.1, by have := this.2.1; exact Int.le_trans this (by omega), this.2.2.1, Int.le_trans this.2.2.2 (by omega)⟩

theorem alloc_run (Z : Array Value) (zw : ∀ w : World, Sem.run Tryz.prog (zeroValue 107) w = Result.ok (Value.agg Z) w) (ρ : Operand → Value) (o : Oper) (ho : o.op = .alloc 107) (w : World) :
    (execOp ρ o).run Tryz.prog w = .ok (.value (.pointer (some ⟨w.heap.size, 0, none⟩))) (w.alloc (.cells Z 107)) := by
  unfold execOp
  simp only [ho]
  simp [Instr.alloc, zw, Value.cells, go_sem]

def FindOut (W H : Nat) (s : ByteArray) (pol : Nat) (draws : ByteArray) (w : World) (vl : Value) (w' : World) : Prop :=
  ∃ L : List (Value × (Qm.Sd × Nat)), Qm.Res (fB W H s pol draws) (bB W H s) Qm.key (L.map (·.2)) ∧ Rowed (fB W H s pol draws) w.heap.size vl L w' ∧ Below w.heap.size w w' ∧ L.length ≤ 1200

set_option maxRecDepth 4000 in
set_option maxHeartbeats 2000000 in
theorem find_yes (W H : Nat) (s : ByteArray) (pol : Nat) (draws : ByteArray) (spk : Int) (w : World) (hm : mayB W H s.data.toList pol spk = true) (hw2 : W ≤ 32) (hh2 : H ≤ 32) (hl : s.size = W * H) (hp : pol ≤ 3) :
    Calls Tryz.prog 43 #[.agg #[.int .i64 W, .int .i64 H, .string s], .agg #[.int .i64 pol, .string draws, .int .i64 spk]] w fun e w' => ∃ vl, e = .returned (.tuple #[vl, .int .i64 0]) ∧ FindOut W H s pol draws w vl w' := by
  obtain ⟨i0, hi, hz0, hz1, hz2⟩ := info_parts infoShape
  obtain ⟨zw, hsw⟩ := zero_of_info infoWk
  have HL := hid hl
  clear hl
  obtain ⟨C, hC⟩ : ∃ C : Array Value, C = ⟨wkL (.int .i64 W) (.int .i64 H) (.string s) (.int .i64 pol) (.string draws) (.int .i64 spk)⟩ := ⟨_, rfl⟩
  obtain ⟨Z, hZ⟩ : ∃ Z : Array Value, Z = ⟨wkL (.int .i64 0) (.int .i64 0) (.string ⟨#[]⟩) (.int .i64 0) (.string ⟨#[]⟩) (.int .i64 0)⟩ := ⟨_, rfl⟩
  have bC := builtWk (.int .i64 W) (.int .i64 H) (.string s) (.int .i64 pol) (.string draws) (.int .i64 spk)
  have sC := wkN_size 4356 (.int .i64 W) (.int .i64 H) (.string s) (.int .i64 pol) (.string draws) (.int .i64 spk)
  have oC := wkN_one 4356 W H pol spk s draws
  have sZ := wkN_size 4356 (.int .i64 0) (.int .i64 0) (.string ⟨#[]⟩) (.int .i64 0) (.string ⟨#[]⟩) (.int .i64 0)
  rw [← hC] at bC sC oC
  rw [← hZ] at zw sZ
  have HC := hid hC
  have BC := hid bC
  have SC := hid sC
  have OC := hid oC
  have SZ := hid sZ
  have HSW := hid hsw
  clear hC hZ bC sC oC sZ hsw
  go_enter Tryz.func43, Tryz.ntmps43
  go_wp2_with fail
  refine (mayBe_any W H s pol draws spk _).mono ?_
  rintro e w1 ⟨rfl, hb⟩
  rw [hm]
  have HB := hid hb
  obtain ⟨hc, hf⟩ := bcell hb
  clear hb
  go_wp2_with (with_reducible (show wpList _ _ _ ({ dst := some 18, op := Op.build _ _, type := _, pos := _, after := _, guard := _ } :: _) _ _; refine Hid.out ?_))
  refine hid ?_
  refine wpList_buildTo rfl 107 _ rfl (some 18) rfl C ?hf ?_
  case hf => simp only [List.map_toArray, List.map_cons, List.map_nil]; exact BC.out
  refine Great.wpList_allocTo rfl (some 6) rfl (.pointer (some ⟨w1.heap.size, 0, none⟩)) (.cells Z 107) (alloc_run Z zw _ _ rfl _) ?_
  refine wpList_store_row rfl 107 _ _ rfl w1.heap.size C rfl rfl 107 Z (heap_alloc_last _ _) (by rw [HSW.out, SC.out]) (by rw [SC.out, SZ.out]) OC.out ?_
  rw [World.setRow_alloc_new]
  have B1 := hid (show Below w.heap.size w w1 from Below.trans (b := _) (by go_grown) (HB.out.mono (by simp; omega)))
  have z1 : w.heap.size + 2 ≤ w1.heap.size := by have := HB.out.size; simp at this; omega
  obtain ⟨g, hgg⟩ : ∃ g, g = w1.heap.size := ⟨_, rfl⟩
  obtain ⟨X, hX⟩ : ∃ X, X = w1.alloc (.cells C 107) := ⟨_, rfl⟩
  have xk : Wk g W H s pol draws spk X := by rw [hX, hgg, HC.out]; exact Wk.newN 4356 W H s pol draws spk w1 _
  have xt : Tkn g (fun _ => false) X := by rw [hX, hgg, HC.out]; exact Tkn.new _ _ _ _ _ _ w1 _
  have xb : Below g w1 X := by rw [hX, hgg]; go_grown
  have m0 : X.cell? ⟨w.heap.size, 0, none⟩ = some (.int .i64 W) := (xb.cell (p := ⟨w.heap.size, 0, none⟩) (by simp; omega)).trans ((hc _ _ (by simp; omega)).trans (by simp))
  have m1 : X.cell? ⟨w.heap.size, 1, none⟩ = some (.int .i64 H) := (xb.cell (p := ⟨w.heap.size, 1, none⟩) (by simp; omega)).trans ((hc _ _ (by simp; omega)).trans (by simp))
  have xf : FI g W H s pol draws spk X 0 [] (fun _ => false) (.slice none 0 0) X :=
    ⟨by simp, by simp, by simp, fun t _ => by simp [Qm.Tk], fun t ht hk _ => by have := Qm.side_in (Qm.pic_of W H s.data.toList hw2 hh2) ht; unfold Qm.key at hk; omega, xk, xt, ⟨World.ownsRow_nil _ _ _ _, by simp, by simp⟩, Below.refl _ _, by simp⟩
  have XF := hid xf
  have XB := hid xb
  have gz : w.heap.size + 2 ≤ g := by omega
  rw [← hX, ← hgg]
  clear HC BC SC OC SZ HSW zw xf xk xt xb hX hgg hc hf z1 HB
  go_wp2
  go_loopw [7, 8] (fun vl yv wr => ∃ (y : Nat) (L : List (Value × (Qm.Sd × Nat))) (T : Nat → Bool), y ≤ H + 1 ∧ yv = .int .i64 y ∧ Hid (FI g W H s pol draws spk X (33 * (y : Int)) L T vl wr)) (fun _ y _ => H + 1 - (intOf y).toNat)
  case atStart => exact ⟨0, [], _, by omega, rfl, by simpa using XF⟩
  case round =>
    clear XF
    obtain ⟨y, L, T, hy, rfl, h⟩ := hrel
    have q0 := (h.out.below.cell (p := ⟨w.heap.size, 0, none⟩) (by simp; omega)).trans m0
    have q1 := (h.out.below.cell (p := ⟨w.heap.size, 1, none⟩) (by simp; omega)).trans m1
    by_cases hlt : y < H + 1
    · have hlt' : (y : Int) ≤ (H : Nat) := by omega
      go_wp2
      go_loopw [7, 9] (fun vl xv wr => ∃ (x : Nat) (L : List (Value × (Qm.Sd × Nat))) (T : Nat → Bool), x ≤ W + 1 ∧ xv = .int .i64 x ∧ Hid (FI g W H s pol draws spk X (33 * (y : Int) + (x : Nat)) L T vl wr)) (fun _ x _ => W + 1 - (intOf x).toNat)
      case atStart => exact ⟨0, L, T, by omega, rfl, by simpa using h⟩
      case round =>
        clear h q0 q1
        obtain ⟨x, L, T, hx, rfl, h⟩ := hrel
        have q0 := (h.out.below.cell (p := ⟨w.heap.size, 0, none⟩) (by simp; omega)).trans m0
        by_cases hxt : x < W + 1
        · have hxt' : (x : Int) ≤ (W : Nat) := by omega
          have ex := hid (show (33 * (y : Int) + ((x + 1 : Nat) : Int)) = 33 * (y : Int) + (x : Nat) + 1 by omega)
          go_wp2_with fail
          refine (walkFrom_any g W H s pol draws spk (L.map (·.2)) T x y (by omega) (by omega) hp _ h.out.wk h.out.tkn hw2 hh2 HL.out h.out.cyc h.out.rep h.out.ahead).mono ?_
          rintro e w2 ⟨v, rfl, n, T2, R', s0, o2, g2, k2, t2, hn, hr, ha, hcase⟩
          have O2 := hid o2
          have G2 := hid g2
          have K2 := hid k2
          have T2' := hid t2
          have HR := hid hr
          have HA := hid ha
          have HCS := hid hcase
          clear o2 g2 k2 t2 hr ha hcase
          by_cases h0 : 0 < n
          · obtain ⟨gp, cap, rfl, hgp, hpt, hnl⟩ := own_at O2.out h0
            have HPT := hid hpt
            have HNL := hid hnl
            clear hpt hnl
            have h0' : (0 : Int) < (n : Nat) := by omega
            rcases HCS.out with ⟨e0, _⟩ | ⟨_, eR, hcan, hkey⟩
            · omega
            have ER := hid eR
            have HCAN := hid hcan
            have HKEY := hid hkey
            clear eR hcan hkey
            go_wp2_with fail
            refine (twice_any gp n cap _ HNL.out h0 (small_pts hw2 hh2 HCAN.out.1) hn _ HPT.out).mono ?_
            rintro e w3 ⟨rfl, b3⟩
            have B3 := hid b3
            have z3 := b3.size
            have z2 := G2.out.size
            clear b3
            have gk := h.out.wk.2.2.2.2.2.2
            have few := h.out.few
            have n1 : L.length + 1 ≤ maxLen := by unfold maxLen; omega
            have n2 : (L.length + 1) * 32 ≤ 140737488355328 := by omega
            obtain ⟨tw, htw⟩ : ∃ tw, tw = Qm.twiceOf (Qm.ptsOf (fB W H s pol draws) (s0, n)) := ⟨_, rfl⟩
            rw [← htw]
            have HTW := hid htw
            have R3 := hid (own_below (own_keep h.out.rowed.row (by omega) G2.out) B3.out)
            have n3 : g + 1 ≤ (w3.alloc (.cells #[.slice (some ⟨gp, 0, none⟩) n cap, .int .i64 tw] 67)).heap.size := by simp; omega
            clear htw gk few
            go_wp2_with (first
              | (at_builtin; refine wpList_append_own_at _ rfl _ _ 33 rfl (g + 1) 67 i0 (.agg #[.slice none 0 0, .int .i64 0]) 2 32 Tryz.underlying33 hi hz0 hz1 hz2 rfl (by decide) _ _ _ rfl (R3.out.alloc _) ⟨_, 0, none⟩ 1 1 [.slice (some ⟨gp, 0, none⟩) n cap, .int .i64 tw] rfl rfl ?c1 ?c2 n1 n2 n3 ?_))
            case c1 =>
              intro j u hj
              match j, hj with
              | 0, hj => simp at hj; subst hj; simp [Addr.add]
              | 1, hj => simp at hj; subst hj; simp [Addr.add]
            case c2 => intro u hu; simp at hu; rcases hu with rfl | rfl <;> rfl
            intro vl' w4 o4 g4 _ e4
            have N := h.out.found (w2 := w2) (w3 := w3) (w4 := w4) (v := .slice (some ⟨gp, 0, none⟩) n cap) (vl' := vl') (s0 := s0) (n := n) (o := .cells #[.slice (some ⟨gp, 0, none⟩) n cap, .int .i64 tw] 67) G2.out K2.out T2'.out (by rw [← ER.out]; exact HR.out) (by rw [← ER.out]; exact HA.out) HCAN.out HKEY.out O2.out h0 B3.out (by rw [← HTW.out]; exact o4) g4 (by simpa using e4)
            rw [← ex.out] at N
            have HN := hid N
            clear N o4 g4 e4 n3
            go_wp2
            go_roundw
            case rel => exact ⟨x + 1, _, _, by omega, by go_num, HN⟩
            case measure => simp [intOf]; omega
          · have e0 : n = 0 := by omega
            subst e0
            obtain ⟨ao, cap, rfl⟩ := own_len O2.out
            rcases HCS.out with ⟨_, eR⟩ | ⟨e0, _⟩
            · have N := h.out.none G2.out K2.out T2'.out (by rw [← eR]; exact HR.out) (by rw [← eR]; exact HA.out)
              rw [← ex.out] at N
              have HN := hid N
              clear N eR
              go_wp2
              go_roundw
              case rel => exact ⟨x + 1, _, _, by omega, by go_num, HN⟩
              case measure => simp [intOf]; omega
            · omega
        · have hxt' : ((W : Nat) : Int) < (x : Nat) := by omega
          have N := h.out
          rw [show (33 * (y : Int) + ((x : Nat) : Int)) = 33 * (y : Int) + W + 1 by omega] at N
          have HN := hid (N.row hw2 hh2)
          clear N
          go_wp2
          go_roundw
          case rel => exact ⟨y + 1, L, T, by omega, by go_num, HN⟩
          case measure => simp [intOf]; omega
    · have hlt' : ((H : Nat) : Int) < (y : Nat) := by omega
      go_wp2
      go_ret2
      exact ⟨_, rfl, L, h.out.res hw2 hh2 (by omega), ⟨h.out.rowed.row.mono (by omega), fun p hp => (h.out.rowed.pts p hp).mono (by omega), h.out.rowed.apart⟩, (B1.out.trans (XB.out.mono (by omega))).trans (h.out.below.mono (by omega)), by have := h.out.few; omega⟩
end Go.Proofs.YtljfiefobnncaabGreatDoor

/- outline.Cycles; what one sees of an answer; marks in a row. -/
namespace Go.Proofs.YtljfiefobnncaabGreatDoor
open Go.RowKit

theorem infoBool : (Tryz.prog.info? 4).map (fun i => (i.zero, i.size, i.bytes)) = some (some (.bool false), 1, 1) := by kernel_rfl

/-- The marks stand in the world. -/
def GoneAt (gg n : Nat) (G : Nat → Bool) (w : World) : Prop := gg < w.heap.size ∧ ∀ j, j < n → w.cell? ⟨gg, j, none⟩ = some (.bool (G j)) ∧ w.frozen? ⟨gg, j, none⟩ = false
theorem GoneAt.on {gg n : Nat} {G : Nat → Bool} {w w' : World} {B : Nat} (h : GoneAt gg n G w) (hb : Below B w w') (hg : gg < B) : GoneAt gg n G w' :=
  ⟨Nat.lt_of_lt_of_le h.1 hb.size, fun j hj => ⟨(hb.cell (p := ⟨gg, j, none⟩) hg).trans (h.2 j hj).1, (hb.frozen (p := ⟨gg, j, none⟩) hg).trans (h.2 j hj).2⟩⟩
theorem GoneAt.set {gg n : Nat} {G : Nat → Bool} {w : World} (h : GoneAt gg n G w) (k : Nat) : GoneAt gg n (Qm.mark G k) (w.setCell ⟨gg, k, none⟩ (.bool true)) := by
  refine ⟨by rw [World.size_setCell]; exact h.1, fun j hj => ⟨?_, by simpa using (h.2 j hj).2⟩⟩
  by_cases e : j = k
  · subst e
    rw [World.cell?_setCell_same _ _ _ (h.2 j hj).1]
    simp [Qm.mark]
  · rw [World.cell?_setCell_other _ _ _ _ (by intro e2; injection e2 with _ e3 _; omega), (h.2 j hj).1]
    simp [Qm.mark, e]

/-- An answer, to be read. -/
structure Shown (f : Qm.Sd → Qm.Sd) (vl : Value) (L : List (Value × (Qm.Sd × Nat))) (w : World) : Prop where
  row : ∃ ao cap, vl = .slice ao L.length cap ∧ (L.length = 0 ∨ ∃ gl, ao = some ⟨gl, 0, none⟩ ∧ gl < w.heap.size ∧ ∀ j u, (shpV f L)[j]? = some u → w.cell? ⟨gl, j, none⟩ = some u)
  pts : ∀ p ∈ L, ∃ g cap, p.1 = .slice (some ⟨g, 0, none⟩) p.2.2 cap ∧ 0 < p.2.2 ∧ PtsAt g (Qm.ptsOf f p.2) w
theorem Rowed.shown {f : Qm.Sd → Qm.Sd} {b : Nat} {vl : Value} {L : List (Value × (Qm.Sd × Nat))} {w : World} (h : Rowed f b vl L w) (hn : ∀ p ∈ L, 0 < p.2.2) : Shown f vl L w := by
  refine ⟨?_, fun p hp => ?_⟩
  · obtain ⟨ao, cap, e⟩ := own_len h.row
    refine ⟨ao, cap, e, ?_⟩
    rcases h.row.2 with ⟨_, h0⟩ | ⟨g, cap', cur, e', _, hg, _⟩
    · exact .inl h0
    · right
      have e2 : ao = some ⟨g, 0, none⟩ := by rw [e] at e'; injection e'
      refine ⟨g, e2, (Array.getElem?_eq_some_iff.1 hg).1, fun j u hu => ?_⟩
      have := h.row.cells (g := g) (by rw [e']; rfl) j u hu
      rwa [add_zero_at] at this
  · obtain ⟨g, cap, e, _, h2, _⟩ := own_at (h.pts p hp) (hn p hp)
    exact ⟨g, cap, e, hn p hp, h2⟩
theorem own_max {w : World} {b : Nat} {t : TypeId} {z : Nat} {v : Value} {n : Nat} {xs : List Value} (h : w.ownsRow b t z v n xs) : n ≤ 9223372036854775807 := by
  rcases h.2 with ⟨_, rfl⟩ | ⟨g, cap, cur, _, _, _, h1, h2, _⟩
  · omega
  · unfold maxLen at h2; omega
theorem Shown.on {f : Qm.Sd → Qm.Sd} {vl : Value} {L : List (Value × (Qm.Sd × Nat))} {w w' : World} (h : Shown f vl L w) (hb : Below w.heap.size w w') : Shown f vl L w' := by
  refine ⟨?_, fun p hp => ?_⟩
  · obtain ⟨ao, cap, e, h1⟩ := h.row
    refine ⟨ao, cap, e, h1.imp id ?_⟩
    rintro ⟨gl, e2, h3, h4⟩
    exact ⟨gl, e2, Nat.lt_of_lt_of_le h3 hb.size, fun j u hu => (hb.cell (p := ⟨gl, j, none⟩) h3).trans (h4 j u hu)⟩
  · obtain ⟨g, cap, e, h2, h4⟩ := h.pts p hp
    exact ⟨g, cap, e, h2, h4.on hb h4.1⟩

theorem shpV_at (f : Qm.Sd → Qm.Sd) (L : List (Value × (Qm.Sd × Nat))) : ∀ (j : Nat) (h : j < L.length), (shpV f L)[j * 2]? = some L[j].1 ∧ (shpV f L)[j * 2 + 1]? = some (.int .i64 (Qm.twiceOf (Qm.ptsOf f L[j].2))) := by
  induction L with
  | nil => intro j h; simp at h
  | cons p L ih =>
    intro j h
    have e : shpV f (p :: L) = p.1 :: .int .i64 (Qm.twiceOf (Qm.ptsOf f p.2)) :: shpV f L := by simp [shpV]
    cases j with
    | zero => rw [e]; simp
    | succ j =>
      have := ih j (by simpa using h)
      rw [e, show (j + 1) * 2 = j * 2 + 1 + 1 from by omega, show j * 2 + 1 + 1 + 1 = (j * 2 + 1) + 1 + 1 from by omega]
      simpa using this

theorem run_le {W H : Nat} {s : ByteArray} {pol : Nat} {draws : ByteArray} (hw : W ≤ 32) (hh : H ≤ 32) {t : Qm.Sd} (ht : bB W H s t) : ∀ m, Qm.Run (fB W H s pol draws) t m → ∃ T, Qm.RepM (Pm.blackB W H s.data.toList) (fB W H s pol draws) T [] t m ∧ m + Qm.cntF T 4356 ≤ 4356
  | 0, _ => ⟨fun _ => false, fun u _ => by simp [Qm.Tk], by have := Qm.cntF_le (fun _ => false) 4356; omega⟩
  | m + 1, h => by
    obtain ⟨T, h1, h2⟩ := run_le hw hh ht m (fun i j hij hj => h i j hij (by omega))
    have hp := Qm.pic_of W H s.data.toList hw hh
    have st := Qm.step hp (Qm.jnB W H s.data.toList pol draws.data.toList)
    have hs := st.its ht m
    have hT : T (Qm.codeS (Qm.it (fB W H s pol draws) m t)).toNat = false := by
      cases hc : T (Qm.codeS (Qm.it (fB W H s pol draws) m t)).toNat with
      | false => rfl
      | true =>
        rcases (h1 _ hs).1 hc with ⟨c, hc, _⟩ | ⟨i, hi, e⟩
        · simp at hc
        · exact absurd e.symm (h i m hi (by omega))
    have c4 := Qm.code_in hp hs
    have hlt : (Qm.codeS (Qm.it (fB W H s pol draws) m t)).toNat < 4356 := by
      show (Qm.codeS (Qm.it (Qm.nx (Pm.blackB W H s.data.toList) (Qm.jnB W H s.data.toList pol draws.data.toList)) m t)).toNat < 4356
      omega
    have := Qm.cntF_mark T _ hT 4356 hlt
    exact ⟨_, h1.succ hp hs, by omega⟩
theorem cyc_le {W H : Nat} {s : ByteArray} {pol : Nat} {draws : ByteArray} (hw : W ≤ 32) (hh : H ≤ 32) {t : Qm.Sd} {n : Nat} (h : Qm.Cyc (fB W H s pol draws) (bB W H s) t n) : n ≤ 4356 := by
  obtain ⟨T, _, h2⟩ := run_le hw hh h.1 n h.2.2.2
  omega

set_option maxRecDepth 4000 in
set_option maxHeartbeats 400000 in
theorem cycles_no (W H : Int) (s : ByteArray) (pol : Int) (draws : ByteArray) (spk : Int) (w : World) (hm : mayB W H s.data.toList pol spk = false) :
    Calls Tryz.prog 19 #[.agg #[.int .i64 W, .int .i64 H, .string s], .agg #[.int .i64 pol, .string draws, .int .i64 spk]] w fun e w' => e = .returned (.tuple #[.slice none 0 0, .int .i64 4]) ∧ Below w.heap.size w w' := by
  go_enter Tryz.func19, Tryz.ntmps19
  go_wp2_with fail
  refine (find_no W H s pol draws spk _ hm).mono ?_
  rintro e w1 ⟨rfl, hb⟩
  have HB := hid hb
  clear hb
  go_wp2
  go_ret2
  exact ⟨rfl, Below.trans (b := _) (by go_grown) (HB.out.mono (by simp; omega))⟩

set_option maxRecDepth 4000 in
set_option maxHeartbeats 400000 in
theorem cycles_yes (W H : Nat) (s : ByteArray) (pol : Nat) (draws : ByteArray) (spk : Int) (w : World) (hm : mayB W H s.data.toList pol spk = true) (hw2 : W ≤ 32) (hh2 : H ≤ 32) (hl : s.size = W * H) (hp : pol ≤ 3) :
    Calls Tryz.prog 19 #[.agg #[.int .i64 W, .int .i64 H, .string s], .agg #[.int .i64 pol, .string draws, .int .i64 spk]] w fun e w' => ∃ vl, e = .returned (.tuple #[vl, .int .i64 0]) ∧ FindOut W H s pol draws w vl w' := by
  have HL := hid hl
  clear hl
  go_enter Tryz.func19, Tryz.ntmps19
  go_wp2_with fail
  refine (find_yes W H s pol draws spk _ hm hw2 hh2 HL.out hp).mono ?_
  rintro e w1 ⟨vl, rfl, L, h1, h2, h3, h4⟩
  have H1 := hid h1
  have H2 := hid h2
  have H3 := hid h3
  clear h1 h2 h3
  go_wp2
  go_ret2
  exact ⟨vl, rfl, L, H1.out, ⟨H2.out.row.mono (by simp; omega), fun p hp => (H2.out.pts p hp).mono (by simp; omega), H2.out.apart⟩, Below.trans (b := _) (by go_grown) (H3.out.mono (by simp; omega)), h4⟩

theorem may_parts {W H : Int} {l : List UInt8} {pol spk : Int} (h : mayB W H l pol spk = true) : Pm.goodB W H l = true ∧ 0 ≤ pol ∧ pol ≤ 3 := by
  unfold mayB at h
  simp only [Bool.and_eq_true, decide_eq_true_eq] at h
  exact ⟨h.1.1, h.1.2.1, h.1.2.2⟩

end Go.Proofs.YtljfiefobnncaabGreatDoor
