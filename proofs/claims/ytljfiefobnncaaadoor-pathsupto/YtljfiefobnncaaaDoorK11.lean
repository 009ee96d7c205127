/- Lists of shapes of whatever points, to be read; may they be written? -/
import Derived.Test.YtljfiefobnncaaaDoorK10
namespace Go.Proofs.YtljfiefobnncaaaDoor
open Go.RowKit

/-- A shape: its points, and what it says of its area. -/
abbrev ShT : Type := List (Int × Int) × Int
def sh0 : ShT := ([], 0)
/-- A list of shapes lies there. -/
def ShIs (ao : Option Addr) (L : List ShT) (w : World) : Prop :=
  L.length = 0 ∨ ∃ gl o, ao = some ⟨gl, o, none⟩ ∧ gl < w.heap.size ∧ ∀ i, i < L.length → ∃ ap cp, w.cell? ⟨gl, o + i * 2, none⟩ = some (.slice ap (L.getD i sh0).1.length cp) ∧ w.cell? ⟨gl, o + i * 2 + 1, none⟩ = some (.int .i64 (L.getD i sh0).2) ∧
    ((L.getD i sh0).1.length = 0 ∨ ∃ g q, ap = some ⟨g, q, none⟩ ∧ PtsO g q (L.getD i sh0).1 w)
theorem ShIs.on {ao : Option Addr} {L : List ShT} {w w' : World} (h : ShIs ao L w) (hb : Below w.heap.size w w') : ShIs ao L w' := by
  refine h.imp id ?_
  rintro ⟨gl, o, e, hg, hc⟩
  refine ⟨gl, o, e, Nat.lt_of_lt_of_le hg hb.size, fun i hi => ?_⟩
  obtain ⟨ap, cp, h1, h2, h3⟩ := hc i hi
  refine ⟨ap, cp, (hb.cell (p := ⟨gl, o + i * 2, none⟩) hg).trans h1, (hb.cell (p := ⟨gl, o + i * 2 + 1, none⟩) hg).trans h2, h3.imp id ?_⟩
  rintro ⟨g, q, e2, hp⟩
  exact ⟨g, q, e2, hp.on hb hp.1⟩
def inB (p : Int × Int) : Bool := decide (0 ≤ p.1 ∧ p.1 ≤ 32 ∧ 0 ≤ p.2 ∧ p.2 ≤ 32)
def okSh (s : ShT) : Bool := decide (0 < s.1.length) && s.1.all inB
/-- May the shapes be written? -/
def plB (L : List ShT) : Bool := L.all okSh
theorem all_getD {α : Type} {p : α → Bool} {l : List α} (d : α) (h : ∀ i, i < l.length → p (l.getD i d) = true) : l.all p = true := by
  rw [List.all_eq_true]
  intro x hx
  obtain ⟨i, hi, rfl⟩ := List.mem_iff_getElem.1 hx
  have := h i hi
  rwa [List.getD_eq_getElem?_getD, List.getElem?_eq_getElem hi] at this
theorem all_not {α : Type} {p : α → Bool} {l : List α} (d : α) {i : Nat} (hi : i < l.length) (h : p (l.getD i d) = false) : l.all p = false := by
  rw [List.all_eq_false]
  refine ⟨l.getD i d, ?_, by rw [h]; simp⟩
  rw [List.getD_eq_getElem?_getD, List.getElem?_eq_getElem hi]; exact List.getElem_mem hi
theorem all_at {α : Type} {p : α → Bool} {l : List α} (d : α) (h : l.all p = true) {i : Nat} (hi : i < l.length) : p (l.getD i d) = true := by
  rw [List.all_eq_true] at h
  refine h _ ?_
  rw [List.getD_eq_getElem?_getD, List.getElem?_eq_getElem hi]; exact List.getElem_mem hi
theorem inB_not {p : Int × Int} (h : inB p = false) : p.1 < 0 ∨ (0 ≤ p.1 ∧ 32 < p.1) ∨ (0 ≤ p.1 ∧ p.1 ≤ 32 ∧ p.2 < 0) ∨ (0 ≤ p.1 ∧ p.1 ≤ 32 ∧ 0 ≤ p.2 ∧ 32 < p.2) := by
  have := of_decide_eq_false h; omega
theorem inB_not2 {p : Int × Int} (h : inB p = false) : p.1 < 0 ∨ (0 ≤ p.1 ∧ p.2 < 0) ∨ (0 ≤ p.1 ∧ 0 ≤ p.2 ∧ 32 < p.1) ∨ (0 ≤ p.1 ∧ 0 ≤ p.2 ∧ p.1 ≤ 32 ∧ 32 < p.2) := by
  have := of_decide_eq_false h; omega
theorem okSh_empty {s : ShT} (h : s.1.length = 0) : okSh s = false := by unfold okSh; rw [h]; rfl
theorem okSh_of {s : ShT} (h : 0 < s.1.length) (ha : s.1.all inB = true) : okSh s = true := by unfold okSh; rw [decide_eq_true h, ha]; rfl
theorem okSh_not {s : ShT} (ha : s.1.all inB = false) : okSh s = false := by unfold okSh; rw [ha, Bool.and_false]
theorem okSh_small {s : ShT} (h : okSh s = true) : 0 < s.1.length ∧ Qm.Small s.1 := by
  unfold okSh at h
  rw [Bool.and_eq_true, decide_eq_true_eq] at h
  refine ⟨h.1, fun p hp => ?_⟩
  have := List.all_eq_true.1 h.2 p hp
  exact of_decide_eq_true this

set_option maxRecDepth 4000 in
set_option maxHeartbeats 1000000 in
theorem areWithin_any (g q n cap : Nat) (l : List (Int × Int)) (hn : n = l.length) (h0 : 0 < n) (hn2 : n ≤ 140737488355328) (w : World) (hP : PtsO g q l w) :
    Calls Tryd.prog 78 #[.slice (some ⟨g, q, none⟩) n cap] w fun e w' => e = .returned (.bool (l.all inB)) ∧ Below w.heap.size w w' := by
  have HP := hid hP
  have hg := hP.1
  have HN := hid hn
  clear hP hn
  go_enter Tryd.func78, Tryd.ntmps78
  go_wp2_with fail
  go_loopw [3] (fun i wr => ∃ k : Nat, k ≤ n ∧ i = .int .i64 k ∧ Hid (∀ j, j < k → inB (l.getD j (0, 0)) = true) ∧ Hid (Below w.heap.size w wr)) (fun i _ => n - (intOf i).toNat)
  case atStart => exact ⟨0, by omega, rfl, fun j hj => absurd hj (Nat.not_lt_zero _), Below.refl _ _⟩
  case round =>
    obtain ⟨k, hk, rfl, hA, hb⟩ := hrel
    have hz := hb.out.size
    by_cases hlt : k < n
    · obtain ⟨r0, r1⟩ := (HP.out.on hb.out hg).2 k (by have := HN.out; omega)
      have k0' : (0 : Int) ≤ (k : Nat) := by omega
      have k1' : ((k : Nat) : Int) < (n : Nat) := by omega
      cases hin : inB (l.getD k (0, 0))
      · have FL := hid (all_not (p := inB) (l := l) (0, 0) (by have := HN.out; omega) hin)
        have hbad := inB_not hin
        obtain ⟨⟨px, py⟩, hpp⟩ : ∃ p, p = l.getD k (0, 0) := ⟨_, rfl⟩
        rw [← hpp] at r0 r1 hbad
        dsimp only at r0 r1 hbad
        clear hpp hin
        rcases hbad with h | ⟨h1, h⟩ | ⟨h1, h2, h⟩ | ⟨h1, h2, h3, h⟩
        all_goals
          go_wp2
          go_ret
          exact ⟨ret_bool FL.out.symm, by go_grown; exact hb.out⟩
      · have hall := hid (show ∀ j, j < k + 1 → inB (l.getD j (0, 0)) = true from fun j hj => by
          rcases Nat.lt_or_ge j k with h | h
          · exact hA.out j h
          · obtain rfl : j = k := by omega
            exact hin)
        have hgd := of_decide_eq_true hin
        obtain ⟨⟨px, py⟩, hpp⟩ : ∃ p, p = l.getD k (0, 0) := ⟨_, rfl⟩
        rw [← hpp] at r0 r1 hgd
        dsimp only at r0 r1 hgd
        obtain ⟨h1, h2, h3, h4⟩ := hgd
        clear hpp hin
        go_wp2
        go_roundw
        case rel => exact ⟨k + 1, by omega, by go_num, hall, by show Below _ _ _; go_grown; exact hb.out⟩
        case measure => simp [intOf]; omega
    · have TR := hid (all_getD (p := inB) (l := l) (0, 0) (fun i hi => hA.out i (by have := HN.out; omega)))
      have hk' : ((n : Nat) : Int) ≤ (k : Nat) := by omega
      go_wp2
      go_ret
      exact ⟨ret_bool TR.out.symm, hb.out⟩

set_option maxRecDepth 4000 in
set_option maxHeartbeats 1000000 in
theorem shapesMay_any (ao : Option Addr) (n cap : Nat) (L : List ShT) (hn : n = L.length) (hn2 : n ≤ 140737488355328) (hm : ∀ i, (L.getD i sh0).1.length ≤ 140737488355328) (w : World) (hS : ShIs ao L w) :
    Calls Tryd.prog 62 #[.slice ao n cap] w fun e w' => e = .returned (.bool (plB L)) ∧ Below w.heap.size w w' := by
  have HS := hid hS
  have HM := hid hm
  have HN := hid hn
  clear hS hm hn
  go_enter Tryd.func62, Tryd.ntmps62
  go_wp2_with fail
  go_loopw [3] (fun i wr => ∃ k : Nat, k ≤ n ∧ i = .int .i64 k ∧ Hid (∀ j, j < k → okSh (L.getD j sh0) = true) ∧ Hid (Below w.heap.size w wr)) (fun i _ => n - (intOf i).toNat)
  case atStart => exact ⟨0, by omega, rfl, fun j hj => absurd hj (Nat.not_lt_zero _), Below.refl _ _⟩
  case round =>
    obtain ⟨k, hk, rfl, hA, hb⟩ := hrel
    have hz := hb.out.size
    by_cases hlt : k < n
    · obtain ⟨gl, o, rfl, hgl, hc⟩ := HS.out.resolve_left (by have := HN.out; omega)
      obtain ⟨ap, cp, c0, c1, c2⟩ := hc k (by have := HN.out; omega)
      have r0 := (hb.out.cell (p := ⟨gl, o + k * 2, none⟩) hgl).trans c0
      have k0' : (0 : Int) ≤ (k : Nat) := by omega
      have k1' : ((k : Nat) : Int) < (n : Nat) := by omega
      have NOT := hid (fun (h : okSh (L.getD k sh0) = false) => all_not (p := okSh) (l := L) sh0 (i := k) (by have := HN.out; omega) h)
      have hmk := HM.out k
      obtain ⟨s, hs⟩ : ∃ s, s = L.getD k sh0 := ⟨_, rfl⟩
      rw [← hs] at r0 c2 NOT hmk
      obtain ⟨m, hmm⟩ : ∃ m, m = s.1.length := ⟨_, rfl⟩
      rw [← hmm] at r0 c2 hmk
      have ES := hid hs
      clear hc c0 c1 hs
      by_cases m0 : m = 0
      · have FL := hid (NOT.out (okSh_empty (by rw [← hmm]; exact m0)))
        have e0 : ((m : Int) == 0) = true := by simp [m0]
        clear m0 hmm c2
        go_wp2
        go_ret
        exact ⟨ret_bool FL.out.symm, by go_grown; exact hb.out⟩
      · obtain ⟨g, q, rfl, hp⟩ := c2.resolve_left m0
        have e0 : ((m : Int) == 0) = false := by simp [m0]
        have AW := hid (fun W' (h : Below w.heap.size w W') => areWithin_any g q m cp s.1 hmm (by omega) hmk W' (hp.on h hp.1))
        cases ha : s.1.all inB
        · have FL := hid (NOT.out (okSh_not ha))
          rw [ha] at AW
          clear m0 hmm c2 hp ha
          go_wp2_with fail
          refine (AW.out _ (by go_grown; exact hb.out)).mono ?_
          rintro e w2 ⟨rfl, hb2⟩
          have B2 := hid (show Below w.heap.size w w2 from Below.trans (b := _) (by go_grown; exact hb.out) (hb2.mono (by have := hb.out.size; simp; omega)))
          clear hb2
          go_wp2
          go_ret
          exact ⟨ret_bool FL.out.symm, B2.out⟩
        · have hall := hid (show ∀ j, j < k + 1 → okSh (L.getD j sh0) = true from fun j hj => by
            rcases Nat.lt_or_ge j k with h | h
            · exact hA.out j h
            · obtain rfl : j = k := by omega
              rw [← ES.out]; exact okSh_of (by omega) ha)
          rw [ha] at AW
          clear m0 hmm c2 hp ha
          go_wp2_with fail
          refine (AW.out _ (by go_grown; exact hb.out)).mono ?_
          rintro e w2 ⟨rfl, hb2⟩
          have B2 := hid (show Below w.heap.size w w2 from Below.trans (b := _) (by go_grown; exact hb.out) (hb2.mono (by have := hb.out.size; simp; omega)))
          clear hb2
          go_wp2
          go_roundw
          case rel => exact ⟨k + 1, by omega, by go_num, hall, B2⟩
          case measure => simp [intOf]; omega
    · have TR := hid (all_getD (p := okSh) (l := L) sh0 (fun i hi => hA.out i (by have := HN.out; omega)))
      have hk' : ((n : Nat) : Int) ≤ (k : Nat) := by omega
      go_wp2
      go_ret
      exact ⟨ret_bool TR.out.symm, hb.out⟩

set_option maxRecDepth 4000 in
set_option maxHeartbeats 1000000 in
theorem placed_any (ao : Option Addr) (n cap : Nat) (L : List ShT) (hn : n = L.length) (hn2 : n ≤ 140737488355328) (hm : ∀ i, (L.getD i sh0).1.length ≤ 140737488355328) (w : World) (hS : ShIs ao L w) :
    Calls Tryd.prog 47 #[.slice ao n cap] w fun e w' => e = .returned (.bool (plB L)) ∧ Below w.heap.size w w' := by
  have HS := hid hS
  have HM := hid hm
  have HN := hid hn
  clear hS hm hn
  go_enter Tryd.func47, Tryd.ntmps47
  go_wp2_with fail
  go_loopw [3] (fun i wr => ∃ k : Nat, k ≤ n ∧ i = .int .i64 k ∧ Hid (∀ j, j < k → okSh (L.getD j sh0) = true) ∧ Hid (Below w.heap.size w wr)) (fun i _ => n - (intOf i).toNat)
  case atStart => exact ⟨0, by omega, rfl, fun j hj => absurd hj (Nat.not_lt_zero _), Below.refl _ _⟩
  case round =>
    obtain ⟨k, hk, rfl, hA, hb⟩ := hrel
    have hz := hb.out.size
    by_cases hlt : k < n
    · obtain ⟨gl, o, rfl, hgl, hc⟩ := HS.out.resolve_left (by have := HN.out; omega)
      obtain ⟨ap, cp, c0, c1, c2⟩ := hc k (by have := HN.out; omega)
      have RD := hid (fun wx (h : Below w.heap.size w wx) => (h.cell (p := ⟨gl, o + k * 2, none⟩) hgl).trans c0)
      have r0 := RD.out _ hb.out
      have k0' : (0 : Int) ≤ (k : Nat) := by omega
      have k1' : ((k : Nat) : Int) < (n : Nat) := by omega
      have NOT := hid (fun (h : okSh (L.getD k sh0) = false) => all_not (p := okSh) (l := L) sh0 (i := k) (by have := HN.out; omega) h)
      have hmk := HM.out k
      obtain ⟨s, hs⟩ : ∃ s, s = L.getD k sh0 := ⟨_, rfl⟩
      rw [← hs] at r0 c2 NOT hmk RD
      obtain ⟨m, hmm⟩ : ∃ m, m = s.1.length := ⟨_, rfl⟩
      rw [← hmm] at r0 c2 hmk RD
      have ES := hid hs
      clear hc c0 c1 hs
      by_cases m0 : m = 0
      · have FL := hid (NOT.out (okSh_empty (by rw [← hmm]; exact m0)))
        have e0 : ((m : Int) == 0) = true := by simp [m0]
        clear m0 hmm c2
        go_wp2
        go_ret
        exact ⟨ret_bool FL.out.symm, by go_grown; exact hb.out⟩
      · obtain ⟨g, q, rfl, hp⟩ := c2.resolve_left m0
        have e0 : ((m : Int) == 0) = false := by simp [m0]
        have PT := hid (fun j (hj : j < m) wx (h : Below w.heap.size w wx) => (hp.on h hp.1).2 j (by omega))
        have HMM := hid hmm
        have M0 := hid m0
        clear hp c2 hmm m0
        go_wp2_with fail
        go_loopw [4] (fun i wr => ∃ j : Nat, j ≤ m ∧ i = .int .i64 j ∧ Hid (∀ i, i < j → inB (s.1.getD i (0, 0)) = true) ∧ Hid (Below w.heap.size w wr)) (fun i _ => m - (intOf i).toNat)
        case atStart => exact ⟨0, by omega, rfl, fun j hj => absurd hj (Nat.not_lt_zero _), hb⟩
        case round =>
          clear r0 e0 hb hz
          obtain ⟨j, hj, rfl, hI, hb⟩ := hrel
          have hz := hb.out.size
          have r0 := RD.out _ hb.out
          by_cases hjm : j < m
          · obtain ⟨x0, x1⟩ := PT.out j hjm _ hb.out
            have j0' : (0 : Int) ≤ (j : Nat) := by omega
            have j1' : ((j : Nat) : Int) < (m : Nat) := by omega
            cases hin : inB (s.1.getD j (0, 0))
            · have FL := hid (NOT.out (okSh_not (all_not (p := inB) (0, 0) (i := j) (by have := HMM.out; omega) hin)))
              have hbad := inB_not2 hin
              obtain ⟨⟨px, py⟩, hpp⟩ : ∃ p, p = s.1.getD j (0, 0) := ⟨_, rfl⟩
              rw [← hpp] at x0 x1 hbad
              dsimp only at x0 x1 hbad
              clear hpp hin
              rcases hbad with h | ⟨h1, h⟩ | ⟨h1, h2, h⟩ | ⟨h1, h2, h3, h⟩
              all_goals
                go_wp2
                go_ret
                exact ⟨ret_bool FL.out.symm, by go_grown; exact hb.out⟩
            · have hall := hid (show ∀ i, i < j + 1 → inB (s.1.getD i (0, 0)) = true from fun i hi => by
                rcases Nat.lt_or_ge i j with h | h
                · exact hI.out i h
                · obtain rfl : i = j := by omega
                  exact hin)
              have hgd := of_decide_eq_true hin
              obtain ⟨⟨px, py⟩, hpp⟩ : ∃ p, p = s.1.getD j (0, 0) := ⟨_, rfl⟩
              rw [← hpp] at x0 x1 hgd
              dsimp only at x0 x1 hgd
              obtain ⟨h1, h2, h3, h4⟩ := hgd
              clear hpp hin
              go_wp2
              go_roundw
              case rel => exact ⟨j + 1, by omega, by go_num, hall, by show Below _ _ _; go_grown; exact hb.out⟩
              case measure => simp [intOf]; omega
          · have hall := hid (show ∀ i, i < k + 1 → okSh (L.getD i sh0) = true from fun i hi => by
              rcases Nat.lt_or_ge i k with h | h
              · exact hA.out i h
              · obtain rfl : i = k := by omega
                rw [← ES.out]
                exact okSh_of (by have := HMM.out; have := M0.out; omega) (all_getD (0, 0) fun i hi => hI.out i (by have := HMM.out; omega)))
            have hj' : ((m : Nat) : Int) ≤ (j : Nat) := by omega
            go_wp2
            go_roundw
            case rel => exact ⟨k + 1, by omega, by go_num, hall, hb⟩
            case measure => simp [intOf]; omega
    · have TR := hid (all_getD (p := okSh) (l := L) sh0 (fun i hi => hA.out i (by have := HN.out; omega)))
      have hk' : ((n : Nat) : Int) ≤ (k : Nat) := by omega
      go_wp2
      go_ret
      exact ⟨ret_bool TR.out.symm, hb.out⟩

end Go.Proofs.YtljfiefobnncaaaDoor
