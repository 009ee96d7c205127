import Derived.Test.YtljfiefobnncaabGreatDoorK15
import Derived.Test.YtljfiefobnncaabGreatDoorK24
import Derived.Test.YtljfiefobnncaabGreatDoorK05
import Derived.Lib.AppendStr

/- Lists of shapes of whatever points, to be read; may they be written? -/
namespace Go.Proofs.YtljfiefobnncaabGreatDoor
open Go.RowKit

/-- A shape: its points, and what it says of its area. -/
abbrev ShT : Type := List (Int × Int) × Int
def sh0 : ShT := ([], 0)
/-- A list of shapes lies there. -/
def ShIs (ao : Option Addr) (L : List ShT) (w : World) : Prop :=
  L.length = 0 ∨ ∃ gl o, ao = some ⟨gl, o, none⟩ ∧ gl < w.heap.size ∧ ∀ i, i < L.length → ∃ ap cp, w.cell? ⟨gl, o + i * 2, none⟩ = some (.slice ap (L.getD i sh0).1.length cp) ∧ w.cell? ⟨gl, o + i * 2 + 1, none⟩ = some (.int .i64 (L.getD i sh0).2) ∧
    ((L.getD i sh0).1.length = 0 ∨ ∃ g q, ap = some ⟨g, q, none⟩ ∧ PtsO g q (L.getD i sh0).1 w)
theorem ShIs.on {ao : Option Addr} {L : List ShT} {w w' : World} (h : ShIs ao L w) (hb : Below w.heap.size w w') : ShIs ao L w' := by
  refine h.imp id ?_
  rintro ⟨gl, o, e, hg, hc⟩
  refine ⟨gl, o, e, Nat.lt_of_lt_of_le hg hb.size, fun i hi => ?_⟩
  obtain ⟨ap, cp, h1, h2, h3⟩ := hc i hi
  refine ⟨ap, cp, (hb.cell (p := ⟨gl, o + i * 2, none⟩) hg).trans h1, (hb.cell (p := ⟨gl, o + i * 2 + 1, none⟩) hg).trans h2, h3.imp id ?_⟩
  rintro ⟨g, q, e2, hp⟩
  exact ⟨g, q, e2, hp.on hb hp.1⟩
def inB (p : Int × Int) : Bool := decide (0 ≤ p.1 ∧ p.1 ≤ 32 ∧ 0 ≤ p.2 ∧ p.2 ≤ 32)
def okSh (s : ShT) : Bool := decide (0 < s.1.length) && s.1.all inB
/-- May the shapes be written? -/
def plB (L : List ShT) : Bool := L.all okSh
theorem all_getD {α : Type} {p : α → Bool} {l : List α} (d : α) (h : ∀ i, i < l.length → p (l.getD i d) = true) : l.all p = true := by
  rw [List.all_eq_true]
  intro x hx
  obtain ⟨i, hi, rfl⟩ := List.mem_iff_getElem.1 hx
  have := h i hi
  rwa [List.getD_eq_getElem?_getD, List.getElem?_eq_getElem hi] at this
theorem all_not {α : Type} {p : α → Bool} {l : List α} (d : α) {i : Nat} (hi : i < l.length) (h : p (l.getD i d) = false) : l.all p = false := by
  rw [List.all_eq_false]
  refine ⟨l.getD i d, ?_, by rw [h]; simp⟩
  rw [List.getD_eq_getElem?_getD, List.getElem?_eq_getElem hi]; exact List.getElem_mem hi
theorem all_at {α : Type} {p : α → Bool} {l : List α} (d : α) (h : l.all p = true) {i : Nat} (hi : i < l.length) : p (l.getD i d) = true := by
  rw [List.all_eq_true] at h
  refine h _ ?_
  rw [List.getD_eq_getElem?_getD, List.getElem?_eq_getElem hi]; exact List.getElem_mem hi
theorem inB_not {p : Int × Int} (h : inB p = false) : p.1 < 0 ∨ (0 ≤ p.1 ∧ 32 < p.1) ∨ (0 ≤ p.1 ∧ p.1 ≤ 32 ∧ p.2 < 0) ∨ (0 ≤ p.1 ∧ p.1 ≤ 32 ∧ 0 ≤ p.2 ∧ 32 < p.2) := by
  have := of_decide_eq_false h; omega
theorem inB_not2 {p : Int × Int} (h : inB p = false) : p.1 < 0 ∨ (0 ≤ p.1 ∧ p.2 < 0) ∨ (0 ≤ p.1 ∧ 0 ≤ p.2 ∧ 32 < p.1) ∨ (0 ≤ p.1 ∧ 0 ≤ p.2 ∧ p.1 ≤ 32 ∧ 32 < p.2) := by
  have := of_decide_eq_false h; omega
theorem okSh_empty {s : ShT} (h : s.1.length = 0) : okSh s = false := by unfold okSh; rw [h]; rfl
theorem okSh_of {s : ShT} (h : 0 < s.1.length) (ha : s.1.all inB = true) : okSh s = true := by unfold okSh; rw [decide_eq_true h, ha]; rfl
theorem okSh_not {s : ShT} (ha : s.1.all inB = false) : okSh s = false := by unfold okSh; rw [ha, Bool.and_false]
theorem okSh_small {s : ShT} (h : okSh s = true) : 0 < s.1.length ∧ Qm.Small s.1 := by
  unfold okSh at h
  rw [Bool.and_eq_true, decide_eq_true_eq] at h
  refine ⟨h.1, fun p hp => ?_⟩
  have := List.all_eq_true.1 h.2 p hp
  exact of_decide_eq_true this

set_option maxRecDepth 4000 in
set_option maxHeartbeats 1000000 in
theorem areWithin_any (g q n cap : Nat) (l : List (Int × Int)) (hn : n = l.length) (h0 : 0 < n) (hn2 : n ≤ 140737488355328) (w : World) (hP : PtsO g q l w) :
    Calls Tryz.prog 104 #[.slice (some ⟨g, q, none⟩) n cap] w fun e w' => e = .returned (.bool (l.all inB)) ∧ Below w.heap.size w w' := by
  have HP := hid hP
  have hg := hP.1
  have HN := hid hn
  clear hP hn
  go_enter Tryz.func104, Tryz.ntmps104
  go_wp2_with fail
  go_loopw [3] (fun i wr => ∃ k : Nat, k ≤ n ∧ i = .int .i64 k ∧ Hid (∀ j, j < k → inB (l.getD j (0, 0)) = true) ∧ Hid (Below w.heap.size w wr)) (fun i _ => n - (intOf i).toNat)
  case atStart => exact ⟨0, by omega, rfl, fun j hj => absurd hj (Nat.not_lt_zero _), Below.refl _ _⟩
  case round =>
    obtain ⟨k, hk, rfl, hA, hb⟩ := hrel
    have hz := hb.out.size
    by_cases hlt : k < n
    · obtain ⟨r0, r1⟩ := (HP.out.on hb.out hg).2 k (by have := HN.out; omega)
      have k0' : (0 : Int) ≤ (k : Nat) := by omega
      have k1' : ((k : Nat) : Int) < (n : Nat) := by omega
      cases hin : inB (l.getD k (0, 0))
      · have FL := hid (all_not (p := inB) (l := l) (0, 0) (by have := HN.out; omega) hin)
        have hbad := inB_not hin
        obtain ⟨⟨px, py⟩, hpp⟩ : ∃ p, p = l.getD k (0, 0) := ⟨_, rfl⟩
        rw [← hpp] at r0 r1 hbad
        dsimp only at r0 r1 hbad
        clear hpp hin
        rcases hbad with h | ⟨h1, h⟩ | ⟨h1, h2, h⟩ | ⟨h1, h2, h3, h⟩
        all_goals
          go_wp2
          go_ret
          exact ⟨ret_bool FL.out.symm, by go_grown; exact hb.out⟩
      · have hall := hid (show ∀ j, j < k + 1 → inB (l.getD j (0, 0)) = true from fun j hj => by
          rcases Nat.lt_or_ge j k with h | h
          · exact hA.out j h
          · obtain rfl : j = k := by omega
            exact hin)
        have hgd := of_decide_eq_true hin
        obtain ⟨⟨px, py⟩, hpp⟩ : ∃ p, p = l.getD k (0, 0) := ⟨_, rfl⟩
        rw [← hpp] at r0 r1 hgd
        dsimp only at r0 r1 hgd
        obtain ⟨h1, h2, h3, h4⟩ := hgd
        clear hpp hin
        go_wp2
        go_roundw
        case rel => exact ⟨k + 1, by omega, by go_num, hall, by show Below _ _ _; go_grown; exact hb.out⟩
        case measure => simp [intOf]; omega
    · have TR := hid (all_getD (p := inB) (l := l) (0, 0) (fun i hi => hA.out i (by have := HN.out; omega)))
      have hk' : ((n : Nat) : Int) ≤ (k : Nat) := by omega
      go_wp2
      go_ret
      exact ⟨ret_bool TR.out.symm, hb.out⟩

set_option maxRecDepth 4000 in
set_option maxHeartbeats 1000000 in
theorem shapesMay_any (ao : Option Addr) (n cap : Nat) (L : List ShT) (hn : n = L.length) (hn2 : n ≤ 140737488355328) (hm : ∀ i, (L.getD i sh0).1.length ≤ 140737488355328) (w : World) (hS : ShIs ao L w) :
    Calls Tryz.prog 78 #[.slice ao n cap] w fun e w' => e = .returned (.bool (plB L)) ∧ Below w.heap.size w w' := by
  have HS := hid hS
  have HM := hid hm
  have HN := hid hn
  clear hS hm hn
  go_enter Tryz.func78, Tryz.ntmps78
  go_wp2_with fail
  go_loopw [3] (fun i wr => ∃ k : Nat, k ≤ n ∧ i = .int .i64 k ∧ Hid (∀ j, j < k → okSh (L.getD j sh0) = true) ∧ Hid (Below w.heap.size w wr)) (fun i _ => n - (intOf i).toNat)
  case atStart => exact ⟨0, by omega, rfl, fun j hj => absurd hj (Nat.not_lt_zero _), Below.refl _ _⟩
  case round =>
    obtain ⟨k, hk, rfl, hA, hb⟩ := hrel
    have hz := hb.out.size
    by_cases hlt : k < n
    · obtain ⟨gl, o, rfl, hgl, hc⟩ := HS.out.resolve_left (by have := HN.out; omega)
      obtain ⟨ap, cp, c0, c1, c2⟩ := hc k (by have := HN.out; omega)
      have r0 := (hb.out.cell (p := ⟨gl, o + k * 2, none⟩) hgl).trans c0
      have k0' : (0 : Int) ≤ (k : Nat) := by omega
      have k1' : ((k : Nat) : Int) < (n : Nat) := by omega
      have NOT := hid (fun (h : okSh (L.getD k sh0) = false) => all_not (p := okSh) (l := L) sh0 (i := k) (by have := HN.out; omega) h)
      have hmk := HM.out k
      obtain ⟨s, hs⟩ : ∃ s, s = L.getD k sh0 := ⟨_, rfl⟩
      rw [← hs] at r0 c2 NOT hmk
      obtain ⟨m, hmm⟩ : ∃ m, m = s.1.length := ⟨_, rfl⟩
      rw [← hmm] at r0 c2 hmk
      have ES := hid hs
      clear hc c0 c1 hs
      by_cases m0 : m = 0
      · have FL := hid (NOT.out (okSh_empty (by rw [← hmm]; exact m0)))
        have e0 : ((m : Int) == 0) = true := by simp [m0]
        clear m0 hmm c2
        go_wp2
        go_ret
        exact ⟨ret_bool FL.out.symm, by go_grown; exact hb.out⟩
      · obtain ⟨g, q, rfl, hp⟩ := c2.resolve_left m0
        have e0 : ((m : Int) == 0) = false := by simp [m0]
        have AW := hid (fun W' (h : Below w.heap.size w W') => areWithin_any g q m cp s.1 hmm (by omega) hmk W' (hp.on h hp.1))
        cases ha : s.1.all inB
        · have FL := hid (NOT.out (okSh_not ha))
          rw [ha] at AW
          clear m0 hmm c2 hp ha
          go_wp2_with fail
          refine (AW.out _ (by go_grown; exact hb.out)).mono ?_
          rintro e w2 ⟨rfl, hb2⟩
          have B2 := hid (show Below w.heap.size w w2 from Below.trans (b := _) (by go_grown; exact hb.out) (hb2.mono (by have := hb.out.size; simp; omega)))
          clear hb2
          go_wp2
          go_ret
          exact ⟨ret_bool FL.out.symm, B2.out⟩
        · have hall := hid (show ∀ j, j < k + 1 → okSh (L.getD j sh0) = true from fun j hj => by
            rcases Nat.lt_or_ge j k with h | h
            · exact hA.out j h
            · obtain rfl : j = k := by omega
              rw [← ES.out]; exact okSh_of (by omega) ha)
          rw [ha] at AW
          clear m0 hmm c2 hp ha
          go_wp2_with fail
          refine (AW.out _ (by go_grown; exact hb.out)).mono ?_
          rintro e w2 ⟨rfl, hb2⟩
          have B2 := hid (show Below w.heap.size w w2 from Below.trans (b := _) (by go_grown; exact hb.out) (hb2.mono (by have := hb.out.size; simp; omega)))
          clear hb2
          go_wp2
          go_roundw
          case rel => exact ⟨k + 1, by omega, by go_num, hall, B2⟩
          case measure => simp [intOf]; omega
    · have TR := hid (all_getD (p := okSh) (l := L) sh0 (fun i hi => hA.out i (by have := HN.out; omega)))
      have hk' : ((n : Nat) : Int) ≤ (k : Nat) := by omega
      go_wp2
      go_ret
      exact ⟨ret_bool TR.out.symm, hb.out⟩

set_option maxRecDepth 4000 in
set_option maxHeartbeats 1000000 in
theorem placed_any (ao : Option Addr) (n cap : Nat) (L : List ShT) (hn : n = L.length) (hn2 : n ≤ 140737488355328) (hm : ∀ i, (L.getD i sh0).1.length ≤ 140737488355328) (w : World) (hS : ShIs ao L w) :
    Calls Tryz.prog 54 #[.slice ao n cap] w fun e w' => e = .returned (.bool (plB L)) ∧ Below w.heap.size w w' := by
  have HS := hid hS
  have HM := hid hm
  have HN := hid hn
  clear hS hm hn
  go_enter Tryz.func54, Tryz.ntmps54
  go_wp2_with fail
  go_loopw [3] (fun i wr => ∃ k : Nat, k ≤ n ∧ i = .int .i64 k ∧ Hid (∀ j, j < k → okSh (L.getD j sh0) = true) ∧ Hid (Below w.heap.size w wr)) (fun i _ => n - (intOf i).toNat)
  case atStart => exact ⟨0, by omega, rfl, fun j hj => absurd hj (Nat.not_lt_zero _), Below.refl _ _⟩
  case round =>
    obtain ⟨k, hk, rfl, hA, hb⟩ := hrel
    have hz := hb.out.size
    by_cases hlt : k < n
    · obtain ⟨gl, o, rfl, hgl, hc⟩ := HS.out.resolve_left (by have := HN.out; omega)
      obtain ⟨ap, cp, c0, c1, c2⟩ := hc k (by have := HN.out; omega)
      have RD := hid (fun wx (h : Below w.heap.size w wx) => (h.cell (p := ⟨gl, o + k * 2, none⟩) hgl).trans c0)
      have r0 := RD.out _ hb.out
      have k0' : (0 : Int) ≤ (k : Nat) := by omega
      have k1' : ((k : Nat) : Int) < (n : Nat) := by omega
      have NOT := hid (fun (h : okSh (L.getD k sh0) = false) => all_not (p := okSh) (l := L) sh0 (i := k) (by have := HN.out; omega) h)
      have hmk := HM.out k
      obtain ⟨s, hs⟩ : ∃ s, s = L.getD k sh0 := ⟨_, rfl⟩
      rw [← hs] at r0 c2 NOT hmk RD
      obtain ⟨m, hmm⟩ : ∃ m, m = s.1.length := ⟨_, rfl⟩
      rw [← hmm] at r0 c2 hmk RD
      have ES := hid hs
      clear hc c0 c1 hs
      by_cases m0 : m = 0
      · have FL := hid (NOT.out (okSh_empty (by rw [← hmm]; exact m0)))
        have e0 : ((m : Int) == 0) = true := by simp [m0]
        clear m0 hmm c2
        go_wp2
        go_ret
        exact ⟨ret_bool FL.out.symm, by go_grown; exact hb.out⟩
      · obtain ⟨g, q, rfl, hp⟩ := c2.resolve_left m0
        have e0 : ((m : Int) == 0) = false := by simp [m0]
        have PT := hid (fun j (hj : j < m) wx (h : Below w.heap.size w wx) => (hp.on h hp.1).2 j (by omega))
        have HMM := hid hmm
        have M0 := hid m0
        clear hp c2 hmm m0
        go_wp2_with fail
        go_loopw [4] (fun i wr => ∃ j : Nat, j ≤ m ∧ i = .int .i64 j ∧ Hid (∀ i, i < j → inB (s.1.getD i (0, 0)) = true) ∧ Hid (Below w.heap.size w wr)) (fun i _ => m - (intOf i).toNat)
        case atStart => exact ⟨0, by omega, rfl, fun j hj => absurd hj (Nat.not_lt_zero _), hb⟩
        case round =>
          clear r0 e0 hb hz
          obtain ⟨j, hj, rfl, hI, hb⟩ := hrel
          have hz := hb.out.size
          have r0 := RD.out _ hb.out
          by_cases hjm : j < m
          · obtain ⟨x0, x1⟩ := PT.out j hjm _ hb.out
            have j0' : (0 : Int) ≤ (j : Nat) := by omega
            have j1' : ((j : Nat) : Int) < (m : Nat) := by omega
            cases hin : inB (s.1.getD j (0, 0))
            · have FL := hid (NOT.out (okSh_not (all_not (p := inB) (0, 0) (i := j) (by have := HMM.out; omega) hin)))
              have hbad := inB_not2 hin
              obtain ⟨⟨px, py⟩, hpp⟩ : ∃ p, p = s.1.getD j (0, 0) := ⟨_, rfl⟩
              rw [← hpp] at x0 x1 hbad
              dsimp only at x0 x1 hbad
              clear hpp hin
              rcases hbad with h | ⟨h1, h⟩ | ⟨h1, h2, h⟩ | ⟨h1, h2, h3, h⟩
              all_goals
                go_wp2
                go_ret
                exact ⟨ret_bool FL.out.symm, by go_grown; exact hb.out⟩
            · have hall := hid (show ∀ i, i < j + 1 → inB (s.1.getD i (0, 0)) = true from fun i hi => by
                rcases Nat.lt_or_ge i j with h | h
                · exact hI.out i h
                · obtain rfl : i = j := by omega
                  exact hin)
              have hgd := of_decide_eq_true hin
              obtain ⟨⟨px, py⟩, hpp⟩ : ∃ p, p = s.1.getD j (0, 0) := ⟨_, rfl⟩
              rw [← hpp] at x0 x1 hgd
              dsimp only at x0 x1 hgd
              obtain ⟨h1, h2, h3, h4⟩ := hgd
              clear hpp hin
              go_wp2
              go_roundw
              case rel => exact ⟨j + 1, by omega, by go_num, hall, by show Below _ _ _; go_grown; exact hb.out⟩
              case measure => simp [intOf]; omega
          · have hall := hid (show ∀ i, i < k + 1 → okSh (L.getD i sh0) = true from fun i hi => by
              rcases Nat.lt_or_ge i k with h | h
              · exact hA.out i h
              · obtain rfl : i = k := by omega
                rw [← ES.out]
                exact okSh_of (by have := HMM.out; have := M0.out; omega) (all_getD (0, 0) fun i hi => hI.out i (by have := HMM.out; omega)))
            have hj' : ((m : Nat) : Int) ≤ (j : Nat) := by omega
            go_wp2
            go_roundw
            case rel => exact ⟨k + 1, by omega, by go_num, hall, hb⟩
            case measure => simp [intOf]; omega
    · have TR := hid (all_getD (p := okSh) (l := L) sh0 (fun i hi => hA.out i (by have := HN.out; omega)))
      have hk' : ((n : Nat) : Int) ≤ (k : Nat) := by omega
      go_wp2
      go_ret
      exact ⟨ret_bool TR.out.symm, hb.out⟩

end Go.Proofs.YtljfiefobnncaabGreatDoor

/- Plain facts on paths: what a text of shapes says, step by step; what shapes are written as. Nothing of the program stands here. -/
namespace Go.Proofs.YtljfiefobnncaabGreatDoor.Pm

/-- Blanks and newlines alone. -/
def blB (c : UInt8) : Bool := c == 32 || c == 10
theorem blB_eq (c : UInt8) : blB c = ((c.toNat : Int) == 32 || (c.toNat : Int) == 10) := by
  have e : ∀ k : UInt8, (c == k) = ((c.toNat : Int) == (k.toNat : Int)) := by
    intro k
    rw [Bool.eq_iff_iff]
    simp only [beq_iff_eq]
    constructor
    · intro h; rw [h]
    · intro h; exact UInt8.toNat_inj.1 (by omega)
  rw [blB, e, e]; rfl
def blN : List UInt8 → Nat
  | [] => 0
  | x :: r => if blB x = true then 1 + blN r else 0
theorem blN_step (s : ByteArray) (k : Nat) (hk : k < s.size) : blN (s.data.toList.drop k) = if blB s[k] = true then 1 + blN (s.data.toList.drop (k + 1)) else 0 := by
  rw [drop_at s k hk, blN]
theorem blN_end (s : ByteArray) (k : Nat) (hk : s.size ≤ k) : blN (s.data.toList.drop k) = 0 := by rw [drop_end s k hk, blN]
theorem blN_le : ∀ (l : List UInt8), blN l ≤ l.length
  | [] => Nat.le_refl _
  | x :: r => by
    rw [blN]
    have := blN_le r
    simp only [List.length_cons]
    split <;> omega
theorem blN_idem : ∀ (l : List UInt8), blN (l.drop (blN l)) = 0
  | [] => rfl
  | x :: r => by
    rw [blN]
    split
    · rw [Nat.add_comm, List.drop_succ_cons]; exact blN_idem r
    · rename_i h; rw [List.drop_zero, blN, if_neg h]
/-- Where the blanks from i on end. -/
def skp (l : List UInt8) (i : Nat) : Nat := i + blN (l.drop i)
theorem skp_ge (l : List UInt8) (i : Nat) : i ≤ skp l i := Nat.le_add_right _ _
theorem skp_le {l : List UInt8} {i : Nat} (h : i ≤ l.length) : skp l i ≤ l.length := by
  have := blN_le (l.drop i)
  rw [List.length_drop] at this
  unfold skp; omega
theorem skp_skp (l : List UInt8) (i : Nat) : skp l (skp l i) = skp l i := by
  have : blN (l.drop (skp l i)) = 0 := by
    unfold skp
    rw [← List.drop_drop]; exact blN_idem _
  rw [skp, this]; rfl
theorem skp_no {l : List UInt8} {i : Nat} (h : blN (l.drop i) = 0) : skp l i = i := by rw [skp, h]; rfl

/-- A coordinate, with blanks ahead: it and where it ends, or what is wrong and where. -/
def crd (l : List UInt8) (i : Nat) : Except (Int × Nat) (Nat × Nat) :=
  if numC (l.drop (skp l i)) = 0 then .error (lackE l.length (skp l i), skp l i)
  else if 32 < numV 0 (l.drop (skp l i)) then .error (3, skp l i)
  else .ok (numV 0 (l.drop (skp l i)), skp l i + numC (l.drop (skp l i)))
theorem crd_skp (l : List UInt8) (i : Nat) : crd l (skp l i) = crd l i := by unfold crd; rw [skp_skp]
theorem crd_ok {l : List UInt8} {i n k : Nat} (hi : i ≤ l.length) (h : crd l i = .ok (n, k)) : n ≤ 32 ∧ i < k ∧ k ≤ l.length := by
  unfold crd at h
  split at h
  · cases h
  · split at h
    · cases h
    · rename_i h1 h2
      cases h
      have a := skp_ge l i
      have b := skp_le hi
      have c := numC_le (l.drop (skp l i))
      rw [List.length_drop] at c
      omega
theorem crd_err {l : List UInt8} {i : Nat} {e : Int} {p : Nat} (hi : i ≤ l.length) (h : crd l i = .error (e, p)) : (e = 1 ∨ e = 2 ∨ e = 3) ∧ p ≤ l.length := by
  have b := skp_le hi
  unfold crd at h
  split at h
  · cases h
    refine ⟨?_, b⟩
    unfold lackE; split <;> omega
  · split at h
    · cases h; exact ⟨by omega, b⟩
    · cases h

/-- A point. -/
def pnt (l : List UInt8) (i : Nat) : Except (Int × Nat) ((Int × Int) × Nat) :=
  match crd l i with
  | .error e => .error e
  | .ok (x, k) => if blN (l.drop k) = 0 then .error (lackE l.length k, k) else
    match crd l k with
    | .error e => .error e
    | .ok (y, m) => .ok (((x : Int), (y : Int)), m)
theorem pnt_ok {l : List UInt8} {i k : Nat} {p : Int × Int} (hi : i ≤ l.length) (h : pnt l i = .ok (p, k)) : (0 ≤ p.1 ∧ p.1 ≤ 32 ∧ 0 ≤ p.2 ∧ p.2 ≤ 32) ∧ i < k ∧ k ≤ l.length := by
  unfold pnt at h
  split at h
  · cases h
  · rename_i x k1 e1
    have a := crd_ok hi e1
    split at h
    · cases h
    · split at h
      · cases h
      · rename_i y m e2
        have b := crd_ok a.2.2 e2
        cases h
        simp only
        omega
theorem pnt_err {l : List UInt8} {i : Nat} {e : Int} {p : Nat} (hi : i ≤ l.length) (h : pnt l i = .error (e, p)) : (e = 1 ∨ e = 2 ∨ e = 3) ∧ p ≤ l.length := by
  unfold pnt at h
  split at h
  · rename_i e1; cases h; exact crd_err hi e1
  · rename_i x k1 e1
    have a := crd_ok hi e1
    split at h
    · cases h
      refine ⟨?_, a.2.2⟩
      unfold lackE; split <;> omega
    · split at h
      · rename_i e2; cases h; exact crd_err a.2.2 e2
      · cases h

/-- Where one is in a path: the place, whether a shape is open, its points, the shapes so far. -/
structure St where
  i : Nat
  o : Bool
  cur : List (Int × Int)
  out : List (List (Int × Int))
abbrev Ans := Except (Int × Nat) (List (List (Int × Int)))

def byt (l : List UInt8) (i : Nat) : UInt8 := l.getD i 0
/-- One step. -/
def stp (l : List UInt8) (s : St) : St ⊕ Ans :=
  if l.length ≤ s.i then (if s.o = true then .inr (.error (2, l.length)) else .inr (.ok s.out))
  else if byt l s.i = 122 ∧ s.o = true then .inl ⟨skp l (s.i + 1), false, [], s.out ++ [s.cur]⟩
  else if byt l s.i = (if s.o = true then 76 else 77) then
    match pnt l (s.i + 1) with
    | .error e => .inr (.error e)
    | .ok (p, k) => .inl ⟨skp l k, true, s.cur ++ [p], s.out⟩
  else .inr (.error (1, s.i))

inductive Rch (l : List UInt8) : St → St → Prop
  | refl (s : St) : Rch l s s
  | step {s t u : St} : stp l s = .inl t → Rch l t u → Rch l s u
theorem Rch.trans {l : List UInt8} {s t u : St} (h : Rch l s t) (k : Rch l t u) : Rch l s u := by
  induction h with
  | refl => exact k
  | step e _ ih => exact .step e (ih k)
theorem Rch.snoc {l : List UInt8} {s t u : St} (h : Rch l s t) (e : stp l t = .inl u) : Rch l s u := h.trans (.step e (.refl _))
/-- What a path says. -/
def Says (l : List UInt8) (s : St) (a : Ans) : Prop := ∃ t, Rch l s t ∧ stp l t = .inr a
theorem Says.unique {l : List UInt8} {s : St} {a b : Ans} (h : Says l s a) (k : Says l s b) : a = b := by
  obtain ⟨t, h1, h2⟩ := h
  obtain ⟨u, k1, k2⟩ := k
  induction h1 with
  | refl =>
    cases k1 with
    | refl => rw [h2] at k2; cases k2; rfl
    | step e _ => rw [h2] at e; cases e
  | step e _ ih =>
    cases k1 with
    | refl => rw [e] at k2; cases k2
    | step e' k1' => rw [e] at e'; cases e'; exact ih h2 k1'
/-- The first step is from behind the blanks. -/
def st0 (l : List UInt8) : St := ⟨skp l 0, false, [], []⟩

/-! What the steps are, by what stands there. -/
theorem byt_at (s : ByteArray) (i : Nat) (h : i < s.size) : byt s.data.toList i = s[i] := by
  unfold byt
  rw [List.getD_eq_getElem?_getD, List.getElem?_eq_getElem (by simpa using h)]; rfl
theorem stp_end {l : List UInt8} {i : Nat} {cur : List (Int × Int)} {out : List (List (Int × Int))} (h : l.length ≤ i) : stp l ⟨i, false, cur, out⟩ = .inr (.ok out) := by
  unfold stp; rw [if_pos h]; rfl
theorem stp_short {l : List UInt8} {i : Nat} {cur : List (Int × Int)} {out : List (List (Int × Int))} (h : l.length ≤ i) : stp l ⟨i, true, cur, out⟩ = .inr (.error (2, l.length)) := by
  unfold stp; rw [if_pos h]; rfl
theorem stp_z {l : List UInt8} {i : Nat} {cur : List (Int × Int)} {out : List (List (Int × Int))} (h : i < l.length) (hb : byt l i = 122) : stp l ⟨i, true, cur, out⟩ = .inl ⟨skp l (i + 1), false, [], out ++ [cur]⟩ := by
  unfold stp; rw [if_neg (by simp only; omega), if_pos ⟨hb, rfl⟩]
theorem stp_bad {l : List UInt8} {i : Nat} {o : Bool} {cur : List (Int × Int)} {out : List (List (Int × Int))} (h : i < l.length) (hz : o = true → byt l i ≠ 122) (hb : byt l i ≠ if o = true then 76 else 77) : stp l ⟨i, o, cur, out⟩ = .inr (.error (1, i)) := by
  unfold stp; rw [if_neg (by simp only; omega), if_neg (fun hh => hz hh.2 hh.1), if_neg hb]
theorem stp_err {l : List UInt8} {i : Nat} {o : Bool} {cur : List (Int × Int)} {out : List (List (Int × Int))} (h : i < l.length) (hb : byt l i = if o = true then 76 else 77) {e : Int × Nat} (hp : pnt l (i + 1) = .error e) : stp l ⟨i, o, cur, out⟩ = .inr (.error e) := by
  unfold stp
  rw [if_neg (by simp only; omega), if_neg (fun hh => by have h1 := hh.1; have h2 := hh.2; simp only at h1 h2; rw [h2, h1] at hb; simp at hb), if_pos hb]
  simp only [hp]
theorem stp_pt {l : List UInt8} {i : Nat} {o : Bool} {cur : List (Int × Int)} {out : List (List (Int × Int))} (h : i < l.length) (hb : byt l i = if o = true then 76 else 77) {p : Int × Int} {k : Nat} (hp : pnt l (i + 1) = .ok (p, k)) : stp l ⟨i, o, cur, out⟩ = .inl ⟨skp l k, true, cur ++ [p], out⟩ := by
  unfold stp
  rw [if_neg (by simp only; omega), if_neg (fun hh => by have h1 := hh.1; have h2 := hh.2; simp only at h1 h2; rw [h2, h1] at hb; simp at hb), if_pos hb]
  simp only [hp]

/-- What shapes are written as. -/
def ptL (p : Int × Int) : List UInt8 := itoaL p.1.toNat ++ [32] ++ itoaL p.2.toNat
def ptsL : List (Int × Int) → List UInt8
  | [] => []
  | p :: l => [76] ++ ptL p ++ ptsL l
def shP : List (Int × Int) → List UInt8
  | [] => []
  | p :: l => [77] ++ ptL p ++ ptsL l
def shL (l : List (Int × Int)) : List UInt8 := shP l ++ [122]
theorem ptsL_snoc : ∀ (m : List (Int × Int)) (p : Int × Int), ptsL (m ++ [p]) = ptsL m ++ [76] ++ ptL p
  | [], p => by simp [ptsL]
  | q :: m, p => by rw [List.cons_append, ptsL, ptsL_snoc m p, ptsL]; simp
theorem shP_snoc (m : List (Int × Int)) (p : Int × Int) : shP (m ++ [p]) = shP m ++ [if m.length = 0 then 77 else 76] ++ ptL p := by
  cases m with
  | nil => simp [shP, ptsL]
  | cons q m => rw [List.cons_append, shP, ptsL_snoc, shP, if_neg (by simp)]; simp
theorem ptL_len (p : Int × Int) : 3 ≤ (ptL p).length ∧ (ptL p).length ≤ 5 := by
  unfold ptL
  have a := itoaL_len p.1.toNat
  have b := itoaL_len p.2.toNat
  simp only [List.length_append, List.length_singleton]
  omega
theorem ptsL_len (m : List (Int × Int)) : (ptsL m).length ≤ 6 * m.length := by
  induction m with
  | nil => simp [ptsL]
  | cons p m ih => have := ptL_len p; rw [ptsL]; simp only [List.length_append, List.length_nil, List.length_cons]; omega
theorem shP_len (m : List (Int × Int)) : (shP m).length ≤ 6 * m.length := by
  cases m with
  | nil => simp [shP]
  | cons p m => have := ptL_len p; have := ptsL_len m; rw [shP]; simp only [List.length_append, List.length_nil, List.length_cons]; omega
def pathL (L : List (List (Int × Int))) : List UInt8 := L.flatMap shL
theorem pathL_snoc (L : List (List (Int × Int))) (l : List (Int × Int)) : pathL (L ++ [l]) = pathL L ++ shL l := by simp [pathL]
theorem pathL_take (L : List (List (Int × Int))) (k : Nat) : (pathL (L.take k)).length ≤ (pathL L).length := by
  have e : pathL L = pathL (L.take k) ++ pathL (L.drop k) := by unfold pathL; rw [← List.flatMap_append, List.take_append_drop]
  rw [e, List.length_append]; omega
end Go.Proofs.YtljfiefobnncaabGreatDoor.Pm

/- Writing paths, by the program. -/
namespace Go.Proofs.YtljfiefobnncaabGreatDoor
open Go.RowKit

set_option maxRecDepth 4000 in
set_option maxHeartbeats 400000 in
theorem pointText_any (x y : Nat) (hx : x < 33) (hy : y < 33) (w : World) :
    Calls Tryz.prog 105 #[.agg #[.int .i64 x, .int .i64 y]] w fun e w' => e = .returned (.string ⟨(Pm.ptL ((x : Int), (y : Int))).toArray⟩) ∧ Below w.heap.size w w' := by
  have lx := Pm.itoaL_len x
  have ly := Pm.itoaL_len y
  have E := hid (show (⟨(Pm.itoaL x).toArray⟩ ++ ⟨#[32]⟩ ++ ⟨(Pm.itoaL y).toArray⟩ : ByteArray) = ⟨(Pm.ptL ((x : Int), (y : Int))).toArray⟩ by
    apply ByteArray.ext
    apply Array.toList_inj.1
    simp [Pm.ptL])
  go_enter Tryz.func105, Tryz.ntmps105
  go_wp2_with fail
  refine (itoa_any x hx _).mono ?_
  rintro e w1 ⟨rfl, e1⟩
  subst e1
  go_wp2_with fail
  refine (itoa_any y hy _).mono ?_
  rintro e w2 ⟨rfl, e2⟩
  subst e2
  go_wp2
  go_ret
  exact ⟨ret_string E.out, by go_grown⟩
theorem pt_nat {p : Int × Int} (h : 0 ≤ p.1 ∧ p.1 ≤ 32 ∧ 0 ≤ p.2 ∧ p.2 ≤ 32) : ∃ x y : Nat, p = ((x : Int), (y : Int)) ∧ x < 33 ∧ y < 33 :=
  ⟨p.1.toNat, p.2.toNat, Prod.ext (by simp; omega) (by simp; omega), by omega, by omega⟩
theorem take_snocY {α : Type} (l : List α) (k : Nat) (d : α) (h : k < l.length) : l.take (k + 1) = l.take k ++ [l.getD k d] := by
  rw [List.take_succ_eq_append_getElem h, List.getD_eq_getElem?_getD, List.getElem?_eq_getElem h]; rfl

set_option maxRecDepth 4000 in
set_option maxHeartbeats 2000000 in
theorem shapeText_any (g q n cap : Nat) (l : List (Int × Int)) (hn : n = l.length) (h0 : 0 < n) (hs : Qm.Small l) (hn2 : n ≤ 1073741824) (w : World) (hP : PtsO g q l w) :
    Calls Tryz.prog 79 #[.slice (some ⟨g, q, none⟩) n cap] w fun e w' => e = .returned (.string ⟨(Pm.shL l).toArray⟩) ∧ Below w.heap.size w w' := by
  obtain ⟨i0, hi, hz0, hz1, hz2⟩ := info_parts infoByte
  have HP := hid hP
  have hg := hP.1
  have HN := hid hn
  have HS := hid hs
  clear hP hn hs
  go_enter Tryz.func79, Tryz.ntmps79
  go_wp2_with fail
  go_loopw [3, 4, 5] (fun v cv iv wr => ∃ (k c : Nat), k ≤ n ∧ iv = .int .i64 k ∧ cv = .int .u8 c ∧ Hid (c = (if k = 0 then (77 : UInt8) else 76).toNat) ∧ c ≤ 255 ∧ Hid (wr.ownsRow w.heap.size 5 1 v (Pm.shP (l.take k)).length (cellsOf (Pm.shP (l.take k)))) ∧ Hid (Below w.heap.size w wr)) (fun _ _ i _ => n - (intOf i).toNat)
  case atStart => exact ⟨0, 77, by omega, rfl, rfl, rfl, by omega, World.ownsRow_nil _ _ _ _, Below.refl _ _⟩
  case round =>
    obtain ⟨k, c, hk, rfl, rfl, HC, c2, hO, hB⟩ := hrel
    have hz := hB.out.size
    have sl := Pm.shP_len (l.take k)
    have tl : (l.take k).length = k := by rw [List.length_take]; have := HN.out; omega
    obtain ⟨ao, cp, hv⟩ := own_len hO.out
    subst hv
    by_cases hlt : k < n
    · obtain ⟨r0, r1⟩ := (HP.out.on hB.out hg).2 k (by have := HN.out; omega)
      have SN := hid (show Pm.shP (l.take (k + 1)) = Pm.shP (l.take k) ++ [if k = 0 then 77 else 76] ++ Pm.ptL (l.getD k (0, 0)) by rw [take_snocY l k (0, 0) (by have := HN.out; omega), Pm.shP_snoc, tl])
      have pl := Pm.ptL_len (l.getD k (0, 0))
      obtain ⟨x, y, hxy, hx, hy⟩ := pt_nat (HS.out.at k)
      rw [hxy] at r0 r1 SN pl
      dsimp only at r0 r1
      have PT := hid (pointText_any x y hx hy)
      obtain ⟨t, ht⟩ : ∃ t, t = Pm.ptL ((x : Int), (y : Int)) := ⟨_, rfl⟩
      rw [← ht] at PT SN pl
      obtain ⟨b, hb⟩ : ∃ b, b = Pm.shP (l.take k) := ⟨_, rfl⟩
      rw [← hb] at SN hO sl ⊢
      have k0' : (0 : Int) ≤ (k : Nat) := by omega
      have k1' : ((k : Nat) : Int) < (n : Nat) := by omega
      clear hxy ht hb
      go_wp2_with fail
      refine (PT.out _).mono ?_
      rintro e w2 ⟨rfl, hb2⟩
      have B2 := hid (show Below w.heap.size w w2 from hB.out.trans (hb2.mono hz))
      have O2 := hid (own_below hO.out hb2)
      have s2 := B2.out.size
      have m1 : b.length + 1 ≤ maxLen := by unfold maxLen; omega
      have m2 : (b.length + 1) * 1 ≤ 140737488355328 := by omega
      clear hb2 r0 r1
      go_wp2_with (first
        | (at_builtin; refine wpList_append_own _ rfl _ _ 79 rfl w.heap.size 5 i0 (.int .u8 0) 1 1 Tryz.underlying79 hi hz0 hz1 hz2 rfl (by decide) _ _ _ rfl (O2.out.alloc _) ⟨_, 0, none⟩ 1 1 [.int .u8 c] rfl rfl (cell_one_new _ _ _) (by intro u hu; simp at hu; subst hu; rfl) m1 m2 (by simp; omega) ?_))
      intro v3 w3 o3 g3 _
      have B3 := hid (show Below w.heap.size w w3 from (B2.out.alloc s2 _).grown g3 (by simp; omega) (fun k hk => (O2.out.lt k hk).1))
      have O3 := hid o3
      have s3 := B3.out.size
      obtain ⟨ao3, cp3, hv3⟩ := own_len O3.out
      subst hv3
      have ts : (⟨t.toArray⟩ : ByteArray).size = t.length := by simp [ByteArray.size]
      have m3 : b.length + 1 + (⟨t.toArray⟩ : ByteArray).size ≤ maxLen := by rw [ts]; unfold maxLen; omega
      have m4 : b.length + 1 + (⟨t.toArray⟩ : ByteArray).size ≤ 140737488355328 := by rw [ts]; omega
      clear o3 g3
      go_wp2_with (first
        | (refine Go.Lib.wpList_append_own_string _ rfl _ _ 79 9 rfl w.heap.size 5 i0 Tryz.underlying79 Tryz.underlying9 hi hz0 hz1 hz2 _ _ _ rfl O3.out ⟨t.toArray⟩ rfl m3 m4 s3 ?_))
      intro v4 w4 o4 g4 _
      have B4 := hid (show Below w.heap.size w w4 from B3.out.grown g4 s3 (fun k hk => (O3.out.lt k hk).1))
      have O4 := hid (show w4.ownsRow w.heap.size 5 1 v4 (Pm.shP (l.take (k + 1))).length (cellsOf (Pm.shP (l.take (k + 1)))) by
        have e1 : (Pm.shP (l.take (k + 1))).length = b.length + 1 + t.length := by rw [SN.out]; simp only [List.length_append, List.length_cons, List.length_nil]
        have e2 : cellsOf (Pm.shP (l.take (k + 1))) = cellsOf b ++ Value.int .u8 c :: Go.Lib.strCells ⟨t.toArray⟩ := by rw [SN.out]; simp [cellsOf, Go.Lib.strCells, HC.out]
        rw [e1, e2]; exact o4)
      clear o4 g4
      go_wp2
      go_roundw
      case rel => exact ⟨k + 1, 76, by omega, by go_num, rfl, rfl, by omega, O4, B4⟩
      case measure => simp [intOf]; omega
    · have ek : k = n := by omega
      subst ek
      have hk' : ¬ (k : Int) < (k : Nat) := by omega
      have EL := hid (show Pm.shL l = Pm.shP (l.take k) ++ [122] by rw [List.take_of_length_le (by have := HN.out; omega)]; rfl)
      obtain ⟨b, hb⟩ : ∃ b, b = Pm.shP (l.take k) := ⟨_, rfl⟩
      rw [← hb] at EL hO sl ⊢
      have m1 : b.length + 1 ≤ maxLen := by unfold maxLen; omega
      have m2 : (b.length + 1) * 1 ≤ 140737488355328 := by omega
      clear hb
      go_wp2_with (first
        | (at_builtin; refine wpList_append_own _ rfl _ _ 79 rfl w.heap.size 5 i0 (.int .u8 0) 1 1 Tryz.underlying79 hi hz0 hz1 hz2 rfl (by decide) _ _ _ rfl (hO.out.alloc _) ⟨_, 0, none⟩ 1 1 [.int .u8 122] rfl rfl (cell_one_new _ _ _) (by intro u hu; simp at hu; subst hu; rfl) m1 m2 (by simp; omega) ?_))
      intro v3 w3 o3 g3 _
      have B3 := hid (show Below w.heap.size w w3 from (hB.out.alloc hz _).grown g3 (by simp; omega) (fun k hk => (hO.out.lt k hk).1))
      obtain ⟨b2, hb2⟩ : ∃ b2, b2 = Pm.shL l := ⟨_, rfl⟩
      have BE := hid hb2
      have hown : w3.ownsRow w.heap.size 5 1 v3 b2.length (cellsOf b2) := by
        rw [hb2, EL.out]; simpa [cellsOf] using o3
      have bp : 0 < b2.length := by rw [hb2, EL.out]; simp
      clear o3 g3 hb2
      rcases hown.2 with ⟨-, h0⟩ | ⟨g', cap', cur, rfl, -, -, -, -, -, -⟩
      · omega
      · have hcv := run_convert_bytes_back (P := Tryz.prog) w3 79 9 5 ⟨g', 0, none⟩ cap' b2 Tryz.underlying79 Tryz.underlying5 Tryz.underlying9 (fun j hj => hown.cells (g := g') rfl j _ (by simp [cellsOf, hj]))
        clear hown
        go_wp2
        go_ret
        exact ⟨ret_string (by rw [BE.out]), B3.out⟩

end Go.Proofs.YtljfiefobnncaabGreatDoor
