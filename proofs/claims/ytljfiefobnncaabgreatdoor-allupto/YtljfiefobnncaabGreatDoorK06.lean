import Derived.Test.YtljfiefobnncaabGreatDoorK01
import Derived.Test.YtljfiefobnncaabGreatDoorK05
import Derived.Deep.MidRow
import Derived.Deep.Upon
import Derived.OwnWalk
import Derived.Deep.AppendLies

/- Owned rows: what is appended; small facts on lists. -/
namespace Go.Proofs.YtljfiefobnncaabGreatDoor
open Go.RowKit

/-- A row that is owned, behind a row that is owned: what the law of append asks of what is appended. -/
theorem own_src {w : World} {b : Nat} {t : TypeId} {z : Nat} {v : Value} {n : Nat} {xs : List Value} (h : w.ownsRow b t z v n xs) (hn : 0 < n) : ∃ g cap, v = .slice (some ⟨g, 0, none⟩) n cap ∧ ∀ j u, xs[j]? = some u → w.cell? ((⟨g, 0, none⟩ : Addr).add j) = some u := by
  rcases h.2 with ⟨_, h0⟩ | ⟨g, cap, cur, rfl, _⟩
  · omega
  · exact ⟨g, cap, rfl, fun j u hu => h.cells (g := g) rfl j u hu⟩

/-- Nothing is appended. -/
theorem wpList_append_nothing {P : Program} {ops : Array Oper} {rest : List Oper} {o : Oper} {a : Act} {w : World} {Q : Exit → Act → World → Prop} (hgd : o.guard = none) (s x : Operand) (t : TypeId)
    (ho : o.op = .call { callee := .builtin .append, args := #[s, x], argTypes := #[t, t] }) (e : TypeId) (i : TypeInfo) (ht : P.underlying t = some (.slice e)) (hi : P.info? e = some i)
    (base : Option Addr) (n cap : Nat) (hle : n ≤ cap) (X : Value) (hs : a.eval s = .slice base n cap) (hx : a.eval x = X) (hsrc : Src P i.size t X 0 [] w)
    (h : wpList P ops Q rest (a.put o.dst (.slice base n cap)) w) : wpList P ops Q (o :: rest) a w := by
  refine wpList_plain hgd fun K hK => ?_
  have hr := run_append_nothing (P := P) w t t o.type e i ht hi base n cap hle X hsrc
  unfold Oper.wp execOp
  simp only [ho, resolve, invoke, builtin, Sem.run_bind, Sem.run_pure, Result.andThen_ok, List.map_toArray, List.map_cons, List.map_nil, hs, hx, hr]
  exact hK _ _ h
/-- An empty row that is owned yields nothing. -/
theorem own_src0 {P : Program} {w : World} {b : Nat} {t e : TypeId} {z : Nat} {v : Value} {xs : List Value} {ts : TypeId} (h : w.ownsRow b t z v 0 xs) (hk : P.underlying ts = some (.slice e)) (size : Nat) : Src P size ts v 0 [] w := by
  rcases h.2 with ⟨rfl, _⟩ | ⟨g, cap, cur, rfl, _⟩
  · exact Src.ofNil _ hk 0
  · exact Src.ofSlice _ hk ⟨g, 0, none⟩ 0 cap [] (by simp) (by simp) (by simp)
theorem own_cap {w : World} {b : Nat} {t : TypeId} {z : Nat} {v : Value} {n : Nat} {xs : List Value} (h : w.ownsRow b t z v n xs) : ∃ ao cap, v = .slice ao n cap ∧ n ≤ cap := by
  rcases h.2 with ⟨rfl, rfl⟩ | ⟨g, cap, cur, rfl, _, _, hc, _⟩
  · exact ⟨_, _, rfl, Nat.le_refl _⟩
  · exact ⟨_, _, rfl, hc⟩

theorem pts_one (l : List (Int × Int)) : ∀ u ∈ Qm.ptsV l, u.oneCell' = true := by
  intro u hu
  simp only [Qm.ptsV, List.mem_flatMap] at hu
  obtain ⟨s, _, hs⟩ := hu
  simp only [Qm.ptV, List.mem_cons, List.not_mem_nil, or_false] at hs
  rcases hs with rfl | rfl <;> rfl
theorem ptsV_app (a b : List (Int × Int)) : Qm.ptsV (a ++ b) = Qm.ptsV a ++ Qm.ptsV b := by simp [Qm.ptsV]

theorem mem_take_getD {α : Type} {L : List α} {j : Nat} {x d : α} (h : x ∈ L.take j) : ∃ m, m < j ∧ m < L.length ∧ L.getD m d = x := by
  obtain ⟨m, hm, rfl⟩ := List.mem_iff_getElem.1 h
  simp only [List.length_take] at hm
  exact ⟨m, by omega, by omega, by rw [List.getD_eq_getElem?_getD, List.getElem?_eq_getElem (by omega), List.getElem_take]; rfl⟩

end Go.Proofs.YtljfiefobnncaabGreatDoor

/- outlinelaw: marked, shaped, looks. -/
namespace Go.Proofs.YtljfiefobnncaabGreatDoor
open Go.RowKit

/-- Each element of the list reads as the mark (in its cell number off of two). -/
def Mk (off : Nat) (v : Value) (mark : Int) (w : World) : Prop :=
  ∃ ao n cap, v = .slice ao n cap ∧ n ≤ 9223372036854775807 ∧ (n = 0 ∨ ∃ g, ao = some ⟨g, 0, none⟩ ∧ g < w.heap.size ∧ ∀ k, k < n → w.cell? ⟨g, k * 2 + off, none⟩ = some (.int .i64 mark))
theorem Mk.on {off : Nat} {v : Value} {mark : Int} {w w' : World} {B : Nat} (h : Mk off v mark w) (hb : Below B w w') (hB : ∀ k, v.ownBlock = some k → k < B) : Mk off v mark w' := by
  obtain ⟨ao, n, cap, e, hn, h1⟩ := h
  refine ⟨ao, n, cap, e, hn, h1.imp id ?_⟩
  rintro ⟨g, e2, h2, h3⟩
  have hg : g < B := hB g (by rw [e, e2]; rfl)
  exact ⟨g, e2, Nat.lt_of_lt_of_le h2 hb.size, fun k hk => (hb.cell (p := ⟨g, k * 2 + off, none⟩) hg).trans (h3 k hk)⟩
theorem Mk.call {off : Nat} {v : Value} {mark : Int} {w w' : World} (h : Mk off v mark w) (hb : Below w.heap.size w w') : Mk off v mark w' := by
  obtain ⟨ao, n, cap, e, hn, h1⟩ := h
  refine ⟨ao, n, cap, e, hn, h1.imp id ?_⟩
  rintro ⟨g, e2, h2, h3⟩
  exact ⟨g, e2, Nat.lt_of_lt_of_le h2 hb.size, fun k hk => (hb.cell (p := ⟨g, k * 2 + off, none⟩) h2).trans (h3 k hk)⟩

set_option maxRecDepth 4000 in
set_option maxHeartbeats 1000000 in
theorem marked_any (v : Value) (mark : Int) (w : World) (h : Mk 0 v mark w) :
    Calls Tryz.prog 13 #[v, .int .i64 mark] w fun e w' => e = .returned (.bool true) ∧ w' = w := by
  obtain ⟨ao, n, cap, rfl, hn, h1⟩ := h
  have H1 := hid h1
  clear h1
  go_enter Tryz.func13, Tryz.ntmps13
  go_wp2
  go_loop [5] (fun iv => ∃ i : Nat, i ≤ n ∧ iv = .int .i64 i) (fun i => n - (intOf i).toNat)
  case atStart => exact ⟨0, by omega, rfl⟩
  case round =>
    obtain ⟨i, hin, rfl⟩ := hrel
    by_cases hlt : i < n
    · obtain ⟨g, rfl, hg, hc⟩ := H1.out.resolve_left (by omega)
      have c := hc i hlt
      rw [Nat.add_zero] at c
      have i0' : (0 : Int) ≤ (i : Nat) := by omega
      have i1' : ((i : Nat) : Int) < (n : Nat) := by omega
      clear hc
      go_wp2
      go_round
      case rel => exact ⟨i + 1, by omega, by go_num⟩
      case measure => simp [intOf]; omega
    · have hk' : ((n : Nat) : Int) ≤ (i : Nat) := by omega
      go_wp2
      go_ret
      exact ⟨rfl, rfl⟩

set_option maxRecDepth 4000 in
set_option maxHeartbeats 1000000 in
theorem shaped_any (v : Value) (mark : Int) (w : World) (h : Mk 1 v mark w) :
    Calls Tryz.prog 14 #[v, .int .i64 mark] w fun e w' => e = .returned (.bool true) ∧ w' = w := by
  obtain ⟨ao, n, cap, rfl, hn, h1⟩ := h
  have H1 := hid h1
  clear h1
  go_enter Tryz.func14, Tryz.ntmps14
  go_wp2
  go_loop [5] (fun iv => ∃ i : Nat, i ≤ n ∧ iv = .int .i64 i) (fun i => n - (intOf i).toNat)
  case atStart => exact ⟨0, by omega, rfl⟩
  case round =>
    obtain ⟨i, hin, rfl⟩ := hrel
    by_cases hlt : i < n
    · obtain ⟨g, rfl, hg, hc⟩ := H1.out.resolve_left (by omega)
      have c := hc i hlt
      have i0' : (0 : Int) ≤ (i : Nat) := by omega
      have i1' : ((i : Nat) : Int) < (n : Nat) := by omega
      clear hc
      go_wp2
      go_round
      case rel => exact ⟨i + 1, by omega, by go_num⟩
      case measure => simp [intOf]; omega
    · have hk' : ((n : Nat) : Int) ≤ (i : Nat) := by omega
      go_wp2
      go_ret
      exact ⟨rfl, rfl⟩

/-- What the book holds of a list: as it is, with one, two and three things behind it; its mark. -/
structure Rec where
  l : Value
  g : Value
  h : Value
  i : Value
  mark : Int
def recV (r : Rec) : List Value := [r.l, r.g, r.h, r.i, .int .i64 r.mark]
def recsV (P : List Rec) : List Value := P.flatMap recV
def rec0 : Rec := ⟨.slice none 0 0, .slice none 0 0, .slice none 0 0, .slice none 0 0, 0⟩
theorem recsV_at (P : List Rec) : ∀ j, j < P.length → (recsV P)[j * 5]? = some (P.getD j rec0).l ∧ (recsV P)[j * 5 + 1]? = some (P.getD j rec0).g ∧ (recsV P)[j * 5 + 2]? = some (P.getD j rec0).h ∧ (recsV P)[j * 5 + 3]? = some (P.getD j rec0).i ∧ (recsV P)[j * 5 + 4]? = some (.int .i64 (P.getD j rec0).mark) := by
  induction P with
  | nil => intro j hj; simp at hj
  | cons p l ih =>
    intro j hj
    cases j with
    | zero => simp [recsV, recV]
    | succ j =>
      have := ih j (by simpa using hj)
      have e : recsV (p :: l) = p.l :: p.g :: p.h :: p.i :: .int .i64 p.mark :: recsV l := by simp [recsV, recV]
      rw [e, show (j + 1) * 5 = j * 5 + 1 + 1 + 1 + 1 + 1 from by omega, show j * 5 + 1 + 1 + 1 + 1 + 1 + 1 = (j * 5 + 1) + 1 + 1 + 1 + 1 + 1 from by omega, show j * 5 + 1 + 1 + 1 + 1 + 1 + 2 = (j * 5 + 2) + 1 + 1 + 1 + 1 + 1 from by omega, show j * 5 + 1 + 1 + 1 + 1 + 1 + 3 = (j * 5 + 3) + 1 + 1 + 1 + 1 + 1 from by omega, show j * 5 + 1 + 1 + 1 + 1 + 1 + 4 = (j * 5 + 4) + 1 + 1 + 1 + 1 + 1 from by omega]
      simpa using this
/-- All four lists of a record read as its mark. -/
def MkR (off : Nat) (r : Rec) (w : World) : Prop := Mk off r.l r.mark w ∧ Mk off r.g r.mark w ∧ Mk off r.h r.mark w ∧ Mk off r.i r.mark w
theorem MkR.call {off : Nat} {r : Rec} {w w' : World} (h : MkR off r w) (hb : Below w.heap.size w w') : MkR off r w' := ⟨h.1.call hb, h.2.1.call hb, h.2.2.1.call hb, h.2.2.2.call hb⟩
theorem Mk.slice {off : Nat} {v : Value} {mark : Int} {w : World} (h : Mk off v mark w) : ∃ ao n cap, v = .slice ao n cap := by
  obtain ⟨ao, n, cap, e, _⟩ := h; exact ⟨ao, n, cap, e⟩

/-- A row of records, to be read. -/
def RecsAt (off : Nat) (v : Value) (P : List Rec) (w : World) : Prop :=
  (∃ ao cap, v = .slice ao P.length cap ∧ P.length ≤ 9223372036854775807 ∧ (P.length = 0 ∨ ∃ g, ao = some ⟨g, 0, none⟩ ∧ g < w.heap.size ∧ ∀ j u, (recsV P)[j]? = some u → w.cell? ⟨g, j, none⟩ = some u)) ∧ ∀ r ∈ P, MkR off r w
theorem RecsAt.call {off : Nat} {v : Value} {P : List Rec} {w w' : World} (h : RecsAt off v P w) (hb : Below w.heap.size w w') : RecsAt off v P w' := by
  refine ⟨?_, fun r hr => (h.2 r hr).call hb⟩
  obtain ⟨ao, cap, e, hn, h1⟩ := h.1
  refine ⟨ao, cap, e, hn, h1.imp id ?_⟩
  rintro ⟨g, e2, h2, h3⟩
  exact ⟨g, e2, Nat.lt_of_lt_of_le h2 hb.size, fun j u hu => (hb.cell (p := ⟨g, j, none⟩) h2).trans (h3 j u hu)⟩
/-- The book at block kb. -/
structure BookAt (kb : Nat) (N : Int) (vp vs : Value) (P S : List Rec) (w : World) : Prop where
  lt : kb < w.heap.size
  c0 : w.cell? ⟨kb, 0, none⟩ = some (.int .i64 N)
  c1 : w.cell? ⟨kb, 1, none⟩ = some vp
  c2 : w.cell? ⟨kb, 2, none⟩ = some vs
  p : RecsAt 0 vp P w
  s : RecsAt 1 vs S w
theorem BookAt.call {kb : Nat} {N : Int} {vp vs : Value} {P S : List Rec} {w w' : World} (h : BookAt kb N vp vs P S w) (hb : Below w.heap.size w w') : BookAt kb N vp vs P S w' :=
  ⟨Nat.lt_of_lt_of_le h.lt hb.size, (hb.cell (p := ⟨kb, 0, none⟩) h.lt).trans h.c0, (hb.cell (p := ⟨kb, 1, none⟩) h.lt).trans h.c1, (hb.cell (p := ⟨kb, 2, none⟩) h.lt).trans h.c2, h.p.call hb, h.s.call hb⟩
end Go.Proofs.YtljfiefobnncaabGreatDoor

/- outlinelaw: looks. -/
namespace Go.Proofs.YtljfiefobnncaabGreatDoor
open Go.RowKit

set_option maxRecDepth 4000 in
set_option maxHeartbeats 1000000 in
theorem looks_any (kb : Nat) (N : Int) (vp vs : Value) (P S : List Rec) (w : World) (h : BookAt kb N vp vs P S w) :
    Calls Tryz.prog 5 #[.pointer (some ⟨kb, 0, none⟩)] w fun e w' => e = .returned (.bool true) ∧ Below w.heap.size w w' := by
  obtain ⟨ap, cp, rfl, hnp, hp⟩ := h.p.1
  obtain ⟨asl, cs, rfl, hns, hs⟩ := h.s.1
  have HB := hid h
  obtain ⟨np, enp⟩ : ∃ np, np = P.length := ⟨_, rfl⟩
  obtain ⟨ns, ens⟩ : ∃ ns, ns = S.length := ⟨_, rfl⟩
  rw [← enp, ← ens] at HB
  rw [← enp] at hnp hp
  rw [← ens] at hns hs
  have HNp := hid enp
  have HNs := hid ens
  have HP := hid hp
  have HS := hid hs
  have BL0 := hid (Below.refl w.heap.size w)
  have c0 := HB.out.c0
  have c1 := HB.out.c1
  have c2 := HB.out.c2
  have kz0 := HB.out.lt
  clear h enp ens hp hs
  go_enter Tryz.func5, Tryz.ntmps5
  go_wp2
  go_loopw [3, 4] (fun ok iv wr => ∃ i : Nat, i ≤ np ∧ ok = .bool true ∧ iv = .int .i64 i ∧ Below w.heap.size w wr) (fun _ i _ => np - (intOf i).toNat)
  case atStart => exact ⟨0, by omega, rfl, rfl, BL0.out⟩
  case round =>
    clear c0 c1 c2 kz0 BL0
    obtain ⟨i, hin, rfl, rfl, hbl⟩ := hrel
    have BK := hid (HB.out.call hbl)
    have BL := hid hbl
    have c0 := BK.out.c0
    have c1 := BK.out.c1
    have c2 := BK.out.c2
    clear hbl
    by_cases hlt : i < np
    · obtain ⟨g, rfl, hg, hc⟩ := HP.out.resolve_left (by omega)
      have hiP : i < P.length := by have := HNp.out; omega
      obtain ⟨r, hr⟩ : ∃ r, r = P.getD i rec0 := ⟨_, rfl⟩
      have hmem : r ∈ P := by rw [hr, List.getD_eq_getElem?_getD, List.getElem?_eq_getElem hiP]; exact List.getElem_mem hiP
      have mk := BK.out.p.2 r hmem
      have rv := recsV_at P i hiP
      rw [← hr] at rv
      obtain ⟨rl, rg, rh, ri, mark⟩ := r
      obtain ⟨a1, n1, k1, rfl⟩ := mk.1.slice
      obtain ⟨a2, n2, k2, rfl⟩ := mk.2.1.slice
      obtain ⟨a3, n3, k3, rfl⟩ := mk.2.2.1.slice
      obtain ⟨a4, n4, k4, rfl⟩ := mk.2.2.2.slice
      dsimp only at rv
      have r0 := (BL.out.cell (p := ⟨g, i * 5, none⟩) hg).trans (hc _ _ rv.1)
      have r1 := (BL.out.cell (p := ⟨g, i * 5 + 1, none⟩) hg).trans (hc _ _ rv.2.1)
      have r2 := (BL.out.cell (p := ⟨g, i * 5 + 2, none⟩) hg).trans (hc _ _ rv.2.2.1)
      have r3 := (BL.out.cell (p := ⟨g, i * 5 + 3, none⟩) hg).trans (hc _ _ rv.2.2.2.1)
      have r4 := (BL.out.cell (p := ⟨g, i * 5 + 4, none⟩) hg).trans (hc _ _ rv.2.2.2.2)
      have MKH := hid mk
      have i0' : (0 : Int) ≤ (i : Nat) := by omega
      have i1' : ((i : Nat) : Int) < (np : Nat) := by omega
      have gz : g < wr.heap.size := Nat.lt_of_lt_of_le hg BL.out.size
      have kz : kb < wr.heap.size := BK.out.lt
      have wz := BL.out.size
      clear rv hr hmem mk hc
      go_wp2_with fail
      refine (marked_any _ mark _ (MKH.out.1.call ((Below.refl _ _).alloc (Nat.le_refl _) _))).mono ?_
      rintro e w1 ⟨rfl, rfl⟩
      go_wp2_with fail
      refine (marked_any _ mark _ (MKH.out.2.1.call ((Below.refl _ _).alloc (Nat.le_refl _) _))).mono ?_
      rintro e w1 ⟨rfl, rfl⟩
      go_wp2_with fail
      refine (marked_any _ mark _ (MKH.out.2.2.1.call ((Below.refl _ _).alloc (Nat.le_refl _) _))).mono ?_
      rintro e w1 ⟨rfl, rfl⟩
      go_wp2_with fail
      refine (marked_any _ mark _ (MKH.out.2.2.2.call ((Below.refl _ _).alloc (Nat.le_refl _) _))).mono ?_
      rintro e w1 ⟨rfl, rfl⟩
      go_wp2
      go_roundw
      case rel => exact ⟨i + 1, by omega, rfl, by go_num, BL.out.alloc wz _⟩
      case measure => simp [intOf]; omega
    · have hk' : ((np : Nat) : Int) ≤ (i : Nat) := by omega
      have kz0 := BK.out.lt
      have BL0 := BL
      go_wp2
      go_loopw [3, 10] (fun ok iv wr => ∃ i : Nat, i ≤ ns ∧ ok = .bool true ∧ iv = .int .i64 i ∧ Below w.heap.size w wr) (fun _ i _ => ns - (intOf i).toNat)
      case atStart => exact ⟨0, by omega, rfl, rfl, BL0.out⟩
      case round =>
        clear c0 c1 c2 kz0 BL0 BK BL hin hlt hk'
        obtain ⟨i, hin, rfl, rfl, hbl⟩ := hrel
        have BK := hid (HB.out.call hbl)
        have BL := hid hbl
        have c0 := BK.out.c0
        have c1 := BK.out.c1
        have c2 := BK.out.c2
        clear hbl
        by_cases hlt : i < ns
        · obtain ⟨g, rfl, hg, hc⟩ := HS.out.resolve_left (by omega)
          have hiP : i < S.length := by have := HNs.out; omega
          obtain ⟨r, hr⟩ : ∃ r, r = S.getD i rec0 := ⟨_, rfl⟩
          have hmem : r ∈ S := by rw [hr, List.getD_eq_getElem?_getD, List.getElem?_eq_getElem hiP]; exact List.getElem_mem hiP
          have mk := BK.out.s.2 r hmem
          have rv := recsV_at S i hiP
          rw [← hr] at rv
          obtain ⟨rl, rg, rh, ri, mark⟩ := r
          obtain ⟨a1, n1, k1, rfl⟩ := mk.1.slice
          obtain ⟨a2, n2, k2, rfl⟩ := mk.2.1.slice
          obtain ⟨a3, n3, k3, rfl⟩ := mk.2.2.1.slice
          obtain ⟨a4, n4, k4, rfl⟩ := mk.2.2.2.slice
          dsimp only at rv
          have r0 := (BL.out.cell (p := ⟨g, i * 5, none⟩) hg).trans (hc _ _ rv.1)
          have r1 := (BL.out.cell (p := ⟨g, i * 5 + 1, none⟩) hg).trans (hc _ _ rv.2.1)
          have r2 := (BL.out.cell (p := ⟨g, i * 5 + 2, none⟩) hg).trans (hc _ _ rv.2.2.1)
          have r3 := (BL.out.cell (p := ⟨g, i * 5 + 3, none⟩) hg).trans (hc _ _ rv.2.2.2.1)
          have r4 := (BL.out.cell (p := ⟨g, i * 5 + 4, none⟩) hg).trans (hc _ _ rv.2.2.2.2)
          have MKH := hid mk
          have i0' : (0 : Int) ≤ (i : Nat) := by omega
          have i1' : ((i : Nat) : Int) < (ns : Nat) := by omega
          have gz : g < wr.heap.size := Nat.lt_of_lt_of_le hg BL.out.size
          have kz : kb < wr.heap.size := BK.out.lt
          have wz := BL.out.size
          clear rv hr hmem mk hc
          go_wp2_with fail
          refine (shaped_any _ mark _ (MKH.out.1.call ((Below.refl _ _).alloc (Nat.le_refl _) _))).mono ?_
          rintro e w1 ⟨rfl, rfl⟩
          go_wp2_with fail
          refine (shaped_any _ mark _ (MKH.out.2.1.call ((Below.refl _ _).alloc (Nat.le_refl _) _))).mono ?_
          rintro e w1 ⟨rfl, rfl⟩
          go_wp2_with fail
          refine (shaped_any _ mark _ (MKH.out.2.2.1.call ((Below.refl _ _).alloc (Nat.le_refl _) _))).mono ?_
          rintro e w1 ⟨rfl, rfl⟩
          go_wp2_with fail
          refine (shaped_any _ mark _ (MKH.out.2.2.2.call ((Below.refl _ _).alloc (Nat.le_refl _) _))).mono ?_
          rintro e w1 ⟨rfl, rfl⟩
          go_wp2
          go_roundw
          case rel => exact ⟨i + 1, by omega, rfl, by go_num, BL.out.alloc wz _⟩
          case measure => simp [intOf]; omega
        · have hk' : ((ns : Nat) : Int) ≤ (i : Nat) := by omega
          go_wp2
          go_ret
          exact ⟨rfl, BL.out⟩
end Go.Proofs.YtljfiefobnncaabGreatDoor

/- append, and what becomes of the list that was appended to: it stays, and only what is new is written behind it. -/
namespace Go.Proofs.YtljfiefobnncaabGreatDoor
open Go.RowKit

theorem run_append_keeps {P : Program} (w : World) (base : Nat) (t ty e : TypeId) (i : TypeInfo) (z : Value) (size bytes : Nat) (ht : P.underlying t = some (.slice e)) (hi : P.info? e = some i) (hz : i.zero = some z)
    (hsize : i.size = size) (hby : i.bytes = bytes) (hzs : z.cells.size = size) (hsz : 0 < size)
    (v : Value) (n : Nat) (xs : List Value) (hown : w.ownsRow base e size v n xs)
    (a : Addr) (m c : Nat) (news : List Value) (hl : news.length = m * size) (hnews : ∀ j u, news[j]? = some u → w.cell? (a.add j) = some u) (h1 : ∀ u ∈ news, u.oneCell' = true)
    (h63 : n + m ≤ maxLen) (hbytes : (n + m) * bytes ≤ 140737488355328) (hbase : base ≤ w.heap.size) :
    ∃ v' w', (Builtin.append_ #[t, t] ty #[v, .slice (some a) m c]).run P w = .ok v' w' ∧ w'.ownsRow base e size v' (n + m) (xs ++ news) ∧ w.grownBy w' v.ownBlock ∧ (v'.ownBlock = v.ownBlock ∨ v'.ownBlock = some w.heap.size) ∧
      w'.ownsRow base e size v n xs ∧ (∀ g j u, v.ownBlock = some g → w.cell? ⟨g, j, none⟩ = some u → w'.cell? ⟨g, j, none⟩ = some u ∨ ∃ q, j = n * size + q ∧ w'.cell? ⟨g, j, none⟩ = news[q]? ∧ q < news.length) := by
  obtain ⟨v', w', hr, h2, h3, _, h5⟩ := run_append_own_at (P := P) w base t ty e i z size bytes ht hi hz hsize hby hzs hsz v n xs hown a m c news hl hnews h1 h63 hbytes hbase
  refine ⟨v', w', hr, h2, h3, h5, ?_⟩
  rcases hown.2 with ⟨rfl, rfl⟩ | ⟨g, cap, cur, rfl, hbg, hg, hnc, hcm, hcs, htake⟩
  · refine ⟨⟨by simpa using hown.1, .inl ⟨rfl, rfl⟩⟩, fun g j u hg => by simp [Value.ownBlock] at hg⟩
  · subst hsize
    by_cases hroom : n + m ≤ cap
    · have hfit : n * i.size + news.length ≤ cur.size := by rw [hl, hcs, ← Nat.add_mul]; exact Nat.mul_le_mul_right _ hroom
      have hr2 := run_append_room (P := P) w t ty e i ht hi g n cap cur hg a m c news hl hnews h1 hroom hfit
      rw [hr2] at hr
      injection hr with e1 e2
      subst e2
      obtain ⟨A, hA⟩ : ∃ A, A = n * i.size := ⟨_, rfl⟩
      rw [← hA] at hfit htake ⊢
      have hh := setRow_heap w g cur (cur.toList.take A ++ news ++ cur.toList.drop (A + news.length)).toArray e _ hg
      have ca : ∀ j, (w.setRow g (cur.toList.take A ++ news ++ cur.toList.drop (A + news.length)).toArray).cell? ⟨g, j, none⟩ = (cur.toList.take A ++ news ++ cur.toList.drop (A + news.length))[j]? := fun j => by
        simp only [World.cell?, hh]; simp
      have cb : ∀ j, w.cell? ⟨g, j, none⟩ = cur[j]? := fun j => by simp only [World.cell?, hg]; simp
      refine ⟨⟨hown.1, .inr ⟨g, cap, _, rfl, hbg, hh, hnc, hcm, ?_, ?_⟩⟩, fun g' j u hg' hu => ?_⟩
      · simp only [List.size_toArray, List.length_append, List.length_take, List.length_drop, Array.length_toList]
        omega
      · rw [← hA, List.append_assoc, List.take_append_of_le_length (by simp; omega)]
        simp only [List.take_take, Nat.min_self]
        exact htake
      · simp only [Value.ownBlock, Option.some.injEq] at hg'
        subst hg'
        rw [ca]
        rw [cb] at hu
        have hj : j < cur.size := (Array.getElem?_eq_some_iff.1 hu).1
        by_cases h6 : j < A
        · left
          rw [List.append_assoc, List.getElem?_append_left (by simp; omega), List.getElem?_take, if_pos h6]
          simpa using hu
        · by_cases h7 : j < A + news.length
          · right
            refine ⟨j - A, by omega, ?_, by omega⟩
            rw [List.append_assoc, List.getElem?_append_right (by simp; omega), List.getElem?_append_left (by simp; omega)]
            congr 1
            simp; omega
          · left
            rw [List.getElem?_append_right (by simp; omega), List.getElem?_drop]
            have e9 : A + news.length + (j - (cur.toList.take A ++ news).length) = j := by simp; omega
            rw [e9]
            simpa using hu
    · have holds : ∀ j u, xs[j]? = some u → w.cell? ((⟨g, 0, none⟩ : Addr).add j) = some u := hown.cells (g := g) rfl
      have hr2 := run_append_grow (P := P) w t ty e i z ht hi hz ⟨g, 0, none⟩ n cap xs hown.1 holds a m c news hl hnews (by omega) (by simp only [maxLen] at h63; omega) (growslice_fits (by omega) (by rw [hby]; exact hbytes))
      rw [hr2] at hr
      injection hr with e1 e2
      subst e2
      have hlt := (Array.getElem?_eq_some_iff.1 hg).1
      refine ⟨⟨hown.1, .inr ⟨g, cap, cur, rfl, hbg, ?_, hnc, hcm, hcs, htake⟩⟩, fun g' j u hg' hu => .inl ?_⟩
      · exact (Below.heap_alloc _ _ _ hlt).trans hg
      · simp only [Value.ownBlock, Option.some.injEq] at hg'
        subst hg'
        rw [← hu]
        exact World.cell?_of_block (a := ⟨g, j, none⟩) (Below.heap_alloc _ _ _ hlt)

/-- At the operation, for the walk. -/
theorem wpList_append_keeps {P : Program} {w : World} {ops : Array Oper} {rest : List Oper} {o : Oper} {a : Act} {Q : Exit → Act → World → Prop} (hgd : o.guard = none) (s x : Operand) (t : TypeId)
    (ho : o.op = .call { callee := .builtin .append, args := #[s, x], argTypes := #[t, t] })
    (base : Nat) (e : TypeId) (i : TypeInfo) (z : Value) (size bytes : Nat) (ht : P.underlying t = some (.slice e)) (hi : P.info? e = some i) (hz : i.zero = some z)
    (hsize : i.size = size) (hby : i.bytes = bytes) (hzs : z.cells.size = size) (hsz : 0 < size)
    (v : Value) (n : Nat) (xs : List Value) (hs : a.eval s = v) (hown : w.ownsRow base e size v n xs)
    (ad : Addr) (m c : Nat) (news : List Value) (hx : a.eval x = .slice (some ad) m c) (hl : news.length = m * size) (hnews : ∀ j u, news[j]? = some u → w.cell? (ad.add j) = some u) (h1 : ∀ u ∈ news, u.oneCell' = true)
    (h63 : n + m ≤ maxLen) (hbytes : (n + m) * bytes ≤ 140737488355328) (hbase : base ≤ w.heap.size)
    (h : ∀ v' w', Hid (w'.ownsRow base e size v' (n + m) (xs ++ news)) → Hid (w.grownBy w' v.ownBlock) → Hid (v'.ownBlock = v.ownBlock ∨ v'.ownBlock = some w.heap.size) → Hid (w'.ownsRow base e size v n xs) →
      Hid (∀ g j u, v.ownBlock = some g → w.cell? ⟨g, j, none⟩ = some u → w'.cell? ⟨g, j, none⟩ = some u ∨ ∃ q, j = n * size + q ∧ w'.cell? ⟨g, j, none⟩ = news[q]? ∧ q < news.length) → wpList P ops Q rest (a.put o.dst v') w') :
    wpList P ops Q (o :: rest) a w := by
  refine wpList_plain hgd fun K hK => ?_
  obtain ⟨v', w', hr, h2, h3, h4, h5, h6⟩ := run_append_keeps (P := P) w base t o.type e i z size bytes ht hi hz hsize hby hzs hsz v n xs hown ad m c news hl hnews h1 h63 hbytes hbase
  unfold Oper.wp execOp
  simp only [ho, resolve, invoke, builtin, Sem.run_bind, Sem.run_pure, Result.andThen_ok, List.map_toArray, List.map_cons, List.map_nil, hs, hx, hr]
  exact hK _ _ (h v' w' h2 h3 h4 h5 h6)
end Go.Proofs.YtljfiefobnncaabGreatDoor

/- The book: what is written into a list and behind it. -/
namespace Go.Proofs.YtljfiefobnncaabGreatDoor
open Go.RowKit

/-- A store into a row that is owned. -/
theorem own_set {w : World} {b : Nat} {e : TypeId} {z : Nat} {g n cap : Nat} {xs : List Value} (h : w.ownsRow b e z (.slice (some ⟨g, 0, none⟩) n cap) n xs) (j : Nat) (u : Value) : (w.setCell ⟨g, j, none⟩ u).ownsRow b e z (.slice (some ⟨g, 0, none⟩) n cap) n (xs.set j u) := by
  refine ⟨by rw [List.length_set]; exact h.1, ?_⟩
  rcases h.2 with ⟨h1, _⟩ | ⟨g', cap', cur, h1, hb, hg, hn, hm, hs, ht⟩
  · cases h1
  · injection h1 with h1 h2 h3
    injection h1 with h1
    injection h1 with h1 _ _
    subst h1 h3
    refine .inr ⟨g, cap, cur.setIfInBounds j u, rfl, hb, ?_, hn, hm, by simpa using hs, ?_⟩
    · simp only [World.setCell, Array.getElem?_modify, hg]
      simp
    · rw [← ht, Array.toList_setIfInBounds]
      exact List.take_set
theorem ptsV_set (l : List (Int × Int)) (p : Int × Int) : ∀ i, i < l.length → ((Qm.ptsV l).set (i * 2) (.int .i64 p.1)).set (i * 2 + 1) (.int .i64 p.2) = Qm.ptsV (l.set i p) := by
  induction l with
  | nil => intro i hi; simp at hi
  | cons q l ih =>
    intro i hi
    have e : ∀ (q : Int × Int) (l : List (Int × Int)), Qm.ptsV (q :: l) = .int .i64 q.1 :: .int .i64 q.2 :: Qm.ptsV l := fun q l => by simp [Qm.ptsV, Qm.ptV]
    cases i with
    | zero => show _ = Qm.ptsV (p :: l); rw [e, e]; rfl
    | succ i =>
      rw [e, List.set_cons_succ, e, ← ih i (by simpa using hi), show (i + 1) * 2 = i * 2 + 1 + 1 from by omega]
      rfl
/-- The first i points are the mark's, the others as they were. -/
def fillTo (l : List (Int × Int)) (p : Int × Int) (i : Nat) : List (Int × Int) := List.replicate i p ++ l.drop i
theorem fillTo_succ (l : List (Int × Int)) (p : Int × Int) (i : Nat) (hi : i < l.length) : (fillTo l p i).set i p = fillTo l p (i + 1) := by
  unfold fillTo
  apply List.ext_getElem?
  intro j
  rw [List.getElem?_set]
  simp only [List.length_append, List.length_replicate, List.length_drop]
  by_cases e : i = j
  · subst e
    rw [if_pos rfl, if_pos (by omega), List.getElem?_append_left (by simp), List.getElem?_replicate, if_pos (by omega)]
  · rw [if_neg e]
    by_cases h1 : j < i
    · rw [List.getElem?_append_left (by simpa using h1), List.getElem?_append_left (by simp; omega)]
      simp [List.getElem?_replicate, h1]; omega
    · rw [List.getElem?_append_right (by simp; omega), List.getElem?_append_right (by simp; omega)]
      simp only [List.length_replicate, List.getElem?_drop]
      congr 1; omega
theorem fillTo_len (l : List (Int × Int)) (p : Int × Int) (i : Nat) (hi : i ≤ l.length) : (fillTo l p i).length = l.length := by simp [fillTo]; omega

/-- Only the blocks of C, and new ones, have turned. -/
structure Fr (C : Nat → Prop) (w w' : World) : Prop where
  os : w'.os = w.os
  tape : w'.tape = w.tape
  output : w'.output = w.output
  size : w.heap.size ≤ w'.heap.size
  block : ∀ k, k < w.heap.size → ¬ C k → w'.heap[k]? = w.heap[k]?
theorem Fr.refl (C : Nat → Prop) (w : World) : Fr C w w := ⟨rfl, rfl, rfl, Nat.le_refl _, fun _ _ _ => rfl⟩
theorem Fr.trans {C : Nat → Prop} {a b c : World} (h : Fr C a b) (k : Fr C b c) : Fr C a c := ⟨k.os.trans h.os, k.tape.trans h.tape, k.output.trans h.output, Nat.le_trans h.size k.size, fun i hi hn => (k.block i (Nat.lt_of_lt_of_le hi h.size) hn).trans (h.block i hi hn)⟩
theorem Fr.below {C : Nat → Prop} {a b : World} (h : Below a.heap.size a b) : Fr C a b := ⟨h.os, h.tape, h.output, h.size, fun k hk _ => h.block k hk⟩
theorem Fr.grown {C : Nat → Prop} {a b : World} {r : Option Nat} (h : a.grownBy b r) (hr : ∀ k, r = some k → k < a.heap.size → C k) : Fr C a b := ⟨h.os, h.tape, h.output, h.size, fun k hk hn => h.block k hk (fun e => hn (hr k e.symm hk))⟩
theorem Fr.set {C : Nat → Prop} {a : World} {p : Addr} {u : Value} (h : C p.block) : Fr C a (a.setCell p u) := ⟨rfl, rfl, rfl, by rw [World.size_setCell]; exact Nat.le_refl _, fun k _ hn => Below.heap_setCell _ _ _ _ (fun e => hn (e ▸ h))⟩
theorem Fr.imp {C D : Nat → Prop} {a b : World} (h : Fr C a b) (hi : ∀ k, k < a.heap.size → C k → D k) : Fr D a b := ⟨h.os, h.tape, h.output, h.size, fun k hk hn => h.block k hk (fun c => hn (hi k hk c))⟩
theorem own_fr {C : Nat → Prop} {w w' : World} {b : Nat} {t : TypeId} {z : Nat} {v : Value} {n : Nat} {xs : List Value} (h : w.ownsRow b t z v n xs) (hf : Fr C w w') (hc : ∀ k, v.ownBlock = some k → ¬ C k) : w'.ownsRow b t z v n xs := by
  refine ⟨h.1, ?_⟩
  rcases h.2 with hn | ⟨g, cap, cur, rfl, hb, hg, rest⟩
  · exact .inl hn
  · exact .inr ⟨g, cap, cur, rfl, hb, (hf.block g (Array.getElem?_eq_some_iff.1 hg).1 (hc g rfl)).trans hg, rest⟩
theorem Mk.fr {C : Nat → Prop} {off : Nat} {v : Value} {mark : Int} {w w' : World} (h : Mk off v mark w) (hf : Fr C w w') (hc : ∀ k, v.ownBlock = some k → ¬ C k) : Mk off v mark w' := by
  obtain ⟨ao, n, cap, e, hn, h1⟩ := h
  refine ⟨ao, n, cap, e, hn, h1.imp id ?_⟩
  rintro ⟨g, e2, h2, h3⟩
  exact ⟨g, e2, Nat.lt_of_lt_of_le h2 hf.size, fun k hk => (World.cell?_of_block (a := ⟨g, k * 2 + off, none⟩) (hf.block g h2 (hc g (by rw [e, e2]; rfl)))).trans (h3 k hk)⟩
/-- A list of points that is owned and holds marks alone. -/
theorem own_mk {w : World} {b : Nat} {t : TypeId} {v : Value} {n : Nat} {mark : Int} (h : w.ownsRow b t 2 v n (Qm.ptsV (List.replicate n (mark, 0)))) : Mk 0 v mark w := by
  have hm := own_max h
  rcases h.2 with ⟨rfl, rfl⟩ | ⟨g, cap, cur, rfl, hb, hg, _⟩
  · exact ⟨none, 0, 0, rfl, by omega, .inl rfl⟩
  · refine ⟨some ⟨g, 0, none⟩, n, cap, rfl, hm, .inr ⟨g, rfl, (Array.getElem?_eq_some_iff.1 hg).1, fun k hk => ?_⟩⟩
    have p := ptsV_at (List.replicate n (mark, 0)) k (by simpa using hk)
    have := h.cells (g := g) rfl _ _ p.1
    rw [add_zero_at] at this
    rw [Nat.add_zero, this]
    simp [List.getD_eq_getElem?_getD, hk]
/-- .. behind an append to the list that it may share its block with: the same marks are written. -/
theorem Mk.app {w w' : World} {v u : Value} {n m : Nat} {mark : Int} (h : Mk 0 u mark w) (hg : w.grownBy w' v.ownBlock)
    (hk : ∀ g j x, v.ownBlock = some g → w.cell? ⟨g, j, none⟩ = some x → w'.cell? ⟨g, j, none⟩ = some x ∨ ∃ q, j = n * 2 + q ∧ w'.cell? ⟨g, j, none⟩ = (Qm.ptsV (List.replicate m (mark, 0)))[q]? ∧ q < (Qm.ptsV (List.replicate m (mark, 0))).length) : Mk 0 u mark w' := by
  obtain ⟨ao, k, cap, e, hn, h1⟩ := h
  refine ⟨ao, k, cap, e, hn, h1.imp id ?_⟩
  rintro ⟨g, e2, h2, h3⟩
  refine ⟨g, e2, Nat.lt_of_lt_of_le h2 hg.size, fun j hj => ?_⟩
  by_cases ev : v.ownBlock = some g
  · rcases hk g (j * 2 + 0) _ ev (h3 j hj) with h4 | ⟨q, h4, h5, h6⟩
    · exact h4
    · rw [h5]
      rw [Qm.ptsV_len, List.length_replicate] at h6
      have p := ptsV_at (List.replicate m (mark, 0)) (q / 2) (by simp; omega)
      rw [show q = q / 2 * 2 from by omega, p.1]
      simp [List.getD_eq_getElem?_getD, show q / 2 < m from by omega]
  · exact (World.cell?_of_block (a := ⟨g, j * 2 + 0, none⟩) (hg.block g h2 (fun e => ev e.symm))).trans (h3 j hj)
end Go.Proofs.YtljfiefobnncaabGreatDoor
