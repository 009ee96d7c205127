import Derived.Test.YtljfiefobnncaaaDoorK29
import Derived.Test.YtljfiefobnncaaaDoorK26

/- outlinelaw: same, whole, of shapes of whatever points. -/
namespace Go.Proofs.YtljfiefobnncaaaDoor
open Go.RowKit

set_option maxRecDepth 4000 in
set_option maxHeartbeats 1000000 in
theorem sameS_any (ao bo : Option Addr) (n ca cb : Nat) (L : List ShT) (hn : n = L.length) (hn2 : n ≤ 140737488355328) (hm : ∀ i, (L.getD i sh0).1.length ≤ 140737488355328) (w : World) (hA : ShIs ao L w) (hB : ShIs bo L w) :
    Calls Tryd.prog 34 #[.slice ao n ca, .slice bo n cb] w fun e w' => e = .returned (.bool true) ∧ Below w.heap.size w w' := by
  have HA := hid hA
  have HB := hid hB
  have HM := hid hm
  have HN := hid hn
  clear hA hB hm hn
  go_enter Tryd.func34, Tryd.ntmps34
  go_wp2
  go_loopw [5] (fun iv wr => ∃ i : Nat, i ≤ n ∧ iv = .int .i64 i ∧ Hid (Below w.heap.size w wr)) (fun i _ => n - (intOf i).toNat)
  case atStart => exact ⟨0, by omega, rfl, Below.refl _ _⟩
  case round =>
    obtain ⟨i, hin, rfl, BL⟩ := hrel
    by_cases hlt : i < n
    · obtain ⟨ga, oa, rfl, hga, hca⟩ := HA.out.resolve_left (by have := HN.out; omega)
      obtain ⟨gb, ob, rfl, hgb, hcb⟩ := HB.out.resolve_left (by have := HN.out; omega)
      obtain ⟨pa, c1, a0, a1, a2⟩ := hca i (by have := HN.out; omega)
      obtain ⟨pb, c2, b0, b1, b2⟩ := hcb i (by have := HN.out; omega)
      have hmi := HM.out i
      obtain ⟨s, hs⟩ : ∃ s, s = L.getD i sh0 := ⟨_, rfl⟩
      rw [← hs] at a0 a1 a2 b0 b1 b2 hmi
      obtain ⟨ps, tw⟩ := s
      dsimp only at a0 a1 a2 b0 b1 b2 hmi
      obtain ⟨m, hmm⟩ : ∃ m, m = ps.length := ⟨_, rfl⟩
      rw [← hmm] at a0 a2 b0 b2 hmi
      have rd : ∀ wx : World, Below w.heap.size w wx → wx.cell? ⟨ga, oa + i * 2, none⟩ = some (.slice pa m c1) ∧ wx.cell? ⟨ga, oa + i * 2 + 1, none⟩ = some (.int .i64 tw) ∧ wx.cell? ⟨gb, ob + i * 2, none⟩ = some (.slice pb m c2) ∧ wx.cell? ⟨gb, ob + i * 2 + 1, none⟩ = some (.int .i64 tw) := fun wx hx =>
        ⟨(hx.cell (p := ⟨ga, oa + i * 2, none⟩) hga).trans a0, (hx.cell (p := ⟨ga, oa + i * 2 + 1, none⟩) hga).trans a1, (hx.cell (p := ⟨gb, ob + i * 2, none⟩) hgb).trans b0, (hx.cell (p := ⟨gb, ob + i * 2 + 1, none⟩) hgb).trans b1⟩
      have RD := hid rd
      have T1 := hid a2
      have T2 := hid b2
      have LPS := hid hmm
      have i0' : (0 : Int) ≤ (i : Nat) := by omega
      have i1' : ((i : Nat) : Int) < (n : Nat) := by omega
      clear rd a0 a1 a2 b0 b1 b2 hca hcb hs hmm
      obtain ⟨r0, r1, r2, r3⟩ := RD.out _ BL.out
      go_wp2_with fail
      go_quiet (fail)
      go_wp2
      go_loopw [6] (fun kv wr => ∃ k : Nat, k ≤ m ∧ kv = .int .i64 k ∧ Hid (Below w.heap.size w wr)) (fun k _ => m - (intOf k).toNat)
      case atStart => exact ⟨0, by omega, rfl, BL.out.trans ⟨rfl, rfl, rfl, Nat.le_refl _, fun _ _ => rfl⟩⟩
      case round =>
        clear r0 r1 r2 r3 BL
        obtain ⟨k, hkm, rfl, BL⟩ := hrel
        obtain ⟨r0, r1, r2, r3⟩ := RD.out _ BL.out
        by_cases hk : k < m
        · obtain ⟨g1, q1, rfl, t1⟩ := T1.out.resolve_left (by omega)
          obtain ⟨g2, q2, rfl, t2⟩ := T2.out.resolve_left (by omega)
          obtain ⟨x0, x1⟩ := (t1.on BL.out t1.1).2 k (by have := LPS.out; omega)
          obtain ⟨y0, y1⟩ := (t2.on BL.out t2.1).2 k (by have := LPS.out; omega)
          obtain ⟨⟨px, py⟩, hpp⟩ : ∃ p, p = ps.getD k (0, 0) := ⟨_, rfl⟩
          rw [← hpp] at x0 x1 y0 y1
          dsimp only at x0 x1 y0 y1
          have k0' : (0 : Int) ≤ (k : Nat) := by omega
          have k1' : ((k : Nat) : Int) < (m : Nat) := by omega
          clear hpp t1 t2
          go_wp2_with fail
          go_quiet (fail)
          go_wp2
          go_roundw
          case rel => exact ⟨k + 1, by omega, by go_num, BL.out.trans ⟨rfl, rfl, rfl, Nat.le_refl _, fun _ _ => rfl⟩⟩
          case measure => simp [intOf]; omega
        · have hk' : ((m : Nat) : Int) ≤ (k : Nat) := by omega
          go_wp2
          go_roundw
          case rel => exact ⟨i + 1, by omega, by go_num, BL⟩
          case measure => simp [intOf]; omega
    · have hk' : ((n : Nat) : Int) ≤ (i : Nat) := by omega
      go_wp2
      go_ret
      exact ⟨rfl, BL.out⟩

end Go.Proofs.YtljfiefobnncaaaDoor

/- outlinelaw: whole. -/
namespace Go.Proofs.YtljfiefobnncaaaDoor
open Go.RowKit

set_option maxRecDepth 4000 in
set_option maxHeartbeats 1000000 in
theorem whole_any (gl : Nat) (bo : Option Addr) (n cb : Nat) (L : List ShT) (hn : n = L.length) (hn2 : n ≤ 140737488355328) (hm : ∀ i, (L.getD i sh0).1.length ≤ 140737488355328) (w : World) (hA : RoomIs gl n L w) (hB : ShIs bo L w) :
    Calls Tryd.prog 31 #[.slice (some ⟨gl, 0, none⟩) n (n + 1), .slice bo n cb] w fun e w' => e = .returned (.bool true) ∧ Below w.heap.size w w' := by
  have HA := hid hA
  have SA := hid (sameS_any (some ⟨gl, 0, none⟩) bo n (n + 1) cb L hn hn2 hm w (hA.sh hn) hB)
  have HM := hid hm
  have gz := hA.lt
  clear hA hB hm hn
  go_enter Tryd.func31, Tryd.ntmps31
  go_wp2_with fail
  refine SA.out.mono ?_
  rintro e w1 ⟨rfl, hb1⟩
  have B1 := hid hb1
  have e1 := (HA.out.on hb1).end'
  have k1' : (0 : Int) ≤ (n : Nat) := by omega
  have k2' : ((n : Nat) : Int) < (n : Nat) + 1 := by omega
  clear hb1
  go_wp2_with fail
  go_loopw [8] (fun iv wr => ∃ i : Nat, i ≤ n ∧ iv = .int .i64 i ∧ Hid (Below w.heap.size w wr)) (fun i _ => n - (intOf i).toNat)
  case atStart => exact ⟨0, by omega, rfl, B1⟩
  case round =>
    clear e1
    obtain ⟨i, hin, rfl, BL⟩ := hrel
    by_cases hlt : i < n
    · obtain ⟨g, h1, h2, h3, h4, h5⟩ := (HA.out.on BL.out).old i hlt
      have hmi := HM.out i
      obtain ⟨m, hmm⟩ : ∃ m, m = (L.getD i sh0).1.length := ⟨_, rfl⟩
      rw [← hmm] at h2 h5 hmi
      have i0' : (0 : Int) ≤ (i : Nat) := by omega
      have i1' : ((i : Nat) : Int) < (n : Nat) := by omega
      have m1' : (0 : Int) ≤ (m : Nat) := by omega
      have m2' : ((m : Nat) : Int) < (m : Nat) + 1 := by omega
      clear h4 hmm h3
      go_wp2
      go_roundw
      case rel => exact ⟨i + 1, by omega, by go_num, BL⟩
      case measure => simp [intOf]; omega
    · have hk' : ((n : Nat) : Int) ≤ (i : Nat) := by omega
      go_wp2
      go_ret
      exact ⟨rfl, BL.out⟩

end Go.Proofs.YtljfiefobnncaaaDoor

/- outlinelaw: marked, shaped, looks. -/
namespace Go.Proofs.YtljfiefobnncaaaDoor
open Go.RowKit

/-- Each element of the list reads as the mark (in its cell number off of two). -/
def Mk (off : Nat) (v : Value) (mark : Int) (w : World) : Prop :=
  ∃ ao n cap, v = .slice ao n cap ∧ n ≤ 9223372036854775807 ∧ (n = 0 ∨ ∃ g, ao = some ⟨g, 0, none⟩ ∧ g < w.heap.size ∧ ∀ k, k < n → w.cell? ⟨g, k * 2 + off, none⟩ = some (.int .i64 mark))
theorem Mk.on {off : Nat} {v : Value} {mark : Int} {w w' : World} {B : Nat} (h : Mk off v mark w) (hb : Below B w w') (hB : ∀ k, v.ownBlock = some k → k < B) : Mk off v mark w' := by
  obtain ⟨ao, n, cap, e, hn, h1⟩ := h
  refine ⟨ao, n, cap, e, hn, h1.imp id ?_⟩
  rintro ⟨g, e2, h2, h3⟩
  have hg : g < B := hB g (by rw [e, e2]; rfl)
  exact ⟨g, e2, Nat.lt_of_lt_of_le h2 hb.size, fun k hk => (hb.cell (p := ⟨g, k * 2 + off, none⟩) hg).trans (h3 k hk)⟩
theorem Mk.call {off : Nat} {v : Value} {mark : Int} {w w' : World} (h : Mk off v mark w) (hb : Below w.heap.size w w') : Mk off v mark w' := by
  obtain ⟨ao, n, cap, e, hn, h1⟩ := h
  refine ⟨ao, n, cap, e, hn, h1.imp id ?_⟩
  rintro ⟨g, e2, h2, h3⟩
  exact ⟨g, e2, Nat.lt_of_lt_of_le h2 hb.size, fun k hk => (hb.cell (p := ⟨g, k * 2 + off, none⟩) h2).trans (h3 k hk)⟩

set_option maxRecDepth 4000 in
set_option maxHeartbeats 1000000 in
theorem marked_any (v : Value) (mark : Int) (w : World) (h : Mk 0 v mark w) :
    Calls Tryd.prog 36 #[v, .int .i64 mark] w fun e w' => e = .returned (.bool true) ∧ w' = w := by
  obtain ⟨ao, n, cap, rfl, hn, h1⟩ := h
  have H1 := hid h1
  clear h1
  go_enter Tryd.func36, Tryd.ntmps36
  go_wp2
  go_loop [5] (fun iv => ∃ i : Nat, i ≤ n ∧ iv = .int .i64 i) (fun i => n - (intOf i).toNat)
  case atStart => exact ⟨0, by omega, rfl⟩
  case round =>
    obtain ⟨i, hin, rfl⟩ := hrel
    by_cases hlt : i < n
    · obtain ⟨g, rfl, hg, hc⟩ := H1.out.resolve_left (by omega)
      have c := hc i hlt
      rw [Nat.add_zero] at c
      have i0' : (0 : Int) ≤ (i : Nat) := by omega
      have i1' : ((i : Nat) : Int) < (n : Nat) := by omega
      clear hc
      go_wp2
      go_round
      case rel => exact ⟨i + 1, by omega, by go_num⟩
      case measure => simp [intOf]; omega
    · have hk' : ((n : Nat) : Int) ≤ (i : Nat) := by omega
      go_wp2
      go_ret
      exact ⟨rfl, rfl⟩

set_option maxRecDepth 4000 in
set_option maxHeartbeats 1000000 in
theorem shaped_any (v : Value) (mark : Int) (w : World) (h : Mk 1 v mark w) :
    Calls Tryd.prog 37 #[v, .int .i64 mark] w fun e w' => e = .returned (.bool true) ∧ w' = w := by
  obtain ⟨ao, n, cap, rfl, hn, h1⟩ := h
  have H1 := hid h1
  clear h1
  go_enter Tryd.func37, Tryd.ntmps37
  go_wp2
  go_loop [5] (fun iv => ∃ i : Nat, i ≤ n ∧ iv = .int .i64 i) (fun i => n - (intOf i).toNat)
  case atStart => exact ⟨0, by omega, rfl⟩
  case round =>
    obtain ⟨i, hin, rfl⟩ := hrel
    by_cases hlt : i < n
    · obtain ⟨g, rfl, hg, hc⟩ := H1.out.resolve_left (by omega)
      have c := hc i hlt
      have i0' : (0 : Int) ≤ (i : Nat) := by omega
      have i1' : ((i : Nat) : Int) < (n : Nat) := by omega
      clear hc
      go_wp2
      go_round
      case rel => exact ⟨i + 1, by omega, by go_num⟩
      case measure => simp [intOf]; omega
    · have hk' : ((n : Nat) : Int) ≤ (i : Nat) := by omega
      go_wp2
      go_ret
      exact ⟨rfl, rfl⟩

/-- What the book holds of a list: as it is, with one, two and three things behind it; its mark. -/
structure Rec where
  l : Value
  g : Value
  h : Value
  i : Value
  mark : Int
def recV (r : Rec) : List Value := [r.l, r.g, r.h, r.i, .int .i64 r.mark]
def recsV (P : List Rec) : List Value := P.flatMap recV
def rec0 : Rec := ⟨.slice none 0 0, .slice none 0 0, .slice none 0 0, .slice none 0 0, 0⟩
theorem recsV_at (P : List Rec) : ∀ j, j < P.length → (recsV P)[j * 5]? = some (P.getD j rec0).l ∧ (recsV P)[j * 5 + 1]? = some (P.getD j rec0).g ∧ (recsV P)[j * 5 + 2]? = some (P.getD j rec0).h ∧ (recsV P)[j * 5 + 3]? = some (P.getD j rec0).i ∧ (recsV P)[j * 5 + 4]? = some (.int .i64 (P.getD j rec0).mark) := by
  induction P with
  | nil => intro j hj; simp at hj
  | cons p l ih =>
    intro j hj
    cases j with
    | zero => simp [recsV, recV]
    | succ j =>
      have := ih j (by simpa using hj)
      have e : recsV (p :: l) = p.l :: p.g :: p.h :: p.i :: .int .i64 p.mark :: recsV l := by simp [recsV, recV]
      rw [e, show (j + 1) * 5 = j * 5 + 1 + 1 + 1 + 1 + 1 from by omega, show j * 5 + 1 + 1 + 1 + 1 + 1 + 1 = (j * 5 + 1) + 1 + 1 + 1 + 1 + 1 from by omega, show j * 5 + 1 + 1 + 1 + 1 + 1 + 2 = (j * 5 + 2) + 1 + 1 + 1 + 1 + 1 from by omega, show j * 5 + 1 + 1 + 1 + 1 + 1 + 3 = (j * 5 + 3) + 1 + 1 + 1 + 1 + 1 from by omega, show j * 5 + 1 + 1 + 1 + 1 + 1 + 4 = (j * 5 + 4) + 1 + 1 + 1 + 1 + 1 from by omega]
      simpa using this
/-- All four lists of a record read as its mark. -/
def MkR (off : Nat) (r : Rec) (w : World) : Prop := Mk off r.l r.mark w ∧ Mk off r.g r.mark w ∧ Mk off r.h r.mark w ∧ Mk off r.i r.mark w
theorem MkR.call {off : Nat} {r : Rec} {w w' : World} (h : MkR off r w) (hb : Below w.heap.size w w') : MkR off r w' := ⟨h.1.call hb, h.2.1.call hb, h.2.2.1.call hb, h.2.2.2.call hb⟩
theorem Mk.slice {off : Nat} {v : Value} {mark : Int} {w : World} (h : Mk off v mark w) : ∃ ao n cap, v = .slice ao n cap := by
  obtain ⟨ao, n, cap, e, _⟩ := h; exact ⟨ao, n, cap, e⟩

/-- A row of records, to be read. -/
def RecsAt (off : Nat) (v : Value) (P : List Rec) (w : World) : Prop :=
  (∃ ao cap, v = .slice ao P.length cap ∧ P.length ≤ 9223372036854775807 ∧ (P.length = 0 ∨ ∃ g, ao = some ⟨g, 0, none⟩ ∧ g < w.heap.size ∧ ∀ j u, (recsV P)[j]? = some u → w.cell? ⟨g, j, none⟩ = some u)) ∧ ∀ r ∈ P, MkR off r w
theorem RecsAt.call {off : Nat} {v : Value} {P : List Rec} {w w' : World} (h : RecsAt off v P w) (hb : Below w.heap.size w w') : RecsAt off v P w' := by
  refine ⟨?_, fun r hr => (h.2 r hr).call hb⟩
  obtain ⟨ao, cap, e, hn, h1⟩ := h.1
  refine ⟨ao, cap, e, hn, h1.imp id ?_⟩
  rintro ⟨g, e2, h2, h3⟩
  exact ⟨g, e2, Nat.lt_of_lt_of_le h2 hb.size, fun j u hu => (hb.cell (p := ⟨g, j, none⟩) h2).trans (h3 j u hu)⟩
/-- The book at block kb. -/
structure BookAt (kb : Nat) (N : Int) (vp vs : Value) (P S : List Rec) (w : World) : Prop where
  lt : kb < w.heap.size
  c0 : w.cell? ⟨kb, 0, none⟩ = some (.int .i64 N)
  c1 : w.cell? ⟨kb, 1, none⟩ = some vp
  c2 : w.cell? ⟨kb, 2, none⟩ = some vs
  p : RecsAt 0 vp P w
  s : RecsAt 1 vs S w
theorem BookAt.call {kb : Nat} {N : Int} {vp vs : Value} {P S : List Rec} {w w' : World} (h : BookAt kb N vp vs P S w) (hb : Below w.heap.size w w') : BookAt kb N vp vs P S w' :=
  ⟨Nat.lt_of_lt_of_le h.lt hb.size, (hb.cell (p := ⟨kb, 0, none⟩) h.lt).trans h.c0, (hb.cell (p := ⟨kb, 1, none⟩) h.lt).trans h.c1, (hb.cell (p := ⟨kb, 2, none⟩) h.lt).trans h.c2, h.p.call hb, h.s.call hb⟩
end Go.Proofs.YtljfiefobnncaaaDoor
