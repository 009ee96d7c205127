/- outlinelaw: marked, shaped, looks. -/
import Derived.Test.YtljfiefobnncaaaEa
namespace Go.Proofs.Ytljfiefobnncaaa
open Go.RowKit

/-- Each element of the list reads as the mark (in its cell number off of two). -/
def Mk (off : Nat) (v : Value) (mark : Int) (w : World) : Prop :=
  ∃ ao n cap, v = .slice ao n cap ∧ n ≤ 9223372036854775807 ∧ (n = 0 ∨ ∃ g, ao = some ⟨g, 0, none⟩ ∧ g < w.heap.size ∧ ∀ k, k < n → w.cell? ⟨g, k * 2 + off, none⟩ = some (.int .i64 mark))
theorem Mk.on {off : Nat} {v : Value} {mark : Int} {w w' : World} {B : Nat} (h : Mk off v mark w) (hb : Below B w w') (hB : ∀ k, v.ownBlock = some k → k < B) : Mk off v mark w' := by
  obtain ⟨ao, n, cap, e, hn, h1⟩ := h
  refine ⟨ao, n, cap, e, hn, h1.imp id ?_⟩
  rintro ⟨g, e2, h2, h3⟩
  have hg : g < B := hB g (by rw [e, e2]; rfl)
  exact ⟨g, e2, Nat.lt_of_lt_of_le h2 hb.size, fun k hk => (hb.cell (p := ⟨g, k * 2 + off, none⟩) hg).trans (h3 k hk)⟩
theorem Mk.call {off : Nat} {v : Value} {mark : Int} {w w' : World} (h : Mk off v mark w) (hb : Below w.heap.size w w') : Mk off v mark w' := by
  obtain ⟨ao, n, cap, e, hn, h1⟩ := h
  refine ⟨ao, n, cap, e, hn, h1.imp id ?_⟩
  rintro ⟨g, e2, h2, h3⟩
  exact ⟨g, e2, Nat.lt_of_lt_of_le h2 hb.size, fun k hk => (hb.cell (p := ⟨g, k * 2 + off, none⟩) h2).trans (h3 k hk)⟩

set_option maxRecDepth 4000 in
set_option maxHeartbeats 1000000 in
theorem marked_any (v : Value) (mark : Int) (w : World) (h : Mk 0 v mark w) :
    Calls Try.prog 39 #[v, .int .i64 mark] w fun e w' => e = .returned (.bool true) ∧ w' = w := by
  obtain ⟨ao, n, cap, rfl, hn, h1⟩ := h
  have H1 := hid h1
  clear h1
  go_enter Try.func39, Try.ntmps39
  go_wp2
  go_loop [5] (fun iv => ∃ i : Nat, i ≤ n ∧ iv = .int .i64 i) (fun i => n - (intOf i).toNat)
  case atStart => exact ⟨0, by omega, rfl⟩
  case round =>
    obtain ⟨i, hin, rfl⟩ := hrel
    by_cases hlt : i < n
    · obtain ⟨g, rfl, hg, hc⟩ := H1.out.resolve_left (by omega)
      have c := hc i hlt
      rw [Nat.add_zero] at c
      have i0' : (0 : Int) ≤ (i : Nat) := by omega
      have i1' : ((i : Nat) : Int) < (n : Nat) := by omega
      clear hc
      go_wp2
      go_round
      case rel => exact ⟨i + 1, by omega, by go_num⟩
      case measure => simp [intOf]; omega
    · have hk' : ((n : Nat) : Int) ≤ (i : Nat) := by omega
      go_wp2
      go_ret
      exact ⟨rfl, rfl⟩

set_option maxRecDepth 4000 in
set_option maxHeartbeats 1000000 in
theorem shaped_any (v : Value) (mark : Int) (w : World) (h : Mk 1 v mark w) :
    Calls Try.prog 40 #[v, .int .i64 mark] w fun e w' => e = .returned (.bool true) ∧ w' = w := by
  obtain ⟨ao, n, cap, rfl, hn, h1⟩ := h
  have H1 := hid h1
  clear h1
  go_enter Try.func40, Try.ntmps40
  go_wp2
  go_loop [5] (fun iv => ∃ i : Nat, i ≤ n ∧ iv = .int .i64 i) (fun i => n - (intOf i).toNat)
  case atStart => exact ⟨0, by omega, rfl⟩
  case round =>
    obtain ⟨i, hin, rfl⟩ := hrel
    by_cases hlt : i < n
    · obtain ⟨g, rfl, hg, hc⟩ := H1.out.resolve_left (by omega)
      have c := hc i hlt
      have i0' : (0 : Int) ≤ (i : Nat) := by omega
      have i1' : ((i : Nat) : Int) < (n : Nat) := by omega
      clear hc
      go_wp2
      go_round
      case rel => exact ⟨i + 1, by omega, by go_num⟩
      case measure => simp [intOf]; omega
    · have hk' : ((n : Nat) : Int) ≤ (i : Nat) := by omega
      go_wp2
      go_ret
      exact ⟨rfl, rfl⟩

/-- What the book holds of a list: as it is, with one, two and three things behind it; its mark. -/
structure Rec where
  l : Value
  g : Value
  h : Value
  i : Value
  mark : Int
def recV (r : Rec) : List Value := [r.l, r.g, r.h, r.i, .int .i64 r.mark]
def recsV (P : List Rec) : List Value := P.flatMap recV
def rec0 : Rec := ⟨.slice none 0 0, .slice none 0 0, .slice none 0 0, .slice none 0 0, 0⟩
theorem recsV_at (P : List Rec) : ∀ j, j < P.length → (recsV P)[j * 5]? = some (P.getD j rec0).l ∧ (recsV P)[j * 5 + 1]? = some (P.getD j rec0).g ∧ (recsV P)[j * 5 + 2]? = some (P.getD j rec0).h ∧ (recsV P)[j * 5 + 3]? = some (P.getD j rec0).i ∧ (recsV P)[j * 5 + 4]? = some (.int .i64 (P.getD j rec0).mark) := by
  induction P with
  | nil => intro j hj; simp at hj
  | cons p l ih =>
    intro j hj
    cases j with
    | zero => simp [recsV, recV]
    | succ j =>
      have := ih j (by simpa using hj)
      have e : recsV (p :: l) = p.l :: p.g :: p.h :: p.i :: .int .i64 p.mark :: recsV l := by simp [recsV, recV]
      rw [e, show (j + 1) * 5 = j * 5 + 1 + 1 + 1 + 1 + 1 from by omega, show j * 5 + 1 + 1 + 1 + 1 + 1 + 1 = (j * 5 + 1) + 1 + 1 + 1 + 1 + 1 from by omega, show j * 5 + 1 + 1 + 1 + 1 + 1 + 2 = (j * 5 + 2) + 1 + 1 + 1 + 1 + 1 from by omega, show j * 5 + 1 + 1 + 1 + 1 + 1 + 3 = (j * 5 + 3) + 1 + 1 + 1 + 1 + 1 from by omega, show j * 5 + 1 + 1 + 1 + 1 + 1 + 4 = (j * 5 + 4) + 1 + 1 + 1 + 1 + 1 from by omega]
      simpa using this
/-- All four lists of a record read as its mark. -/
def MkR (off : Nat) (r : Rec) (w : World) : Prop := Mk off r.l r.mark w ∧ Mk off r.g r.mark w ∧ Mk off r.h r.mark w ∧ Mk off r.i r.mark w
theorem MkR.call {off : Nat} {r : Rec} {w w' : World} (h : MkR off r w) (hb : Below w.heap.size w w') : MkR off r w' := ⟨h.1.call hb, h.2.1.call hb, h.2.2.1.call hb, h.2.2.2.call hb⟩
theorem Mk.slice {off : Nat} {v : Value} {mark : Int} {w : World} (h : Mk off v mark w) : ∃ ao n cap, v = .slice ao n cap := by
  obtain ⟨ao, n, cap, e, _⟩ := h; exact ⟨ao, n, cap, e⟩

/-- A row of records, to be read. -/
def RecsAt (off : Nat) (v : Value) (P : List Rec) (w : World) : Prop :=
  (∃ ao cap, v = .slice ao P.length cap ∧ P.length ≤ 9223372036854775807 ∧ (P.length = 0 ∨ ∃ g, ao = some ⟨g, 0, none⟩ ∧ g < w.heap.size ∧ ∀ j u, (recsV P)[j]? = some u → w.cell? ⟨g, j, none⟩ = some u)) ∧ ∀ r ∈ P, MkR off r w
theorem RecsAt.call {off : Nat} {v : Value} {P : List Rec} {w w' : World} (h : RecsAt off v P w) (hb : Below w.heap.size w w') : RecsAt off v P w' := by
  refine ⟨?_, fun r hr => (h.2 r hr).call hb⟩
  obtain ⟨ao, cap, e, hn, h1⟩ := h.1
  refine ⟨ao, cap, e, hn, h1.imp id ?_⟩
  rintro ⟨g, e2, h2, h3⟩
  exact ⟨g, e2, Nat.lt_of_lt_of_le h2 hb.size, fun j u hu => (hb.cell (p := ⟨g, j, none⟩) h2).trans (h3 j u hu)⟩
/-- The book at block kb. -/
structure BookAt (kb : Nat) (N : Int) (vp vs : Value) (P S : List Rec) (w : World) : Prop where
  lt : kb < w.heap.size
  c0 : w.cell? ⟨kb, 0, none⟩ = some (.int .i64 N)
  c1 : w.cell? ⟨kb, 1, none⟩ = some vp
  c2 : w.cell? ⟨kb, 2, none⟩ = some vs
  p : RecsAt 0 vp P w
  s : RecsAt 1 vs S w
theorem BookAt.call {kb : Nat} {N : Int} {vp vs : Value} {P S : List Rec} {w w' : World} (h : BookAt kb N vp vs P S w) (hb : Below w.heap.size w w') : BookAt kb N vp vs P S w' :=
  ⟨Nat.lt_of_lt_of_le h.lt hb.size, (hb.cell (p := ⟨kb, 0, none⟩) h.lt).trans h.c0, (hb.cell (p := ⟨kb, 1, none⟩) h.lt).trans h.c1, (hb.cell (p := ⟨kb, 2, none⟩) h.lt).trans h.c2, h.p.call hb, h.s.call hb⟩
end Go.Proofs.Ytljfiefobnncaaa
