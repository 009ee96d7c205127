/- The book, owned; mine. -/
import Derived.Test.YtljfiefobnncaaaDoorK32
import Derived.Deep.RegionHeld3
import Derived.Deep.RegionLaw
import Derived.Deep.DrawnRows
namespace Go.Proofs.YtljfiefobnncaaaDoor
open Go.RowKit
attribute [local go_sem ↓] Go.wp_at_zero Go.wp_at_succ

def Rec.all (r : Rec) : List Value := [r.l, r.g, r.h, r.i]
/-- The book, and that all that it holds lies apart. -/
structure OBook (kb N : Nat) (vp vs : Value) (P S : List Rec) (w : World) : Prop where
  lt : kb < w.heap.size
  c0 : w.cell? ⟨kb, 0, none⟩ = some (.int .i64 N)
  c1 : w.cell? ⟨kb, 1, none⟩ = some vp
  c2 : w.cell? ⟨kb, 2, none⟩ = some vs
  fz : ∀ j, w.frozen? ⟨kb, j, none⟩ = false
  po : w.ownsRow 0 64 5 vp P.length (recsV P)
  so : w.ownsRow 0 67 5 vs S.length (recsV S)
  mp : ∀ r ∈ P, MkR 0 r w
  ms : ∀ r ∈ S, MkR 1 r w
  a1 : vp.ownBlock ≠ some kb
  a2 : vs.ownBlock ≠ some kb
  a3 : ∀ k, vp.ownBlock = some k → vs.ownBlock ≠ some k
  far : ∀ r, r ∈ P ∨ r ∈ S → ∀ u ∈ r.all, ∀ k, u.ownBlock = some k → k ≠ kb ∧ vp.ownBlock ≠ some k ∧ vs.ownBlock ≠ some k
  old : ∀ r, r ∈ P ∨ r ∈ S → ∀ u ∈ r.all, ∀ k, u.ownBlock = some k → k < w.heap.size
  few : P.length + S.length ≤ N
theorem own_recs {w : World} {t : TypeId} {v : Value} {P : List Rec} {off : Nat} (h : w.ownsRow 0 t 5 v P.length (recsV P)) (hm : ∀ r ∈ P, MkR off r w) : RecsAt off v P w := by
  refine ⟨?_, hm⟩
  have hx := own_max h
  rcases h.2 with ⟨e, h0⟩ | ⟨g, cap, cur, e, hb, hg, _⟩
  · exact ⟨none, 0, by rw [e, h0], hx, .inl h0⟩
  · refine ⟨some ⟨g, 0, none⟩, cap, e, hx, .inr ⟨g, rfl, (Array.getElem?_eq_some_iff.1 hg).1, fun j u hu => ?_⟩⟩
    have := h.cells (g := g) (by rw [e]; rfl) j u hu
    rwa [add_zero_at] at this
theorem OBook.book {kb N : Nat} {vp vs : Value} {P S : List Rec} {w : World} (h : OBook kb N vp vs P S w) : BookAt kb N vp vs P S w := ⟨h.lt, h.c0, h.c1, h.c2, own_recs h.po h.mp, own_recs h.so h.ms⟩

theorem infoPts : (Tryd.prog.info? 64).map (fun i => (i.zero, i.size, i.bytes)) = some (some (.agg #[.slice none 0 0, .slice none 0 0, .slice none 0 0, .slice none 0 0, .int .i64 0]), 5, 104) := by kernel_rfl
theorem own_frozen {w : World} {b : Nat} {t : TypeId} {z g n cap : Nat} {xs : List Value} (h : w.ownsRow b t z (.slice (some ⟨g, 0, none⟩) n cap) n xs) (j : Nat) : w.frozen? ⟨g, j, none⟩ = false := by
  rcases h.2 with ⟨h1, _⟩ | ⟨g', cap', cur, h1, _, h2, _⟩
  · cases h1
  · injection h1 with h1 _ _; injection h1 with h1; injection h1 with h1 _ _
    subst h1
    simp [World.frozen?, h2]

/-- The book's own cells. -/
def KB (kb N : Nat) (vp vs : Value) (w : World) : Prop := kb < w.heap.size ∧ w.cell? ⟨kb, 0, none⟩ = some (.int .i64 N) ∧ w.cell? ⟨kb, 1, none⟩ = some vp ∧ w.cell? ⟨kb, 2, none⟩ = some vs ∧ ∀ j, w.frozen? ⟨kb, j, none⟩ = false
theorem KB.of {kb N : Nat} {vp vs : Value} {w w' : World} (h : KB kb N vp vs w) (hb : w'.heap[kb]? = w.heap[kb]?) (hz : w.heap.size ≤ w'.heap.size) : KB kb N vp vs w' :=
  ⟨Nat.lt_of_lt_of_le h.1 hz, (World.cell?_of_block (a := ⟨kb, 0, none⟩) hb).trans h.2.1, (World.cell?_of_block (a := ⟨kb, 1, none⟩) hb).trans h.2.2.1, (World.cell?_of_block (a := ⟨kb, 2, none⟩) hb).trans h.2.2.2.1, fun j => (World.frozen?_of_block (a := ⟨kb, j, none⟩) hb).trans (h.2.2.2.2 j)⟩
theorem KB.set0 {kb N : Nat} {vp vs : Value} {w : World} (h : KB kb N vp vs w) (M : Nat) : KB kb M vp vs (w.setCell ⟨kb, 0, none⟩ (.int .i64 M)) :=
  ⟨by rw [World.size_setCell]; exact h.1, World.cell?_setCell_same _ _ _ h.2.1, (World.cell?_setCell_other _ _ _ _ (by simp)).trans h.2.2.1, (World.cell?_setCell_other _ _ _ _ (by simp)).trans h.2.2.2.1, fun j => by simpa using h.2.2.2.2 j⟩
theorem KB.set1 {kb N : Nat} {vp vs : Value} {w : World} (h : KB kb N vp vs w) (v : Value) : KB kb N v vs (w.setCell ⟨kb, 1, none⟩ v) :=
  ⟨by rw [World.size_setCell]; exact h.1, (World.cell?_setCell_other _ _ _ _ (by simp)).trans h.2.1, World.cell?_setCell_same _ _ _ h.2.2.1, (World.cell?_setCell_other _ _ _ _ (by simp)).trans h.2.2.2.1, fun j => by simpa using h.2.2.2.2 j⟩
theorem KB.set2 {kb N : Nat} {vp vs : Value} {w : World} (h : KB kb N vp vs w) (v : Value) : KB kb N vp v (w.setCell ⟨kb, 2, none⟩ v) :=
  ⟨by rw [World.size_setCell]; exact h.1, (World.cell?_setCell_other _ _ _ _ (by simp)).trans h.2.1, (World.cell?_setCell_other _ _ _ _ (by simp)).trans h.2.2.1, World.cell?_setCell_same _ _ _ h.2.2.2.1, fun j => by simpa using h.2.2.2.2 j⟩
theorem KB.set {kb N : Nat} {vp vs : Value} {w : World} (h : KB kb N vp vs w) {g j : Nat} (v : Value) (hg : g ≠ kb) : KB kb N vp vs (w.setCell ⟨g, j, none⟩ v) := h.of (Below.heap_setCell _ _ _ _ (by dsimp; omega)) (by rw [World.size_setCell]; exact Nat.le_refl _)
theorem KB.gb {kb N : Nat} {vp vs : Value} {w w' : World} {r : Option Nat} (h : KB kb N vp vs w) (hg : w.grownBy w' r) (hr : r ≠ some kb) : KB kb N vp vs w' := h.of (hg.block kb h.1 (Ne.symm hr)) hg.size
theorem own_alloc {w : World} {b : Nat} {t : TypeId} {z : Nat} {v : Value} {n : Nat} {xs : List Value} (h : w.ownsRow b t z v n xs) (o : Obj) : (w.alloc o).ownsRow b t z v n xs := h.alloc o

theorem new_at (w : World) (g : Nat) (c : Array Value) (t : TypeId) (hg : g = w.heap.size) : ∀ j u, c.toList[j]? = some u → (w.alloc (.cells c t)).cell? ((⟨g, 0, none⟩ : Addr).add j) = some u := by
  subst hg
  intro j u hj
  rw [add_zero_at, World.cell?_alloc_new]
  simpa using hj
theorem marks_one (mk : Int) (k : Nat) : ∀ u ∈ Qm.ptsV (List.replicate k (mk, 0)), u.oneCell' = true := pts_one _
theorem marks_app (mk : Int) (n k : Nat) : Qm.ptsV (List.replicate (n + k) (mk, 0)) = Qm.ptsV (List.replicate n (mk, 0)) ++ Qm.ptsV (List.replicate k (mk, 0)) := by rw [← ptsV_app, List.replicate_append_replicate]

theorem recsV_snoc (P : List Rec) (r : Rec) : recsV (P ++ [r]) = recsV P ++ recV r := by simp [recsV]
theorem MkR.of {off : Nat} {r : Rec} {w : World} (h : ∀ u ∈ r.all, Mk off u r.mark w) : MkR off r w := ⟨h _ (by simp [Rec.all]), h _ (by simp [Rec.all]), h _ (by simp [Rec.all]), h _ (by simp [Rec.all])⟩
theorem MkR.get {off : Nat} {r : Rec} {w : World} (h : MkR off r w) : ∀ u ∈ r.all, Mk off u r.mark w := by
  intro u hu
  simp only [Rec.all, List.mem_cons, List.not_mem_nil, or_false] at hu
  rcases hu with rfl | rfl | rfl | rfl
  · exact h.1
  · exact h.2.1
  · exact h.2.2.1
  · exact h.2.2.2

theorem mine_done {kb N : Nat} {vp vs : Value} {P S : List Rec} {w w3 w4 : World} {gv gg capg : Nat} {r : Rec} {o : Obj} (HO : OBook kb N vp vs P S w) (b1 : gv ≠ kb) (b2 : vp.ownBlock ≠ some gv) (b3 : vs.ownBlock ≠ some gv) (b4 : ∀ r, r ∈ P ∨ r ∈ S → ∀ u ∈ r.all, u.ownBlock ≠ some gv) (gz : gv < w.heap.size)
    (F3 : Fr (fun k => k = kb ∨ k = gv) w w3) (M : ∀ u ∈ r.all, Mk 0 u r.mark w3) (B : ∀ u ∈ r.all, ∀ k, u.ownBlock = some k → (k = gv ∨ w.heap.size ≤ k) ∧ k < w3.heap.size)
    (O4 : w4.ownsRow 0 64 5 (.slice (some ⟨gg, 0, none⟩) (P.length + 1) capg) (P.length + 1) (recsV P ++ recV r)) (G4 : (w3.alloc o).drew.grownBy w4 vp.ownBlock) (A4 : vp.ownBlock = some gg ∨ gg = w3.heap.size + 1) (K4 : KB kb (N + 1) vp vs w4) :
    ∃ vp' r, OBook kb (N + 1) vp' vs (P ++ [r]) S (w4.setCell ⟨kb, 1, none⟩ (.slice (some ⟨gg, 0, none⟩) (P.length + 1) capg)) ∧ Fr (fun k => k = kb ∨ vp.ownBlock = some k ∨ k = gv) w (w4.setCell ⟨kb, 1, none⟩ (.slice (some ⟨gg, 0, none⟩) (P.length + 1) capg)) ∧
      (vp'.ownBlock = vp.ownBlock ∨ ∃ q, vp'.ownBlock = some q ∧ w.heap.size ≤ q) ∧ ∀ u ∈ r.all, ∀ k, u.ownBlock = some k → k = gv ∨ w.heap.size ≤ k := by
  have z3 := F3.size
  have z4 := G4.size
  simp at z4
  have vpl : ∀ k, vp.ownBlock = some k → k < w.heap.size := fun k hk => (HO.po.lt k hk).2
  have vsl : ∀ k, vs.ownBlock = some k → k < w.heap.size := fun k hk => (HO.so.lt k hk).2
  have kz := HO.lt
  have ggk : gg ≠ kb := by
    rcases A4 with h | h
    · intro e; subst e; exact HO.a1 h
    · omega
  have F34 : Fr (fun k => k = kb ∨ vp.ownBlock = some k) w3 (w4.setCell ⟨kb, 1, none⟩ (.slice (some ⟨gg, 0, none⟩) (P.length + 1) capg)) :=
    (Fr.below ((Below.refl _ _).alloc (Nat.le_refl _) o)).trans ((Fr.below (a := w3.alloc o) (b := (w3.alloc o).drew) ((Below.refl _ _).drew)).trans ((Fr.grown G4 (fun k hk _ => .inr hk)).trans (Fr.set (.inl rfl))))
  have FT : Fr (fun k => k = kb ∨ vp.ownBlock = some k ∨ k = gv) w (w4.setCell ⟨kb, 1, none⟩ (.slice (some ⟨gg, 0, none⟩) (P.length + 1) capg)) :=
    (F3.imp (fun k _ h => h.elim .inl (fun h => .inr (.inr h)))).trans (F34.imp (fun k _ h => h.elim .inl (fun h => .inr (.inl h))))
  have KF := KB.set1 K4 (.slice (some ⟨gg, 0, none⟩) (P.length + 1) capg)
  have oldC : ∀ r, r ∈ P ∨ r ∈ S → ∀ u ∈ r.all, ∀ k, u.ownBlock = some k → ¬ (k = kb ∨ vp.ownBlock = some k ∨ k = gv) := fun r hr u hu k hk hc => by
    have h := HO.far r hr u hu k hk
    rcases hc with hc | hc | hc
    · exact h.1 hc
    · exact h.2.1 hc
    · subst hc; exact b4 r hr u hu hk
  refine ⟨.slice (some ⟨gg, 0, none⟩) (P.length + 1) capg, r, ⟨KF.1, KF.2.1, KF.2.2.1, KF.2.2.2.1, KF.2.2.2.2, ?_, ?_, ?_, ?_, ?_, HO.a2, ?_, ?_, ?_, ?_⟩, FT, ?_, fun u hu k hk => (B u hu k hk).1⟩
  · rw [recsV_snoc, List.length_append]
    exact own_fr (C := fun k => k = kb) O4 (Fr.set rfl) (fun k hk => by simp [Value.ownBlock] at hk; omega)
  · refine own_fr HO.so FT fun k hk hc => ?_
    rcases hc with hc | hc | hc
    · subst hc; exact HO.a2 hk
    · exact HO.a3 k hc hk
    · subst hc; exact b3 hk
  · intro q hq
    rcases List.mem_append.1 hq with hq | hq
    · exact MkR.of fun u hu => ((HO.mp q hq).get u hu).fr FT (oldC q (.inl hq) u hu)
    · rw [List.mem_singleton] at hq; subst hq
      refine MkR.of fun u hu => (M u hu).fr F34 fun k hk hc => ?_
      have h := (B u hu k hk).1
      rcases hc with hc | hc
      · rcases h with h | h
        · omega
        · omega
      · rcases h with h | h
        · subst h; exact b2 hc
        · have := vpl k hc; omega
  · intro q hq
    exact MkR.of fun u hu => ((HO.ms q hq).get u hu).fr FT (oldC q (.inr hq) u hu)
  · intro e; simp [Value.ownBlock] at e; omega
  · intro k hk hv
    simp only [Value.ownBlock, Option.some.injEq] at hk
    subst hk
    rcases A4 with h | h
    · exact HO.a3 _ h hv
    · have := vsl _ hv; omega
  · intro q hq u hu k hk
    have new : q = r → k ≠ kb ∧ (Value.slice (some ⟨gg, 0, none⟩) (P.length + 1) capg).ownBlock ≠ some k ∧ vs.ownBlock ≠ some k := fun e => by
      subst e
      obtain ⟨h, h2⟩ := B u hu k hk
      refine ⟨by rcases h with h | h <;> omega, fun e => ?_, fun e => ?_⟩
      · simp only [Value.ownBlock, Option.some.injEq] at e
        subst e
        rcases A4 with h3 | h3
        · rcases h with h | h
          · subst h; exact b2 h3
          · have := vpl _ h3; omega
        · omega
      · rcases h with h | h
        · subst h; exact b3 e
        · have := vsl _ e; omega
    have old : q ∈ P ∨ q ∈ S → k ≠ kb ∧ (Value.slice (some ⟨gg, 0, none⟩) (P.length + 1) capg).ownBlock ≠ some k ∧ vs.ownBlock ≠ some k := fun hq => by
      have h := HO.far q hq u hu k hk
      have hl := HO.old q hq u hu k hk
      refine ⟨h.1, fun e => ?_, h.2.2⟩
      simp only [Value.ownBlock, Option.some.injEq] at e
      subst e
      rcases A4 with h3 | h3
      · exact h.2.1 h3
      · omega
    rcases hq with hq | hq
    · rcases List.mem_append.1 hq with hq | hq
      · exact old (.inl hq)
      · exact new (List.mem_singleton.1 hq)
    · exact old (.inr hq)
  · intro q hq u hu k hk
    have zf := FT.size
    have zg := F34.size
    rcases hq with hq | hq
    · rcases List.mem_append.1 hq with hq | hq
      · have := HO.old q (.inl hq) u hu k hk; omega
      · have e := List.mem_singleton.1 hq; subst e; have := (B u hu k hk).2; omega
    · have := HO.old q (.inr hq) u hu k hk; omega
  · have := HO.few; simp; omega
  · rcases A4 with h | h
    · left; rw [h]; rfl
    · right; exact ⟨gg, rfl, by omega⟩

end Go.Proofs.YtljfiefobnncaaaDoor
