import Derived.Test.YtljfiefobnncaabGreatDoorK06
import Derived.Deep.RegionHeld3
import Derived.Deep.RegionLaw
import Derived.Deep.DrawnRows

/- The book, owned; mine. -/
namespace Go.Proofs.YtljfiefobnncaabGreatDoor
open Go.RowKit
attribute [local go_sem ↓] Go.wp_at_zero Go.wp_at_succ

def Rec.all (r : Rec) : List Value := [r.l, r.g, r.h, r.i]
/-- The book, and that all that it holds lies apart. -/
structure OBook (kb N : Nat) (vp vs : Value) (P S : List Rec) (w : World) : Prop where
  lt : kb < w.heap.size
  c0 : w.cell? ⟨kb, 0, none⟩ = some (.int .i64 N)
  c1 : w.cell? ⟨kb, 1, none⟩ = some vp
  c2 : w.cell? ⟨kb, 2, none⟩ = some vs
  fz : ∀ j, w.frozen? ⟨kb, j, none⟩ = false
  po : w.ownsRow 0 45 5 vp P.length (recsV P)
  so : w.ownsRow 0 48 5 vs S.length (recsV S)
  mp : ∀ r ∈ P, MkR 0 r w
  ms : ∀ r ∈ S, MkR 1 r w
  a1 : vp.ownBlock ≠ some kb
  a2 : vs.ownBlock ≠ some kb
  a3 : ∀ k, vp.ownBlock = some k → vs.ownBlock ≠ some k
  far : ∀ r, r ∈ P ∨ r ∈ S → ∀ u ∈ r.all, ∀ k, u.ownBlock = some k → k ≠ kb ∧ vp.ownBlock ≠ some k ∧ vs.ownBlock ≠ some k
  old : ∀ r, r ∈ P ∨ r ∈ S → ∀ u ∈ r.all, ∀ k, u.ownBlock = some k → k < w.heap.size
  few : P.length + S.length ≤ N
theorem own_recs {w : World} {t : TypeId} {v : Value} {P : List Rec} {off : Nat} (h : w.ownsRow 0 t 5 v P.length (recsV P)) (hm : ∀ r ∈ P, MkR off r w) : RecsAt off v P w := by
  refine ⟨?_, hm⟩
  have hx := own_max h
  rcases h.2 with ⟨e, h0⟩ | ⟨g, cap, cur, e, hb, hg, _⟩
  · exact ⟨none, 0, by rw [e, h0], hx, .inl h0⟩
  · refine ⟨some ⟨g, 0, none⟩, cap, e, hx, .inr ⟨g, rfl, (Array.getElem?_eq_some_iff.1 hg).1, fun j u hu => ?_⟩⟩
    have := h.cells (g := g) (by rw [e]; rfl) j u hu
    rwa [add_zero_at] at this
theorem OBook.book {kb N : Nat} {vp vs : Value} {P S : List Rec} {w : World} (h : OBook kb N vp vs P S w) : BookAt kb N vp vs P S w := ⟨h.lt, h.c0, h.c1, h.c2, own_recs h.po h.mp, own_recs h.so h.ms⟩

theorem infoPts : (Tryz.prog.info? 45).map (fun i => (i.zero, i.size, i.bytes)) = some (some (.agg #[.slice none 0 0, .slice none 0 0, .slice none 0 0, .slice none 0 0, .int .i64 0]), 5, 104) := by kernel_rfl
theorem own_frozen {w : World} {b : Nat} {t : TypeId} {z g n cap : Nat} {xs : List Value} (h : w.ownsRow b t z (.slice (some ⟨g, 0, none⟩) n cap) n xs) (j : Nat) : w.frozen? ⟨g, j, none⟩ = false := by
  rcases h.2 with ⟨h1, _⟩ | ⟨g', cap', cur, h1, _, h2, _⟩
  · cases h1
  · injection h1 with h1 _ _; injection h1 with h1; injection h1 with h1 _ _
    subst h1
    simp [World.frozen?, h2]

/-- The book's own cells. -/
def KB (kb N : Nat) (vp vs : Value) (w : World) : Prop := kb < w.heap.size ∧ w.cell? ⟨kb, 0, none⟩ = some (.int .i64 N) ∧ w.cell? ⟨kb, 1, none⟩ = some vp ∧ w.cell? ⟨kb, 2, none⟩ = some vs ∧ ∀ j, w.frozen? ⟨kb, j, none⟩ = false
theorem KB.of {kb N : Nat} {vp vs : Value} {w w' : World} (h : KB kb N vp vs w) (hb : w'.heap[kb]? = w.heap[kb]?) (hz : w.heap.size ≤ w'.heap.size) : KB kb N vp vs w' :=
  ⟨Nat.lt_of_lt_of_le h.1 hz, (World.cell?_of_block (a := ⟨kb, 0, none⟩) hb).trans h.2.1, (World.cell?_of_block (a := ⟨kb, 1, none⟩) hb).trans h.2.2.1, (World.cell?_of_block (a := ⟨kb, 2, none⟩) hb).trans h.2.2.2.1, fun j => (World.frozen?_of_block (a := ⟨kb, j, none⟩) hb).trans (h.2.2.2.2 j)⟩
theorem KB.set0 {kb N : Nat} {vp vs : Value} {w : World} (h : KB kb N vp vs w) (M : Nat) : KB kb M vp vs (w.setCell ⟨kb, 0, none⟩ (.int .i64 M)) :=
  ⟨by rw [World.size_setCell]; exact h.1, World.cell?_setCell_same _ _ _ h.2.1, (World.cell?_setCell_other _ _ _ _ (by simp)).trans h.2.2.1, (World.cell?_setCell_other _ _ _ _ (by simp)).trans h.2.2.2.1, fun j => by simpa using h.2.2.2.2 j⟩
theorem KB.set1 {kb N : Nat} {vp vs : Value} {w : World} (h : KB kb N vp vs w) (v : Value) : KB kb N v vs (w.setCell ⟨kb, 1, none⟩ v) :=
  ⟨by rw [World.size_setCell]; exact h.1, (World.cell?_setCell_other _ _ _ _ (by simp)).trans h.2.1, World.cell?_setCell_same _ _ _ h.2.2.1, (World.cell?_setCell_other _ _ _ _ (by simp)).trans h.2.2.2.1, fun j => by simpa using h.2.2.2.2 j⟩
theorem KB.set2 {kb N : Nat} {vp vs : Value} {w : World} (h : KB kb N vp vs w) (v : Value) : KB kb N vp v (w.setCell ⟨kb, 2, none⟩ v) :=
  ⟨by rw [World.size_setCell]; exact h.1, (World.cell?_setCell_other _ _ _ _ (by simp)).trans h.2.1, (World.cell?_setCell_other _ _ _ _ (by simp)).trans h.2.2.1, World.cell?_setCell_same _ _ _ h.2.2.2.1, fun j => by simpa using h.2.2.2.2 j⟩
theorem KB.set {kb N : Nat} {vp vs : Value} {w : World} (h : KB kb N vp vs w) {g j : Nat} (v : Value) (hg : g ≠ kb) : KB kb N vp vs (w.setCell ⟨g, j, none⟩ v) := h.of (Below.heap_setCell _ _ _ _ (by dsimp; omega)) (by rw [World.size_setCell]; exact Nat.le_refl _)
theorem KB.gb {kb N : Nat} {vp vs : Value} {w w' : World} {r : Option Nat} (h : KB kb N vp vs w) (hg : w.grownBy w' r) (hr : r ≠ some kb) : KB kb N vp vs w' := h.of (hg.block kb h.1 (Ne.symm hr)) hg.size
theorem own_alloc {w : World} {b : Nat} {t : TypeId} {z : Nat} {v : Value} {n : Nat} {xs : List Value} (h : w.ownsRow b t z v n xs) (o : Obj) : (w.alloc o).ownsRow b t z v n xs := h.alloc o

theorem new_at (w : World) (g : Nat) (c : Array Value) (t : TypeId) (hg : g = w.heap.size) : ∀ j u, c.toList[j]? = some u → (w.alloc (.cells c t)).cell? ((⟨g, 0, none⟩ : Addr).add j) = some u := by
  subst hg
  intro j u hj
  rw [add_zero_at, World.cell?_alloc_new]
  simpa using hj
theorem marks_one (mk : Int) (k : Nat) : ∀ u ∈ Qm.ptsV (List.replicate k (mk, 0)), u.oneCell' = true := pts_one _
theorem marks_app (mk : Int) (n k : Nat) : Qm.ptsV (List.replicate (n + k) (mk, 0)) = Qm.ptsV (List.replicate n (mk, 0)) ++ Qm.ptsV (List.replicate k (mk, 0)) := by rw [← ptsV_app, List.replicate_append_replicate]

theorem recsV_snoc (P : List Rec) (r : Rec) : recsV (P ++ [r]) = recsV P ++ recV r := by simp [recsV]
theorem MkR.of {off : Nat} {r : Rec} {w : World} (h : ∀ u ∈ r.all, Mk off u r.mark w) : MkR off r w := ⟨h _ (by simp [Rec.all]), h _ (by simp [Rec.all]), h _ (by simp [Rec.all]), h _ (by simp [Rec.all])⟩
theorem MkR.get {off : Nat} {r : Rec} {w : World} (h : MkR off r w) : ∀ u ∈ r.all, Mk off u r.mark w := by
  intro u hu
  simp only [Rec.all, List.mem_cons, List.not_mem_nil, or_false] at hu
  rcases hu with rfl | rfl | rfl | rfl
  · exact h.1
  · exact h.2.1
  · exact h.2.2.1
  · exact h.2.2.2

theorem mine_done {kb N : Nat} {vp vs : Value} {P S : List Rec} {w w3 w4 : World} {gv gg capg : Nat} {r : Rec} {o : Obj} (HO : OBook kb N vp vs P S w) (b1 : gv ≠ kb) (b2 : vp.ownBlock ≠ some gv) (b3 : vs.ownBlock ≠ some gv) (b4 : ∀ r, r ∈ P ∨ r ∈ S → ∀ u ∈ r.all, u.ownBlock ≠ some gv) (gz : gv < w.heap.size)
    (F3 : Fr (fun k => k = kb ∨ k = gv) w w3) (M : ∀ u ∈ r.all, Mk 0 u r.mark w3) (B : ∀ u ∈ r.all, ∀ k, u.ownBlock = some k → (k = gv ∨ w.heap.size ≤ k) ∧ k < w3.heap.size)
    (O4 : w4.ownsRow 0 45 5 (.slice (some ⟨gg, 0, none⟩) (P.length + 1) capg) (P.length + 1) (recsV P ++ recV r)) (G4 : (w3.alloc o).drew.grownBy w4 vp.ownBlock) (A4 : vp.ownBlock = some gg ∨ gg = w3.heap.size + 1) (K4 : KB kb (N + 1) vp vs w4) :
    ∃ vp' r, OBook kb (N + 1) vp' vs (P ++ [r]) S (w4.setCell ⟨kb, 1, none⟩ (.slice (some ⟨gg, 0, none⟩) (P.length + 1) capg)) ∧ Fr (fun k => k = kb ∨ vp.ownBlock = some k ∨ k = gv) w (w4.setCell ⟨kb, 1, none⟩ (.slice (some ⟨gg, 0, none⟩) (P.length + 1) capg)) ∧
      (vp'.ownBlock = vp.ownBlock ∨ ∃ q, vp'.ownBlock = some q ∧ w.heap.size ≤ q) ∧ ∀ u ∈ r.all, ∀ k, u.ownBlock = some k → k = gv ∨ w.heap.size ≤ k := by
  have z3 := F3.size
  have z4 := G4.size
  simp at z4
  have vpl : ∀ k, vp.ownBlock = some k → k < w.heap.size := fun k hk => (HO.po.lt k hk).2
  have vsl : ∀ k, vs.ownBlock = some k → k < w.heap.size := fun k hk => (HO.so.lt k hk).2
  have kz := HO.lt
  have ggk : gg ≠ kb := by
    rcases A4 with h | h
    · intro e; subst e; exact HO.a1 h
    · omega
  have F34 : Fr (fun k => k = kb ∨ vp.ownBlock = some k) w3 (w4.setCell ⟨kb, 1, none⟩ (.slice (some ⟨gg, 0, none⟩) (P.length + 1) capg)) :=
    (Fr.below ((Below.refl _ _).alloc (Nat.le_refl _) o)).trans ((Fr.below (a := w3.alloc o) (b := (w3.alloc o).drew) ((Below.refl _ _).drew)).trans ((Fr.grown G4 (fun k hk _ => .inr hk)).trans (Fr.set (.inl rfl))))
  have FT : Fr (fun k => k = kb ∨ vp.ownBlock = some k ∨ k = gv) w (w4.setCell ⟨kb, 1, none⟩ (.slice (some ⟨gg, 0, none⟩) (P.length + 1) capg)) :=
    (F3.imp (fun k _ h => h.elim .inl (fun h => .inr (.inr h)))).trans (F34.imp (fun k _ h => h.elim .inl (fun h => .inr (.inl h))))
  have KF := KB.set1 K4 (.slice (some ⟨gg, 0, none⟩) (P.length + 1) capg)
  have oldC : ∀ r, r ∈ P ∨ r ∈ S → ∀ u ∈ r.all, ∀ k, u.ownBlock = some k → ¬ (k = kb ∨ vp.ownBlock = some k ∨ k = gv) := fun r hr u hu k hk hc => by
    have h := HO.far r hr u hu k hk
    rcases hc with hc | hc | hc
    · exact h.1 hc
    · exact h.2.1 hc
    · subst hc; exact b4 r hr u hu hk
  refine ⟨.slice (some ⟨gg, 0, none⟩) (P.length + 1) capg, r, ⟨KF.1, KF.2.1, KF.2.2.1, KF.2.2.2.1, KF.2.2.2.2, ?_, ?_, ?_, ?_, ?_, HO.a2, ?_, ?_, ?_, ?_⟩, FT, ?_, fun u hu k hk => (B u hu k hk).1⟩
  · rw [recsV_snoc, List.length_append]
    exact own_fr (C := fun k => k = kb) O4 (Fr.set rfl) (fun k hk => by simp [Value.ownBlock] at hk; omega)
  · refine own_fr HO.so FT fun k hk hc => ?_
    rcases hc with hc | hc | hc
    · subst hc; exact HO.a2 hk
    · exact HO.a3 k hc hk
    · subst hc; exact b3 hk
  · intro q hq
    rcases List.mem_append.1 hq with hq | hq
    · exact MkR.of fun u hu => ((HO.mp q hq).get u hu).fr FT (oldC q (.inl hq) u hu)
    · rw [List.mem_singleton] at hq; subst hq
      refine MkR.of fun u hu => (M u hu).fr F34 fun k hk hc => ?_
      have h := (B u hu k hk).1
      rcases hc with hc | hc
      · rcases h with h | h
        · omega
        · omega
      · rcases h with h | h
        · subst h; exact b2 hc
        · have := vpl k hc; omega
  · intro q hq
    exact MkR.of fun u hu => ((HO.ms q hq).get u hu).fr FT (oldC q (.inr hq) u hu)
  · intro e; simp [Value.ownBlock] at e; omega
  · intro k hk hv
    simp only [Value.ownBlock, Option.some.injEq] at hk
    subst hk
    rcases A4 with h | h
    · exact HO.a3 _ h hv
    · have := vsl _ hv; omega
  · intro q hq u hu k hk
    have new : q = r → k ≠ kb ∧ (Value.slice (some ⟨gg, 0, none⟩) (P.length + 1) capg).ownBlock ≠ some k ∧ vs.ownBlock ≠ some k := fun e => by
      subst e
      obtain ⟨h, h2⟩ := B u hu k hk
      refine ⟨by rcases h with h | h <;> omega, fun e => ?_, fun e => ?_⟩
      · simp only [Value.ownBlock, Option.some.injEq] at e
        subst e
        rcases A4 with h3 | h3
        · rcases h with h | h
          · subst h; exact b2 h3
          · have := vpl _ h3; omega
        · omega
      · rcases h with h | h
        · subst h; exact b3 e
        · have := vsl _ e; omega
    have old : q ∈ P ∨ q ∈ S → k ≠ kb ∧ (Value.slice (some ⟨gg, 0, none⟩) (P.length + 1) capg).ownBlock ≠ some k ∧ vs.ownBlock ≠ some k := fun hq => by
      have h := HO.far q hq u hu k hk
      have hl := HO.old q hq u hu k hk
      refine ⟨h.1, fun e => ?_, h.2.2⟩
      simp only [Value.ownBlock, Option.some.injEq] at e
      subst e
      rcases A4 with h3 | h3
      · exact h.2.1 h3
      · omega
    rcases hq with hq | hq
    · rcases List.mem_append.1 hq with hq | hq
      · exact old (.inl hq)
      · exact new (List.mem_singleton.1 hq)
    · exact old (.inr hq)
  · intro q hq u hu k hk
    have zf := FT.size
    have zg := F34.size
    rcases hq with hq | hq
    · rcases List.mem_append.1 hq with hq | hq
      · have := HO.old q (.inl hq) u hu k hk; omega
      · have e := List.mem_singleton.1 hq; subst e; have := (B u hu k hk).2; omega
    · have := HO.old q (.inr hq) u hu k hk; omega
  · have := HO.few; simp; omega
  · rcases A4 with h | h
    · left; rw [h]; rfl
    · right; exact ⟨gg, rfl, by omega⟩

end Go.Proofs.YtljfiefobnncaabGreatDoor

/- outlinelaw: mine, walked. -/
namespace Go.Proofs.YtljfiefobnncaabGreatDoor
open Go.RowKit
attribute [local go_sem ↓] Go.wp_at_zero Go.wp_at_succ

set_option maxRecDepth 4000 in
set_option maxHeartbeats 2000000 in
theorem mine_any (kb N : Nat) (vp vs : Value) (P S : List Rec) (gv n cap : Nat) (l0 : List (Int × Int)) (w : World) (hO : OBook kb N vp vs P S w) (hv : w.ownsRow 0 65 2 (.slice (some ⟨gv, 0, none⟩) n cap) n (Qm.ptsV l0)) (hl : l0.length = n)
    (hN : N ≤ 2000000000) (hn : n ≤ 1000000000) (b1 : gv ≠ kb) (b2 : vp.ownBlock ≠ some gv) (b3 : vs.ownBlock ≠ some gv) (b4 : ∀ r, r ∈ P ∨ r ∈ S → ∀ u ∈ r.all, u.ownBlock ≠ some gv) :
    Calls Tryz.prog 50 #[.pointer (some ⟨kb, 0, none⟩), .slice (some ⟨gv, 0, none⟩) n cap] w fun e w' => e = .returned (.tuple #[]) ∧ ∃ vp' r, OBook kb (N + 1) vp' vs (P ++ [r]) S w' ∧ Fr (fun k => k = kb ∨ vp.ownBlock = some k ∨ k = gv) w w' ∧
      (vp'.ownBlock = vp.ownBlock ∨ ∃ q, vp'.ownBlock = some q ∧ w.heap.size ≤ q) ∧ ∀ u ∈ r.all, ∀ k, u.ownBlock = some k → k = gv ∨ w.heap.size ≤ k := by
  obtain ⟨i0, hi, hz0, hz1, hz2⟩ := info_parts infoPoint
  obtain ⟨ip, hip, hzp0, hzp1, hzp2⟩ := info_parts infoPts
  have HO := hid hO
  have HV := hid hv
  have HL := hid hl
  have c0 := hO.c0
  have c1 := hO.c1
  have f0 := hO.fz 0
  have f1 := hO.fz 1
  have kz := hO.lt
  have gz : gv < w.heap.size := (hv.lt gv rfl).2
  obtain ⟨mk, hmk⟩ : ∃ mk : Int, (1000 : Int) + ((N : Int) + 1) = mk := ⟨_, rfl⟩
  have mk1 : 0 ≤ mk ∧ mk ≤ 4000000000 := by omega
  clear hO hv hl
  go_enter Tryz.func50, Tryz.ntmps50
  go_wp2
  have K0 : KB kb (N + 1) vp vs (w.setCell ⟨kb, 0, none⟩ (.int .i64 ((N : Int) + 1))) := KB.set0 (N := N) ⟨kz, HO.out.c0, HO.out.c1, HO.out.c2, HO.out.fz⟩ (N + 1)
  have HK0 := hid K0
  have hO0 := hid (show (w.setCell ⟨kb, 0, none⟩ (.int .i64 ((N : Int) + 1))).ownsRow 0 65 2 (.slice (some ⟨gv, 0, none⟩) n cap) n (Qm.ptsV (fillTo l0 (mk, 0) 0)) by
    have := own_fr (C := fun k => k = kb) HV.out (w' := w.setCell ⟨kb, 0, none⟩ (.int .i64 ((N : Int) + 1))) (Fr.set rfl) (fun k hk => by simp [Value.ownBlock] at hk; omega)
    simpa [fillTo] using this)
  clear K0
  go_loopw [4] (fun iv wr => ∃ i : Nat, i ≤ n ∧ iv = .int .i64 i ∧ Hid (wr.ownsRow 0 65 2 (.slice (some ⟨gv, 0, none⟩) n cap) n (Qm.ptsV (fillTo l0 (mk, 0) i))) ∧ Hid (Fr (fun k => k = kb ∨ k = gv) w wr) ∧ Hid (KB kb (N + 1) vp vs wr)) (fun i _ => n - (intOf i).toNat)
  case atStart => exact ⟨0, by omega, rfl, hO0, Fr.set (.inl rfl), HK0⟩
  case round =>
    clear hO0 HK0 c0 c1 f0 f1
    obtain ⟨i, hin, rfl, ho, hf, hK⟩ := hrel
    obtain ⟨kz', c0, c1, c2, fz⟩ := hK.out
    have f1 := fz 1
    have c0' : wr.cell? ⟨kb, 0, none⟩ = some (.int .i64 ((N : Int) + 1)) := c0
    clear c0
    by_cases hlt : i < n
    · have lf := fillTo_len l0 (mk, 0) i (by rw [HL.out]; omega)
      have pa := ptsV_at (fillTo l0 (mk, 0) i) i (by rw [lf, HL.out]; exact hlt)
      have q0 := ho.out.cells (g := gv) rfl _ _ pa.1
      have q1 := ho.out.cells (g := gv) rfl _ _ pa.2
      rw [add_zero_at] at q0 q1
      have r0 := own_frozen ho.out (i * 2)
      have r1 := own_frozen ho.out (i * 2 + 1)
      have o2 := own_set (own_set ho.out (i * 2) (.int .i64 mk)) (i * 2 + 1) (.int .i64 0)
      rw [ptsV_set _ (mk, 0) i (by rw [lf, HL.out]; exact hlt), fillTo_succ _ _ _ (by rw [HL.out]; exact hlt)] at o2
      have O2 := hid o2
      have i0' : (0 : Int) ≤ (i : Nat) := by omega
      have i1' : ((i : Nat) : Int) < (n : Nat) := by omega
      have nb : gv ≠ kb := b1
      clear pa lf o2 fz
      go_wp2
      go_roundw
      case rel => exact ⟨i + 1, by omega, by go_num, O2, hf.out.trans ((Fr.set (.inr rfl)).trans (Fr.set (.inr rfl))), (hK.out.set _ b1).set _ b1⟩
      case measure => simp [intOf]; omega
    · have hk' : ((n : Nat) : Int) ≤ (i : Nat) := by omega
      have ei : i = n := by omega
      have ho2 := ho.out
      rw [ei, show fillTo l0 (mk, 0) n = List.replicate n (mk, 0) by unfold fillTo; rw [List.drop_eq_nil_of_le (by rw [HL.out]; exact Nat.le_refl _), List.append_nil]] at ho2
      have HO2 := hid ho2
      have zf := hf.out.size
      clear ho2 ho fz
      obtain ⟨X, hX⟩ : ∃ X, X = wr.alloc (.cells #[.int .i64 mk, .int .i64 0] 65) := ⟨_, rfl⟩
      have xs : X.heap.size = wr.heap.size + 1 := by rw [hX]; simp
      have x0 : X.cell? ⟨wr.heap.size, 0, none⟩ = some (.int .i64 mk) := by rw [hX]; simp
      have x1 : X.cell? ⟨wr.heap.size, 1, none⟩ = some (.int .i64 0) := by rw [hX]; simp
      have OX := hid (show X.ownsRow 0 65 2 (.slice (some ⟨gv, 0, none⟩) n cap) n (Qm.ptsV (List.replicate n (mk, 0))) by rw [hX]; exact HO2.out.alloc _)
      have KX := hid (show KB kb (N + 1) vp vs X by rw [hX]; exact hK.out.of (Below.heap_alloc _ _ _ kz') (by simp))
      have FX := hid (show Fr (fun k => k = kb ∨ k = gv) w X by rw [hX]; exact hf.out.trans (Fr.below ((Below.refl _ _).alloc (Nat.le_refl _) _)))
      have XS := hid xs
      have HX := hid hX
      clear xs hX
      go_wp2_with (first
        | (at_builtin; rw [← HX.out]; refine wpList_append_keeps rfl _ _ 43 rfl 0 65 i0 (.agg #[.int .i64 0, .int .i64 0]) 2 16 Tryz.underlying43 hi hz0 hz1 hz2 rfl (by decide) _ _ _ rfl (OX.out.alloc _) ⟨_, 0, none⟩ 1 1 [.int .i64 mk, .int .i64 0] rfl rfl (new_at _ _ _ _ (by first | rfl | exact XS.out.symm)) (marks_one mk 1) (by unfold maxLen; omega) (by omega) (Nat.zero_le _) ?_))
      intro v1 w1 O1 G1 A1 V1 H1
      have z1 : X.heap.size < w1.heap.size := by have := G1.out.size; simp at this; omega
      have K1 := hid ((KB.of KX.out (w' := X.alloc _) (Below.heap_alloc _ (.cells #[.int .i64 mk, .int .i64 0] 65) _ KX.out.1) (by simp)).gb G1.out (by simp [Value.ownBlock]; omega))
      have F1 := hid (show Fr (fun k => k = kb ∨ k = gv) w w1 from FX.out.trans ((Fr.below ((Below.refl _ _).alloc (Nat.le_refl _) (.cells #[.int .i64 mk, .int .i64 0] 65))).trans (Fr.grown G1.out (fun q hq _ => .inr (by simp [Value.ownBlock] at hq; omega)))))
      have y01 : w1.cell? ⟨wr.heap.size, 0, none⟩ = some (.int .i64 mk) := (World.cell?_of_block (a := ⟨wr.heap.size, 0, none⟩) (G1.out.block wr.heap.size (by simp; have := XS.out; omega) (by simp [Value.ownBlock]; omega))).trans ((World.cell?_of_block (a := ⟨wr.heap.size, 0, none⟩) (Below.heap_alloc X _ _ (by have := XS.out; show wr.heap.size < _; omega))).trans x0)
      have y11 : w1.cell? ⟨wr.heap.size, 1, none⟩ = some (.int .i64 0) := (World.cell?_of_block (a := ⟨wr.heap.size, 1, none⟩) (G1.out.block wr.heap.size (by simp; have := XS.out; omega) (by simp [Value.ownBlock]; omega))).trans ((World.cell?_of_block (a := ⟨wr.heap.size, 1, none⟩) (Below.heap_alloc X _ _ (by have := XS.out; show wr.heap.size < _; omega))).trans x1)
      obtain ⟨g1, cap1, hv1, _⟩ := own_src O1.out (by omega)
      subst hv1
      have M1 := hid (own_mk (n := n + 1) (mark := mk) (by rw [marks_app]; exact O1.out))
      clear HX
      go_wp2_with (first
        | (at_builtin; refine wpList_append_keeps rfl _ _ 43 rfl 0 65 i0 (.agg #[.int .i64 0, .int .i64 0]) 2 16 Tryz.underlying43 hi hz0 hz1 hz2 rfl (by decide) _ _ _ rfl (V1.out.alloc _) ⟨_, 0, none⟩ 2 2 [.int .i64 mk, .int .i64 0, .int .i64 mk, .int .i64 0] rfl rfl (new_at _ _ _ _ (by first | rfl | exact XS.out.symm)) (marks_one mk 2) (by unfold maxLen; omega) (by omega) (Nat.zero_le _) ?_))
      intro v2 w2 O2 G2 A2 V2 H2
      have z2 : w1.heap.size < w2.heap.size := by have := G2.out.size; simp at this; omega
      have K2 := hid ((KB.of K1.out (w' := w1.alloc _) (Below.heap_alloc _ (.cells #[.int .i64 mk, .int .i64 0, .int .i64 mk, .int .i64 0] 65) _ K1.out.1) (by simp)).gb G2.out (by simp [Value.ownBlock]; omega))
      have F2 := hid (show Fr (fun k => k = kb ∨ k = gv) w w2 from F1.out.trans ((Fr.below ((Below.refl _ _).alloc (Nat.le_refl _) (.cells #[.int .i64 mk, .int .i64 0, .int .i64 mk, .int .i64 0] 65))).trans (Fr.grown G2.out (fun q hq _ => .inr (by simp [Value.ownBlock] at hq; omega)))))
      have y02 : w2.cell? ⟨wr.heap.size, 0, none⟩ = some (.int .i64 mk) := (World.cell?_of_block (a := ⟨wr.heap.size, 0, none⟩) (G2.out.block wr.heap.size (by simp; have := XS.out; omega) (by simp [Value.ownBlock]; omega))).trans ((World.cell?_of_block (a := ⟨wr.heap.size, 0, none⟩) (Below.heap_alloc w1 _ _ (by have := XS.out; show wr.heap.size < _; omega))).trans y01)
      have y12 : w2.cell? ⟨wr.heap.size, 1, none⟩ = some (.int .i64 0) := (World.cell?_of_block (a := ⟨wr.heap.size, 1, none⟩) (G2.out.block wr.heap.size (by simp; have := XS.out; omega) (by simp [Value.ownBlock]; omega))).trans ((World.cell?_of_block (a := ⟨wr.heap.size, 1, none⟩) (Below.heap_alloc w1 _ _ (by have := XS.out; show wr.heap.size < _; omega))).trans y11)
      obtain ⟨g2, cap2, hv2, _⟩ := own_src O2.out (by omega)
      subst hv2
      have M2 := hid (own_mk (n := n + 2) (mark := mk) (by rw [marks_app]; exact O2.out))
      go_wp2_with (first
        | (at_builtin; refine wpList_append_keeps rfl _ _ 43 rfl 0 65 i0 (.agg #[.int .i64 0, .int .i64 0]) 2 16 Tryz.underlying43 hi hz0 hz1 hz2 rfl (by decide) _ _ _ rfl (V2.out.alloc _) ⟨_, 0, none⟩ 3 3 [.int .i64 mk, .int .i64 0, .int .i64 mk, .int .i64 0, .int .i64 mk, .int .i64 0] rfl rfl (new_at _ _ _ _ (by first | rfl | exact XS.out.symm)) (marks_one mk 3) (by unfold maxLen; omega) (by omega) (Nat.zero_le _) ?_))
      intro v3 w3 O3 G3 A3 V3 H3
      have z3 : w2.heap.size < w3.heap.size := by have := G3.out.size; simp at this; omega
      have K3 := hid ((KB.of K2.out (w' := w2.alloc _) (Below.heap_alloc _ (.cells #[.int .i64 mk, .int .i64 0, .int .i64 mk, .int .i64 0, .int .i64 mk, .int .i64 0] 65) _ K2.out.1) (by simp)).gb G3.out (by simp [Value.ownBlock]; omega))
      have F3 := hid (show Fr (fun k => k = kb ∨ k = gv) w w3 from F2.out.trans ((Fr.below ((Below.refl _ _).alloc (Nat.le_refl _) (.cells #[.int .i64 mk, .int .i64 0, .int .i64 mk, .int .i64 0, .int .i64 mk, .int .i64 0] 65))).trans (Fr.grown G3.out (fun q hq _ => .inr (by simp [Value.ownBlock] at hq; omega)))))
      have y03 : w3.cell? ⟨wr.heap.size, 0, none⟩ = some (.int .i64 mk) := (World.cell?_of_block (a := ⟨wr.heap.size, 0, none⟩) (G3.out.block wr.heap.size (by simp; have := XS.out; omega) (by simp [Value.ownBlock]; omega))).trans ((World.cell?_of_block (a := ⟨wr.heap.size, 0, none⟩) (Below.heap_alloc w2 _ _ (by have := XS.out; show wr.heap.size < _; omega))).trans y02)
      have y13 : w3.cell? ⟨wr.heap.size, 1, none⟩ = some (.int .i64 0) := (World.cell?_of_block (a := ⟨wr.heap.size, 1, none⟩) (G3.out.block wr.heap.size (by simp; have := XS.out; omega) (by simp [Value.ownBlock]; omega))).trans ((World.cell?_of_block (a := ⟨wr.heap.size, 1, none⟩) (Below.heap_alloc w2 _ _ (by have := XS.out; show wr.heap.size < _; omega))).trans y12)
      obtain ⟨g3, cap3, hv3, _⟩ := own_src O3.out (by omega)
      subst hv3
      have M3 := hid (own_mk (n := n + 3) (mark := mk) (by rw [marks_app]; exact O3.out))
      have M23 := hid (Mk.app (n := n) (m := 3) (M2.out.call ((Below.refl _ _).alloc (Nat.le_refl _) _)) G3.out H3.out)
      have M12 := hid (Mk.app (n := n) (m := 2) (M1.out.call ((Below.refl _ _).alloc (Nat.le_refl _) _)) G2.out H2.out)
      have M13 := hid (Mk.app (n := n) (m := 3) (M12.out.call ((Below.refl _ _).alloc (Nat.le_refl _) _)) G3.out H3.out)
      have M03 := hid (own_mk V3.out)
      have hOP := own_fr HO.out.po F3.out (fun k hk => by
        intro hc
        rcases hc with hc | hc
        · subst hc; exact HO.out.a1 hk
        · subst hc; exact b2 hk)
      have OP := hid hOP
      obtain ⟨kz3, e0, e1, e2, ef⟩ := K3.out
      have e0' : w3.cell? ⟨kb, 0, none⟩ = some (.int .i64 ((N : Int) + 1)) := e0
      have ef1 := ef 1
      have few := HO.out.few
      have n1 : P.length + 1 ≤ maxLen := by unfold maxLen; omega
      have n2 : (P.length + 1) * 104 ≤ 140737488355328 := by omega
      clear hOP e0 ef c0' c1 c2 f1 x0 x1 y01 y11 y02 y12 y03 y13
      obtain ⟨aop, capp, hvp, _⟩ := own_cap OP.out
      have HVP := hid hvp
      have wm : IntKind.i64.wrap mk = mk := by rw [IntKind.wrap_i64]; omega
      clear hvp
      go_wp2_with fail
      go_region_law
        ((refine step_append_lies _ (by rfl) _ _ _ (by rfl) 0 45 ip (.agg #[.slice none 0 0, .slice none 0 0, .slice none 0 0, .slice none 0 0, .int .i64 0]) 5 104 Tryz.underlying24 hip hzp0 hzp1 hzp2 rfl (by omega) vp P.length (recsV P) (by rfl) ((OP.out.alloc _).drew) ⟨w3.heap.size, 0, none⟩ 1 1 [.slice (some ⟨gv, 0, none⟩) n cap, .slice (some ⟨g1, 0, none⟩) (n + 1) cap1, .slice (some ⟨g2, 0, none⟩) (n + 2) cap2, .slice (some ⟨g3, 0, none⟩) (n + 3) cap3, .int .i64 mk] (by rfl) (by rfl) (World.news_of_block (cs := #[.slice (some ⟨gv, 0, none⟩) n cap, .slice (some ⟨g1, 0, none⟩) (n + 1) cap1, .slice (some ⟨g2, 0, none⟩) (n + 2) cap2, .slice (some ⟨g3, 0, none⟩) (n + 3) cap3, .int .i64 mk]) (t := 45) (fr := (0, 0)) (heap_alloc_new w3 _)) (by simp [Value.oneCell']) (by omega) n1 n2 (Nat.zero_le _) (w3.heap.size + 1) (by simp) ?_; intro gg capg w4 O4 G4 A4 hlt4; have K4 := hid (show KB kb (N + 1) vp vs w4 from ((K3.out.of (w' := w3.alloc _) (Below.heap_alloc _ (.cells #[.slice (some ⟨gv, 0, none⟩) n cap, .slice (some ⟨g1, 0, none⟩) (n + 1) cap1, .slice (some ⟨g2, 0, none⟩) (n + 2) cap2, .slice (some ⟨g3, 0, none⟩) (n + 3) cap3, .int .i64 mk] 45) _ K3.out.1) (by simp)).of (w' := (w3.alloc _).drew) rfl (Nat.le_refl _)).gb G4 HO.out.a1); have k41 := K4.out.2.2.1; have k4f := K4.out.2.2.2.2 1))
      all_goals go_wp2
      all_goals
        refine bodyPost_end (v := .tuple #[]) (by simp [results, Tryz.results50, go_sem]) rfl ?_
        have GZ := F3.out.size
        have e1 : g1 = gv ∨ w.heap.size ≤ g1 := by
          rcases A1.out with h | h
          · left; simp [Value.ownBlock] at h; exact h
          · right; simp [Value.ownBlock] at h; have := XS.out; omega
        have e2 : g2 = gv ∨ w.heap.size ≤ g2 := by
          rcases A2.out with h | h
          · left; simp [Value.ownBlock] at h; exact h
          · right; simp [Value.ownBlock] at h; have := XS.out; omega
        have e3 : g3 = gv ∨ w.heap.size ≤ g3 := by
          rcases A3.out with h | h
          · left; simp [Value.ownBlock] at h; exact h
          · right; simp [Value.ownBlock] at h; have := XS.out; omega
        have l1 := (O1.out.lt g1 rfl).2
        have l2 := (O2.out.lt g2 rfl).2
        have l3 := (O3.out.lt g3 rfl).2
        refine ⟨rfl, mine_done (r := ⟨.slice (some ⟨gv, 0, none⟩) n cap, .slice (some ⟨g1, 0, none⟩) (n + 1) cap1, .slice (some ⟨g2, 0, none⟩) (n + 2) cap2, .slice (some ⟨g3, 0, none⟩) (n + 3) cap3, mk⟩) HO.out b1 b2 b3 b4 gz F3.out ?_ ?_ O4 G4 A4 K4.out⟩
        · intro u hu
          simp only [Rec.all, List.mem_cons, List.not_mem_nil, or_false] at hu
          rcases hu with rfl | rfl | rfl | rfl
          · exact M03.out
          · exact M13.out
          · exact M23.out
          · exact M3.out
        · intro u hu k hk
          simp only [Rec.all, List.mem_cons, List.not_mem_nil, or_false] at hu
          rcases hu with rfl | rfl | rfl | rfl
          · simp only [Value.ownBlock, Option.some.injEq] at hk; subst hk; exact ⟨.inl rfl, by omega⟩
          · simp only [Value.ownBlock, Option.some.injEq] at hk; subst hk; exact ⟨e1, by omega⟩
          · simp only [Value.ownBlock, Option.some.injEq] at hk; subst hk; exact ⟨e2, by omega⟩
          · simp only [Value.ownBlock, Option.some.injEq] at hk; subst hk; exact ⟨e3, by omega⟩
end Go.Proofs.YtljfiefobnncaabGreatDoor
