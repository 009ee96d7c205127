/- outlinelaw: keep: what holds in its first loop; rows of shapes that are written full. -/
import Derived.Test.YtljfiefobnncaaaDoorK34
namespace Go.Proofs.YtljfiefobnncaaaDoor
open Go.RowKit

/-- A list lies apart from the book and all that it holds. -/
def Ap (kb : Nat) (vp vs : Value) (P S : List Rec) (v : Value) : Prop := ∀ k, v.ownBlock = some k → k ≠ kb ∧ vp.ownBlock ≠ some k ∧ vs.ownBlock ≠ some k ∧ ∀ r, r ∈ P ∨ r ∈ S → ∀ u ∈ r.all, u.ownBlock ≠ some k

/-- What holds when the first i lists of points have been kept. -/
structure KI (kb N : Nat) (vp vs : Value) (P S : List Rec) (L : List (Value × (Qm.Sd × Nat))) (w : World) (i : Nat) (vp' : Value) (P' : List Rec) (wr : World) : Prop where
  ob : OBook kb (N + i) vp' vs P' S wr
  fr : Fr (fun k => k = kb ∨ vp.ownBlock = some k ∨ ∃ p ∈ L.take i, p.1.ownBlock = some k) w wr
  vpb : vp'.ownBlock = vp.ownBlock ∨ ∃ q, vp'.ownBlock = some q ∧ w.heap.size ≤ q
  recs : ∀ r ∈ P', r ∈ P ∨ ∀ u ∈ r.all, ∀ k, u.ownBlock = some k → (∃ p ∈ L.take i, p.1.ownBlock = some k) ∨ w.heap.size ≤ k

section
variable {kb N : Nat} {vp vs : Value} {P S : List Rec} {f : Qm.Sd → Qm.Sd} {b : Nat} {vl : Value} {L : List (Value × (Qm.Sd × Nat))} {w : World} {i : Nat} {vp' : Value} {P' : List Rec} {wr : World}

theorem KI.start (h : OBook kb N vp vs P S w) : KI kb N vp vs P S L w 0 vp P w := ⟨h, Fr.refl _ _, .inl rfl, fun _ hr => .inl hr⟩

theorem take_apart (hR : Rowed f b vl L w) (hi : i < L.length) : ∀ p ∈ L.take i, ∀ k, p.1.ownBlock = some k → L[i].1.ownBlock ≠ some k := by
  intro p hp k hk e
  have ap := (List.pairwise_cons.1 hR.apart).2
  obtain ⟨j, hj, hj2, e2⟩ := mem_take_getD (d := p) hp
  have := List.pairwise_iff_getElem.1 ap j i (by simpa using hj2) (by simpa using hi) hj
  simp only [List.getElem_map] at this
  have e3 : L[j] = p := by rw [← e2, List.getD_eq_getElem?_getD, List.getElem?_eq_getElem hj2]; rfl
  rw [e3, hk, e] at this
  simp at this

theorem KI.ready (h : KI kb N vp vs P S L w i vp' P' wr) (hR : Rowed f b vl L w) (hn : ∀ p ∈ L, 0 < p.2.2) (hA : ∀ p ∈ L, Ap kb vp vs P S p.1) (hi : i < L.length) :
    ∃ gv cap, L[i].1 = .slice (some ⟨gv, 0, none⟩) L[i].2.2 cap ∧ wr.ownsRow 0 83 2 (.slice (some ⟨gv, 0, none⟩) L[i].2.2 cap) L[i].2.2 (Qm.ptsV (Qm.ptsOf f L[i].2)) ∧ gv ≠ kb ∧ vp'.ownBlock ≠ some gv ∧ vs.ownBlock ≠ some gv ∧ ∀ r, r ∈ P' ∨ r ∈ S → ∀ u ∈ r.all, u.ownBlock ≠ some gv := by
  have hm := List.getElem_mem hi
  obtain ⟨gv, cap, e, _, hp, _⟩ := own_at (hR.pts _ hm) (hn _ hm)
  have ob : L[i].1.ownBlock = some gv := by rw [e]; rfl
  have ap := hA _ hm gv ob
  have ta := fun p hp k hk => take_apart (i := i) hR hi p hp k hk
  have gz : gv < w.heap.size := hp.1
  have o := hR.pts _ hm
  have o2 := own_fr o h.fr (fun k hk hc => by
    rw [ob] at hk; injection hk with hk; subst hk
    rcases hc with hc | hc | ⟨p, hp, hc⟩
    · exact ap.1 hc
    · exact ap.2.1 hc
    · exact ta p hp _ hc ob)
  rw [e] at o2
  refine ⟨gv, cap, e, o2.mono (Nat.zero_le _), ap.1, ?_, ap.2.2.1, ?_⟩
  · intro hc
    rcases h.vpb with hv | ⟨q, hv, hq⟩
    · exact ap.2.1 (hv ▸ hc)
    · rw [hv] at hc; injection hc with hc; omega
  · rintro r (hr | hr) u hu hc
    · rcases h.recs r hr with h1 | h1
      · exact ap.2.2.2 r (.inl h1) u hu hc
      · rcases h1 u hu gv hc with ⟨p, hp, h2⟩ | h2
        · exact ta p hp _ h2 ob
        · omega
    · exact ap.2.2.2 r (.inr hr) u hu hc

theorem KI.step (h : KI kb N vp vs P S L w i vp' P' wr) (hi : i < L.length) {gv : Nat} (hg : L[i].1.ownBlock = some gv) {w2 : World} {vp2 : Value} {r : Rec} (ho : OBook kb (N + i + 1) vp2 vs (P' ++ [r]) S w2) (hf : Fr (fun k => k = kb ∨ vp'.ownBlock = some k ∨ k = gv) wr w2)
    (hv : vp2.ownBlock = vp'.ownBlock ∨ ∃ q, vp2.ownBlock = some q ∧ wr.heap.size ≤ q) (hr : ∀ u ∈ r.all, ∀ k, u.ownBlock = some k → k = gv ∨ wr.heap.size ≤ k) : KI kb N vp vs P S L w (i + 1) vp2 (P' ++ [r]) w2 := by
  have z := h.fr.size
  have sub : ∀ k, (∃ p ∈ L.take i, p.1.ownBlock = some k) → ∃ p ∈ L.take (i + 1), p.1.ownBlock = some k := fun k ⟨p, hp, e⟩ => ⟨p, by rw [List.take_succ_eq_append_getElem hi]; exact List.mem_append_left _ hp, e⟩
  have here : ∃ p ∈ L.take (i + 1), p.1.ownBlock = some gv := ⟨L[i], by rw [List.take_succ_eq_append_getElem hi]; exact List.mem_append_right _ (List.mem_singleton.2 rfl), hg⟩
  refine ⟨ho, ⟨hf.os.trans h.fr.os, hf.tape.trans h.fr.tape, hf.output.trans h.fr.output, Nat.le_trans z hf.size, fun k hk hc => ?_⟩, ?_, ?_⟩
  · refine (hf.block k (by omega) fun hc2 => hc ?_).trans (h.fr.block k hk fun hc2 => hc ?_)
    · rcases hc2 with e | e | e
      · exact .inl e
      · rcases h.vpb with e2 | ⟨q, e2, hq⟩
        · exact .inr (.inl (e2 ▸ e))
        · rw [e2] at e; injection e with e; omega
      · subst e; exact .inr (.inr here)
    · exact hc2.imp id (fun h => h.imp id (sub k))
  · rcases hv with e | ⟨q, e, hq⟩
    · rw [e]; exact h.vpb
    · exact .inr ⟨q, e, by omega⟩
  · intro q hq
    rcases List.mem_append.1 hq with hq | hq
    · exact (h.recs q hq).imp id (fun h u hu k hk => (h u hu k hk).imp (sub k) id)
    · rw [List.mem_singleton] at hq; subst hq
      right
      intro u hu k hk
      rcases hr u hu k hk with e | e
      · subst e; exact .inl here
      · exact .inr (by omega)
end

/-! Rows of shapes, written full. -/
def pairV (l : List (Value × Int)) : List Value := l.flatMap fun p => [p.1, .int .i64 p.2]
theorem pairV_cons (q : Value × Int) (l : List (Value × Int)) : pairV (q :: l) = q.1 :: .int .i64 q.2 :: pairV l := by simp [pairV]
theorem pairV_app (a b : List (Value × Int)) : pairV (a ++ b) = pairV a ++ pairV b := by simp [pairV]
theorem pairV_len (l : List (Value × Int)) : (pairV l).length = l.length * 2 := by
  induction l with
  | nil => rfl
  | cons p l ih => rw [pairV_cons]; simp only [List.length_cons, ih]; omega
theorem pairV_at (d : Value × Int) (l : List (Value × Int)) : ∀ j, j < l.length → (pairV l)[j * 2]? = some (l.getD j d).1 ∧ (pairV l)[j * 2 + 1]? = some (.int .i64 (l.getD j d).2) := by
  induction l with
  | nil => intro j hj; simp at hj
  | cons p l ih =>
    intro j hj
    cases j with
    | zero => simp [pairV]
    | succ j =>
      have := ih j (by simpa using hj)
      rw [pairV_cons, show (j + 1) * 2 = j * 2 + 1 + 1 from by omega, show j * 2 + 1 + 1 + 1 = (j * 2 + 1) + 1 + 1 from by omega]
      simpa using this
theorem pairV_set (l : List (Value × Int)) (p : Value × Int) : ∀ i, i < l.length → ((pairV l).set (i * 2) p.1).set (i * 2 + 1) (.int .i64 p.2) = pairV (l.set i p) := by
  induction l with
  | nil => intro i hi; simp at hi
  | cons q l ih =>
    intro i hi
    cases i with
    | zero => show _ = pairV (p :: l); rw [pairV_cons, pairV_cons]; rfl
    | succ i =>
      rw [pairV_cons, List.set_cons_succ, pairV_cons, ← ih i (by simpa using hi), show (i + 1) * 2 = i * 2 + 1 + 1 from by omega]
      rfl
theorem shpV_pair (f : Qm.Sd → Qm.Sd) (L : List (Value × (Qm.Sd × Nat))) : shpV f L = pairV (L.map fun p => (p.1, Qm.twiceOf (Qm.ptsOf f p.2))) := by simp [shpV, pairV, List.flatMap_map]
def fillP (l : List (Value × Int)) (p : Value × Int) (i : Nat) : List (Value × Int) := List.replicate i p ++ l.drop i
theorem fillP_succ (l : List (Value × Int)) (p : Value × Int) (i : Nat) (hi : i < l.length) : (fillP l p i).set i p = fillP l p (i + 1) := by
  unfold fillP
  apply List.ext_getElem?
  intro j
  rw [List.getElem?_set]
  simp only [List.length_append, List.length_replicate, List.length_drop]
  by_cases e : i = j
  · subst e
    rw [if_pos rfl, if_pos (by omega), List.getElem?_append_left (by simp), List.getElem?_replicate, if_pos (by omega)]
  · rw [if_neg e]
    by_cases h1 : j < i
    · rw [List.getElem?_append_left (by simpa using h1), List.getElem?_append_left (by simp; omega)]
      simp [List.getElem?_replicate, h1]; omega
    · rw [List.getElem?_append_right (by simp; omega), List.getElem?_append_right (by simp; omega)]
      simp only [List.length_replicate, List.getElem?_drop]
      congr 1; omega
theorem fillP_len (l : List (Value × Int)) (p : Value × Int) (i : Nat) (hi : i ≤ l.length) : (fillP l p i).length = l.length := by simp [fillP]; omega
abbrev nilS : Value := .slice none 0 0
theorem own_mkS {w : World} {b : Nat} {t : TypeId} {v : Value} {n : Nat} {mark : Int} (h : w.ownsRow b t 2 v n (pairV (List.replicate n (nilS, mark)))) : Mk 1 v mark w := by
  have hm := own_max h
  rcases h.2 with ⟨rfl, rfl⟩ | ⟨g, cap, cur, rfl, hb, hg, _⟩
  · exact ⟨none, 0, 0, rfl, by omega, .inl rfl⟩
  · refine ⟨some ⟨g, 0, none⟩, n, cap, rfl, hm, .inr ⟨g, rfl, (Array.getElem?_eq_some_iff.1 hg).1, fun k hk => ?_⟩⟩
    have p := pairV_at (nilS, mark) (List.replicate n (nilS, mark)) k (by simpa using hk)
    have := h.cells (g := g) rfl _ _ p.2
    rw [add_zero_at] at this
    rw [this]
    simp [List.getD_eq_getElem?_getD, hk]
theorem Mk.appS {w w' : World} {v u : Value} {n m : Nat} {mark : Int} (h : Mk 1 u mark w) (hg : w.grownBy w' v.ownBlock)
    (hk : ∀ g j x, v.ownBlock = some g → w.cell? ⟨g, j, none⟩ = some x → w'.cell? ⟨g, j, none⟩ = some x ∨ ∃ q, j = n * 2 + q ∧ w'.cell? ⟨g, j, none⟩ = (pairV (List.replicate m (nilS, mark)))[q]? ∧ q < (pairV (List.replicate m (nilS, mark))).length) : Mk 1 u mark w' := by
  obtain ⟨ao, k, cap, e, hn, h1⟩ := h
  refine ⟨ao, k, cap, e, hn, h1.imp id ?_⟩
  rintro ⟨g, e2, h2, h3⟩
  refine ⟨g, e2, Nat.lt_of_lt_of_le h2 hg.size, fun j hj => ?_⟩
  by_cases ev : v.ownBlock = some g
  · rcases hk g (j * 2 + 1) _ ev (h3 j hj) with h4 | ⟨q, h4, h5, h6⟩
    · exact h4
    · rw [h5]
      rw [pairV_len, List.length_replicate] at h6
      have p := pairV_at (nilS, mark) (List.replicate m (nilS, mark)) (q / 2) (by simp; omega)
      rw [show q = q / 2 * 2 + 1 from by omega, p.2]
      simp [List.getD_eq_getElem?_getD, show q / 2 < m from by omega]
  · exact (World.cell?_of_block (a := ⟨g, j * 2 + 1, none⟩) (hg.block g h2 (fun e => ev e.symm))).trans (h3 j hj)
theorem markS_app (mk : Int) (n k : Nat) : pairV (List.replicate (n + k) (nilS, mk)) = pairV (List.replicate n (nilS, mk)) ++ pairV (List.replicate k (nilS, mk)) := by rw [← pairV_app, List.replicate_append_replicate]
theorem markS_one (mk : Int) (k : Nat) : ∀ u ∈ pairV (List.replicate k (nilS, mk)), u.oneCell' = true := by
  intro u hu
  simp only [pairV, List.mem_flatMap] at hu
  obtain ⟨p, hp, hu⟩ := hu
  rw [List.eq_of_mem_replicate hp] at hu
  simp only [List.mem_cons, List.not_mem_nil, or_false] at hu
  rcases hu with rfl | rfl <;> rfl

theorem keep_done {kb N : Nat} {vp vs : Value} {P S : List Rec} {w w3 w4 : World} {v : Value} {gg capg : Nat} {r : Rec} {o : Obj} (HO : OBook kb N vp vs P S w) (ap : Ap kb vp vs P S v)
    (F3 : Fr (fun k => k = kb ∨ v.ownBlock = some k) w w3) (M : ∀ u ∈ r.all, Mk 1 u r.mark w3) (B : ∀ u ∈ r.all, ∀ k, u.ownBlock = some k → (v.ownBlock = some k ∨ w.heap.size ≤ k) ∧ k < w3.heap.size)
    (O4 : w4.ownsRow 0 67 5 (.slice (some ⟨gg, 0, none⟩) (S.length + 1) capg) (S.length + 1) (recsV S ++ recV r)) (G4 : (w3.alloc o).drew.grownBy w4 vs.ownBlock) (A4 : vs.ownBlock = some gg ∨ gg = w3.heap.size + 1) (K4 : KB kb (N + 1) vp vs w4) :
    ∃ vs' r, OBook kb (N + 1) vp vs' P (S ++ [r]) (w4.setCell ⟨kb, 2, none⟩ (.slice (some ⟨gg, 0, none⟩) (S.length + 1) capg)) ∧ Fr (fun k => k = kb ∨ vs.ownBlock = some k ∨ v.ownBlock = some k) w (w4.setCell ⟨kb, 2, none⟩ (.slice (some ⟨gg, 0, none⟩) (S.length + 1) capg)) ∧
      (vs'.ownBlock = vs.ownBlock ∨ ∃ q, vs'.ownBlock = some q ∧ w.heap.size ≤ q) := by
  have z3 := F3.size
  have z4 := G4.size
  simp at z4
  have vpl : ∀ k, vp.ownBlock = some k → k < w.heap.size := fun k hk => (HO.po.lt k hk).2
  have vsl : ∀ k, vs.ownBlock = some k → k < w.heap.size := fun k hk => (HO.so.lt k hk).2
  have kz := HO.lt
  have ggk : gg ≠ kb := by
    rcases A4 with h | h
    · intro e; subst e; exact HO.a2 h
    · omega
  have F34 : Fr (fun k => k = kb ∨ vs.ownBlock = some k) w3 (w4.setCell ⟨kb, 2, none⟩ (.slice (some ⟨gg, 0, none⟩) (S.length + 1) capg)) :=
    (Fr.below ((Below.refl _ _).alloc (Nat.le_refl _) o)).trans ((Fr.below (a := w3.alloc o) (b := (w3.alloc o).drew) ((Below.refl _ _).drew)).trans ((Fr.grown G4 (fun k hk _ => .inr hk)).trans (Fr.set (.inl rfl))))
  have FT : Fr (fun k => k = kb ∨ vs.ownBlock = some k ∨ v.ownBlock = some k) w (w4.setCell ⟨kb, 2, none⟩ (.slice (some ⟨gg, 0, none⟩) (S.length + 1) capg)) :=
    (F3.imp (fun k _ h => h.elim .inl (fun h => .inr (.inr h)))).trans (F34.imp (fun k _ h => h.elim .inl (fun h => .inr (.inl h))))
  have KF := KB.set2 K4 (.slice (some ⟨gg, 0, none⟩) (S.length + 1) capg)
  have oldC : ∀ r, r ∈ P ∨ r ∈ S → ∀ u ∈ r.all, ∀ k, u.ownBlock = some k → ¬ (k = kb ∨ vs.ownBlock = some k ∨ v.ownBlock = some k) := fun r hr u hu k hk hc => by
    have h := HO.far r hr u hu k hk
    rcases hc with hc | hc | hc
    · exact h.1 hc
    · exact h.2.2 hc
    · exact (ap k hc).2.2.2 r hr u hu hk
  refine ⟨.slice (some ⟨gg, 0, none⟩) (S.length + 1) capg, r, ⟨KF.1, KF.2.1, KF.2.2.1, KF.2.2.2.1, KF.2.2.2.2, ?_, ?_, ?_, ?_, HO.a1, ?_, ?_, ?_, ?_, ?_⟩, FT, ?_⟩
  · refine own_fr HO.po FT fun k hk hc => ?_
    rcases hc with hc | hc | hc
    · subst hc; exact HO.a1 hk
    · exact HO.a3 k hk hc
    · exact (ap k hc).2.1 hk
  · rw [recsV_snoc, List.length_append]
    exact own_fr (C := fun k => k = kb) O4 (Fr.set rfl) (fun k hk => by simp [Value.ownBlock] at hk; omega)
  · intro q hq
    exact MkR.of fun u hu => ((HO.mp q hq).get u hu).fr FT (oldC q (.inl hq) u hu)
  · intro q hq
    rcases List.mem_append.1 hq with hq | hq
    · exact MkR.of fun u hu => ((HO.ms q hq).get u hu).fr FT (oldC q (.inr hq) u hu)
    · rw [List.mem_singleton] at hq; subst hq
      refine MkR.of fun u hu => (M u hu).fr F34 fun k hk hc => ?_
      have h := (B u hu k hk).1
      rcases hc with hc | hc
      · rcases h with h | h
        · exact (ap k h).1 hc
        · omega
      · rcases h with h | h
        · exact (ap k h).2.2.1 hc
        · have := vsl k hc; omega
  · intro e; simp [Value.ownBlock] at e; omega
  · intro k hk hv
    simp only [Value.ownBlock, Option.some.injEq] at hv
    subst hv
    rcases A4 with h | h
    · exact HO.a3 _ hk h
    · have := vpl _ hk; omega
  · intro q hq u hu k hk
    have new : q = r → k ≠ kb ∧ vp.ownBlock ≠ some k ∧ (Value.slice (some ⟨gg, 0, none⟩) (S.length + 1) capg).ownBlock ≠ some k := fun e => by
      subst e
      obtain ⟨h, h2⟩ := B u hu k hk
      refine ⟨?_, fun e => ?_, fun e => ?_⟩
      · rcases h with h | h
        · exact (ap k h).1
        · omega
      · rcases h with h | h
        · exact (ap k h).2.1 e
        · have := vpl _ e; omega
      · simp only [Value.ownBlock, Option.some.injEq] at e
        subst e
        rcases A4 with h3 | h3
        · rcases h with h | h
          · exact (ap _ h).2.2.1 h3
          · have := vsl _ h3; omega
        · omega
    have old : q ∈ P ∨ q ∈ S → k ≠ kb ∧ vp.ownBlock ≠ some k ∧ (Value.slice (some ⟨gg, 0, none⟩) (S.length + 1) capg).ownBlock ≠ some k := fun hq => by
      have h := HO.far q hq u hu k hk
      have hl := HO.old q hq u hu k hk
      refine ⟨h.1, h.2.1, fun e => ?_⟩
      simp only [Value.ownBlock, Option.some.injEq] at e
      subst e
      rcases A4 with h3 | h3
      · exact h.2.2 h3
      · omega
    rcases hq with hq | hq
    · exact old (.inl hq)
    · rcases List.mem_append.1 hq with hq | hq
      · exact old (.inr hq)
      · exact new (List.mem_singleton.1 hq)
  · intro q hq u hu k hk
    have zf := FT.size
    have zg := F34.size
    rcases hq with hq | hq
    · have := HO.old q (.inl hq) u hu k hk; omega
    · rcases List.mem_append.1 hq with hq | hq
      · have := HO.old q (.inr hq) u hu k hk; omega
      · have e := List.mem_singleton.1 hq; subst e; have := (B u hu k hk).2; omega
  · have := HO.few; simp; omega
  · rcases A4 with h | h
    · left; rw [h]; rfl
    · right; exact ⟨gg, rfl, by omega⟩

theorem OBook.below {kb N : Nat} {vp vs : Value} {P S : List Rec} {w w' : World} (h : OBook kb N vp vs P S w) (hb : Below w.heap.size w w') : OBook kb N vp vs P S w' :=
  ⟨Nat.lt_of_lt_of_le h.lt hb.size, (hb.cell (p := ⟨kb, 0, none⟩) h.lt).trans h.c0, (hb.cell (p := ⟨kb, 1, none⟩) h.lt).trans h.c1, (hb.cell (p := ⟨kb, 2, none⟩) h.lt).trans h.c2, fun j => (hb.frozen (p := ⟨kb, j, none⟩) h.lt).trans (h.fz j), own_below h.po hb, own_below h.so hb, fun r hr => (h.mp r hr).call hb, fun r hr => (h.ms r hr).call hb, h.a1, h.a2, h.a3, h.far, fun r hr u hu k hk => Nat.lt_of_lt_of_le (h.old r hr u hu k hk) hb.size, h.few⟩

/-- The row of shapes lies apart from the points of its shapes, and from the book as it has become. -/
theorem KI.apl {kb N : Nat} {vp vs : Value} {P S : List Rec} {f : Qm.Sd → Qm.Sd} {b : Nat} {vl : Value} {L : List (Value × (Qm.Sd × Nat))} {w : World} {i : Nat} {vp' : Value} {P' : List Rec} {wr : World} (h : KI kb N vp vs P S L w i vp' P' wr) (hR : Rowed f b vl L w) (hA : Ap kb vp vs P S vl) :
    Ap kb vp' vs P' S vl ∧ (∀ k, vl.ownBlock = some k → ¬ (k = kb ∨ vp.ownBlock = some k ∨ ∃ p ∈ L.take i, p.1.ownBlock = some k)) := by
  have pl : ∀ p ∈ L, ∀ k, vl.ownBlock = some k → p.1.ownBlock ≠ some k := fun p hp k hk e => by
    rcases (List.pairwise_cons.1 hR.apart).1 p.1 (List.mem_map_of_mem hp) with h | h
    · rw [hk] at h; cases h
    · exact h (hk.trans e.symm)
  have lt : ∀ k, vl.ownBlock = some k → k < w.heap.size := fun k hk => (hR.row.lt k hk).2
  refine ⟨fun k hk => ⟨(hA k hk).1, ?_, (hA k hk).2.2.1, ?_⟩, fun k hk hc => ?_⟩
  · intro e
    rcases h.vpb with e2 | ⟨q, e2, hq⟩
    · exact (hA k hk).2.1 (e2 ▸ e)
    · rw [e2] at e; injection e with e; have := lt k hk; omega
  · rintro r (hr | hr) u hu e
    · rcases h.recs r hr with h1 | h1
      · exact (hA k hk).2.2.2 r (.inl h1) u hu e
      · rcases h1 u hu k e with ⟨p, hp, h2⟩ | h2
        · exact pl p (List.mem_of_mem_take hp) k hk h2
        · have := lt k hk; omega
    · exact (hA k hk).2.2.2 r (.inr hr) u hu e
  · rcases hc with hc | hc | ⟨p, hp, hc⟩
    · exact (hA k hk).1 hc
    · exact (hA k hk).2.1 hc
    · exact pl p (List.mem_of_mem_take hp) k hk hc
end Go.Proofs.YtljfiefobnncaaaDoor
