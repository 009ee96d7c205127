import Derived.Test.YtljfiefobnncaabGreatDoorK07
import Derived.Test.YtljfiefobnncaabGreatDoorK06
import Derived.Test.YtljfiefobnncaabGreatDoorK05
import Derived.Test.YtljfiefobnncaabGreatDoorK01

/- outlinelaw: keep: what holds in its first loop; rows of shapes that are written full. -/
namespace Go.Proofs.YtljfiefobnncaabGreatDoor
open Go.RowKit

/-- A list lies apart from the book and all that it holds. -/
def Ap (kb : Nat) (vp vs : Value) (P S : List Rec) (v : Value) : Prop := ∀ k, v.ownBlock = some k → k ≠ kb ∧ vp.ownBlock ≠ some k ∧ vs.ownBlock ≠ some k ∧ ∀ r, r ∈ P ∨ r ∈ S → ∀ u ∈ r.all, u.ownBlock ≠ some k

/-- What holds when the first i lists of points have been kept. -/
structure KI (kb N : Nat) (vp vs : Value) (P S : List Rec) (L : List (Value × (Qm.Sd × Nat))) (w : World) (i : Nat) (vp' : Value) (P' : List Rec) (wr : World) : Prop where
  ob : OBook kb (N + i) vp' vs P' S wr
  fr : Fr (fun k => k = kb ∨ vp.ownBlock = some k ∨ ∃ p ∈ L.take i, p.1.ownBlock = some k) w wr
  vpb : vp'.ownBlock = vp.ownBlock ∨ ∃ q, vp'.ownBlock = some q ∧ w.heap.size ≤ q
  recs : ∀ r ∈ P', r ∈ P ∨ ∀ u ∈ r.all, ∀ k, u.ownBlock = some k → (∃ p ∈ L.take i, p.1.ownBlock = some k) ∨ w.heap.size ≤ k

section
variable {kb N : Nat} {vp vs : Value} {P S : List Rec} {f : Qm.Sd → Qm.Sd} {b : Nat} {vl : Value} {L : List (Value × (Qm.Sd × Nat))} {w : World} {i : Nat} {vp' : Value} {P' : List Rec} {wr : World}

theorem KI.start (h : OBook kb N vp vs P S w) : KI kb N vp vs P S L w 0 vp P w := ⟨h, Fr.refl _ _, .inl rfl, fun _ hr => .inl hr⟩

theorem take_apart (hR : Rowed f b vl L w) (hi : i < L.length) : ∀ p ∈ L.take i, ∀ k, p.1.ownBlock = some k → L[i].1.ownBlock ≠ some k := by
  intro p hp k hk e
  have ap := (List.pairwise_cons.1 hR.apart).2
  obtain ⟨j, hj, hj2, e2⟩ := mem_take_getD (d := p) hp
  have := List.pairwise_iff_getElem.1 ap j i (by simpa using hj2) (by simpa using hi) hj
  simp only [List.getElem_map] at this
  have e3 : L[j] = p := by rw [← e2, List.getD_eq_getElem?_getD, List.getElem?_eq_getElem hj2]; rfl
  rw [e3, hk, e] at this
  simp at this

theorem KI.ready (h : KI kb N vp vs P S L w i vp' P' wr) (hR : Rowed f b vl L w) (hn : ∀ p ∈ L, 0 < p.2.2) (hA : ∀ p ∈ L, Ap kb vp vs P S p.1) (hi : i < L.length) :
    ∃ gv cap, L[i].1 = .slice (some ⟨gv, 0, none⟩) L[i].2.2 cap ∧ wr.ownsRow 0 65 2 (.slice (some ⟨gv, 0, none⟩) L[i].2.2 cap) L[i].2.2 (Qm.ptsV (Qm.ptsOf f L[i].2)) ∧ gv ≠ kb ∧ vp'.ownBlock ≠ some gv ∧ vs.ownBlock ≠ some gv ∧ ∀ r, r ∈ P' ∨ r ∈ S → ∀ u ∈ r.all, u.ownBlock ≠ some gv := by
  have hm := List.getElem_mem hi
  obtain ⟨gv, cap, e, _, hp, _⟩ := own_at (hR.pts _ hm) (hn _ hm)
  have ob : L[i].1.ownBlock = some gv := by rw [e]; rfl
  have ap := hA _ hm gv ob
  have ta := fun p hp k hk => take_apart (i := i) hR hi p hp k hk
  have gz : gv < w.heap.size := hp.1
  have o := hR.pts _ hm
  have o2 := own_fr o h.fr (fun k hk hc => by
    rw [ob] at hk; injection hk with hk; subst hk
    rcases hc with hc | hc | ⟨p, hp, hc⟩
    · exact ap.1 hc
    · exact ap.2.1 hc
    · exact ta p hp _ hc ob)
  rw [e] at o2
  refine ⟨gv, cap, e, o2.mono (Nat.zero_le _), ap.1, ?_, ap.2.2.1, ?_⟩
  · intro hc
    rcases h.vpb with hv | ⟨q, hv, hq⟩
    · exact ap.2.1 (hv ▸ hc)
    · rw [hv] at hc; injection hc with hc; omega
  · rintro r (hr | hr) u hu hc
    · rcases h.recs r hr with h1 | h1
      · exact ap.2.2.2 r (.inl h1) u hu hc
      · rcases h1 u hu gv hc with ⟨p, hp, h2⟩ | h2
        · exact ta p hp _ h2 ob
        · omega
    · exact ap.2.2.2 r (.inr hr) u hu hc

theorem KI.step (h : KI kb N vp vs P S L w i vp' P' wr) (hi : i < L.length) {gv : Nat} (hg : L[i].1.ownBlock = some gv) {w2 : World} {vp2 : Value} {r : Rec} (ho : OBook kb (N + i + 1) vp2 vs (P' ++ [r]) S w2) (hf : Fr (fun k => k = kb ∨ vp'.ownBlock = some k ∨ k = gv) wr w2)
    (hv : vp2.ownBlock = vp'.ownBlock ∨ ∃ q, vp2.ownBlock = some q ∧ wr.heap.size ≤ q) (hr : ∀ u ∈ r.all, ∀ k, u.ownBlock = some k → k = gv ∨ wr.heap.size ≤ k) : KI kb N vp vs P S L w (i + 1) vp2 (P' ++ [r]) w2 := by
  have z := h.fr.size
  have sub : ∀ k, (∃ p ∈ L.take i, p.1.ownBlock = some k) → ∃ p ∈ L.take (i + 1), p.1.ownBlock = some k := fun k ⟨p, hp, e⟩ => ⟨p, by rw [List.take_succ_eq_append_getElem hi]; exact List.mem_append_left _ hp, e⟩
  have here : ∃ p ∈ L.take (i + 1), p.1.ownBlock = some gv := ⟨L[i], by rw [List.take_succ_eq_append_getElem hi]; exact List.mem_append_right _ (List.mem_singleton.2 rfl), hg⟩
  refine ⟨ho, ⟨hf.os.trans h.fr.os, hf.tape.trans h.fr.tape, hf.output.trans h.fr.output, Nat.le_trans z hf.size, fun k hk hc => ?_⟩, ?_, ?_⟩
  · refine (hf.block k (by omega) fun hc2 => hc ?_).trans (h.fr.block k hk fun hc2 => hc ?_)
    · rcases hc2 with e | e | e
      · exact .inl e
      · rcases h.vpb with e2 | ⟨q, e2, hq⟩
        · exact .inr (.inl (e2 ▸ e))
        · rw [e2] at e; injection e with e; omega
      · subst e; exact .inr (.inr here)
    · exact hc2.imp id (fun h => h.imp id (sub k))
  · rcases hv with e | ⟨q, e, hq⟩
    · rw [e]; exact h.vpb
    · exact .inr ⟨q, e, by omega⟩
  · intro q hq
    rcases List.mem_append.1 hq with hq | hq
    · exact (h.recs q hq).imp id (fun h u hu k hk => (h u hu k hk).imp (sub k) id)
    · rw [List.mem_singleton] at hq; subst hq
      right
      intro u hu k hk
      rcases hr u hu k hk with e | e
      · subst e; exact .inl here
      · exact .inr (by omega)
end

/-! Rows of shapes, written full. -/
def pairV (l : List (Value × Int)) : List Value := l.flatMap fun p => [p.1, .int .i64 p.2]
theorem pairV_cons (q : Value × Int) (l : List (Value × Int)) : pairV (q :: l) = q.1 :: .int .i64 q.2 :: pairV l := by simp [pairV]
theorem pairV_app (a b : List (Value × Int)) : pairV (a ++ b) = pairV a ++ pairV b := by simp [pairV]
theorem pairV_len (l : List (Value × Int)) : (pairV l).length = l.length * 2 := by
  induction l with
  | nil => rfl
  | cons p l ih => rw [pairV_cons]; simp only [List.length_cons, ih]; omega
theorem pairV_at (d : Value × Int) (l : List (Value × Int)) : ∀ j, j < l.length → (pairV l)[j * 2]? = some (l.getD j d).1 ∧ (pairV l)[j * 2 + 1]? = some (.int .i64 (l.getD j d).2) := by
  induction l with
  | nil => intro j hj; simp at hj
  | cons p l ih =>
    intro j hj
    cases j with
    | zero => simp [pairV]
    | succ j =>
      have := ih j (by simpa using hj)
      rw [pairV_cons, show (j + 1) * 2 = j * 2 + 1 + 1 from by omega, show j * 2 + 1 + 1 + 1 = (j * 2 + 1) + 1 + 1 from by omega]
      simpa using this
theorem pairV_set (l : List (Value × Int)) (p : Value × Int) : ∀ i, i < l.length → ((pairV l).set (i * 2) p.1).set (i * 2 + 1) (.int .i64 p.2) = pairV (l.set i p) := by
  induction l with
  | nil => intro i hi; simp at hi
  | cons q l ih =>
    intro i hi
    cases i with
    | zero => show _ = pairV (p :: l); rw [pairV_cons, pairV_cons]; rfl
    | succ i =>
      rw [pairV_cons, List.set_cons_succ, pairV_cons, ← ih i (by simpa using hi), show (i + 1) * 2 = i * 2 + 1 + 1 from by omega]
      rfl
theorem shpV_pair (f : Qm.Sd → Qm.Sd) (L : List (Value × (Qm.Sd × Nat))) : shpV f L = pairV (L.map fun p => (p.1, Qm.twiceOf (Qm.ptsOf f p.2))) := by simp [shpV, pairV, List.flatMap_map]
def fillP (l : List (Value × Int)) (p : Value × Int) (i : Nat) : List (Value × Int) := List.replicate i p ++ l.drop i
theorem fillP_succ (l : List (Value × Int)) (p : Value × Int) (i : Nat) (hi : i < l.length) : (fillP l p i).set i p = fillP l p (i + 1) := by
  unfold fillP
  apply List.ext_getElem?
  intro j
  rw [List.getElem?_set]
  simp only [List.length_append, List.length_replicate, List.length_drop]
  by_cases e : i = j
  · subst e
    rw [if_pos rfl, if_pos (by omega), List.getElem?_append_left (by simp), List.getElem?_replicate, if_pos (by omega)]
  · rw [if_neg e]
    by_cases h1 : j < i
    · rw [List.getElem?_append_left (by simpa using h1), List.getElem?_append_left (by simp; omega)]
      simp [List.getElem?_replicate, h1]; omega
    · rw [List.getElem?_append_right (by simp; omega), List.getElem?_append_right (by simp; omega)]
      simp only [List.length_replicate, List.getElem?_drop]
      congr 1; omega
theorem fillP_len (l : List (Value × Int)) (p : Value × Int) (i : Nat) (hi : i ≤ l.length) : (fillP l p i).length = l.length := by simp [fillP]; omega
abbrev nilS : Value := .slice none 0 0
theorem own_mkS {w : World} {b : Nat} {t : TypeId} {v : Value} {n : Nat} {mark : Int} (h : w.ownsRow b t 2 v n (pairV (List.replicate n (nilS, mark)))) : Mk 1 v mark w := by
  have hm := own_max h
  rcases h.2 with ⟨rfl, rfl⟩ | ⟨g, cap, cur, rfl, hb, hg, _⟩
  · exact ⟨none, 0, 0, rfl, by omega, .inl rfl⟩
  · refine ⟨some ⟨g, 0, none⟩, n, cap, rfl, hm, .inr ⟨g, rfl, (Array.getElem?_eq_some_iff.1 hg).1, fun k hk => ?_⟩⟩
    have p := pairV_at (nilS, mark) (List.replicate n (nilS, mark)) k (by simpa using hk)
    have := h.cells (g := g) rfl _ _ p.2
    rw [add_zero_at] at this
    rw [this]
    simp [List.getD_eq_getElem?_getD, hk]
theorem Mk.appS {w w' : World} {v u : Value} {n m : Nat} {mark : Int} (h : Mk 1 u mark w) (hg : w.grownBy w' v.ownBlock)
    (hk : ∀ g j x, v.ownBlock = some g → w.cell? ⟨g, j, none⟩ = some x → w'.cell? ⟨g, j, none⟩ = some x ∨ ∃ q, j = n * 2 + q ∧ w'.cell? ⟨g, j, none⟩ = (pairV (List.replicate m (nilS, mark)))[q]? ∧ q < (pairV (List.replicate m (nilS, mark))).length) : Mk 1 u mark w' := by
  obtain ⟨ao, k, cap, e, hn, h1⟩ := h
  refine ⟨ao, k, cap, e, hn, h1.imp id ?_⟩
  rintro ⟨g, e2, h2, h3⟩
  refine ⟨g, e2, Nat.lt_of_lt_of_le h2 hg.size, fun j hj => ?_⟩
  by_cases ev : v.ownBlock = some g
  · rcases hk g (j * 2 + 1) _ ev (h3 j hj) with h4 | ⟨q, h4, h5, h6⟩
    · exact h4
    · rw [h5]
      rw [pairV_len, List.length_replicate] at h6
      have p := pairV_at (nilS, mark) (List.replicate m (nilS, mark)) (q / 2) (by simp; omega)
      rw [show q = q / 2 * 2 + 1 from by omega, p.2]
      simp [List.getD_eq_getElem?_getD, show q / 2 < m from by omega]
  · exact (World.cell?_of_block (a := ⟨g, j * 2 + 1, none⟩) (hg.block g h2 (fun e => ev e.symm))).trans (h3 j hj)
theorem markS_app (mk : Int) (n k : Nat) : pairV (List.replicate (n + k) (nilS, mk)) = pairV (List.replicate n (nilS, mk)) ++ pairV (List.replicate k (nilS, mk)) := by rw [← pairV_app, List.replicate_append_replicate]
theorem markS_one (mk : Int) (k : Nat) : ∀ u ∈ pairV (List.replicate k (nilS, mk)), u.oneCell' = true := by
  intro u hu
  simp only [pairV, List.mem_flatMap] at hu
  obtain ⟨p, hp, hu⟩ := hu
  rw [List.eq_of_mem_replicate hp] at hu
  simp only [List.mem_cons, List.not_mem_nil, or_false] at hu
  rcases hu with rfl | rfl <;> rfl

theorem keep_done {kb N : Nat} {vp vs : Value} {P S : List Rec} {w w3 w4 : World} {v : Value} {gg capg : Nat} {r : Rec} {o : Obj} (HO : OBook kb N vp vs P S w) (ap : Ap kb vp vs P S v)
    (F3 : Fr (fun k => k = kb ∨ v.ownBlock = some k) w w3) (M : ∀ u ∈ r.all, Mk 1 u r.mark w3) (B : ∀ u ∈ r.all, ∀ k, u.ownBlock = some k → (v.ownBlock = some k ∨ w.heap.size ≤ k) ∧ k < w3.heap.size)
    (O4 : w4.ownsRow 0 48 5 (.slice (some ⟨gg, 0, none⟩) (S.length + 1) capg) (S.length + 1) (recsV S ++ recV r)) (G4 : (w3.alloc o).drew.grownBy w4 vs.ownBlock) (A4 : vs.ownBlock = some gg ∨ gg = w3.heap.size + 1) (K4 : KB kb (N + 1) vp vs w4) :
    ∃ vs' r, OBook kb (N + 1) vp vs' P (S ++ [r]) (w4.setCell ⟨kb, 2, none⟩ (.slice (some ⟨gg, 0, none⟩) (S.length + 1) capg)) ∧ Fr (fun k => k = kb ∨ vs.ownBlock = some k ∨ v.ownBlock = some k) w (w4.setCell ⟨kb, 2, none⟩ (.slice (some ⟨gg, 0, none⟩) (S.length + 1) capg)) ∧
      (vs'.ownBlock = vs.ownBlock ∨ ∃ q, vs'.ownBlock = some q ∧ w.heap.size ≤ q) := by
  have z3 := F3.size
  have z4 := G4.size
  simp at z4
  have vpl : ∀ k, vp.ownBlock = some k → k < w.heap.size := fun k hk => (HO.po.lt k hk).2
  have vsl : ∀ k, vs.ownBlock = some k → k < w.heap.size := fun k hk => (HO.so.lt k hk).2
  have kz := HO.lt
  have ggk : gg ≠ kb := by
    rcases A4 with h | h
    · intro e; subst e; exact HO.a2 h
    · omega
  have F34 : Fr (fun k => k = kb ∨ vs.ownBlock = some k) w3 (w4.setCell ⟨kb, 2, none⟩ (.slice (some ⟨gg, 0, none⟩) (S.length + 1) capg)) :=
    (Fr.below ((Below.refl _ _).alloc (Nat.le_refl _) o)).trans ((Fr.below (a := w3.alloc o) (b := (w3.alloc o).drew) ((Below.refl _ _).drew)).trans ((Fr.grown G4 (fun k hk _ => .inr hk)).trans (Fr.set (.inl rfl))))
  have FT : Fr (fun k => k = kb ∨ vs.ownBlock = some k ∨ v.ownBlock = some k) w (w4.setCell ⟨kb, 2, none⟩ (.slice (some ⟨gg, 0, none⟩) (S.length + 1) capg)) :=
    (F3.imp (fun k _ h => h.elim .inl (fun h => .inr (.inr h)))).trans (F34.imp (fun k _ h => h.elim .inl (fun h => .inr (.inl h))))
  have KF := KB.set2 K4 (.slice (some ⟨gg, 0, none⟩) (S.length + 1) capg)
  have oldC : ∀ r, r ∈ P ∨ r ∈ S → ∀ u ∈ r.all, ∀ k, u.ownBlock = some k → ¬ (k = kb ∨ vs.ownBlock = some k ∨ v.ownBlock = some k) := fun r hr u hu k hk hc => by
    have h := HO.far r hr u hu k hk
    rcases hc with hc | hc | hc
    · exact h.1 hc
    · exact h.2.2 hc
    · exact (ap k hc).2.2.2 r hr u hu hk
  refine ⟨.slice (some ⟨gg, 0, none⟩) (S.length + 1) capg, r, ⟨KF.1, KF.2.1, KF.2.2.1, KF.2.2.2.1, KF.2.2.2.2, ?_, ?_, ?_, ?_, HO.a1, ?_, ?_, ?_, ?_, ?_⟩, FT, ?_⟩
  · refine own_fr HO.po FT fun k hk hc => ?_
    rcases hc with hc | hc | hc
    · subst hc; exact HO.a1 hk
    · exact HO.a3 k hk hc
    · exact (ap k hc).2.1 hk
  · rw [recsV_snoc, List.length_append]
    exact own_fr (C := fun k => k = kb) O4 (Fr.set rfl) (fun k hk => by simp [Value.ownBlock] at hk; omega)
  · intro q hq
    exact MkR.of fun u hu => ((HO.mp q hq).get u hu).fr FT (oldC q (.inl hq) u hu)
  · intro q hq
    rcases List.mem_append.1 hq with hq | hq
    · exact MkR.of fun u hu => ((HO.ms q hq).get u hu).fr FT (oldC q (.inr hq) u hu)
    · rw [List.mem_singleton] at hq; subst hq
      refine MkR.of fun u hu => (M u hu).fr F34 fun k hk hc => ?_
      have h := (B u hu k hk).1
      rcases hc with hc | hc
      · rcases h with h | h
        · exact (ap k h).1 hc
        · omega
      · rcases h with h | h
        · exact (ap k h).2.2.1 hc
        · have := vsl k hc; omega
  · intro e; simp [Value.ownBlock] at e; omega
  · intro k hk hv
    simp only [Value.ownBlock, Option.some.injEq] at hv
    subst hv
    rcases A4 with h | h
    · exact HO.a3 _ hk h
    · have := vpl _ hk; omega
  · intro q hq u hu k hk
    have new : q = r → k ≠ kb ∧ vp.ownBlock ≠ some k ∧ (Value.slice (some ⟨gg, 0, none⟩) (S.length + 1) capg).ownBlock ≠ some k := fun e => by
      subst e
      obtain ⟨h, h2⟩ := B u hu k hk
      refine ⟨?_, fun e => ?_, fun e => ?_⟩
      · rcases h with h | h
        · exact (ap k h).1
        · omega
      · rcases h with h | h
        · exact (ap k h).2.1 e
        · have := vpl _ e; omega
      · simp only [Value.ownBlock, Option.some.injEq] at e
        subst e
        rcases A4 with h3 | h3
        · rcases h with h | h
          · exact (ap _ h).2.2.1 h3
          · have := vsl _ h3; omega
        · omega
    have old : q ∈ P ∨ q ∈ S → k ≠ kb ∧ vp.ownBlock ≠ some k ∧ (Value.slice (some ⟨gg, 0, none⟩) (S.length + 1) capg).ownBlock ≠ some k := fun hq => by
      have h := HO.far q hq u hu k hk
      have hl := HO.old q hq u hu k hk
      refine ⟨h.1, h.2.1, fun e => ?_⟩
      simp only [Value.ownBlock, Option.some.injEq] at e
      subst e
      rcases A4 with h3 | h3
      · exact h.2.2 h3
      · omega
    rcases hq with hq | hq
    · exact old (.inl hq)
    · rcases List.mem_append.1 hq with hq | hq
      · exact old (.inr hq)
      · exact new (List.mem_singleton.1 hq)
  · intro q hq u hu k hk
    have zf := FT.size
    have zg := F34.size
    rcases hq with hq | hq
    · have := HO.old q (.inl hq) u hu k hk; omega
    · rcases List.mem_append.1 hq with hq | hq
      · have := HO.old q (.inr hq) u hu k hk; omega
      · have e := List.mem_singleton.1 hq; subst e; have := (B u hu k hk).2; omega
  · have := HO.few; simp; omega
  · rcases A4 with h | h
    · left; rw [h]; rfl
    · right; exact ⟨gg, rfl, by omega⟩

theorem OBook.below {kb N : Nat} {vp vs : Value} {P S : List Rec} {w w' : World} (h : OBook kb N vp vs P S w) (hb : Below w.heap.size w w') : OBook kb N vp vs P S w' :=
  ⟨Nat.lt_of_lt_of_le h.lt hb.size, (hb.cell (p := ⟨kb, 0, none⟩) h.lt).trans h.c0, (hb.cell (p := ⟨kb, 1, none⟩) h.lt).trans h.c1, (hb.cell (p := ⟨kb, 2, none⟩) h.lt).trans h.c2, fun j => (hb.frozen (p := ⟨kb, j, none⟩) h.lt).trans (h.fz j), own_below h.po hb, own_below h.so hb, fun r hr => (h.mp r hr).call hb, fun r hr => (h.ms r hr).call hb, h.a1, h.a2, h.a3, h.far, fun r hr u hu k hk => Nat.lt_of_lt_of_le (h.old r hr u hu k hk) hb.size, h.few⟩

/-- The row of shapes lies apart from the points of its shapes, and from the book as it has become. -/
theorem KI.apl {kb N : Nat} {vp vs : Value} {P S : List Rec} {f : Qm.Sd → Qm.Sd} {b : Nat} {vl : Value} {L : List (Value × (Qm.Sd × Nat))} {w : World} {i : Nat} {vp' : Value} {P' : List Rec} {wr : World} (h : KI kb N vp vs P S L w i vp' P' wr) (hR : Rowed f b vl L w) (hA : Ap kb vp vs P S vl) :
    Ap kb vp' vs P' S vl ∧ (∀ k, vl.ownBlock = some k → ¬ (k = kb ∨ vp.ownBlock = some k ∨ ∃ p ∈ L.take i, p.1.ownBlock = some k)) := by
  have pl : ∀ p ∈ L, ∀ k, vl.ownBlock = some k → p.1.ownBlock ≠ some k := fun p hp k hk e => by
    rcases (List.pairwise_cons.1 hR.apart).1 p.1 (List.mem_map_of_mem hp) with h | h
    · rw [hk] at h; cases h
    · exact h (hk.trans e.symm)
  have lt : ∀ k, vl.ownBlock = some k → k < w.heap.size := fun k hk => (hR.row.lt k hk).2
  refine ⟨fun k hk => ⟨(hA k hk).1, ?_, (hA k hk).2.2.1, ?_⟩, fun k hk hc => ?_⟩
  · intro e
    rcases h.vpb with e2 | ⟨q, e2, hq⟩
    · exact (hA k hk).2.1 (e2 ▸ e)
    · rw [e2] at e; injection e with e; have := lt k hk; omega
  · rintro r (hr | hr) u hu e
    · rcases h.recs r hr with h1 | h1
      · exact (hA k hk).2.2.2 r (.inl h1) u hu e
      · rcases h1 u hu k e with ⟨p, hp, h2⟩ | h2
        · exact pl p (List.mem_of_mem_take hp) k hk h2
        · have := lt k hk; omega
    · exact (hA k hk).2.2.2 r (.inr hr) u hu e
  · rcases hc with hc | hc | ⟨p, hp, hc⟩
    · exact (hA k hk).1 hc
    · exact (hA k hk).2.1 hc
    · exact pl p (List.mem_of_mem_take hp) k hk hc
end Go.Proofs.YtljfiefobnncaabGreatDoor

/- outlineref.Twice. -/
namespace Go.Proofs.YtljfiefobnncaabGreatDoor
open Go.RowKit

set_option maxRecDepth 4000 in
set_option maxHeartbeats 2000000 in
theorem refTwice_big (g n cap : Nat) (l : List (Int × Int)) (hn : n = l.length) (h0 : 0 < n) (hs : Qm.Small l) (hn2 : n ≤ 140737488355328) (w : World) (hP : PtsAt g l w) :
    Calls Tryz.prog 49 #[.slice (some ⟨g, 0, none⟩) n cap] w fun e w' => e = .returned (.int .i64 (Qm.twiceOf l)) ∧ Below w.heap.size w w' := by
  have HP := hid hP
  have hg := hP.1
  have HN := hid hn
  have e0 : ((n : Int) == 0) = false := by simp; omega
  clear hP hn
  go_enter Tryz.func49, Tryz.ntmps49
  go_wp2
  go_loopw [3, 4] (fun sm i wr => ∃ k : Nat, k ≤ n ∧ i = .int .i64 k ∧ sm = .int .i64 (Qm.fsum l k) ∧ Below w.heap.size w wr) (fun _ i _ => n - (intOf i).toNat)
  case atStart => exact ⟨0, by omega, rfl, rfl, Below.refl _ _⟩
  case round =>
    obtain ⟨k, hk, rfl, rfl, hb⟩ := hrel
    have HB := hid hb
    have ts := Qm.fsum_small hs k
    by_cases hlt : k < n
    · obtain ⟨r, hr⟩ : ∃ r, r = (k + 1) % n := ⟨_, rfl⟩
      have hrn : r < n := by rw [hr]; exact Nat.mod_lt _ h0
      have er : ((k : Int) + 1) % (n : Int) = (r : Nat) := by rw [hr]; simp
      obtain ⟨r0, r1⟩ := (HP.out.on hb hg).2 k (by have := HN.out; omega)
      obtain ⟨q0, q1⟩ := (HP.out.on hb hg).2 r (by have := HN.out; omega)
      have sp := hs.at k
      have sq := hs.at r
      have E2 : Hid (Qm.fsum l (k + 1) = Qm.fsum l k + ((l.getD k (0, 0)).2 * (l.getD r (0, 0)).1 - (l.getD k (0, 0)).1 * (l.getD r (0, 0)).2)) := by rw [hr, HN.out]; rfl
      have m1 := Qm.mul_small sp.2.2.1 sp.2.2.2 sq.1 sq.2.1
      have m2 := Qm.mul_small sp.1 sp.2.1 sq.2.2.1 sq.2.2.2
      obtain ⟨⟨pa, pb⟩, hpp⟩ : ∃ p, p = l.getD k (0, 0) := ⟨_, rfl⟩
      obtain ⟨⟨qa, qb⟩, hqq⟩ : ∃ p, p = l.getD r (0, 0) := ⟨_, rfl⟩
      rw [← hpp] at r0 r1 m1 m2 sp E2
      rw [← hqq] at q0 q1 m1 m2 sq E2
      dsimp only at r0 r1 q0 q1 m1 m2 sp sq
      obtain ⟨u, hu⟩ : ∃ u, pb * qa = u := ⟨_, rfl⟩
      obtain ⟨z, hzz⟩ : ∃ z, pa * qb = z := ⟨_, rfl⟩
      rw [hu] at m1
      rw [hzz] at m2
      have hz := HB.out.size
      have b1 : (0 : Int) ≤ (r : Nat) := by omega
      have b2 : ((r : Nat) : Int) < (n : Nat) := by omega
      have hg2 : g < wr.heap.size := by omega
      clear hb hpp hqq hr
      go_wp2
      go_roundw
      case rel => exact ⟨k + 1, by omega, by go_num, by rw [E2.out]; dsimp only; rw [hu, hzz]; congr 1; omega, (HB.out.alloc hz _).alloc (by simp; omega) _⟩
      case measure => simp [intOf]; omega
    · have ek : k = n := by omega
      go_wp2
      go_ret
      exact ⟨ret_int (by rw [ek, HN.out]; exact (Qm.twiceOf_fsum l).symm), HB.out⟩

theorem refTwice_any (g n cap : Nat) (l : List (Int × Int)) (hn : n = l.length) (h0 : 0 < n) (hs : Qm.Small l) (hn2 : n ≤ 4356) (w : World) (hP : PtsAt g l w) :
    Calls Tryz.prog 49 #[.slice (some ⟨g, 0, none⟩) n cap] w fun e w' => e = .returned (.int .i64 (Qm.twiceOf l)) ∧ Below w.heap.size w w' :=
  refTwice_big g n cap l hn h0 hs (by omega) w hP

end Go.Proofs.YtljfiefobnncaabGreatDoor

/- outlineref: pt, bend, ahead, May. -/
namespace Go.Proofs.YtljfiefobnncaabGreatDoor
open Go.RowKit

set_option maxRecDepth 4000 in
set_option maxHeartbeats 400000 in
theorem pt_any (x y : Int) (w : World) :
    Calls Tryz.prog 97 #[.int .i64 x, .int .i64 y] w fun e w' => e = .returned (.agg #[.int .i64 x, .int .i64 y]) ∧ w' = w.alloc (.cells #[.int .i64 x, .int .i64 y] 65) := by
  go_enter Tryz.func97, Tryz.ntmps97
  go_wp2
  refine bodyPost_ret (v := .agg #[.int .i64 x, .int .i64 y]) (by simp [results, Tryz.results97, go_sem]) rfl ?_
  exact ⟨rfl, rfl⟩

/-- Which way a side turns behind another: by their steps. -/
def stepX : Nat → Int
  | 1 => 1
  | 3 => -1
  | _ => 0
def stepY : Nat → Int
  | 0 => 1
  | 2 => -1
  | _ => 0
def bendD (d e : Nat) : Int := stepX d * stepY e - stepY d * stepX e
theorem en_step (s : Qm.Sd) (h : s.2.2 < 4) : Qm.en s = (s.1 + stepX s.2.2, s.2.1 + stepY s.2.2) := by
  obtain ⟨x, y, d⟩ := s
  match d, h with
  | 0, _ => simp [Qm.en, stepX, stepY]
  | 1, _ => simp [Qm.en, stepX, stepY]
  | 2, _ => simp [Qm.en, stepX, stepY]; omega
  | 3, _ => simp [Qm.en, stepX, stepY]; omega
/-- The cells of a side. -/
def sdV (s : Qm.Sd) : List Value := [.int .i64 s.1, .int .i64 s.2.1, .int .i64 (Qm.en s).1, .int .i64 (Qm.en s).2]

set_option maxRecDepth 4000 in
set_option maxHeartbeats 1000000 in
theorem bend_any (x y : Int) (d : Nat) (x' y' : Int) (d' : Nat) (hd : d < 4) (hd' : d' < 4) (w : World) :
    Calls Tryz.prog 73 #[.agg (sdV (x, y, d)).toArray, .agg (sdV (x', y', d')).toArray] w fun e w' => e = .returned (.int .i64 (bendD d d')) ∧ Below w.heap.size w w' := by
  have b1 : -1 ≤ stepX d ∧ stepX d ≤ 1 := by unfold stepX; split <;> omega
  have b2 : -1 ≤ stepY d ∧ stepY d ≤ 1 := by unfold stepY; split <;> omega
  have b3 : -1 ≤ stepX d' ∧ stepX d' ≤ 1 := by unfold stepX; split <;> omega
  have b4 : -1 ≤ stepY d' ∧ stepY d' ≤ 1 := by unfold stepY; split <;> omega
  have p1 : -1 ≤ stepX d * stepY d' ∧ stepX d * stepY d' ≤ 1 := by unfold stepX stepY; split <;> split <;> omega
  have p2 : -1 ≤ stepY d * stepX d' ∧ stepY d * stepX d' ≤ 1 := by unfold stepX stepY; split <;> split <;> omega
  simp only [sdV, en_step (x, y, d) hd, en_step (x', y', d') hd']
  have hb : Hid (bendD d d' = stepX d * stepY d' - stepY d * stepX d') := rfl
  generalize stepX d = a at *
  generalize stepY d = b at *
  generalize stepX d' = a' at *
  generalize stepY d' = b' at *
  obtain ⟨u, hu⟩ : ∃ u, a * b' = u := ⟨_, rfl⟩
  obtain ⟨v, hv⟩ : ∃ v, b * a' = v := ⟨_, rfl⟩
  rw [hu] at p1
  rw [hv] at p2
  have e1 : x + a - x = a := by omega
  have e2 : y + b - y = b := by omega
  have e3 : x' + a' - x' = a' := by omega
  have e4 : y' + b' - y' = b' := by omega
  go_enter Tryz.func73, Tryz.ntmps73
  go_wp2
  go_ret
  exact ⟨ret_int (by rw [hb.out, hu, hv]), by go_grown⟩

/-- Where a point stands, as a number. -/
def keyP (p : Int × Int) : Int := 33 * p.2 + p.1

set_option maxRecDepth 4000 in
set_option maxHeartbeats 1000000 in
theorem ahead_any (x y x' y' : Int) (hx : 0 ≤ x ∧ x ≤ 32) (hx' : 0 ≤ x' ∧ x' ≤ 32) (w : World) :
    Calls Tryz.prog 74 #[.agg #[.int .i64 x, .int .i64 y], .agg #[.int .i64 x', .int .i64 y']] w fun e w' => e = .returned (.bool (decide (keyP (x, y) < keyP (x', y')))) ∧ Below w.heap.size w w' := by
  by_cases h1 : y < y'
  · have E := hid (show decide (keyP (x, y) < keyP (x', y')) = true by unfold keyP; simp; omega)
    go_enter Tryz.func74, Tryz.ntmps74
    go_wp2
    go_ret
    exact ⟨ret_bool E.out.symm, by go_grown⟩
  · have d1 : decide (y < y') = false := by simp; omega
    by_cases h2 : y = y'
    · subst h2
      by_cases h3 : x < x'
      · have E := hid (show decide (keyP (x, y) < keyP (x', y)) = true by unfold keyP; simp; omega)
        go_enter Tryz.func74, Tryz.ntmps74
        go_wp2
        go_ret
        exact ⟨ret_bool E.out.symm, by go_grown⟩
      · have d3 : decide (x < x') = false := by simp; omega
        have E := hid (show decide (keyP (x, y) < keyP (x', y)) = false by unfold keyP; simp; omega)
        go_enter Tryz.func74, Tryz.ntmps74
        go_wp2
        go_ret
        exact ⟨ret_bool E.out.symm, by go_grown⟩
    · have d2 : (y == y') = false := by simp; omega
      have E := hid (show decide (keyP (x, y) < keyP (x', y')) = false by unfold keyP; simp; omega)
      go_enter Tryz.func74, Tryz.ntmps74
      go_wp2
      go_ret
      exact ⟨ret_bool E.out.symm, by go_grown⟩

set_option maxRecDepth 4000 in
set_option maxHeartbeats 1000000 in
theorem may_any (W H : Int) (s : ByteArray) (pol : Int) (draws : ByteArray) (spk : Int) (w : World) :
    Calls Tryz.prog 44 #[.agg #[.int .i64 W, .int .i64 H, .string s], .agg #[.int .i64 pol, .string draws, .int .i64 spk]] w fun e w' => e = .returned (.bool (mayB W H s.data.toList pol spk)) ∧ Below w.heap.size w w' := by
  cases hg : Pm.goodB W H s.data.toList
  · have E := hid (show mayB W H s.data.toList pol spk = false by unfold mayB; rw [hg]; simp)
    go_enter Tryz.func44, Tryz.ntmps44
    go_wp2_with (go_at_call 40; refine (good_any W H s _).mono ?_; rintro e w' ⟨rfl, rfl⟩; rw [hg])
    go_ret
    exact ⟨ret_bool E.out.symm, by go_grown⟩
  · by_cases p0 : 0 ≤ pol
    · by_cases p1 : pol ≤ 3
      · by_cases s0 : 0 ≤ spk
        · by_cases s1 : spk ≤ 1024
          · have E := hid (mayB_good (W := W) (H := H) (l := s.data.toList) (pol := pol) (spk := spk) (by omega) (by omega))
            go_enter Tryz.func44, Tryz.ntmps44
            go_wp2_with (go_at_call 40; refine (good_any W H s _).mono ?_; rintro e w' ⟨rfl, rfl⟩; rw [hg])
            go_ret
            exact ⟨ret_bool (by rw [E.out, hg]), by go_grown⟩
          · have E := hid (mayB_spk (W := W) (H := H) (l := s.data.toList) (pol := pol) (spk := spk) (by omega))
            have dd : decide (spk ≤ 1024) = false := by simp; omega
            go_enter Tryz.func44, Tryz.ntmps44
            go_wp2_with (go_at_call 40; refine (good_any W H s _).mono ?_; rintro e w' ⟨rfl, rfl⟩; rw [hg])
            go_ret
            exact ⟨ret_bool E.out.symm, by go_grown⟩
        · have E := hid (mayB_spk (W := W) (H := H) (l := s.data.toList) (pol := pol) (spk := spk) (by omega))
          have dd : decide (0 ≤ spk) = false := by simp; omega
          go_enter Tryz.func44, Tryz.ntmps44
          go_wp2_with (go_at_call 40; refine (good_any W H s _).mono ?_; rintro e w' ⟨rfl, rfl⟩; rw [hg])
          go_ret
          exact ⟨ret_bool E.out.symm, by go_grown⟩
      · have E := hid (mayB_pol (W := W) (H := H) (l := s.data.toList) (pol := pol) (spk := spk) (by omega))
        have dd : decide (pol ≤ 3) = false := by simp; omega
        go_enter Tryz.func44, Tryz.ntmps44
        go_wp2_with (go_at_call 40; refine (good_any W H s _).mono ?_; rintro e w' ⟨rfl, rfl⟩; rw [hg])
        go_ret
        exact ⟨ret_bool E.out.symm, by go_grown⟩
    · have E := hid (mayB_pol (W := W) (H := H) (l := s.data.toList) (pol := pol) (spk := spk) (by omega))
      have dd : decide (0 ≤ pol) = false := by simp; omega
      go_enter Tryz.func44, Tryz.ntmps44
      go_wp2_with (go_at_call 40; refine (good_any W H s _).mono ?_; rintro e w' ⟨rfl, rfl⟩; rw [hg])
      go_ret
      exact ⟨ret_bool E.out.symm, by go_grown⟩
end Go.Proofs.YtljfiefobnncaabGreatDoor

/- outlineref.Joins. -/
namespace Go.Proofs.YtljfiefobnncaabGreatDoor
open Go.RowKit

/-- Three boxes stand: a bitmap's, the options', a point's; below them all is as it was. -/
def Bj (B : Nat) (a b c x y : Value) (w wr : World) : Prop :=
  wr.cell? ⟨B, 0, none⟩ = some a ∧ wr.cell? ⟨B, 1, none⟩ = some b ∧ wr.cell? ⟨B, 2, none⟩ = some c ∧ wr.cell? ⟨B + 1 + 1, 0, none⟩ = some x ∧ wr.cell? ⟨B + 1 + 1, 1, none⟩ = some y ∧ Below B w wr ∧ B + 1 + 1 < wr.heap.size
theorem Bj.on {B : Nat} {a b c x y : Value} {w wr w2 : World} (h : Bj B a b c x y w wr) (hb : Below wr.heap.size wr w2) : Bj B a b c x y w w2 := by
  obtain ⟨c0, c1, c2, c3, c4, hn, hz⟩ := h
  have hz' : B < wr.heap.size := by omega
  exact ⟨(hb.cell (p := ⟨B, 0, none⟩) hz').trans c0, (hb.cell (p := ⟨B, 1, none⟩) hz').trans c1, (hb.cell (p := ⟨B, 2, none⟩) hz').trans c2, (hb.cell (p := ⟨B + 1 + 1, 0, none⟩) hz).trans c3, (hb.cell (p := ⟨B + 1 + 1, 1, none⟩) hz).trans c4, hn.trans (hb.mono (Nat.le_of_lt hz')), Nat.lt_of_lt_of_le hz hb.size⟩
theorem Bj.new (w : World) (a b c x y : Value) (o : Array Value) (t u v : TypeId) : Bj w.heap.size a b c x y w (((w.alloc (.cells #[a, b, c] t)).alloc (.cells o u)).alloc (.cells #[x, y] v)) :=
  ⟨by simp [go_sem], by simp [go_sem], by simp [go_sem], by simp [go_sem], by simp [go_sem], by go_grown, by simp⟩
theorem Bj.alloc {B : Nat} {a b c x y : Value} {w wr : World} (h : Bj B a b c x y w wr) (o : Obj) : Bj B a b c x y w (wr.alloc o) := h.on ((Below.refl _ _).alloc (Nat.le_refl _) _)

set_option maxRecDepth 4000 in
set_option maxHeartbeats 2000000 in
theorem refJoins_2 (W H : Nat) (s : ByteArray) (draws : ByteArray) (spk : Int) (X Y : Int) (hx : 0 ≤ X ∧ X ≤ 100) (hy : 0 ≤ Y ∧ Y ≤ 100) (w : World) (hw2 : W ≤ 32) (hh2 : H ≤ 32) (hl : s.size = W * H) :
    Calls Tryz.prog 72 #[.agg #[.int .i64 W, .int .i64 H, .string s], .agg #[.int .i64 2, .string draws, .int .i64 spk], .agg #[.int .i64 X, .int .i64 Y]] w fun e w' => e = .returned (.bool (decide (Qm.cntTo (Pm.blackB W H s.data.toList) X Y 16 < 8))) ∧ Below w.heap.size w w' := by
  have HL := hid hl
  clear hl
  go_enter Tryz.func72, Tryz.ntmps72
  go_wp2
  go_loopw [7, 8] (fun n y wr => ∃ i : Nat, i ≤ 4 ∧ y = .int .i64 (Y - 2 + (i : Nat)) ∧ n = .int .i64 (Qm.cntTo (Pm.blackB W H s.data.toList) X Y (4 * i) : Nat) ∧ Bj w.heap.size (.int .i64 W) (.int .i64 H) (.string s) (.int .i64 X) (.int .i64 Y) w wr) (fun _ y _ => (Y + 5 - intOf y).toNat)
  case atStart => exact ⟨0, by omega, by simp, rfl, Bj.new ..⟩
  case round =>
    obtain ⟨i, hi, rfl, rfl, hB⟩ := hrel
    have HB := hid hB
    obtain ⟨c0, c1, c2, c3, c4, -, hz⟩ := hB
    by_cases hlt : i < 4
    · have hlt' : Y - 2 + (i : Int) ≤ Y + 1 := by omega
      go_wp2
      go_loopw [7, 9] (fun n x wr => ∃ j : Nat, j ≤ 4 ∧ x = .int .i64 (X - 2 + (j : Nat)) ∧ n = .int .i64 (Qm.cntTo (Pm.blackB W H s.data.toList) X Y (4 * i + j) : Nat) ∧ Bj w.heap.size (.int .i64 W) (.int .i64 H) (.string s) (.int .i64 X) (.int .i64 Y) w wr) (fun _ x _ => (X + 5 - intOf x).toNat)
      case atStart => exact ⟨0, by omega, by simp, rfl, HB.out⟩
      case round =>
        clear c0 c1 c2 c3 c4 hz HB
        obtain ⟨j, hj, rfl, rfl, hB⟩ := hrel
        have HB := hid hB
        obtain ⟨c0, c1, c2, c3, c4, -, hz⟩ := hB
        by_cases hj4 : j < 4
        · have hjt : X - 2 + (j : Int) ≤ X + 1 := by omega
          have hc := Qm.cntTo_le (Pm.blackB W H s.data.toList) X Y (4 * i + j)
          cases hq : Pm.blackB W H s.data.toList (X - 2 + (j : Nat)) (Y - 2 + (i : Nat))
          · have E := hid (Qm.cntTo_no (Pm.blackB W H s.data.toList) X Y i j hj4 hq)
            go_wp2_with (go_at_call 42; refine (black_any W H s _ _ _ hw2 hh2 HL.out).mono ?_; rintro e w1 ⟨rfl, rfl⟩; rw [hq])
            go_roundw
            case rel => exact ⟨j + 1, by omega, by go_num, by rw [E.out], HB.out.alloc _⟩
            case measure => simp [intOf]; omega
          · have E := hid (Qm.cntTo_yes (Pm.blackB W H s.data.toList) X Y i j hj4 hq)
            go_wp2_with (go_at_call 42; refine (black_any W H s _ _ _ hw2 hh2 HL.out).mono ?_; rintro e w1 ⟨rfl, rfl⟩; rw [hq])
            go_roundw
            case rel => exact ⟨j + 1, by omega, by go_num, by rw [E.out]; go_num, HB.out.alloc _⟩
            case measure => simp [intOf]; omega
        · have e4 : j = 4 := by omega
          subst e4
          go_wp2
          go_roundw
          case rel => exact ⟨i + 1, by omega, by go_num, rfl, HB.out⟩
          case measure => simp [intOf]; omega
    · have e4 : i = 4 := by omega
      subst e4
      have hc := Qm.cntTo_le (Pm.blackB W H s.data.toList) X Y 16
      go_wp2
      go_ret
      exact ⟨ret_bool (by simp; omega), HB.out.2.2.2.2.2.1⟩

set_option maxRecDepth 4000 in
set_option maxHeartbeats 2000000 in
theorem refJoins_any (W H : Nat) (s : ByteArray) (pol : Nat) (draws : ByteArray) (spk : Int) (x y : Nat) (hp : pol ≤ 3) (hx : x ≤ 100) (hy : y ≤ 100) (w : World) (hw2 : W ≤ 32) (hh2 : H ≤ 32) (hl : s.size = W * H) :
    Calls Tryz.prog 72 #[.agg #[.int .i64 W, .int .i64 H, .string s], .agg #[.int .i64 pol, .string draws, .int .i64 spk], .agg #[.int .i64 x, .int .i64 y]] w fun e w' => e = .returned (.bool (Qm.jnB W H s.data.toList pol draws.data.toList x y)) ∧ Below w.heap.size w w' := by
  match pol, hp with
  | 0, _ =>
    go_enter Tryz.func72, Tryz.ntmps72
    go_wp2
    go_ret
    exact ⟨ret_bool (Qm.jnB_0 ..).symm, by go_grown⟩
  | 1, _ =>
    go_enter Tryz.func72, Tryz.ntmps72
    go_wp2
    go_ret
    exact ⟨ret_bool (Qm.jnB_1 ..).symm, by go_grown⟩
  | 2, _ => exact refJoins_2 W H s draws spk x y (by omega) (by omega) w hw2 hh2 hl
  | 3, _ =>
    obtain ⟨k, hk⟩ : ∃ k : Nat, k = y * (W + 1) := ⟨_, rfl⟩
    have ek : (y : Int) * ((W : Int) + 1) = (k : Nat) := by rw [hk]; simp
    have hk2 : k ≤ 100 * 33 := by rw [hk]; exact Nat.mul_le_mul hy (by omega)
    have E0 : Hid (Qm.jnB W H s.data.toList (3 : Nat) draws.data.toList x y = Pm.bitAt draws.data.toList (k + x)) := by
      show _ = _
      rw [show ((3 : Nat) : Int) = 3 from rfl, Qm.jnB_3, ek, show ((k : Int) + (x : Int)).toNat = k + x from by omega]
    clear hk
    by_cases hlt : k + x < draws.size
    · by_cases q : (draws[k + x].toNat : Int) = 49
      · have E := hid (Pm.bitAt_yes draws _ hlt q)
        go_enter Tryz.func72, Tryz.ntmps72
        go_wp2
        go_ret
        exact ⟨ret_bool (E.out.symm.trans E0.out.symm), by go_grown⟩
      · have E := hid (Pm.bitAt_no draws _ hlt q)
        have b0 : ((draws[k + x].toNat : Int) == 49) = false := by simpa using q
        go_enter Tryz.func72, Tryz.ntmps72
        go_wp2
        go_ret
        exact ⟨ret_bool (E.out.symm.trans E0.out.symm), by go_grown⟩
    · have E := hid (Pm.bitAt_out draws _ hlt)
      go_enter Tryz.func72, Tryz.ntmps72
      go_wp2
      go_ret
      exact ⟨ret_bool (E.out.symm.trans E0.out.symm), by go_grown⟩
end Go.Proofs.YtljfiefobnncaabGreatDoor
