import Derived.Test.YtljfiefobnncaaaDoorK23
import Derived.Test.YtljfiefobnncaaaDoorK35

/- outline.Trace; lists of shapes to be read; outlinekeep.sameShapes. -/
namespace Go.Proofs.YtljfiefobnncaaaDoor
open Go.RowKit





/-- A list of shapes, to be read. -/
structure ShownP (vl : Value) (L : List (Value × List (Int × Int))) (w : World) : Prop where
  row : ∃ ao cap, vl = .slice ao L.length cap ∧ (L.length = 0 ∨ ∃ gl, ao = some ⟨gl, 0, none⟩ ∧ gl < w.heap.size ∧ ∀ j u, (shpP L)[j]? = some u → w.cell? ⟨gl, j, none⟩ = some u)
  pts : ∀ p ∈ L, ∃ g cap, p.1 = .slice (some ⟨g, 0, none⟩) p.2.length cap ∧ 0 < p.2.length ∧ PtsAt g p.2 w
theorem RowP.shown {b : Nat} {vl : Value} {L : List (Value × List (Int × Int))} {w : World} (h : RowP b vl L w) (hn : ∀ p ∈ L, 0 < p.2.length) : ShownP vl L w := by
  refine ⟨?_, fun p hp => ?_⟩
  · obtain ⟨ao, cap, e⟩ := own_len h.row
    refine ⟨ao, cap, e, ?_⟩
    rcases h.row.2 with ⟨_, h0⟩ | ⟨g, cap', cur, e', _, hg, _⟩
    · exact .inl h0
    · right
      have e2 : ao = some ⟨g, 0, none⟩ := by rw [e] at e'; injection e'
      refine ⟨g, e2, (Array.getElem?_eq_some_iff.1 hg).1, fun j u hu => ?_⟩
      have := h.row.cells (g := g) (by rw [e']; rfl) j u hu
      rwa [add_zero_at] at this
  · obtain ⟨g, cap, e, _, h2, _⟩ := own_at (h.pts p hp) (hn p hp)
    exact ⟨g, cap, e, hn p hp, h2⟩
theorem ShownP.on {vl : Value} {L : List (Value × List (Int × Int))} {w w' : World} (h : ShownP vl L w) (hb : Below w.heap.size w w') : ShownP vl L w' := by
  refine ⟨?_, fun p hp => ?_⟩
  · obtain ⟨ao, cap, e, h1⟩ := h.row
    refine ⟨ao, cap, e, h1.imp id ?_⟩
    rintro ⟨gl, e2, h3, h4⟩
    exact ⟨gl, e2, Nat.lt_of_lt_of_le h3 hb.size, fun j u hu => (hb.cell (p := ⟨gl, j, none⟩) h3).trans (h4 j u hu)⟩
  · obtain ⟨g, cap, e, h2, h4⟩ := h.pts p hp
    exact ⟨g, cap, e, h2, h4.on hb h4.1⟩
theorem shpP_at (L : List (Value × List (Int × Int))) : ∀ (j : Nat) (h : j < L.length), (shpP L)[j * 2]? = some L[j].1 ∧ (shpP L)[j * 2 + 1]? = some (.int .i64 (Qm.twiceOf L[j].2)) := by
  induction L with
  | nil => intro j h; simp at h
  | cons p L ih =>
    intro j h
    have e : shpP (p :: L) = p.1 :: .int .i64 (Qm.twiceOf p.2) :: shpP L := by simp [shpP]
    cases j with
    | zero => rw [e]; simp
    | succ j =>
      have := ih j (by simpa using h)
      rw [e, show (j + 1) * 2 = j * 2 + 1 + 1 from by omega, show j * 2 + 1 + 1 + 1 = (j * 2 + 1) + 1 + 1 from by omega]
      simpa using this

end Go.Proofs.YtljfiefobnncaaaDoor
/- outlinelaw: keep: lists of shapes of any points: what holds in its first loop. -/
namespace Go.Proofs.YtljfiefobnncaaaDoor
open Go.RowKit

/-- What holds when the first i lists of points have been kept. -/
structure KIp (kb N : Nat) (vp vs : Value) (P S : List Rec) (L : List (Value × List (Int × Int))) (w : World) (i : Nat) (vp' : Value) (P' : List Rec) (wr : World) : Prop where
  ob : OBook kb (N + i) vp' vs P' S wr
  fr : Fr (fun k => k = kb ∨ vp.ownBlock = some k ∨ ∃ p ∈ L.take i, p.1.ownBlock = some k) w wr
  vpb : vp'.ownBlock = vp.ownBlock ∨ ∃ q, vp'.ownBlock = some q ∧ w.heap.size ≤ q
  recs : ∀ r ∈ P', r ∈ P ∨ ∀ u ∈ r.all, ∀ k, u.ownBlock = some k → (∃ p ∈ L.take i, p.1.ownBlock = some k) ∨ w.heap.size ≤ k

section
variable {kb N : Nat} {vp vs : Value} {P S : List Rec} {b : Nat} {vl : Value} {L : List (Value × List (Int × Int))} {w : World} {i : Nat} {vp' : Value} {P' : List Rec} {wr : World}

theorem KIp.start (h : OBook kb N vp vs P S w) : KIp kb N vp vs P S L w 0 vp P w := ⟨h, Fr.refl _ _, .inl rfl, fun _ hr => .inl hr⟩

theorem takeP_apart (hR : RowP b vl L w) (hi : i < L.length) : ∀ p ∈ L.take i, ∀ k, p.1.ownBlock = some k → L[i].1.ownBlock ≠ some k := by
  intro p hp k hk e
  have ap := (List.pairwise_cons.1 hR.apart).2
  obtain ⟨j, hj, hj2, e2⟩ := mem_take_getD (d := p) hp
  have := List.pairwise_iff_getElem.1 ap j i (by simpa using hj2) (by simpa using hi) hj
  simp only [List.getElem_map] at this
  have e3 : L[j] = p := by rw [← e2, List.getD_eq_getElem?_getD, List.getElem?_eq_getElem hj2]; rfl
  rw [e3, hk, e] at this
  simp at this

theorem KIp.ready (h : KIp kb N vp vs P S L w i vp' P' wr) (hR : RowP b vl L w) (hn : ∀ p ∈ L, 0 < p.2.length) (hA : ∀ p ∈ L, Ap kb vp vs P S p.1) (hi : i < L.length) :
    ∃ gv cap, L[i].1 = .slice (some ⟨gv, 0, none⟩) L[i].2.length cap ∧ wr.ownsRow 0 83 2 (.slice (some ⟨gv, 0, none⟩) L[i].2.length cap) L[i].2.length (Qm.ptsV (L[i].2)) ∧ gv ≠ kb ∧ vp'.ownBlock ≠ some gv ∧ vs.ownBlock ≠ some gv ∧ ∀ r, r ∈ P' ∨ r ∈ S → ∀ u ∈ r.all, u.ownBlock ≠ some gv := by
  have hm := List.getElem_mem hi
  obtain ⟨gv, cap, e, _, hp, _⟩ := own_at (hR.pts _ hm) (hn _ hm)
  have ob : L[i].1.ownBlock = some gv := by rw [e]; rfl
  have ap := hA _ hm gv ob
  have ta := fun p hp k hk => takeP_apart (i := i) hR hi p hp k hk
  have gz : gv < w.heap.size := hp.1
  have o := hR.pts _ hm
  have o2 := own_fr o h.fr (fun k hk hc => by
    rw [ob] at hk; injection hk with hk; subst hk
    rcases hc with hc | hc | ⟨p, hp, hc⟩
    · exact ap.1 hc
    · exact ap.2.1 hc
    · exact ta p hp _ hc ob)
  rw [e] at o2
  refine ⟨gv, cap, e, o2.mono (Nat.zero_le _), ap.1, ?_, ap.2.2.1, ?_⟩
  · intro hc
    rcases h.vpb with hv | ⟨q, hv, hq⟩
    · exact ap.2.1 (hv ▸ hc)
    · rw [hv] at hc; injection hc with hc; omega
  · rintro r (hr | hr) u hu hc
    · rcases h.recs r hr with h1 | h1
      · exact ap.2.2.2 r (.inl h1) u hu hc
      · rcases h1 u hu gv hc with ⟨p, hp, h2⟩ | h2
        · exact ta p hp _ h2 ob
        · omega
    · exact ap.2.2.2 r (.inr hr) u hu hc

theorem KIp.step (h : KIp kb N vp vs P S L w i vp' P' wr) (hi : i < L.length) {gv : Nat} (hg : L[i].1.ownBlock = some gv) {w2 : World} {vp2 : Value} {r : Rec} (ho : OBook kb (N + i + 1) vp2 vs (P' ++ [r]) S w2) (hf : Fr (fun k => k = kb ∨ vp'.ownBlock = some k ∨ k = gv) wr w2)
    (hv : vp2.ownBlock = vp'.ownBlock ∨ ∃ q, vp2.ownBlock = some q ∧ wr.heap.size ≤ q) (hr : ∀ u ∈ r.all, ∀ k, u.ownBlock = some k → k = gv ∨ wr.heap.size ≤ k) : KIp kb N vp vs P S L w (i + 1) vp2 (P' ++ [r]) w2 := by
  have z := h.fr.size
  have sub : ∀ k, (∃ p ∈ L.take i, p.1.ownBlock = some k) → ∃ p ∈ L.take (i + 1), p.1.ownBlock = some k := fun k ⟨p, hp, e⟩ => ⟨p, by rw [List.take_succ_eq_append_getElem hi]; exact List.mem_append_left _ hp, e⟩
  have here : ∃ p ∈ L.take (i + 1), p.1.ownBlock = some gv := ⟨L[i], by rw [List.take_succ_eq_append_getElem hi]; exact List.mem_append_right _ (List.mem_singleton.2 rfl), hg⟩
  refine ⟨ho, ⟨hf.os.trans h.fr.os, hf.tape.trans h.fr.tape, hf.output.trans h.fr.output, Nat.le_trans z hf.size, fun k hk hc => ?_⟩, ?_, ?_⟩
  · refine (hf.block k (by omega) fun hc2 => hc ?_).trans (h.fr.block k hk fun hc2 => hc ?_)
    · rcases hc2 with e | e | e
      · exact .inl e
      · rcases h.vpb with e2 | ⟨q, e2, hq⟩
        · exact .inr (.inl (e2 ▸ e))
        · rw [e2] at e; injection e with e; omega
      · subst e; exact .inr (.inr here)
    · exact hc2.imp id (fun h => h.imp id (sub k))
  · rcases hv with e | ⟨q, e, hq⟩
    · rw [e]; exact h.vpb
    · exact .inr ⟨q, e, by omega⟩
  · intro q hq
    rcases List.mem_append.1 hq with hq | hq
    · exact (h.recs q hq).imp id (fun h u hu k hk => (h u hu k hk).imp (sub k) id)
    · rw [List.mem_singleton] at hq; subst hq
      right
      intro u hu k hk
      rcases hr u hu k hk with e | e
      · subst e; exact .inl here
      · exact .inr (by omega)
end

/-- The row of shapes lies apart from the points of its shapes, and from the book as it has become. -/
theorem KIp.apl {kb N : Nat} {vp vs : Value} {P S : List Rec} {b : Nat} {vl : Value} {L : List (Value × List (Int × Int))} {w : World} {i : Nat} {vp' : Value} {P' : List Rec} {wr : World} (h : KIp kb N vp vs P S L w i vp' P' wr) (hR : RowP b vl L w) (hA : Ap kb vp vs P S vl) :
    Ap kb vp' vs P' S vl ∧ (∀ k, vl.ownBlock = some k → ¬ (k = kb ∨ vp.ownBlock = some k ∨ ∃ p ∈ L.take i, p.1.ownBlock = some k)) := by
  have pl : ∀ p ∈ L, ∀ k, vl.ownBlock = some k → p.1.ownBlock ≠ some k := fun p hp k hk e => by
    rcases (List.pairwise_cons.1 hR.apart).1 p.1 (List.mem_map_of_mem hp) with h | h
    · rw [hk] at h; cases h
    · exact h (hk.trans e.symm)
  have lt : ∀ k, vl.ownBlock = some k → k < w.heap.size := fun k hk => (hR.row.lt k hk).2
  refine ⟨fun k hk => ⟨(hA k hk).1, ?_, (hA k hk).2.2.1, ?_⟩, fun k hk hc => ?_⟩
  · intro e
    rcases h.vpb with e2 | ⟨q, e2, hq⟩
    · exact (hA k hk).2.1 (e2 ▸ e)
    · rw [e2] at e; injection e with e; have := lt k hk; omega
  · rintro r (hr | hr) u hu e
    · rcases h.recs r hr with h1 | h1
      · exact (hA k hk).2.2.2 r (.inl h1) u hu e
      · rcases h1 u hu k e with ⟨p, hp, h2⟩ | h2
        · exact pl p (List.mem_of_mem_take hp) k hk h2
        · have := lt k hk; omega
    · exact (hA k hk).2.2.2 r (.inr hr) u hu e
  · rcases hc with hc | hc | ⟨p, hp, hc⟩
    · exact (hA k hk).1 hc
    · exact (hA k hk).2.1 hc
    · exact pl p (List.mem_of_mem_take hp) k hk hc

theorem shpP_pair (L : List (Value × List (Int × Int))) : shpP L = pairV (L.map fun p => (p.1, Qm.twiceOf p.2)) := by simp [shpP, pairV, List.flatMap_map]
theorem Rowed.rowP {f : Qm.Sd → Qm.Sd} {b : Nat} {vl : Value} {L : List (Value × (Qm.Sd × Nat))} {w : World} (h : Rowed f b vl L w) : RowP b vl (L.map fun p => (p.1, Qm.ptsOf f p.2)) w := by
  refine ⟨?_, ?_, ?_⟩
  · have e : shpP (L.map fun p => (p.1, Qm.ptsOf f p.2)) = shpV f L := by simp [shpP, shpV, List.flatMap_map]
    rw [e, List.length_map]; exact h.row
  · intro q hq
    obtain ⟨p, hp, rfl⟩ := List.mem_map.1 hq
    have := h.pts p hp
    simp only [Qm.ptsOf_len]; exact this
  · have := h.apart
    simpa [List.map_map, Function.comp_def] using this
end Go.Proofs.YtljfiefobnncaaaDoor
