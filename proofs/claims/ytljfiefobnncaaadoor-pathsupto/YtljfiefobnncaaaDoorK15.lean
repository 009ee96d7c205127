/- Find of package cycles: what holds in its loops. -/
import Derived.Test.YtljfiefobnncaaaDoorK10
import Derived.Deep.WholeRow
import Derived.Great.BuildSlice
import Derived.Maps.AppendAt
namespace Go.Proofs.YtljfiefobnncaaaDoor
open Go.RowKit



theorem infoShape : (Tryd.prog.info? 81).map (fun i => (i.zero, i.size, i.bytes)) = some (some (.agg #[.slice none 0 0, .int .i64 0]), 2, 32) := by kernel_rfl

/-- The cells of a row of shapes: where the points of each are, and twice its area. -/
def shpV (f : Qm.Sd → Qm.Sd) (L : List (Value × (Qm.Sd × Nat))) : List Value := L.flatMap fun p => [p.1, .int .i64 (Qm.twiceOf (Qm.ptsOf f p.2))]
theorem shpV_snoc (f : Qm.Sd → Qm.Sd) (L : List (Value × (Qm.Sd × Nat))) (p : Value × (Qm.Sd × Nat)) : shpV f (L ++ [p]) = shpV f L ++ [p.1, .int .i64 (Qm.twiceOf (Qm.ptsOf f p.2))] := by simp [shpV]

/-- The lists of an answer: the row of shapes and each shape's points have blocks of their own, from b on. -/
structure Rowed (f : Qm.Sd → Qm.Sd) (b : Nat) (vl : Value) (L : List (Value × (Qm.Sd × Nat))) (w : World) : Prop where
  row : w.ownsRow b 81 2 vl L.length (shpV f L)
  pts : ∀ p ∈ L, w.ownsRow b 83 2 p.1 p.2.2 (Qm.ptsV (Qm.ptsOf f p.2))
  apart : (vl :: L.map (·.1)).Pairwise fun a c => a.ownBlock = none ∨ a.ownBlock ≠ c.ownBlock

/-- What holds when all points ahead of K have been seen. -/
structure FI (g W H : Nat) (s : ByteArray) (pol : Nat) (draws : ByteArray) (spk : Int) (X : World) (K : Int) (L : List (Value × (Qm.Sd × Nat))) (T : Nat → Bool) (vl : Value) (wr : World) : Prop where
  canon : ∀ p ∈ L, Qm.Canon (fB W H s pol draws) (bB W H s) Qm.key p.2
  sorted : (L.map (·.2)).Pairwise fun a b => Qm.key a.1 < Qm.key b.1
  past : ∀ p ∈ L, Qm.key p.2.1 < K
  rep : Qm.Rep (Pm.blackB W H s.data.toList) (fB W H s pol draws) T (L.map (·.2))
  ahead : Ahead (Pm.blackB W H s.data.toList) (fB W H s pol draws) (L.map (·.2)) K
  wk : Wk g W H s pol draws spk wr
  tkn : Tkn g T wr
  rowed : Rowed (fB W H s pol draws) (g + 1) vl L wr
  below : Below g X wr
  few : (L.length : Int) ≤ K

theorem FI.cyc {g W H : Nat} {s : ByteArray} {pol : Nat} {draws : ByteArray} {spk : Int} {X : World} {K : Int} {L : List (Value × (Qm.Sd × Nat))} {T : Nat → Bool} {vl : Value} {wr : World} (h : FI g W H s pol draws spk X K L T vl wr) : ∀ c ∈ L.map (·.2), Qm.Cyc (fB W H s pol draws) (bB W H s) c.1 c.2 := by
  intro c hc
  obtain ⟨p, hp, rfl⟩ := List.mem_map.1 hc
  exact (h.canon p hp).1

theorem own_keep {w w' : World} {b : Nat} {t : TypeId} {z : Nat} {v : Value} {n : Nat} {xs : List Value} (h : w.ownsRow b t z v n xs) {g : Nat} (hg : g < b) (hb : w.grownBy w' (some g)) : w'.ownsRow b t z v n xs := by
  refine h.kept hb ?_
  cases hv : v.ownBlock with
  | none => exact .inl rfl
  | some k => right; intro e; injection e with e; have := h.lt k hv; omega
theorem own_below {w w' : World} {b : Nat} {t : TypeId} {z : Nat} {v : Value} {n : Nat} {xs : List Value} (h : w.ownsRow b t z v n xs) (hb : Below w.heap.size w w') : w'.ownsRow b t z v n xs :=
  h.kept (grown_of_below hb none) (by cases v.ownBlock <;> simp)
theorem Rowed.on {f : Qm.Sd → Qm.Sd} {b : Nat} {vl : Value} {L : List (Value × (Qm.Sd × Nat))} {w w' : World} (h : Rowed f b vl L w) {g : Nat} (hg : g < b) (hb : w.grownBy w' (some g)) : Rowed f b vl L w' :=
  ⟨own_keep h.row hg hb, fun p hp => own_keep (h.pts p hp) hg hb, h.apart⟩

section
variable {g W H : Nat} {s : ByteArray} {pol : Nat} {draws : ByteArray} {spk : Int} {X : World} {L : List (Value × (Qm.Sd × Nat))} {T : Nat → Bool} {vl : Value} {wr : World}

/-- Nothing begins there. -/
theorem FI.none {K : Int} (h : FI g W H s pol draws spk X K L T vl wr) {w2 : World} {T' : Nat → Bool} (hg : wr.grownBy w2 (some g)) (hk : Wk g W H s pol draws spk w2) (ht : Tkn g T' w2) (hr : Qm.Rep (Pm.blackB W H s.data.toList) (fB W H s pol draws) T' (L.map (·.2)))
    (ha : Ahead (Pm.blackB W H s.data.toList) (fB W H s pol draws) (L.map (·.2)) (K + 1)) : FI g W H s pol draws spk X (K + 1) L T' vl w2 where
  canon := h.canon
  sorted := h.sorted
  past p hp := by have := h.past p hp; omega
  rep := hr
  ahead := ha
  wk := hk
  tkn := ht
  rowed := h.rowed.on (by omega) hg
  below := h.below.trans (gb_below_of hg (Nat.le_refl _) (Nat.le_of_lt h.wk.2.2.2.2.2.2))
  few := by have := h.few; omega

/-- To the next row. -/
theorem FI.row {y : Nat} (hw : W ≤ 32) (hh : H ≤ 32) (h : FI g W H s pol draws spk X (33 * (y : Int) + W + 1) L T vl wr) : FI g W H s pol draws spk X (33 * ((y + 1 : Nat) : Int)) L T vl wr where
  canon := h.canon
  sorted := h.sorted
  past p hp := by have := h.past p hp; omega
  rep := h.rep
  ahead t ht hk hu := h.ahead t ht (by
    have hb := Qm.side_in (Qm.pic_of W H s.data.toList hw hh) ht
    unfold Qm.key at *
    omega) hu
  wk := h.wk
  tkn := h.tkn
  rowed := h.rowed
  below := h.below
  few := by have := h.few; omega

/-- All rows have been seen. -/
theorem FI.res {K : Int} (hw : W ≤ 32) (hh : H ≤ 32) (h : FI g W H s pol draws spk X K L T vl wr) (hK : 33 * ((H : Int) + 1) ≤ K) : Qm.Res (fB W H s pol draws) (bB W H s) Qm.key (L.map (·.2)) := by
  have st := Qm.step (Qm.pic_of W H s.data.toList hw hh) (Qm.jnB W H s.data.toList pol draws.data.toList)
  refine ⟨fun c hc => ?_, h.sorted, Qm.all_taken st h.cyc fun t ht hu => h.ahead t ht ?_ hu⟩
  · obtain ⟨p, hp, rfl⟩ := List.mem_map.1 hc
    exact h.canon p hp
  · have hb := Qm.side_in (Qm.pic_of W H s.data.toList hw hh) ht
    unfold Qm.key
    omega

/-- A cycle more: walked (w2), reckoned (w3), written behind the others (w4). -/
theorem FI.found {K : Int} (h : FI g W H s pol draws spk X K L T vl wr) {w2 w3 w4 : World} {T' : Nat → Bool} {v vl' : Value} {s0 : Qm.Sd} {n : Nat} {o : Obj}
    (hg : wr.grownBy w2 (some g)) (hk : Wk g W H s pol draws spk w2) (ht : Tkn g T' w2) (hr : Qm.Rep (Pm.blackB W H s.data.toList) (fB W H s pol draws) T' (L.map (·.2) ++ [(s0, n)]))
    (ha : Ahead (Pm.blackB W H s.data.toList) (fB W H s pol draws) (L.map (·.2) ++ [(s0, n)]) (K + 1)) (hc : Qm.Canon (fB W H s pol draws) (bB W H s) Qm.key (s0, n)) (hK : Qm.key s0 = K)
    (ho : w2.ownsRow wr.heap.size 83 2 v n (Qm.ptsV (Qm.ptsOf (fB W H s pol draws) (s0, n)))) (hn : 0 < n) (b3 : Below w2.heap.size w2 w3)
    (o4 : w4.ownsRow (g + 1) 81 2 vl' (L.length + 1) (shpV (fB W H s pol draws) L ++ [v, .int .i64 (Qm.twiceOf (Qm.ptsOf (fB W H s pol draws) (s0, n)))])) (g4 : (w3.alloc o).grownBy w4 vl.ownBlock) (e4 : vl'.ownBlock = vl.ownBlock ∨ vl'.ownBlock = some (w3.heap.size + 1)) :
    FI g W H s pol draws spk X (K + 1) (L ++ [(v, s0, n)]) T' vl' w4 := by
  have gz := h.wk.2.2.2.2.2.2
  have z2 := hg.size
  have z3 := b3.size
  have vb : ∃ k, v.ownBlock = some k ∧ wr.heap.size ≤ k ∧ k < w2.heap.size := by
    obtain ⟨k, cap, e, hb, hp, _⟩ := own_at ho hn
    exact ⟨k, by rw [e]; rfl, hb, hp.1⟩
  obtain ⟨k, vk, k1, k2⟩ := vb
  have vlne : ∀ q, vl.ownBlock = some q → g + 1 ≤ q ∧ q < wr.heap.size := fun q hq => h.rowed.row.lt q hq
  have b24 : Below (g + 1) w2 w4 := (b3.mono (by omega)).trans (((Below.refl _ _).alloc (by omega) _).grown g4 (by simp; omega) (fun q hq => (vlne q hq).1))
  have keep : ∀ {u : Value} {m : Nat} {xs : List Value} {b : Nat}, w2.ownsRow b 83 2 u m xs → (u.ownBlock = .none ∨ u.ownBlock ≠ vl.ownBlock) → w4.ownsRow b 83 2 u m xs := fun hu hne =>
    (own_below hu (b3.trans ((Below.refl _ _).alloc (by omega) o))).kept g4 hne
  have pl : ∀ p ∈ L, w2.ownsRow (g + 1) 83 2 p.1 p.2.2 (Qm.ptsV (Qm.ptsOf (fB W H s pol draws) p.2)) := fun p hp => own_keep (h.rowed.pts p hp) (by omega) hg
  have ap := List.pairwise_cons.1 h.rowed.apart
  have pn : ∀ p ∈ L, p.1.ownBlock = .none ∨ p.1.ownBlock ≠ vl.ownBlock := fun p hp => by
    rcases ap.1 p.1 (List.mem_map_of_mem hp) with e | e
    · cases hpb : p.1.ownBlock with
      | none => exact .inl rfl
      | some q => right; rw [e]; simp
    · exact .inr (Ne.symm e)
  have plt : ∀ p ∈ L, ∀ q, p.1.ownBlock = some q → q < wr.heap.size := fun p hp q hq => ((h.rowed.pts p hp).lt q hq).2
  have vne : v.ownBlock ≠ vl.ownBlock := fun e => by rw [vk] at e; have := vlne k e.symm; omega
  refine ⟨?_, ?_, ?_, by rw [List.map_append]; exact hr, by rw [List.map_append]; exact ha, hk.onB b24 (by omega), ht.on b24 (by omega), ⟨?_, ?_, ?_⟩, ?_, ?_⟩
  · intro p hp
    rcases List.mem_append.1 hp with hp | hp
    · exact h.canon p hp
    · rw [List.mem_singleton] at hp; subst hp; exact hc
  · rw [List.map_append]
    refine List.pairwise_append.2 ⟨h.sorted, by simp, fun a ha b hb => ?_⟩
    obtain ⟨p, hp, rfl⟩ := List.mem_map.1 ha
    simp only [List.map_cons, List.map_nil, List.mem_singleton] at hb
    subst hb
    rw [hK]
    exact h.past p hp
  · intro p hp
    rcases List.mem_append.1 hp with hp | hp
    · have := h.past p hp; omega
    · rw [List.mem_singleton] at hp; subst hp; show Qm.key s0 < _; omega
  · rw [shpV_snoc, List.length_append]; exact o4
  · intro p hp
    rcases List.mem_append.1 hp with hp | hp
    · exact keep (pl p hp) (pn p hp)
    · rw [List.mem_singleton] at hp; subst hp
      exact keep (ho.mono (by omega)) (.inr vne)
  · rw [List.map_append]
    refine List.pairwise_cons.2 ⟨fun a ha => ?_, List.pairwise_append.2 ⟨ap.2, by simp, fun a ha b hb => ?_⟩⟩
    · right
      intro e
      have hlt : ∃ q, vl'.ownBlock = some q := by
        rcases o4.2 with ⟨_, h0⟩ | ⟨g', cap', _, e', _⟩
        · omega
        · exact ⟨g', by rw [e']; rfl⟩
      obtain ⟨q, hq⟩ := hlt
      rcases List.mem_append.1 ha with ha | ha
      · obtain ⟨p, hp, rfl⟩ := List.mem_map.1 ha
        rcases e4 with e4 | e4
        · rcases pn p hp with e5 | e5
          · rw [e5, hq] at e; cases e
          · exact e5 (e.symm.trans e4)
        · have := plt p hp _ (e.symm.trans e4); omega
      · simp only [List.map_cons, List.map_nil, List.mem_singleton] at ha
        subst ha
        rcases e4 with e4 | e4
        · exact vne (e.symm.trans e4)
        · rw [e4, vk] at e; injection e with e; omega
    · obtain ⟨p, hp, rfl⟩ := List.mem_map.1 ha
      simp only [List.map_cons, List.map_nil, List.mem_singleton] at hb
      rw [hb]
      cases hpb : p.1.ownBlock with
      | none => exact .inl rfl
      | some q => right; intro e; have e2 : v.ownBlock = some q := e.symm; rw [vk] at e2; injection e2 with e2; have := plt p hp q hpb; omega
  · exact h.below.trans ((gb_below_of hg (Nat.le_refl _) (by omega)).trans (b24.mono (by omega)))
  · have := h.few; simp; omega
end
end Go.Proofs.YtljfiefobnncaaaDoor
