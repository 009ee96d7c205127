import Derived.Test.YtgapfjjdccohkaaJfitting19
import Derived.Test.YtgapfjjdccohkaaJfitting08
import Derived.OwnWalk

/- outlineref.Cycles: what holds in its inner loop, and behind it. -/
namespace Go.Proofs.Ytgapfjjdccohkaa
open Go.RowKit

/-- What holds behind m steps from s0. -/
structure RI (W H : Nat) (s : ByteArray) (pol : Nat) (draws : ByteArray) (gg : Nat) (SL : List Qm.Sd) (R : List (Qm.Sd × Nat)) (s0 : Qm.Sd) (wi : World) (m k : Nat) (G : Nat → Bool) (v : Value) (wr : World) : Prop where
  own : wr.ownsRow wi.heap.size 47 2 v m (Qm.ptsV (Qm.ptsOf (fB W H s pol draws) (s0, m)))
  grown : wi.grownBy wr (some gg)
  gone : GoneAt gg SL.length G wr
  lt : k < SL.length
  here : SL.getD k (0, 0, 0) = Qm.it (fB W H s pol draws) m s0
  rep : RepI (fB W H s pol draws) SL G R s0 m
  run : Qm.Run (fB W H s pol draws) s0 m
  free : 0 < m → ¬ Qm.Tk (fB W H s pol draws) R s0
  few : m + Qm.cntF G SL.length ≤ SL.length

section
variable {W H : Nat} {s : ByteArray} {pol : Nat} {draws : ByteArray} {spk : Int} {gg gl : Nat} {SL : List Qm.Sd} {w wi : World} {i m k : Nat} {L : List (Value × (Qm.Sd × Nat))} {R : List (Qm.Sd × Nat)} {s0 : Qm.Sd} {G G' : Nat → Bool} {v vo : Value} {wr : World}

theorem RI.start (h : RC W H s pol draws spk gg gl SL w i L G vo wr) (hi : i < SL.length) : RI W H s pol draws gg SL (L.map (·.2)) (SL.getD i (0, 0, 0)) wr 0 i G (.slice none 0 0) wr where
  own := World.ownsRow_nil _ _ _ _
  grown := grown_of_below (Below.refl _ _) _
  gone := h.gone
  lt := hi
  here := rfl
  rep j hj := by
    rw [h.rep j hj]
    exact ⟨fun h => h.imp id (fun ⟨a, b, _⟩ => by omega), fun h => h.imp id (fun ⟨a, b, _⟩ => by omega)⟩
  run := Qm.Run.zero _
  free h := absurd h (by omega)
  few := by have := Qm.cntF_le G SL.length; omega

theorem RI.succ (h : RI W H s pol draws gg SL R s0 wi m k G v wr) {w3 w4 : World} {v' : Value} {o : Obj} {kf : Nat} (hgg : gg < wi.heap.size) (hG : G k = false) (hnd : ∀ i j, i < SL.length → j < SL.length → SL.getD i (0, 0, 0) = SL.getD j (0, 0, 0) → i = j)
    (o3 : w3.ownsRow wi.heap.size 47 2 v' (m + 1) (Qm.ptsV (Qm.ptsOf (fB W H s pol draws) (s0, m)) ++ Qm.ptV (Qm.fromP (SL.getD k (0, 0, 0))))) (g3 : ((wr.setCell ⟨gg, k, none⟩ (.bool true)).alloc o).grownBy w3 v.ownBlock) (b4 : Below w3.heap.size w3 w4)
    (hkf : kf < SL.length) (ef : SL.getD kf (0, 0, 0) = fB W H s pol draws (SL.getD k (0, 0, 0))) : RI W H s pol draws gg SL R s0 wi (m + 1) kf (Qm.mark G k) v' w4 := by
  have z := h.grown.size
  have hfree := h.rep.free h.lt h.here hG
  have g1 : wr.grownBy (wr.setCell ⟨gg, k, none⟩ (.bool true)) (some gg) := set_grown (Below.refl _ _) ⟨gg, k, none⟩
  have b13 : Below wi.heap.size (wr.setCell ⟨gg, k, none⟩ (.bool true)) w3 := ((Below.refl _ _).alloc (by simpa using z) _).grown g3 (by simp; omega) (fun q hq => (h.own.lt q hq).1)
  have z3 := b13.size
  simp at z3
  have b14 : Below wi.heap.size (wr.setCell ⟨gg, k, none⟩ (.bool true)) w4 := b13.trans (b4.mono (by omega))
  refine ⟨?_, gb_below (gb_trans h.grown g1) b14 (Nat.le_refl _), (h.gone.set k).on b14 hgg, hkf, ?_, h.rep.succ h.lt h.here hnd, h.run.succ hfree.2, fun _ => ?_, ?_⟩
  · rw [Qm.ptsOf_succ, Qm.ptsV_snoc, ← h.here]
    exact own_below o3 b4
  · rw [ef, h.here]; rfl
  · rcases Nat.eq_zero_or_pos m with h0 | h0
    · subst h0; exact hfree.1
    · exact h.free h0
  · have := Qm.cntF_mark G k hG SL.length h.lt
    have := h.few
    omega

theorem RI.done (hw : W ≤ 32) (hh : H ≤ 32) (hR : ∀ c ∈ R, Qm.Cyc (fB W H s pol draws) (bB W H s) c.1 c.2) (hs : bB W H s s0) (h : RI W H s pol draws gg SL R s0 wi m k G v wr) (hm : 0 < m) (hG : G k = true) : Qm.Cyc (fB W H s pol draws) (bB W H s) s0 m := by
  have st := Qm.step (Qm.pic_of W H s.data.toList hw hh) (Qm.jnB W H s.data.toList pol draws.data.toList)
  refine h.run.done st hR hs (h.free hm) hm ?_
  rcases (h.rep k h.lt).1 hG with h1 | ⟨j, h1, h2⟩
  · left; rw [← h.here]; exact h1
  · right; exact ⟨j, h1, by rw [← h.here]; exact h2⟩

theorem mem_take_getD {α : Type} {L : List α} {j : Nat} {x d : α} (h : x ∈ L.take j) : ∃ m, m < j ∧ m < L.length ∧ L.getD m d = x := by
  obtain ⟨m, hm, rfl⟩ := List.mem_iff_getElem.1 h
  simp only [List.length_take] at hm
  exact ⟨m, by omega, by omega, by rw [List.getD_eq_getElem?_getD, List.getElem?_eq_getElem (by omega), List.getElem_take]; rfl⟩
theorem mem_drop_getD {α : Type} {L : List α} {j : Nat} {x d : α} (h : x ∈ L.drop j) : ∃ m, j ≤ m ∧ m < L.length ∧ L.getD m d = x := by
  obtain ⟨m, hm, rfl⟩ := List.mem_iff_getElem.1 h
  simp only [List.length_drop] at hm
  exact ⟨j + m, by omega, by omega, by rw [List.getD_eq_getElem?_getD, List.getElem?_eq_getElem (by omega), List.getElem_drop]; rfl⟩
theorem getD_map {α β : Type} (g : α → β) (L : List α) (m : Nat) (d : α) : (L.map g).getD m (g d) = g (L.getD m d) := by
  simp only [List.getD_eq_getElem?_getD, List.getElem?_map]
  cases L[m]? <;> rfl

/-- A cycle more. -/
theorem RC.found (hw : W ≤ 32) (hh : H ≤ 32) (h : RC W H s pol draws spk gg gl SL w i L G vo wi) (hi : i < SL.length) (hs : bB W H s (SL.getD i (0, 0, 0))) (hr : RI W H s pol draws gg SL (L.map (·.2)) (SL.getD i (0, 0, 0)) wi m k G' v wr) (hm : 0 < m) (hG : G' k = true)
    {kk : Nat} {vq vl' : Value} {w4 : World} {out : List Ent} (hkk : kk < m) (hmin : ∀ j, j < m → keyP ((Qm.ptsOf (fB W H s pol draws) (SL.getD i (0, 0, 0), m)).getD kk (0, 0)) ≤ keyP ((Qm.ptsOf (fB W H s pol draws) (SL.getD i (0, 0, 0), m)).getD j (0, 0)))
    (oq : w4.ownsRow wr.heap.size 47 2 vq m (Qm.ptsV (Qm.ptsOf (fB W H s pol draws) (Qm.it (fB W H s pol draws) kk (SL.getD i (0, 0, 0)), m)))) (b4 : Below wr.heap.size wr w4)
    (hio : InsOut (L.map (entOf (fB W H s pol draws))) (entOf (fB W H s pol draws) (vq, Qm.it (fB W H s pol draws) kk (SL.getD i (0, 0, 0)), m)) out) (ol : w4.ownsRow wr.heap.size 43 2 vl' (L.length + 1) (entV out)) :
    ∃ L', RC W H s pol draws spk gg gl SL w (i + 1) L' G' vl' w4 := by
  have st := Qm.step (Qm.pic_of W H s.data.toList hw hh) (Qm.jnB W H s.data.toList pol draws.data.toList)
  have cyc := hr.done hw hh h.cyc hs hm hG
  have gz := h.gone.1
  have zr := hr.grown.size
  have can : Qm.Canon (fB W H s pol draws) (bB W H s) Qm.key (Qm.it (fB W H s pol draws) kk (SL.getD i (0, 0, 0)), m) := by
    refine cyc.canon_turn st hkk fun j hj => ?_
    have := hmin j hj
    rw [ptsOf_getD _ _ _ hkk, ptsOf_getD _ _ _ hj] at this
    exact this
  have nt : ¬ Qm.Tk (fB W H s pol draws) (L.map (·.2)) (Qm.it (fB W H s pol draws) kk (SL.getD i (0, 0, 0))) := fun hh => hr.free hm (hh.backs st h.cyc hs kk)
  obtain ⟨q, hq⟩ : ∃ q : Value × (Qm.Sd × Nat), q = (vq, Qm.it (fB W H s pol draws) kk (SL.getD i (0, 0, 0)), m) := ⟨_, rfl⟩
  rw [← hq] at hio
  have q2 : q.2 = (Qm.it (fB W H s pol draws) kk (SL.getD i (0, 0, 0)), m) := by rw [hq]
  rw [← q2] at can
  have q3 : q.2.1 = Qm.it (fB W H s pol draws) kk (SL.getD i (0, 0, 0)) := by rw [hq]
  rw [← q3] at nt
  obtain ⟨j, hj, rfl, hlo, hhi⟩ := hio
  rw [List.length_map] at hj hhi
  have dist : ∀ p ∈ L, Qm.key p.2.1 ≠ Qm.key q.2.1 := fun p hp e => by
    have cp := h.canon p hp
    have f1 := cp.1.first st (i := 0) cp.1.2.1 (fun a ha => cp.least a)
    have f2 := can.1.first st (i := 0) can.1.2.1 (fun a ha => can.least a)
    have := st.one p.2.1 q.2.1 cp.1.1 can.1.1 e f1.1 f2.1
    exact nt (this ▸ ⟨p.2, List.mem_map_of_mem hp, 0, cp.1.2.1, rfl⟩)
  have lo : ∀ p ∈ L.take j, Qm.key p.2.1 < Qm.key q.2.1 := fun p hp => by
    obtain ⟨a, ha, ha2, e⟩ := mem_take_getD (d := q) hp
    have := hlo a ha
    rw [getD_map, e] at this
    have d := dist p (List.mem_of_mem_take hp)
    simp only [entOf, keyP_from] at this
    omega
  have sortL : L.Pairwise fun a b => Qm.key a.2.1 < Qm.key b.2.1 := by have := h.sorted; rw [List.pairwise_map] at this; exact this
  have hi2 : ∀ p ∈ L.drop j, Qm.key q.2.1 < Qm.key p.2.1 := fun p hp => by
    obtain ⟨a, ha, ha2, e⟩ := mem_drop_getD (d := q) hp
    have h1 := hhi (by omega)
    rw [getD_map] at h1
    simp only [entOf, keyP_from] at h1
    rcases Nat.eq_or_lt_of_le ha with e2 | e2
    · rw [e2, e] at h1; exact h1
    · have := List.pairwise_iff_getElem.1 sortL j a (by omega) ha2 e2
      have e3 : L.getD j q = L[j]'(by omega) := by rw [List.getD_eq_getElem?_getD, List.getElem?_eq_getElem (by omega)]; rfl
      have e4 : p = L[a] := by rw [← e, List.getD_eq_getElem?_getD, List.getElem?_eq_getElem ha2]; rfl
      rw [e3] at h1
      rw [e4]; omega
  have eo : (L.map (entOf (fB W H s pol draws))).take j ++ entOf (fB W H s pol draws) q :: (L.map (entOf (fB W H s pol draws))).drop j = (L.take j ++ q :: L.drop j).map (entOf (fB W H s pol draws)) := by simp [List.map_take, List.map_drop]
  rw [eo, entV_map] at ol
  have g4 : wi.grownBy w4 (some gg) := gb_trans hr.grown (grown_of_below b4 _)
  have sl := (h.seen.on g4)
  refine ⟨L.take j ++ q :: L.drop j, ⟨?_, ?_, ?_, ?_, hr.gone.on b4 hr.gone.1, fun h0 => (h.sds h0).gb g4 h.lt.2, h.box.gb g4 h.lt.1, h.lt, ⟨?_, ?_⟩, ?_⟩⟩
  · intro p hp
    rcases List.mem_append.1 hp with hp | hp
    · exact h.canon p (List.mem_of_mem_take hp)
    · rcases List.mem_cons.1 hp with rfl | hp
      · exact can
      · exact h.canon p (List.mem_of_mem_drop hp)
  · refine List.pairwise_map.2 (List.pairwise_append.2 ⟨sortL.sublist (List.take_sublist _ _), List.pairwise_cons.2 ⟨hi2, sortL.sublist (List.drop_sublist _ _)⟩, fun a ha b hb => ?_⟩)
    rcases List.mem_cons.1 hb with rfl | hb
    · exact lo a ha
    · have := lo a ha; have := hi2 b hb; omega
  · intro a ha
    rw [hr.rep a ha]
    constructor
    · rintro (⟨c, hc, x, hx, e⟩ | ⟨x, hx, e⟩)
      · obtain ⟨p, hp, rfl⟩ := List.mem_map.1 hc
        refine .inl ⟨p.2, List.mem_map_of_mem ?_, x, hx, e⟩
        rw [← List.take_append_drop j L] at hp
        rcases List.mem_append.1 hp with hp | hp
        · exact List.mem_append_left _ hp
        · exact List.mem_append_right _ (List.mem_cons_of_mem _ hp)
      · refine .inl ⟨q.2, List.mem_map_of_mem (List.mem_append_right _ List.mem_cons_self), (x + (m - kk)) % m, ?_, ?_⟩
        · rw [q2]; exact Nat.mod_lt _ hm
        · have ct := can.1
          rw [e, q2] 
          rw [q2] at ct
          show _ = Qm.it _ _ (Qm.it _ kk _)
          have := ct.mod (x + (m - kk))
          dsimp only at this
          rw [← this, ← Qm.it_add, show x + (m - kk) + kk = x + m from by omega, Qm.it_add, cyc.2.2.1]
    · rintro (⟨c, hc, x, hx, e⟩ | ⟨_, hx, _⟩)
      · obtain ⟨p, hp, rfl⟩ := List.mem_map.1 hc
        rcases List.mem_append.1 hp with hp | hp
        · exact .inl ⟨p.2, List.mem_map_of_mem (List.mem_of_mem_take hp), x, hx, e⟩
        · rcases List.mem_cons.1 hp with rfl | hp
          · refine .inr ⟨(x + kk) % m, Nat.mod_lt _ hm, ?_⟩
            rw [e, q3, ← Qm.it_add, cyc.mod]
          · exact .inl ⟨p.2, List.mem_map_of_mem (List.mem_of_mem_drop hp), x, hx, e⟩
      · omega
  · intro a ha
    rcases Nat.lt_or_ge a i with h1 | h1
    · have h2 := (h.rep a (by omega)).1 (h.past a h1)
      exact (hr.rep a (by omega)).2 (.inl (h2.elim id (fun ⟨_, h3, _⟩ => by omega)))
    · obtain rfl : a = i := by omega
      exact (hr.rep a hi).2 (.inr ⟨0, hm, rfl⟩)
  · have len : (L.take j ++ q :: L.drop j).length = L.length + 1 := by simp; omega
    rcases ol.2 with ⟨_, h0⟩ | ⟨g, cap, cur, rfl, hb, hg, _⟩
    · omega
    · refine ⟨_, cap, by rw [len], .inr ⟨g, rfl, by omega, (Array.getElem?_eq_some_iff.1 hg).1, fun a u hu => ?_⟩⟩
      have := ol.cells (g := g) rfl a u hu
      rwa [add_zero_at] at this
  · intro p hp
    have old : ∀ p ∈ L, ∃ g cap, p.1 = .slice (some ⟨g, 0, Option.none⟩) p.2.2 cap ∧ p.2.2 ≤ cap ∧ 0 < p.2.2 ∧ gg < g ∧ PtsAt g (Qm.ptsOf (fB W H s pol draws) p.2) w4 := sl.pts
    rcases List.mem_append.1 hp with hp | hp
    · exact old p (List.mem_of_mem_take hp)
    · rcases List.mem_cons.1 hp with rfl | hp
      · obtain ⟨g, cap, e, hb, hp2, _⟩ := own_at oq hm
        obtain ⟨ao, cap', e', hc⟩ := own_cap oq
        rw [hq]
        refine ⟨g, cap, e, ?_, hm, by omega, hp2⟩
        rw [e] at e'; injection e' with _ _ e3; show m ≤ cap; omega
      · exact old p (List.mem_of_mem_drop hp)
  · have := h.few; simp; omega
end
end Go.Proofs.Ytgapfjjdccohkaa

/- outlineref.Cycles, walked. -/
namespace Go.Proofs.Ytgapfjjdccohkaa
open Go.RowKit

set_option maxHeartbeats 1000000 in
theorem refCycles_no (W H : Int) (s : ByteArray) (pol : Int) (draws : ByteArray) (spk : Int) (w : World) (hm : mayB W H s.data.toList pol spk = false) :
    Calls Try.prog 31 #[.agg #[.int .i64 W, .int .i64 H, .string s], .agg #[.int .i64 pol, .string draws, .int .i64 spk]] w fun e w' => e = .returned (.tuple #[.slice none 0 0, .int .i64 4]) ∧ Below w.heap.size w w' := by
  go_enter Try.func31, Try.ntmps31
  go_wp2_with fail
  refine (may_any W H s pol draws spk _).mono ?_
  rintro e w1 ⟨rfl, hb⟩
  rw [hm]
  have HB := hid hb
  clear hb
  go_wp2
  go_ret2
  exact ⟨rfl, Below.trans (b := _) (by go_grown) (HB.out.mono (by simp; omega))⟩

def RefOut (W H : Nat) (s : ByteArray) (pol : Nat) (draws : ByteArray) (w : World) (vl : Value) (w' : World) : Prop :=
  ∃ L : List (Value × (Qm.Sd × Nat)), Qm.Res (fB W H s pol draws) (bB W H s) Qm.key (L.map (·.2)) ∧ Seen (fB W H s pol draws) w.heap.size vl L w' ∧ Below w.heap.size w w'

theorem nodup_getD {SL : List Qm.Sd} (h : SL.Nodup) {i j : Nat} (h1 : i < SL.length) (h2 : j < SL.length) (e : SL.getD i (0, 0, 0) = SL.getD j (0, 0, 0)) : i = j := by
  rw [List.getD_eq_getElem?_getD, List.getD_eq_getElem?_getD, List.getElem?_eq_getElem h1, List.getElem?_eq_getElem h2] at e
  simp only [Option.getD_some] at e
  have p := List.pairwise_iff_getElem.1 h
  rcases Nat.lt_trichotomy i j with h3 | h3 | h3
  · exact absurd e (p i j h1 h2 h3)
  · exact h3
  · exact absurd e.symm (p j i h2 h1 h3)
theorem Seen.mono {f : Qm.Sd → Qm.Sd} {gg g' : Nat} {vl : Value} {L : List (Value × (Qm.Sd × Nat))} {w : World} (h : Seen f gg vl L w) (hg : g' ≤ gg) : Seen f g' vl L w := by
  refine ⟨?_, fun p hp => ?_⟩
  · obtain ⟨ao, cap, e, h1⟩ := h.row
    refine ⟨ao, cap, e, h1.imp id ?_⟩
    rintro ⟨gl, e2, h2, h3⟩
    exact ⟨gl, e2, by omega, h3⟩
  · obtain ⟨g, cap, e, h1, h2, h3, h4⟩ := h.pts p hp
    exact ⟨g, cap, e, h1, h2, by omega, h4⟩
theorem sdsV_at (l : List Qm.Sd) : ∀ j, j < l.length → (sdsV l)[j * 4]? = some (.int .i64 (l.getD j (0, 0, 0)).1) ∧ (sdsV l)[j * 4 + 1]? = some (.int .i64 (l.getD j (0, 0, 0)).2.1) ∧ (sdsV l)[j * 4 + 2]? = some (.int .i64 (Qm.en (l.getD j (0, 0, 0))).1) ∧ (sdsV l)[j * 4 + 3]? = some (.int .i64 (Qm.en (l.getD j (0, 0, 0))).2) := by
  induction l with
  | nil => intro j hj; simp at hj
  | cons p l ih =>
    intro j hj
    cases j with
    | zero => simp [sdsV, sdV]
    | succ j =>
      have := ih j (by simpa using hj)
      have e : sdsV (p :: l) = .int .i64 p.1 :: .int .i64 p.2.1 :: .int .i64 (Qm.en p).1 :: .int .i64 (Qm.en p).2 :: sdsV l := by simp [sdsV, sdV]
      rw [e, show (j + 1) * 4 = j * 4 + 1 + 1 + 1 + 1 from by omega, show j * 4 + 1 + 1 + 1 + 1 + 1 = (j * 4 + 1) + 1 + 1 + 1 + 1 from by omega, show j * 4 + 1 + 1 + 1 + 1 + 2 = (j * 4 + 2) + 1 + 1 + 1 + 1 from by omega, show j * 4 + 1 + 1 + 1 + 1 + 3 = (j * 4 + 3) + 1 + 1 + 1 + 1 from by omega]
      simpa using this
theorem own_sds {w : World} {b : Nat} {t : TypeId} {v : Value} {l : List Qm.Sd} {n : Nat} (h : w.ownsRow b t 4 v n (sdsV l)) (hn : 0 < n) : ∃ g cap, v = .slice (some ⟨g, 0, none⟩) n cap ∧ b ≤ g ∧ SdsAt g l w := by
  rcases h.2 with ⟨_, h0⟩ | ⟨g, cap, cur, rfl, hb, hg, _, _, _, _⟩
  · omega
  · refine ⟨g, cap, rfl, hb, (Array.getElem?_eq_some_iff.1 hg).1, fun j hj => ?_⟩
    have c := fun j u hu => h.cells (g := g) rfl j u hu
    have p := sdsV_at l j hj
    have a1 := c _ _ p.1
    have a2 := c _ _ p.2.1
    have a3 := c _ _ p.2.2.1
    have a4 := c _ _ p.2.2.2
    rw [add_zero_at] at a1 a2 a3 a4
    exact ⟨a1, a2, a3, a4⟩
theorem Seen.ents {W H : Nat} {s : ByteArray} {pol : Nat} {draws : ByteArray} (hw : W ≤ 32) (hh : H ≤ 32) {gg : Nat} {vl : Value} {L : List (Value × (Qm.Sd × Nat))} {w : World} (h : Seen (fB W H s pol draws) gg vl L w) (hc : ∀ p ∈ L, Qm.Canon (fB W H s pol draws) (bB W H s) Qm.key p.2) :
    ∃ ao cap, vl = .slice ao L.length cap ∧ (L.length = 0 ∨ ∃ g, ao = some ⟨g, 0, none⟩ ∧ EntsAt g (L.map (entOf (fB W H s pol draws))) w) := by
  obtain ⟨ao, cap, e, h1⟩ := h.row
  refine ⟨ao, cap, e, h1.imp id ?_⟩
  rintro ⟨gl, e2, _, h3, h4⟩
  refine ⟨gl, e2, h3, fun j e0 hj => ?_, fun e he => ?_⟩
  · have a := entV_at (L.map (entOf (fB W H s pol draws))) e0 j hj
    rw [entV_map] at a
    exact ⟨h4 _ _ a.1, h4 _ _ a.2⟩
  · obtain ⟨p, hp, rfl⟩ := List.mem_map.1 he
    obtain ⟨g, cap, e, h1, h2, _, h4, h5⟩ := h.pts p hp
    have a := h5 0 (by rw [Qm.ptsOf_len]; exact h2)
    rw [ptsOf_getD _ _ _ h2] at a
    have sm := small_pts hw hh (hc p hp).1 (Qm.fromP p.2.1) (List.mem_map.2 ⟨0, by simpa using h2, rfl⟩)
    exact ⟨⟨g, p.2.2, cap, e, h2, h4, by have := a.1; rw [Nat.zero_mul] at this; exact this, by have := a.2; rw [Nat.zero_mul, Nat.zero_add] at this; exact this⟩, sm.1, sm.2.1⟩
theorem RC.zero {W H : Nat} {s : ByteArray} {pol : Nat} {draws : ByteArray} {spk : Int} {gg gl : Nat} {SL : List Qm.Sd} {w : World} {i m k : Nat} {L : List (Value × (Qm.Sd × Nat))} {G G' : Nat → Bool} {v vo : Value} {wi wr : World} (h : RC W H s pol draws spk gg gl SL w i L G vo wi) (hi : i < SL.length) (hr : RI W H s pol draws gg SL (L.map (·.2)) (SL.getD i (0, 0, 0)) wi m k G' v wr) (hm : m = 0) (hG : G' k = true) (hnd : ∀ i j, i < SL.length → j < SL.length → SL.getD i (0, 0, 0) = SL.getD j (0, 0, 0) → i = j) : RC W H s pol draws spk gg gl SL w (i + 1) L G' vo wr := by
  subst hm
  have hk : k = i := hnd k i hr.lt hi hr.here
  subst hk
  have eq : ∀ j, j < SL.length → (G' j = true ↔ G j = true) := fun j hj => by
    rw [hr.rep j hj, h.rep j hj]
    exact ⟨fun h => h.imp id (fun ⟨_, b, _⟩ => by omega), fun h => h.imp id (fun ⟨_, b, _⟩ => by omega)⟩
  refine ⟨h.canon, h.sorted, fun j hj => (eq j hj).trans (h.rep j hj), fun j hj => ?_, hr.gone, fun h0 => (h.sds h0).gb hr.grown h.lt.2, h.box.gb hr.grown h.lt.1, h.lt, h.seen.on hr.grown, by have := h.few; omega⟩
  rcases Nat.lt_or_ge j k with h1 | h1
  · exact (eq j (by omega)).2 (h.past j h1)
  · obtain rfl : j = k := by omega
    exact hG

set_option maxRecDepth 4000 in
set_option maxHeartbeats 1000000 in
theorem refCycles_yes (W H : Nat) (s : ByteArray) (pol : Nat) (draws : ByteArray) (spk : Int) (w : World) (hm : mayB W H s.data.toList pol spk = true) (hw1 : 1 ≤ W) (hw2 : W ≤ 32) (hh2 : H ≤ 32) (hl : s.size = W * H) (hp : pol ≤ 3) :
    Calls Try.prog 31 #[.agg #[.int .i64 W, .int .i64 H, .string s], .agg #[.int .i64 pol, .string draws, .int .i64 spk]] w fun e w' => ∃ vl, e = .returned (.tuple #[vl, .int .i64 0]) ∧ RefOut W H s pol draws w vl w' := by
  obtain ⟨i0, hi, hz0, hz1, hz2⟩ := info_parts infoPoint
  obtain ⟨ib, hib, hzb0, hzb1, hzb2⟩ := info_parts infoBool
  have HL := hid hl
  clear hl
  go_enter Try.func31, Try.ntmps31
  go_wp2_with fail
  refine (may_any W H s pol draws spk _).mono ?_
  rintro e w1 ⟨rfl, hb⟩
  rw [hm]
  have B1 := hid (show Bb w.heap.size W H s pol draws spk w w1 from Bb.on ⟨by simp, by simp, by simp, by simp [go_sem], by simp [go_sem], by simp [go_sem], by go_grown, by simp⟩ hb)
  clear hb
  obtain ⟨c0, c1, c2, c3, c4, c5, -, hz⟩ := B1.out
  go_wp2_with fail
  refine (refSides_any W H s _ hw1 hw2 hh2 HL.out).mono ?_
  rintro e w2 ⟨vs, rfl, os, bs⟩
  obtain ⟨SL, hSL⟩ : ∃ SL, SL = Qm.sidesTo (Pm.blackB W H s.data.toList) W (W * H) := ⟨_, rfl⟩
  rw [← hSL] at os
  have B2 := hid (B1.out.on bs)
  have zs := bs.size
  have len := Qm.len_sidesTo (Pm.blackB W H s.data.toList) W (W * H)
  rw [← hSL] at len
  have area : W * H ≤ 1024 := Nat.mul_le_mul hw2 hh2
  have len4 : SL.length ≤ 4096 := by omega
  have ALL := hid (fun t => show t ∈ SL ↔ Qm.isS (Pm.blackB W H s.data.toList) t = true from hSL ▸ Qm.all_sidesTo (Qm.pic_of W H s.data.toList hw2 hh2) t)
  have ND := hid (show SL.Nodup by rw [hSL]; exact Qm.nodup_sidesTo _ _ _)
  have OS := hid os
  obtain ⟨aos, caps, rfl, hcaps⟩ := own_cap os
  clear os bs hSL len area c0 c1 c2 c3 c4 c5
  obtain ⟨n, hn⟩ : ∃ n, n = SL.length := ⟨_, rfl⟩
  rw [← hn] at len4 hcaps ⊢
  have HN := hid hn
  clear hn
  go_wp2_with (first
    | (at_make; refine wpList_make_full _ rfl _ _ 40 rfl w2.heap.size 4 ib (.bool false) 1 Try.underlying40 hib hzb0 hzb1 .i64 .i64 _ _ n rfl rfl rfl rfl (by rw [hzb2]; omega) (by unfold maxLen; omega) (Nat.le_refl _) ?_))
  intro w3 o3 g3
  have g3' := hid g3
  have b3 : Below w2.heap.size w2 w3 := ⟨g3.os, g3.tape, g3.output, g3.size, fun k hk => g3.block k hk (by simp)⟩
  have B3 := hid (B2.out.on b3)
  have z3 : w2.heap.size < w3.heap.size := by have := (o3.lt w2.heap.size rfl).2; exact this
  obtain ⟨gg, hgg⟩ : ∃ gg, gg = w2.heap.size := ⟨_, rfl⟩
  rw [← hgg] at o3 z3 ⊢
  have GA : GoneAt gg SL.length (fun _ => false) w3 := by
    refine ⟨z3, fun j hj => ⟨?_, ?_⟩⟩
    · have := o3.cells (g := gg) rfl j (.bool false) (by
        rw [toList_madeCells_one]; have := HN.out; simp [List.getElem?_replicate]; omega)
      rwa [add_zero_at] at this
    · rcases o3.2 with ⟨h1, _⟩ | ⟨g, cap, cur, h1, _, h2, _⟩
      · cases h1
      · injection h1 with h1 _ _; injection h1 with h1; injection h1 with h1 _ _
        subst h1
        simp [World.frozen?, h2]
  have OL := hid (show ∀ k, (Value.slice aos SL.length caps).ownBlock = some k → k < gg from fun k hk => by rw [hgg]; exact (OS.out.lt k hk).2)
  have gl2 : w.heap.size + 1 < gg := by rw [hgg]; omega
  have nd : ∀ i j, i < SL.length → j < SL.length → SL.getD i (0, 0, 0) = SL.getD j (0, 0, 0) → i = j := fun i j h1 h2 e => by
    exact nodup_getD ND.out h1 h2 e
  have HND := hid nd
  have HALL := hid (show ∀ j, j < SL.length → Qm.isS (Pm.blackB W H s.data.toList) (SL.getD j (0, 0, 0)) = true from fun j hj => (ALL.out _).1 (by rw [List.getD_eq_getElem?_getD, List.getElem?_eq_getElem hj]; exact List.getElem_mem hj))
  have FIND := hid (show ∀ t, Qm.isS (Pm.blackB W H s.data.toList) t = true → ∃ j, j < SL.length ∧ SL.getD j (0, 0, 0) = t from fun t ht => by
    obtain ⟨j, hj, e⟩ := List.mem_iff_getElem.1 ((ALL.out t).2 ht)
    exact ⟨j, hj, by rw [List.getD_eq_getElem?_getD, List.getElem?_eq_getElem hj]; exact e⟩)
  have mk : ∀ gl, gl < gg → (0 < SL.length → SdsAt gl SL w3) → RC W H s pol draws spk gg gl SL w 0 [] (fun _ => false) (.slice none 0 0) w3 := fun gl h1 h2 =>
    ⟨fun p hp => by simp at hp, by simp, fun j hj => by simp [Qm.Tk], fun j hj => by omega, GA, h2, B3.out, ⟨gl2, h1⟩, Seen.nil _ _ _, Nat.le_refl _⟩
  have MK := hid mk
  have OS3 := hid (own_below OS.out b3)
  have bw3 := hid (show Below w.heap.size w w3 from B3.out.2.2.2.2.2.2.1)
  clear mk nd o3 g3 g3' b3 GA hgg B2 B1 OS ND ALL hz z3 zs
  by_cases h0 : n = 0
  · subst h0
    have R0 := hid (MK.out 0 (by omega) (fun h => by have := HN.out; omega))
    clear MK
    go_wp2
    go_loopw [9, 10] (fun o iv wr => o = .slice none 0 0 ∧ iv = .int .i64 0 ∧ Hid (wr = w3)) (fun _ _ _ => 0)
    case atStart => exact ⟨rfl, rfl, rfl⟩
    case round =>
      obtain ⟨rfl, rfl, hw⟩ := hrel
      go_wp2
      go_ret2
      rw [hw.out]
      have R := R0.out
      rw [show (0 : Nat) = SL.length from HN.out] at R
      exact ⟨_, rfl, [], by simpa using R.res FIND.out, Seen.nil _ _ _, bw3.out⟩
  · obtain ⟨gl, capl, hv, hgl, hsd⟩ := own_sds OS3.out (by have := HN.out; omega)
    have e1 : aos = some ⟨gl, 0, none⟩ := by injection hv
    subst e1
    have gl3 : gl < gg := OL.out gl rfl
    have R0 := hid (MK.out gl gl3 (fun _ => hsd))
    clear MK hv hsd OS3
    go_wp2
    go_loopw [9, 10] (fun vo iv wr => ∃ (i : Nat) (L : List (Value × (Qm.Sd × Nat))) (G : Nat → Bool), i ≤ n ∧ iv = .int .i64 i ∧ Hid (RC W H s pol draws spk gg gl SL w i L G vo wr)) (fun _ i _ => n - (intOf i).toNat)
    case atStart => exact ⟨0, [], _, by omega, rfl, R0⟩
    case round =>
      clear R0
      obtain ⟨i, L, G, hin, rfl, h⟩ := hrel
      by_cases hlt : i < n
      · have hiS : i < SL.length := by have := HN.out; omega
        obtain ⟨wo, rfl⟩ : ∃ wo, wo = wr := ⟨_, rfl⟩
        obtain ⟨sI, hsI⟩ : ∃ t, t = SL.getD i (0, 0, 0) := ⟨_, rfl⟩
        have I0 := RI.start h.out hiS
        rw [← hsI] at I0
        replace I0 := hid I0
        have HSI := hid hsI
        clear hsI
        go_wp2
        go_loopw [11, 12] (fun v kv wx => ∃ (m k : Nat) (G' : Nat → Bool), kv = .int .i64 k ∧ Hid (RI W H s pol draws gg SL (L.map (·.2)) sI wo m k G' v wx)) (fun _ _ wx => untG gg n wx)
        case atStart => exact ⟨0, i, G, rfl, I0⟩
        case round =>
          clear I0
          obtain ⟨m, k, G', rfl, hr⟩ := hrel
          have hkl := hr.out.lt
          have hkn : k < n := by have := HN.out; omega
          have k0' : (0 : Int) ≤ (k : Nat) := by omega
          have k1' : ((k : Nat) : Int) < (n : Nat) := by omega
          obtain ⟨gc, gf⟩ := hr.out.gone.2 k hkl
          obtain ⟨s0, s1, s2, s3⟩ := ((h.out.sds (by omega)).gb hr.out.grown h.out.lt.2).2 k hkl
          obtain ⟨ao, cap, rfl, hcap⟩ := own_cap hr.out.own
          have few := hr.out.few
          have hgz := h.out.gone.1
          have zx := hr.out.grown.size
          cases hG : G' k
          · rw [hG] at gc
            obtain ⟨kf, hkf, ef⟩ := FIND.out _ (Qm.nx_isS (jn := Qm.jnB W H s.data.toList pol draws.data.toList) (HALL.out k hkl))
            have HKF := hid ef
            clear ef
            obtain ⟨⟨xk, yk, dk⟩, hSk⟩ : ∃ t, t = SL.getD k (0, 0, 0) := ⟨_, rfl⟩
            rw [← hSk] at s0 s1
            dsimp only at s0 s1
            have HSK := hid hSk
            clear hSk s2 s3
            have gy : wr.grownBy (wr.setCell ⟨gg, k, none⟩ (.bool true)) (some gg) := set_grown (Below.refl _ _) ⟨gg, k, none⟩
            have ne1 : gg ≠ gl := by omega
            have ne2 : gl ≠ gg := by omega
            have y0 : (wr.setCell ⟨gg, k, none⟩ (.bool true)).cell? ⟨gl, k * 4, none⟩ = some (.int .i64 xk) := (World.cell?_of_block (a := ⟨gl, k * 4, none⟩) (gy.block gl (by omega) (by simp; omega))).trans s0
            have y1 : (wr.setCell ⟨gg, k, none⟩ (.bool true)).cell? ⟨gl, k * 4 + 1, none⟩ = some (.int .i64 yk) := (World.cell?_of_block (a := ⟨gl, k * 4 + 1, none⟩) (gy.block gl (by omega) (by simp; omega))).trans s1
            have OY := hid (show (wr.setCell ⟨gg, k, none⟩ (.bool true)).ownsRow wo.heap.size 47 2 (.slice ao m cap) m _ from ownsRow_setCell_below hr.out.own hgz _)
            have GY := hid gy
            have BY := hid ((h.out.box.gb hr.out.grown h.out.lt.1).gb gy h.out.lt.1)
            have SY := hid (((h.out.sds (by omega)).gb hr.out.grown h.out.lt.2).gb gy h.out.lt.2)
            clear gy
            have n1 : m + 1 ≤ maxLen := by unfold maxLen; have := HN.out; omega
            have n2 : (m + 1) * 16 ≤ 140737488355328 := by have := HN.out; omega
            have n3 : wo.heap.size ≤ ((wr.setCell ⟨gg, k, none⟩ (.bool true)).alloc (.cells #[.int .i64 xk, .int .i64 yk] 47)).heap.size := by simp; omega
            go_wp2_with (first
              | (at_builtin; refine wpList_append_own _ rfl _ _ 41 rfl wo.heap.size 47 i0 (.agg #[.int .i64 0, .int .i64 0]) 2 16 Try.underlying41 hi hz0 hz1 hz2 rfl (by decide) _ _ _ rfl (OY.out.alloc _) ⟨_, 0, none⟩ 1 1 [.int .i64 xk, .int .i64 yk] rfl rfl (two_at _ _ _ _ _ (by simp)) (two_oneD rfl rfl) n1 n2 n3 ?_))
            intro v' w5 o5 g5 _
            have B5 := hid (show Below wo.heap.size (wr.setCell ⟨gg, k, none⟩ (.bool true)) w5 from ((Below.refl _ _).alloc (by simp; omega) _).grown g5 n3 (fun q hq => (hr.out.own.lt q hq).1))
            have z5 := B5.out.size
            simp at z5
            have S5 := hid (SY.out.on B5.out (by omega))
            have BB5 := hid (show Bb w.heap.size W H s pol draws spk w w5 from by
              obtain ⟨d0, d1, d2, d3, d4, d5, d6, d7⟩ := BY.out
              have zz : w.heap.size + 1 < wo.heap.size := h.out.box.2.2.2.2.2.2.2
              have C : ∀ q j, q < wo.heap.size → w5.cell? ⟨q, j, none⟩ = (wr.setCell ⟨gg, k, none⟩ (.bool true)).cell? ⟨q, j, none⟩ := fun q j hq => B5.out.cell (p := ⟨q, j, none⟩) hq
              exact ⟨(C _ _ (by omega)).trans d0, (C _ _ (by omega)).trans d1, (C _ _ (by omega)).trans d2, (C _ _ zz).trans d3, (C _ _ zz).trans d4, (C _ _ zz).trans d5, d6.trans (B5.out.mono (by omega)), by omega⟩)
            have O5 := hid o5
            have G5 := hid g5
            obtain ⟨d0, d1, d2, d3, d4, d5, -, -⟩ := BB5.out
            clear o5 g5 n3 y0 y1 s0 s1 gc gf
            go_wp2_with fail
            refine (after_any W H s pol draws spk gl n caps k kf SL _ hw2 hh2 HL.out hp HN.out len4 HALL.out HND.out hkl hkf HKF.out S5.out).mono ?_
            rintro e w6 ⟨rfl, b6⟩
            have N := hid (hr.out.succ (o := .cells #[.int .i64 xk, .int .i64 yk] 47) hgz hG HND.out (by rw [← HSK.out]; exact O5.out) G5.out b6 hkf HKF.out)
            have M1 := untG_of N.out.gone
            have M0 := untG_of hr.out.gone
            have M2 := Qm.cntF_mark G' k hG SL.length hkl
            have MM := hid (show untG gg n w6 < untG gg n wr by rw [HN.out, M1, M0]; omega)
            clear b6 M1 M0 M2 d0 d1 d2 d3 d4 d5
            go_wp2
            go_roundw
            case rel => exact ⟨m + 1, kf, _, rfl, N⟩
            case measure => exact MM.out
          · rw [hG] at gc
            by_cases hm0 : 0 < m
            · have HS := hid (show bB W H s sI by rw [HSI.out]; exact HALL.out i hiS)
              have cyc := hr.out.done hw2 hh2 h.out.cyc HS.out hm0 hG
              have CYC := hid cyc
              have sm := small_pts hw2 hh2 (c := (sI, m)) cyc
              obtain ⟨gp, capp, hvp, _, hpt, hlen⟩ := own_at hr.out.own hm0
              have e1 : ao = some ⟨gp, 0, none⟩ := by injection hvp
              have e2 : cap = capp := by injection hvp
              subst e1 e2
              have PT := hid hpt
              have SM := hid sm
              have PL := hid hlen
              have m1 : m ≤ 4356 := by have := HN.out; omega
              have m0' : (0 : Int) < (m : Nat) := by omega
              obtain ⟨aov, capv, rfl, hev⟩ := (h.out.seen.on hr.out.grown).ents hw2 hh2 h.out.canon
              have HEV := hid hev
              clear hvp hpt sm cyc hlen hev s0 s1 s2 s3
              go_wp2_with fail
              refine (turned_any gp m cap _ PL.out hm0 hcap SM.out m1 _ PT.out).mono ?_
              rintro e w5 ⟨vq, kk, rfl, hkk, hmin, oq, b5⟩
              rw [ptsOf_turn _ _ _ _ hkk CYC.out.2.2.1] at oq
              have cyq := CYC.out.turn (Qm.step (Qm.pic_of W H s.data.toList hw2 hh2) (Qm.jnB W H s.data.toList pol draws.data.toList)) kk
              obtain ⟨sQ, hsQ⟩ : ∃ t, t = Qm.it (fB W H s pol draws) kk sI := ⟨_, rfl⟩
              rw [← hsQ] at oq cyq
              have HSQ := hid hsQ
              have smq := small_pts hw2 hh2 (c := (sQ, m)) cyq
              obtain ⟨gq, capq, rfl, _, hptq, hlenq⟩ := own_at oq hm0
              have OQ := hid oq
              have B5 := hid b5
              have HMIN := hid hmin
              have PQ := hid hptq
              have LQ := hid hlenq
              have SQ := hid smq
              clear oq b5 hmin hptq hlenq smq cyq hsQ
              go_wp2_with fail
              refine (refTwice_any gq m capq _ LQ.out hm0 SQ.out m1 _ PQ.out).mono ?_
              rintro e w6 ⟨rfl, b6⟩
              obtain ⟨tw, htw⟩ : ∃ tw, tw = Qm.twiceOf (Qm.ptsOf (fB W H s pol draws) (sQ, m)) := ⟨_, rfl⟩
              rw [← htw]
              have HTW := hid htw
              have B6 := hid b6
              clear b6 htw
              have B56 := hid (show Below wr.heap.size wr w6 from B5.out.trans (B6.out.mono B5.out.size))
              obtain ⟨⟨qx, qy⟩, hq⟩ : ∃ t, t = Qm.fromP sQ := ⟨_, rfl⟩
              have hd0 : HeadAt (.slice (some ⟨gq, 0, none⟩) m capq) (qx, qy) w6 := by
                have a := (PQ.out.on B6.out PQ.out.1).2 0 (by rw [← LQ.out]; exact hm0)
                rw [ptsOf_getD _ _ _ hm0] at a
                rw [hq]
                exact ⟨gq, m, capq, rfl, hm0, Nat.lt_of_lt_of_le PQ.out.1 B6.out.size, by have := a.1; rw [Nat.zero_mul] at this; exact this, by have := a.2; rw [Nat.zero_mul, Nat.zero_add] at this; exact this⟩
              have hs0 : 0 ≤ (qx, qy).1 ∧ (qx, qy).1 ≤ 32 := by
                have := SQ.out (Qm.fromP sQ) (List.mem_map.2 ⟨0, by simpa using hm0, rfl⟩)
                rw [hq]; exact ⟨this.1, this.2.1⟩
              have fewL := h.out.few
              have HSO := hid (sorted_any aov L.length capv (L.map (entOf (fB W H s pol draws))) (.slice (some ⟨gq, 0, none⟩) m capq, tw, qx, qy) w6 (by simp) (HEV.out.imp id (fun ⟨g, e, x⟩ => ⟨g, e, (x.on B5.out).on B6.out⟩)) hd0 hs0 (by omega))
              have HQ := hid hq
              clear hd0 hs0 hq
              go_wp2_with fail
              refine HSO.out.mono ?_
              rintro e w7 ⟨vl', out, rfl, hio, ol, b7⟩
              have B57 := hid (show Below wr.heap.size wr w7 from B56.out.trans (b7.mono B56.out.size))
              have hr2 := hr.out
              rw [HSI.out] at hr2
              have hm2 := HMIN.out
              rw [HSI.out] at hm2
              have oq2 := own_below (own_below OQ.out B6.out) b7
              rw [HSQ.out, HSI.out] at oq2
              have hio2 : InsOut (L.map (entOf (fB W H s pol draws))) (entOf (fB W H s pol draws) (.slice (some ⟨gq, 0, none⟩) m capq, Qm.it (fB W H s pol draws) kk (SL.getD i (0, 0, 0)), m)) out := by
                rw [HQ.out, HTW.out, HSQ.out, HSI.out] at hio
                exact hio
              obtain ⟨L', hL'⟩ := h.out.found hw2 hh2 hiS (HALL.out i hiS) hr2 hm0 hG hkk hm2 oq2 B57.out hio2 (ol.mono B56.out.size)
              have HL' := hid hL'
              clear hio ol b7 hL' hr2 hm2 oq2 hio2
              go_wp2
              go_roundw
              case rel => exact ⟨i + 1, L', G', by omega, by go_num, HL'⟩
              case measure => simp [intOf]; omega
            · have em : m = 0 := by omega
              have hr2 := hr.out
              rw [HSI.out] at hr2
              have N := hid (h.out.zero hiS hr2 em hG HND.out)
              clear hr2
              subst em
              go_wp2
              go_roundw
              case rel => exact ⟨i + 1, L, G', by omega, by go_num, N⟩
              case measure => simp [intOf]; omega
      · go_wp2
        go_ret2
        have R := h.out
        rw [show i = SL.length by have := HN.out; omega] at R
        exact ⟨_, rfl, L, R.res FIND.out, R.seen.mono (by omega), R.box.2.2.2.2.2.2.1⟩
end Go.Proofs.Ytgapfjjdccohkaa
