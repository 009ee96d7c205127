import Derived.Test.YtljfiefobnncaaaDoorK22
import Derived.Maps.AppendAt

/- Package polygons: corners. -/
namespace Go.Proofs.YtljfiefobnncaaaDoor
open Go.RowKit

namespace Qm
theorem accR_span (l : List Pt) (B : List Rw) : ∀ k, 0 ≤ (accR l B k).2.2 ∧ (accR l B k).2.2 ≤ k
  | 0 => by simp [accR]
  | k + 1 => by
    have ih := accR_span l B k
    simp only [accR]
    split
    · dsimp only; omega
    · omega
theorem rowsTo_span (v : List Pt) (m : Nat) : ∀ j, 0 ≤ ((rowsTo v m).getD j (0, 0, 0)).2.2 ∧ ((rowsTo v m).getD j (0, 0, 0)).2.2 ≤ 12 := by
  induction m with
  | zero => intro j; simp [rowsTo]
  | succ m ih =>
    intro j
    have a := accR_span (v.drop (v.length - 1 - m)) (rowsTo v m) (spn (m + 1) m)
    have b : spn (m + 1) m ≤ 12 := by unfold spn; omega
    have ij := ih j
    simp only [rowsTo, List.getD_eq_getElem?_getD, List.getElem?_append, rowsTo_len] at ij ⊢
    split
    · omega
    · cases hjm : j - m with
      | zero => simp only [List.getElem?_cons_zero, Option.getD_some]; omega
      | succ q => simp
theorem cornTo_in {B : List Rw} (h : ∀ j, 0 ≤ (B.getD j (0, 0, 0)).2.2 ∧ (B.getD j (0, 0, 0)).2.2 ≤ 12) : ∀ k, 0 ≤ (cornTo B k).2 ∧ (cornTo B k).2 ≤ k + 12 ∧ (cornTo B k).1.length ≤ k
  | 0 => by simp [cornTo]
  | k + 1 => by
    have ih := cornTo_in h k
    have s := h (B.length - 1 - k)
    simp only [cornTo]
    split
    · simp only [List.length_append, List.length_singleton]; omega
    · omega
end Qm

def cpts (c : List (Int × Int)) (I : List Nat) : List (Int × Int) := I.map fun i => c.getD i (0, 0)
theorem cpts_snoc (c : List (Int × Int)) (I : List Nat) (k : Nat) : cpts c (I ++ [k]) = cpts c I ++ [c.getD k (0, 0)] := by simp [cpts]

end Go.Proofs.YtljfiefobnncaaaDoor
/- Lists of shapes of any points: what one owns, one more of them. -/
namespace Go.Proofs.YtljfiefobnncaaaDoor
open Go.RowKit

def shpP (L : List (Value × List (Int × Int))) : List Value := L.flatMap fun p => [p.1, .int .i64 (Qm.twiceOf p.2)]
theorem shpP_snoc (L : List (Value × List (Int × Int))) (p : Value × List (Int × Int)) : shpP (L ++ [p]) = shpP L ++ [p.1, .int .i64 (Qm.twiceOf p.2)] := by simp [shpP]
/-- The row of shapes and each shape's points have blocks of their own, from b on. -/
structure RowP (b : Nat) (vl : Value) (L : List (Value × List (Int × Int))) (w : World) : Prop where
  row : w.ownsRow b 81 2 vl L.length (shpP L)
  pts : ∀ p ∈ L, w.ownsRow b 83 2 p.1 p.2.length (Qm.ptsV p.2)
  apart : (vl :: L.map (·.1)).Pairwise fun a c => a.ownBlock = none ∨ a.ownBlock ≠ c.ownBlock
theorem RowP.nil (b : Nat) (w : World) : RowP b (.slice none 0 0) [] w := ⟨World.ownsRow_nil _ _ _ _, fun p hp => by simp at hp, by simp⟩
theorem RowP.on {b : Nat} {vl : Value} {L : List (Value × List (Int × Int))} {w w' : World} (h : RowP b vl L w) (hb : Below w.heap.size w w') : RowP b vl L w' :=
  ⟨own_below h.row hb, fun p hp => own_below (h.pts p hp) hb, h.apart⟩
theorem RowP.mono {b b' : Nat} {vl : Value} {L : List (Value × List (Int × Int))} {w : World} (h : RowP b vl L w) (hb : b' ≤ b) : RowP b' vl L w :=
  ⟨h.row.mono hb, fun p hp => (h.pts p hp).mono hb, h.apart⟩
theorem RowP.snoc {b : Nat} {vl : Value} {L : List (Value × List (Int × Int))} {wr w2 w3 w4 : World} {v vl' : Value} {l : List (Int × Int)} {o : Obj} (h : RowP b vl L wr) (hbz : b ≤ wr.heap.size) (b2 : Below wr.heap.size wr w2)
    (ho : w2.ownsRow wr.heap.size 83 2 v l.length (Qm.ptsV l)) (hn : 0 < l.length) (b3 : Below w2.heap.size w2 w3)
    (o4 : w4.ownsRow b 81 2 vl' (L.length + 1) (shpP L ++ [v, .int .i64 (Qm.twiceOf l)])) (g4 : (w3.alloc o).grownBy w4 vl.ownBlock) (e4 : vl'.ownBlock = vl.ownBlock ∨ vl'.ownBlock = some (w3.heap.size + 1)) :
    RowP b vl' (L ++ [(v, l)]) w4 := by
  have z2 := b2.size
  have z3 := b3.size
  have vb : ∃ k, v.ownBlock = some k ∧ wr.heap.size ≤ k ∧ k < w2.heap.size := by
    obtain ⟨k, cap, e, hb, hp, _⟩ := own_at ho hn
    exact ⟨k, by rw [e]; rfl, hb, hp.1⟩
  obtain ⟨k, vk, k1, k2⟩ := vb
  have vlne : ∀ q, vl.ownBlock = some q → b ≤ q ∧ q < wr.heap.size := fun q hq => h.row.lt q hq
  have keep : ∀ {u : Value} {m : Nat} {xs : List Value} {b : Nat}, w2.ownsRow b 83 2 u m xs → (u.ownBlock = .none ∨ u.ownBlock ≠ vl.ownBlock) → w4.ownsRow b 83 2 u m xs := fun hu hne =>
    (own_below hu (b3.trans ((Below.refl _ _).alloc (by omega) o))).kept g4 hne
  have pl : ∀ p ∈ L, w2.ownsRow b 83 2 p.1 p.2.length (Qm.ptsV p.2) := fun p hp => own_below (h.pts p hp) b2
  have ap := List.pairwise_cons.1 h.apart
  have pn : ∀ p ∈ L, p.1.ownBlock = .none ∨ p.1.ownBlock ≠ vl.ownBlock := fun p hp => by
    rcases ap.1 p.1 (List.mem_map_of_mem hp) with e | e
    · cases hpb : p.1.ownBlock with
      | none => exact .inl rfl
      | some q => right; rw [e]; simp
    · exact .inr (Ne.symm e)
  have plt : ∀ p ∈ L, ∀ q, p.1.ownBlock = some q → q < wr.heap.size := fun p hp q hq => ((h.pts p hp).lt q hq).2
  have vne : v.ownBlock ≠ vl.ownBlock := fun e => by rw [vk] at e; have := vlne k e.symm; omega
  refine ⟨?_, ?_, ?_⟩
  · rw [shpP_snoc, List.length_append]; exact o4
  · intro p hp
    rcases List.mem_append.1 hp with hp | hp
    · exact keep (pl p hp) (pn p hp)
    · rw [List.mem_singleton] at hp; subst hp
      exact keep (ho.mono hbz) (.inr vne)
  · rw [List.map_append]
    refine List.pairwise_cons.2 ⟨fun a ha => ?_, List.pairwise_append.2 ⟨ap.2, by simp, fun a ha b hb => ?_⟩⟩
    · right
      intro e
      have hlt : ∃ q, vl'.ownBlock = some q := by
        rcases o4.2 with ⟨_, h0⟩ | ⟨g', cap', _, e', _⟩
        · omega
        · exact ⟨g', by rw [e']; rfl⟩
      obtain ⟨q, hq⟩ := hlt
      rcases List.mem_append.1 ha with ha | ha
      · obtain ⟨p, hp, rfl⟩ := List.mem_map.1 ha
        rcases e4 with e4 | e4
        · rcases pn p hp with e5 | e5
          · rw [e5, hq] at e; cases e
          · exact e5 (e.symm.trans e4)
        · have := plt p hp _ (e.symm.trans e4); omega
      · simp only [List.map_cons, List.map_nil, List.mem_singleton] at ha
        subst ha
        rcases e4 with e4 | e4
        · exact vne (e.symm.trans e4)
        · rw [vk] at e
          have := Option.some.inj (e4.symm.trans e)
          omega
    · obtain ⟨p, hp, rfl⟩ := List.mem_map.1 ha
      simp only [List.map_cons, List.map_nil, List.mem_singleton] at hb
      subst hb
      right
      intro e
      rw [vk] at e
      have := plt p hp k e
      omega

namespace Qm
theorem cornTo_pos (B : List Rw) : ∀ k, 0 < k → 0 < (cornTo B k).1.length
  | 0, h => absurd h (Nat.lt_irrefl _)
  | 1, _ => by simp [cornTo]
  | k + 2, _ => by
    have := cornTo_pos B (k + 1) (by omega)
    rw [cornTo]
    split
    · simp
    · exact this
theorem cornL_pos {c : List Pt} (h : 0 < c.length) : 0 < (cornL c).length := by
  unfold cornL cornN; rw [List.length_map]; exact cornTo_pos _ _ h
theorem cornL_le (c : List Pt) : (cornL c).length ≤ c.length := by
  unfold cornL cornN; rw [List.length_map]; exact (cornTo_in (rowsTo_span _ _) c.length).2.2
theorem cornL_small {c : List Pt} (h : Small c) : Small (cornL c) := fun p hp => by
  obtain ⟨i, _, rfl⟩ := List.mem_map.1 hp
  exact h.at i
/-- Is it no speckle? -/
def bigB (f : Sd → Sd) (spk : Int) (c : Sd × Nat) : Bool := decide (2 * spk < absZ (twiceOf (ptsOf f c)))
/-- The polygons. -/
def polys (f : Sd → Sd) (spk : Int) (R : List (Sd × Nat)) : List (List Pt) := (R.filter (bigB f spk)).map fun c => cornL (ptsOf f c)
theorem polys_next {f : Sd → Sd} {spk : Int} {R : List (Sd × Nat)} {i : Nat} (hi : i < R.length) : polys f spk (R.take (i + 1)) = if bigB f spk R[i] then polys f spk (R.take i) ++ [cornL (ptsOf f R[i])] else polys f spk (R.take i) := by
  unfold polys
  rw [List.take_add_one, List.getElem?_eq_getElem hi, List.filter_append, List.map_append]
  simp only [Option.toList_some, List.filter_cons, List.filter_nil]
  split <;> simp
end Qm

end Go.Proofs.YtljfiefobnncaaaDoor
/- Package polygons: Find; outline.Trace. -/
namespace Go.Proofs.YtljfiefobnncaaaDoor
open Go.RowKit



theorem Shown.at' {f : Qm.Sd → Qm.Sd} {al : Option Addr} {cl n : Nat} {L : List (Value × (Qm.Sd × Nat))} {X : World} (h : Shown f (.slice al n cl) L X) {R : List (Qm.Sd × Nat)} (hR : R = L.map (·.2)) {gl : Nat} (hc : ∀ j u, (shpV f L)[j]? = some u → X.cell? ⟨gl, j, none⟩ = some u) {i : Nat} (hi : i < R.length) :
    ∃ g c, 0 < R[i].2 ∧ PtsAt g (Qm.ptsOf f R[i]) X ∧ X.cell? ⟨gl, i * 2, none⟩ = some (.slice (some ⟨g, 0, none⟩) R[i].2 c) ∧ X.cell? ⟨gl, i * 2 + 1, none⟩ = some (.int .i64 (Qm.twiceOf (Qm.ptsOf f R[i]))) := by
  subst hR
  have hi' : i < L.length := by simpa using hi
  obtain ⟨g, c, e, h0, hp⟩ := h.pts L[i] (List.getElem_mem hi')
  have s := shpV_at f L i hi'
  rw [e] at s
  refine ⟨g, c, ?_⟩
  simp only [List.getElem_map]
  exact ⟨h0, hp, hc _ _ s.1, hc _ _ s.2⟩
theorem vt_cells (w : World) (a : Value) (b : Int) (t : TypeId) (ao : Option Addr) (n c : Nat) (ha : a = .slice ao n c) : ∀ (j : Nat) (u : Value), [a, .int .i64 b][j]? = some u → (w.alloc (.cells #[a, .int .i64 b] t)).cell? ((⟨w.heap.size, 0, none⟩ : Addr).add j) = some u := by
  subst ha
  intro j u hj
  match j, hj with
  | 0, hj => simp at hj; subst hj; simp [Addr.add]
  | 1, hj => simp at hj; subst hj; simp [Addr.add]
theorem vt_one (b : Int) (ao : Option Addr) (n c : Nat) : ∀ u ∈ [Value.slice ao n c, .int .i64 b], u.oneCell' = true := by
  intro u hu; simp at hu; rcases hu with rfl | rfl <;> rfl

def TraceOut (W H : Nat) (s : ByteArray) (pol : Nat) (draws : ByteArray) (spk : Int) (w : World) (vl : Value) (w' : World) : Prop :=
  ∃ (R : List (Qm.Sd × Nat)) (L : List (Value × List (Int × Int))), Qm.Res (fB W H s pol draws) (bB W H s) Qm.key R ∧ L.map (·.2) = Qm.polys (fB W H s pol draws) spk R ∧ RowP w.heap.size vl L w' ∧ R.length ≤ 1200 ∧ Below w.heap.size w w'

end Go.Proofs.YtljfiefobnncaaaDoor