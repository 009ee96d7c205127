/- Plain facts on a whole file: what Read answers. -/
import Derived.Test.YtljfiefobnncaaaDoorPs
namespace Go.Proofs.YtljfiefobnncaaaDoor.Pm

/-- The two letters ahead. -/
def kindOut (l : List UInt8) (c : UInt8) (p : Nat) (e : Int) : Prop :=
  ((∀ x, l[0]? = some x → ¬ (x.toNat : Int) = 80) ∧ c = 0 ∧ p = 0 ∧ e = lackE l.length 0) ∨
  ((∃ x, l[0]? = some x ∧ (x.toNat : Int) = 80) ∧ (∀ x, l[1]? = some x → ¬ (x.toNat : Int) = 49 ∧ ¬ (x.toNat : Int) = 52) ∧ c = 0 ∧ p = 1 ∧ e = lackE l.length 1) ∨
  ((∃ x, l[0]? = some x ∧ (x.toNat : Int) = 80) ∧ l[1]? = some c ∧ ((c.toNat : Int) = 49 ∨ (c.toNat : Int) = 52) ∧ p = 2 ∧ e = 0)
/-- All that stands ahead of the pixels. -/
def headOut (l : List UInt8) (c : UInt8) (n m p : Nat) (e : Int) : Prop :=
  ∃ c0 p0 e0, kindOut l c0 p0 e0 ∧
    ((e0 ≠ 0 ∧ c = 0 ∧ n = 0 ∧ m = 0 ∧ p = p0 ∧ e = e0) ∨
     (e0 = 0 ∧ ∃ n1 p1 e1, sideOut l p0 n1 p1 e1 ∧
       ((e1 ≠ 0 ∧ c = 0 ∧ n = 0 ∧ m = 0 ∧ p = p1 ∧ e = e1) ∨
        (e1 = 0 ∧ ∃ n2 p2 e2, sideOut l p1 n2 p2 e2 ∧
          ((e2 ≠ 0 ∧ c = 0 ∧ n = 0 ∧ m = 0 ∧ p = p2 ∧ e = e2) ∨ (e2 = 0 ∧ c = c0 ∧ n = n1 ∧ m = n2 ∧ p = p2 ∧ e = 0))))))
/-- The pixels, by the kind of the file. -/
def pixOut (c : UInt8) (l : List UInt8) (a w h : Nat) (bits : List UInt8) (p : Nat) (e : Int) : Prop :=
  ((c.toNat : Int) = 49 ∧ plainOut l a (w * h) bits p e) ∨ (¬ (c.toNat : Int) = 49 ∧ packedOut l a w h bits p e)
/-- What Read answers. -/
def readOut (l : List UInt8) (n m : Nat) (bits : List UInt8) (e : Int) (q : Nat) : Prop :=
  ∃ c0 n0 m0 p0 e0, headOut l c0 n0 m0 p0 e0 ∧
    ((e0 ≠ 0 ∧ n = 0 ∧ m = 0 ∧ bits = [] ∧ e = e0 ∧ q = p0) ∨
     (e0 = 0 ∧ ∃ b1 p1 e1, pixOut c0 l p0 n0 m0 b1 p1 e1 ∧
       ((e1 ≠ 0 ∧ n = 0 ∧ m = 0 ∧ bits = [] ∧ e = e1 ∧ q = p1) ∨ (e1 = 0 ∧ n = n0 ∧ m = m0 ∧ bits = b1 ∧ e = 0 ∧ q = 0))))

theorem lackE_nz (n a : Nat) : lackE n a ≠ 0 := by unfold lackE; split <;> omega
theorem kindOut_one {l : List UInt8} {c c' : UInt8} {p p' : Nat} {e e' : Int} (h : kindOut l c p e) (h' : kindOut l c' p' e') : c = c' ∧ p = p' ∧ e = e' := by
  rcases h with ⟨a, rfl, rfl, rfl⟩ | ⟨⟨x, hx, hx1⟩, b, rfl, rfl, rfl⟩ | ⟨⟨x, hx, hx1⟩, b, b1, rfl, rfl⟩ <;>
  rcases h' with ⟨a', rfl, rfl, rfl⟩ | ⟨⟨x', hx', hx1'⟩, b', rfl, rfl, rfl⟩ | ⟨⟨x', hx', hx1'⟩, b', b1', rfl, rfl⟩
  · exact ⟨rfl, rfl, rfl⟩
  · exact absurd hx1' (a _ hx')
  · exact absurd hx1' (a _ hx')
  · exact absurd hx1 (a' _ hx)
  · exact ⟨rfl, rfl, rfl⟩
  · have := b _ b'; omega
  · exact absurd hx1 (a' _ hx)
  · have := b' _ b; omega
  · rw [b] at b'; cases b'; exact ⟨rfl, rfl, rfl⟩
theorem numOut_one {l : List UInt8} {g n n' p p' : Nat} {e e' : Int} (h : numOut l g n p e) (h' : numOut l g n' p' e') : n = n' ∧ p = p' ∧ e = e' := by
  rcases h with ⟨a, rfl, rfl, rfl⟩ | ⟨a, a1, rfl, rfl, rfl⟩ | ⟨a, a1, a2, rfl, rfl, rfl⟩ <;>
  rcases h' with ⟨b, rfl, hp, rfl⟩ | ⟨b, b1, rfl, hp, rfl⟩ | ⟨b, b1, b2, rfl, rfl, rfl⟩ <;>
  first | exact ⟨rfl, rfl, rfl⟩ | exact ⟨rfl, hp.symm, rfl⟩ | omega
theorem sideOut_one {l : List UInt8} {a n n' p p' : Nat} {e e' : Int} (h : sideOut l a n p e) (h' : sideOut l a n' p' e') : n = n' ∧ p = p' ∧ e = e' := by
  rcases h with ⟨x, rfl, rfl, rfl⟩ | ⟨x, h⟩ <;> rcases h' with ⟨y, rfl, hp, rfl⟩ | ⟨y, h'⟩
  · exact ⟨rfl, hp.symm, rfl⟩
  · omega
  · omega
  · exact numOut_one h h'
theorem headOut_one {l : List UInt8} {c c' : UInt8} {n n' m m' p p' : Nat} {e e' : Int} (h : headOut l c n m p e) (h' : headOut l c' n' m' p' e') : c = c' ∧ n = n' ∧ m = m' ∧ p = p' ∧ e = e' := by
  obtain ⟨c0, p0, e0, hk, h⟩ := h
  obtain ⟨d0, q0, f0, hk', h'⟩ := h'
  obtain ⟨rfl, rfl, rfl⟩ := kindOut_one hk hk'
  rcases h with ⟨z, rfl, rfl, rfl, rfl, rfl⟩ | ⟨z, n1, p1, e1, hs, h⟩ <;> rcases h' with ⟨z', rfl, rfl, rfl, rfl, rfl⟩ | ⟨z', n1', p1', e1', hs', h'⟩
  · exact ⟨rfl, rfl, rfl, rfl, rfl⟩
  · exact absurd z' z
  · exact absurd z z'
  · obtain ⟨rfl, rfl, rfl⟩ := sideOut_one hs hs'
    rcases h with ⟨y, rfl, rfl, rfl, rfl, rfl⟩ | ⟨y, n2, p2, e2, ht, h⟩ <;> rcases h' with ⟨y', rfl, rfl, rfl, rfl, rfl⟩ | ⟨y', n2', p2', e2', ht', h'⟩
    · exact ⟨rfl, rfl, rfl, rfl, rfl⟩
    · exact absurd y' y
    · exact absurd y y'
    · obtain ⟨rfl, rfl, rfl⟩ := sideOut_one ht ht'
      rcases h with ⟨x, rfl, rfl, rfl, rfl, rfl⟩ | ⟨x, rfl, rfl, rfl, rfl, rfl⟩ <;> rcases h' with ⟨x', rfl, rfl, rfl, rfl, rfl⟩ | ⟨x', rfl, rfl, rfl, rfl, rfl⟩
      · exact ⟨rfl, rfl, rfl, rfl, rfl⟩
      · exact absurd x' x
      · exact absurd x x'
      · exact ⟨rfl, rfl, rfl, rfl, rfl⟩
theorem plainOut_one {l : List UInt8} {a n p p' : Nat} {b b' : List UInt8} {e e' : Int} (h : plainOut l a n b p e) (h' : plainOut l a n b' p' e') : b = b' ∧ p = p' ∧ e = e' := by
  rcases h with ⟨x, rfl, rfl, rfl⟩ | ⟨x, rfl, rfl, rfl⟩ <;> rcases h' with ⟨y, rfl, rfl, rfl⟩ | ⟨y, rfl, rfl, rfl⟩
  · exact ⟨rfl, rfl, rfl⟩
  · rw [x] at y; cases y
  · rw [x] at y; cases y
  · exact ⟨rfl, rfl, rfl⟩
theorem packedOut_one {l : List UInt8} {a w h p p' : Nat} {b b' : List UInt8} {e e' : Int} (h1 : packedOut l a w h b p e) (h2 : packedOut l a w h b' p' e') : b = b' ∧ p = p' ∧ e = e' := by
  rcases h1 with ⟨x, rfl, rfl, rfl⟩ | ⟨⟨c, hc, hb⟩, x, rfl, rfl, rfl⟩ | ⟨⟨c, hc, hb⟩, x, rfl, rfl, rfl⟩ <;>
  rcases h2 with ⟨y, rfl, hp, rfl⟩ | ⟨⟨c', hc', hb'⟩, y, rfl, rfl, rfl⟩ | ⟨⟨c', hc', hb'⟩, y, rfl, rfl, rfl⟩
  · exact ⟨rfl, hp.symm, rfl⟩
  · have := x _ hc'; rw [hb'] at this; cases this
  · have := x _ hc'; rw [hb'] at this; cases this
  · have := y _ hc; rw [hb] at this; cases this
  · exact ⟨rfl, rfl, rfl⟩
  · omega
  · have := y _ hc; rw [hb] at this; cases this
  · omega
  · exact ⟨rfl, rfl, rfl⟩
theorem pixOut_one {c : UInt8} {l : List UInt8} {a w h p p' : Nat} {b b' : List UInt8} {e e' : Int} (h1 : pixOut c l a w h b p e) (h2 : pixOut c l a w h b' p' e') : b = b' ∧ p = p' ∧ e = e' := by
  rcases h1 with ⟨x, h1⟩ | ⟨x, h1⟩ <;> rcases h2 with ⟨y, h2⟩ | ⟨y, h2⟩
  · exact plainOut_one h1 h2
  · exact absurd x y
  · exact absurd y x
  · exact packedOut_one h1 h2
theorem readOut_one {l : List UInt8} {n n' m m' q q' : Nat} {b b' : List UInt8} {e e' : Int} (h : readOut l n m b e q) (h' : readOut l n' m' b' e' q') : n = n' ∧ m = m' ∧ b = b' ∧ e = e' ∧ q = q' := by
  obtain ⟨c0, n0, m0, p0, e0, hh, h⟩ := h
  obtain ⟨c0', n0', m0', p0', e0', hh', h'⟩ := h'
  obtain ⟨rfl, rfl, rfl, rfl, rfl⟩ := headOut_one hh hh'
  rcases h with ⟨z, rfl, rfl, rfl, rfl, rfl⟩ | ⟨z, b1, p1, e1, hp, h⟩ <;> rcases h' with ⟨z', rfl, rfl, rfl, rfl, rfl⟩ | ⟨z', b1', p1', e1', hp', h'⟩
  · exact ⟨rfl, rfl, rfl, rfl, rfl⟩
  · exact absurd z' z
  · exact absurd z z'
  · obtain ⟨rfl, rfl, rfl⟩ := pixOut_one hp hp'
    rcases h with ⟨x, rfl, rfl, rfl, rfl, rfl⟩ | ⟨x, rfl, rfl, rfl, rfl, rfl⟩ <;> rcases h' with ⟨x', rfl, rfl, rfl, rfl, rfl⟩ | ⟨x', rfl, rfl, rfl, rfl, rfl⟩
    · exact ⟨rfl, rfl, rfl, rfl, rfl⟩
    · exact absurd x' x
    · exact absurd x x'
    · exact ⟨rfl, rfl, rfl, rfl, rfl⟩

theorem numOut_ok {l : List UInt8} {g n p : Nat} {e : Int} (hg : g ≤ l.length) (h : numOut l g n p e) : p ≤ l.length ∧ (e = 0 → 1 ≤ n ∧ n ≤ 32) ∧ n ≤ 32 := by
  have := numC_le (l.drop g)
  rw [List.length_drop] at this
  rcases h with ⟨a, rfl, rfl, rfl⟩ | ⟨a, a1, rfl, rfl, rfl⟩ | ⟨a, a1, a2, rfl, rfl, rfl⟩
  · exact ⟨hg, fun h => absurd h (lackE_nz _ _), by omega⟩
  · exact ⟨hg, fun h => by omega, by omega⟩
  · exact ⟨by omega, fun _ => ⟨a1, a2⟩, a2⟩
theorem sideOut_ok {l : List UInt8} {a n p : Nat} {e : Int} (ha : a ≤ l.length) (h : sideOut l a n p e) : p ≤ l.length ∧ (e = 0 → 1 ≤ n ∧ n ≤ 32) ∧ n ≤ 32 := by
  rcases h with ⟨x, rfl, rfl, rfl⟩ | ⟨x, h⟩
  · exact ⟨ha, fun h => absurd h (lackE_nz _ _), by omega⟩
  · exact numOut_ok (gapEnd_le l a ha) h
theorem kindOut_ok {l : List UInt8} {c : UInt8} {p : Nat} {e : Int} (h : kindOut l c p e) : e = 0 → p = 2 ∧ 2 ≤ l.length ∧ ((c.toNat : Int) = 49 ∨ (c.toNat : Int) = 52) := by
  intro h0
  rcases h with ⟨a, rfl, rfl, rfl⟩ | ⟨_, b, rfl, rfl, rfl⟩ | ⟨_, b, b1, rfl, rfl⟩
  · exact absurd h0 (lackE_nz _ _)
  · exact absurd h0 (lackE_nz _ _)
  · refine ⟨rfl, ?_, b1⟩
    have := (List.getElem?_eq_some_iff.1 b).1
    omega
theorem headOut_ok {l : List UInt8} {c : UInt8} {n m p : Nat} {e : Int} (h : headOut l c n m p e) (h0 : e = 0) : p ≤ l.length ∧ 1 ≤ n ∧ n ≤ 32 ∧ 1 ≤ m ∧ m ≤ 32 ∧ ((c.toNat : Int) = 49 ∨ (c.toNat : Int) = 52) := by
  obtain ⟨c0, p0, e0, hk, h⟩ := h
  rcases h with ⟨z, rfl, rfl, rfl, rfl, rfl⟩ | ⟨z, n1, p1, e1, hs, h⟩
  · exact absurd h0 z
  · obtain ⟨rfl, k2, k3⟩ := kindOut_ok hk z
    have s1 := sideOut_ok k2 hs
    rcases h with ⟨y, rfl, rfl, rfl, rfl, rfl⟩ | ⟨y, n2, p2, e2, ht, h⟩
    · exact absurd h0 y
    · have s2 := sideOut_ok s1.1 ht
      rcases h with ⟨x, rfl, rfl, rfl, rfl, rfl⟩ | ⟨x, rfl, rfl, rfl, rfl, rfl⟩
      · exact absurd h0 x
      · have q1 := s1.2.1 y
        have q2 := s2.2.1 x
        exact ⟨s2.1, q1.1, q1.2, q2.1, q2.2, k3⟩
end Go.Proofs.YtljfiefobnncaaaDoor.Pm
