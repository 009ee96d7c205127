import Derived.Test.YtljfiefobnncaabGreatDoorK25
import Derived.Test.YtljfiefobnncaabGreatDoorK23

/- Plain facts on a whole file: what Read answers. -/
namespace Go.Proofs.YtljfiefobnncaabGreatDoor.Pm

/-- The two letters ahead. -/
def kindOut (l : List UInt8) (c : UInt8) (p : Nat) (e : Int) : Prop :=
  ((∀ x, l[0]? = some x → ¬ (x.toNat : Int) = 80) ∧ c = 0 ∧ p = 0 ∧ e = lackE l.length 0) ∨
  ((∃ x, l[0]? = some x ∧ (x.toNat : Int) = 80) ∧ (∀ x, l[1]? = some x → ¬ (x.toNat : Int) = 49 ∧ ¬ (x.toNat : Int) = 52) ∧ c = 0 ∧ p = 1 ∧ e = lackE l.length 1) ∨
  ((∃ x, l[0]? = some x ∧ (x.toNat : Int) = 80) ∧ l[1]? = some c ∧ ((c.toNat : Int) = 49 ∨ (c.toNat : Int) = 52) ∧ p = 2 ∧ e = 0)
/-- All that stands ahead of the pixels. -/
def headOut (l : List UInt8) (c : UInt8) (n m p : Nat) (e : Int) : Prop :=
  ∃ c0 p0 e0, kindOut l c0 p0 e0 ∧
    ((e0 ≠ 0 ∧ c = 0 ∧ n = 0 ∧ m = 0 ∧ p = p0 ∧ e = e0) ∨
     (e0 = 0 ∧ ∃ n1 p1 e1, sideOut l p0 n1 p1 e1 ∧
       ((e1 ≠ 0 ∧ c = 0 ∧ n = 0 ∧ m = 0 ∧ p = p1 ∧ e = e1) ∨
        (e1 = 0 ∧ ∃ n2 p2 e2, sideOut l p1 n2 p2 e2 ∧
          ((e2 ≠ 0 ∧ c = 0 ∧ n = 0 ∧ m = 0 ∧ p = p2 ∧ e = e2) ∨ (e2 = 0 ∧ c = c0 ∧ n = n1 ∧ m = n2 ∧ p = p2 ∧ e = 0))))))
/-- The pixels, by the kind of the file. -/
def pixOut (c : UInt8) (l : List UInt8) (a w h : Nat) (bits : List UInt8) (p : Nat) (e : Int) : Prop :=
  ((c.toNat : Int) = 49 ∧ plainOut l a (w * h) bits p e) ∨ (¬ (c.toNat : Int) = 49 ∧ packedOut l a w h bits p e)
/-- What Read answers. -/
def readOut (l : List UInt8) (n m : Nat) (bits : List UInt8) (e : Int) (q : Nat) : Prop :=
  ∃ c0 n0 m0 p0 e0, headOut l c0 n0 m0 p0 e0 ∧
    ((e0 ≠ 0 ∧ n = 0 ∧ m = 0 ∧ bits = [] ∧ e = e0 ∧ q = p0) ∨
     (e0 = 0 ∧ ∃ b1 p1 e1, pixOut c0 l p0 n0 m0 b1 p1 e1 ∧
       ((e1 ≠ 0 ∧ n = 0 ∧ m = 0 ∧ bits = [] ∧ e = e1 ∧ q = p1) ∨ (e1 = 0 ∧ n = n0 ∧ m = m0 ∧ bits = b1 ∧ e = 0 ∧ q = 0))))

theorem lackE_nz (n a : Nat) : lackE n a ≠ 0 := by unfold lackE; split <;> omega
theorem kindOut_one {l : List UInt8} {c c' : UInt8} {p p' : Nat} {e e' : Int} (h : kindOut l c p e) (h' : kindOut l c' p' e') : c = c' ∧ p = p' ∧ e = e' := by
  rcases h with ⟨a, rfl, rfl, rfl⟩ | ⟨⟨x, hx, hx1⟩, b, rfl, rfl, rfl⟩ | ⟨⟨x, hx, hx1⟩, b, b1, rfl, rfl⟩ <;>
  rcases h' with ⟨a', rfl, rfl, rfl⟩ | ⟨⟨x', hx', hx1'⟩, b', rfl, rfl, rfl⟩ | ⟨⟨x', hx', hx1'⟩, b', b1', rfl, rfl⟩
  · exact ⟨rfl, rfl, rfl⟩
  · exact absurd hx1' (a _ hx')
  · exact absurd hx1' (a _ hx')
  · exact absurd hx1 (a' _ hx)
  · exact ⟨rfl, rfl, rfl⟩
  · have := b _ b'; omega
  · exact absurd hx1 (a' _ hx)
  · have := b' _ b; omega
  · rw [b] at b'; cases b'; exact ⟨rfl, rfl, rfl⟩
theorem numOut_one {l : List UInt8} {g n n' p p' : Nat} {e e' : Int} (h : numOut l g n p e) (h' : numOut l g n' p' e') : n = n' ∧ p = p' ∧ e = e' := by
  rcases h with ⟨a, rfl, rfl, rfl⟩ | ⟨a, a1, rfl, rfl, rfl⟩ | ⟨a, a1, a2, rfl, rfl, rfl⟩ <;>
  rcases h' with ⟨b, rfl, hp, rfl⟩ | ⟨b, b1, rfl, hp, rfl⟩ | ⟨b, b1, b2, rfl, rfl, rfl⟩ <;>
  first | exact ⟨rfl, rfl, rfl⟩ | exact ⟨rfl, hp.symm, rfl⟩ | omega
theorem sideOut_one {l : List UInt8} {a n n' p p' : Nat} {e e' : Int} (h : sideOut l a n p e) (h' : sideOut l a n' p' e') : n = n' ∧ p = p' ∧ e = e' := by
  rcases h with ⟨x, rfl, rfl, rfl⟩ | ⟨x, h⟩ <;> rcases h' with ⟨y, rfl, hp, rfl⟩ | ⟨y, h'⟩
  · exact ⟨rfl, hp.symm, rfl⟩
  · omega
  · omega
  · exact numOut_one h h'
theorem headOut_one {l : List UInt8} {c c' : UInt8} {n n' m m' p p' : Nat} {e e' : Int} (h : headOut l c n m p e) (h' : headOut l c' n' m' p' e') : c = c' ∧ n = n' ∧ m = m' ∧ p = p' ∧ e = e' := by
  obtain ⟨c0, p0, e0, hk, h⟩ := h
  obtain ⟨d0, q0, f0, hk', h'⟩ := h'
  obtain ⟨rfl, rfl, rfl⟩ := kindOut_one hk hk'
  rcases h with ⟨z, rfl, rfl, rfl, rfl, rfl⟩ | ⟨z, n1, p1, e1, hs, h⟩ <;> rcases h' with ⟨z', rfl, rfl, rfl, rfl, rfl⟩ | ⟨z', n1', p1', e1', hs', h'⟩
  · exact ⟨rfl, rfl, rfl, rfl, rfl⟩
  · exact absurd z' z
  · exact absurd z z'
  · obtain ⟨rfl, rfl, rfl⟩ := sideOut_one hs hs'
    rcases h with ⟨y, rfl, rfl, rfl, rfl, rfl⟩ | ⟨y, n2, p2, e2, ht, h⟩ <;> rcases h' with ⟨y', rfl, rfl, rfl, rfl, rfl⟩ | ⟨y', n2', p2', e2', ht', h'⟩
    · exact ⟨rfl, rfl, rfl, rfl, rfl⟩
    · exact absurd y' y
    · exact absurd y y'
    · obtain ⟨rfl, rfl, rfl⟩ := sideOut_one ht ht'
      rcases h with ⟨x, rfl, rfl, rfl, rfl, rfl⟩ | ⟨x, rfl, rfl, rfl, rfl, rfl⟩ <;> rcases h' with ⟨x', rfl, rfl, rfl, rfl, rfl⟩ | ⟨x', rfl, rfl, rfl, rfl, rfl⟩
      · exact ⟨rfl, rfl, rfl, rfl, rfl⟩
      · exact absurd x' x
      · exact absurd x x'
      · exact ⟨rfl, rfl, rfl, rfl, rfl⟩
theorem plainOut_one {l : List UInt8} {a n p p' : Nat} {b b' : List UInt8} {e e' : Int} (h : plainOut l a n b p e) (h' : plainOut l a n b' p' e') : b = b' ∧ p = p' ∧ e = e' := by
  rcases h with ⟨x, rfl, rfl, rfl⟩ | ⟨x, rfl, rfl, rfl⟩ <;> rcases h' with ⟨y, rfl, rfl, rfl⟩ | ⟨y, rfl, rfl, rfl⟩
  · exact ⟨rfl, rfl, rfl⟩
  · rw [x] at y; cases y
  · rw [x] at y; cases y
  · exact ⟨rfl, rfl, rfl⟩
theorem packedOut_one {l : List UInt8} {a w h p p' : Nat} {b b' : List UInt8} {e e' : Int} (h1 : packedOut l a w h b p e) (h2 : packedOut l a w h b' p' e') : b = b' ∧ p = p' ∧ e = e' := by
  rcases h1 with ⟨x, rfl, rfl, rfl⟩ | ⟨⟨c, hc, hb⟩, x, rfl, rfl, rfl⟩ | ⟨⟨c, hc, hb⟩, x, rfl, rfl, rfl⟩ <;>
  rcases h2 with ⟨y, rfl, hp, rfl⟩ | ⟨⟨c', hc', hb'⟩, y, rfl, rfl, rfl⟩ | ⟨⟨c', hc', hb'⟩, y, rfl, rfl, rfl⟩
  · exact ⟨rfl, hp.symm, rfl⟩
  · have := x _ hc'; rw [hb'] at this; cases this
  · have := x _ hc'; rw [hb'] at this; cases this
  · have := y _ hc; rw [hb] at this; cases this
  · exact ⟨rfl, rfl, rfl⟩
  · omega
  · have := y _ hc; rw [hb] at this; cases this
  · omega
  · exact ⟨rfl, rfl, rfl⟩
theorem pixOut_one {c : UInt8} {l : List UInt8} {a w h p p' : Nat} {b b' : List UInt8} {e e' : Int} (h1 : pixOut c l a w h b p e) (h2 : pixOut c l a w h b' p' e') : b = b' ∧ p = p' ∧ e = e' := by
  rcases h1 with ⟨x, h1⟩ | ⟨x, h1⟩ <;> rcases h2 with ⟨y, h2⟩ | ⟨y, h2⟩
  · exact plainOut_one h1 h2
  · exact absurd x y
  · exact absurd y x
  · exact packedOut_one h1 h2
theorem readOut_one {l : List UInt8} {n n' m m' q q' : Nat} {b b' : List UInt8} {e e' : Int} (h : readOut l n m b e q) (h' : readOut l n' m' b' e' q') : n = n' ∧ m = m' ∧ b = b' ∧ e = e' ∧ q = q' := by
  obtain ⟨c0, n0, m0, p0, e0, hh, h⟩ := h
  obtain ⟨c0', n0', m0', p0', e0', hh', h'⟩ := h'
  obtain ⟨rfl, rfl, rfl, rfl, rfl⟩ := headOut_one hh hh'
  rcases h with ⟨z, rfl, rfl, rfl, rfl, rfl⟩ | ⟨z, b1, p1, e1, hp, h⟩ <;> rcases h' with ⟨z', rfl, rfl, rfl, rfl, rfl⟩ | ⟨z', b1', p1', e1', hp', h'⟩
  · exact ⟨rfl, rfl, rfl, rfl, rfl⟩
  · exact absurd z' z
  · exact absurd z z'
  · obtain ⟨rfl, rfl, rfl⟩ := pixOut_one hp hp'
    rcases h with ⟨x, rfl, rfl, rfl, rfl, rfl⟩ | ⟨x, rfl, rfl, rfl, rfl, rfl⟩ <;> rcases h' with ⟨x', rfl, rfl, rfl, rfl, rfl⟩ | ⟨x', rfl, rfl, rfl, rfl, rfl⟩
    · exact ⟨rfl, rfl, rfl, rfl, rfl⟩
    · exact absurd x' x
    · exact absurd x x'
    · exact ⟨rfl, rfl, rfl, rfl, rfl⟩

theorem numOut_ok {l : List UInt8} {g n p : Nat} {e : Int} (hg : g ≤ l.length) (h : numOut l g n p e) : p ≤ l.length ∧ (e = 0 → 1 ≤ n ∧ n ≤ 32) ∧ n ≤ 32 := by
  have := numC_le (l.drop g)
  rw [List.length_drop] at this
  rcases h with ⟨a, rfl, rfl, rfl⟩ | ⟨a, a1, rfl, rfl, rfl⟩ | ⟨a, a1, a2, rfl, rfl, rfl⟩
  · exact ⟨hg, fun h => absurd h (lackE_nz _ _), by omega⟩
  · exact ⟨hg, fun h => by omega, by omega⟩
  · exact ⟨by omega, fun _ => ⟨a1, a2⟩, a2⟩
theorem sideOut_ok {l : List UInt8} {a n p : Nat} {e : Int} (ha : a ≤ l.length) (h : sideOut l a n p e) : p ≤ l.length ∧ (e = 0 → 1 ≤ n ∧ n ≤ 32) ∧ n ≤ 32 := by
  rcases h with ⟨x, rfl, rfl, rfl⟩ | ⟨x, h⟩
  · exact ⟨ha, fun h => absurd h (lackE_nz _ _), by omega⟩
  · exact numOut_ok (gapEnd_le l a ha) h
theorem kindOut_ok {l : List UInt8} {c : UInt8} {p : Nat} {e : Int} (h : kindOut l c p e) : e = 0 → p = 2 ∧ 2 ≤ l.length ∧ ((c.toNat : Int) = 49 ∨ (c.toNat : Int) = 52) := by
  intro h0
  rcases h with ⟨a, rfl, rfl, rfl⟩ | ⟨_, b, rfl, rfl, rfl⟩ | ⟨_, b, b1, rfl, rfl⟩
  · exact absurd h0 (lackE_nz _ _)
  · exact absurd h0 (lackE_nz _ _)
  · refine ⟨rfl, ?_, b1⟩
    have := (List.getElem?_eq_some_iff.1 b).1
    omega
theorem headOut_ok {l : List UInt8} {c : UInt8} {n m p : Nat} {e : Int} (h : headOut l c n m p e) (h0 : e = 0) : p ≤ l.length ∧ 1 ≤ n ∧ n ≤ 32 ∧ 1 ≤ m ∧ m ≤ 32 ∧ ((c.toNat : Int) = 49 ∨ (c.toNat : Int) = 52) := by
  obtain ⟨c0, p0, e0, hk, h⟩ := h
  rcases h with ⟨z, rfl, rfl, rfl, rfl, rfl⟩ | ⟨z, n1, p1, e1, hs, h⟩
  · exact absurd h0 z
  · obtain ⟨rfl, k2, k3⟩ := kindOut_ok hk z
    have s1 := sideOut_ok k2 hs
    rcases h with ⟨y, rfl, rfl, rfl, rfl, rfl⟩ | ⟨y, n2, p2, e2, ht, h⟩
    · exact absurd h0 y
    · have s2 := sideOut_ok s1.1 ht
      rcases h with ⟨x, rfl, rfl, rfl, rfl, rfl⟩ | ⟨x, rfl, rfl, rfl, rfl, rfl⟩
      · exact absurd h0 x
      · have q1 := s1.2.1 y
        have q2 := s2.2.1 x
        exact ⟨s2.1, q1.1, q1.2, q2.1, q2.2, k3⟩
end Go.Proofs.YtljfiefobnncaabGreatDoor.Pm

/- readKind, readHead, readPixels. -/
namespace Go.Proofs.YtljfiefobnncaabGreatDoor
open Go.RowKit

set_option maxRecDepth 4000 in
set_option maxHeartbeats 1000000 in
theorem readKind_any (s : ByteArray) (w : World) :
    Calls Tryz.prog 88 #[.string s] w fun e w' => (∃ (c : UInt8) (p : Nat) (r : Int), e = .returned (.tuple #[.int .u8 c.toNat, .int .i64 p, .int .i64 r]) ∧ Pm.kindOut s.data.toList c p r) ∧ w' = w := by
  by_cases h0 : 0 < s.size
  · cases q0 : ((s[0].toNat : Int) != 80)
    · have e0 : (s[0].toNat : Int) = 80 := by simpa using q0
      have K0 := hidr (show ∃ x, s.data.toList[0]? = some x ∧ (x.toNat : Int) = 80 from ⟨_, at_get s 0 h0, e0⟩)
      clear e0
      by_cases h1 : 1 < s.size
      · cases q1 : ((s[1].toNat : Int) != 49)
        · have e1 : (s[1].toNat : Int) = 49 := by simpa using q1
          have E1 := hidr e1
          clear e1
          go_enter Tryz.func88, Tryz.ntmps88
          go_wp2
          go_ret3
          exact ⟨⟨s[1], 2, 0, rfl, .inr (.inr ⟨K0.out, at_get s 1 h1, .inl E1.out, rfl, rfl⟩)⟩, rfl⟩
        · cases q2 : ((s[1].toNat : Int) != 52)
          · have e1 : (s[1].toNat : Int) = 52 := by simpa using q2
            have E1 := hidr e1
            clear e1
            go_enter Tryz.func88, Tryz.ntmps88
            go_wp2
            go_ret3
            exact ⟨⟨s[1], 2, 0, rfl, .inr (.inr ⟨K0.out, at_get s 1 h1, .inr E1.out, rfl, rfl⟩)⟩, rfl⟩
          · have n1 : ¬ (s[1].toNat : Int) = 49 := by simpa using q1
            have n2 : ¬ (s[1].toNat : Int) = 52 := by simpa using q2
            have N := hidr (And.intro n1 n2)
            clear n1 n2
            go_enter Tryz.func88, Tryz.ntmps88
            go_wp2_with (first | (go_at_call 109; refine (wrongAt_any s 1 _).mono ?_; rintro e w' ⟨rfl, rfl⟩))
            go_ret3
            exact ⟨⟨0, 1, _, rfl, .inr (.inl ⟨K0.out, fun x hx => (by rw [at_get s 1 h1] at hx; cases hx; exact N.out), rfl, rfl, by simp⟩)⟩, rfl⟩
      · go_enter Tryz.func88, Tryz.ntmps88
        go_wp2_with (first | (go_at_call 109; refine (wrongAt_any s 1 _).mono ?_; rintro e w' ⟨rfl, rfl⟩))
        go_ret3
        exact ⟨⟨0, 1, _, rfl, .inr (.inl ⟨K0.out, fun x hx => (by rw [at_none s 1 h1] at hx; cases hx), rfl, rfl, by simp⟩)⟩, rfl⟩
    · have n1 : ¬ (s[0].toNat : Int) = 80 := by simpa using q0
      have N := hidr n1
      clear n1
      go_enter Tryz.func88, Tryz.ntmps88
      go_wp2_with (first | (go_at_call 109; refine (wrongAt_any s 0 _).mono ?_; rintro e w' ⟨rfl, rfl⟩))
      go_ret3
      exact ⟨⟨0, 0, _, rfl, .inl ⟨fun x hx => (by rw [at_get s 0 h0] at hx; cases hx; exact N.out), rfl, rfl, by simp⟩⟩, rfl⟩
  · go_enter Tryz.func88, Tryz.ntmps88
    go_wp2_with (first | (go_at_call 109; refine (wrongAt_any s 0 _).mono ?_; rintro e w' ⟨rfl, rfl⟩))
    go_ret3
    exact ⟨⟨0, 0, _, rfl, .inl ⟨fun x hx => (by rw [at_none s 0 h0] at hx; cases hx), rfl, rfl, by simp⟩⟩, rfl⟩
end Go.Proofs.YtljfiefobnncaabGreatDoor

/- readHead, readPixels. -/
namespace Go.Proofs.YtljfiefobnncaabGreatDoor
open Go.RowKit

set_option maxRecDepth 4000 in
set_option maxHeartbeats 1000000 in
theorem readHead_any (s : ByteArray) (hs : s.size ≤ 140737488355328) (w : World) :
    Calls Tryz.prog 60 #[.string s] w fun e w' => (∃ (c : UInt8) (n m p : Nat) (r : Int), e = .returned (.tuple #[.agg #[.int .u8 c.toNat, .int .i64 n, .int .i64 m], .int .i64 p, .int .i64 r]) ∧ Pm.headOut s.data.toList c n m p r) ∧ Below w.heap.size w w' := by
  go_enter Tryz.func60, Tryz.ntmps60
  go_wp2_with fail
  refine (readKind_any s _).mono ?_
  rintro e w1 ⟨⟨c0, p0, e0, rfl, hk⟩, rfl⟩
  by_cases z0 : e0 = 0
  · have k := Pm.kindOut_ok hk z0
    obtain ⟨rfl, k2, k3⟩ := k
    subst z0
    have k2' : 2 ≤ s.size := by simpa using k2
    have K3 := hidr k3
    have HK := hidr hk
    clear k2 k3 hk
    go_wp2_with fail
    refine (readSide_any s 2 k2' hs _).mono ?_
    rintro e w1 ⟨⟨n1, p1, e1, rfl, h1⟩, rfl⟩
    have o1 := Pm.sideOut_ok (by simpa using k2') h1
    have op1 : p1 ≤ s.size := by simpa using o1.1
    have on1 : n1 ≤ 32 := o1.2.2
    have H1 := hidr h1
    clear h1 o1
    by_cases z1 : e1 = 0
    · subst z1
      go_wp2_with fail
      refine (readSide_any s p1 op1 hs _).mono ?_
      rintro e w1 ⟨⟨n2, p2, e2, rfl, h2⟩, rfl⟩
      have H2 := hidr h2
      clear h2
      by_cases z2 : e2 = 0
      · subst z2
        go_wp2
        refine bodyPost_ret (v := .tuple #[.agg #[.int .u8 c0.toNat, .int .i64 n1, .int .i64 n2], .int .i64 p2, .int .i64 0]) (by simp [results, Tryz.results60, go_sem]) rfl ?_
        exact ⟨⟨c0, n1, n2, p2, 0, rfl, c0, 2, 0, HK.out, .inr ⟨rfl, n1, p1, 0, H1.out, .inr ⟨rfl, n2, p2, 0, H2.out, .inr ⟨rfl, rfl, rfl, rfl, rfl, rfl⟩⟩⟩⟩, (Below.refl _ _).alloc (Nat.le_refl _) _⟩
      · have b2 : (e2 != 0) = true := bne_iff_ne.2 z2
        go_wp2
        refine bodyPost_ret (v := .tuple #[.agg #[.int .u8 0, .int .i64 0, .int .i64 0], .int .i64 p2, .int .i64 e2]) (by simp [results, Tryz.results60, go_sem]) rfl ?_
        exact ⟨⟨0, 0, 0, p2, e2, rfl, c0, 2, 0, HK.out, .inr ⟨rfl, n1, p1, 0, H1.out, .inr ⟨rfl, n2, p2, e2, H2.out, .inl ⟨z2, rfl, rfl, rfl, rfl, rfl⟩⟩⟩⟩, (Below.refl _ _).alloc (Nat.le_refl _) _⟩
    · have b1 : (e1 != 0) = true := bne_iff_ne.2 z1
      go_wp2
      refine bodyPost_ret (v := .tuple #[.agg #[.int .u8 0, .int .i64 0, .int .i64 0], .int .i64 p1, .int .i64 e1]) (by simp [results, Tryz.results60, go_sem]) rfl ?_
      exact ⟨⟨0, 0, 0, p1, e1, rfl, c0, 2, 0, HK.out, .inr ⟨rfl, n1, p1, e1, H1.out, .inl ⟨z1, rfl, rfl, rfl, rfl, rfl⟩⟩⟩, (Below.refl _ _).alloc (Nat.le_refl _) _⟩
  · have b0 : (e0 != 0) = true := bne_iff_ne.2 z0
    have HK := hidr hk
    clear hk
    go_wp2
    refine bodyPost_ret (v := .tuple #[.agg #[.int .u8 0, .int .i64 0, .int .i64 0], .int .i64 p0, .int .i64 e0]) (by simp [results, Tryz.results60, go_sem]) rfl ?_
    exact ⟨⟨0, 0, 0, p0, e0, rfl, c0, p0, e0, HK.out, .inl ⟨z0, rfl, rfl, rfl, rfl, rfl⟩⟩, (Below.refl _ _).alloc (Nat.le_refl _) _⟩

set_option maxRecDepth 4000 in
set_option maxHeartbeats 1000000 in
theorem readPixels_any (s : ByteArray) (a : Nat) (c : UInt8) (W H : Nat) (ha : a ≤ s.size) (hs : s.size ≤ 140737488355328) (w1 : 1 ≤ W) (w2 : W ≤ 32) (h1 : 1 ≤ H) (h2 : H ≤ 32) (w : World) :
    Calls Tryz.prog 61 #[.string s, .int .i64 a, .agg #[.int .u8 c.toNat, .int .i64 W, .int .i64 H]] w fun e w' => (∃ (bits : List UInt8) (p : Nat) (r : Int), e = .returned (.tuple #[.string ⟨bits.toArray⟩, .int .i64 p, .int .i64 r]) ∧ Pm.pixOut c s.data.toList a W H bits p r) ∧ Below w.heap.size w w' := by
  cases q : ((c.toNat : Int) == 49)
  · have n : ¬ (c.toNat : Int) = 49 := by simpa using q
    have N := hidr n
    clear n
    go_enter Tryz.func61, Tryz.ntmps61
    go_wp2_with fail
    refine (readPacked_any s a W H ha hs w1 w2 h1 h2 _).mono ?_
    rintro e w3 ⟨⟨bits, p, r, rfl, ho⟩, hb⟩
    have HO := hidr ho
    clear ho
    go_wp2
    go_ret3
    exact ⟨⟨bits, p, r, rfl, .inr ⟨N.out, HO.out⟩⟩, ((Below.refl _ _).alloc (Nat.le_refl _) _).trans (hb.mono (by simp))⟩
  · have n : (c.toNat : Int) = 49 := by simpa using q
    have N := hidr n
    clear n
    obtain ⟨t, ht⟩ : ∃ t, t = W * H := ⟨_, rfl⟩
    have et : (W : Int) * (H : Int) = (t : Nat) := by rw [ht]; simp
    have t1 : 1 ≤ t := by rw [ht]; exact Nat.mul_le_mul w1 h1
    have t2 : t ≤ 1024 := by rw [ht]; exact Nat.mul_le_mul w2 h2
    have T := hidr ht
    clear ht
    go_enter Tryz.func61, Tryz.ntmps61
    go_wp2_with fail
    refine (readPlain_any s a t ha hs t1 t2 _).mono ?_
    rintro e w3 ⟨⟨bits, p, r, rfl, ho⟩, hb⟩
    have HO := hidr ho
    clear ho
    go_wp2
    go_ret3
    exact ⟨⟨bits, p, r, rfl, .inl ⟨N.out, by rw [← T.out]; exact HO.out⟩⟩, ((Below.refl _ _).alloc (Nat.le_refl _) _).trans (hb.mono (by simp))⟩
end Go.Proofs.YtljfiefobnncaabGreatDoor

/- files.Read, outline.Read, outlineref.Read. -/
namespace Go.Proofs.YtljfiefobnncaabGreatDoor
open Go.RowKit

set_option maxRecDepth 4000 in
set_option maxHeartbeats 1000000 in
theorem filesRead_any (s : ByteArray) (hs : s.size ≤ 140737488355328) (w : World) :
    Calls Tryz.prog 33 #[.string s] w fun e w' => (∃ (n m : Nat) (bits : List UInt8) (r : Int) (q : Nat), e = .returned (.tuple #[.agg #[.int .i64 n, .int .i64 m, .string ⟨bits.toArray⟩], .int .i64 r, .int .i64 q]) ∧ Pm.readOut s.data.toList n m bits r q) ∧ Below w.heap.size w w' := by
  go_enter Tryz.func33, Tryz.ntmps33
  go_wp2_with fail
  refine (readHead_any s hs _).mono ?_
  rintro e w1 ⟨⟨c0, n0, m0, p0, e0, rfl, hh⟩, hb⟩
  have X1 := (Box3.new w (.int .i64 0) (.int .i64 0) (.string ⟨#[]⟩) 30).on hb
  have X1h := hidr X1
  obtain ⟨⟨d0, d1, d2⟩, ⟨f0, f1, f2⟩, hB, hz⟩ := X1
  clear hb
  by_cases z0 : e0 = 0
  · have k := Pm.headOut_ok hh z0
    subst z0
    obtain ⟨k1, k2, k3, k4, k5, k6⟩ := k
    have k1' : p0 ≤ s.size := by simpa using k1
    have K6 := hidr k6
    have HH := hidr hh
    clear k1 k6 hh
    go_wp2_with fail
    refine (readPixels_any s p0 c0 n0 m0 k1' hs k2 k3 k4 k5 _).mono ?_
    rintro e w2 ⟨⟨b1, p1, e1, rfl, hp⟩, hb2⟩
    have X2 := (X1h.out.alloc _).on hb2
    have k1 := (hb2.cell (p := ⟨w1.heap.size, 1, none⟩) (by simp))
    have k2 := (hb2.cell (p := ⟨w1.heap.size, 2, none⟩) (by simp))
    simp at k1 k2
    have HP := hidr hp
    clear hb2 hp d0 d1 d2 f0 f1 f2 hB
    obtain ⟨⟨g0, g1, g2⟩, ⟨j0, j1, j2⟩, hB2, hz3⟩ := X2
    by_cases z1 : e1 = 0
    · subst z1
      go_wp2
      refine bodyPost_ret (v := .tuple #[.agg #[.int .i64 n0, .int .i64 m0, .string ⟨b1.toArray⟩], .int .i64 0, .int .i64 0]) (by simp [results, Tryz.results33, go_sem, g0, g1, g2]) rfl ?_
      exact ⟨⟨n0, m0, b1, 0, 0, rfl, c0, n0, m0, p0, 0, HH.out, .inr ⟨rfl, b1, p1, 0, HP.out, .inr ⟨rfl, rfl, rfl, rfl, rfl, rfl⟩⟩⟩, ((hB2.setCell (by simp) _).setCell (by simp) _).setCell (by simp) _⟩
    · have b1' : (e1 != 0) = true := bne_iff_ne.2 z1
      go_wp2
      refine bodyPost_ret (v := .tuple #[.agg #[.int .i64 0, .int .i64 0, .string ⟨#[]⟩], .int .i64 e1, .int .i64 p1]) (by simp [results, Tryz.results33, go_sem, g0, g1, g2]) rfl ?_
      exact ⟨⟨0, 0, [], e1, p1, rfl, c0, n0, m0, p0, 0, HH.out, .inr ⟨rfl, b1, p1, e1, HP.out, .inl ⟨z1, rfl, rfl, rfl, rfl, rfl⟩⟩⟩, ((hB2.setCell (by simp) _).setCell (by simp) _).setCell (by simp) _⟩
  · have b0 : (e0 != 0) = true := bne_iff_ne.2 z0
    have HH := hidr hh
    clear hh
    go_wp2
    refine bodyPost_ret (v := .tuple #[.agg #[.int .i64 0, .int .i64 0, .string ⟨#[]⟩], .int .i64 e0, .int .i64 p0]) (by simp [results, Tryz.results33, go_sem, d0, d1, d2, hz]) rfl ?_
    exact ⟨⟨0, 0, [], e0, p0, rfl, c0, n0, m0, p0, e0, HH.out, .inl ⟨z0, rfl, rfl, rfl, rfl, rfl⟩⟩, (((hB.setCell (by simp) _).setCell (by simp) _).setCell (by simp) _).alloc (by simp; omega) _⟩
end Go.Proofs.YtljfiefobnncaabGreatDoor

/- outlineref.Read. -/
namespace Go.Proofs.YtljfiefobnncaabGreatDoor
open Go.RowKit

/-- What the two calls of 'side' and the pixels behind them come to, once the two letters are read. -/
theorem tail_out {l : List UInt8} {c : UInt8} (hk : Pm.kindOut l c 2 0) : ∀ {n1 p1 : Nat} {e1 : Int}, Pm.sideOut l 2 n1 p1 e1 →
    (e1 ≠ 0 → Pm.readOut l 0 0 [] e1 p1) ∧
    (e1 = 0 → ∀ {n2 p2 : Nat} {e2 : Int}, Pm.sideOut l p1 n2 p2 e2 →
      (e2 ≠ 0 → Pm.readOut l 0 0 [] e2 p2) ∧
      (e2 = 0 → ∀ {b : List UInt8} {p3 : Nat} {e3 : Int}, Pm.pixOut c l p2 n1 n2 b p3 e3 →
        (e3 ≠ 0 → Pm.readOut l 0 0 [] e3 p3) ∧ (e3 = 0 → Pm.readOut l n1 n2 b 0 0))) := by
  intro n1 p1 e1 h1
  refine ⟨fun z => ⟨0, 0, 0, p1, e1, ⟨c, 2, 0, hk, .inr ⟨rfl, n1, p1, e1, h1, .inl ⟨z, rfl, rfl, rfl, rfl, rfl⟩⟩⟩, .inl ⟨z, rfl, rfl, rfl, rfl, rfl⟩⟩, ?_⟩
  intro z1 n2 p2 e2 h2
  refine ⟨fun z => ⟨0, 0, 0, p2, e2, ⟨c, 2, 0, hk, .inr ⟨rfl, n1, p1, e1, h1, .inr ⟨z1, n2, p2, e2, h2, .inl ⟨z, rfl, rfl, rfl, rfl, rfl⟩⟩⟩⟩, .inl ⟨z, rfl, rfl, rfl, rfl, rfl⟩⟩, ?_⟩
  intro z2 b p3 e3 h3
  have hh : Pm.headOut l c n1 n2 p2 0 := ⟨c, 2, 0, hk, .inr ⟨rfl, n1, p1, e1, h1, .inr ⟨z1, n2, p2, e2, h2, .inr ⟨z2, rfl, rfl, rfl, rfl, rfl⟩⟩⟩⟩
  exact ⟨fun z => ⟨c, n1, n2, p2, 0, hh, .inr ⟨rfl, b, p3, e3, h3, .inl ⟨z, rfl, rfl, rfl, rfl, rfl⟩⟩⟩, fun z => ⟨c, n1, n2, p2, 0, hh, .inr ⟨rfl, b, p3, e3, h3, .inr ⟨z, rfl, rfl, rfl, rfl, rfl⟩⟩⟩⟩
theorem kind_bad {l : List UInt8} {c : UInt8} {p : Nat} {e : Int} (hk : Pm.kindOut l c p e) (z : e ≠ 0) : Pm.readOut l 0 0 [] e p :=
  ⟨0, 0, 0, p, e, ⟨c, p, e, hk, .inl ⟨z, rfl, rfl, rfl, rfl, rfl⟩⟩, .inl ⟨z, rfl, rfl, rfl, rfl, rfl⟩⟩

theorem Below.two (w : World) (o1 o2 : Obj) : Below w.heap.size w ((w.alloc o1).alloc o2) := ((Below.refl _ _).alloc (Nat.le_refl _) _).alloc (by simp) _

set_option maxRecDepth 4000 in
set_option maxHeartbeats 2000000 in
theorem refRead_any (s : ByteArray) (hs : s.size ≤ 140737488355328) (w : World) :
    Calls Tryz.prog 16 #[.string s] w fun e w' => (∃ (n m : Nat) (bits : List UInt8) (r : Int) (q : Nat), e = .returned (.tuple #[.agg #[.int .i64 n, .int .i64 m, .string ⟨bits.toArray⟩], .int .i64 r, .int .i64 q]) ∧ Pm.readOut s.data.toList n m bits r q) ∧ Below w.heap.size w w' := by
  by_cases h0 : 0 < s.size
  · cases q0 : ((s[0].toNat : Int) != 80)
    · have e0 : (s[0].toNat : Int) = 80 := by simpa using q0
      have K0 := hidr (show ∃ x, s.data.toList[0]? = some x ∧ (x.toNat : Int) = 80 from ⟨_, at_get s 0 h0, e0⟩)
      clear e0
      by_cases h1 : 1 < s.size
      · by_cases q12 : (s[1].toNat : Int) = 49 ∨ (s[1].toNat : Int) = 52
        · rcases q12 with q12 | q12
          · have q1 : ((s[1].toNat : Int) != 49) = false := by simp [q12]
            have q3 : ((s[1].toNat : Int) == 49) = true := by simp [q12]
            have E := hidr q12
            have KK := hidr (show Pm.kindOut s.data.toList s[1] 2 0 from .inr (.inr ⟨K0.out, at_get s 1 h1, .inl q12, rfl, rfl⟩))
            clear q12
            go_enter Tryz.func16, Tryz.ntmps16
            go_wp2_with fail
            refine (at_in s 0 h0 _).mono ?_
            rintro e w1 ⟨rfl, rfl⟩
            go_wp2_with fail
            refine (at_in s 1 h1 _).mono ?_
            rintro e w1 ⟨rfl, rfl⟩
            go_wp2_with fail
            refine (side_any s 2 (by omega) hs _).mono ?_
            rintro e w1 ⟨⟨n1, p1, e1, g1, rfl, n1', p1', hs1, hr1⟩, rfl⟩
            have TT := hidr (tail_out KK.out hs1)
            have o1 := Pm.sideOut_ok (by simp; omega) hs1
            clear hs1
            rcases hr1 with ⟨rfl, rfl, rfl, rfl⟩ | ⟨z1, rfl, rfl, rfl⟩
            · have b1 := o1.2.1 rfl
              have op1 : p1 ≤ s.size := by simpa using o1.1
              clear o1
              go_wp2_with fail
              refine (side_any s p1 op1 hs _).mono ?_
              rintro e w1 ⟨⟨n2, p2, e2, g2, rfl, n2', p2', hs2, hr2⟩, rfl⟩
              have T2 := hidr (TT.out.2 (by trivial) hs2)
              have o2 := Pm.sideOut_ok (by simpa using op1) hs2
              clear hs2
              rcases hr2 with ⟨rfl, rfl, rfl, rfl⟩ | ⟨z2, rfl, rfl, rfl⟩
              · have b2 := o2.2.1 rfl
                have op2 : p2 ≤ s.size := by simpa using o2.1
                clear o2
                obtain ⟨t, ht⟩ : ∃ t, t = n1 * n2 := ⟨_, rfl⟩
                have et : (n1 : Int) * (n2 : Int) = (t : Nat) := by rw [ht]; simp
                have t1 : 1 ≤ t := by rw [ht]; exact Nat.mul_le_mul b1.1 b2.1
                have t2 : t ≤ 1024 := by rw [ht]; exact Nat.mul_le_mul b1.2 b2.2
                have T := hidr ht
                clear ht
                go_wp2_with fail
                refine (plain_any s p2 t op2 hs t1 t2 _).mono ?_
                rintro e w1 ⟨⟨b3, e3, g3, rfl, p3, hs3, hr3⟩, rfl⟩
                have T3 := hidr (T2.out.2 (by trivial) (.inl ⟨E.out, by rw [← T.out]; exact hs3⟩))
                clear hs3
                rcases hr3 with ⟨rfl, rfl⟩ | ⟨z3, rfl⟩
                · go_wp2
                  refine bodyPost_ret (v := .tuple #[.agg #[.int .i64 n1, .int .i64 n2, .string ⟨b3.toArray⟩], .int .i64 0, .int .i64 0]) (by simp [results, Tryz.results16, go_sem]) rfl ?_
                  exact ⟨⟨n1, n2, b3, 0, 0, rfl, T3.out.2 (by trivial)⟩, Below.two _ _ _⟩
                · have q : (e3 != 0) = true := bne_iff_ne.2 z3
                  go_wp2
                  refine bodyPost_ret (v := .tuple #[.agg #[.int .i64 0, .int .i64 0, .string ⟨#[]⟩], .int .i64 e3, .int .i64 g3]) (by simp [results, Tryz.results16, go_sem]) rfl ?_
                  exact ⟨⟨0, 0, [], e3, g3, rfl, T3.out.1 z3⟩, Below.two _ _ _⟩
              · have q : (e2 != 0) = true := bne_iff_ne.2 z2
                go_wp2
                refine bodyPost_ret (v := .tuple #[.agg #[.int .i64 0, .int .i64 0, .string ⟨#[]⟩], .int .i64 e2, .int .i64 g2]) (by simp [results, Tryz.results16, go_sem]) rfl ?_
                exact ⟨⟨0, 0, [], e2, g2, rfl, T2.out.1 z2⟩, Below.two _ _ _⟩
            · have q : (e1 != 0) = true := bne_iff_ne.2 z1
              go_wp2
              refine bodyPost_ret (v := .tuple #[.agg #[.int .i64 0, .int .i64 0, .string ⟨#[]⟩], .int .i64 e1, .int .i64 g1]) (by simp [results, Tryz.results16, go_sem]) rfl ?_
              exact ⟨⟨0, 0, [], e1, g1, rfl, TT.out.1 z1⟩, Below.two _ _ _⟩
          · have q1 : ((s[1].toNat : Int) != 49) = true := by simp [q12]
            have q2 : ((s[1].toNat : Int) != 52) = false := by simp [q12]
            have q3 : ((s[1].toNat : Int) == 49) = false := by simp [q12]
            have E := hidr (show ¬ (s[1].toNat : Int) = 49 by omega)
            have KK := hidr (show Pm.kindOut s.data.toList s[1] 2 0 from .inr (.inr ⟨K0.out, at_get s 1 h1, .inr q12, rfl, rfl⟩))
            clear q12
            go_enter Tryz.func16, Tryz.ntmps16
            go_wp2_with fail
            refine (at_in s 0 h0 _).mono ?_
            rintro e w1 ⟨rfl, rfl⟩
            go_wp2_with fail
            refine (at_in s 1 h1 _).mono ?_
            rintro e w1 ⟨rfl, rfl⟩
            go_wp2_with fail
            refine (side_any s 2 (by omega) hs _).mono ?_
            rintro e w1 ⟨⟨n1, p1, e1, g1, rfl, n1', p1', hs1, hr1⟩, rfl⟩
            have TT := hidr (tail_out KK.out hs1)
            have o1 := Pm.sideOut_ok (by simp; omega) hs1
            clear hs1
            rcases hr1 with ⟨rfl, rfl, rfl, rfl⟩ | ⟨z1, rfl, rfl, rfl⟩
            · have b1 := o1.2.1 rfl
              have op1 : p1 ≤ s.size := by simpa using o1.1
              clear o1
              go_wp2_with fail
              refine (side_any s p1 op1 hs _).mono ?_
              rintro e w1 ⟨⟨n2, p2, e2, g2, rfl, n2', p2', hs2, hr2⟩, rfl⟩
              have T2 := hidr (TT.out.2 (by trivial) hs2)
              have o2 := Pm.sideOut_ok (by simpa using op1) hs2
              clear hs2
              rcases hr2 with ⟨rfl, rfl, rfl, rfl⟩ | ⟨z2, rfl, rfl, rfl⟩
              · have b2 := o2.2.1 rfl
                have op2 : p2 ≤ s.size := by simpa using o2.1
                clear o2
                go_wp2_with fail
                refine (packed_any s p2 n1 n2 op2 hs b1.1 b1.2 b2.1 b2.2 _).mono ?_
                rintro e w1 ⟨⟨b3, e3, g3, rfl, p3, hs3, hr3⟩, rfl⟩
                have T3 := hidr (T2.out.2 (by trivial) (.inr ⟨E.out, hs3⟩))
                clear hs3
                rcases hr3 with ⟨rfl, rfl⟩ | ⟨z3, rfl⟩
                · go_wp2
                  refine bodyPost_ret (v := .tuple #[.agg #[.int .i64 n1, .int .i64 n2, .string ⟨b3.toArray⟩], .int .i64 0, .int .i64 0]) (by simp [results, Tryz.results16, go_sem]) rfl ?_
                  exact ⟨⟨n1, n2, b3, 0, 0, rfl, T3.out.2 (by trivial)⟩, Below.two _ _ _⟩
                · have q : (e3 != 0) = true := bne_iff_ne.2 z3
                  go_wp2
                  refine bodyPost_ret (v := .tuple #[.agg #[.int .i64 0, .int .i64 0, .string ⟨#[]⟩], .int .i64 e3, .int .i64 g3]) (by simp [results, Tryz.results16, go_sem]) rfl ?_
                  exact ⟨⟨0, 0, [], e3, g3, rfl, T3.out.1 z3⟩, Below.two _ _ _⟩
              · have q : (e2 != 0) = true := bne_iff_ne.2 z2
                go_wp2
                refine bodyPost_ret (v := .tuple #[.agg #[.int .i64 0, .int .i64 0, .string ⟨#[]⟩], .int .i64 e2, .int .i64 g2]) (by simp [results, Tryz.results16, go_sem]) rfl ?_
                exact ⟨⟨0, 0, [], e2, g2, rfl, T2.out.1 z2⟩, Below.two _ _ _⟩
            · have q : (e1 != 0) = true := bne_iff_ne.2 z1
              go_wp2
              refine bodyPost_ret (v := .tuple #[.agg #[.int .i64 0, .int .i64 0, .string ⟨#[]⟩], .int .i64 e1, .int .i64 g1]) (by simp [results, Tryz.results16, go_sem]) rfl ?_
              exact ⟨⟨0, 0, [], e1, g1, rfl, TT.out.1 z1⟩, Below.two _ _ _⟩
        · have n1 : ¬ (s[1].toNat : Int) = 49 := fun h => q12 (.inl h)
          have n2 : ¬ (s[1].toNat : Int) = 52 := fun h => q12 (.inr h)
          have q1 : ((s[1].toNat : Int) != 49) = true := bne_iff_ne.2 n1
          have q2 : ((s[1].toNat : Int) != 52) = true := bne_iff_ne.2 n2
          have N := hidr (And.intro n1 n2)
          clear n1 n2 q12
          go_enter Tryz.func16, Tryz.ntmps16
          go_wp2_with fail
          refine (at_in s 0 h0 _).mono ?_
          rintro e w1 ⟨rfl, rfl⟩
          go_wp2_with fail
          refine (at_in s 1 h1 _).mono ?_
          rintro e w1 ⟨rfl, rfl⟩
          go_wp2_with (first | (go_at_call 35; refine (lacks_any s 1 (by omega) _).mono ?_; rintro e w' ⟨rfl, rfl⟩))
          refine bodyPost_ret (v := .tuple #[.agg #[.int .i64 0, .int .i64 0, .string ⟨#[]⟩], .int .i64 (Pm.lackE s.size 1), .int .i64 1]) (by simp [results, Tryz.results16, go_sem]) rfl ?_
          exact ⟨⟨0, 0, [], _, 1, rfl, kind_bad (c := 0) (.inr (.inl ⟨K0.out, fun x hx => (by rw [at_get s 1 h1] at hx; cases hx; exact N.out), rfl, rfl, by simp⟩)) (lackE_ne _ _)⟩, Below.two _ _ _⟩
      · go_enter Tryz.func16, Tryz.ntmps16
        go_wp2_with fail
        refine (at_in s 0 h0 _).mono ?_
        rintro e w1 ⟨rfl, rfl⟩
        go_wp2_with fail
        refine (at_out s 1 h1 _).mono ?_
        rintro e w1 ⟨rfl, rfl⟩
        go_wp2_with (first | (go_at_call 35; refine (lacks_any s 1 (by omega) _).mono ?_; rintro e w' ⟨rfl, rfl⟩))
        refine bodyPost_ret (v := .tuple #[.agg #[.int .i64 0, .int .i64 0, .string ⟨#[]⟩], .int .i64 (Pm.lackE s.size 1), .int .i64 1]) (by simp [results, Tryz.results16, go_sem]) rfl ?_
        exact ⟨⟨0, 0, [], _, 1, rfl, kind_bad (c := 0) (.inr (.inl ⟨K0.out, fun x hx => (by rw [at_none s 1 h1] at hx; cases hx), rfl, rfl, by simp⟩)) (lackE_ne _ _)⟩, Below.two _ _ _⟩
    · have n1 : ¬ (s[0].toNat : Int) = 80 := by simpa using q0
      have N := hidr n1
      clear n1
      go_enter Tryz.func16, Tryz.ntmps16
      go_wp2_with (first | (go_at_call 34; refine (at_in s 0 h0 _).mono ?_; rintro e w' ⟨rfl, rfl⟩) | (go_at_call 35; refine (lacks_any s 0 (by omega) _).mono ?_; rintro e w' ⟨rfl, rfl⟩))
      refine bodyPost_ret (v := .tuple #[.agg #[.int .i64 0, .int .i64 0, .string ⟨#[]⟩], .int .i64 (Pm.lackE s.size 0), .int .i64 0]) (by simp [results, Tryz.results16, go_sem]) rfl ?_
      exact ⟨⟨0, 0, [], _, 0, rfl, kind_bad (c := 0) (.inl ⟨fun x hx => (by rw [at_get s 0 h0] at hx; cases hx; exact N.out), rfl, rfl, by simp⟩) (lackE_ne _ _)⟩, Below.two _ _ _⟩
  · go_enter Tryz.func16, Tryz.ntmps16
    go_wp2_with (first | (go_at_call 34; refine (at_out s 0 h0 _).mono ?_; rintro e w' ⟨rfl, rfl⟩) | (go_at_call 35; refine (lacks_any s 0 (by omega) _).mono ?_; rintro e w' ⟨rfl, rfl⟩))
    refine bodyPost_ret (v := .tuple #[.agg #[.int .i64 0, .int .i64 0, .string ⟨#[]⟩], .int .i64 (Pm.lackE s.size 0), .int .i64 0]) (by simp [results, Tryz.results16, go_sem]) rfl ?_
    exact ⟨⟨0, 0, [], _, 0, rfl, kind_bad (c := 0) (.inl ⟨fun x hx => (by rw [at_none s 0 h0] at hx; cases hx), rfl, rfl, by simp⟩) (lackE_ne _ _)⟩, Below.two _ _ _⟩
end Go.Proofs.YtljfiefobnncaabGreatDoor

/- outline.Read and the law Reads, out of the contracts. -/
namespace Go.Proofs.YtljfiefobnncaabGreatDoor
open Go.RowKit

set_option maxRecDepth 4000 in
set_option maxHeartbeats 1000000 in
theorem outlineRead_any (s : ByteArray) (hs : s.size ≤ 140737488355328) (w : World) :
    Calls Tryz.prog 15 #[.string s] w fun e w' => (∃ (n m : Nat) (bits : List UInt8) (r : Int) (q : Nat), e = .returned (.tuple #[.agg #[.int .i64 n, .int .i64 m, .string ⟨bits.toArray⟩], .int .i64 r, .int .i64 q]) ∧ Pm.readOut s.data.toList n m bits r q) ∧ Below w.heap.size w w' := by
  go_enter Tryz.func15, Tryz.ntmps15
  go_wp2_with fail
  refine (filesRead_any s hs _).mono ?_
  rintro e w1 ⟨⟨n, m, bits, r, q, rfl, ho⟩, hb⟩
  have X1 := (Box3.new w (.int .i64 0) (.int .i64 0) (.string ⟨#[]⟩) 30).on hb
  obtain ⟨⟨d0, d1, d2⟩, ⟨f0, f1, f2⟩, hB, hz⟩ := X1
  have HO := hidr ho
  clear hb ho
  go_wp2
  refine bodyPost_ret (v := .tuple #[.agg #[.int .i64 n, .int .i64 m, .string ⟨bits.toArray⟩], .int .i64 r, .int .i64 q]) (by simp [results, Tryz.results15, go_sem, d0, d1, d2]) rfl ?_
  exact ⟨⟨n, m, bits, r, q, rfl, HO.out⟩, ((hB.setCell (by simp) _).setCell (by simp) _).setCell (by simp) _⟩

set_option maxRecDepth 4000 in
set_option maxHeartbeats 1000000 in
theorem reads_calls (s : ByteArray) (hs : s.size ≤ 140737488355328) (w : World) :
    Calls Tryz.prog 6 #[.string s] w fun e w' => e = .returned (.bool true) ∧ Below w.heap.size w w' := by
  go_enter Tryz.func6, Tryz.ntmps6
  go_wp2_with fail
  refine (outlineRead_any s hs _).mono ?_
  rintro e w1 ⟨⟨n, m, bits, r, q, rfl, ho⟩, hb⟩
  have HO := hidr ho
  clear ho
  go_wp2_with fail
  refine (refRead_any s hs _).mono ?_
  rintro e w2 ⟨⟨n', m', bits', r', q', rfl, ho'⟩, hb2⟩
  obtain ⟨rfl, rfl, rfl, rfl, rfl⟩ := Pm.readOut_one HO.out ho'
  have X2 := (Box3.new w1 (.int .i64 n) (.int .i64 m) (.string ⟨bits.toArray⟩) 30).on hb2
  obtain ⟨⟨d0, d1, d2⟩, -, hB, hz⟩ := X2
  have hB0 : Below w.heap.size w w2 := hb.trans (hB.mono hb.size)
  clear hb hb2 ho'
  go_wp2
  go_ret
  exact ⟨rfl, hB0.alloc (by have := hB0.size; omega) _⟩
end Go.Proofs.YtljfiefobnncaabGreatDoor
