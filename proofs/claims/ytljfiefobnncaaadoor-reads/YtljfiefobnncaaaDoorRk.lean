/- readHead, readPixels. -/
import Derived.Test.YtljfiefobnncaaaDoorRj
namespace Go.Proofs.YtljfiefobnncaaaDoor
open Go.RowKit

set_option maxRecDepth 4000 in
set_option maxHeartbeats 1000000 in
theorem readHead_any (s : ByteArray) (hs : s.size ≤ 140737488355328) (w : World) :
    Calls Tryd.prog 38 #[.string s] w fun e w' => (∃ (c : UInt8) (n m p : Nat) (r : Int), e = .returned (.tuple #[.agg #[.int .u8 c.toNat, .int .i64 n, .int .i64 m], .int .i64 p, .int .i64 r]) ∧ Pm.headOut s.data.toList c n m p r) ∧ Below w.heap.size w w' := by
  go_enter Tryd.func38, Tryd.ntmps38
  go_wp2_with fail
  refine (readKind_any s _).mono ?_
  rintro e w1 ⟨⟨c0, p0, e0, rfl, hk⟩, rfl⟩
  by_cases z0 : e0 = 0
  · have k := Pm.kindOut_ok hk z0
    obtain ⟨rfl, k2, k3⟩ := k
    subst z0
    have k2' : 2 ≤ s.size := by simpa using k2
    have K3 := hidr k3
    have HK := hidr hk
    clear k2 k3 hk
    go_wp2_with fail
    refine (readSide_any s 2 k2' hs _).mono ?_
    rintro e w1 ⟨⟨n1, p1, e1, rfl, h1⟩, rfl⟩
    have o1 := Pm.sideOut_ok (by simpa using k2') h1
    have op1 : p1 ≤ s.size := by simpa using o1.1
    have on1 : n1 ≤ 32 := o1.2.2
    have H1 := hidr h1
    clear h1 o1
    by_cases z1 : e1 = 0
    · subst z1
      go_wp2_with fail
      refine (readSide_any s p1 op1 hs _).mono ?_
      rintro e w1 ⟨⟨n2, p2, e2, rfl, h2⟩, rfl⟩
      have H2 := hidr h2
      clear h2
      by_cases z2 : e2 = 0
      · subst z2
        go_wp2
        refine bodyPost_ret (v := .tuple #[.agg #[.int .u8 c0.toNat, .int .i64 n1, .int .i64 n2], .int .i64 p2, .int .i64 0]) (by simp [results, Tryd.results38, go_sem]) rfl ?_
        exact ⟨⟨c0, n1, n2, p2, 0, rfl, c0, 2, 0, HK.out, .inr ⟨rfl, n1, p1, 0, H1.out, .inr ⟨rfl, n2, p2, 0, H2.out, .inr ⟨rfl, rfl, rfl, rfl, rfl, rfl⟩⟩⟩⟩, (Below.refl _ _).alloc (Nat.le_refl _) _⟩
      · have b2 : (e2 != 0) = true := bne_iff_ne.2 z2
        go_wp2
        refine bodyPost_ret (v := .tuple #[.agg #[.int .u8 0, .int .i64 0, .int .i64 0], .int .i64 p2, .int .i64 e2]) (by simp [results, Tryd.results38, go_sem]) rfl ?_
        exact ⟨⟨0, 0, 0, p2, e2, rfl, c0, 2, 0, HK.out, .inr ⟨rfl, n1, p1, 0, H1.out, .inr ⟨rfl, n2, p2, e2, H2.out, .inl ⟨z2, rfl, rfl, rfl, rfl, rfl⟩⟩⟩⟩, (Below.refl _ _).alloc (Nat.le_refl _) _⟩
    · have b1 : (e1 != 0) = true := bne_iff_ne.2 z1
      go_wp2
      refine bodyPost_ret (v := .tuple #[.agg #[.int .u8 0, .int .i64 0, .int .i64 0], .int .i64 p1, .int .i64 e1]) (by simp [results, Tryd.results38, go_sem]) rfl ?_
      exact ⟨⟨0, 0, 0, p1, e1, rfl, c0, 2, 0, HK.out, .inr ⟨rfl, n1, p1, e1, H1.out, .inl ⟨z1, rfl, rfl, rfl, rfl, rfl⟩⟩⟩, (Below.refl _ _).alloc (Nat.le_refl _) _⟩
  · have b0 : (e0 != 0) = true := bne_iff_ne.2 z0
    have HK := hidr hk
    clear hk
    go_wp2
    refine bodyPost_ret (v := .tuple #[.agg #[.int .u8 0, .int .i64 0, .int .i64 0], .int .i64 p0, .int .i64 e0]) (by simp [results, Tryd.results38, go_sem]) rfl ?_
    exact ⟨⟨0, 0, 0, p0, e0, rfl, c0, p0, e0, HK.out, .inl ⟨z0, rfl, rfl, rfl, rfl, rfl⟩⟩, (Below.refl _ _).alloc (Nat.le_refl _) _⟩

set_option maxRecDepth 4000 in
set_option maxHeartbeats 1000000 in
theorem readPixels_any (s : ByteArray) (a : Nat) (c : UInt8) (W H : Nat) (ha : a ≤ s.size) (hs : s.size ≤ 140737488355328) (w1 : 1 ≤ W) (w2 : W ≤ 32) (h1 : 1 ≤ H) (h2 : H ≤ 32) (w : World) :
    Calls Tryd.prog 39 #[.string s, .int .i64 a, .agg #[.int .u8 c.toNat, .int .i64 W, .int .i64 H]] w fun e w' => (∃ (bits : List UInt8) (p : Nat) (r : Int), e = .returned (.tuple #[.string ⟨bits.toArray⟩, .int .i64 p, .int .i64 r]) ∧ Pm.pixOut c s.data.toList a W H bits p r) ∧ Below w.heap.size w w' := by
  cases q : ((c.toNat : Int) == 49)
  · have n : ¬ (c.toNat : Int) = 49 := by simpa using q
    have N := hidr n
    clear n
    go_enter Tryd.func39, Tryd.ntmps39
    go_wp2_with fail
    refine (readPacked_any s a W H ha hs w1 w2 h1 h2 _).mono ?_
    rintro e w3 ⟨⟨bits, p, r, rfl, ho⟩, hb⟩
    have HO := hidr ho
    clear ho
    go_wp2
    go_ret3
    exact ⟨⟨bits, p, r, rfl, .inr ⟨N.out, HO.out⟩⟩, ((Below.refl _ _).alloc (Nat.le_refl _) _).trans (hb.mono (by simp))⟩
  · have n : (c.toNat : Int) = 49 := by simpa using q
    have N := hidr n
    clear n
    obtain ⟨t, ht⟩ : ∃ t, t = W * H := ⟨_, rfl⟩
    have et : (W : Int) * (H : Int) = (t : Nat) := by rw [ht]; simp
    have t1 : 1 ≤ t := by rw [ht]; exact Nat.mul_le_mul w1 h1
    have t2 : t ≤ 1024 := by rw [ht]; exact Nat.mul_le_mul w2 h2
    have T := hidr ht
    clear ht
    go_enter Tryd.func39, Tryd.ntmps39
    go_wp2_with fail
    refine (readPlain_any s a t ha hs t1 t2 _).mono ?_
    rintro e w3 ⟨⟨bits, p, r, rfl, ho⟩, hb⟩
    have HO := hidr ho
    clear ho
    go_wp2
    go_ret3
    exact ⟨⟨bits, p, r, rfl, .inl ⟨N.out, by rw [← T.out]; exact HO.out⟩⟩, ((Below.refl _ _).alloc (Nat.le_refl _) _).trans (hb.mono (by simp))⟩
end Go.Proofs.YtljfiefobnncaaaDoor
