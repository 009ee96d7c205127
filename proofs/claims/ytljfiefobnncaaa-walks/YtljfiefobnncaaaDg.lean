/- outlineref.Twice. -/
import Derived.Test.YtljfiefobnncaaaDf
namespace Go.Proofs.Ytljfiefobnncaaa
open Go.RowKit

set_option maxRecDepth 4000 in
set_option maxHeartbeats 2000000 in
theorem refTwice_big (g n cap : Nat) (l : List (Int × Int)) (hn : n = l.length) (h0 : 0 < n) (hs : Qm.Small l) (hn2 : n ≤ 140737488355328) (w : World) (hP : PtsAt g l w) :
    Calls Try.prog 56 #[.slice (some ⟨g, 0, none⟩) n cap] w fun e w' => e = .returned (.int .i64 (Qm.twiceOf l)) ∧ Below w.heap.size w w' := by
  have HP := hid hP
  have hg := hP.1
  have HN := hid hn
  have e0 : ((n : Int) == 0) = false := by simp; omega
  clear hP hn
  go_enter Try.func56, Try.ntmps56
  go_wp2
  go_loopw [3, 4] (fun sm i wr => ∃ k : Nat, k ≤ n ∧ i = .int .i64 k ∧ sm = .int .i64 (Qm.fsum l k) ∧ Below w.heap.size w wr) (fun _ i _ => n - (intOf i).toNat)
  case atStart => exact ⟨0, by omega, rfl, rfl, Below.refl _ _⟩
  case round =>
    obtain ⟨k, hk, rfl, rfl, hb⟩ := hrel
    have HB := hid hb
    have ts := Qm.fsum_small hs k
    by_cases hlt : k < n
    · obtain ⟨r, hr⟩ : ∃ r, r = (k + 1) % n := ⟨_, rfl⟩
      have hrn : r < n := by rw [hr]; exact Nat.mod_lt _ h0
      have er : ((k : Int) + 1) % (n : Int) = (r : Nat) := by rw [hr]; simp
      obtain ⟨r0, r1⟩ := (HP.out.on hb hg).2 k (by have := HN.out; omega)
      obtain ⟨q0, q1⟩ := (HP.out.on hb hg).2 r (by have := HN.out; omega)
      have sp := hs.at k
      have sq := hs.at r
      have E2 : Hid (Qm.fsum l (k + 1) = Qm.fsum l k + ((l.getD k (0, 0)).2 * (l.getD r (0, 0)).1 - (l.getD k (0, 0)).1 * (l.getD r (0, 0)).2)) := by rw [hr, HN.out]; rfl
      have m1 := Qm.mul_small sp.2.2.1 sp.2.2.2 sq.1 sq.2.1
      have m2 := Qm.mul_small sp.1 sp.2.1 sq.2.2.1 sq.2.2.2
      obtain ⟨⟨pa, pb⟩, hpp⟩ : ∃ p, p = l.getD k (0, 0) := ⟨_, rfl⟩
      obtain ⟨⟨qa, qb⟩, hqq⟩ : ∃ p, p = l.getD r (0, 0) := ⟨_, rfl⟩
      rw [← hpp] at r0 r1 m1 m2 sp E2
      rw [← hqq] at q0 q1 m1 m2 sq E2
      dsimp only at r0 r1 q0 q1 m1 m2 sp sq
      obtain ⟨u, hu⟩ : ∃ u, pb * qa = u := ⟨_, rfl⟩
      obtain ⟨z, hzz⟩ : ∃ z, pa * qb = z := ⟨_, rfl⟩
      rw [hu] at m1
      rw [hzz] at m2
      have hz := HB.out.size
      have b1 : (0 : Int) ≤ (r : Nat) := by omega
      have b2 : ((r : Nat) : Int) < (n : Nat) := by omega
      have hg2 : g < wr.heap.size := by omega
      clear hb hpp hqq hr
      go_wp2
      go_roundw
      case rel => exact ⟨k + 1, by omega, by go_num, by rw [E2.out]; dsimp only; rw [hu, hzz]; congr 1; omega, (HB.out.alloc hz _).alloc (by simp; omega) _⟩
      case measure => simp [intOf]; omega
    · have ek : k = n := by omega
      go_wp2
      go_ret
      exact ⟨ret_int (by rw [ek, HN.out]; exact (Qm.twiceOf_fsum l).symm), HB.out⟩

theorem refTwice_any (g n cap : Nat) (l : List (Int × Int)) (hn : n = l.length) (h0 : 0 < n) (hs : Qm.Small l) (hn2 : n ≤ 4356) (w : World) (hP : PtsAt g l w) :
    Calls Try.prog 56 #[.slice (some ⟨g, 0, none⟩) n cap] w fun e w' => e = .returned (.int .i64 (Qm.twiceOf l)) ∧ Below w.heap.size w w' :=
  refTwice_big g n cap l hn h0 hs (by omega) w hP

end Go.Proofs.Ytljfiefobnncaaa
