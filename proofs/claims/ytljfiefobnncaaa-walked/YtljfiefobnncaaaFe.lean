/- outlinekeep: twice. -/
import Derived.Test.YtljfiefobnncaaaFd
namespace Go.Proofs.Ytljfiefobnncaaa
open Go.RowKit

set_option maxHeartbeats 1000000 in
theorem keepTwice_big (g n cap : Nat) (tw : Int) (l : List (Int × Int)) (hn : n = l.length) (h0 : 0 < n) (hs : Qm.Small l) (hn2 : n ≤ 140737488355328) (w : World) (hP : PtsAt g l w) :
    Calls Try.prog 17 #[.agg #[.slice (some ⟨g, 0, none⟩) n cap, .int .i64 tw]] w fun e w' => e = .returned (.int .i64 (Qm.twiceOf l)) ∧ Below w.heap.size w w' := by
  have HP := hid hP
  have hg := hP.1
  have HN := hid hn
  clear hP hn
  go_enter Try.func17, Try.ntmps17
  go_wp2_with fail
  go_loopw [3, 4] (fun sm i wr => ∃ k : Nat, k ≤ n ∧ i = .int .i64 k ∧ sm = .int .i64 (Qm.fsum l k) ∧ wr.cell? ⟨w.heap.size, 0, none⟩ = some (.slice (some ⟨g, 0, none⟩) n cap) ∧ wr.cell? ⟨w.heap.size, 1, none⟩ = some (.int .i64 tw) ∧ Below w.heap.size w wr ∧ w.heap.size < wr.heap.size) (fun _ i _ => n - (intOf i).toNat)
  case atStart => exact ⟨0, by omega, rfl, rfl, by simp, by simp, by go_grown, by simp⟩
  case round =>
    obtain ⟨k, hk, rfl, rfl, b0, b1, hb, hz⟩ := hrel
    have HB := hid hb
    have ts := Qm.fsum_small hs k
    by_cases hlt : k < n
    · have hlt' : (k : Int) < (n : Int) := by omega
      have sp := hs.at k
      have sq := hs.at ((k + 1) % l.length)
      have m1 := Qm.mul_small sp.2.2.1 sp.2.2.2 sq.1 sq.2.1
      have m2 := Qm.mul_small sp.1 sp.2.1 sq.2.2.1 sq.2.2.2
      have ST := hid (fun W' (hW : Below wr.heap.size wr W') => step_big g n cap k tw l HN.out hlt hn2 W' ((HP.out.on HB.out hg).on hW (by have := HB.out.size; omega)))
      have E2 : Hid (Qm.fsum l (k + 1) = Qm.fsum l k + ((l.getD k (0, 0)).2 * (l.getD ((k + 1) % l.length) (0, 0)).1 - (l.getD k (0, 0)).1 * (l.getD ((k + 1) % l.length) (0, 0)).2)) := rfl
      obtain ⟨⟨pa, pb⟩, hpp⟩ : ∃ p, l.getD k (0, 0) = p := ⟨_, rfl⟩
      obtain ⟨⟨qa, qb⟩, hqq⟩ : ∃ p, l.getD ((k + 1) % l.length) (0, 0) = p := ⟨_, rfl⟩
      rw [hpp] at m1 m2 sp E2 ST
      rw [hqq] at m1 m2 sq E2 ST
      dsimp only at m1 m2 sp sq E2 ST
      clear hpp hqq hb
      go_wp2_with fail
      refine (ST.out _ (by go_grown)).mono ?_
      rintro e w2 ⟨rfl, hb2⟩
      have B2 := hid (show Below w.heap.size w w2 from HB.out.trans (hb2.mono (by have := HB.out.size; omega)))
      obtain ⟨hc, hf⟩ := bcell hb2
      have z2 := hb2.size
      have e0 := (hc w.heap.size 0 hz).trans b0
      have e1 := (hc w.heap.size 1 hz).trans b1
      clear hb2 hc hf b0 b1
      obtain ⟨u, hu⟩ : ∃ u, pb * qa = u := ⟨_, rfl⟩
      obtain ⟨v, hv⟩ : ∃ v, pa * qb = v := ⟨_, rfl⟩
      rw [hu] at m1 E2
      rw [hv] at m2 E2
      go_wp2
      go_roundw
      case rel =>
        have hz2 : w.heap.size < w2.heap.size := by omega
        refine ⟨k + 1, by omega, by go_num, by rw [E2.out]; go_num, ?_, ?_, ?_, ?_⟩
        · first | exact e0 | simp [go_sem, e0, hz2]
        · first | exact e1 | simp [go_sem, e1, hz2]
        · first | exact B2.out | exact (B2.out.alloc (by omega) _).alloc (by simp; omega) _
        · first | exact hz2 | (simp; omega)
      case measure => simp [intOf]; omega
    · have hlt' : ¬ (k : Int) < (n : Int) := by omega
      have hkn : k = n := by omega
      subst hkn
      go_wp2
      go_ret
      exact ⟨ret_int (by rw [Qm.twiceOf_fsum, ← HN.out]), HB.out⟩

theorem keepTwice_any (g n cap : Nat) (tw : Int) (l : List (Int × Int)) (hn : n = l.length) (h0 : 0 < n) (hs : Qm.Small l) (hn2 : n ≤ 4356) (w : World) (hP : PtsAt g l w) :
    Calls Try.prog 17 #[.agg #[.slice (some ⟨g, 0, none⟩) n cap, .int .i64 tw]] w fun e w' => e = .returned (.int .i64 (Qm.twiceOf l)) ∧ Below w.heap.size w w' :=
  keepTwice_big g n cap tw l hn h0 hs (by omega) w hP

end Go.Proofs.Ytljfiefobnncaaa
