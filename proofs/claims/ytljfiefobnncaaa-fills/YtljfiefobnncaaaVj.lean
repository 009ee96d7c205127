/- outlinelaw: whole. -/
import Derived.Test.YtljfiefobnncaaaVi
namespace Go.Proofs.Ytljfiefobnncaaa
open Go.RowKit

set_option maxRecDepth 4000 in
set_option maxHeartbeats 1000000 in
theorem whole_any (gl : Nat) (bo : Option Addr) (n cb : Nat) (L : List ShT) (hn : n = L.length) (hn2 : n ≤ 140737488355328) (hm : ∀ i, (L.getD i sh0).1.length ≤ 140737488355328) (w : World) (hA : RoomIs gl n L w) (hB : ShIs bo L w) :
    Calls Try.prog 35 #[.slice (some ⟨gl, 0, none⟩) n (n + 1), .slice bo n cb] w fun e w' => e = .returned (.bool true) ∧ Below w.heap.size w w' := by
  have HA := hid hA
  have SA := hid (sameS_any (some ⟨gl, 0, none⟩) bo n (n + 1) cb L hn hn2 hm w (hA.sh hn) hB)
  have HM := hid hm
  have gz := hA.lt
  clear hA hB hm hn
  go_enter Try.func35, Try.ntmps35
  go_wp2_with fail
  refine SA.out.mono ?_
  rintro e w1 ⟨rfl, hb1⟩
  have B1 := hid hb1
  have e1 := (HA.out.on hb1).end'
  have k1' : (0 : Int) ≤ (n : Nat) := by omega
  have k2' : ((n : Nat) : Int) < (n : Nat) + 1 := by omega
  clear hb1
  go_wp2_with fail
  go_loopw [8] (fun iv wr => ∃ i : Nat, i ≤ n ∧ iv = .int .i64 i ∧ Hid (Below w.heap.size w wr)) (fun i _ => n - (intOf i).toNat)
  case atStart => exact ⟨0, by omega, rfl, B1⟩
  case round =>
    clear e1
    obtain ⟨i, hin, rfl, BL⟩ := hrel
    by_cases hlt : i < n
    · obtain ⟨g, h1, h2, h3, h4, h5⟩ := (HA.out.on BL.out).old i hlt
      have hmi := HM.out i
      obtain ⟨m, hmm⟩ : ∃ m, m = (L.getD i sh0).1.length := ⟨_, rfl⟩
      rw [← hmm] at h2 h5 hmi
      have i0' : (0 : Int) ≤ (i : Nat) := by omega
      have i1' : ((i : Nat) : Int) < (n : Nat) := by omega
      have m1' : (0 : Int) ≤ (m : Nat) := by omega
      have m2' : ((m : Nat) : Int) < (m : Nat) + 1 := by omega
      clear h4 hmm h3
      go_wp2
      go_roundw
      case rel => exact ⟨i + 1, by omega, by go_num, BL⟩
      case measure => simp [intOf]; omega
    · have hk' : ((n : Nat) : Int) ≤ (i : Nat) := by omega
      go_wp2
      go_ret
      exact ⟨rfl, BL.out⟩

end Go.Proofs.Ytljfiefobnncaaa
