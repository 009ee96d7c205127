/- Reading paths: coordinates and points. -/
import Derived.Test.YtljfiefobnncaaaDoorK19
namespace Go.Proofs.YtljfiefobnncaaaDoor
open Go.RowKit

/-- What readNumber gives. -/
def rn3 : Except (Int × Nat) (Nat × Nat) → Nat × Nat × Int
  | .ok (n, k) => (n, k, 0)
  | .error (e, p) => (0, p, e)
set_option maxRecDepth 4000 in
set_option maxHeartbeats 1000000 in
theorem pReadNumber_any (s : ByteArray) (i : Nat) (hi : i ≤ s.size) (hs : s.size ≤ 140737488355328) (w : World) :
    Calls Tryd.prog 89 #[.string s, .int .i64 i] w fun e w' => e = .returned (.tuple #[.int .i64 (rn3 (Pm.crd s.data.toList i)).1, .int .i64 (rn3 (Pm.crd s.data.toList i)).2.1, .int .i64 (rn3 (Pm.crd s.data.toList i)).2.2]) ∧ w' = w := by
  have SK := hid (fun W => pSkip_any s i hi hs W)
  have kl := Pm.skp_le (l := s.data.toList) (i := i) (by simpa using hi)
  have CR : Hid (Pm.crd s.data.toList i = if Pm.numC (s.data.toList.drop (Pm.skp s.data.toList i)) = 0 then .error (Pm.lackE s.data.toList.length (Pm.skp s.data.toList i), Pm.skp s.data.toList i) else if 32 < Pm.numV 0 (s.data.toList.drop (Pm.skp s.data.toList i)) then .error (3, Pm.skp s.data.toList i) else .ok (Pm.numV 0 (s.data.toList.drop (Pm.skp s.data.toList i)), Pm.skp s.data.toList i + Pm.numC (s.data.toList.drop (Pm.skp s.data.toList i)))) := rfl
  have ls : s.data.toList.length = s.size := by simp
  rw [ls] at CR kl
  clear ls
  obtain ⟨k, hk⟩ : ∃ k, k = Pm.skp s.data.toList i := ⟨_, rfl⟩
  rw [← hk] at SK kl CR
  clear hk
  have SN := hid (fun W => scanNumber_any s k kl hs W)
  have WR := hid (fun W => wrongAt_any s k W)
  have vb := Pm.numV_le (s.data.toList.drop k) 0 (by omega)
  obtain ⟨n, hn⟩ : ∃ n, n = Pm.numV 0 (s.data.toList.drop k) := ⟨_, rfl⟩
  obtain ⟨m, hm⟩ : ∃ m, m = Pm.numC (s.data.toList.drop k) := ⟨_, rfl⟩
  rw [← hn] at SN CR vb
  rw [← hm] at SN CR
  clear hn hm
  obtain ⟨E, hE⟩ : ∃ E, E = Pm.lackE s.size k := ⟨_, rfl⟩
  rw [← hE] at WR CR
  clear hE
  obtain ⟨c, hc⟩ : ∃ c, c = Pm.crd s.data.toList i := ⟨_, rfl⟩
  rw [← hc] at CR ⊢
  clear hc
  by_cases m0 : m = 0
  · have C2 := hid (show rn3 c = (0, k, E) by rw [CR.out, if_pos m0]; rfl)
    have b0 : (((k + m : Nat) : Int) == (k : Int)) = true := beq_iff_eq.2 (by omega)
    rw [C2.out]
    clear m0
    go_enter Tryd.func89, Tryd.ntmps89
    go_wp2_with (first | (go_at_call 64; refine (SK.out _).mono ?_; rintro e w' ⟨rfl, rfl⟩) | (go_at_call 83; refine (SN.out _).mono ?_; rintro e w' ⟨rfl, rfl⟩) | (go_at_call 68; refine (WR.out _).mono ?_; rintro e w' ⟨rfl, rfl⟩))
    go_ret3
    exact ⟨rfl, rfl⟩
  · have b0 : (((k + m : Nat) : Int) == (k : Int)) = false := beq_eq_false_iff_ne.2 (by omega)
    by_cases n1 : 32 < n
    · have C2 := hid (show rn3 c = (0, k, 3) by rw [CR.out, if_neg m0, if_pos n1]; rfl)
      rw [C2.out]
      clear m0
      go_enter Tryd.func89, Tryd.ntmps89
      go_wp2_with (first | (go_at_call 64; refine (SK.out _).mono ?_; rintro e w' ⟨rfl, rfl⟩) | (go_at_call 83; refine (SN.out _).mono ?_; rintro e w' ⟨rfl, rfl⟩) | fail)
      go_ret3
      exact ⟨rfl, rfl⟩
    · have C2 := hid (show rn3 c = (n, k + m, 0) by rw [CR.out, if_neg m0, if_neg n1]; rfl)
      rw [C2.out]
      clear m0
      go_enter Tryd.func89, Tryd.ntmps89
      go_wp2_with (first | (go_at_call 64; refine (SK.out _).mono ?_; rintro e w' ⟨rfl, rfl⟩) | (go_at_call 83; refine (SN.out _).mono ?_; rintro e w' ⟨rfl, rfl⟩) | fail)
      go_ret3
      exact ⟨rfl, rfl⟩

/-- What coordinate gives. -/
def rn4 : Except (Int × Nat) (Nat × Nat) → Nat × Nat × Int × Nat
  | .ok (n, k) => (n, k, 0, 0)
  | .error (e, p) => (0, 0, e, p)
set_option maxRecDepth 4000 in
set_option maxHeartbeats 1000000 in
theorem coordinate_any (s : ByteArray) (i : Nat) (hi : i ≤ s.size) (hs : s.size ≤ 140737488355328) (w : World) :
    Calls Tryd.prog 67 #[.string s, .int .i64 i] w fun e w' => e = .returned (.tuple #[.int .i64 (rn4 (Pm.crd s.data.toList i)).1, .int .i64 (rn4 (Pm.crd s.data.toList i)).2.1, .int .i64 (rn4 (Pm.crd s.data.toList i)).2.2.1, .int .i64 (rn4 (Pm.crd s.data.toList i)).2.2.2]) ∧ w' = w := by
  have SK := hid (fun W => refSkip_any s i hi hs W)
  have kl := Pm.skp_le (l := s.data.toList) (i := i) (by simpa using hi)
  have CR : Hid (Pm.crd s.data.toList i = if Pm.numC (s.data.toList.drop (Pm.skp s.data.toList i)) = 0 then .error (Pm.lackE s.data.toList.length (Pm.skp s.data.toList i), Pm.skp s.data.toList i) else if 32 < Pm.numV 0 (s.data.toList.drop (Pm.skp s.data.toList i)) then .error (3, Pm.skp s.data.toList i) else .ok (Pm.numV 0 (s.data.toList.drop (Pm.skp s.data.toList i)), Pm.skp s.data.toList i + Pm.numC (s.data.toList.drop (Pm.skp s.data.toList i)))) := rfl
  have ls : s.data.toList.length = s.size := by simp
  rw [ls] at CR kl
  clear ls
  obtain ⟨k, hk⟩ : ∃ k, k = Pm.skp s.data.toList i := ⟨_, rfl⟩
  rw [← hk] at SK kl CR
  clear hk
  have SN := hid (fun W => number_any s k kl hs W)
  have WR := hid (fun W => lacks_any s k kl W)
  have vb := Pm.numV_le (s.data.toList.drop k) 0 (by omega)
  obtain ⟨n, hn⟩ : ∃ n, n = Pm.numV 0 (s.data.toList.drop k) := ⟨_, rfl⟩
  obtain ⟨m, hm⟩ : ∃ m, m = Pm.numC (s.data.toList.drop k) := ⟨_, rfl⟩
  rw [← hn] at SN CR vb
  rw [← hm] at SN CR
  clear hn hm
  obtain ⟨E, hE⟩ : ∃ E, E = Pm.lackE s.size k := ⟨_, rfl⟩
  rw [← hE] at WR CR
  clear hE
  obtain ⟨c, hc⟩ : ∃ c, c = Pm.crd s.data.toList i := ⟨_, rfl⟩
  rw [← hc] at CR ⊢
  clear hc
  by_cases m0 : m = 0
  · have C2 := hid (show rn4 c = (0, 0, E, k) by rw [CR.out, if_pos m0]; rfl)
    have b0 : (((k + m : Nat) : Int) == (k : Int)) = true := beq_iff_eq.2 (by omega)
    rw [C2.out]
    clear m0
    go_enter Tryd.func67, Tryd.ntmps67
    go_wp2_with (first | (go_at_call 49; refine (SK.out _).mono ?_; rintro e w' ⟨rfl, rfl⟩) | (go_at_call 41; refine (SN.out _).mono ?_; rintro e w' ⟨rfl, rfl⟩) | (go_at_call 18; refine (WR.out _).mono ?_; rintro e w' ⟨rfl, rfl⟩))
    refine bodyPost_ret (results_tmp4 Tryd.results67 _ _ _) rfl ?_
    exact ⟨rfl, rfl⟩
  · have b0 : (((k + m : Nat) : Int) == (k : Int)) = false := beq_eq_false_iff_ne.2 (by omega)
    by_cases n1 : 32 < n
    · have C2 := hid (show rn4 c = (0, 0, 3, k) by rw [CR.out, if_neg m0, if_pos n1]; rfl)
      rw [C2.out]
      clear m0
      go_enter Tryd.func67, Tryd.ntmps67
      go_wp2_with (first | (go_at_call 49; refine (SK.out _).mono ?_; rintro e w' ⟨rfl, rfl⟩) | (go_at_call 41; refine (SN.out _).mono ?_; rintro e w' ⟨rfl, rfl⟩) | fail)
      refine bodyPost_ret (results_tmp4 Tryd.results67 _ _ _) rfl ?_
      exact ⟨rfl, rfl⟩
    · have C2 := hid (show rn4 c = (n, k + m, 0, 0) by rw [CR.out, if_neg m0, if_neg n1]; rfl)
      rw [C2.out]
      clear m0
      go_enter Tryd.func67, Tryd.ntmps67
      go_wp2_with (first | (go_at_call 49; refine (SK.out _).mono ?_; rintro e w' ⟨rfl, rfl⟩) | (go_at_call 41; refine (SN.out _).mono ?_; rintro e w' ⟨rfl, rfl⟩) | fail)
      refine bodyPost_ret (results_tmp4 Tryd.results67 _ _ _) rfl ?_
      exact ⟨rfl, rfl⟩

end Go.Proofs.YtljfiefobnncaaaDoor
