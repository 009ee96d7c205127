/- outlinelaw: Fills. -/
import Derived.Test.YtljfiefobnncaaaVj
import Derived.Test.YtljfiefobnncaaaVf
namespace Go.Proofs.Ytljfiefobnncaaa
open Go.RowKit

theorem fillOut_is (V U r : Int) (L : List ShT) : ∃ (a b d : Int) (c : ByteArray), fillOut V U r L = .tuple #[.agg #[.int .i64 a, .int .i64 b, .string c], .int .i64 d] := by
  unfold fillOut; split <;> exact ⟨_, _, _, _, rfl⟩

set_option maxRecDepth 4000 in
set_option maxHeartbeats 2000000 in
theorem fills_any (ao : Option Addr) (n cap : Nat) (L : List ShT) (hn : n = L.length) (hn2 : n * 32 ≤ 140737488355328) (hm : ∀ i, (L.getD i sh0).1.length * 16 ≤ 140737488355328) (V U r : Int) (w : World) (hS : ShIs ao L w) :
    Calls Try.prog 10 #[.slice ao n cap, .int .i64 V, .int .i64 U, .int .i64 r] w fun e w' => e = .returned (.bool true) ∧ Below w.heap.size w w' := by
  have hm2 : ∀ i, (L.getD i sh0).1.length ≤ 140737488355328 := fun i => by have := hm i; omega
  have RO := hid (roomy_any ao n cap L hn hn2 hm w hS)
  have PF := hid (fun gl W' (h : RoomIs gl n L W') => fill_any (some ⟨gl, 0, none⟩) n (n + 1) L hn (by omega) hm2 V U r W' (h.sh hn))
  have RF := hid (fun W' (h : Below w.heap.size w W') => refFill_any ao n cap L hn (by omega) hm2 V U r W' (hS.on h))
  have WH := hid (fun gl W' (h : RoomIs gl n L W') (hb : Below w.heap.size w W') => whole_any gl ao n cap L hn (by omega) hm2 W' h (hS.on hb))
  have NF := hid (fun (h : n = 0) W' => fill_any none 0 0 L (by omega) (by omega) hm2 V U r W' (.inl (by omega)))
  obtain ⟨a, b, d, c, e⟩ := fillOut_is V U r L
  rw [e] at PF RF NF
  clear e hS hn hm hm2
  go_enter Try.func10, Try.ntmps10
  go_wp2_with fail
  refine RO.out.mono ?_
  rintro e w1 ⟨⟨gl, rfl, hR⟩, hb1⟩
  have R1 := hid hR
  have B1 := hid hb1
  clear hR hb1
  go_wp2_with fail
  refine (PF.out gl _ R1.out).mono ?_
  rintro e w2 ⟨rfl, hb2⟩
  have R2 := hid (R1.out.on hb2)
  have B2 := hid (show Below w.heap.size w w2 from B1.out.trans (hb2.mono B1.out.size))
  have X2 := hid (Box3.new w2 (.int .i64 a) (.int .i64 b) (.string c) 23)
  have s2 := B2.out.size
  have BA := hid (show Below w.heap.size w (w2.alloc (.cells #[.int .i64 a, .int .i64 b, .string c] 23)) from B2.out.alloc s2 _)
  clear hb2
  go_wp2_with fail
  refine (RF.out _ BA.out).mono ?_
  rintro e w3 ⟨rfl, hb3⟩
  have Y3 := hid (X2.out.on hb3)
  have R3 := hid ((R2.out.on ((Below.refl _ _).alloc (Nat.le_refl _) (.cells #[.int .i64 a, .int .i64 b, .string c] 23))).on hb3)
  have B3 := hid (show Below w.heap.size w w3 from BA.out.trans (hb3.mono BA.out.size))
  have s3 := B3.out.size
  have X3 := hid (Box3.new w3 (.int .i64 a) (.int .i64 b) (.string c) 23)
  have BC := hid (show Below w.heap.size w (w3.alloc (.cells #[.int .i64 a, .int .i64 b, .string c] 23)) from B3.out.alloc s3 _)
  have Z3 := hid (Y3.out.alloc (.cells #[.int .i64 a, .int .i64 b, .string c] 23))
  have R4 := hid (R3.out.on ((Below.refl _ _).alloc (Nat.le_refl _) (.cells #[.int .i64 a, .int .i64 b, .string c] 23)))
  clear hb3
  go_wp2_with fail
  refine (WH.out gl _ R4.out BC.out).mono ?_
  rintro e w4 ⟨rfl, hb4⟩
  have P4 := hid (Z3.out.on hb4)
  have Q4 := hid (X3.out.on hb4)
  have B4 := hid (show Below w.heap.size w w4 from BC.out.trans (hb4.mono BC.out.size))
  have s4 := B4.out.size
  clear hb4
  by_cases h0 : n = 0
  · have N0 := hid (NF.out h0)
    have e0 : ((n : Int) == 0) = true := by simp [h0]
    clear h0
    go_wp2_with fail
    refine (N0.out _).mono ?_
    rintro e w5 ⟨rfl, hb5⟩
    have P5 := hid (P4.out.on hb5)
    have Q5 := hid (Q4.out.on hb5)
    have B5 := hid (show Below w.heap.size w w5 from B4.out.trans (hb5.mono s4))
    have s5 := B5.out.size
    clear hb5
    obtain ⟨⟨p0, p1, p2⟩, -, -, pz⟩ := P5.out
    obtain ⟨⟨q0, q1, q2⟩, -, -, qz⟩ := Q5.out
    go_wp2
    go_ret
    exact ⟨rfl, by go_grown; exact B5.out⟩
  · have e0 : ((n : Int) == 0) = false := by simp [h0]
    clear h0
    obtain ⟨⟨p0, p1, p2⟩, -, -, pz⟩ := P4.out
    obtain ⟨⟨q0, q1, q2⟩, -, -, qz⟩ := Q4.out
    go_wp2
    go_ret
    exact ⟨rfl, B4.out⟩

end Go.Proofs.Ytljfiefobnncaaa
