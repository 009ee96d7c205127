/- The statement Stored, out of the contracts. -/
import Derived.Test.YtljfiefobnncaaaDoorWg
import Derived.Test.YtljfiefobnncaaaDoorRn
import Derived.Test.YtljfiefobnncaaaDoorSb
import Derived.Test.YtljfiefobnncaaaDoorSc
import Derived.Test.YtljfiefobnncaaaDoorPx
namespace Go.Proofs.YtljfiefobnncaaaDoor
open Go.RowKit

theorem writeTo_small (l : List UInt8) (W H : Nat) (w2 : W ≤ 32) (h2 : H ≤ 32) (hl : l.length = W * H) : 0 < (Pm.writeTo W H l H).length ∧ (Pm.writeTo W H l H).length ≤ 200 := by
  have a := Pm.itoaL_len W
  have b := Pm.itoaL_len H
  have c : (W + 7) / 8 * H ≤ 4 * 32 := Nat.mul_le_mul (by omega) h2
  rw [Pm.writeTo_eq, List.length_append, Pm.rowsL_length l W H hl]
  simp only [Pm.headL, List.length_append, List.length_cons, List.length_nil]
  omega
theorem p1To_small (l : List UInt8) (w : Nat) : ∀ i, (Pm.p1To l w i).length ≤ 2 * i
  | 0 => by simp [Pm.p1To]
  | i + 1 => by
    have := p1To_small l w i
    rw [Pm.p1To]
    simp only [List.length_append]
    split <;> simp <;> omega
theorem head1_small (W H : Nat) : (Pm.head1 W H).length ≤ 9 := by
  have a := Pm.itoaL_len W
  have b := Pm.itoaL_len H
  simp only [Pm.head1, List.length_append, List.length_cons, List.length_nil]
  omega

set_option maxRecDepth 4000 in
set_option maxHeartbeats 2000000 in
theorem stored_calls (ao : Option Addr) (len cap : Nat) (a h : Int) (x : ByteArray) (w : World) (hraw : RawIs ao len w) (hlen : len ≤ 140737488355328) (a1 : -9223372036854775808 ≤ a) (a2 : a ≤ 9223372036854775807) (h1 : -9223372036854775808 ≤ h) (h2 : h ≤ 9223372036854775807) (hx : x.size ≤ 140737488351232) :
    Calls Tryd.prog 5 #[.slice ao len cap, .int .i64 a, .int .i64 h, .string x] w fun e w' => e = .returned (.bool true) ∧ Below w.heap.size w w' := by
  have HB := hid (built_core ao len cap a h w hraw hlen a1 a2 h1 h2)
  clear hraw a1 a2 h1 h2
  go_enter Tryd.func5, Tryd.ntmps5
  go_wp2_with fail
  refine HB.out.mono ?_
  rintro e w1 ⟨⟨W, H, l, rfl, W1, W2, H1, H2, hl, hall⟩, hb1⟩
  have gd : Pm.goodB W H l = true := Pm.goodB_yes (Pm.sideB_yes (by omega) (by omega)) (Pm.sideB_yes (by omega) (by omega)) (by rw [hl]; simp) hall
  obtain ⟨f, hf⟩ : ∃ f, f = Pm.writeTo W H l H := ⟨_, rfl⟩
  have fs := writeTo_small l W H W2 H2 hl
  rw [← hf] at fs
  have HFF := hid hf
  have GD := hid gd
  have HLN := hid hl
  have HAL := hid hall
  clear gd hf hl hall HB
  have X1 := hid (Box3.new w1 (.int .i64 W) (.int .i64 H) (.string ⟨l.toArray⟩) 23)
  have B1 := hid hb1
  clear hb1
  go_wp2_with fail
  refine (outlineWrite_any W H ⟨l.toArray⟩ _).mono ?_
  rintro e w2 ⟨r, n, rfl, ho, hb2⟩
  have hr : r = ⟨f.toArray⟩ ∧ n = 0 := by
    rcases ho with ⟨g, _, _⟩ | ⟨_, rfl, rfl⟩
    · have g2 := GD.out
      have g3 : Pm.goodB W H l = false := by simpa using g
      rw [g2] at g3; cases g3
    · rw [HFF.out]; simp
  clear ho
  obtain ⟨rfl, rfl⟩ := hr
  have X2 := hid (X1.out.on hb2)
  clear X1 hb2
  obtain ⟨⟨c0, c1, c2⟩, -, -, hz⟩ := X2.out
  have S1 := hid (show ((⟨f.toArray⟩ : ByteArray) ++ x).size ≤ 140737488355328 by rw [ByteArray.size_append]; show f.length + x.size ≤ _; omega)
  go_wp2_with fail
  refine (outlineRead_any ((⟨f.toArray⟩ : ByteArray) ++ x) S1.out _).mono ?_
  rintro e w3 ⟨⟨n3, m3, b3, r3, q3, rfl, ho⟩, hb3⟩
  have hr : n3 = W ∧ m3 = H ∧ b3 = l ∧ r3 = 0 ∧ q3 = 0 := by
    have e : ((⟨f.toArray⟩ : ByteArray) ++ x).data.toList = Pm.writeTo W H l H ++ x.data.toList := by rw [← HFF.out]; simp
    rw [e] at ho
    exact Pm.readOut_one ho (Pm.read_written l x.data.toList W H W1 W2 H1 H2 HLN.out HAL.out)
  clear ho
  obtain ⟨rfl, rfl, rfl, rfl, rfl⟩ := hr
  have X3 := hid ((X2.out.on hb3).alloc (.cells #[.int .i64 n3, .int .i64 m3, .string ⟨b3.toArray⟩] 23))
  have Y3 := hid (Box3.new w3 (.int .i64 n3) (.int .i64 m3) (.string ⟨b3.toArray⟩) 23)
  obtain ⟨⟨d0, d1, d2⟩, -, -, hz3⟩ := X2.out.on hb3
  clear hb3 X2 c0 c1 c2 hz
  obtain ⟨p, hp⟩ : ∃ p, p = Pm.head1 n3 m3 ++ Pm.p1To b3 n3 b3.length := ⟨_, rfl⟩
  have ps : p.length ≤ 2057 := by
    have q1 := p1To_small b3 n3 b3.length
    have q2 := head1_small n3 m3
    have q3 : b3.length ≤ 1024 := by rw [HLN.out]; exact Nat.mul_le_mul W2 H2
    rw [hp, List.length_append]; omega
  have cp : ∀ wx : World, Calls Tryd.prog 12 #[.agg #[.int .i64 n3, .int .i64 m3, .string ⟨b3.toArray⟩]] wx fun e w' => e = .returned (.string ⟨p.toArray⟩) ∧ Below wx.heap.size wx w' := by
    intro wx
    have c := plainKeep_any n3 m3 ⟨b3.toArray⟩ wx W1 W2 H2 (by show b3.length = _; exact HLN.out)
    have e : Pm.head1 n3 m3 ++ Pm.p1To (⟨b3.toArray⟩ : ByteArray).data.toList n3 (⟨b3.toArray⟩ : ByteArray).size = p := by rw [hp]; simp; rfl
    rw [e] at c
    exact c
  have CP := hid cp
  have HP := hid hp
  clear cp hp
  go_wp2_with fail
  refine (CP.out _).mono ?_
  rintro e w4 ⟨rfl, hb4⟩
  have X4 := hid (X3.out.on hb4)
  have Y4 := hid (Y3.out.on hb4)
  clear hb4 X3 Y3 d0 d1 d2 hz3
  have S2 := hid (show ((⟨p.toArray⟩ : ByteArray) ++ x).size ≤ 140737488355328 by rw [ByteArray.size_append]; show p.length + x.size ≤ _; omega)
  go_wp2_with fail
  refine (outlineRead_any ((⟨p.toArray⟩ : ByteArray) ++ x) S2.out _).mono ?_
  rintro e w5 ⟨⟨n5, m5, b5, r5, q5, rfl, ho⟩, hb5⟩
  have hr : n5 = n3 ∧ m5 = m3 ∧ b5 = b3 ∧ r5 = 0 ∧ q5 = 0 := by
    have e : ((⟨p.toArray⟩ : ByteArray) ++ x).data.toList = Pm.head1 n3 m3 ++ Pm.p1To b3 n3 b3.length ++ x.data.toList := by rw [← HP.out]; simp
    rw [e] at ho
    exact Pm.readOut_one ho (Pm.read_plain b3 x.data.toList n3 m3 W1 W2 H1 H2 HLN.out HAL.out)
  clear ho
  obtain ⟨rfl, rfl, rfl, rfl, rfl⟩ := hr
  have X5 := hid ((X4.out.on hb5).alloc (.cells #[.int .i64 n5, .int .i64 m5, .string ⟨b5.toArray⟩] 23))
  have Y5 := hid ((Y4.out.on hb5).alloc (.cells #[.int .i64 n5, .int .i64 m5, .string ⟨b5.toArray⟩] 23))
  have Z5 := hid (Box3.new w5 (.int .i64 n5) (.int .i64 m5) (.string ⟨b5.toArray⟩) 23)
  clear hb5 X4 Y4
  have ex : ((⟨f.toArray⟩ : ByteArray).extract 0 (f.length / 2)).data.toList = f.take (f.length / 2) := by
    simp only [ByteArray.data_extract, Array.toList_extract, List.extract_eq_take_drop, List.drop_zero, Nat.sub_zero]
  have EX := hid ex
  have S3 := hid (show ((⟨f.toArray⟩ : ByteArray).extract 0 (f.length / 2)).size ≤ 140737488355328 by
    rw [Pm.size_of_data _ _ ex, List.length_take]; omega)
  clear ex
  go_wp2_with fail
  refine (outlineRead_any ((⟨f.toArray⟩ : ByteArray).extract 0 (f.length / 2)) S3.out _).mono ?_
  rintro e w6 ⟨⟨n6, m6, b6, r6, q6, rfl, ho⟩, hb6⟩
  have hr : r6 ≠ 0 ∧ q6 ≤ f.length / 2 := by
    rw [EX.out] at ho
    refine ⟨?_, ?_⟩
    · have hF := HFF.out
      have fl := fs.1
      subst hF
      exact Pm.read_part b5 n5 m5 _ W1 W2 H1 H2 HLN.out (by omega) ho
    · have := Pm.readOut_place ho
      rw [List.length_take] at this; omega
  clear ho
  obtain ⟨r0, q0⟩ := hr
  have b0 : (r6 == 0) = false := beq_eq_false_iff_ne.2 r0
  have q1 : (q6 : Int) ≤ (f.length : Int) / 2 := by omega
  have f1 : (0 : Int) < (f.length : Int) := by have := fs.1; omega
  obtain ⟨⟨x0, x1, x2⟩, -, xB, xz⟩ := X5.out.on hb6
  obtain ⟨⟨y0, y1, y2⟩, -, -, yz⟩ := Y5.out.on hb6
  obtain ⟨⟨z0, z1, z2⟩, -, -, zz⟩ := Z5.out.on hb6
  have FB : Hid (Below w.heap.size w w6) := B1.out.trans (xB.mono B1.out.size)
  have FZ := FB.out.size
  clear hb6 X5 Y5 Z5 xB r0
  go_wp2
  go_ret
  exact ⟨rfl, FB.out.alloc (by omega) _⟩
end Go.Proofs.YtljfiefobnncaaaDoor
