/- bitmap.IsBlack, and the small functions of package cycles. -/
import Derived.Test.YtljfiefobnncaaaWa
import Derived.Test.YtljfiefobnncaaaPn
import Derived.Test.YtljfiefobnncaaaQb
import Derived.Handy
import Derived.Test.YtljfiefobnncaaaWc
namespace Go.Proofs.Ytljfiefobnncaaa
open Go.RowKit

set_option maxHeartbeats 1000000 in
theorem isBlack_any (W H : Nat) (s : ByteArray) (x y : Int) (w : World) (hw2 : W ≤ 32) (hh2 : H ≤ 32) (hl : s.size = W * H) :
    Calls Try.prog 104 #[.agg #[.int .i64 W, .int .i64 H, .string s], .int .i64 x, .int .i64 y] w fun e w' => e = .returned (.bool (Pm.blackB W H s.data.toList x y)) ∧ w' = w.alloc (.cells #[.int .i64 W, .int .i64 H, .string s] 23) := by
  have HL := Hid.out (p := Hid (s.size = W * H)) hl
  clear hl
  by_cases x0 : 0 ≤ x
  · by_cases x1 : x < W
    · by_cases y0 : 0 ≤ y
      · by_cases y1 : y < H
        · obtain ⟨x, rfl⟩ := Int.eq_ofNat_of_zero_le x0
          obtain ⟨y, rfl⟩ := Int.eq_ofNat_of_zero_le y0
          have hx : x < W := by omega
          have hy : y < H := by omega
          have sp := Pm.span W H y hy
          have ar := Pm.area_nat W H hw2 hh2
          obtain ⟨a, ha⟩ : ∃ a, a = y * W := ⟨_, rfl⟩
          have ea : (y : Int) * (W : Int) = (a : Nat) := by rw [ha]; simp
          have hab : a + x < s.size := by have := HL.out; omega
          have hb4 : a + x ≤ 1024 := by omega
          have E := Pm.blackB_in W H s.data.toList x y hx hy a ha
          have HE : Hid _ := E
          have HA : Hid _ := ha
          clear E ha sp ar
          by_cases q : (s[a + x].toNat : Int) = 49
          · go_enter Try.func104, Try.ntmps104
            go_wp2
            go_ret
            exact ⟨ret_bool (by rw [HE.out, Pm.bitAt_yes s _ hab q]), rfl⟩
          · have b0 : ((s[a + x].toNat : Int) == 49) = false := by simpa using q
            go_enter Try.func104, Try.ntmps104
            go_wp2
            go_ret
            exact ⟨ret_bool (by rw [HE.out, Pm.bitAt_no s _ hab q]), rfl⟩
        · have E := Pm.blackB_out W H s.data.toList x y (by omega)
          have HE : Hid _ := E
          clear E
          go_enter Try.func104, Try.ntmps104
          go_wp2
          go_ret
          exact ⟨ret_bool HE.out.symm, rfl⟩
      · have E := Pm.blackB_out W H s.data.toList x y (by omega)
        have HE : Hid _ := E
        clear E
        go_enter Try.func104, Try.ntmps104
        go_wp2
        go_ret
        exact ⟨ret_bool HE.out.symm, rfl⟩
    · have E := Pm.blackB_out W H s.data.toList x y (by omega)
      have HE : Hid _ := E
      clear E
      go_enter Try.func104, Try.ntmps104
      go_wp2
      go_ret
      exact ⟨ret_bool HE.out.symm, rfl⟩
  · have E := Pm.blackB_out W H s.data.toList x y (by omega)
    have HE : Hid _ := E
    clear E
    go_enter Try.func104, Try.ntmps104
    go_wp2
    go_ret
    exact ⟨ret_bool HE.out.symm, rfl⟩

set_option maxHeartbeats 400000 in
theorem leftOf_any (d : Nat) (hd : d < 4) (w : World) :
    Calls Try.prog 94 #[.int .i64 d] w fun e w' => e = .returned (.int .i64 ((d + 1) % 4 : Nat)) ∧ w' = w := by
  go_enter Try.func94, Try.ntmps94
  go_wp2
  go_ret
  exact ⟨ret_int (by omega), rfl⟩

set_option maxHeartbeats 400000 in
theorem rightOf_any (d : Nat) (hd : d < 4) (w : World) :
    Calls Try.prog 95 #[.int .i64 d] w fun e w' => e = .returned (.int .i64 ((d + 3) % 4 : Nat)) ∧ w' = w := by
  go_enter Try.func95, Try.ntmps95
  go_wp2
  go_ret
  exact ⟨ret_int (by omega), rfl⟩

set_option maxHeartbeats 400000 in
theorem end_any (x y : Int) (d : Nat) (hd : d < 4) (hx : -1000 ≤ x ∧ x ≤ 1000) (hy : -1000 ≤ y ∧ y ≤ 1000) (w : World) :
    Calls Try.prog 93 #[.agg #[.int .i64 x, .int .i64 y, .int .i64 d]] w fun e w' => e = .returned (.agg #[.int .i64 (Qm.en (x, y, d)).1, .int .i64 (Qm.en (x, y, d)).2]) ∧ ∃ o1 o2 o3, w' = ((w.alloc (.cells o1 107)).alloc (.cells o2 47)).alloc (.cells o3 47) := by
  match d, hd with
  | 0, _ =>
    go_enter Try.func93, Try.ntmps93
    go_wp2
    refine bodyPost_ret (v := .agg #[.int .i64 x, .int .i64 (y + 1)]) (by simp [results, Try.results93, go_sem]) rfl ?_
    exact ⟨rfl, _, _, _, rfl⟩
  | 1, _ =>
    go_enter Try.func93, Try.ntmps93
    go_wp2
    refine bodyPost_ret (v := .agg #[.int .i64 (x + 1), .int .i64 y]) (by simp [results, Try.results93, go_sem]) rfl ?_
    exact ⟨rfl, _, _, _, rfl⟩
  | 2, _ =>
    go_enter Try.func93, Try.ntmps93
    go_wp2
    refine bodyPost_ret (v := .agg #[.int .i64 x, .int .i64 (y - 1)]) (by simp [results, Try.results93, go_sem]) rfl ?_
    exact ⟨rfl, _, _, _, rfl⟩
  | 3, _ =>
    go_enter Try.func93, Try.ntmps93
    go_wp2
    refine bodyPost_ret (v := .agg #[.int .i64 (x - 1), .int .i64 y]) (by simp [results, Try.results93, go_sem]) rfl ?_
    exact ⟨rfl, _, _, _, rfl⟩
end Go.Proofs.Ytljfiefobnncaaa
