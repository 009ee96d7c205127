/- Walks of the small functions under Read. -/
import Derived.Test.YtljfiefobnncaaaDoorWa
import Derived.Test.YtljfiefobnncaaaDoorPr
namespace Go.Proofs.YtljfiefobnncaaaDoor
open Go.RowKit

theorem hidr {p : Prop} (h : p) : Hid p := h

set_option maxRecDepth 4000 in
set_option maxHeartbeats 400000 in
theorem isBlank_any (c : UInt8) (w : World) :
    Calls Tryd.prog 72 #[.int .u8 c.toNat] w fun e w' => e = .returned (.bool (Pm.blankB c)) ∧ w' = w := by
  have E := hidr (Pm.blankB_eq c)
  cases q1 : ((c.toNat : Int) == 32) <;> cases q2 : ((c.toNat : Int) == 10) <;> cases q3 : ((c.toNat : Int) == 9)
  all_goals
    go_enter Tryd.func72, Tryd.ntmps72
    go_wp2
    go_ret
    exact ⟨ret_bool (by rw [E.out, q1, q2, q3]; rfl), rfl⟩

set_option maxRecDepth 4000 in
set_option maxHeartbeats 400000 in
theorem blank_any (c : UInt8) (w : World) :
    Calls Tryd.prog 42 #[.int .u8 c.toNat] w fun e w' => e = .returned (.bool (Pm.blankB c)) ∧ w' = w := by
  have E := hidr (Pm.blankB_eq c)
  cases q1 : ((c.toNat : Int) == 32) <;> cases q2 : ((c.toNat : Int) == 10) <;> cases q3 : ((c.toNat : Int) == 9)
  all_goals
    go_enter Tryd.func42, Tryd.ntmps42
    go_wp2
    go_ret
    exact ⟨ret_bool (by rw [E.out, q1, q2, q3]; rfl), rfl⟩

set_option maxRecDepth 4000 in
set_option maxHeartbeats 400000 in
theorem isDigit_any (c : UInt8) (w : World) :
    Calls Tryd.prog 90 #[.int .u8 c.toNat] w fun e w' => e = .returned (.bool (Pm.digitB c)) ∧ w' = w := by
  have E := hidr (Pm.digitB_eq c)
  cases q1 : decide ((48 : Int) ≤ c.toNat)
  all_goals
    go_enter Tryd.func90, Tryd.ntmps90
    go_wp2
    go_ret
    exact ⟨ret_bool (by rw [E.out, q1]; rfl), rfl⟩

set_option maxRecDepth 4000 in
set_option maxHeartbeats 400000 in
theorem digit_any (c : UInt8) (w : World) :
    Calls Tryd.prog 58 #[.int .u8 c.toNat] w fun e w' => e = .returned (.bool (Pm.digitB c)) ∧ w' = w := by
  have E := hidr (Pm.digitB_eq c)
  cases q1 : decide ((48 : Int) ≤ c.toNat)
  all_goals
    go_enter Tryd.func58, Tryd.ntmps58
    go_wp2
    go_ret
    exact ⟨ret_bool (by rw [E.out, q1]; rfl), rfl⟩

set_option maxRecDepth 4000 in
set_option maxHeartbeats 400000 in
theorem wrongAt_any (s : ByteArray) (a : Nat) (w : World) :
    Calls Tryd.prog 68 #[.string s, .int .i64 a] w fun e w' => e = .returned (.int .i64 (Pm.lackE s.size a)) ∧ w' = w := by
  by_cases h : s.size ≤ a
  · go_enter Tryd.func68, Tryd.ntmps68
    go_wp2
    go_ret
    exact ⟨ret_int (Pm.lackE_short h).symm, rfl⟩
  · go_enter Tryd.func68, Tryd.ntmps68
    go_wp2
    go_ret
    exact ⟨ret_int (Pm.lackE_syntax h).symm, rfl⟩

set_option maxRecDepth 4000 in
set_option maxHeartbeats 400000 in
theorem lacks_any (s : ByteArray) (a : Nat) (ha : a ≤ s.size) (w : World) :
    Calls Tryd.prog 18 #[.string s, .int .i64 a] w fun e w' => e = .returned (.tuple #[.int .i64 (Pm.lackE s.size a), .int .i64 a]) ∧ w' = w := by
  by_cases h : s.size ≤ a
  · have e : a = s.size := by omega
    subst e
    go_enter Tryd.func18, Tryd.ntmps18
    go_wp2
    go_ret2
    exact ⟨by rw [Pm.lackE_short h]; rfl, rfl⟩
  · go_enter Tryd.func18, Tryd.ntmps18
    go_wp2
    go_ret2
    exact ⟨by rw [Pm.lackE_syntax h]; rfl, rfl⟩

set_option maxRecDepth 4000 in
set_option maxHeartbeats 400000 in
theorem at_in (s : ByteArray) (a : Nat) (ha : a < s.size) (w : World) :
    Calls Tryd.prog 17 #[.string s, .int .i64 a] w fun e w' => e = .returned (.tuple #[.int .u8 s[a].toNat, .bool true]) ∧ w' = w := by
  go_enter Tryd.func17, Tryd.ntmps17
  go_wp2
  go_ret2
  exact ⟨rfl, rfl⟩

set_option maxRecDepth 4000 in
set_option maxHeartbeats 400000 in
theorem at_out (s : ByteArray) (a : Nat) (ha : ¬ a < s.size) (w : World) :
    Calls Tryd.prog 17 #[.string s, .int .i64 a] w fun e w' => e = .returned (.tuple #[.int .u8 0, .bool false]) ∧ w' = w := by
  go_enter Tryd.func17, Tryd.ntmps17
  go_wp2
  go_ret2
  exact ⟨rfl, rfl⟩
end Go.Proofs.YtljfiefobnncaaaDoor
