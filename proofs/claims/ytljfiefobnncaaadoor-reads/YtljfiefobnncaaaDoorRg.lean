/- unpackRow. -/
import Derived.Test.YtljfiefobnncaaaDoorWc
import Derived.Test.YtljfiefobnncaaaDoorPs
namespace Go.Proofs.YtljfiefobnncaaaDoor
open Go.RowKit

set_option maxRecDepth 4000 in
set_option maxHeartbeats 1000000 in
theorem unpackRow_any (s : ByteArray) (n : Nat) (h1 : 1 ≤ n) (hn : n ≤ 32) (hs : n ≤ 8 * s.size) (hs2 : s.size ≤ 1024) (w : World) :
    Calls Tryd.prog 73 #[.string s, .int .i64 n] w fun e w' => e = .returned (.string ⟨(Pm.rowTo s.data.toList 0 n).toArray⟩) ∧ Below w.heap.size w w' := by
  obtain ⟨i0, hi, hz0, hz1, hz2⟩ := info_parts infoByte
  go_enter Tryd.func73, Tryd.ntmps73
  go_wp2
  go_loopw [5, 6] (fun v x wr => ∃ (k : Nat), k ≤ n ∧ x = .int .i64 k ∧ wr.ownsRow w.heap.size 5 1 v k (cellsOf (Pm.rowTo s.data.toList 0 k)) ∧ Below w.heap.size w wr) (fun _ x _ => n - (intOf x).toNat)
  case atStart => exact ⟨0, by omega, rfl, World.ownsRow_nil _ _ _ _, Below.refl _ _⟩
  case round =>
    obtain ⟨k, hk, rfl, hown, hnx⟩ := hrel
    have hsz := hnx.size
    by_cases hlt : k < n
    · have hd : k / 8 < s.size := by omega
      have eb := Pm.bit_walk s[k / 8] (k % 8)
      have bl := Pm.bitOf_le s[k / 8] (k % 8)
      have PV : Hid ((Pm.pixAt s.data.toList 0 k).toNat = 48 + Pm.bitOf s[k / 8] (k % 8)) := by
        show _ = _
        rw [Pm.pixAt_toNat, Nat.zero_add, Pm.getD_at s (k / 8) hd]
      have hd2 : (k : Int) / 8 < (s.size : Int) := by omega
      have hd3 : 0 ≤ (k : Int) / 8 := by omega
      go_wp2_with (first
        | (at_builtin; refine wpList_append_own _ rfl _ _ 55 rfl w.heap.size 5 i0 (.int .u8 0) 1 1 Tryd.underlying55 hi hz0 hz1 hz2 rfl (by decide) _ _ _ rfl (hown.alloc _) ⟨_, 0, none⟩ 1 1 [.int .u8 ((48 + (Pm.bitOf s[k / 8] (k % 8) : Int)))] rfl rfl ?c1 ?c2 ?c3 ?c4 ?c5 ?_))
      case c1 =>
        intro j' u hj'
        match j', hj' with
        | 0, hj' => simp at hj'; subst hj'; simp [Addr.add]
      case c2 => intro u hu; simp at hu; subst hu; rfl
      case c3 => unfold maxLen; omega
      case c4 => omega
      case c5 => simp; omega
      · intro v' w1 hown' hgrow _
        have hb : Below w.heap.size w w1 := (hnx.alloc (by omega) _).grown hgrow (by simp; omega) (fun k hk => (hown.lt k hk).1)
        have ho : w1.ownsRow w.heap.size 5 1 v' (k + 1) (cellsOf (Pm.rowTo s.data.toList 0 (k + 1))) := by
          rw [Pm.rowTo_succ, cellsOf_snoc, PV.out]; exact hown'
        clear hown' hgrow hown
        go_wp2
        go_roundw
        case rel => exact ⟨k + 1, by omega, by go_num, ho, hb⟩
        case measure => simp [intOf]; omega
    · have hkn : Hid (k = n) := show k = n by omega
      have hk1 : 0 < k := by omega
      obtain ⟨l, hl⟩ : ∃ l, l = Pm.rowTo s.data.toList 0 k := ⟨_, rfl⟩
      have hll : l.length = k := by rw [hl, Pm.rowTo_length]
      rw [← hl] at hown
      have HL := hid hl
      clear hl
      rcases hown.2 with ⟨-, h0⟩ | ⟨g, cap, cur, rfl, -, -, -, -, -, -⟩
      · omega
      · subst hll
        have hcv := run_convert_bytes_back (P := Tryd.prog) wr 55 9 5 ⟨g, 0, none⟩ cap l Tryd.underlying55 Tryd.underlying5 Tryd.underlying9 (fun j hj => hown.cells (g := g) rfl j _ (by simp [cellsOf, hj]))
        go_wp2
        go_ret
        refine ⟨ret_string ?_, hnx⟩
        rw [← hkn.out, ← HL.out]
end Go.Proofs.YtljfiefobnncaaaDoor
