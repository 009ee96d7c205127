import Derived.Test.YtljfiefobnncaaaDoorRows
import Derived.Test.YtljfiefobnncaaaDoorK03
import Derived.WalkKit
import Derived.WalkSpells
import Derived.WalkLawsBesides
import Derived.Test.YtljfiefobnncaaaDoorK02
import Derived.Handy
import Derived.Deep.QuietTactic
import Derived.BigQuiet
import Derived.Deep.RegionHeld3
import Derived.Deep.DrawnRows
import Derived.Test.YtljfiefobnncaaaDoorK04

/- Walks of the small functions under Read and Write. -/
namespace Go.Proofs.YtljfiefobnncaaaDoor
open Go.RowKit

theorem ret_string {a b : ByteArray} (h : a = b) : Ending.returned (.string a) = .returned (.string b) := by rw [h]
theorem ret_bool {a b : Bool} (h : a = b) : Ending.returned (.bool a) = .returned (.bool b) := by rw [h]
theorem ret_int {k : IntKind} {a b : Int} (h : a = b) : Ending.returned (.int k a) = .returned (.int k b) := by rw [h]

set_option maxRecDepth 4000 in
set_option maxHeartbeats 400000 in
theorem isSide_any (n : Int) (w : World) :
    Calls Tryd.prog 59 #[.int .i64 n] w fun e w' => e = .returned (.bool (Pm.sideB n)) ∧ w' = w := by
  by_cases h1 : 1 ≤ n
  · by_cases h2 : n ≤ 32
    · go_enter Tryd.func59, Tryd.ntmps59
      go_wp2
      go_ret
      exact ⟨ret_bool (Pm.sideB_yes h1 h2).symm, rfl⟩
    · go_enter Tryd.func59, Tryd.ntmps59
      go_wp2
      go_ret
      exact ⟨ret_bool (Pm.sideB_high (n := n) (by omega)).symm, rfl⟩
  · go_enter Tryd.func59, Tryd.ntmps59
    go_wp2
    go_ret
    exact ⟨ret_bool (Pm.sideB_low (by omega)).symm, rfl⟩

set_option maxRecDepth 100000 in
set_option maxHeartbeats 400000 in
theorem small_any (n : Nat) (h : n < 33) (w : World) :
    Calls Tryd.prog 74 #[.int .i64 n] w fun e w' => e = .returned (.string ⟨(Pm.itoaL n).toArray⟩) ∧ w' = w := by
  by_cases h1 : n < 10
  · go_enter Tryd.func74, Tryd.ntmps74
    go_wp2
    go_ret
    exact ⟨ret_string (Pm.cut_one n h1), rfl⟩
  · go_enter Tryd.func74, Tryd.ntmps74
    go_wp2
    go_ret
    exact ⟨ret_string (Pm.cut_two' n h (by omega) _ _ (by omega) (by omega)), rfl⟩

set_option maxRecDepth 4000 in
set_option maxHeartbeats 400000 in
theorem formatInt_any (n : Nat) (h : n < 33) (w : World) :
    Calls Tryd.prog 61 #[.int .i64 n, .int .i64 10] w fun e w' => e = .returned (.string ⟨(Pm.itoaL n).toArray⟩) ∧ w' = w := by
  go_enter Tryd.func61, Tryd.ntmps61
  go_wp2_with (go_at_call 74; refine (small_any n h _).mono ?_; rintro e w' ⟨rfl, rfl⟩)
  go_ret
  exact ⟨rfl, rfl⟩

set_option maxRecDepth 4000 in
set_option maxHeartbeats 400000 in
theorem itoa_any (n : Nat) (h : n < 33) (w : World) :
    Calls Tryd.prog 24 #[.int .i64 n] w fun e w' => e = .returned (.string ⟨(Pm.itoaL n).toArray⟩) ∧ w' = w := by
  go_enter Tryd.func24, Tryd.ntmps24
  go_wp2_with (first | (go_at_call 61; refine (formatInt_any n h _).mono ?_; rintro e w' ⟨rfl, rfl⟩) | go_in)
  go_ret
  exact ⟨rfl, rfl⟩

end Go.Proofs.YtljfiefobnncaaaDoor

/- packByte, packRow. -/
namespace Go.Proofs.YtljfiefobnncaaaDoor
open Go.RowKit

set_option maxRecDepth 4000 in
set_option maxHeartbeats 400000 in
theorem packByte_any (s : ByteArray) (n : Nat) (hs : s.size ≤ 1024) (hn : n ≤ 1024) (w : World) :
    Calls Tryd.prog 60 #[.string s, .int .i64 n] w fun e w' => e = .returned (.int .u8 (Pm.byteAt s.data.toList n).toNat) ∧ w' = w := by
  go_enter Tryd.func60, Tryd.ntmps60
  go_wp2
  go_loop [5, 6] (fun v x => ∃ k : Nat, k ≤ 8 ∧ x = .int .i64 (n + k : Nat) ∧ v = .int .u8 (Pm.packV (fun i => Pm.bitAt s.data.toList (n + i)) k : Nat)) (fun _ x => n + 8 - (intOf x).toNat)
  case atStart => exact ⟨0, Nat.zero_le _, rfl, rfl⟩
  case round =>
    obtain ⟨k, hk, rfl, rfl⟩ := hrel
    by_cases hlt : k < 8
    · have hv := Pm.packV_le' (fun i => Pm.bitAt s.data.toList (n + i)) k hlt
      by_cases hi : n + k < s.size
      · by_cases h1 : (s[n + k].toNat : Int) = 49
        · have e := Pm.packV_yes (fun i => Pm.bitAt s.data.toList (n + i)) k (Pm.bitAt_yes s _ hi h1)
          have E : Hid _ := e
          clear e
          go_wp2
          go_round
          case rel => exact ⟨k + 1, by omega, by go_num, by rw [E.out]; go_num⟩
          case measure => simp [intOf]; omega
        · have e := Pm.packV_no (fun i => Pm.bitAt s.data.toList (n + i)) k (Pm.bitAt_no s _ hi h1)
          have E : Hid _ := e
          clear e
          go_wp2
          go_round
          case rel => exact ⟨k + 1, by omega, by go_num, by rw [E.out]; go_num⟩
          case measure => simp [intOf]; omega
      · have e := Pm.packV_no (fun i => Pm.bitAt s.data.toList (n + i)) k (Pm.bitAt_out s _ hi)
        have E : Hid _ := e
        clear e
        go_wp2
        go_round
        case rel => exact ⟨k + 1, by omega, by go_num, by rw [E.out]; go_num⟩
        case measure => simp [intOf]; omega
    · go_wp2
      go_ret
      exact ⟨ret_int (by rw [Pm.byteAt_toNat, show k = 8 from by omega]), rfl⟩

theorem infoByte : (Tryd.prog.info? 5).map (fun i => (i.zero, i.size, i.bytes)) = some (some (.int .u8 0), 1, 1) := by kernel_rfl
def cellsOf (l : List UInt8) : List Value := l.map fun b => .int .u8 b.toNat
theorem cellsOf_snoc (l : List UInt8) (b : UInt8) : cellsOf (l ++ [b]) = cellsOf l ++ [.int .u8 b.toNat] := by simp [cellsOf]
theorem hid {p : Prop} (h : p) : Hid p := h

set_option maxRecDepth 4000 in
set_option maxHeartbeats 400000 in
theorem packRow_any (s : ByteArray) (h0 : 1 ≤ s.size) (hs : s.size ≤ 1024) (w : World) :
    Calls Tryd.prog 44 #[.string s] w fun e w' => e = .returned (.string ⟨(Pm.packRow s.data.toList).toArray⟩) ∧ Below w.heap.size w w' := by
  obtain ⟨i0, hi, hz0, hz1, hz2⟩ := info_parts infoByte
  go_enter Tryd.func44, Tryd.ntmps44
  go_wp2
  go_loopw [3, 4] (fun v x wr => ∃ m : Nat, 8 * m ≤ s.size + 7 ∧ x = .int .i64 (8 * m : Nat) ∧ wr.ownsRow w.heap.size 5 1 v m (cellsOf (Pm.packTo s.data.toList m)) ∧ Below w.heap.size w wr) (fun _ x _ => s.size + 8 - (intOf x).toNat)
  case atStart => exact ⟨0, by omega, rfl, World.ownsRow_nil _ _ _ _, Below.refl _ _⟩
  case round =>
    obtain ⟨m, hm, rfl, hown, hnx⟩ := hrel
    have hsz := hnx.size
    by_cases hlt : 8 * m < s.size
    · go_wp2_with (first
        | (go_at_call 60; refine (packByte_any s (8 * m) hs (by omega) _).mono ?_; rintro e w' ⟨rfl, rfl⟩)
        | (at_builtin; refine wpList_append_own _ rfl _ _ 55 rfl w.heap.size 5 i0 (.int .u8 0) 1 1 Tryd.underlying55 hi hz0 hz1 hz2 rfl (by decide) _ _ _ rfl (hown.alloc _) ⟨_, 0, none⟩ 1 1 [.int .u8 (Pm.byteAt s.data.toList (8 * m)).toNat] rfl rfl ?c1 ?c2 ?c3 ?c4 ?c5 ?_))
      case c1 =>
        intro j u hj
        match j, hj with
        | 0, hj => simp at hj; subst hj; simp [Addr.add]
      case c2 => intro u hu; simp at hu; subst hu; rfl
      case c3 => unfold maxLen; omega
      case c4 => omega
      case c5 => simp; omega
      · intro v' w1 hown' hgrow _
        rename_i w2 _ _ _
        have hb : Below w.heap.size w w1 := (hnx.alloc (by omega) _).grown hgrow (by simp; omega) (fun k hk => (hown.lt k hk).1)
        have ho : w1.ownsRow w.heap.size 5 1 v' (m + 1) (cellsOf (Pm.packTo s.data.toList (m + 1))) := by rw [Pm.packTo_succ, cellsOf_snoc]; exact hown'
        clear hown' hgrow hown
        go_wp2
        go_roundw
        case rel => exact ⟨m + 1, by omega, by go_num, ho, hb⟩
        case measure => simp [intOf]; omega
    · have hm1 : 0 < m := by omega
      have e : Hid (m = (s.data.toList.length + 7) / 8) := by show _ = _; simp only [Array.length_toList]; show m = (s.size + 7) / 8; omega
      obtain ⟨l, hl⟩ : ∃ l, l = Pm.packTo s.data.toList m := ⟨_, rfl⟩
      have hll : l.length = m := by rw [hl, Pm.packTo_length]
      rw [← hl] at hown
      have HL := hid hl
      clear hl
      rcases hown.2 with ⟨-, h0⟩ | ⟨g, cap, cur, rfl, -, -, -, -, -, -⟩
      · omega
      · subst hll
        have hcv := run_convert_bytes_back (P := Tryd.prog) wr 55 9 5 ⟨g, 0, none⟩ cap l Tryd.underlying55 Tryd.underlying5 Tryd.underlying9 (fun j hj => hown.cells (g := g) rfl j _ (by simp [cellsOf, hj]))
        go_wp2
        go_ret
        refine ⟨ret_string ?_, hnx⟩
        rw [HL.out, e.out]; rfl
end Go.Proofs.YtljfiefobnncaaaDoor

/- bitmap.IsBlack, and the small functions of package cycles. -/
namespace Go.Proofs.YtljfiefobnncaaaDoor
open Go.RowKit







end Go.Proofs.YtljfiefobnncaaaDoor
/- pixelBetween, isSide of package cycles. -/
namespace Go.Proofs.YtljfiefobnncaaaDoor
open Go.RowKit





end Go.Proofs.YtljfiefobnncaaaDoor

/- isSide of package cycles. -/
namespace Go.Proofs.YtljfiefobnncaaaDoor
open Go.RowKit
attribute [local go_sem ↓] Go.wp_at_zero Go.wp_at_succ

/-- A block's cells stand, and may be written. -/
def At (w : World) (b : Nat) (cs : List Value) : Prop := b < w.heap.size ∧ (∀ j v, cs[j]? = some v → w.cell? ⟨b, j, none⟩ = some v) ∧ (∀ j, j < cs.length → w.frozen? ⟨b, j, none⟩ = false)
theorem At.on {w w' : World} {b B : Nat} {cs : List Value} (h : At w b cs) (hb : Below B w w') (hB : b < B) : At w' b cs :=
  ⟨Nat.lt_of_lt_of_le h.1 hb.size, fun j v hj => (hb.cell (p := ⟨b, j, none⟩) hB).trans (h.2.1 j v hj), fun j hj => (hb.frozen (p := ⟨b, j, none⟩) hB).trans (h.2.2 j hj)⟩
theorem At.call {w w' : World} {b : Nat} {cs : List Value} (h : At w b cs) (hb : Below w.heap.size w w') : At w' b cs := h.on hb h.1
theorem At.new (w : World) (cs : List Value) (t : TypeId) : At (w.alloc (.cells cs.toArray t)) w.heap.size cs := by
  refine ⟨by simp, fun j v hj => ?_, fun j hj => by simp⟩
  simp [hj]
theorem At.alloc {w : World} {b : Nat} {cs : List Value} (h : At w b cs) (o : Obj) : At (w.alloc o) b cs := h.call ((Below.refl _ _).alloc (Nat.le_refl _) _)

end Go.Proofs.YtljfiefobnncaaaDoor
/- blackAround, isDrawn, joins of package cycles. -/
namespace Go.Proofs.YtljfiefobnncaaaDoor
open Go.RowKit
attribute [local go_sem ↓] Go.wp_at_zero Go.wp_at_succ

/-- A box of three cells and one of two behind it stand; below them all is as it was. -/
def Bp (B : Nat) (a b c x y : Value) (w wr : World) : Prop :=
  wr.cell? ⟨B, 0, none⟩ = some a ∧ wr.cell? ⟨B, 1, none⟩ = some b ∧ wr.cell? ⟨B, 2, none⟩ = some c ∧ wr.cell? ⟨B + 1, 0, none⟩ = some x ∧ wr.cell? ⟨B + 1, 1, none⟩ = some y ∧ Below B w wr ∧ B + 1 < wr.heap.size
theorem Bp.on {B : Nat} {a b c x y : Value} {w wr w2 : World} (h : Bp B a b c x y w wr) (hb : Below wr.heap.size wr w2) : Bp B a b c x y w w2 := by
  obtain ⟨c0, c1, c2, c3, c4, hn, hz⟩ := h
  have hz' : B < wr.heap.size := by omega
  exact ⟨(hb.cell (p := ⟨B, 0, none⟩) hz').trans c0, (hb.cell (p := ⟨B, 1, none⟩) hz').trans c1, (hb.cell (p := ⟨B, 2, none⟩) hz').trans c2, (hb.cell (p := ⟨B + 1, 0, none⟩) hz).trans c3, (hb.cell (p := ⟨B + 1, 1, none⟩) hz).trans c4, hn.trans (hb.mono (Nat.le_of_lt hz')), Nat.lt_of_lt_of_le hz hb.size⟩
theorem Bp.new (w : World) (a b c x y : Value) (t u : TypeId) : Bp w.heap.size a b c x y w ((w.alloc (.cells #[a, b, c] t)).alloc (.cells #[x, y] u)) :=
  ⟨by simp, by simp, by simp, by simp [go_sem], by simp [go_sem], ((Below.refl _ _).alloc (Nat.le_refl _) _).alloc (by simp) _, by simp⟩
theorem Bp.alloc {B : Nat} {a b c x y : Value} {w wr : World} (h : Bp B a b c x y w wr) (o : Obj) : Bp B a b c x y w (wr.alloc o) := h.on ((Below.refl _ _).alloc (Nat.le_refl _) _)

end Go.Proofs.YtljfiefobnncaaaDoor
/- isDrawn, joins of package cycles. -/
namespace Go.Proofs.YtljfiefobnncaaaDoor
open Go.RowKit
attribute [local go_sem ↓] Go.wp_at_zero Go.wp_at_succ



end Go.Proofs.YtljfiefobnncaaaDoor