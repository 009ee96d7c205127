/- outlineref.Write. -/
import Derived.Test.YtljfiefobnncaaaDoorWb
import Derived.Test.YtljfiefobnncaaaDoorWc
import Derived.Test.YtljfiefobnncaaaDoorWe
import Derived.Deep.RegionWith
import Derived.Deep.QuietTactic
import Derived.BigQuiet
namespace Go.Proofs.YtljfiefobnncaaaDoor
open Go.RowKit

set_option maxRecDepth 4000 in
set_option maxHeartbeats 400000 in
theorem refWrite_no (W H : Int) (s : ByteArray) (w : World) (hg : Pm.goodB W H s.data.toList = false) :
    Calls Tryd.prog 10 #[.agg #[.int .i64 W, .int .i64 H, .string s]] w fun e w' => e = .returned (.tuple #[.string ⟨#[]⟩, .int .i64 4]) ∧ Below w.heap.size w w' := by
  go_enter Tryd.func10, Tryd.ntmps10
  go_wp2_with (go_at_call 23; refine (good_any W H s _).mono ?_; rintro e w' ⟨rfl, rfl⟩; rw [hg])
  go_ret2
  exact ⟨rfl, ((Below.refl _ _).alloc (Nat.le_refl _) _).alloc (by simp) _⟩

/-- The box of a bitmap at block B stands; below it all is as it was. -/
def Inb (B : Nat) (W H : Nat) (s : ByteArray) (w wr : World) : Prop :=
  wr.cell? ⟨B, 0, none⟩ = some (.int .i64 W) ∧ wr.cell? ⟨B, 1, none⟩ = some (.int .i64 H) ∧ wr.cell? ⟨B, 2, none⟩ = some (.string s) ∧ Below B w wr ∧ B < wr.heap.size
theorem Inb.on {B W H : Nat} {s : ByteArray} {w wr w2 : World} (h : Inb B W H s w wr) (hb : Below wr.heap.size wr w2) : Inb B W H s w w2 := by
  obtain ⟨c0, c1, c2, hn, hz⟩ := h
  exact ⟨(hb.cell (p := ⟨B, 0, none⟩) hz).trans c0, (hb.cell (p := ⟨B, 1, none⟩) hz).trans c1, (hb.cell (p := ⟨B, 2, none⟩) hz).trans c2, hn.trans (hb.mono (Nat.le_of_lt hz)), Nat.lt_of_lt_of_le hz hb.size⟩
theorem Inb.alloc {B W H : Nat} {s : ByteArray} {w wr : World} (h : Inb B W H s w wr) (o : Obj) : Inb B W H s w (wr.alloc o) :=
  h.on ((Below.refl _ _).alloc (Nat.le_refl _) _)

/-- 'string([]byte{b})'. -/
theorem one_byte (b : UInt8) (v : Int) (hv : v = (b.toNat : Int)) (wx : World) :
    Sem.run Tryd.prog (convert 55 9 (.slice (some ⟨wx.heap.size, 0, none⟩) 1 1)) (wx.alloc (.cells #[.int .u8 v] 5)) = .ok (.string ⟨#[b]⟩) (wx.alloc (.cells #[.int .u8 v] 5)) := by
  subst hv
  refine run_convert_bytes_back (P := Tryd.prog) (wx.alloc (.cells #[.int .u8 (b.toNat : Int)] 5)) 55 9 5 ⟨wx.heap.size, 0, none⟩ 1 [b] Tryd.underlying55 Tryd.underlying5 Tryd.underlying9 (fun j hj => ?_)
  match j, hj with
  | 0, _ => simp [Addr.add]

set_option maxRecDepth 4000 in
set_option maxHeartbeats 1000000 in
theorem refWrite_yes (W H : Nat) (s : ByteArray) (w : World) (hw1 : 1 ≤ W) (hw2 : W ≤ 32) (hh1 : 1 ≤ H) (hh2 : H ≤ 32) (hl : s.size = W * H) (hg : Pm.goodB W H s.data.toList = true) :
    Calls Tryd.prog 10 #[.agg #[.int .i64 W, .int .i64 H, .string s]] w fun e w' => e = .returned (.tuple #[.string ⟨(Pm.writeTo W H s.data.toList H).toArray⟩, .int .i64 0]) ∧ Below w.heap.size w w' := by
  have HL := hid hl
  have hg2 := hid hg
  clear hl hg
  have iw := Pm.itoaL_len W
  have ih := Pm.itoaL_len H
  go_enter Tryd.func10, Tryd.ntmps10
  go_wp2_with (go_at_call 23; refine (good_any W H s _).mono ?_; rintro e w' ⟨rfl, rfl⟩; rw [hg2.out])
  go_quiet ((first | (go_at_call_of 24 (Value.int .i64 (W : Nat)); exact Calls.quiet_of_same (itoa_any W (by omega) _)) | (go_at_call_of 24 (Value.int .i64 (H : Nat)); exact Calls.quiet_of_same (itoa_any H (by omega) _))))
  go_wp2
  go_loopw [5, 6] (fun f i wr => ∃ (y : Nat) (F : ByteArray), y ≤ H ∧ i = .int .i64 y ∧ f = .string F ∧ Hid (F.data.toList = Pm.writeTo W H s.data.toList y) ∧ F.size ≤ 20 + 8 * y ∧ Inb w.heap.size W H s w wr) (fun _ i _ => H - (intOf i).toNat)
  case atStart => exact ⟨0, _, by omega, rfl, rfl, Pm.head_data W H, Pm.head_size W H, by simp, by simp, by simp, (((Below.refl _ _).alloc (Nat.le_refl _) _).alloc (by simp) _).trans ⟨rfl, rfl, rfl, Nat.le_refl _, fun _ _ => rfl⟩, by simp; omega⟩
  case round =>
    obtain ⟨y, F, hy, rfl, rfl, hF, hFs, c0, c1, c2, hnx, hsz⟩ := hrel
    by_cases hlt : y < H
    · go_wp2
      go_loopw [5, 7] (fun f i wr => ∃ (m : Nat) (G : ByteArray), 8 * m ≤ W + 7 ∧ i = .int .i64 (8 * (m : Int)) ∧ f = .string G ∧ Hid (G.data.toList = Pm.writeTo W H s.data.toList y ++ Pm.packTo (Pm.rowOf s.data.toList W y) m) ∧ G.size ≤ 20 + 8 * y + m ∧ Inb w.heap.size W H s w wr) (fun _ i _ => W + 8 - (intOf i).toNat)
      case atStart => exact ⟨0, _, by omega, rfl, rfl, by show _ = _; simpa [Pm.packTo] using hF.out, by omega, c0, c1, c2, hnx, hsz⟩
      case round =>
        clear c0 c1 c2 hnx hsz
        obtain ⟨m, G, hm, rfl, rfl, hG, hGs, c0, c1, c2, hnx, hsz⟩ := hrel
        by_cases hx : 8 * m < W
        · have hx' : 8 * (m : Int) < (W : Int) := by omega
          go_wp2
          go_loopw [8, 9] (fun v i wr => ∃ (k : Nat), k ≤ 8 ∧ i = .int .i64 k ∧ v = .int .i64 (Pm.colV W H s.data.toList m y k : Nat) ∧ Inb w.heap.size W H s w wr) (fun _ i _ => 8 - (intOf i).toNat)
          case atStart => exact ⟨0, by omega, rfl, rfl, c0, c1, c2, hnx, hsz⟩
          case round =>
            clear c0 c1 c2 hnx hsz
            obtain ⟨k, hk, rfl, rfl, c0, c1, c2, hnx, hsz⟩ := hrel
            by_cases hk8 : k < 8
            · have hc := Pm.colV_lt W H s.data.toList m y k hk8
              cases hq : Pm.blackB W H s.data.toList (8 * (m : Int) + (k : Nat)) y
              · have E := hid (Pm.colV_no W H s.data.toList m y k hq)
                go_wp2_with (go_at_call 25; refine (black_any W H s _ _ _ hw2 hh2 HL.out).mono ?_; rintro e w2 ⟨rfl, rfl⟩; rw [hq])
                go_roundw
                case rel => exact ⟨k + 1, by omega, by go_num, by rw [E.out]; go_num, Inb.alloc ⟨c0, c1, c2, hnx, hsz⟩ _⟩
                case measure => simp [intOf]; omega
              · have E := hid (Pm.colV_yes W H s.data.toList m y k hq)
                go_wp2_with (go_at_call 25; refine (black_any W H s _ _ _ hw2 hh2 HL.out).mono ?_; rintro e w2 ⟨rfl, rfl⟩; rw [hq])
                go_roundw
                case rel => exact ⟨k + 1, by omega, by go_num, by rw [E.out]; go_num, Inb.alloc ⟨c0, c1, c2, hnx, hsz⟩ _⟩
                case measure => simp [intOf]; omega
            · obtain rfl : k = 8 := by omega
              have hc := Pm.byte_row W H s.data.toList m y hlt
              have hcv := one_byte (Pm.byteAt (Pm.rowOf s.data.toList W y) (8 * m)) ((Pm.colV W H s.data.toList m y 8 : Int) % 256) (by have := Pm.colV_le W H s.data.toList m y 8 (by omega); omega) wr
              have D := hid (Pm.mid_data G _ _ m hG.out)
              clear hc
              go_wp2
              go_roundw
              case rel => exact ⟨m + 1, _, by omega, by go_num, rfl, D, Pm.one_size G _ _ hGs, Inb.alloc ⟨c0, c1, c2, hnx, hsz⟩ _⟩
              case measure => simp [intOf]; omega
        · have e := hid (Pm.mid_end W H s.data.toList y m (by simpa using HL.out) hlt hm (by omega))
          go_wp2
          go_roundw
          case rel => exact ⟨y + 1, G, by omega, by go_num, rfl, hG.out.trans e.out, by omega, c0, c1, c2, hnx, hsz⟩
          case measure => simp [intOf]; omega
    · go_wp2
      go_ret2
      refine ⟨?_, hnx⟩
      rw [Pm.of_data F _ hF.out, show y = H from by omega]; rfl
end Go.Proofs.YtljfiefobnncaaaDoor
