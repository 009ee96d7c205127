/- outlineref.Write. -/
import Derived.Test.YtljfiefobnncaaaWb
import Derived.Test.YtljfiefobnncaaaWc
import Derived.Test.YtljfiefobnncaaaWe
import Derived.Deep.RegionWith
import Derived.Deep.QuietTactic
import Derived.BigQuiet
namespace Go.Proofs.Ytljfiefobnncaaa
open Go.RowKit



/-- The box of a bitmap at block B stands; below it all is as it was. -/
def Inb (B : Nat) (W H : Nat) (s : ByteArray) (w wr : World) : Prop :=
  wr.cell? ⟨B, 0, none⟩ = some (.int .i64 W) ∧ wr.cell? ⟨B, 1, none⟩ = some (.int .i64 H) ∧ wr.cell? ⟨B, 2, none⟩ = some (.string s) ∧ Below B w wr ∧ B < wr.heap.size
theorem Inb.on {B W H : Nat} {s : ByteArray} {w wr w2 : World} (h : Inb B W H s w wr) (hb : Below wr.heap.size wr w2) : Inb B W H s w w2 := by
  obtain ⟨c0, c1, c2, hn, hz⟩ := h
  exact ⟨(hb.cell (p := ⟨B, 0, none⟩) hz).trans c0, (hb.cell (p := ⟨B, 1, none⟩) hz).trans c1, (hb.cell (p := ⟨B, 2, none⟩) hz).trans c2, hn.trans (hb.mono (Nat.le_of_lt hz)), Nat.lt_of_lt_of_le hz hb.size⟩
theorem Inb.alloc {B W H : Nat} {s : ByteArray} {w wr : World} (h : Inb B W H s w wr) (o : Obj) : Inb B W H s w (wr.alloc o) :=
  h.on ((Below.refl _ _).alloc (Nat.le_refl _) _)

/-- 'string([]byte{b})'. -/
theorem one_byte (b : UInt8) (v : Int) (hv : v = (b.toNat : Int)) (wx : World) :
    Sem.run Try.prog (convert 76 9 (.slice (some ⟨wx.heap.size, 0, none⟩) 1 1)) (wx.alloc (.cells #[.int .u8 v] 5)) = .ok (.string ⟨#[b]⟩) (wx.alloc (.cells #[.int .u8 v] 5)) := by
  subst hv
  refine run_convert_bytes_back (P := Try.prog) (wx.alloc (.cells #[.int .u8 (b.toNat : Int)] 5)) 76 9 5 ⟨wx.heap.size, 0, none⟩ 1 [b] Try.underlying76 Try.underlying5 Try.underlying9 (fun j hj => ?_)
  match j, hj with
  | 0, _ => simp [Addr.add]

end Go.Proofs.Ytljfiefobnncaaa