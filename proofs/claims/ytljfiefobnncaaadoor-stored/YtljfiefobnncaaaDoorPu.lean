/- Plain facts on the P1 file of a bitmap. -/
import Derived.Test.YtljfiefobnncaaaDoorPt
namespace Go.Proofs.YtljfiefobnncaaaDoor.Pm

/-- What stands ahead of the pixels in the P1 file that the statement writes. -/
def head1 (w h : Nat) : List UInt8 := [80, 49, 32] ++ itoaL w ++ [10] ++ itoaL h ++ [10]
/-- The first i pixels, a newline behind each row. -/
def p1To (l : List UInt8) (w : Nat) : Nat → List UInt8
  | 0 => []
  | i + 1 => p1To l w i ++ ([l.getD i 0] ++ if i % w = w - 1 then [10] else [])
theorem p1To_yes (l : List UInt8) (w i : Nat) (h : i % w = w - 1) : p1To l w (i + 1) = p1To l w i ++ [l.getD i 0] ++ [10] := by
  rw [p1To, if_pos h, List.append_assoc]
theorem p1To_no (l : List UInt8) (w i : Nat) (h : ¬ i % w = w - 1) : p1To l w (i + 1) = p1To l w i ++ [l.getD i 0] := by
  rw [p1To, if_neg h, List.append_nil]
theorem head1_data (w h : Nat) {l : List UInt8} : ((⟨#[80, 49, 32]⟩ : ByteArray) ++ ⟨(itoaL w).toArray⟩ ++ ⟨#[10]⟩ ++ ⟨(itoaL h).toArray⟩ ++ ⟨#[10]⟩).data.toList = head1 w h ++ p1To l w 0 := by
  simp [head1, p1To]
theorem head1_size (w h : Nat) : ((⟨#[80, 49, 32]⟩ : ByteArray) ++ ⟨(itoaL w).toArray⟩ ++ ⟨#[10]⟩ ++ ⟨(itoaL h).toArray⟩ ++ ⟨#[10]⟩).size ≤ 20 + 2 * 0 := by
  have := itoaL_len w
  have := itoaL_len h
  simp only [ByteArray.size_append]
  show 3 + (itoaL w).length + 1 + (itoaL h).length + 1 ≤ _
  omega
end Go.Proofs.YtljfiefobnncaaaDoor.Pm
