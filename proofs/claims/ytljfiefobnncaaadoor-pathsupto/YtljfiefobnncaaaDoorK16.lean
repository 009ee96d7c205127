/- Writing paths, by the program. -/
import Derived.Test.YtljfiefobnncaaaDoorK11
import Derived.Test.YtljfiefobnncaaaDoorK14
import Derived.Test.YtljfiefobnncaaaDoorK15
import Derived.Lib.AppendStr
namespace Go.Proofs.YtljfiefobnncaaaDoor
open Go.RowKit

set_option maxRecDepth 4000 in
set_option maxHeartbeats 400000 in
theorem pointText_any (x y : Nat) (hx : x < 33) (hy : y < 33) (w : World) :
    Calls Tryd.prog 79 #[.agg #[.int .i64 x, .int .i64 y]] w fun e w' => e = .returned (.string ⟨(Pm.ptL ((x : Int), (y : Int))).toArray⟩) ∧ Below w.heap.size w w' := by
  have lx := Pm.itoaL_len x
  have ly := Pm.itoaL_len y
  have E := hid (show (⟨(Pm.itoaL x).toArray⟩ ++ ⟨#[32]⟩ ++ ⟨(Pm.itoaL y).toArray⟩ : ByteArray) = ⟨(Pm.ptL ((x : Int), (y : Int))).toArray⟩ by
    apply ByteArray.ext
    apply Array.toList_inj.1
    simp [Pm.ptL])
  go_enter Tryd.func79, Tryd.ntmps79
  go_wp2_with fail
  refine (itoa_any x hx _).mono ?_
  rintro e w1 ⟨rfl, e1⟩
  subst e1
  go_wp2_with fail
  refine (itoa_any y hy _).mono ?_
  rintro e w2 ⟨rfl, e2⟩
  subst e2
  go_wp2
  go_ret
  exact ⟨ret_string E.out, by go_grown⟩
theorem pt_nat {p : Int × Int} (h : 0 ≤ p.1 ∧ p.1 ≤ 32 ∧ 0 ≤ p.2 ∧ p.2 ≤ 32) : ∃ x y : Nat, p = ((x : Int), (y : Int)) ∧ x < 33 ∧ y < 33 :=
  ⟨p.1.toNat, p.2.toNat, Prod.ext (by simp; omega) (by simp; omega), by omega, by omega⟩
theorem take_snocY {α : Type} (l : List α) (k : Nat) (d : α) (h : k < l.length) : l.take (k + 1) = l.take k ++ [l.getD k d] := by
  rw [List.take_succ_eq_append_getElem h, List.getD_eq_getElem?_getD, List.getElem?_eq_getElem h]; rfl

set_option maxRecDepth 4000 in
set_option maxHeartbeats 2000000 in
theorem shapeText_any (g q n cap : Nat) (l : List (Int × Int)) (hn : n = l.length) (h0 : 0 < n) (hs : Qm.Small l) (hn2 : n ≤ 1073741824) (w : World) (hP : PtsO g q l w) :
    Calls Tryd.prog 63 #[.slice (some ⟨g, q, none⟩) n cap] w fun e w' => e = .returned (.string ⟨(Pm.shL l).toArray⟩) ∧ Below w.heap.size w w' := by
  obtain ⟨i0, hi, hz0, hz1, hz2⟩ := info_parts infoByte
  have HP := hid hP
  have hg := hP.1
  have HN := hid hn
  have HS := hid hs
  clear hP hn hs
  go_enter Tryd.func63, Tryd.ntmps63
  go_wp2_with fail
  go_loopw [3, 4, 5] (fun v cv iv wr => ∃ (k c : Nat), k ≤ n ∧ iv = .int .i64 k ∧ cv = .int .u8 c ∧ Hid (c = (if k = 0 then (77 : UInt8) else 76).toNat) ∧ c ≤ 255 ∧ Hid (wr.ownsRow w.heap.size 5 1 v (Pm.shP (l.take k)).length (cellsOf (Pm.shP (l.take k)))) ∧ Hid (Below w.heap.size w wr)) (fun _ _ i _ => n - (intOf i).toNat)
  case atStart => exact ⟨0, 77, by omega, rfl, rfl, rfl, by omega, World.ownsRow_nil _ _ _ _, Below.refl _ _⟩
  case round =>
    obtain ⟨k, c, hk, rfl, rfl, HC, c2, hO, hB⟩ := hrel
    have hz := hB.out.size
    have sl := Pm.shP_len (l.take k)
    have tl : (l.take k).length = k := by rw [List.length_take]; have := HN.out; omega
    obtain ⟨ao, cp, hv⟩ := own_len hO.out
    subst hv
    by_cases hlt : k < n
    · obtain ⟨r0, r1⟩ := (HP.out.on hB.out hg).2 k (by have := HN.out; omega)
      have SN := hid (show Pm.shP (l.take (k + 1)) = Pm.shP (l.take k) ++ [if k = 0 then 77 else 76] ++ Pm.ptL (l.getD k (0, 0)) by rw [take_snocY l k (0, 0) (by have := HN.out; omega), Pm.shP_snoc, tl])
      have pl := Pm.ptL_len (l.getD k (0, 0))
      obtain ⟨x, y, hxy, hx, hy⟩ := pt_nat (HS.out.at k)
      rw [hxy] at r0 r1 SN pl
      dsimp only at r0 r1
      have PT := hid (pointText_any x y hx hy)
      obtain ⟨t, ht⟩ : ∃ t, t = Pm.ptL ((x : Int), (y : Int)) := ⟨_, rfl⟩
      rw [← ht] at PT SN pl
      obtain ⟨b, hb⟩ : ∃ b, b = Pm.shP (l.take k) := ⟨_, rfl⟩
      rw [← hb] at SN hO sl ⊢
      have k0' : (0 : Int) ≤ (k : Nat) := by omega
      have k1' : ((k : Nat) : Int) < (n : Nat) := by omega
      clear hxy ht hb
      go_wp2_with fail
      refine (PT.out _).mono ?_
      rintro e w2 ⟨rfl, hb2⟩
      have B2 := hid (show Below w.heap.size w w2 from hB.out.trans (hb2.mono hz))
      have O2 := hid (own_below hO.out hb2)
      have s2 := B2.out.size
      have m1 : b.length + 1 ≤ maxLen := by unfold maxLen; omega
      have m2 : (b.length + 1) * 1 ≤ 140737488355328 := by omega
      clear hb2 r0 r1
      go_wp2_with (first
        | (at_builtin; refine wpList_append_own _ rfl _ _ 55 rfl w.heap.size 5 i0 (.int .u8 0) 1 1 Tryd.underlying55 hi hz0 hz1 hz2 rfl (by decide) _ _ _ rfl (O2.out.alloc _) ⟨_, 0, none⟩ 1 1 [.int .u8 c] rfl rfl (cell_one_new _ _ _) (by intro u hu; simp at hu; subst hu; rfl) m1 m2 (by simp; omega) ?_))
      intro v3 w3 o3 g3 _
      have B3 := hid (show Below w.heap.size w w3 from (B2.out.alloc s2 _).grown g3 (by simp; omega) (fun k hk => (O2.out.lt k hk).1))
      have O3 := hid o3
      have s3 := B3.out.size
      obtain ⟨ao3, cp3, hv3⟩ := own_len O3.out
      subst hv3
      have ts : (⟨t.toArray⟩ : ByteArray).size = t.length := by simp [ByteArray.size]
      have m3 : b.length + 1 + (⟨t.toArray⟩ : ByteArray).size ≤ maxLen := by rw [ts]; unfold maxLen; omega
      have m4 : b.length + 1 + (⟨t.toArray⟩ : ByteArray).size ≤ 140737488355328 := by rw [ts]; omega
      clear o3 g3
      go_wp2_with (first
        | (refine Go.Lib.wpList_append_own_string _ rfl _ _ 55 9 rfl w.heap.size 5 i0 Tryd.underlying55 Tryd.underlying9 hi hz0 hz1 hz2 _ _ _ rfl O3.out ⟨t.toArray⟩ rfl m3 m4 s3 ?_))
      intro v4 w4 o4 g4 _
      have B4 := hid (show Below w.heap.size w w4 from B3.out.grown g4 s3 (fun k hk => (O3.out.lt k hk).1))
      have O4 := hid (show w4.ownsRow w.heap.size 5 1 v4 (Pm.shP (l.take (k + 1))).length (cellsOf (Pm.shP (l.take (k + 1)))) by
        have e1 : (Pm.shP (l.take (k + 1))).length = b.length + 1 + t.length := by rw [SN.out]; simp only [List.length_append, List.length_cons, List.length_nil]
        have e2 : cellsOf (Pm.shP (l.take (k + 1))) = cellsOf b ++ Value.int .u8 c :: Go.Lib.strCells ⟨t.toArray⟩ := by rw [SN.out]; simp [cellsOf, Go.Lib.strCells, HC.out]
        rw [e1, e2]; exact o4)
      clear o4 g4
      go_wp2
      go_roundw
      case rel => exact ⟨k + 1, 76, by omega, by go_num, rfl, rfl, by omega, O4, B4⟩
      case measure => simp [intOf]; omega
    · have ek : k = n := by omega
      subst ek
      have hk' : ¬ (k : Int) < (k : Nat) := by omega
      have EL := hid (show Pm.shL l = Pm.shP (l.take k) ++ [122] by rw [List.take_of_length_le (by have := HN.out; omega)]; rfl)
      obtain ⟨b, hb⟩ : ∃ b, b = Pm.shP (l.take k) := ⟨_, rfl⟩
      rw [← hb] at EL hO sl ⊢
      have m1 : b.length + 1 ≤ maxLen := by unfold maxLen; omega
      have m2 : (b.length + 1) * 1 ≤ 140737488355328 := by omega
      clear hb
      go_wp2_with (first
        | (at_builtin; refine wpList_append_own _ rfl _ _ 55 rfl w.heap.size 5 i0 (.int .u8 0) 1 1 Tryd.underlying55 hi hz0 hz1 hz2 rfl (by decide) _ _ _ rfl (hO.out.alloc _) ⟨_, 0, none⟩ 1 1 [.int .u8 122] rfl rfl (cell_one_new _ _ _) (by intro u hu; simp at hu; subst hu; rfl) m1 m2 (by simp; omega) ?_))
      intro v3 w3 o3 g3 _
      have B3 := hid (show Below w.heap.size w w3 from (hB.out.alloc hz _).grown g3 (by simp; omega) (fun k hk => (hO.out.lt k hk).1))
      obtain ⟨b2, hb2⟩ : ∃ b2, b2 = Pm.shL l := ⟨_, rfl⟩
      have BE := hid hb2
      have hown : w3.ownsRow w.heap.size 5 1 v3 b2.length (cellsOf b2) := by
        rw [hb2, EL.out]; simpa [cellsOf] using o3
      have bp : 0 < b2.length := by rw [hb2, EL.out]; simp
      clear o3 g3 hb2
      rcases hown.2 with ⟨-, h0⟩ | ⟨g', cap', cur, rfl, -, -, -, -, -, -⟩
      · omega
      · have hcv := run_convert_bytes_back (P := Tryd.prog) w3 55 9 5 ⟨g', 0, none⟩ cap' b2 Tryd.underlying55 Tryd.underlying5 Tryd.underlying9 (fun j hj => hown.cells (g := g') rfl j _ (by simp [cellsOf, hj]))
        clear hown
        go_wp2
        go_ret
        exact ⟨ret_string (by rw [BE.out]), B3.out⟩

end Go.Proofs.YtljfiefobnncaaaDoor
