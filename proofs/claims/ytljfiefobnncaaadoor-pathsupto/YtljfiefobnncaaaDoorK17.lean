/- Writing paths: the whole; outline.Path. -/
import Derived.Test.YtljfiefobnncaaaDoorK16
import Derived.Laws.BytesArg
namespace Go.Proofs.YtljfiefobnncaaaDoor
open Go.RowKit

/-- The points of the shapes. -/
def ptsS (L : List ShT) : List (List (Int × Int)) := L.map (·.1)
theorem ptsS_len (L : List ShT) : (ptsS L).length = L.length := by simp [ptsS]
theorem ptsS_at (L : List ShT) (i : Nat) : (ptsS L).getD i [] = (L.getD i sh0).1 := by
  unfold ptsS
  rw [List.getD_eq_getElem?_getD, List.getD_eq_getElem?_getD, List.getElem?_map]
  cases L[i]? <;> rfl
/-- What writing answers. -/
def pathOut (L : List ShT) : Value := if plB L = true then .tuple #[.string ⟨(Pm.pathL (ptsS L)).toArray⟩, .int .i64 0] else .tuple #[.string ⟨#[]⟩, .int .i64 4]
theorem shL_pos (l : List (Int × Int)) : 0 < (Pm.shL l).length := by unfold Pm.shL; simp

set_option maxRecDepth 4000 in
set_option maxHeartbeats 2000000 in
theorem pWrite_any (ao : Option Addr) (n cap : Nat) (L : List ShT) (hn : n = L.length) (hn2 : n ≤ 1073741824) (hm : ∀ i, (L.getD i sh0).1.length ≤ 1073741824) (hT : (Pm.pathL (ptsS L)).length ≤ 1073741824) (w : World) (hS : ShIs ao L w) :
    Calls Tryd.prog 46 #[.slice ao n cap] w fun e w' => e = .returned (pathOut L) ∧ Below w.heap.size w w' := by
  obtain ⟨i0, hi, hz0, hz1, hz2⟩ := info_parts infoByte
  have MB := hid (shapesMay_any ao n cap L hn (by omega) (fun i => by have := hm i; omega) w hS)
  have HS := hid hS
  have HM := hid hm
  have HN := hid hn
  have HT := hid hT
  clear hS hm hn hT
  cases hp : plB L
  · rw [hp] at MB
    have PO := hid (show pathOut L = .tuple #[.string ⟨#[]⟩, .int .i64 4] by unfold pathOut; rw [hp]; rfl)
    rw [PO.out]
    clear hp PO
    go_enter Tryd.func46, Tryd.ntmps46
    go_wp2_with fail
    refine MB.out.mono ?_
    rintro e w1 ⟨rfl, hb⟩
    have HB := hid hb
    clear hb
    go_wp2
    go_ret2
    exact ⟨rfl, HB.out⟩
  · rw [hp] at MB
    have PO := hid (show pathOut L = .tuple #[.string ⟨(Pm.pathL (ptsS L)).toArray⟩, .int .i64 0] by unfold pathOut; rw [hp]; rfl)
    have HP := hid hp
    rw [PO.out]
    clear hp PO
    go_enter Tryd.func46, Tryd.ntmps46
    go_wp2_with fail
    refine MB.out.mono ?_
    rintro e w1 ⟨rfl, hb⟩
    have B1 := hid hb
    have z1 := hb.size
    have S1 := hid (HS.out.on hb)
    clear hb
    go_wp2_with fail
    go_loopw [4, 5] (fun v iv wr => ∃ (k : Nat), k ≤ n ∧ iv = .int .i64 k ∧ Hid (wr.ownsRow w1.heap.size 5 1 v (Pm.pathL ((ptsS L).take k)).length (cellsOf (Pm.pathL ((ptsS L).take k)))) ∧ Hid (Below w1.heap.size w1 wr)) (fun _ i _ => n - (intOf i).toNat)
    case atStart => exact ⟨0, by omega, rfl, World.ownsRow_nil _ _ _ _, Below.refl _ _⟩
    case round =>
      obtain ⟨k, hk, rfl, hO, hB⟩ := hrel
      have hz := hB.out.size
      have pt := Pm.pathL_take (ptsS L) k
      have pt1 := Pm.pathL_take (ptsS L) (k + 1)
      have hT := HT.out
      obtain ⟨av, cv, hv⟩ := own_len hO.out
      subst hv
      by_cases hlt : k < n
      · obtain ⟨gl, o, rfl, hgl, hc⟩ := S1.out.resolve_left (by have := HN.out; omega)
        obtain ⟨ap, cp, c0, c1, c2⟩ := hc k (by have := HN.out; omega)
        have r0 := (hB.out.cell (p := ⟨gl, o + k * 2, none⟩) hgl).trans c0
        have k0' : (0 : Int) ≤ (k : Nat) := by omega
        have k1' : ((k : Nat) : Int) < (n : Nat) := by omega
        have OS := okSh_small (all_at sh0 HP.out (i := k) (by have := HN.out; omega))
        have hmk := HM.out k
        have SN := hid (show Pm.pathL ((ptsS L).take (k + 1)) = Pm.pathL ((ptsS L).take k) ++ Pm.shL (L.getD k sh0).1 by rw [take_snocY (ptsS L) k [] (by rw [ptsS_len]; have := HN.out; omega), Pm.pathL_snoc, ptsS_at])
        obtain ⟨s, hs⟩ : ∃ s, s = L.getD k sh0 := ⟨_, rfl⟩
        rw [← hs] at r0 c2 hmk OS SN
        obtain ⟨m, hmm⟩ : ∃ m, m = s.1.length := ⟨_, rfl⟩
        rw [← hmm] at r0 c2 hmk OS
        obtain ⟨g, q, rfl, hp⟩ := c2.resolve_left (by omega)
        have ST := hid (fun W' (h : Below w1.heap.size w1 W') => shapeText_any g q m cp s.1 hmm OS.1 OS.2 hmk W' (hp.on h hp.1))
        have ln := congrArg List.length SN.out
        rw [List.length_append] at ln
        obtain ⟨t, ht⟩ : ∃ t, t = Pm.shL s.1 := ⟨_, rfl⟩
        rw [← ht] at ST SN ln
        obtain ⟨b, hb⟩ : ∃ b, b = Pm.pathL ((ptsS L).take k) := ⟨_, rfl⟩
        rw [← hb] at SN hO pt ln ⊢
        clear hc c0 c1 hs c2 hp hmm OS ht hb
        go_wp2_with fail
        refine (ST.out _ hB.out).mono ?_
        rintro e w2 ⟨rfl, hb2⟩
        have B2 := hid (show Below w1.heap.size w1 w2 from hB.out.trans (hb2.mono hz))
        have O2 := hid (own_below hO.out hb2)
        have s2 := B2.out.size
        have ts : (⟨t.toArray⟩ : ByteArray).size = t.length := by simp [ByteArray.size]
        have m3 : b.length + (⟨t.toArray⟩ : ByteArray).size ≤ maxLen := by rw [ts]; unfold maxLen; omega
        have m4 : b.length + (⟨t.toArray⟩ : ByteArray).size ≤ 140737488355328 := by rw [ts]; omega
        clear hb2 r0
        go_wp2_with (first
          | (refine Go.Lib.wpList_append_own_string _ rfl _ _ 55 9 rfl w1.heap.size 5 i0 Tryd.underlying55 Tryd.underlying9 hi hz0 hz1 hz2 _ _ _ rfl O2.out ⟨t.toArray⟩ rfl m3 m4 s2 ?_))
        intro v4 w4 o4 g4 _
        have B4 := hid (show Below w1.heap.size w1 w4 from B2.out.grown g4 s2 (fun k hk => (O2.out.lt k hk).1))
        have O4 := hid (show w4.ownsRow w1.heap.size 5 1 v4 (Pm.pathL ((ptsS L).take (k + 1))).length (cellsOf (Pm.pathL ((ptsS L).take (k + 1)))) by
          have e2 : cellsOf (Pm.pathL ((ptsS L).take (k + 1))) = cellsOf b ++ Go.Lib.strCells ⟨t.toArray⟩ := by rw [SN.out]; simp [cellsOf, Go.Lib.strCells]
          rw [ln, e2]; exact o4)
        clear o4 g4
        go_wp2
        go_roundw
        case rel => exact ⟨k + 1, by omega, by go_num, O4, B4⟩
        case measure => simp [intOf]; omega
      · have ek : k = n := by omega
        have hk' : ((n : Nat) : Int) ≤ (k : Nat) := by omega
        have BW := hid (show Below w.heap.size w wr from B1.out.trans (hB.out.mono z1))
        have FE := hid (show (ptsS L).take k = ptsS L by rw [List.take_of_length_le (by rw [ptsS_len]; have := HN.out; omega)])
        rw [FE.out] at hO ⊢
        obtain ⟨b, hb⟩ : ∃ b, b = Pm.pathL (ptsS L) := ⟨_, rfl⟩
        rw [← hb] at hO ⊢
        have HBE := hid hb
        have hown := hO.out
        clear hb ek pt pt1 hT
        rcases hown.2 with ⟨hnil, h0⟩ | ⟨g', cap', cur, hv2, -, -, -, -, -, -⟩
        · have eb : b = [] := List.length_eq_zero_iff.1 h0
          subst eb
          injection hnil with e1 e2 e3
          subst e1
          subst e3
          have hcv := run_convert_bytes_nil (P := Tryd.prog) wr 55 5 Tryd.underlying55 Tryd.underlying5 0 0 9 Tryd.underlying9
          clear hown
          go_wp2
          go_ret2
          exact ⟨by rw [← HBE.out]; rfl, BW.out⟩
        · injection hv2 with e1 e2 e3
          subst e1
          subst e3
          have hcv := run_convert_bytes_back (P := Tryd.prog) wr 55 9 5 ⟨g', 0, none⟩ cv b Tryd.underlying55 Tryd.underlying5 Tryd.underlying9 (fun j hj => hown.cells (g := g') rfl j _ (by simp [cellsOf, hj]))
          clear hown
          go_wp2
          go_ret2
          exact ⟨by rw [← HBE.out]; rfl, BW.out⟩

set_option maxRecDepth 4000 in
set_option maxHeartbeats 400000 in
theorem path_any (ao : Option Addr) (n cap : Nat) (L : List ShT) (hn : n = L.length) (hn2 : n ≤ 1073741824) (hm : ∀ i, (L.getD i sh0).1.length ≤ 1073741824) (hT : (Pm.pathL (ptsS L)).length ≤ 1073741824) (w : World) (hS : ShIs ao L w) :
    Calls Tryd.prog 29 #[.slice ao n cap] w fun e w' => e = .returned (pathOut L) ∧ Below w.heap.size w w' := by
  have PF := hid (pWrite_any ao n cap L hn hn2 hm hT w hS)
  have h : ∃ (c : ByteArray) (d : Int), pathOut L = .tuple #[.string c, .int .i64 d] := by unfold pathOut; split <;> exact ⟨_, _, rfl⟩
  obtain ⟨c, d, e⟩ := h
  rw [e] at PF ⊢
  clear e hS hm hn hT
  go_enter Tryd.func29, Tryd.ntmps29
  go_wp2_with fail
  refine PF.out.mono ?_
  rintro e X ⟨rfl, hb1⟩
  have XB := hid hb1
  clear hb1
  go_wp2
  go_ret2
  exact ⟨rfl, XB.out⟩

end Go.Proofs.YtljfiefobnncaaaDoor
