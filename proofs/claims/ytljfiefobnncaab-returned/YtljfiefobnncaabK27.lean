import Derived.Test.YtljfiefobnncaabK26
import Derived.Test.YtljfiefobnncaabK16
import Derived.Test.YtljfiefobnncaabK02

/- Package fill: Fill; outline.Fill; the document's Fill. -/
namespace Go.Proofs.Ytljfiefobnncaab
open Go.RowKit

/-- The pixel number k. -/
def fpx (L : List ShT) (W : Nat) (r : Int) (k : Nat) : UInt8 := pxV (wrap64 (totW L ((k % W : Nat) : Int) ((k / W : Nat) : Int) L.length)) r
def fpxs (L : List ShT) (W : Nat) (r : Int) (n : Nat) : List UInt8 := (List.range n).map (fpx L W r)
theorem fpxs_succ (L : List ShT) (W : Nat) (r : Int) (n : Nat) : fpxs L W r (n + 1) = fpxs L W r n ++ [fpx L W r n] := by simp [fpxs, List.range_succ]
theorem fpxs_len (L : List ShT) (W : Nat) (r : Int) (n : Nat) : (fpxs L W r n).length = n := by simp [fpxs]
theorem fpx_at (L : List ShT) (W : Nat) (r : Int) (y x : Nat) (hx : x < W) : fpx L W r (y * W + x) = pxV (wrap64 (totW L (x : Int) (y : Int) L.length)) r := by
  unfold fpx
  rw [Nat.mul_comm, Nat.mul_add_mod, Nat.mod_eq_of_lt hx, Nat.mul_add_div (by omega), Nat.div_eq_of_lt hx, Nat.add_zero]

set_option maxRecDepth 4000 in
set_option maxHeartbeats 2000000 in
theorem pkgFill_yes (ao : Option Addr) (n cap : Nat) (L : List ShT) (hn : n = L.length) (hn2 : n ≤ 140737488355328) (hm : ∀ i, (L.getD i sh0).1.length ≤ 140737488355328) (hL : plB L = true) (V U : Nat) (r : Int) (V1 : 1 ≤ V) (V2 : V ≤ 32) (U1 : 1 ≤ U) (U2 : U ≤ 32) (hr : (r == 0 || r == 1) = true) (w : World) (hS : ShIs ao L w) :
    Calls Try.prog 14 #[.slice ao n cap, .int .i64 V, .int .i64 U, .int .i64 r] w fun e w' => e = .returned (.tuple #[.agg #[.int .i64 V, .int .i64 U, .string ⟨(fpxs L V r (U * V)).toArray⟩], .int .i64 0]) ∧ Below w.heap.size w w' := by
  obtain ⟨i0, hi, hz0, hz1, hz2⟩ := info_parts infoByte
  have hv := Pm.sideB_yes (n := (V : Int)) (by omega) (by omega)
  have hu := Pm.sideB_yes (n := (U : Int)) (by omega) (by omega)
  have MB := hid (fun W' (h : Below w.heap.size w W') => shapesMay_any ao n cap L hn hn2 hm W' (hS.on h))
  rw [hL] at MB
  have WA := hid (fun x y (a : 0 ≤ x) (b : x ≤ 32) (c : 0 ≤ y) (d : y ≤ 32) W' (h : Below w.heap.size w W') => windingOfAll_any ao n cap L hn hn2 hm hL x y a b c d W' (hS.on h))
  have PA := hid (fun y x (h : x < V) => fpx_at L V r y x h)
  rw [← hn] at PA
  have RR := hid hr
  clear hS hm hn hL hr
  go_enter Try.func14, Try.ntmps14
  go_wp2_with (first | (go_at_call 20; refine (isSide_any _ _).mono ?_; rintro e w' ⟨rfl, rfl⟩; first | rw [hv] | rw [hu]) | (go_at_call 21; refine (isRule_any _ _).mono ?_; rintro e w' ⟨rfl, rfl⟩; rw [RR.out]))
  refine (MB.out _ (by go_grown)).mono ?_
  rintro e X ⟨rfl, hb1⟩
  have XB := hid (show Below w.heap.size w X from Below.trans (b := _) (by go_grown) (hb1.mono (by simp)))
  have Y := hid ((Box3.new w (.int .i64 0) (.int .i64 0) (.string ⟨#[]⟩) 25).on hb1)
  have XS : w.heap.size + 1 ≤ X.heap.size := by have := hb1.size; simpa using this
  clear hb1
  go_wp2_with fail
  go_loopw [10, 11] (fun v yv wr => ∃ y : Nat, y ≤ U ∧ yv = .int .i64 y ∧ Hid (wr.ownsRow X.heap.size 5 1 v (y * V) (cellsOf (fpxs L V r (y * V)))) ∧ Hid (Below X.heap.size X wr)) (fun _ i _ => U - (intOf i).toNat)
  case atStart => exact ⟨0, by omega, rfl, by rw [Nat.zero_mul]; exact World.ownsRow_nil _ _ _ _, Below.refl _ _⟩
  case round =>
    obtain ⟨y, hy, rfl, hO, hB⟩ := hrel
    by_cases hlt : y < U
    · go_wp2_with fail
      have vy : (y + 1) * V = y * V + V := by rw [Nat.add_mul, Nat.one_mul]
      have vb : y * V + V ≤ 1024 := by rw [← vy]; exact Nat.mul_le_mul (show y + 1 ≤ 32 by omega) V2
      have VY := hid vy
      obtain ⟨q, hq⟩ : ∃ q, q = y * V := ⟨_, rfl⟩
      rw [← hq] at vb VY hO
      have HQ := hid hq
      clear vy hq
      go_loopw [10, 12] (fun v xv wr => ∃ x : Nat, x ≤ V ∧ xv = .int .i64 x ∧ Hid (wr.ownsRow X.heap.size 5 1 v (q + x) (cellsOf (fpxs L V r (q + x)))) ∧ Hid (Below X.heap.size X wr)) (fun _ i _ => V - (intOf i).toNat)
      case atStart => exact ⟨0, by omega, rfl, hO, hB⟩
      case round =>
        clear hO hB
        obtain ⟨x, hx, rfl, hO, hB⟩ := hrel
        have hsz := hB.out.size
        by_cases hlx : x < V
        · have PX := hid (show fpx L V r (q + x) = pxV (wrap64 (totW L (x : Int) (y : Int) n)) r by rw [HQ.out]; exact PA.out y x hlx)
          have PSU := hid (fpxs_succ L V r (q + x))
          have KX := hid (WA.out (x : Int) (y : Int) (by omega) (by omega) (by omega) (by omega) wr (XB.out.trans (hB.out.mono (by omega))))
          obtain ⟨z, hz⟩ : ∃ z, z = wrap64 (totW L (x : Int) (y : Int) n) := ⟨_, rfl⟩
          have zi := wrap_inside (totW L (x : Int) (y : Int) n)
          rw [← hz] at PX KX zi
          clear hz
          go_wp2_with fail
          refine KX.out.mono ?_
          rintro e w3 ⟨rfl, hb3⟩
          have B3 := hid (show Below X.heap.size X w3 from hB.out.trans (hb3.mono hsz))
          have O3 := hid (own_below hO.out hb3)
          have z3 := B3.out.size
          have PV := hid (fun W' => pixel_any z r zi.1 zi.2 W')
          obtain ⟨c, hc⟩ : ∃ c, c = pxV z r := ⟨_, rfl⟩
          rw [← hc] at PX PV
          clear hb3 hc KX
          go_wp2_with fail
          refine (PV.out _).mono ?_
          rintro e w4 ⟨rfl, hb4⟩
          have B4 := hid (show Below X.heap.size X w4 from B3.out.trans (hb4.mono z3))
          have O4 := hid (own_below O3.out hb4)
          have z4 := B4.out.size
          have m1 : q + x + 1 ≤ maxLen := by unfold maxLen; omega
          have m2 : (q + x + 1) * 1 ≤ 140737488355328 := by omega
          clear hb4
          go_wp2_with (first
            | (at_builtin; refine wpList_append_own _ rfl _ _ 41 rfl X.heap.size 5 i0 (.int .u8 0) 1 1 Try.underlying41 hi hz0 hz1 hz2 rfl (by decide) _ _ _ rfl (O4.out.alloc _) ⟨_, 0, none⟩ 1 1 [.int .u8 c.toNat] rfl rfl (cell_one_new _ _ _) (by intro u hu; simp at hu; subst hu; rfl) m1 m2 (by simp; omega) ?_))
          intro v' w5 hown' hgrow _
          have B5 := hid (show Below X.heap.size X w5 from (B4.out.alloc (by omega) _).grown hgrow (by simp; omega) (fun k hk => (O4.out.lt k hk).1))
          have O5 := hid (show w5.ownsRow X.heap.size 5 1 v' (q + (x + 1)) (cellsOf (fpxs L V r (q + (x + 1)))) by rw [← Nat.add_assoc, PSU.out, PX.out, cellsOf_snoc]; exact hown')
          clear hown' hgrow
          go_wp2
          go_roundw
          case rel => exact ⟨x + 1, by omega, by go_num, O5, B5⟩
          case measure => simp [intOf]; omega
        · have ex : x = V := by omega
          have O5 := hid (show wr.ownsRow X.heap.size 5 1 _ ((y + 1) * V) (cellsOf (fpxs L V r ((y + 1) * V))) by rw [VY.out]; rw [ex] at hO; exact hO.out)
          have hlx' : ¬ (x : Int) < (V : Nat) := by omega
          go_wp2
          go_roundw
          case rel => exact ⟨y + 1, by omega, by go_num, O5, hB⟩
          case measure => simp [intOf]; omega
    · have ey : y = U := by omega
      subst ey
      have hly : ¬ (y : Int) < (y : Nat) := by omega
      obtain ⟨l, hl⟩ : ∃ l, l = fpxs L V r (y * V) := ⟨_, rfl⟩
      have LL := hid (show l.length = y * V by rw [hl, fpxs_len])
      rw [← hl] at hO
      have HLL := hid hl
      have vp : 0 < y * V := Nat.mul_pos (by omega) (by omega)
      rw [← LL.out] at hO vp
      have hown := hO.out
      obtain ⟨⟨b0, b1, b2⟩, ⟨g0, g1, g2⟩, -, bz⟩ := Y.out.on (hB.out)
      have BW := hid (show Below w.heap.size w wr from XB.out.trans (hB.out.mono (by omega)))
      rcases hown.2 with ⟨-, h0⟩ | ⟨g, cap, cur, rfl, -, -, -, -, -, -⟩
      · omega
      · have hcv := run_convert_bytes_back (P := Try.prog) wr 41 9 5 ⟨g, 0, none⟩ cap l Try.underlying41 Try.underlying5 Try.underlying9 (fun j hj => hown.cells (g := g) rfl j _ (by simp [cellsOf, hj]))
        clear hl hown hO
        go_wp2
        refine bodyPost_ret (v := .tuple #[.agg #[.int .i64 V, .int .i64 y, .string ⟨l.toArray⟩], .int .i64 0]) (by simp [results, Try.results14, go_sem, World.cell?_setCell_other, World.cell?_setCell_same', *]) rfl ?_
        exact ⟨by rw [HLL.out], by go_grown; exact BW.out⟩

end Go.Proofs.Ytljfiefobnncaab

/- Fill refused; outline.Fill; the document's Fill. -/
namespace Go.Proofs.Ytljfiefobnncaab
open Go.RowKit

/-- May it be filled? -/
def okFill (V U r : Int) (L : List ShT) : Bool := Pm.sideB V && Pm.sideB U && (r == 0 || r == 1) && plB L
set_option maxRecDepth 4000 in
set_option maxHeartbeats 2000000 in
theorem pkgFill_no (ao : Option Addr) (n cap : Nat) (L : List ShT) (hn : n = L.length) (hn2 : n ≤ 140737488355328) (hm : ∀ i, (L.getD i sh0).1.length ≤ 140737488355328) (V U r : Int) (hk : okFill V U r L = false) (w : World) (hS : ShIs ao L w) :
    Calls Try.prog 14 #[.slice ao n cap, .int .i64 V, .int .i64 U, .int .i64 r] w fun e w' => e = .returned (.tuple #[.agg #[.int .i64 0, .int .i64 0, .string ⟨#[]⟩], .int .i64 4]) ∧ Below w.heap.size w w' := by
  have MB := hid (fun W' (h : Below w.heap.size w W') => shapesMay_any ao n cap L hn hn2 hm W' (hS.on h))
  have HK := hid hk
  clear hS hm hn hk
  cases hv : Pm.sideB V
  · go_enter Try.func14, Try.ntmps14
    go_wp2_with (first | (go_at_call 20; refine (isSide_any _ _).mono ?_; rintro e w' ⟨rfl, rfl⟩; rw [hv]))
    refine bodyPost_ret (v := .tuple #[.agg #[.int .i64 0, .int .i64 0, .string ⟨#[]⟩], .int .i64 4]) (by simp [results, Try.results14, go_sem]) rfl ?_
    exact ⟨rfl, by go_grown⟩
  · cases hu : Pm.sideB U
    · go_enter Try.func14, Try.ntmps14
      go_wp2_with (first | (go_at_call 20; refine (isSide_any _ _).mono ?_; rintro e w' ⟨rfl, rfl⟩; first | rw [hv] | rw [hu]))
      refine bodyPost_ret (v := .tuple #[.agg #[.int .i64 0, .int .i64 0, .string ⟨#[]⟩], .int .i64 4]) (by simp [results, Try.results14, go_sem]) rfl ?_
      exact ⟨rfl, by go_grown⟩
    · cases hr : (r == 0 || r == 1)
      · have RR := hid hr
        clear hr
        go_enter Try.func14, Try.ntmps14
        go_wp2_with (first | (go_at_call 20; refine (isSide_any _ _).mono ?_; rintro e w' ⟨rfl, rfl⟩; first | rw [hv] | rw [hu]) | (go_at_call 21; refine (isRule_any _ _).mono ?_; rintro e w' ⟨rfl, rfl⟩; rw [RR.out]))
        refine bodyPost_ret (v := .tuple #[.agg #[.int .i64 0, .int .i64 0, .string ⟨#[]⟩], .int .i64 4]) (by simp [results, Try.results14, go_sem]) rfl ?_
        exact ⟨rfl, by go_grown⟩
      · have RR := hid hr
        have hp : plB L = false := by have := HK.out; unfold okFill at this; rw [hv, hu, hr] at this; simpa using this
        rw [hp] at MB
        clear hr hp
        go_enter Try.func14, Try.ntmps14
        go_wp2_with (first | (go_at_call 20; refine (isSide_any _ _).mono ?_; rintro e w' ⟨rfl, rfl⟩; first | rw [hv] | rw [hu]) | (go_at_call 21; refine (isRule_any _ _).mono ?_; rintro e w' ⟨rfl, rfl⟩; rw [RR.out]))
        refine (MB.out _ (by go_grown)).mono ?_
        rintro e X ⟨rfl, hb1⟩
        have XB := hid (show Below w.heap.size w X from Below.trans (b := _) (by go_grown) (hb1.mono (by simp)))
        obtain ⟨⟨b0, b1, b2⟩, ⟨g0, g1, g2⟩, -, bz⟩ := (Box3.new w (.int .i64 0) (.int .i64 0) (.string ⟨#[]⟩) 25).on hb1
        clear hb1
        go_wp2
        refine bodyPost_ret (v := .tuple #[.agg #[.int .i64 0, .int .i64 0, .string ⟨#[]⟩], .int .i64 4]) (by simp [results, Try.results14, go_sem, World.cell?_setCell_other, World.cell?_setCell_same', *]) rfl ?_
        exact ⟨rfl, by go_grown; exact XB.out⟩

/-- What filling answers. -/
def fillOut (V U r : Int) (L : List ShT) : Value :=
  if okFill V U r L = true then .tuple #[.agg #[.int .i64 V, .int .i64 U, .string ⟨(fpxs L V.toNat r (U.toNat * V.toNat)).toArray⟩], .int .i64 0]
  else .tuple #[.agg #[.int .i64 0, .int .i64 0, .string ⟨#[]⟩], .int .i64 4]
theorem okFill_parts {V U r : Int} {L : List ShT} (h : okFill V U r L = true) : 1 ≤ V ∧ V ≤ 32 ∧ 1 ≤ U ∧ U ≤ 32 ∧ (r == 0 || r == 1) = true ∧ plB L = true := by
  unfold okFill at h
  simp only [Bool.and_eq_true] at h
  have a := of_decide_eq_true h.1.1.1
  have b := of_decide_eq_true h.1.1.2
  exact ⟨a.1, a.2, b.1, b.2, h.1.2, h.2⟩
theorem pkgFill_any (ao : Option Addr) (n cap : Nat) (L : List ShT) (hn : n = L.length) (hn2 : n ≤ 140737488355328) (hm : ∀ i, (L.getD i sh0).1.length ≤ 140737488355328) (V U r : Int) (w : World) (hS : ShIs ao L w) :
    Calls Try.prog 14 #[.slice ao n cap, .int .i64 V, .int .i64 U, .int .i64 r] w fun e w' => e = .returned (fillOut V U r L) ∧ Below w.heap.size w w' := by
  cases hk : okFill V U r L
  · unfold fillOut
    rw [hk]
    exact pkgFill_no ao n cap L hn hn2 hm V U r hk w hS
  · obtain ⟨a, b, c, d, e, f⟩ := okFill_parts hk
    unfold fillOut
    rw [hk, if_pos rfl]
    obtain ⟨v, rfl⟩ : ∃ v : Nat, V = v := ⟨V.toNat, by omega⟩
    obtain ⟨u, rfl⟩ : ∃ u : Nat, U = u := ⟨U.toNat, by omega⟩
    exact pkgFill_yes ao n cap L hn hn2 hm f v u r (by omega) (by omega) (by omega) (by omega) e w hS

set_option maxRecDepth 4000 in
set_option maxHeartbeats 400000 in
theorem fill_any (ao : Option Addr) (n cap : Nat) (L : List ShT) (hn : n = L.length) (hn2 : n ≤ 140737488355328) (hm : ∀ i, (L.getD i sh0).1.length ≤ 140737488355328) (V U r : Int) (w : World) (hS : ShIs ao L w) :
    Calls Try.prog 9 #[.slice ao n cap, .int .i64 V, .int .i64 U, .int .i64 r] w fun e w' => e = .returned (fillOut V U r L) ∧ Below w.heap.size w w' := by
  have PF := hid (fun W' (h : Below w.heap.size w W') => pkgFill_any ao n cap L hn hn2 hm V U r W' (hS.on h))
  clear hS hm hn
  have key : ∀ (a b d : Int) (c : ByteArray), fillOut V U r L = .tuple #[.agg #[.int .i64 a, .int .i64 b, .string c], .int .i64 d] → Calls Try.prog 9 #[.slice ao n cap, .int .i64 V, .int .i64 U, .int .i64 r] w fun e w' => e = .returned (.tuple #[.agg #[.int .i64 a, .int .i64 b, .string c], .int .i64 d]) ∧ Below w.heap.size w w' := by
    intro a b d c e
    rw [e] at PF
    clear e
    go_enter Try.func9, Try.ntmps9
    go_wp2_with fail
    refine (PF.out _ (by go_grown)).mono ?_
    rintro e X ⟨rfl, hb1⟩
    have XB := hid (show Below w.heap.size w X from Below.trans (b := _) (by go_grown) (hb1.mono (by simp)))
    obtain ⟨⟨b0, b1, b2⟩, ⟨g0, g1, g2⟩, -, bz⟩ := (Box3.new w (.int .i64 0) (.int .i64 0) (.string ⟨#[]⟩) 25).on hb1
    clear hb1
    go_wp2
    refine bodyPost_ret (v := .tuple #[.agg #[.int .i64 a, .int .i64 b, .string c], .int .i64 d]) (by simp [results, Try.results9, go_sem, World.cell?_setCell_other, World.cell?_setCell_same', *]) rfl ?_
    exact ⟨rfl, by go_grown; exact XB.out⟩
  have h : ∃ (a b d : Int) (c : ByteArray), fillOut V U r L = .tuple #[.agg #[.int .i64 a, .int .i64 b, .string c], .int .i64 d] := by
    unfold fillOut; split <;> exact ⟨_, _, _, _, rfl⟩
  obtain ⟨a, b, d, c, e⟩ := h
  rw [e]
  exact key a b d c e

end Go.Proofs.Ytljfiefobnncaab
