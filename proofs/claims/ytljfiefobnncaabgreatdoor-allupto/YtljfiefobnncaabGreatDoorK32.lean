import Derived.Test.YtljfiefobnncaabGreatDoorK31

/- Fill refused; outline.Fill; the document's Fill. -/
namespace Go.Proofs.YtljfiefobnncaabGreatDoor
open Go.RowKit

/-- May it be filled? -/
def okFill (V U r : Int) (L : List ShT) : Bool := Pm.sideB V && Pm.sideB U && (r == 0 || r == 1) && plB L
set_option maxRecDepth 4000 in
set_option maxHeartbeats 2000000 in
theorem pkgFill_no (ao : Option Addr) (n cap : Nat) (L : List ShT) (hn : n = L.length) (hn2 : n ≤ 140737488355328) (hm : ∀ i, (L.getD i sh0).1.length ≤ 140737488355328) (V U r : Int) (hk : okFill V U r L = false) (w : World) (hS : ShIs ao L w) :
    Calls Tryz.prog 58 #[.slice ao n cap, .int .i64 V, .int .i64 U, .int .i64 r] w fun e w' => e = .returned (.tuple #[.agg #[.int .i64 0, .int .i64 0, .string ⟨#[]⟩], .int .i64 4]) ∧ Below w.heap.size w w' := by
  have MB := hid (fun W' (h : Below w.heap.size w W') => shapesMay_any ao n cap L hn hn2 hm W' (hS.on h))
  have HK := hid hk
  clear hS hm hn hk
  cases hv : Pm.sideB V
  · go_enter Tryz.func58, Tryz.ntmps58
    go_wp2_with (first | (go_at_call 83; refine (isSide_any _ _).mono ?_; rintro e w' ⟨rfl, rfl⟩; rw [hv]))
    refine bodyPost_ret (v := .tuple #[.agg #[.int .i64 0, .int .i64 0, .string ⟨#[]⟩], .int .i64 4]) (by simp [results, Tryz.results58, go_sem]) rfl ?_
    exact ⟨rfl, by go_grown⟩
  · cases hu : Pm.sideB U
    · go_enter Tryz.func58, Tryz.ntmps58
      go_wp2_with (first | (go_at_call 83; refine (isSide_any _ _).mono ?_; rintro e w' ⟨rfl, rfl⟩; first | rw [hv] | rw [hu]))
      refine bodyPost_ret (v := .tuple #[.agg #[.int .i64 0, .int .i64 0, .string ⟨#[]⟩], .int .i64 4]) (by simp [results, Tryz.results58, go_sem]) rfl ?_
      exact ⟨rfl, by go_grown⟩
    · cases hr : (r == 0 || r == 1)
      · have RR := hid hr
        clear hr
        go_enter Tryz.func58, Tryz.ntmps58
        go_wp2_with (first | (go_at_call 83; refine (isSide_any _ _).mono ?_; rintro e w' ⟨rfl, rfl⟩; first | rw [hv] | rw [hu]) | (go_at_call 84; refine (isRule_any _ _).mono ?_; rintro e w' ⟨rfl, rfl⟩; rw [RR.out]))
        refine bodyPost_ret (v := .tuple #[.agg #[.int .i64 0, .int .i64 0, .string ⟨#[]⟩], .int .i64 4]) (by simp [results, Tryz.results58, go_sem]) rfl ?_
        exact ⟨rfl, by go_grown⟩
      · have RR := hid hr
        have hp : plB L = false := by have := HK.out; unfold okFill at this; rw [hv, hu, hr] at this; simpa using this
        rw [hp] at MB
        clear hr hp
        go_enter Tryz.func58, Tryz.ntmps58
        go_wp2_with (first | (go_at_call 83; refine (isSide_any _ _).mono ?_; rintro e w' ⟨rfl, rfl⟩; first | rw [hv] | rw [hu]) | (go_at_call 84; refine (isRule_any _ _).mono ?_; rintro e w' ⟨rfl, rfl⟩; rw [RR.out]))
        refine (MB.out _ (by go_grown)).mono ?_
        rintro e X ⟨rfl, hb1⟩
        have XB := hid (show Below w.heap.size w X from Below.trans (b := _) (by go_grown) (hb1.mono (by simp)))
        obtain ⟨⟨b0, b1, b2⟩, ⟨g0, g1, g2⟩, -, bz⟩ := (Box3.new w (.int .i64 0) (.int .i64 0) (.string ⟨#[]⟩) 30).on hb1
        clear hb1
        go_wp2
        refine bodyPost_ret (v := .tuple #[.agg #[.int .i64 0, .int .i64 0, .string ⟨#[]⟩], .int .i64 4]) (by simp [results, Tryz.results58, go_sem, World.cell?_setCell_other, World.cell?_setCell_same', *]) rfl ?_
        exact ⟨rfl, by go_grown; exact XB.out⟩

/-- What filling answers. -/
def fillOut (V U r : Int) (L : List ShT) : Value :=
  if okFill V U r L = true then .tuple #[.agg #[.int .i64 V, .int .i64 U, .string ⟨(fpxs L V.toNat r (U.toNat * V.toNat)).toArray⟩], .int .i64 0]
  else .tuple #[.agg #[.int .i64 0, .int .i64 0, .string ⟨#[]⟩], .int .i64 4]
theorem okFill_parts {V U r : Int} {L : List ShT} (h : okFill V U r L = true) : 1 ≤ V ∧ V ≤ 32 ∧ 1 ≤ U ∧ U ≤ 32 ∧ (r == 0 || r == 1) = true ∧ plB L = true := by
  unfold okFill at h
  simp only [Bool.and_eq_true] at h
  have a := of_decide_eq_true h.1.1.1
  have b := of_decide_eq_true h.1.1.2
  exact ⟨a.1, a.2, b.1, b.2, h.1.2, h.2⟩
theorem pkgFill_any (ao : Option Addr) (n cap : Nat) (L : List ShT) (hn : n = L.length) (hn2 : n ≤ 140737488355328) (hm : ∀ i, (L.getD i sh0).1.length ≤ 140737488355328) (V U r : Int) (w : World) (hS : ShIs ao L w) :
    Calls Tryz.prog 58 #[.slice ao n cap, .int .i64 V, .int .i64 U, .int .i64 r] w fun e w' => e = .returned (fillOut V U r L) ∧ Below w.heap.size w w' := by
  cases hk : okFill V U r L
  · unfold fillOut
    rw [hk]
    exact pkgFill_no ao n cap L hn hn2 hm V U r hk w hS
  · obtain ⟨a, b, c, d, e, f⟩ := okFill_parts hk
    unfold fillOut
    rw [hk, if_pos rfl]
    obtain ⟨v, rfl⟩ : ∃ v : Nat, V = v := ⟨V.toNat, by omega⟩
    obtain ⟨u, rfl⟩ : ∃ u : Nat, U = u := ⟨U.toNat, by omega⟩
    exact pkgFill_yes ao n cap L hn hn2 hm f v u r (by omega) (by omega) (by omega) (by omega) e w hS

set_option maxRecDepth 4000 in
set_option maxHeartbeats 400000 in
theorem fill_any (ao : Option Addr) (n cap : Nat) (L : List ShT) (hn : n = L.length) (hn2 : n ≤ 140737488355328) (hm : ∀ i, (L.getD i sh0).1.length ≤ 140737488355328) (V U r : Int) (w : World) (hS : ShIs ao L w) :
    Calls Tryz.prog 31 #[.slice ao n cap, .int .i64 V, .int .i64 U, .int .i64 r] w fun e w' => e = .returned (fillOut V U r L) ∧ Below w.heap.size w w' := by
  have PF := hid (fun W' (h : Below w.heap.size w W') => pkgFill_any ao n cap L hn hn2 hm V U r W' (hS.on h))
  clear hS hm hn
  have key : ∀ (a b d : Int) (c : ByteArray), fillOut V U r L = .tuple #[.agg #[.int .i64 a, .int .i64 b, .string c], .int .i64 d] → Calls Tryz.prog 31 #[.slice ao n cap, .int .i64 V, .int .i64 U, .int .i64 r] w fun e w' => e = .returned (.tuple #[.agg #[.int .i64 a, .int .i64 b, .string c], .int .i64 d]) ∧ Below w.heap.size w w' := by
    intro a b d c e
    rw [e] at PF
    clear e
    go_enter Tryz.func31, Tryz.ntmps31
    go_wp2_with fail
    refine (PF.out _ (by go_grown)).mono ?_
    rintro e X ⟨rfl, hb1⟩
    have XB := hid (show Below w.heap.size w X from Below.trans (b := _) (by go_grown) (hb1.mono (by simp)))
    obtain ⟨⟨b0, b1, b2⟩, ⟨g0, g1, g2⟩, -, bz⟩ := (Box3.new w (.int .i64 0) (.int .i64 0) (.string ⟨#[]⟩) 30).on hb1
    clear hb1
    go_wp2
    refine bodyPost_ret (v := .tuple #[.agg #[.int .i64 a, .int .i64 b, .string c], .int .i64 d]) (by simp [results, Tryz.results31, go_sem, World.cell?_setCell_other, World.cell?_setCell_same', *]) rfl ?_
    exact ⟨rfl, by go_grown; exact XB.out⟩
  have h : ∃ (a b d : Int) (c : ByteArray), fillOut V U r L = .tuple #[.agg #[.int .i64 a, .int .i64 b, .string c], .int .i64 d] := by
    unfold fillOut; split <;> exact ⟨_, _, _, _, rfl⟩
  obtain ⟨a, b, d, c, e⟩ := h
  rw [e]
  exact key a b d c e

end Go.Proofs.YtljfiefobnncaabGreatDoor

/- The document's Fill. -/
namespace Go.Proofs.YtljfiefobnncaabGreatDoor
open Go.RowKit

set_option maxRecDepth 4000 in
set_option maxHeartbeats 2000000 in
theorem refFill_no (ao : Option Addr) (n cap : Nat) (L : List ShT) (hn : n = L.length) (hn2 : n ≤ 140737488355328) (hm : ∀ i, (L.getD i sh0).1.length ≤ 140737488355328) (V U r : Int) (hk : okFill V U r L = false) (w : World) (hS : ShIs ao L w) :
    Calls Tryz.prog 32 #[.slice ao n cap, .int .i64 V, .int .i64 U, .int .i64 r] w fun e w' => e = .returned (.tuple #[.agg #[.int .i64 0, .int .i64 0, .string ⟨#[]⟩], .int .i64 4]) ∧ Below w.heap.size w w' := by
  have MB := hid (fun W' (h : Below w.heap.size w W') => placed_any ao n cap L hn hn2 hm W' (hS.on h))
  have tests : plB L = true → (V < 1 ∨ (1 ≤ V ∧ U < 1) ∨ (1 ≤ V ∧ 1 ≤ U ∧ 32 < V) ∨ (1 ≤ V ∧ 1 ≤ U ∧ V ≤ 32 ∧ 32 < U) ∨ (1 ≤ V ∧ 1 ≤ U ∧ V ≤ 32 ∧ U ≤ 32 ∧ r < 0) ∨ (1 ≤ V ∧ 1 ≤ U ∧ V ≤ 32 ∧ U ≤ 32 ∧ 0 ≤ r ∧ 1 < r)) := by
    intro hp
    unfold okFill Pm.sideB at hk
    rw [hp] at hk
    simp only [Bool.and_true, Bool.and_eq_false_iff, decide_eq_false_iff_not, Bool.or_eq_false_iff, beq_eq_false_iff_ne] at hk
    omega
  clear hS hm hn hk
  cases hp : plB L
  · rw [hp] at MB
    clear hp tests
    go_enter Tryz.func32, Tryz.ntmps32
    go_wp2_with fail
    refine (MB.out _ (by go_grown)).mono ?_
    rintro e X ⟨rfl, hb1⟩
    have XB := hid (show Below w.heap.size w X from Below.trans (b := _) (by go_grown) (hb1.mono (by simp)))
    obtain ⟨⟨b0, b1, b2⟩, ⟨g0, g1, g2⟩, -, bz⟩ := (Box3.new w (.int .i64 0) (.int .i64 0) (.string ⟨#[]⟩) 30).on hb1
    clear hb1
    go_wp2
    refine bodyPost_ret (v := .tuple #[.agg #[.int .i64 0, .int .i64 0, .string ⟨#[]⟩], .int .i64 4]) (by simp [results, Tryz.results32, go_sem, World.cell?_setCell_other, World.cell?_setCell_same', *]) rfl ?_
    exact ⟨rfl, by go_grown; exact XB.out⟩
  · rw [hp] at MB
    have ts := tests hp
    clear hp tests
    rcases ts with h | ⟨h1, h⟩ | ⟨h1, h2, h⟩ | ⟨h1, h2, h3, h⟩ | ⟨h1, h2, h3, h4, h⟩ | ⟨h1, h2, h3, h4, h5, h⟩
    all_goals
      go_enter Tryz.func32, Tryz.ntmps32
      go_wp2_with fail
      refine (MB.out _ (by go_grown)).mono ?_
      rintro e X ⟨rfl, hb1⟩
      have XB := hid (show Below w.heap.size w X from Below.trans (b := _) (by go_grown) (hb1.mono (by simp)))
      obtain ⟨⟨b0, b1, b2⟩, ⟨g0, g1, g2⟩, -, bz⟩ := (Box3.new w (.int .i64 0) (.int .i64 0) (.string ⟨#[]⟩) 30).on hb1
      clear hb1
      go_wp2
      refine bodyPost_ret (v := .tuple #[.agg #[.int .i64 0, .int .i64 0, .string ⟨#[]⟩], .int .i64 4]) (by simp [results, Tryz.results32, go_sem, World.cell?_setCell_other, World.cell?_setCell_same', *]) rfl ?_
      exact ⟨rfl, by go_grown; exact XB.out⟩

theorem pxV_data (G : ByteArray) (l : List UInt8) (c b : UInt8) (h : G.data.toList = l) (hc : c = b) : (G ++ ⟨#[b]⟩).data.toList = l ++ [c] := by
  subst hc; rw [← h]; simp

set_option maxRecDepth 4000 in
set_option maxHeartbeats 2000000 in
theorem refFill_yes (ao : Option Addr) (n cap : Nat) (L : List ShT) (hn : n = L.length) (hn2 : n ≤ 140737488355328) (hm : ∀ i, (L.getD i sh0).1.length ≤ 140737488355328) (hL : plB L = true) (V U : Nat) (r : Int) (V1 : 1 ≤ V) (V2 : V ≤ 32) (U1 : 1 ≤ U) (U2 : U ≤ 32) (hr : (r == 0 || r == 1) = true) (w : World) (hS : ShIs ao L w) :
    Calls Tryz.prog 32 #[.slice ao n cap, .int .i64 V, .int .i64 U, .int .i64 r] w fun e w' => e = .returned (.tuple #[.agg #[.int .i64 V, .int .i64 U, .string ⟨(fpxs L V r (U * V)).toArray⟩], .int .i64 0]) ∧ Below w.heap.size w w' := by
  have r0 : 0 ≤ r := by simp at hr; omega
  have r1 : r ≤ 1 := by simp at hr; omega
  have MB := hid (fun W' (h : Below w.heap.size w W') => placed_any ao n cap L hn hn2 hm W' (hS.on h))
  rw [hL] at MB
  have WA := hid (fun x y (a : 0 ≤ x) (b : x ≤ 32) (c : 0 ≤ y) (d : y ≤ 32) W' (h : Below w.heap.size w W') => wound_any ao n cap L hn hn2 hm hL x y a b c d W' (hS.on h))
  have PA := hid (fun y x (h : x < V) => fpx_at L V r y x h)
  rw [← hn] at PA
  have c1 : (1 : Int) ≤ (V : Nat) := by omega
  have c2 : (1 : Int) ≤ (U : Nat) := by omega
  have c3 : ((V : Nat) : Int) ≤ 32 := by omega
  have c4 : ((U : Nat) : Int) ≤ 32 := by omega
  clear hS hm hn hL hr
  go_enter Tryz.func32, Tryz.ntmps32
  go_wp2_with fail
  refine (MB.out _ (by go_grown)).mono ?_
  rintro e X ⟨rfl, hb1⟩
  have XB := hid (show Below w.heap.size w X from Below.trans (b := _) (by go_grown) (hb1.mono (by simp)))
  have Y := hid ((Box3.new w (.int .i64 0) (.int .i64 0) (.string ⟨#[]⟩) 30).on hb1)
  have XS : w.heap.size + 1 ≤ X.heap.size := by have := hb1.size; simpa using this
  clear hb1
  go_wp2_with fail
  go_loopw [11, 12] (fun v yv wr => ∃ (y : Nat) (G : ByteArray), y ≤ U ∧ yv = .int .i64 y ∧ v = .string G ∧ Hid (G.data.toList = fpxs L V r (y * V)) ∧ Hid (Below X.heap.size X wr)) (fun _ i _ => U - (intOf i).toNat)
  case atStart => exact ⟨0, ⟨#[]⟩, by omega, rfl, rfl, by show _ = _; simp [fpxs], Below.refl _ _⟩
  case round =>
    obtain ⟨y, G, hy, rfl, rfl, hO, hB⟩ := hrel
    by_cases hlt : y < U
    · go_wp2_with fail
      have vy : (y + 1) * V = y * V + V := by rw [Nat.add_mul, Nat.one_mul]
      have vb : y * V + V ≤ 1024 := by rw [← vy]; exact Nat.mul_le_mul (show y + 1 ≤ 32 by omega) V2
      have VY := hid vy
      obtain ⟨q, hq⟩ : ∃ q, q = y * V := ⟨_, rfl⟩
      rw [← hq] at vb VY hO
      have HQ := hid hq
      clear vy hq
      go_loopw [11, 13] (fun v xv wr => ∃ (x : Nat) (G : ByteArray), x ≤ V ∧ xv = .int .i64 x ∧ v = .string G ∧ Hid (G.data.toList = fpxs L V r (q + x)) ∧ Hid (Below X.heap.size X wr)) (fun _ i _ => V - (intOf i).toNat)
      case atStart => exact ⟨0, G, by omega, rfl, rfl, hO, hB⟩
      case round =>
        clear hO hB
        obtain ⟨x, F, hx, rfl, rfl, hO, hB⟩ := hrel
        have hsz := hB.out.size
        by_cases hlx : x < V
        · have fs : F.size ≤ 1024 := by
            have e1 := congrArg List.length hO.out
            rw [fpxs_len, Array.length_toList] at e1
            show F.data.size ≤ 1024
            omega
          have PX := hid (show fpx L V r (q + x) = pxV (wrap64 (totW L (x : Int) (y : Int) n)) r by rw [HQ.out]; exact PA.out y x hlx)
          have PSU := hid (fpxs_succ L V r (q + x))
          have KX := hid (WA.out (x : Int) (y : Int) (by omega) (by omega) (by omega) (by omega) wr (XB.out.trans (hB.out.mono (by omega))))
          obtain ⟨z, hz⟩ : ∃ z, z = wrap64 (totW L (x : Int) (y : Int) n) := ⟨_, rfl⟩
          have zi := wrap_inside (totW L (x : Int) (y : Int) n)
          rw [← hz] at PX KX zi
          have D := hid (fun b (hb : pxV z r = b) => show (F ++ ⟨#[b]⟩).data.toList = fpxs L V r (q + (x + 1)) by rw [← Nat.add_assoc, PSU.out, PX.out]; exact pxV_data F _ _ b hO.out hb)
          clear hz
          go_wp2_with fail
          refine KX.out.mono ?_
          rintro e w3 ⟨rfl, hb3⟩
          have B3 := hid (show Below X.heap.size X w3 from hB.out.trans (hb3.mono hsz))
          clear hb3 KX
          cases e0 : (z == 0)
          · cases e1 : (r == 1)
            · have D1 := hid (D.out 49 (by unfold pxV pxB; rw [e0, e1]; rfl))
              go_wp2
              go_roundw
              case rel => exact ⟨x + 1, _, by omega, by go_num, rfl, D1, B3⟩
              case measure => simp [intOf]; omega
            · have tb : -1 ≤ z.tmod 2 ∧ z.tmod 2 ≤ 1 := by
                rcases Int.le_total 0 z with h | h
                · rw [Int.tmod_eq_emod_of_nonneg h]; omega
                · have := Int.neg_tmod (-z) 2
                  rw [Int.neg_neg] at this
                  rw [this, Int.tmod_eq_emod_of_nonneg (by omega)]; omega
              have et : IntKind.i64.wrap (z.tmod 2) = z.tmod 2 := wrap_small (by omega) (by omega)
              cases e2 : (z.tmod 2 == 0)
              · have D1 := hid (D.out 49 (by unfold pxV pxB; rw [e0, e1, e2]; rfl))
                go_wp2
                go_roundw
                case rel => exact ⟨x + 1, _, by omega, by go_num, rfl, D1, B3⟩
                case measure => simp [intOf]; omega
              · have D1 := hid (D.out 48 (by unfold pxV pxB; rw [e0, e1, e2]; rfl))
                go_wp2
                go_roundw
                case rel => exact ⟨x + 1, _, by omega, by go_num, rfl, D1, B3⟩
                case measure => simp [intOf]; omega
          · have D1 := hid (D.out 48 (by unfold pxV pxB; rw [e0]; rfl))
            go_wp2
            go_roundw
            case rel => exact ⟨x + 1, _, by omega, by go_num, rfl, D1, B3⟩
            case measure => simp [intOf]; omega
        · have ex : x = V := by omega
          have O5 := hid (show F.data.toList = fpxs L V r ((y + 1) * V) by rw [VY.out]; rw [ex] at hO; exact hO.out)
          have hlx' : ¬ (x : Int) < (V : Nat) := by omega
          go_wp2
          go_roundw
          case rel => exact ⟨y + 1, F, by omega, by go_num, rfl, O5, hB⟩
          case measure => simp [intOf]; omega
    · have ey : y = U := by omega
      subst ey
      have hly : ¬ (y : Int) < (y : Nat) := by omega
      obtain ⟨⟨b0, b1, b2⟩, ⟨g0, g1, g2⟩, -, bz⟩ := Y.out.on (hB.out)
      have BW := hid (show Below w.heap.size w wr from XB.out.trans (hB.out.mono (by omega)))
      have GE := hid (show G = ⟨(fpxs L V r (y * V)).toArray⟩ by rw [← hO.out])
      go_wp2
      refine bodyPost_ret (v := .tuple #[.agg #[.int .i64 V, .int .i64 y, .string G], .int .i64 0]) (by simp [results, Tryz.results32, go_sem, World.cell?_setCell_other, World.cell?_setCell_same', *]) rfl ?_
      exact ⟨by rw [← GE.out], by go_grown; exact BW.out⟩

theorem refFill_any (ao : Option Addr) (n cap : Nat) (L : List ShT) (hn : n = L.length) (hn2 : n ≤ 140737488355328) (hm : ∀ i, (L.getD i sh0).1.length ≤ 140737488355328) (V U r : Int) (w : World) (hS : ShIs ao L w) :
    Calls Tryz.prog 32 #[.slice ao n cap, .int .i64 V, .int .i64 U, .int .i64 r] w fun e w' => e = .returned (fillOut V U r L) ∧ Below w.heap.size w w' := by
  cases hk : okFill V U r L
  · unfold fillOut
    rw [hk]
    exact refFill_no ao n cap L hn hn2 hm V U r hk w hS
  · obtain ⟨a, b, c, d, e, f⟩ := okFill_parts hk
    unfold fillOut
    rw [hk, if_pos rfl]
    obtain ⟨v, rfl⟩ : ∃ v : Nat, V = v := ⟨V.toNat, by omega⟩
    obtain ⟨u, rfl⟩ : ∃ u : Nat, U = u := ⟨U.toNat, by omega⟩
    exact refFill_yes ao n cap L hn hn2 hm f v u r (by omega) (by omega) (by omega) (by omega) e w hS

end Go.Proofs.YtljfiefobnncaabGreatDoor

/- outlinelaw: Fills. -/
namespace Go.Proofs.YtljfiefobnncaabGreatDoor
open Go.RowKit

theorem fillOut_is (V U r : Int) (L : List ShT) : ∃ (a b d : Int) (c : ByteArray), fillOut V U r L = .tuple #[.agg #[.int .i64 a, .int .i64 b, .string c], .int .i64 d] := by
  unfold fillOut; split <;> exact ⟨_, _, _, _, rfl⟩

set_option maxRecDepth 4000 in
set_option maxHeartbeats 2000000 in
theorem fills_any (ao : Option Addr) (n cap : Nat) (L : List ShT) (hn : n = L.length) (hn2 : n * 32 ≤ 140737488355328) (hm : ∀ i, (L.getD i sh0).1.length * 16 ≤ 140737488355328) (V U r : Int) (w : World) (hS : ShIs ao L w) :
    Calls Tryz.prog 12 #[.slice ao n cap, .int .i64 V, .int .i64 U, .int .i64 r] w fun e w' => e = .returned (.bool true) ∧ Below w.heap.size w w' := by
  have hm2 : ∀ i, (L.getD i sh0).1.length ≤ 140737488355328 := fun i => by have := hm i; omega
  have RO := hid (roomy_any ao n cap L hn hn2 hm w hS)
  have PF := hid (fun gl W' (h : RoomIs gl n L W') => fill_any (some ⟨gl, 0, none⟩) n (n + 1) L hn (by omega) hm2 V U r W' (h.sh hn))
  have RF := hid (fun W' (h : Below w.heap.size w W') => refFill_any ao n cap L hn (by omega) hm2 V U r W' (hS.on h))
  have WH := hid (fun gl W' (h : RoomIs gl n L W') (hb : Below w.heap.size w W') => whole_any gl ao n cap L hn (by omega) hm2 W' h (hS.on hb))
  have NF := hid (fun (h : n = 0) W' => fill_any none 0 0 L (by omega) (by omega) hm2 V U r W' (.inl (by omega)))
  obtain ⟨a, b, d, c, e⟩ := fillOut_is V U r L
  rw [e] at PF RF NF
  clear e hS hn hm hm2
  go_enter Tryz.func12, Tryz.ntmps12
  go_wp2_with fail
  refine RO.out.mono ?_
  rintro e w1 ⟨⟨gl, rfl, hR⟩, hb1⟩
  have R1 := hid hR
  have B1 := hid hb1
  clear hR hb1
  go_wp2_with fail
  refine (PF.out gl _ R1.out).mono ?_
  rintro e w2 ⟨rfl, hb2⟩
  have R2 := hid (R1.out.on hb2)
  have B2 := hid (show Below w.heap.size w w2 from B1.out.trans (hb2.mono B1.out.size))
  have X2 := hid (Box3.new w2 (.int .i64 a) (.int .i64 b) (.string c) 30)
  have s2 := B2.out.size
  have BA := hid (show Below w.heap.size w (w2.alloc (.cells #[.int .i64 a, .int .i64 b, .string c] 30)) from B2.out.alloc s2 _)
  clear hb2
  go_wp2_with fail
  refine (RF.out _ BA.out).mono ?_
  rintro e w3 ⟨rfl, hb3⟩
  have Y3 := hid (X2.out.on hb3)
  have R3 := hid ((R2.out.on ((Below.refl _ _).alloc (Nat.le_refl _) (.cells #[.int .i64 a, .int .i64 b, .string c] 30))).on hb3)
  have B3 := hid (show Below w.heap.size w w3 from BA.out.trans (hb3.mono BA.out.size))
  have s3 := B3.out.size
  have X3 := hid (Box3.new w3 (.int .i64 a) (.int .i64 b) (.string c) 30)
  have BC := hid (show Below w.heap.size w (w3.alloc (.cells #[.int .i64 a, .int .i64 b, .string c] 30)) from B3.out.alloc s3 _)
  have Z3 := hid (Y3.out.alloc (.cells #[.int .i64 a, .int .i64 b, .string c] 30))
  have R4 := hid (R3.out.on ((Below.refl _ _).alloc (Nat.le_refl _) (.cells #[.int .i64 a, .int .i64 b, .string c] 30)))
  clear hb3
  go_wp2_with fail
  refine (WH.out gl _ R4.out BC.out).mono ?_
  rintro e w4 ⟨rfl, hb4⟩
  have P4 := hid (Z3.out.on hb4)
  have Q4 := hid (X3.out.on hb4)
  have B4 := hid (show Below w.heap.size w w4 from BC.out.trans (hb4.mono BC.out.size))
  have s4 := B4.out.size
  clear hb4
  by_cases h0 : n = 0
  · have N0 := hid (NF.out h0)
    have e0 : ((n : Int) == 0) = true := by simp [h0]
    clear h0
    go_wp2_with fail
    refine (N0.out _).mono ?_
    rintro e w5 ⟨rfl, hb5⟩
    have P5 := hid (P4.out.on hb5)
    have Q5 := hid (Q4.out.on hb5)
    have B5 := hid (show Below w.heap.size w w5 from B4.out.trans (hb5.mono s4))
    have s5 := B5.out.size
    clear hb5
    obtain ⟨⟨p0, p1, p2⟩, -, -, pz⟩ := P5.out
    obtain ⟨⟨q0, q1, q2⟩, -, -, qz⟩ := Q5.out
    go_wp2
    go_ret
    exact ⟨rfl, by go_grown; exact B5.out⟩
  · have e0 : ((n : Int) == 0) = false := by simp [h0]
    clear h0
    obtain ⟨⟨p0, p1, p2⟩, -, -, pz⟩ := P4.out
    obtain ⟨⟨q0, q1, q2⟩, -, -, qz⟩ := Q4.out
    go_wp2
    go_ret
    exact ⟨rfl, B4.out⟩

end Go.Proofs.YtljfiefobnncaabGreatDoor
