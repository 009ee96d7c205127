import Derived.Test.YtljfiefobnncaaaK01
import Derived.Handy
import Derived.Deep.QuietTactic
import Derived.BigQuiet
import Derived.Deep.RegionHeld3
import Derived.Deep.DrawnRows

/- bitmap.IsBlack, and the small functions of package cycles. -/
namespace Go.Proofs.Ytljfiefobnncaaa
open Go.RowKit

set_option maxHeartbeats 1000000 in
theorem isBlack_any (W H : Nat) (s : ByteArray) (x y : Int) (w : World) (hw2 : W ≤ 32) (hh2 : H ≤ 32) (hl : s.size = W * H) :
    Calls Try.prog 104 #[.agg #[.int .i64 W, .int .i64 H, .string s], .int .i64 x, .int .i64 y] w fun e w' => e = .returned (.bool (Pm.blackB W H s.data.toList x y)) ∧ w' = w.alloc (.cells #[.int .i64 W, .int .i64 H, .string s] 23) := by
  have HL := Hid.out (p := Hid (s.size = W * H)) hl
  clear hl
  by_cases x0 : 0 ≤ x
  · by_cases x1 : x < W
    · by_cases y0 : 0 ≤ y
      · by_cases y1 : y < H
        · obtain ⟨x, rfl⟩ := Int.eq_ofNat_of_zero_le x0
          obtain ⟨y, rfl⟩ := Int.eq_ofNat_of_zero_le y0
          have hx : x < W := by omega
          have hy : y < H := by omega
          have sp := Pm.span W H y hy
          have ar := Pm.area_nat W H hw2 hh2
          obtain ⟨a, ha⟩ : ∃ a, a = y * W := ⟨_, rfl⟩
          have ea : (y : Int) * (W : Int) = (a : Nat) := by rw [ha]; simp
          have hab : a + x < s.size := by have := HL.out; omega
          have hb4 : a + x ≤ 1024 := by omega
          have E := Pm.blackB_in W H s.data.toList x y hx hy a ha
          have HE : Hid _ := E
          have HA : Hid _ := ha
          clear E ha sp ar
          by_cases q : (s[a + x].toNat : Int) = 49
          · go_enter Try.func104, Try.ntmps104
            go_wp2
            go_ret
            exact ⟨ret_bool (by rw [HE.out, Pm.bitAt_yes s _ hab q]), rfl⟩
          · have b0 : ((s[a + x].toNat : Int) == 49) = false := by simpa using q
            go_enter Try.func104, Try.ntmps104
            go_wp2
            go_ret
            exact ⟨ret_bool (by rw [HE.out, Pm.bitAt_no s _ hab q]), rfl⟩
        · have E := Pm.blackB_out W H s.data.toList x y (by omega)
          have HE : Hid _ := E
          clear E
          go_enter Try.func104, Try.ntmps104
          go_wp2
          go_ret
          exact ⟨ret_bool HE.out.symm, rfl⟩
      · have E := Pm.blackB_out W H s.data.toList x y (by omega)
        have HE : Hid _ := E
        clear E
        go_enter Try.func104, Try.ntmps104
        go_wp2
        go_ret
        exact ⟨ret_bool HE.out.symm, rfl⟩
    · have E := Pm.blackB_out W H s.data.toList x y (by omega)
      have HE : Hid _ := E
      clear E
      go_enter Try.func104, Try.ntmps104
      go_wp2
      go_ret
      exact ⟨ret_bool HE.out.symm, rfl⟩
  · have E := Pm.blackB_out W H s.data.toList x y (by omega)
    have HE : Hid _ := E
    clear E
    go_enter Try.func104, Try.ntmps104
    go_wp2
    go_ret
    exact ⟨ret_bool HE.out.symm, rfl⟩

set_option maxHeartbeats 400000 in
theorem leftOf_any (d : Nat) (hd : d < 4) (w : World) :
    Calls Try.prog 94 #[.int .i64 d] w fun e w' => e = .returned (.int .i64 ((d + 1) % 4 : Nat)) ∧ w' = w := by
  go_enter Try.func94, Try.ntmps94
  go_wp2
  go_ret
  exact ⟨ret_int (by omega), rfl⟩

set_option maxHeartbeats 400000 in
theorem rightOf_any (d : Nat) (hd : d < 4) (w : World) :
    Calls Try.prog 95 #[.int .i64 d] w fun e w' => e = .returned (.int .i64 ((d + 3) % 4 : Nat)) ∧ w' = w := by
  go_enter Try.func95, Try.ntmps95
  go_wp2
  go_ret
  exact ⟨ret_int (by omega), rfl⟩

set_option maxHeartbeats 400000 in
theorem end_any (x y : Int) (d : Nat) (hd : d < 4) (hx : -1000 ≤ x ∧ x ≤ 1000) (hy : -1000 ≤ y ∧ y ≤ 1000) (w : World) :
    Calls Try.prog 93 #[.agg #[.int .i64 x, .int .i64 y, .int .i64 d]] w fun e w' => e = .returned (.agg #[.int .i64 (Qm.en (x, y, d)).1, .int .i64 (Qm.en (x, y, d)).2]) ∧ ∃ o1 o2 o3, w' = ((w.alloc (.cells o1 107)).alloc (.cells o2 47)).alloc (.cells o3 47) := by
  match d, hd with
  | 0, _ =>
    go_enter Try.func93, Try.ntmps93
    go_wp2
    refine bodyPost_ret (v := .agg #[.int .i64 x, .int .i64 (y + 1)]) (by simp [results, Try.results93, go_sem]) rfl ?_
    exact ⟨rfl, _, _, _, rfl⟩
  | 1, _ =>
    go_enter Try.func93, Try.ntmps93
    go_wp2
    refine bodyPost_ret (v := .agg #[.int .i64 (x + 1), .int .i64 y]) (by simp [results, Try.results93, go_sem]) rfl ?_
    exact ⟨rfl, _, _, _, rfl⟩
  | 2, _ =>
    go_enter Try.func93, Try.ntmps93
    go_wp2
    refine bodyPost_ret (v := .agg #[.int .i64 x, .int .i64 (y - 1)]) (by simp [results, Try.results93, go_sem]) rfl ?_
    exact ⟨rfl, _, _, _, rfl⟩
  | 3, _ =>
    go_enter Try.func93, Try.ntmps93
    go_wp2
    refine bodyPost_ret (v := .agg #[.int .i64 (x - 1), .int .i64 y]) (by simp [results, Try.results93, go_sem]) rfl ?_
    exact ⟨rfl, _, _, _, rfl⟩
end Go.Proofs.Ytljfiefobnncaaa

/- pixelBetween, isSide of package cycles. -/
namespace Go.Proofs.Ytljfiefobnncaaa
open Go.RowKit

set_option maxHeartbeats 2000000 in
theorem pixelBetween_any (x y : Int) (a b : Nat) (hx : -1000 ≤ x ∧ x ≤ 1000) (hy : -1000 ≤ y ∧ y ≤ 1000) (w : World) :
    Calls Try.prog 103 #[.agg #[.int .i64 x, .int .i64 y], .int .i64 a, .int .i64 b] w fun e w' => e = .returned (.agg #[.int .i64 (if a = 3 ∨ b = 3 then x - 1 else x), .int .i64 (if a = 2 ∨ b = 2 then y - 1 else y)]) ∧ ∃ o1 o2, w' = (w.alloc (.cells o1 47)).alloc (.cells o2 47) := by
  have key : ∀ (p q r t : Bool), ((a : Int) == 2) = p → ((b : Int) == 2) = q → ((a : Int) == 3) = r → ((b : Int) == 3) = t →
    Calls Try.prog 103 #[.agg #[.int .i64 x, .int .i64 y], .int .i64 a, .int .i64 b] w fun e w' => e = .returned (.agg #[.int .i64 (if (r || t) = true then x - 1 else x), .int .i64 (if (p || q) = true then y - 1 else y)]) ∧ ∃ o1 o2, w' = (w.alloc (.cells o1 47)).alloc (.cells o2 47) := by
    intro p q r t h1 h2 h3 h4
    cases p <;> cases q <;> cases r <;> cases t <;>
    · go_enter Try.func103, Try.ntmps103
      go_wp2
      refine bodyPost_ret (by simp [results, Try.results103, go_sem]; rfl) rfl ?_
      exact ⟨rfl, _, _, rfl⟩
  refine (key _ _ _ _ rfl rfl rfl rfl).mono ?_
  rintro e w' ⟨rfl, hb⟩
  refine ⟨?_, hb⟩
  simp only [Bool.or_eq_true, beq_iff_eq]
  norm_cast

theorem pixLeft_any (x y : Int) (d : Nat) (hx : -1000 ≤ x ∧ x ≤ 1000) (hy : -1000 ≤ y ∧ y ≤ 1000) (w : World) :
    Calls Try.prog 103 #[.agg #[.int .i64 x, .int .i64 y], .int .i64 d, .int .i64 ((d + 1) % 4 : Nat)] w fun e w' => e = .returned (.agg #[.int .i64 (Qm.lpx x d), .int .i64 (Qm.lpy y d)]) ∧ ∃ o1 o2, w' = (w.alloc (.cells o1 47)).alloc (.cells o2 47) := pixelBetween_any x y d _ hx hy w
theorem pixRight_any (x y : Int) (d : Nat) (hx : -1000 ≤ x ∧ x ≤ 1000) (hy : -1000 ≤ y ∧ y ≤ 1000) (w : World) :
    Calls Try.prog 103 #[.agg #[.int .i64 x, .int .i64 y], .int .i64 d, .int .i64 ((d + 3) % 4 : Nat)] w fun e w' => e = .returned (.agg #[.int .i64 (Qm.rpx x d), .int .i64 (Qm.rpy y d)]) ∧ ∃ o1 o2, w' = (w.alloc (.cells o1 47)).alloc (.cells o2 47) := pixelBetween_any x y d _ hx hy w

end Go.Proofs.Ytljfiefobnncaaa

/- isSide of package cycles. -/
namespace Go.Proofs.Ytljfiefobnncaaa
open Go.RowKit
attribute [local go_sem ↓] Go.wp_at_zero Go.wp_at_succ

/-- A block's cells stand, and may be written. -/
def At (w : World) (b : Nat) (cs : List Value) : Prop := b < w.heap.size ∧ (∀ j v, cs[j]? = some v → w.cell? ⟨b, j, none⟩ = some v) ∧ (∀ j, j < cs.length → w.frozen? ⟨b, j, none⟩ = false)
theorem At.on {w w' : World} {b B : Nat} {cs : List Value} (h : At w b cs) (hb : Below B w w') (hB : b < B) : At w' b cs :=
  ⟨Nat.lt_of_lt_of_le h.1 hb.size, fun j v hj => (hb.cell (p := ⟨b, j, none⟩) hB).trans (h.2.1 j v hj), fun j hj => (hb.frozen (p := ⟨b, j, none⟩) hB).trans (h.2.2 j hj)⟩
theorem At.call {w w' : World} {b : Nat} {cs : List Value} (h : At w b cs) (hb : Below w.heap.size w w') : At w' b cs := h.on hb h.1
theorem At.new (w : World) (cs : List Value) (t : TypeId) : At (w.alloc (.cells cs.toArray t)) w.heap.size cs := by
  refine ⟨by simp, fun j v hj => ?_, fun j hj => by simp⟩
  simp [hj]
theorem At.alloc {w : World} {b : Nat} {cs : List Value} (h : At w b cs) (o : Obj) : At (w.alloc o) b cs := h.call ((Below.refl _ _).alloc (Nat.le_refl _) _)

set_option maxHeartbeats 2000000 in
theorem cIsSide_any (W H : Nat) (s : ByteArray) (x y : Int) (d : Nat) (hd : d < 4) (hx : -1000 ≤ x ∧ x ≤ 1000) (hy : -1000 ≤ y ∧ y ≤ 1000) (w : World) (hw2 : W ≤ 32) (hh2 : H ≤ 32) (hl : s.size = W * H) :
    Calls Try.prog 92 #[.agg #[.int .i64 W, .int .i64 H, .string s], .agg #[.int .i64 x, .int .i64 y, .int .i64 d]] w fun e w' => e = .returned (.bool (Qm.isS (Pm.blackB W H s.data.toList) (x, y, d))) ∧ Below w.heap.size w w' := by
  have HL := hid hl
  clear hl
  rw [Qm.isS_lr _ _ _ _ hd]
  obtain ⟨a, ha⟩ : ∃ a, Pm.blackB W H s.data.toList (Qm.rpx x d) (Qm.rpy y d) = a := ⟨_, rfl⟩
  rw [ha]
  have HA := hid ha
  clear ha
  go_enter Try.func92, Try.ntmps92
  go_wp2_with fail
  go_region_held3 (fun w' => w'.cell? ⟨w.heap.size + 1, 0, none⟩ = some (.int .i64 x) ∧ w'.cell? ⟨w.heap.size + 1, 1, none⟩ = some (.int .i64 y) ∧ w'.cell? ⟨w.heap.size + 1, 2, none⟩ = some (.int .i64 d))
    (first | (simp [go_sem]; done) | (go_keep))
    (first | (go_at_call 94; refine (leftOf_any d hd _).mono ?_; rintro e w1 ⟨rfl, rfl⟩) | (go_at_call 103; refine (pixLeft_any x y d hx hy _).mono ?_; rintro e w1 ⟨rfl, o1, o2, rfl⟩))
  all_goals go_wp2_with fail
  all_goals
    go_region_held3 (fun w' => w'.cell? ⟨w.heap.size + 1, 0, none⟩ = some (.int .i64 x) ∧ w'.cell? ⟨w.heap.size + 1, 1, none⟩ = some (.int .i64 y) ∧ w'.cell? ⟨w.heap.size + 1, 2, none⟩ = some (.int .i64 d))
      (first | (simp [go_sem]; done) | (go_keep))
      (first | (go_at_call 95; refine (rightOf_any d hd _).mono ?_; rintro e w1 ⟨rfl, rfl⟩) | (go_at_call 103; refine (pixRight_any x y d hx hy _).mono ?_; rintro e w1 ⟨rfl, o3, o4, rfl⟩))
  all_goals go_wp2_with fail
  all_goals
    refine (isBlack_any W H s _ _ _ hw2 hh2 HL.out).mono ?_
    rintro e w1 ⟨rfl, rfl⟩
    rw [HA.out]
  all_goals cases a
  all_goals go_wp2_with (go_at_call 104; refine (isBlack_any W H s _ _ _ hw2 hh2 HL.out).mono ?_; rintro e w1 ⟨rfl, rfl⟩)
  all_goals go_ret
  all_goals exact ⟨ret_bool (by simp), by go_grown⟩
end Go.Proofs.Ytljfiefobnncaaa

/- The policies. Nothing of the program stands here. -/
namespace Go.Proofs.Ytljfiefobnncaaa.Qm
open Pm

/-- Of the first m of the 16 pixels around a point: how many are black? -/
def cntTo (bl : Int → Int → Bool) (X Y : Int) : Nat → Nat
  | 0 => 0
  | m + 1 => cntTo bl X Y m + if bl (X - 2 + (m % 4 : Nat)) (Y - 2 + (m / 4 : Nat)) then 1 else 0
theorem cntTo_le (bl : Int → Int → Bool) (X Y : Int) (m : Nat) : cntTo bl X Y m ≤ m := by
  induction m with
  | zero => exact Nat.le_refl _
  | succ m ih => unfold cntTo; split <;> omega
theorem cntTo_yes (bl : Int → Int → Bool) (X Y : Int) (i j : Nat) (hj : j < 4) (h : bl (X - 2 + (j : Nat)) (Y - 2 + (i : Nat)) = true) : cntTo bl X Y (4 * i + (j + 1)) = cntTo bl X Y (4 * i + j) + 1 := by
  rw [← Nat.add_assoc]; show cntTo bl X Y (4 * i + j) + _ = _
  rw [show (4 * i + j) % 4 = j from by omega, show (4 * i + j) / 4 = i from by omega, h]; simp
theorem cntTo_no (bl : Int → Int → Bool) (X Y : Int) (i j : Nat) (hj : j < 4) (h : bl (X - 2 + (j : Nat)) (Y - 2 + (i : Nat)) = false) : cntTo bl X Y (4 * i + (j + 1)) = cntTo bl X Y (4 * i + j) := by
  rw [← Nat.add_assoc]; show cntTo bl X Y (4 * i + j) + _ = _
  rw [show (4 * i + j) % 4 = j from by omega, show (4 * i + j) / 4 = i from by omega, h]; simp

/-- Does one who comes to a crossing join? -/
def jnB (W H : Nat) (l : List UInt8) (pol : Int) (draws : List UInt8) (x y : Int) : Bool :=
  if pol = 0 then true
  else if pol = 2 then decide (cntTo (blackB W H l) x y 16 < 8)
  else if pol = 3 then bitAt draws (y * (W + 1) + x).toNat
  else false
theorem jnB_0 (W H : Nat) (l : List UInt8) (draws : List UInt8) (x y : Int) : jnB W H l 0 draws x y = true := rfl
theorem jnB_1 (W H : Nat) (l : List UInt8) (draws : List UInt8) (x y : Int) : jnB W H l 1 draws x y = false := rfl
theorem jnB_2 (W H : Nat) (l : List UInt8) (draws : List UInt8) (x y : Int) : jnB W H l 2 draws x y = decide (cntTo (blackB W H l) x y 16 < 8) := rfl
theorem jnB_3 (W H : Nat) (l : List UInt8) (draws : List UInt8) (x y : Int) : jnB W H l 3 draws x y = bitAt draws (y * (W + 1) + x).toNat := rfl

theorem pic_of (W H : Nat) (l : List UInt8) (hw : W ≤ 32) (hh : H ≤ 32) : Pic (blackB W H l) W H where
  box x y h := by
    by_cases hb : 0 ≤ x ∧ 0 ≤ y ∧ x < W ∧ y < H
    · omega
    · rw [blackB_out W H l x y hb] at h; exact absurd h (by simp)
  w := by omega
  h := by omega

end Go.Proofs.Ytljfiefobnncaaa.Qm

/- blackAround, isDrawn, joins of package cycles. -/
namespace Go.Proofs.Ytljfiefobnncaaa
open Go.RowKit
attribute [local go_sem ↓] Go.wp_at_zero Go.wp_at_succ

/-- A box of three cells and one of two behind it stand; below them all is as it was. -/
def Bp (B : Nat) (a b c x y : Value) (w wr : World) : Prop :=
  wr.cell? ⟨B, 0, none⟩ = some a ∧ wr.cell? ⟨B, 1, none⟩ = some b ∧ wr.cell? ⟨B, 2, none⟩ = some c ∧ wr.cell? ⟨B + 1, 0, none⟩ = some x ∧ wr.cell? ⟨B + 1, 1, none⟩ = some y ∧ Below B w wr ∧ B + 1 < wr.heap.size
theorem Bp.on {B : Nat} {a b c x y : Value} {w wr w2 : World} (h : Bp B a b c x y w wr) (hb : Below wr.heap.size wr w2) : Bp B a b c x y w w2 := by
  obtain ⟨c0, c1, c2, c3, c4, hn, hz⟩ := h
  have hz' : B < wr.heap.size := by omega
  exact ⟨(hb.cell (p := ⟨B, 0, none⟩) hz').trans c0, (hb.cell (p := ⟨B, 1, none⟩) hz').trans c1, (hb.cell (p := ⟨B, 2, none⟩) hz').trans c2, (hb.cell (p := ⟨B + 1, 0, none⟩) hz).trans c3, (hb.cell (p := ⟨B + 1, 1, none⟩) hz).trans c4, hn.trans (hb.mono (Nat.le_of_lt hz')), Nat.lt_of_lt_of_le hz hb.size⟩
theorem Bp.new (w : World) (a b c x y : Value) (t u : TypeId) : Bp w.heap.size a b c x y w ((w.alloc (.cells #[a, b, c] t)).alloc (.cells #[x, y] u)) :=
  ⟨by simp, by simp, by simp, by simp [go_sem], by simp [go_sem], ((Below.refl _ _).alloc (Nat.le_refl _) _).alloc (by simp) _, by simp⟩
theorem Bp.alloc {B : Nat} {a b c x y : Value} {w wr : World} (h : Bp B a b c x y w wr) (o : Obj) : Bp B a b c x y w (wr.alloc o) := h.on ((Below.refl _ _).alloc (Nat.le_refl _) _)

set_option maxHeartbeats 2000000 in
theorem blackAround_any (W H : Nat) (s : ByteArray) (X Y : Int) (hx : 0 ≤ X ∧ X ≤ 100) (hy : 0 ≤ Y ∧ Y ≤ 100) (w : World) (hw2 : W ≤ 32) (hh2 : H ≤ 32) (hl : s.size = W * H) :
    Calls Try.prog 105 #[.agg #[.int .i64 W, .int .i64 H, .string s], .agg #[.int .i64 X, .int .i64 Y]] w fun e w' => e = .returned (.int .i64 (Qm.cntTo (Pm.blackB W H s.data.toList) X Y 16 : Nat)) ∧ Below w.heap.size w w' := by
  have HL := hid hl
  clear hl
  go_enter Try.func105, Try.ntmps105
  go_wp2
  go_loopw [5, 6] (fun n y wr => ∃ i : Nat, i ≤ 4 ∧ y = .int .i64 (Y - 2 + (i : Nat)) ∧ n = .int .i64 (Qm.cntTo (Pm.blackB W H s.data.toList) X Y (4 * i) : Nat) ∧ Bp w.heap.size (.int .i64 W) (.int .i64 H) (.string s) (.int .i64 X) (.int .i64 Y) w wr) (fun _ y _ => (Y + 5 - intOf y).toNat)
  case atStart => exact ⟨0, by omega, by simp, rfl, Bp.new ..⟩
  case round =>
    obtain ⟨i, hi, rfl, rfl, hB⟩ := hrel
    have HB := hid hB
    obtain ⟨c0, c1, c2, c3, c4, -, hz⟩ := hB
    by_cases hlt : i < 4
    · have hlt' : Y - 2 + (i : Int) ≤ Y + 1 := by omega
      go_wp2
      go_loopw [5, 7] (fun n x wr => ∃ j : Nat, j ≤ 4 ∧ x = .int .i64 (X - 2 + (j : Nat)) ∧ n = .int .i64 (Qm.cntTo (Pm.blackB W H s.data.toList) X Y (4 * i + j) : Nat) ∧ Bp w.heap.size (.int .i64 W) (.int .i64 H) (.string s) (.int .i64 X) (.int .i64 Y) w wr) (fun _ x _ => (X + 5 - intOf x).toNat)
      case atStart => exact ⟨0, by omega, by simp, rfl, HB.out⟩
      case round =>
        clear c0 c1 c2 c3 c4 hz HB
        obtain ⟨j, hj, rfl, rfl, hB⟩ := hrel
        have HB := hid hB
        obtain ⟨c0, c1, c2, c3, c4, -, hz⟩ := hB
        by_cases hj4 : j < 4
        · have hjt : X - 2 + (j : Int) ≤ X + 1 := by omega
          have hc := Qm.cntTo_le (Pm.blackB W H s.data.toList) X Y (4 * i + j)
          cases hq : Pm.blackB W H s.data.toList (X - 2 + (j : Nat)) (Y - 2 + (i : Nat))
          · have E := hid (Qm.cntTo_no (Pm.blackB W H s.data.toList) X Y i j hj4 hq)
            go_wp2_with (go_at_call 104; refine (isBlack_any W H s _ _ _ hw2 hh2 HL.out).mono ?_; rintro e w1 ⟨rfl, rfl⟩; rw [hq])
            go_roundw
            case rel => exact ⟨j + 1, by omega, by go_num, by rw [E.out], HB.out.alloc _⟩
            case measure => simp [intOf]; omega
          · have E := hid (Qm.cntTo_yes (Pm.blackB W H s.data.toList) X Y i j hj4 hq)
            go_wp2_with (go_at_call 104; refine (isBlack_any W H s _ _ _ hw2 hh2 HL.out).mono ?_; rintro e w1 ⟨rfl, rfl⟩; rw [hq])
            go_roundw
            case rel => exact ⟨j + 1, by omega, by go_num, by rw [E.out]; go_num, HB.out.alloc _⟩
            case measure => simp [intOf]; omega
        · have e4 : j = 4 := by omega
          subst e4
          go_wp2
          go_roundw
          case rel => exact ⟨i + 1, by omega, by go_num, rfl, HB.out⟩
          case measure => simp [intOf]; omega
    · have e4 : i = 4 := by omega
      subst e4
      go_wp2
      go_ret
      exact ⟨rfl, HB.out.2.2.2.2.2.1⟩
end Go.Proofs.Ytljfiefobnncaaa

/- isDrawn, joins of package cycles. -/
namespace Go.Proofs.Ytljfiefobnncaaa
open Go.RowKit
attribute [local go_sem ↓] Go.wp_at_zero Go.wp_at_succ

set_option maxHeartbeats 2000000 in
theorem isDrawn_any (W H : Nat) (s : ByteArray) (pol : Int) (draws : ByteArray) (spk : Int) (x y : Nat) (hx : x ≤ 100) (hy : y ≤ 100) (w : World) (hw2 : W ≤ 32) :
    Calls Try.prog 106 #[.agg #[.int .i64 W, .int .i64 H, .string s], .agg #[.int .i64 pol, .string draws, .int .i64 spk], .agg #[.int .i64 x, .int .i64 y]] w fun e w' => e = .returned (.bool (Pm.bitAt draws.data.toList ((y : Int) * (W + 1) + x).toNat)) ∧ Below w.heap.size w w' := by
  obtain ⟨k, hk⟩ : ∃ k : Nat, k = y * (W + 1) := ⟨_, rfl⟩
  have ek : (y : Int) * ((W : Int) + 1) = (k : Nat) := by rw [hk]; simp
  have hk2 : k ≤ 100 * 33 := by rw [hk]; exact Nat.mul_le_mul hy (by omega)
  rw [ek, show ((k : Int) + (x : Int)).toNat = k + x from by omega]
  clear hk
  by_cases hlt : k + x < draws.size
  · by_cases q : (draws[k + x].toNat : Int) = 49
    · have E := hid (Pm.bitAt_yes draws _ hlt q)
      go_enter Try.func106, Try.ntmps106
      go_wp2
      go_ret
      exact ⟨ret_bool E.out.symm, by go_grown⟩
    · have E := hid (Pm.bitAt_no draws _ hlt q)
      have b0 : ((draws[k + x].toNat : Int) == 49) = false := by simpa using q
      go_enter Try.func106, Try.ntmps106
      go_wp2
      go_ret
      exact ⟨ret_bool E.out.symm, by go_grown⟩
  · have E := hid (Pm.bitAt_out draws _ hlt)
    go_enter Try.func106, Try.ntmps106
    go_wp2
    go_ret
    exact ⟨ret_bool E.out.symm, by go_grown⟩

set_option maxHeartbeats 2000000 in
theorem joins_any (W H : Nat) (s : ByteArray) (pol : Nat) (draws : ByteArray) (spk : Int) (x y : Nat) (hp : pol ≤ 3) (hx : x ≤ 100) (hy : y ≤ 100) (w : World) (hw2 : W ≤ 32) (hh2 : H ≤ 32) (hl : s.size = W * H) :
    Calls Try.prog 96 #[.agg #[.int .i64 W, .int .i64 H, .string s], .agg #[.int .i64 pol, .string draws, .int .i64 spk], .agg #[.int .i64 x, .int .i64 y]] w fun e w' => e = .returned (.bool (Qm.jnB W H s.data.toList pol draws.data.toList x y)) ∧ Below w.heap.size w w' := by
  have HL := hid hl
  clear hl
  match pol, hp with
  | 0, _ =>
    go_enter Try.func96, Try.ntmps96
    go_wp2
    go_ret
    exact ⟨ret_bool (Qm.jnB_0 ..).symm, by go_grown⟩
  | 1, _ =>
    go_enter Try.func96, Try.ntmps96
    go_wp2
    go_ret
    exact ⟨ret_bool (Qm.jnB_1 ..).symm, by go_grown⟩
  | 2, _ =>
    go_enter Try.func96, Try.ntmps96
    go_wp2_with fail
    refine (blackAround_any W H s x y (by omega) (by omega) _ hw2 hh2 HL.out).mono ?_
    rintro e w1 ⟨rfl, hb⟩
    have hc := Qm.cntTo_le (Pm.blackB W H s.data.toList) x y 16
    go_wp2
    go_ret
    exact ⟨ret_bool (by show _ = Qm.jnB W H s.data.toList 2 draws.data.toList x y; rw [Qm.jnB_2]; simp; omega), Below.trans (b := _) (by go_grown) (hb.mono (by simp; omega))⟩
  | 3, _ =>
    go_enter Try.func96, Try.ntmps96
    go_wp2_with fail
    refine (isDrawn_any W H s 3 draws spk x y hx hy _ hw2).mono ?_
    rintro e w1 ⟨rfl, hb⟩
    go_wp2
    go_ret
    exact ⟨ret_bool (Qm.jnB_3 ..).symm, Below.trans (b := _) (by go_grown) (hb.mono (by simp; omega))⟩
end Go.Proofs.Ytljfiefobnncaaa
